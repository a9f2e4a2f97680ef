import PyProof.Rows.All
import Wide.All
import OpenK.AllK
import Wide.FinOn
import HandS.ForMost
import HandS.Exc
import HandS.TryOnly
import HandS.WordsExc
import HandS.IsInst
import HandS.ExcInit
import HandS.ExcSuper
import HandS.ExcField
import HandS.Nested
import KE.KExcSuper
import HandS.Defaults
import HandS.CallSlots
import HandS.MakeKwOnly
import HandS.OwnEq
import HandS.SlotsOwn
import HandS.More
import HandS.Walk
import KE.Datum
import HandS.Wide
import HandS.Head0
import HandS.Head1
import HandS.Head2
import HandS.HeadEnd
import HandS.HeadHook1
import HandS.HeadHook2
import KE.KStateDown
import KE.DataCmp
import HandS.Deep
import HandS.Codes
import HandS.DictComp
import HandS.Iter
import HandS.TryMany
import HandS.Zip
import HandS.Text
import HandS.FStr
import PySem.Challenge.RW_pairorder_k77_texts_of_amounts
set_option Elab.async false
set_option linter.all false
set_option maxRecDepth 100000
/-! What the laws of this program share: the reading's steps, the heap but for one object, the pool of draws. -/
namespace Pk
open PySem L2

/-! ### steps of a reading -/
section
variable {K : PySem.W.Frag} {σ : L2.St} {H : Hp} {Q : VK} {D : Ends} {ta tb te to ti : TE} {t u : TS} {tt tu : TT} {tr : TA} {i j : Nat} {v w : V} {a b : Int}
theorem r_seq (h : t { D with nx := u D } σ H) : tSeq t u D σ H := h
theorem r_nxt (h : D.nx σ H) : tNext D σ H := h
theorem r_asg {g : TG} (h : te σ H fun x H1 => g x σ H1 D.nx) : tAsg te g D σ H := h
theorem r_to {P : L2.St → Hp → Prop} (h : P (σ.set i (some v)) H) : gName i v σ H P := h
theorem r_for {wi : TI} {g : TG} (h : wi σ H fun J H1 => ∃ W : Nat → Nat → L2.St → Hp → Prop, (∃ m, W 0 m σ H1) ∧ ∀ i m σ H, W i m σ H →
    (J.stop i H ∧ D.nx σ H) ∨ (J.go i H ∧ ∃ N : L2.St → Hp → Prop, (∀ σ' H', N σ' H' → ∃ m', m' < m ∧ W (i + 1) m' σ' H') ∧ ∀ x H', J.yld i H x H' → g x σ H' fun σ2 H2 => t { D with nx := N, ct := N, bk := D.nx } σ2 H2)) : tFor wi g t D σ H := h
theorem r_lc {wi : TI} {g : TG} {vs : List Nat} (h : wi σ H fun J H1 => ∀ D, H1 D = none → ∃ W : Nat → Nat → Hp → Prop, (∃ m, W 0 m (upd H1 D (.lst []))) ∧ ∀ i m H, W i m H →
    (J.stop i H ∧ Q (.ref D) H) ∨ (J.go i H ∧ ∃ Nx : Hp → Prop, (∀ H', Nx H' → ∃ m', m' < m ∧ W (i + 1) m' H') ∧ ∀ x H', J.yld i H x H' → g x (wipe σ vs) H' fun σ2 H2 => wipe σ2 vs = wipe σ vs ∧ tt σ2 H2 fun b H3 =>
      if b = true then te σ2 H3 fun y H4 => ∃ acc, H4 D = some (.lst acc) ∧ acc.length < sizeLine ∧ Nx (upd H4 D (.lst (acc ++ [y]))) else Nx H3)) : tLc wi g tt te vs σ H Q := h
theorem r_tupI {R : It → Hp → Prop} (h : te σ H fun x H1 => ∃ l, x = .ref l ∧ (∃ xs, SqT K H1 l xs) ∧ R (Itt K l) H1) : iTup K te σ H R := h
theorem r_yes {P : Bool → Hp → Prop} (h : P true H) : tYes σ H P := h
theorem r_B {P : Bool → Hp → Prop} (h : te σ H fun x H1 => ∃ c, x = .bl c ∧ P c H1) : tB te σ H P := h
theorem r_rng1 {R : It → Hp → Prop} (h : tr σ H fun vs H1 => ∃ j : Int, vs = [.int j] ∧ -(2 ^ 62) ≤ j ∧ j < 2 ^ 62 ∧ R (Itr 0 j.toNat) H1) : iRng1 tr σ H R := h
theorem r_list {R : It → Hp → Prop} (h : te σ H fun x H1 => ∃ l, x = .ref l ∧ (∃ xs, SqL K H1 l xs) ∧ R (Itl K l) H1) : iList K te σ H R := h
theorem r_ret (h : te σ H D.rt) : tRet te D σ H := h
theorem r_drop (h : te σ H fun _ H1 => D.nx σ H1) : tDrop te D σ H := h
theorem r_ifs (h : tt σ H fun c H1 => if c = true then t D σ H1 else u D σ H1) : tIfS tt t u D σ H := h
theorem r_var (e : σ[i]? = some (some v)) (h : Q v H) : tVar i σ H Q := ⟨v, e, h⟩
theorem r_c (h : Q v H) : tC v σ H Q := h
theorem r_op {r : R2} (h : ta σ H fun x H1 => tb σ H1 fun y H2 => r x y H2 Q) : tOp r ta tb σ H Q := h
theorem r_un {r : V → Hp → VK → Prop} (h : ta σ H fun x H1 => r x H1 Q) : tUn r ta σ H Q := h
theorem r_U {g : Int → V} (h : Q (g a) H) : rU g (.int a) H Q := ⟨a, rfl, h⟩
theorem r_make {C : Addr} {sp : Sp} {dvs : List V} {E : XK} (h : tr σ H fun vs H1 => ∀ x dx, H1 x = none → H1 dx = none → dx ≠ x → sp (.ref x :: (vs ++ dvs)) (upd (upd H1 dx (.own x)) x (.ins C dx [])) (fun v H2 => v = .non ∧ Q (.ref x) H2) E) : tMake C sp dvs E tr σ H Q := h
theorem r_cat {l m : Addr} {xs zs : List V} (hl : H l = some (.lst xs)) (hm : H m = some (.lst zs)) (hz : xs.length + zs.length ≤ sizeLine) (h : ∀ p, H p = none → Q (.ref p) (upd H p (.lst (xs ++ zs)))) : rCat (.ref l) (.ref m) H Q := ⟨l, m, xs, zs, rfl, rfl, hl, hm, hz, h⟩
theorem r_sum {l : Addr} {ns : List Int} (hl : SqL K H l (ns.map V.int)) (h : Q (.int ns.sum) H) : rSum K [.ref l] H Q := ⟨l, ns, rfl, hl, h⟩
theorem r_I0 {g : Int → Int → V} (h : Q (g a b) H) : rI0 g (.int a) (.int b) H Q := ⟨a, b, rfl, rfl, h⟩
theorem r_I {C : Int → Int → Prop} {g : Int → Int → V} (c : C a b) (h : Q (g a b) H) : rI C g (.int a) (.int b) H Q := ⟨a, b, rfl, rfl, c, h⟩
theorem r_mod (c : 0 < b) (h : Q (.int (a % b)) H) : rI (fun _ j => 0 < j) (fun i j => .int (i % j)) (.int a) (.int b) H Q := r_I c h
theorem r_div (c : 0 < b) (d : b < 1073741824) (h : Q (.int (a / b)) H) : rI CDiv (fun i j => .int (i / j)) (.int a) (.int b) H Q := r_I ⟨c, d⟩ h
theorem r_mulL (c : -(2 ^ 64) < a) (d : a < 2 ^ 64) (h : Q (.int (a * b)) H) : rI CMul (fun i j => .int (i * j)) (.int a) (.int b) H Q := r_I (.inl ⟨c, d⟩) h
theorem r_mulR (c : -(2 ^ 64) < b) (d : b < 2 ^ 64) (h : Q (.int (a * b)) H) : rI CMul (fun i j => .int (i * j)) (.int a) (.int b) H Q := r_I (.inr ⟨c, d⟩) h
theorem r_pow (c : 0 ≤ b) (d : b ≤ 1000000) (e : a.natAbs < 2 ^ 64) (h : Q (.int (a ^ b.toNat)) H) : rI CPow (fun i j => .int (i ^ j.toNat)) (.int a) (.int b) H Q := r_I ⟨c, d, e⟩ h
theorem r_ixL {p : Addr} {xs : List V} (hs : SqL K H p xs) (he : atI xs a = some v) (h : Q v H) : rIxL K (.ref p) (.int a) H Q := ⟨p, xs, a, v, rfl, rfl, hs, he, h⟩
theorem r_ixT {p : Addr} {xs : List V} (hs : SqT K H p xs) (he : atI xs a = some v) (h : Q v H) : rIxT K (.ref p) (.int a) H Q := ⟨p, xs, a, v, rfl, rfl, hs, he, h⟩
theorem r_sub {s : TSet} {P : L2.St → Hp → Prop} (h : to σ H fun o H1 => ti σ H1 fun k H2 => s o k v H2 fun H3 => P σ H3) : gSub to ti s v σ H P := h
theorem r_setL {p : Addr} {xs : List V} {P : Hp → Prop} (hp : H p = some (.lst xs)) (hj : ixN xs.length a = some j) (h : P (upd H p (.lst (xs.set j v)))) : rSetL (.ref p) (.int a) v H P := ⟨p, xs, a, j, rfl, rfl, hp, hj, h⟩
theorem r_nil {R : List V → Hp → Prop} (h : R [] H) : tNil σ H R := h
theorem r_cons {R : List V → Hp → Prop} (h : ta σ H fun x H1 => tr σ H1 fun xs H2 => R (x :: xs) H2) : tCons ta tr σ H R := h
theorem r_cb {r : List V → Hp → VK → Prop} (h : tr σ H fun vs H1 => r vs H1 Q) : tCB r tr σ H Q := h
theorem r_call {sp : Sp} {dvs : List V} {E : XK} (h : tr σ H fun vs H1 => sp (vs ++ dvs) H1 Q E) : tCall sp dvs E tr σ H Q := h
theorem r_sl {r : V → Option Int → Option Int → Hp → VK → Prop} {tl th : TO} (h : te σ H fun x H1 => tl σ H1 fun l H2 => th σ H2 fun u H3 => r x l u H3 Q) : tSl r te tl th σ H Q := h
theorem r_noP {P : Option Int → Hp → Prop} (h : P none H) : tNoPart σ H P := h
theorem r_part {P : Option Int → Hp → Prop} (h : te σ H fun x H1 => ∃ i, x = .int i ∧ P (some i) H1) : tPart te σ H P := h
theorem r_isI {P : Int → Prop} (h : P a) : ∃ i, V.int a = .int i ∧ P i := ⟨a, rfl, h⟩
theorem r_lst (h : tr σ H fun xs H1 => xs.length ≤ sizeLine ∧ ∀ p, H1 p = none → Q (.ref p) (upd H1 p (.lst xs))) : tLst tr σ H Q := h
theorem r_tup (h : tr σ H fun xs H1 => xs.length ≤ sizeLine ∧ ∀ p, H1 p = none → Q (.ref p) (upd H1 p (.tup xs))) : tTup tr σ H Q := h
theorem r_test {P : Bool → Hp → Prop} (h : te σ H fun x H' => ∃ k, x = .bl k ∧ P k H') : tTest te σ H P := h
theorem r_and {P : Bool → Hp → Prop} (h : tt σ H fun c H1 => if c = true then tu σ H1 P else P false H1) : tAnd tt tu σ H P := h
theorem r_or {P : Bool → Hp → Prop} (h : tt σ H fun c H1 => if c = true then P true H1 else tu σ H1 P) : tOr tt tu σ H P := h
theorem r_not {P : Bool → Hp → Prop} (h : tt σ H fun c H1 => P (!c) H1) : tNot tt σ H P := h
theorem r_bl {P : Bool → Prop} {k : Bool} (h : P k) : ∃ c, V.bl k = .bl c ∧ P c := ⟨k, rfl, h⟩
theorem r_eq (hs : scal v w = true) (h : Q (.bl (decide (v = w))) H) : rEq v w H Q := ⟨hs, h⟩
theorem r_eqT (hs : scal v v = true) (h : Q (.bl true) H) : rEq v v H Q := ⟨hs, by rw [decide_eq_true (rfl : v = v)]; exact h⟩
theorem r_andV (h : ta σ H fun x H1 => ∃ c, x = .bl c ∧ if c = true then tb σ H1 Q else Q (.bl false) H1) : tAndV ta tb σ H Q := h
theorem r_orV (h : ta σ H fun x H1 => ∃ c, x = .bl c ∧ if c = true then Q (.bl true) H1 else tb σ H1 Q) : tOrV ta tb σ H Q := h
theorem r_notV (h : ta σ H fun x H1 => ∃ c, x = .bl c ∧ Q (.bl (!c)) H1) : tNotV ta σ H Q := h
theorem r_ne (hs : scal v w = true) (h : Q (.bl (!decide (v = w))) H) : rNe v w H Q := ⟨hs, h⟩
theorem ite_nF {A B : Prop} (h : A) : if (!false) = true then A else B := by rw [show (!false) = true from rfl, if_pos rfl]; exact h
theorem ite_nT {A B : Prop} (h : B) : if (!true) = true then A else B := by rw [show (!true) = false from rfl, if_neg Bool.false_ne_true]; exact h
theorem ite_no {c : Prop} [Decidable c] {A B : Prop} (h1 : c → A) (h2 : ¬ c → B) : if (!decide c) = true then B else A := by
  by_cases h : c
  · rw [decide_eq_true h]; exact h1 h
  · rw [decide_eq_false h]; exact h2 h
theorem ite_dec {c : Prop} [Decidable c] {A B : Prop} (h1 : c → A) (h2 : ¬ c → B) : if decide c = true then A else B := by
  by_cases h : c
  · rw [decide_eq_true h, if_pos rfl]; exact h1 h
  · rw [decide_eq_false h, if_neg Bool.false_ne_true]; exact h2 h
end

/-! ### built-ins by readings with a name -/
def rIs0 : R2 := fun x y H Q => y = .non ∧ Q (.bl (decide (x = .non))) H
def rIs1 : R2 := fun x y H Q => y = .non ∧ Q (.bl (!decide (x = .non))) H
theorem op_is0 {X : Cx} : OpR X (compareOp .Is) rIs0 := op_isN
theorem op_is1 {X : Cx} : OpR X (compareOp .IsNot) rIs1 := op_notN
theorem r_is0 {x : V} {H : Hp} {Q : VK} (h : Q (.bl (decide (x = .non))) H) : rIs0 x .non H Q := ⟨rfl, h⟩
theorem r_is1 {x : V} {H : Hp} {Q : VK} (h : Q (.bl (!decide (x = .non))) H) : rIs1 x .non H Q := ⟨rfl, h⟩
def rInt : List V → Hp → VK → Prop := fun xs H Q => ∃ n, xs = [.int n] ∧ Q (.int n) H
def rIntB : List V → Hp → VK → Prop := fun xs H Q => ∃ b, xs = [.bl b] ∧ Q (.int (if b then 1 else 0)) H
def rLen (K : PySem.W.Frag) : List V → Hp → VK → Prop := fun xs H Q => ∃ l ys, xs = [.ref l] ∧ (SqL K H l ys ∨ SqT K H l ys) ∧ Q (.int ys.length) H
theorem cl_int {X : Cx} : CallR X (.type "int") rInt := fun pins s σ H xs us Q I r h => by
  obtain ⟨n, e, q⟩ := h
  exact call_int1 pins s σ H xs us Q I r (.inl ⟨n, e, q⟩)
theorem cl_intB {X : Cx} : CallR X (.type "int") rIntB := fun pins s σ H xs us Q I r h => by
  obtain ⟨b, e, q⟩ := h
  exact call_int1 pins s σ H xs us Q I r (.inr ⟨b, e, q⟩)
def rTupOf (K : PySem.W.Frag) : List V → Hp → VK → Prop := fun xs H Q => ∃ l ys, xs = [.ref l] ∧ SqL K H l ys ∧ ∀ q, H q = none → Q (.ref q) (upd H q (.tup ys))
def rLstOf (K : PySem.W.Frag) : List V → Hp → VK → Prop := fun xs H Q => ∃ l ys, xs = [.ref l] ∧ (SqL K H l ys ∨ SqT K H l ys) ∧ ∀ q, H q = none → Q (.ref q) (upd H q (.lst ys))
theorem cl_tup {X : Cx} : CallR X (.type "tuple") (rTupOf X.K) := fun pins s σ H xs us Q I r h => by
  obtain ⟨l, ys, e, hs, q⟩ := h
  exact call_tuple_of pins s σ H xs us Q I r ⟨l, ys, e, .inl ⟨hs, q⟩⟩
theorem cl_lst {X : Cx} : CallR X (.type "list") (rLstOf X.K) := fun pins s σ H xs us Q I r h => call_list_of pins s σ H xs us Q I r h
theorem cl_len {X : Cx} : CallR X (.builtin "len") (rLen X.K) := fun pins s σ H xs us Q I r h => call_len_seq pins s σ H xs us Q I r h
section
variable {K : PySem.W.Frag} {H : Hp} {Q : VK} {l : Addr} {ys : List V}
theorem r_int {n : Int} (h : Q (.int n) H) : rInt [.int n] H Q := ⟨n, rfl, h⟩
theorem r_intB {b : Bool} (h : Q (.int (if b then 1 else 0)) H) : rIntB [.bl b] H Q := ⟨b, rfl, h⟩
theorem r_tupOf (hs : SqL K H l ys) (h : ∀ q, H q = none → Q (.ref q) (upd H q (.tup ys))) : rTupOf K [.ref l] H Q := ⟨l, ys, rfl, hs, h⟩
theorem r_lstOf (hs : SqL K H l ys) (h : ∀ q, H q = none → Q (.ref q) (upd H q (.lst ys))) : rLstOf K [.ref l] H Q := ⟨l, ys, rfl, .inl hs, h⟩
theorem r_lenL (hs : SqL K H l ys) (h : Q (.int ys.length) H) : rLen K [.ref l] H Q := ⟨l, ys, rfl, .inl hs, h⟩
theorem r_lenT (hs : SqT K H l ys) (h : Q (.int ys.length) H) : rLen K [.ref l] H Q := ⟨l, ys, rfl, .inr hs, h⟩
end

/-! ### the heap but for one object -/
/-- all that was tracked, the object at p aside, is as it was -/
def Keep (p : Addr) (H H' : Hp) : Prop := ∀ b o, b ≠ p → H b = some o → H' b = some o
section
variable {p q : Addr} {H H' H1 H2 : Hp} {o u : HO}
theorem Keep.refl : Keep p H H := fun _ _ _ h => h
theorem Keep.trans (a : Keep p H H1) (b : Keep p H1 H2) : Keep p H H2 := fun c o n h => b c o n (a c o n h)
theorem Keep.own (a : Keep p H H1) : Keep p H (upd H1 p o) := fun c v n h => by rw [upd_ne n]; exact a c v n h
theorem Keep.new (a : Keep p H H1) (hq : H1 q = none) : Keep p H (upd H1 q o) := fun c v n h => by
  have e := a c v n h
  rw [upd_ne (ne_of_none e hq)]; exact e
theorem Keep.same (s : Same H H1) : Keep p H H1 := fun c v _ h => s c v h
theorem Keep.seq {K : PySem.W.Frag} (a : Keep p H H1) {l : Addr} {xs : List V} (n : l ≠ p) (h : SqL K H l xs) : SqL K H1 l xs := by
  rcases h with (h | ⟨v, h⟩) | h
  · exact .inl (.inl (a l _ n h))
  · exact .inl (.inr ⟨v, a l _ n h⟩)
  · exact .inr h
theorem Same.up (s : Same H H1) (hq : H1 q = none) : Same H (upd H1 q o) := fun c v h => by
  have e := s c v h
  rw [upd_ne (ne_of_none e hq)]; exact e
end

/-! ### the pool of draws: at p a list of the cells' list (at c) and four ints -/
def PoolAt (H : Hp) (p c : Addr) (ns : List Int) : Prop :=
  ∃ a b s n : Int, 0 ≤ a ∧ H p = some (.lst [.ref c, .int a, .int b, .int s, .int n]) ∧ H c = some (.lst (ns.map V.int))
theorem PoolAt.ne {H : Hp} {p c : Addr} {ns : List Int} (h : PoolAt H p c ns) : c ≠ p := by
  obtain ⟨a, b, s, n, _, h1, h2⟩ := h
  intro e
  rw [e, h1] at h2
  cases ns with
  | nil => cases h2
  | cons x r =>
    have z := HO.lst.inj (Option.some.inj h2)
    rw [List.map_cons] at z
    cases (List.cons.inj z).1
/-- a store into one of its places -/
theorem PoolAt.put {H : Hp} {p c : Addr} {ns : List Int} {a b s n : Int} (ha : 0 ≤ a) (hc : H c = some (.lst (ns.map V.int))) (ne : c ≠ p) :
    PoolAt (upd H p (.lst [.ref c, .int a, .int b, .int s, .int n])) p c ns := ⟨a, b, s, n, ha, upd_same, by rw [upd_ne ne]; exact hc⟩

theorem later {H : Hp} {a q : Addr} {o u : HO} (h : H a = some o) (hq : H q = none) : upd H q u a = some o := by
  rw [upd_ne (ne_of_none h hq)]; exact h
theorem PoolAt.new {H : Hp} {p c q : Addr} {ns : List Int} {o : HO} (h : PoolAt H p c ns) (hq : H q = none) : PoolAt (upd H q o) p c ns := by
  obtain ⟨a, b, z, n, ha, hP, hC⟩ := h
  exact ⟨a, b, z, n, ha, later hP hq, later hC hq⟩
theorem PoolAt.apart {H : Hp} {p c q : Addr} {ns : List Int} (h : PoolAt H p c ns) (hq : H q = none) : q ≠ p := by
  obtain ⟨a, b, z, n, ha, hP, hC⟩ := h
  exact fun e => by rw [e, hP] at hq; cases hq
theorem PoolAt.apartC {H : Hp} {p c q : Addr} {ns : List Int} (h : PoolAt H p c ns) (hq : H q = none) : q ≠ c := by
  obtain ⟨a, b, z, n, ha, hP, hC⟩ := h
  exact fun e => by rw [e, hC] at hq; cases hq
theorem log_small {i : Int} (h : -8 < i ∧ i < 8) : i.natAbs.log2 < 1920 := by
  have e : i.natAbs < 8 := by omega
  exact Nat.lt_of_le_of_lt (Nat.log2_le_self _) (by omega)
/-- _law_mixed(pool, cell) -/
def spMix : Sp := fun vs H Q _ => ∃ (p c : Addr) (ns : List Int) (x : Int), vs = [.ref p, .int x] ∧ PoolAt H p c ns ∧
  ∀ (r : Int) (H' : Hp), 0 ≤ r → Keep p H H' → PoolAt H' p c ns → Q (.int r) H'
/-- _law_draw(pool, size) -/
def spDraw : Sp := fun vs H Q _ => ∃ (p c : Addr) (ns : List Int) (z : Int), vs = [.ref p, .int z] ∧ PoolAt H p c ns ∧ 0 < z ∧ z < 1073741824 ∧
  ∀ (r : Int) (H' : Hp), 0 ≤ r → r < z → Keep p H H' → PoolAt H' p c ns → Q (.int r) H'
/-- _law_number(pool, parts) -/
def spNum : Sp := fun vs H Q _ => ∃ (p c : Addr) (ns : List Int) (k : Int), vs = [.ref p, .int k] ∧ PoolAt H p c ns ∧ 0 ≤ k ∧ k ≤ 1000 ∧
  ∀ (r : Int) (H' : Hp), 0 ≤ r → r < 1000000 ^ k.toNat → Keep p H H' → PoolAt H' p c ns → Q (.int r) H'
/-- _law_pool(script) -/
def spPool (K : PySem.W.Frag) : Sp := fun vs H Q _ => ∃ (l : Addr) (ns : List Int), vs = [.ref l] ∧ SqL K H l (ns.map V.int) ∧ ns.length ≤ 63 ∧
  ∀ (p c : Addr) (H' : Hp), H p = none → H c = none → Same H H' → PoolAt H' p c ns → Q (.ref p) H'
theorem take_snoc {α : Type} : ∀ {l : List α} {i : Nat} {x : α}, l[i]? = some x → l.take (i + 1) = l.take i ++ [x]
  | [], i, x, h => by simp at h
  | a :: l, 0, x, h => by
    have e : a = x := Option.some.inj h
    rw [e]; rfl
  | a :: l, i + 1, x, h => by
    have ih := take_snoc (l := l) (i := i) (x := x) h
    rw [List.take_succ_cons, ih]; rfl
theorem ixN_last {α : Type} (xs : List α) (v : α) : ixN (xs ++ [v]).length (-1) = some xs.length := by
  have hl : (xs ++ [v]).length = xs.length + 1 := by simp
  unfold ixN
  rw [hl, if_neg (by decide), if_pos (by omega)]
  congr 1
  omega
theorem ixN_nat {n j : Nat} (h : j < n) : ixN n (j : Int) = some j := by
  unfold ixN
  rw [if_pos (by omega), if_pos (by omega)]
  simp
theorem set_last {α : Type} (xs : List α) (v u : α) : (xs ++ [v]).set xs.length u = xs ++ [u] := by simp
theorem cut_all {xs : List V} {n : Nat} (h : xs.length ≤ n) : cutV xs none (some (n : Int)) = xs := by
  have e1 : HT.sIx xs.length 0 none = 0 := rfl
  have e2 : HT.sIx xs.length xs.length (some (n : Int)) = xs.length := by
    rw [HT.sIx_nat]
    exact Nat.min_eq_right h
  unfold cutV
  rw [e1, e2, Nat.sub_zero, List.drop_zero, List.take_length]
end Pk
set_option Elab.async false
set_option linter.all false
set_option maxRecDepth 100000
set_option maxHeartbeats 1000000
/-! Error classes two steps below ArithmeticError, made by an __init__ that calls super().__init__ first and then stores fields. -/
namespace Pk
open PySem L2 PySem.Spec PyProof.Rows
abbrev arT : List Value := [.type "ArithmeticError", .type "Exception", .type "BaseException", .type "object"]
theorem arT_has {C pe : Addr} {z : String} (h : arT.contains (.type z) = true) : (Value.ref C :: .ref pe :: arT).contains (.type z) = true := by
  rw [List.contains_cons, List.contains_cons, h, Bool.or_true, Bool.or_true]
theorem arT_same {pe : Addr} (z : String) : (Value.ref pe :: arT).contains (.type z) = arT.contains (.type z) := by
  rw [List.contains_cons]
  simp
section
open PySem.W PySem.Calls Builtin Builtin.ObjectAttr
variable {prog : Program} {w : World} {A : Around} {R : Result → Shared → Prop} {hp : Heap} {g : Array GenState} {dn : Drawn} {tk : Nat} {os : OsState} {K : W.Frag} {nm : Str} {nt : Tok} {v : Value} {x C pe : Addr} {cd : ClassData}
/-- object.__setattr__ of such an error, up to the store in its own dict -/
theorem sa_head {ox : Obj} {od : Option Obj} (kin : K.In hp) (inst : W.InstAt hp x ox C od) (hcd : W.clsIn K C = some cd) (mro : cd.mro = .ref C :: .ref pe :: arT) (free : W.findIn K (.ref C) nm = some none)
    (go : wpAny (model prog w) A.in1 (storeInOwnDict (.ref x) (.ref C) (.str nm nt) nm v false) (fun fn st => match fn with
        | .done r => R (.ok r) st
        | .again c => c.quiet = true ∧ codeAny (model prog w) A c R st) (fun er st => R (.error er) st) ⟨hp, g, dn, tk, os⟩) :
    codeAny (model prog w) A (.call (.builtin "object.__setattr__") ⟨[.ref x, .str nm nt, v], []⟩) R ⟨hp, g, dn, tk, os⟩ := by
  have so := PySem.F.store_object
  have isO : W.mroIn K C (.type "object") = some true := by
    unfold W.mroIn
    rw [hcd, Option.bind_some, mro, if_neg (show ¬ (List.isEmpty (Value.ref C :: .ref pe :: arT) = true) from Bool.false_ne_true), arT_has (by decide +kernel)]
  have below : W.Looks (model prog w) hp (isInstance (.ref x) (.type "object")) true := inst.type.andThen (W.looks_mroIn kin isO)
  have line : W.Looks (model prog w) hp (mroOf (.ref C)) cd.mro := (W.looks_clsIn kin hcd).andThen .now
  have loop : refuseLoop (.ref x) "__setattr__" cd.mro = pure () := by
    rw [mro, refuseLoop_ref, refuseLoop_ref]
    exact PySem.F.store_ArithmeticError.passes _
  have no3 : W.Looks (model prog w) hp (storeTaker? none) none := .now
  refine codeAny_call_builtin so.slot.plain so.entry (@W.check_slot (model prog w) _ _ ⟨hp, g, dn, tk, os⟩ "object.__setattr__" "object" "__setattr__" (.ref x) [.str nm nt, v] [] _ so.kind so.split below (so.args (.ref x) (.str nm nt) v) ?_)
  rw [W.osa_eq, refuse_eq]
  refine wpAny_bind (wpAny_bind (inst.type.at (wpAny_bind (line.at ?_)))); rw [loop]
  exact wpAny_pure (wpAny_bind (inst.type.at (wpAny_bind ((W.looks_findIn kin free).at (wpAny_bind (no3.at go))))))
/-- the first field: the dict is made -/
theorem sa_first {fv : Array Value} (kin : K.In hp) (hx : hp.get? x = some { cls := .ref C, data := .fields fv }) (hcd : W.clsIn K C = some cd) (mro : cd.mro = .ref C :: .ref pe :: arT) (hasD : cd.hasDict = true) (free : W.findIn K (.ref C) nm = some none)
    (done : ∀ h2 t2 dx, (∀ b o, b ≠ x → hp.get? b = some o → h2.get? b = some o) → hp.objs.size ≤ dx → dx ≠ x → h2.get? x = some { cls := .ref C, dict := some dx, data := .fields fv } →
      h2.Ns1 dx (fun y => if y = nm then some v else none) → R (.ok (.ret .none)) ⟨h2, g, dn, t2, os⟩) :
    codeAny (model prog w) A (.call (.builtin "object.__setattr__") ⟨[.ref x, .str nm nt, v], []⟩) R ⟨hp, g, dn, tk, os⟩ := by
  have away : x ≠ hp.objs.size := Nat.ne_of_lt (Heap.lt_size hx)
  refine sa_head kin (ox := { cls := .ref C, data := .fields fv }) (od := none) ⟨hx, rfl, rfl, trivial⟩ hcd mro free ?_
  have look : W.Looks (model prog w) hp (classData C) cd := W.looks_clsIn kin hcd
  obtain ⟨c1, c2, c3, c4, c5, hd, c7, c8, c9, c10, c11⟩ := cd
  dsimp only at hasD
  subst hasD
  unfold storeInOwnDict ownDictForStores
  repeat (first | with_reducible refine HandSPX.store_in_new ?_ ?_ | with_reducible refine wpAny_loadPart_at hx ?_ | with_reducible refine look.at ?_ | wp_step)
  · exact ⟨_, #[], _, (Heap.get?_update_ne _ _ _ _ away.symm).trans (Heap.get?_push_at rfl rfl), rfl, fun e he => absurd he (by simp), fun _ => rfl⟩
  · intro h2 t2 ns sb
    have pushed : (hp.push { cls := .type "dict", data := .dict #[] }).get? x = some { cls := .ref C, data := .fields fv } := Heap.get?_push_of_some _ hx
    exact done h2 t2 hp.objs.size (fun b o hb ho => (sb.2 b (Nat.ne_of_lt (Heap.lt_size ho))).trans ((Heap.get?_update_ne _ _ _ _ hb).trans (Heap.get?_push_of_some _ ho))) (Nat.le_refl _) away.symm ((sb.2 x away).trans (Heap.get?_update_self _ pushed rfl)) ns
/-- a further field -/
theorem sa_more {fv : Array Value} {dx : Addr} {m0 : Str → Option Value} {nl : List Str} (kin : K.In hp) (hx : hp.get? x = some { cls := .ref C, dict := some dx, data := .fields fv }) (ns : hp.Ns1 dx m0) (wi : Within m0 nl) (few : nl.length ≤ 1000)
    (hcd : W.clsIn K C = some cd) (mro : cd.mro = .ref C :: .ref pe :: arT) (hasD : cd.hasDict = true) (free : W.findIn K (.ref C) nm = some none)
    (done : ∀ h2 t2, (∀ b o, b ≠ dx → hp.get? b = some o → h2.get? b = some o) → h2.Ns1 dx (fun y => if y = nm then some v else m0 y) → R (.ok (.ret .none)) ⟨h2, g, dn, t2, os⟩) :
    codeAny (model prog w) A (.call (.builtin "object.__setattr__") ⟨[.ref x, .str nm nt, v], []⟩) R ⟨hp, g, dn, tk, os⟩ := by
  obtain ⟨oD, _, _, hoD, _, _⟩ := ns.count wi
  refine sa_head kin (ox := { cls := .ref C, dict := some dx, data := .fields fv }) (od := some oD) ⟨hx, rfl, rfl, hoD⟩ hcd mro free ?_
  have look : W.Looks (model prog w) hp (classData C) cd := W.looks_clsIn kin hcd
  obtain ⟨c1, c2, c3, c4, c5, hd, c7, c8, c9, c10, c11⟩ := cd
  dsimp only at hasD
  subst hasD
  unfold storeInOwnDict ownDictForStores
  repeat (first | with_reducible refine PySem.ESX.store_in_old ns wi few ?_ | with_reducible refine wpAny_loadPart_at hx ?_ | with_reducible refine look.at ?_ | wp_step)
  exact fun h2 t2 n2 sb => done h2 t2 (fun b o hb ho => (sb.2 b hb).trans ho) n2
end

/-- what the written part says of an error class at C -/
structure ErrC (K : PySem.W.Frag) (C : Addr) : Prop where
  cls : ∃ pe nm q N bs sn sub ab col dd k0 k1 k2 k3 k5, K.lookup C = some (excClassObj nm q C N bs (.ref pe :: arT) true sn sub ab col dd k0 k1 k2 k3 k5 "ArithmeticError.__new__")
  sa : PySem.W.findIn K (.ref C) "__setattr__" = some (some (.builtin "object.__setattr__"))
  exB : PySem.W.subIn K (.ref C) (.type "BaseException") = some true
  exA : PySem.W.subIn K (.ref C) (.type "ArithmeticError") = some true
  ty : PySem.W.typeIn K (.ref C) = some (.type "type")
  kp : PySem.W.keepIn K (.ref C) = true
section
variable {X : Cx} {pins : List (Addr × Obj)} {σ : L2.St} {H : Hp} {s : Shared} {a C dx : Addr} {f : Str} {y : V} {u : Value} {fs : List (Str × V)} {Q : Unit → Shared → Prop} {E : Value → Shared → Prop} {A : Around}
theorem ErrC.data {K : PySem.W.Frag} (T : ErrC K C) : ∃ pe cd, PySem.W.clsIn K C = some cd ∧ cd.mro = .ref C :: .ref pe :: arT ∧ cd.hasDict = true := by
  obtain ⟨pe, nm, q, N, bs, sn, sub, ab, col, dd, k0, k1, k2, k3, k5, hC⟩ := T.cls
  exact ⟨pe, { name := nm, bases := bs, mro := .ref C :: .ref pe :: arT, ns := N, qualname := q, hasDict := true, slotNames := sn, subclasses := sub, abstract := ab, collection := col, hasDel := false }, by unfold PySem.W.clsIn; rw [hC] <;> rfl, rfl, rfl⟩
theorem not_at {H : Hp} {b c : Addr} {o : HO} (h : H b = some o) (n : H c = none) : c ≠ b := fun z => by
  rw [z, h] at n
  cases n
/-- self.f = y where the error has no dict as yet -/
theorem err_first (T : ErrC X.K C) (I : Inv X pins σ H s) (e : H a = some (exo a C none)) (free : PySem.W.findIn X.K (.ref C) f = some none) (ry : RelV y u)
    (go : ∀ dx st, H dx = none → dx ≠ a → Inv X pins σ (upd (upd H dx (exd dx [(f, y)])) a (exo a C (some dx))) st → Q () st) : wpAny (model X.prog X.w) A (setAttr (.ref a) f u) Q E s := by
  obtain ⟨pe, cd, hcl, hm, hh⟩ := T.data
  obtain ⟨t1, ho⟩ := exo_at I.hok e
  obtain ⟨hp, g, d, t, os⟩ := s
  refine PySem.W.set_plain I.kIn (od := none) (ox := { cls := .ref C, dict := none, data := .fields #[.ref t1, .none, .none, .none, .bool false, .none] }) ⟨ho, rfl, rfl, trivial⟩ T.sa (sa_first I.kIn ho hcl hm hh free fun h2 t2 dx k lt ne hx hn => ?_)
  have hnd : H dx = none := I.hok.fresh lt
  have old : ∀ {b : Addr} {o : Obj}, hp.get? b = some o → b ≠ dx := fun {b o} q => Nat.ne_of_lt (Nat.lt_of_lt_of_le (Heap.lt_size q) lt)
  have stay : ∀ {b : Addr} {o : HO}, H b = some o → exo a C none ≠ o → upd (upd H dx (exd dx [(f, y)])) a (exo a C (some dx)) b = some o := fun {b o} q ne => by
    rw [upd_ne (at_ne e q ne), upd_ne (ne_of_none q hnd)]; exact q
  have U : Un X.fs [] H (upd (upd H dx (exd dx [(f, y)])) a (exo a C (some dx))) hp h2 := {
    keep := fun b o q n _ _ => k b o (not_at e n) q
    slot := fun b o q n _ _ => ⟨o.slots, k b o (not_at e n) q⟩
    free := fun b o q n _ => by rw [upd_ne (not_at e n), upd_ne (old q)]; exact n
    there := fun b o q _ => by
      by_cases hb : b = a
      · exact ⟨_, hb ▸ hx⟩
      · exact ⟨o, k b o hb q⟩
    tups := fun b xs q => stay q exo_tup
    frzs := fun b o v q => stay q exo_frz
    tbls := fun b ps q => ⟨#[], by rw [stay q exo_tbl]; simp⟩ }
  refine go dx _ hnd ne (I.un (t' := t2) U fun b o q => ?_)
  by_cases hb : b = a
  · subst hb; rw [upd_same] at q; cases q; exact exo_ok hx
  · rw [upd_ne hb] at q
    by_cases hd : b = dx
    · subst hd; rw [upd_same] at q; cases q
      exact exd_ok hn (relO_put (fs := []) ry fun _ => True.intro)
    · rw [upd_ne hd] at q
      refine (I.hok b o q).stay (fun c v hc z => k c v ?_ z) (fun c hc => stay hc exo_own) fun c xs hc => stay hc exo_tup
      rcases hc with hc | hc
      · exact hc ▸ hb
      · exact at_ne e hc exo_own
/-- self.f = y, a further field -/
theorem err_more (T : ErrC X.K C) (I : Inv X pins σ H s) (e : H a = some (exo a C (some dx))) (ed : H dx = some (exd dx fs)) (few : fs.length ≤ 900) (free : PySem.W.findIn X.K (.ref C) f = some none) (ry : RelV y u)
    (go : ∀ st, Inv X pins σ (upd H dx (exd dx ((f, y) :: fs))) st → Q () st) : wpAny (model X.prog X.w) A (setAttr (.ref a) f u) Q E s := by
  obtain ⟨pe, cd, hcl, hm, hh⟩ := T.data
  obtain ⟨t1, ho⟩ := exo_at I.hok e
  obtain ⟨mA, hns, rel⟩ := exd_at I.hok ed
  have hw := within_of rel
  obtain ⟨hp, g, d, t, os⟩ := s
  obtain ⟨oD, _, _, hoD, _, _⟩ := hns.count hw
  refine PySem.W.set_plain I.kIn (od := some oD) (ox := { cls := .ref C, dict := some dx, data := .fields #[.ref t1, .none, .none, .none, .bool false, .none] }) ⟨ho, rfl, rfl, hoD⟩ T.sa (sa_more I.kIn ho hns hw (by rw [List.length_map]; omega) hcl hm hh free fun h2 t2 k hn => ?_)
  have there : ∃ o, h2.get? dx = some o := ⟨_, hn.choose_spec.choose_spec.choose_spec.1⟩
  exact go _ (I.write (t' := t2) (x := dx) (e := dx) (o := exd dx ((f, y) :: fs)) (by rw [ed]; exact True.intro) (.inl rfl) k there (exd_ok hn (relO_put ry rel)))
end
/-- self.f = e in the __init__ of such an error -/
def tErrSet (K : PySem.W.Frag) (f : Str) (to te : TE) : TS := fun D σ H => te σ H fun y H1 => to σ H1 fun x H2 => ∃ a C : Addr, x = .ref a ∧ ErrC K C ∧ PySem.W.findIn K (.ref C) f = some none ∧
  ((H2 a = some (exo a C none) ∧ ∀ dx, H2 dx = none → dx ≠ a → D.nx σ (upd (upd H2 dx (exd dx [(f, y)])) a (exo a C (some dx)))) ∨
   (∃ (dx : Addr) (fs : List (Str × V)), H2 a = some (exo a C (some dx)) ∧ H2 dx = some (exd dx fs) ∧ fs.length ≤ 900 ∧ D.nx σ (upd H2 dx (exd dx ((f, y) :: fs)))))
theorem ps_errSet {X : Cx} {o e : Expr} {to te : TE} {f : Str} {p' pos : Pos} (ho : PE X o to) (he : PE X e te) (hs : swapsWith e (some (.Attribute o f p')) pos.line X.env = pure false := by rfl) : PS X (.Assign [.Attribute o f p'] e pos) (tErrSet X.K f to te) := by
  refine ⟨fun pins s σ H D I h => plainObj_wpAny_Assign_Attribute (thn (he.run pins s σ H _ I h) fun v s1 ⟨y, H1, I1, r1, q1⟩ => thn (ho.run pins s1 σ H1 _ I1 q1) fun u s2 ⟨x, H2, I2, r2, a, C, ex, T, free, q⟩ => ?_) hs⟩
  subst ex
  obtain rfl : u = Value.ref a := r2
  rcases q with ⟨ea, q⟩ | ⟨dx, fs, ea, ed, few, q⟩
  · exact err_first T I2 ea free r1 fun dx st n ne J => ⟨σ, _, J, q dx n ne⟩
  · exact err_more T I2 ea ed few free r1 fun st J => ⟨σ, _, J, q⟩
end Pk
set_option Elab.async false
set_option linter.all false
set_option maxRecDepth 100000
set_option maxHeartbeats 1000000
namespace Pk
open PySem L2 PySem.Spec PyProof.Rows
/-- the __init__ at fI of the error class at C: F its words, cc the cell of the class -/
structure InitFn (P : Program) (K : PySem.W.Frag) (C fI cc : Addr) (F : NdefX.NF) : Prop where
  fn : ∃ (oc : Value) (od : Option Addr) (kV doc pm : Value) (an : Option Addr) (ct : Value) (osl : Array (Option Value)), K.lookup fI = some ⟨oc, od, .func (PySem.W.fnX F.name F.qual F.params F.body F.scope F.cl .none kV doc pm an (.ref F.c) ct), osl⟩
  code : PySem.W.codeIn K (.ref F.c) F.qual = true
  cl : F.cl = [(("__class__" : Str), cc)]
  cell : ∃ (a : Value) (b : Option Addr) (c : Array (Option Value)), K.lookup cc = some ⟨a, b, .cell (some (.ref C)), c⟩
  file : ∃ (a : Value) (b : Option Addr) (vs : Array Value) (c : Array (Option Value)) (f : Str) (t : Tok), K.lookup F.c = some ⟨a, b, .fields vs, c⟩ ∧ vs[2]? = some (.str f t) ∧ ((P.main.file : Str) == f) = true
  top : (P.main.scope.names.lookup ("super" : Str)).isSome = false
  opq : PySem.W.nsIn K cStatics "thirdparty.any" = some none
  self : ∃ q, (F.params.posonlyargs ++ F.params.args).head? = some { arg := "self", annotation := none, pos := q }
  sup : PySem.W.ks_superIn K C C "__init__" = some (some (.builtin "ArithmeticError.__init__"))
  below : PySem.W.mroIn K C (.ref C) = some true
section
open PySem.W PySem.Calls
variable {P : Program} {w : World} {K : PySem.W.Frag} {mg : Str → Option Value} {base : Heap} {CX : CXT} {C fI cc : Addr} {F : NdefX.NF} {N ps : List Str} {A : Around} {outer : List Env} {s : Shared} {H : Hp} {Q : VK} {E : XK} {k : Nat}
/-- super().__init__(text): the error's own arguments are laid anew, nothing else is changed -/
theorem sup_init {X : Cx} {pins : List (Addr × Obj)} {σ : L2.St} {H : Hp} {s : Shared} {x u : Addr} {us : List Value} {Qv : Value → Shared → Prop} (T : ErrC X.K C) (I : Inv X pins σ H s) (ex : H x = some (exo x C none)) (hu : s.heap.get? u = some (kxs_mw "ArithmeticError.__init__" x)) (hz : us.length ≤ sizeLine)
    (go : ∀ st, Inv X pins σ H st → Qv .none st) : wpAny (model X.prog X.w) X.A (call (.ref u) us) Qv X.xe s := by
  obtain ⟨pe, nm, q, NN, bs, sn, sub, ab, col, dd, k0, k1, k2, k3, k5, hC⟩ := T.cls
  obtain ⟨t1, ho⟩ := exo_at I.hok ex
  have hC' := I.kIn _ _ hC
  have hE := PySem.F.excBase_ArithmeticError
  have fin : ∀ h2, (∀ b o, b ≠ x → s.heap.get? b = some o → h2.get? b = some o) → h2.get? x = some (excObj C s.heap.objs.size none .none) → Qv .none { s with heap := h2 } := fun h2 keep hx => by
    have J := I.write (t' := s.toks) (x := x) (e := x) (o := exo x C none) (by rw [ex]; exact True.intro) (.inl rfl) keep ⟨_, hx⟩ (exo_ok hx)
    have e2 : upd H x (exo x C none) = H := by
      funext b
      by_cases hb : b = x
      · rw [hb, upd_same, ex]
      · rw [upd_ne hb]
    rw [e2] at J
    exact go _ J
  obtain ⟨hp, g, d, tk, os⟩ := s
  refine wpAny_call (codeAny_of_tree ?_)
  show wpAny _ X.A.in1 (callAny (.ref u) ⟨us, []⟩) _ _ _
  simp only [callAny]
  refine wpAny_bind (wpAny_load hu ?_)
  simp only [kxs_mw, show (Value.type "method-wrapper" == Value.type "method" || Value.type "method-wrapper" == Value.type "builtin_function_or_method" || Value.type "method-wrapper" == Value.type "method-wrapper") = true from by decide, if_true]
  refine KFB.if_so (by decide) (wpAny_bind (check_bound_init hE.toExcCallFacts hC' ho rfl (wpAny_bind (wpAny_pure (wpAny_pure ⟨plainId_quiet hE.init.plain _, codeAny_builtin hE.initEntry ?_⟩)))))
  exact exc_init_tree (cls := .ref C) (t0 := t1) (dv := none) (c2 := .none) (c3 := .none) (b4 := .bool false) ho hz fun h2 keep hx _ => fin h2 keep hx

/-- THE RULE of such an __init__: behind its first row the rest of its body runs as a def's body does, the class in its cell -/
theorem init_run {msg : Str} {kd : Nat} {p0 p1 p2 p3 p4 p5 : Pos} {rest : List Stmt} {us : List Value} {vs : List V} {x : Addr} (T : ErrC K C) (J : InitFn P K C fI cc F) (ms : mg "super" = none) (S : NdefX.NScope N ps ["__class__"] F.scope)
    (hB : F.body = .Expr (.Call (.Attribute (.Call (.Name "super" p0) [] [] p1) "__init__" p2) [.Constant (.str msg) kd p3] [] p4) p5 :: rest) (hsg : F.scope.names.lookup ("super" : Str) = some .globalImplicit)
    (hsl : F.scope.names.lookup ("self" : Str) = some .local) (hr : Room (k + 1) A) (e0 : Env0 P w K mg base A outer s H)
    (hb : ∀ (kV doc pm ct : Value) (an : Option Addr), BindsTo s (PySem.W.fnX F.name F.qual F.params F.body F.scope F.cl .none kV doc pm an (.ref F.c) ct) ⟨us, []⟩ (ps.zip us)) (r : Vals vs us) (hl : vs.length = ps.length)
    (hs0 : ps[0]? = some ("self" : Str)) (hv0 : vs[0]? = some (.ref x)) (ex : H x = some (exo x C none))
    {pl : Sem Bool} (he : ∀ env : Env, eval (.Call (.Attribute (.Call (.Name "super" p0) [] [] p1) "__init__" p2) [.Constant (.str msg) kd p3] [] p4) env = (do
      let ov ← attributeBase (.Call (.Name "super" p0) [] [] p1) "__init__" env (eval (.Call (.Name "super" p0) [] [] p1) env)
      standAt p2.atName
      let (f, first) ← holding [ov] (getMethod ov "__init__" pl)
      callWith p4 f first (backTo p4 (starEach [.Constant (.str msg) kd p3] env)) []))
    (hq : Room k (A.deeper (NdefX.envF F fI s.heap.objs.size)) → ∃ t, PSs (NdefX.ncx CX P w K mg base N F fI A outer s H E) rest t ∧ t { nx := fun _ H' => Q .non H', rt := Q } (NdefX.startF N vs [some (.ref C)]) H) :
    codeAny (model P w) A (.call (.ref fI) ⟨us, []⟩) (CR CX outer P w H s Q E) s := by
  obtain ⟨oc, od, kV, doc, pm, an, ct, osl, lk⟩ := J.fn
  obtain ⟨ca, cb, ccs, hcell⟩ := J.cell
  obtain ⟨fa, fb, fvs, fc, ff, ft, hcode, hvs, hfile⟩ := J.file
  obtain ⟨aq, hself⟩ := J.self
  obtain ⟨pe, cd, hcd, hmro, hhd⟩ := T.data
  have kin0 : K.In s.heap := e0.mod.kin.keeps fun b o e => (e0.bs b o e).1
  have lim : s.heap.NoLimit := e0.mod.nolimit.keeps fun b o e => (e0.bs b o e).1
  have cells : NdefX.CellsAt F.cl ["__class__"] [some (.ref C)] s.heap H := by
    have there : s.heap.IsCell cc (some (.ref C)) := ⟨_, kin0 _ _ hcell, rfl⟩
    have one : ∀ (y : Str) (c : Addr), F.cl.lookup y = some c → y = "__class__" ∧ c = cc := fun y c e => by
      rw [J.cl] at e
      have m := PySem.mem_of_lookup e
      simp only [List.mem_singleton, Prod.mk.injEq] at m
      exact m
    refine ⟨rfl, fun y c e => ?_, fun y z c e1 e2 => (one y c e1).1.trans (one z c e2).1.symm, fun i y e => ?_⟩
    · obtain ⟨_, rfl⟩ := one y c e
      exact ⟨(e0.bs _ _ (e0.mod.kin _ _ hcell)).2, _, there⟩
    · have ey : y = "__class__" := by
        match i, e with
        | 0, e => exact (Option.some.inj e).symm
        | i + 1, e => simp at e
      subst ey
      refine ⟨cc, by rw [J.cl]; simp [List.lookup], fun v e => ?_⟩
      match i, e with
      | 0, e => exact ⟨.ref C, by have z := Option.some.inj (Option.some.inj e); subst z; rfl, there⟩
      | i + 1, e => simp at e
  have ndP : ps.Nodup := by
    have q := S.nd.sublist (List.take_sublist (ps.length + [("__class__" : Str)].length) N)
    rw [S.pre] at q
    exact (List.nodup_append.mp q).1
  have hu0 : us[0]? = some (.ref x) := by
    obtain ⟨u, hu, ru⟩ := r.get hv0
    rw [hu]
    exact congrArg some ru
  refine ks_codeAny_call_defAt (fd := PySem.W.fnX F.name F.qual F.params F.body F.scope F.cl .none kV doc pm an (.ref F.c) ct) (body := F.body) (binds := ps.zip us) hr.depth (kin0 _ _ lk) rfl lim (PySem.W.codeRec_of kin0 J.code) rfl (hb kV doc pm ct an) S.nocell
    (fun ⟨n, v⟩ hy => S.par n (List.of_mem_zip hy).1) (fun h₁ hns hk₁ => ?_) S.co S.gen S.kind
  have I : Inv (NdefX.ncx CX P w K mg base N F fI A outer s H E) [] (NdefX.startF N vs [some (.ref C)]) H { s with heap := h₁, toks := s.toks + (ps.zip us).length } := NdefX.inv_startN S hr.hd e0 hl r cells hns hk₁
  obtain ⟨t, ht, hgo⟩ := hq (hr.deeper _)
  show PySem.wpAt _ (A.deeper (NdefX.envF F fI s.heap.objs.size)) (.func F.body (NdefX.envF F fI s.heap.objs.size)) (execs F.body (NdefX.envF F fI s.heap.objs.size)) _ _ _
  rw [hB]
  have hx1 : ∃ t1, h₁.get? x = some (excObj C t1 none .none) := exo_at I.hok ex
  obtain ⟨t1, hx1⟩ := hx1
  have kin1 : K.In h₁ := I.kIn
  obtain ⟨oD, hD1, hD2⟩ : ∃ oD, h₁.get? C = some oD ∧ oD.data = .cls cd := by
    have q := hcd
    unfold PySem.W.clsIn at q
    split at q
    · rename_i c' d' cd' sl' ho
      cases q
      exact ⟨_, kin1 _ _ ho, rfl⟩
    · cases q
  have fin : ∀ st, Inv (NdefX.ncx CX P w K mg base N F fI A outer s H E) [] (NdefX.startF N vs [some (.ref C)]) H st →
      wpAny (model P w) (A.deeper (NdefX.envF F fI s.heap.objs.size)) (execs rest (NdefX.envF F fI s.heap.objs.size)) (fun f s' => CR CX outer P w H s Q E (.ok (.ret (match f with | .ret v => v | _ => .none))) s')
        (fun e s' => wpAny (model P w) (A.deeper (NdefX.envF F fI s.heap.objs.size)) (leaving (NdefX.envF F fI s.heap.objs.size) e) (fun _ s'' => CR CX outer P w H s Q E (.error e) s'') (fun e' s'' => CR CX outer P w H s Q E (.error e') s'') s') st := fun st I2 => by
    refine wpAny_mono (ht.run [] st _ H _ I2 hgo) (fun fl s' hs => ?_) fun e s' hs => hs
    have close : ∀ {σ' : L2.St} {H' : Hp} {v : V} {u : Value}, Inv (NdefX.ncx CX P w K mg base N F fI A outer s H E) [] σ' H' s' → L2.RelV v u → Q v H' → CE outer P w H s Q u s' := fun {σ' H' v u} Z rv q => ⟨v, H', Z.os, Z.bare, Z.base, Z.hok, rv, q⟩
    cases fl with
    | ret u =>
      obtain ⟨v, σ', H', Z, rv, q⟩ := hs
      exact close Z rv q
    | next =>
      obtain ⟨σ', H', Z, q⟩ := hs
      exact close (v := V.non) (u := Value.none) Z rfl q
    | brk => exact (hs.choose_spec.choose_spec.2 : False).elim
    | cont => exact (hs.choose_spec.choose_spec.2 : False).elim
  refine ks_wpAt_execs_cons (ks_wpAt_Expr_any (ks_wpAt_MethodCall (ks_wpAt_super_base (cc := F.c) (f := fI) (ar := { arg := "self", annotation := none, pos := aq }) hsg (S.frk _ (by simp)) (by decide) rfl (kin1 _ _ lk) rfl hself rfl (kin1 _ _ hcode) rfl hvs hfile J.top ?_) (he _)) I.quiet ?sw)
  case sw => rfl
  obtain ⟨mb, hm1, hm2⟩ := e0.mod.blt
  refine ks_loadName_global S.kind hsg (loadGlobal_builtin (env := NdefX.envF F fI s.heap.objs.size) (e0.mod.glob.keeps I.bk) ms (hm1.keeps I.bk) ((hm2 "super" (by decide)).trans (by decide +kernel)) ⟨rfl, ?_⟩)
  refine wpAny_loadName_free S.kind (S.frk _ (by simp)) (show F.cl.lookup ("__class__" : Str) = some cc by rw [J.cl]; simp [List.lookup]) ⟨_, kin1 _ _ hcell, rfl⟩ ?_
  refine wpAny_loadName_local S.kind hsl hns (NdefX.zip_look ndP hs0 hu0) (ks_wpAny_isType_cls hD1 hD2 ⟨rfl, ?_⟩)
  have nocls : ∀ c, (excObj C t1 none .none).data ≠ .cls c := fun c z => by cases z
  refine ks_wpAny_call_super hD1 hD2 hx1 rfl nocls (PySem.W.looks_mroIn kin1 J.below) (fun h2 eso k2 => ?_)
  have I2 := I.kept (t' := s.toks + (ps.zip us).length) k2
  have kin2 : K.In h2 := I2.kIn
  have inst : PySem.W.InstAt h2 x (excObj C t1 none .none) C none := ⟨k2 _ _ hx1, rfl, rfl, trivial⟩
  have along : PySem.W.alongIn K "__init__" ((cd.mro.dropWhile (· != .ref C)).drop 1) = some (some (.builtin "ArithmeticError.__init__")) := by
    have q := J.sup
    unfold PySem.W.ks_superIn at q
    rw [hcd] at q
    exact q
  refine kxs_getMethod kxs_ArithmeticError eso (PySem.W.looks_opaque kin2 J.opq) ((PySem.W.looks_clsIn kin2 hcd).andThen .now) rfl kin2 along (inst.type.andThen (PySem.W.looks_subIn kin2 T.exA)) (PySem.W.ks_ne kin2 inst hcd) (by decide) ?_
  refine kxs_callWith (i := "ArithmeticError.__init__") (x := x) rfl ?_
  have hu : (h2.push (kxs_mw "ArithmeticError.__init__" x)).get? h2.objs.size = some (kxs_mw "ArithmeticError.__init__" x) := Heap.get?_push_at rfl rfl
  have fr : H h2.objs.size = none := I2.hok.fresh (Nat.le_refl _)
  have I3 := I2.kept (t' := s.toks + (ps.zip us).length + 1) (h' := h2.push (kxs_mw "ArithmeticError.__init__" x)) fun b o e => Heap.get?_push_of_some _ e
  have I4 : Inv (NdefX.ncx CX P w K mg base N F fI A outer s H E) [(h2.objs.size, kxs_mw "ArithmeticError.__init__" x)] (NdefX.startF N vs [some (.ref C)]) H { s with heap := h2.push (kxs_mw "ArithmeticError.__init__" x), toks := s.toks + (ps.zip us).length + 1 } :=
    ⟨I3.ok, I3.os, I3.bare, I3.base, I3.loc, I3.cell, I3.free, I3.freeC, fun p hp => by
      have e : p = (h2.objs.size, kxs_mw "ArithmeticError.__init__" x) := by
        have q : p ∈ [] ++ [(h2.objs.size, kxs_mw "ArithmeticError.__init__" x)] := hp
        simpa using q
      subst e
      exact ⟨hu, fr, Nat.ne_of_gt I2.lt, I2.nofs (Nat.le_refl _), fun v z => by cases z⟩, I3.hok, I3.len⟩
  have arg : PA (NdefX.ncx CX P w K mg base N F fI A outer s H E) [.Constant (.str msg) kd p3] (tCons (tC (.str msg)) tNil) := pa_cons pe_str pa_nil
  refine evalArgs_plain (thn (arg.run p4 _ _ _ H (fun us2 H2 => us2 = [.str msg] ∧ H2 = H) I4 ⟨rfl, rfl⟩) fun us2 s3 h3 => ?_)
  obtain ⟨vs2, H3, I5, r5, rfl, rfl⟩ := h3
  have mu : s3.heap.get? h2.objs.size = some (kxs_mw "ArithmeticError.__init__" x) := (I5.pin (h2.objs.size, kxs_mw "ArithmeticError.__init__" x) (List.mem_append_right _ (List.mem_singleton.mpr rfl))).1
  have one : us2.length ≤ sizeLine := by
    have z := Paired.length r5
    rw [← z, sizeLine_eq]
    show 1 ≤ 16777216
    decide
  refine ⟨mu, sup_init (us := us2) T I5 ex mu one fun st I6 => ?_⟩
  refine wpAt_of_wpAny (fin st ⟨I6.ok, I6.os, I6.bare, I6.base, I6.loc, I6.cell, I6.free, I6.freeC, fun p hp => I6.pin p (List.mem_append_left _ ?_), I6.hok, I6.len⟩)
  have q : p ∈ [] ++ [] := hp
  simpa using q
end
end Pk
set_option Elab.async false
set_option linter.all false
set_option maxRecDepth 100000
set_option maxHeartbeats 1000000
/-! Data of lists and tuples of bounded depth; copies of it that share no list. -/
namespace Pk
open PySem L2
/-- nested at most n deep, no list or tuple longer than 1000 -/
inductive Deep : Nat → PyData → Prop
  | non {n : Nat} : Deep n .none
  | bl {n : Nat} (b : Bool) : Deep n (.bool b)
  | int {n : Nat} (i : Int) : Deep n (.int i)
  | str {n : Nat} (z : Str) : Deep n (.str z)
  | lst {n : Nat} {ds : List PyData} (h : ∀ d ∈ ds, Deep n d) (z : ds.length ≤ 1000) : Deep (n + 1) (.list ds)
  | tup {n : Nat} {ds : List PyData} (h : ∀ d ∈ ds, Deep n d) (z : ds.length ≤ 1000) : Deep (n + 1) (.tuple ds)
theorem Deep.mono {n m : Nat} {d : PyData} (h : Deep n d) (l : n ≤ m) : Deep m d := by
  induction h generalizing m with
  | non => exact .non
  | bl b => exact .bl b
  | int i => exact .int i
  | str z => exact .str z
  | lst h z ih =>
    obtain ⟨k, rfl⟩ : ∃ k, m = k + 1 := ⟨m - 1, by omega⟩
    exact .lst (fun d hd => ih d hd (by omega)) z
  | tup h z ih =>
    obtain ⟨k, rfl⟩ : ∃ k, m = k + 1 := ⟨m - 1, by omega⟩
    exact .tup (fun d hd => ih d hd (by omega)) z
/-- v is the data d in H, and every list and tuple of it is new: not tracked in H0 -/
inductive Own (H0 H : Hp) : V → PyData → Prop
  | non : Own H0 H .non .none
  | bl (b : Bool) : Own H0 H (.bl b) (.bool b)
  | int (i : Int) : Own H0 H (.int i) (.int i)
  | str (z : Str) : Own H0 H (.str z) (.str z)
  | lst {a : Addr} {xs : List V} {ds : List PyData} (n : H0 a = none) (h : H a = some (.lst xs)) (hl : xs.length = ds.length) (hs : ∀ (i : Nat) (v : V) (d : PyData), xs[i]? = some v → ds[i]? = some d → Own H0 H v d) : Own H0 H (.ref a) (.list ds)
  | tup {a : Addr} {xs : List V} {ds : List PyData} (n : H0 a = none) (h : H a = some (.tup xs)) (hl : xs.length = ds.length) (hs : ∀ (i : Nat) (v : V) (d : PyData), xs[i]? = some v → ds[i]? = some d → Own H0 H v d) : Own H0 H (.ref a) (.tuple ds)
theorem Own.mono {H0 H H0' H' : Hp} {v : V} {d : PyData} (o : Own H0 H v d) (f : ∀ a, H0 a = none → H a ≠ none → H0' a = none) (k : ∀ a u, H0 a = none → H a = some u → (∃ xs, u = .lst xs ∨ u = .tup xs) → H' a = some u) : Own H0' H' v d := by
  induction o with
  | non => exact .non
  | bl b => exact .bl b
  | int i => exact .int i
  | str z => exact .str z
  | lst n h hl _ ih => exact .lst (f _ n (by rw [h]; exact Option.some_ne_none _)) (k _ _ n h ⟨_, .inl rfl⟩) hl fun i v d e1 e2 => ih i v d e1 e2
  | tup n h hl _ ih => exact .tup (f _ n (by rw [h]; exact Option.some_ne_none _)) (k _ _ n h ⟨_, .inr rfl⟩) hl fun i v d e1 e2 => ih i v d e1 e2
theorem Own.later {H0 H H' : Hp} {v : V} {d : PyData} (o : Own H0 H v d) (s : Same H H') : Own H0 H' v d := o.mono (fun _ n _ => n) fun a u _ h _ => s a u h
/-- made later than H0, so also later than what H0 has grown from -/
theorem Own.back {H0 H1 H : Hp} {v : V} {d : PyData} (o : Own H1 H v d) (s : Same H0 H1) : Own H0 H v d := by
  induction o with
  | non => exact .non
  | bl b => exact .bl b
  | int i => exact .int i
  | str z => exact .str z
  | lst n h hl _ ih => exact .lst (s.free n) h hl ih
  | tup n h hl _ ih => exact .tup (s.free n) h hl ih
theorem dpAll_of {K : PySem.W.Frag} {H : Hp} : ∀ {xs : List V} {ds : List PyData}, xs.length = ds.length → (∀ (i : Nat) (v : V) (d : PyData), xs[i]? = some v → ds[i]? = some d → Dp K H v d) → DpAll K H xs ds
  | [], [], _, _ => .nil
  | [], _ :: _, h, _ => by cases h
  | _ :: _, [], h, _ => by cases h
  | x :: xs, d :: ds, h, k => .cons (k 0 x d rfl rfl) (dpAll_of (Nat.succ.inj h) fun i v e e1 e2 => k (i + 1) v e e1 e2)
theorem dpAll_len {K : PySem.W.Frag} {H : Hp} : ∀ {xs : List V} {ds : List PyData}, DpAll K H xs ds → xs.length = ds.length
  | _, _, .nil => rfl
  | _, _, .cons _ t => congrArg Nat.succ (dpAll_len t)
theorem dpAll_at {K : PySem.W.Frag} {H : Hp} : ∀ {xs : List V} {ds : List PyData} {i : Nat} {v : V}, DpAll K H xs ds → xs[i]? = some v → ∃ d, ds[i]? = some d ∧ Dp K H v d
  | _, _, _, _, .nil, e => by simp at e
  | _, _, 0, _, .cons h _, e => ⟨_, rfl, by have z := Option.some.inj e; subst z; exact h⟩
  | _, _, i + 1, _, .cons _ t, e => dpAll_at (i := i) t e
theorem Own.dp {K : PySem.W.Frag} {H0 H : Hp} {v : V} {d : PyData} (o : Own H0 H v d) : Dp K H v d := by
  induction o with
  | non => exact .non
  | bl b => exact .bl b
  | int i => exact .int i
  | str z => exact .str z
  | lst n h hl _ ih => exact .lst (SqL.of h) (dpAll_of hl ih)
  | tup n h hl _ ih => exact .tup (SqT.of h) (dpAll_of hl ih)
/-- lists, tuples and what is locked -/
def IsLT (u : HO) : Prop := (∃ xs, u = .lst xs) ∨ (∃ xs, u = .tup xs) ∨ ∃ o z, u = .frz o z
/-- these are as they were -/
def SameD (H H' : Hp) : Prop := ∀ a u, IsLT u → H a = some u → H' a = some u
theorem SameD.of {H H' : Hp} (s : Same H H') : SameD H H' := fun a u _ h => s a u h
theorem SameD.trans {H H1 H2 : Hp} (a : SameD H H1) (b : SameD H1 H2) : SameD H H2 := fun c u l h => b c u l (a c u l h)
theorem SameD.seqL {K : PySem.W.Frag} {H H' : Hp} (s : SameD H H') {a : Addr} {xs : List V} (h : SqL K H a xs) : SqL K H' a xs := by
  rcases h with (h | ⟨o, h⟩) | h
  · exact .inl (.inl (s _ _ (.inl ⟨_, rfl⟩) h))
  · exact .inl (.inr ⟨o, s _ _ (.inr (.inr ⟨_, _, rfl⟩)) h⟩)
  · exact .inr h
theorem SameD.seqT {K : PySem.W.Frag} {H H' : Hp} (s : SameD H H') {a : Addr} {xs : List V} (h : SqT K H a xs) : SqT K H' a xs := by
  rcases h with (h | ⟨o, h⟩) | h
  · exact .inl (.inl (s _ _ (.inr (.inl ⟨_, rfl⟩)) h))
  · exact .inl (.inr ⟨o, s _ _ (.inr (.inr ⟨_, _, rfl⟩)) h⟩)
  · exact .inr h
mutual
theorem Dp.laterD {K : PySem.W.Frag} {H H' : Hp} (s : SameD H H') : ∀ {v : V} {d : PyData}, Dp K H v d → Dp K H' v d
  | _, _, .non => .non
  | _, _, .bl b => .bl b
  | _, _, .int i => .int i
  | _, _, .str z => .str z
  | _, _, .lst h t => .lst (s.seqL h) (DpAll.laterD s t)
  | _, _, .tup h t => .tup (s.seqT h) (DpAll.laterD s t)
theorem DpAll.laterD {K : PySem.W.Frag} {H H' : Hp} (s : SameD H H') : ∀ {xs : List V} {ds : List PyData}, DpAll K H xs ds → DpAll K H' xs ds
  | _, _, .nil => .nil
  | _, _, .cons h t => .cons (Dp.laterD s h) (DpAll.laterD s t)
end
theorem Dp.later {K : PySem.W.Frag} {H H' : Hp} (s : Same H H') {v : V} {d : PyData} (h : Dp K H v d) : Dp K H' v d := Dp.laterD (.of s) h
theorem DpAll.later {K : PySem.W.Frag} {H H' : Hp} (s : Same H H') {xs : List V} {ds : List PyData} (h : DpAll K H xs ds) : DpAll K H' xs ds := DpAll.laterD (.of s) h
/-- the built-in class of a piece of data -/
def kindOf : PyData → String
  | .none => "NoneType" | .bool _ => "bool" | .int _ => "int" | .str _ => "str" | .list _ => "list" | .tuple _ => "tuple" | _ => "object"
theorem Dp.kind {K : PySem.W.Frag} {H : Hp} {v : V} {d : PyData} (h : Dp K H v d) : TyX K H v (.type (kindOf d)) := by
  cases h with
  | non => exact .base .non
  | bl b => exact .base (.bl b)
  | int i => exact .base (.int i)
  | str z => exact .base (.str z)
  | lst h _ =>
    rcases h with (h | ⟨o, h⟩) | ⟨o, its, n, h, c, _⟩
    · exact .base (.lst h)
    · exact .base (.frz h)
    · exact .kList h c
  | tup h _ =>
    rcases h with (h | ⟨o, h⟩) | ⟨o, its, n, h, c, _⟩
    · exact .base (.tup h)
    · exact .fTuple h
    · exact .kTuple h c
/-- isinstance(x, T), T a built-in class -/
theorem r_isi {K : PySem.W.Frag} {H : Hp} {Q : VK} {x : V} {a b : String} {r : Bool} (t : TyX K H x (.type a)) (e : kitB a b = some r) (h : Q (.bl r) H) : rIsi K [x, .ty b] H Q := ⟨x, .ty b, _, _, r, rfl, .ty b, t, kit_ty e, h⟩
/-- own_copy(value), for data at most n deep -/
def spCopy (K : PySem.W.Frag) (n : Nat) : Sp := fun vs H Q _ => ∃ (v : V) (d : PyData), vs = [v] ∧ Dp K H v d ∧ Deep n d ∧ ∀ (v' : V) (H' : Hp), Same H H' → Own H H' v' d → Q v' H'
/-- _law_same(a, b) of two values that are the same data -/
def spSame (K : PySem.W.Frag) (n : Nat) : Sp := fun vs H Q _ => ∃ (a b : V) (d : PyData), vs = [a, b] ∧ Dp K H a d ∧ Dp K H b d ∧ Deep n d ∧ Q (.bl true) H
theorem kit_list (d : PyData) : ∃ r, kitB (kindOf d) "list" = some r ∧ (r = true ↔ ∃ ds, d = .list ds) := by
  cases d with
  | none => exact ⟨false, (by decide +kernel : kitB "NoneType" "list" = some false), ⟨(fun z => by cases z), (fun z => by obtain ⟨_, z⟩ := z; cases z)⟩⟩
  | bool b => exact ⟨false, (by decide +kernel : kitB "bool" "list" = some false), ⟨(fun z => by cases z), (fun z => by obtain ⟨_, z⟩ := z; cases z)⟩⟩
  | int i => exact ⟨false, (by decide +kernel : kitB "int" "list" = some false), ⟨(fun z => by cases z), (fun z => by obtain ⟨_, z⟩ := z; cases z)⟩⟩
  | str z => exact ⟨false, (by decide +kernel : kitB "str" "list" = some false), ⟨(fun z => by cases z), (fun z => by obtain ⟨_, z⟩ := z; cases z)⟩⟩
  | list ds => exact ⟨true, (by decide +kernel : kitB "list" "list" = some true), ⟨fun _ => ⟨ds, rfl⟩, fun _ => rfl⟩⟩
  | tuple ds => exact ⟨false, (by decide +kernel : kitB "tuple" "list" = some false), ⟨(fun z => by cases z), (fun z => by obtain ⟨_, z⟩ := z; cases z)⟩⟩
  | dict kv => exact ⟨false, (by decide +kernel : kitB "object" "list" = some false), ⟨(fun z => by cases z), (fun z => by obtain ⟨_, z⟩ := z; cases z)⟩⟩
theorem kit_tuple (d : PyData) : ∃ r, kitB (kindOf d) "tuple" = some r ∧ (r = true ↔ ∃ ds, d = .tuple ds) := by
  cases d with
  | none => exact ⟨false, (by decide +kernel : kitB "NoneType" "tuple" = some false), ⟨(fun z => by cases z), (fun z => by obtain ⟨_, z⟩ := z; cases z)⟩⟩
  | bool b => exact ⟨false, (by decide +kernel : kitB "bool" "tuple" = some false), ⟨(fun z => by cases z), (fun z => by obtain ⟨_, z⟩ := z; cases z)⟩⟩
  | int i => exact ⟨false, (by decide +kernel : kitB "int" "tuple" = some false), ⟨(fun z => by cases z), (fun z => by obtain ⟨_, z⟩ := z; cases z)⟩⟩
  | str z => exact ⟨false, (by decide +kernel : kitB "str" "tuple" = some false), ⟨(fun z => by cases z), (fun z => by obtain ⟨_, z⟩ := z; cases z)⟩⟩
  | list ds => exact ⟨false, (by decide +kernel : kitB "list" "tuple" = some false), ⟨(fun z => by cases z), (fun z => by obtain ⟨_, z⟩ := z; cases z)⟩⟩
  | tuple ds => exact ⟨true, (by decide +kernel : kitB "tuple" "tuple" = some true), ⟨fun _ => ⟨ds, rfl⟩, fun _ => rfl⟩⟩
  | dict kv => exact ⟨false, (by decide +kernel : kitB "object" "tuple" = some false), ⟨(fun z => by cases z), (fun z => by obtain ⟨_, z⟩ := z; cases z)⟩⟩
theorem kit_dict {n : Nat} {d : PyData} (h : Deep n d) : kitB (kindOf d) "dict" = some false := by
  cases h with
  | non => exact (by decide +kernel : kitB "NoneType" "dict" = some false)
  | bl b => exact (by decide +kernel : kitB "bool" "dict" = some false)
  | int i => exact (by decide +kernel : kitB "int" "dict" = some false)
  | str z => exact (by decide +kernel : kitB "str" "dict" = some false)
  | lst h z => exact (by decide +kernel : kitB "list" "dict" = some false)
  | tup h z => exact (by decide +kernel : kitB "tuple" "dict" = some false)
end Pk
set_option Elab.async false
set_option linter.all false
set_option maxRecDepth 100000
set_option maxHeartbeats 1000000
namespace Pk
open PySem L2 PySem.Spec PyProof.Rows
/-- the __init__ at fI keeps sp, its first argument an error that is being made -/
structure ErrOk (P : Program) (w : World) (K : PySem.W.Frag) (mg : Str → Option Value) (base : Heap) (k : Nat) (C fI : Addr) (sp : Sp) : Prop where
  run : ∀ (A : Around) (outer : List Env) (s : Shared) (H : Hp) (us : List Value) (vs : List V) (x : Addr) (Q : VK), Room k A → Env0 P w K mg base A outer s H → Vals (.ref x :: vs) us → H x = some (exo x C none) → sp (.ref x :: vs) H Q (fun _ _ _ => False) →
    codeAny (model P w) A (.call (.ref fI) ⟨us, []⟩) (CR CX0 outer P w H s Q (fun _ _ _ => False)) s
/-- C(e, ..) -/
def tMkErr (C : Addr) (sp : Sp) (ta : TA) : L2.St → Hp → XK → Prop := fun σ H Q => ta σ H fun vs H1 => vs.length ≤ 1000 ∧ ∀ x, H1 x = none →
  sp (.ref x :: vs) (upd H1 x (exo x C none)) (fun v H2 => v = .non ∧ ∃ (d : Addr) (fs : List (Str × V)), H2 x = some (exo x C (some d)) ∧ H2 d = some (exd d fs) ∧ H1 d = none ∧ Q (.ref C) (some d) (upd (del H2 x) d (.xd fs))) (fun _ _ _ => False)
theorem pmk_err {X : Cx} {x : Str} {C fI : Addr} {k : Nat} {sp : Sp} {p pos : Pos} {e : Expr} {es : List Expr} {ta : TA} (T : ErrC X.K C) (iC : PySem.W.findIn X.K (.ref C) "__init__" = some (some (.ref fI))) (tI : PySem.W.typeIn X.K (.ref fI) = some (.type "function"))
    (G : ErrOk X.prog X.w X.K X.mg X.base k C fI sp) (hr : Room (k + 1) X.A) (hg : Gl X x) (hm : X.mg x = some (.ref C)) (ha : PA X (e :: es) ta)
    (hdb : (x == ("__debug__" : Str)) = false := by decide) (he : starEach (e :: es) X.env = (false, eval e X.env) :: starEach es X.env := by rfl) (hpl : (backTo pos (starEach es X.env)).any (·.1) = false := by rfl) : PMk X (.Call (.Name x p) (e :: es) [] pos) (tMkErr C sp ta) := by
  intro pins s σ H Q I h
  obtain ⟨pe, nm, q, N, bs, sn, sub, ab, col, dd, k0, k1, k2, k3, k5, hC⟩ := T.cls
  refine wpAny_Call_Name_kw (ld_glob I hg hm (PySem.W.callWith_K (h₀ := X.base) I.ok.mod.kin T.kp (thn (ha.run pos pins s σ H _ I h) fun us s1 ⟨vs, H1, I1, r1, hz, q1⟩ => ⟨I1.kIn, ?_⟩) he hpl) hdb)
  show wpAny _ _ (call (.ref C) us) _ _ _
  obtain ⟨hp, g, dr, tk, os⟩ := s1
  have up := Nat.le_succ hp.objs.size
  have hq := q1 (hp.objs.size + 1) (I1.hok.fresh up)
  have kk : ∀ b o, hp.get? b = some o → ((hp.push (PySem.W.kdv_tup us)).push (PySem.HandSPX.excO C hp.objs.size)).get? b = some o := fun b o z => Heap.get?_push_of_some _ (Heap.get?_push_of_some _ z)
  have made : ((hp.push (PySem.W.kdv_tup us)).push (PySem.HandSPX.excO C hp.objs.size)).get? (hp.objs.size + 1) = some (PySem.HandSPX.excO C hp.objs.size) := by heap_get
  have I2 := I1.laid (t' := tk) (a := hp.objs.size + 1) (o := exo (hp.objs.size + 1) C none) kk up (exo_ok made)
  have short : us.length ≤ sizeLine := by
    rw [← Paired.length r1, sizeLine_eq]; omega
  refine wpAny_call (PySem.HandSPX.call_own PySem.F.excBase_ArithmeticError arT_same (I1.kIn _ _ hC) (PySem.W.looks_findIn I1.kIn iC) (fun z => PySem.W.bind_fn I1.kIn z tI) short
    (codeAny_mono (G.run _ X.stack _ _ (Value.ref (hp.objs.size + 1) :: us) vs (hp.objs.size + 1) _ (hr.make C us []) (I2.env0.make C us []) (.cons rfl r1) upd_same hq) fun r st z => ?_))
  cases r with
  | error er => exact (show False from z).elim
  | ok fl =>
    cases fl with
    | ret u =>
      obtain ⟨v, H2, os2, bare2, un2, hok2, rv, ev, d, fs, ea, ed, hd1, q2⟩ := z
      subst ev
      obtain ⟨h2, g2, d2, t2, os'⟩ := st
      exact ⟨rv, mk_end (raises_own T.exB T.ty) I1 up kk un2 hok2 os2 bare2 ea ed hd1 q2⟩
    | next => exact False.elim z
    | brk => exact False.elim z
    | cont => exact False.elim z

theorem r_errSet {K : PySem.W.Frag} {f : Str} {to te : TE} {D : Ends} {σ : L2.St} {H : Hp} (h : te σ H fun y H1 => to σ H1 fun x H2 => ∃ a C : Addr, x = .ref a ∧ ErrC K C ∧ PySem.W.findIn K (.ref C) f = some none ∧
  ((H2 a = some (exo a C none) ∧ ∀ dx, H2 dx = none → dx ≠ a → D.nx σ (upd (upd H2 dx (exd dx [(f, y)])) a (exo a C (some dx)))) ∨
   (∃ (dx : Addr) (fs : List (Str × V)), H2 a = some (exo a C (some dx)) ∧ H2 dx = some (exd dx fs) ∧ fs.length ≤ 900 ∧ D.nx σ (upd H2 dx (exd dx ((f, y) :: fs)))))) : tErrSet K f to te D σ H := h
/-- an __init__ of one field, a copy of what it is passed -/
def spErr1 (K : PySem.W.Frag) (n : Nat) (C : Addr) (f : Str) : Sp := fun vs H Q _ => ∃ (x : Addr) (v : V) (d : PyData), vs = [.ref x, v] ∧ H x = some (exo x C none) ∧ Dp K H v d ∧ Deep n d ∧
  ∀ (dx : Addr) (v' : V) (H' : Hp), H' x = some (exo x C (some dx)) → H' dx = some (exd dx [(f, v')]) → H dx = none → dx ≠ x → Keep x H H' → Own H H' v' d → Q .non H'
/-- .. of two fields, in this sequence -/
def spErr2 (K : PySem.W.Frag) (n : Nat) (C : Addr) (f g : Str) : Sp := fun vs H Q _ => ∃ (x : Addr) (v u : V) (d e : PyData), vs = [.ref x, v, u] ∧ H x = some (exo x C none) ∧ Dp K H v d ∧ Deep n d ∧ Dp K H u e ∧ Deep n e ∧
  ∀ (dx : Addr) (v' u' : V) (H' : Hp), H' x = some (exo x C (some dx)) → H' dx = some (exd dx [(g, u'), (f, v')]) → H dx = none → dx ≠ x → Keep x H H' → Own H H' v' d → Own H H' u' e → Q .non H'
theorem exd_lt {dx : Addr} {fs : List (Str × V)} {u : HO} (h : ∃ xs, u = .lst xs ∨ u = .tup xs) : exd dx fs ≠ u := fun z => by
  obtain ⟨xs, e | e⟩ := h
  · rw [e] at z; cases (show HO.ext _ = HO.lst xs from z)
  · rw [e] at z; cases (show HO.ext _ = HO.tup xs from z)
/-- what is new stays so when the error, which is known, and its new dict are written -/
theorem Own.stored {H H1 : Hp} {v : V} {d : PyData} {x dx : Addr} {o u : HO} (w : Own H H1 v d) (hx : H x ≠ none) (hd : H1 dx = none) : Own H (upd (upd H1 dx o) x u) v d :=
  w.mono (fun _ n _ => n) fun a z n q _ => by
    have na : a ≠ x := fun e => hx (e ▸ n)
    rw [upd_ne na, upd_ne (ne_of_none q hd)]
    exact q
section
variable {P : Program} {w : World} {K : PySem.W.Frag} {mg : Str → Option Value} {base : Heap} {C fI cc fc : Addr} {fdc : FuncData} {F : NdefX.NF} {n : Nat} {f g : Str}
theorem err_one {msg : Str} {kd : Nat} {p0 p1 p2 p3 p4 p5 q0 q1 q2 q3 q4 q5 : Pos} (T : ErrC K C) (J : InitFn P K C fI cc F) (ms : mg "super" = none) (G : FnOk P w K mg base CX0 (n + 1) fc fdc ["value"] (spCopy K n)) (mc : mg "own_copy" = some (.ref fc)) (kc : PySem.W.keepIn K (.ref fc) = true)
    (bc : Binds K fdc ["value"] []) (S : NdefX.NScope ["self", f, "__class__"] ["self", f] ["__class__"] F.scope)
    (hB : F.body = .Expr (.Call (.Attribute (.Call (.Name "super" p0) [] [] p1) "__init__" p2) [.Constant (.str msg) kd p3] [] p4) p5 :: [.Assign [.Attribute (.Name "self" q0) f q1] (.Call (.Name "own_copy" q2) [.Name f q3] [] q4) q5])
    (hsg : F.scope.names.lookup ("super" : Str) = some .globalImplicit) (hog : F.scope.names.lookup ("own_copy" : Str) = some .globalImplicit) (free : PySem.W.findIn K (.ref C) f = some none)
    (hb : ∀ (kV doc pm ct : Value) (an : Option Addr) (us : List Value), us.length = 2 → bindArgs (PySem.W.fnX F.name F.qual F.params F.body F.scope F.cl .none kV doc pm an (.ref F.c) ct) ⟨us, []⟩ = pure ((["self", f] : List Str).zip us))
    {pl : Sem Bool} (he : ∀ env : Env, eval (.Call (.Attribute (.Call (.Name "super" p0) [] [] p1) "__init__" p2) [.Constant (.str msg) kd p3] [] p4) env = (do
      let ov ← attributeBase (.Call (.Name "super" p0) [] [] p1) "__init__" env (eval (.Call (.Name "super" p0) [] [] p1) env)
      standAt p2.atName
      let (f, first) ← holding [ov] (getMethod ov "__init__" pl)
      callWith p4 f first (backTo p4 (starEach [.Constant (.str msg) kd p3] env)) []))
    (fd : (f == ("__debug__" : Str)) = false) (fcd : (f == ("__classdict__" : Str)) = false) : ErrOk P w K mg base (n + 2) C fI (spErr1 K n C f) := by
  refine ⟨fun A outer s H us vs x Q hr e0 r ex hsp => ?_⟩
  obtain ⟨x', v, d, evs, _, hv, hd, k⟩ := hsp
  obtain ⟨rfl, rfl⟩ : x = x' ∧ vs = [v] := by
    have z := List.cons.inj evs
    exact ⟨V.ref.inj z.1, z.2⟩
  have lu : us.length = 2 := by rw [← r.length]; rfl
  refine init_run (k := n + 1) (rest := [.Assign [.Attribute (.Name "self" q0) f q1] (.Call (.Name "own_copy" q2) [.Name f q3] [] q4) q5]) (x := x) T J ms S hB hsg (S.par _ (by simp)) hr e0 (fun kV doc pm ct an => BindsTo.of_eq (hb kV doc pm ct an us lu)) r rfl rfl rfl ex he fun hr' => ?_
  refine ⟨_, pss_one (ps_errSet (pe_var (i := 0) rfl (.inl (S.par _ (by simp)))) (pe_call G hr' hog mc kc bc .nil pass0 (pa_cons (pe_var (i := 1) rfl (.inl (S.par _ (by simp))) fd fcd) pa_nil)) ?sw), ?_⟩
  case sw => rfl
  refine r_errSet ?_
  refine r_call ?_
  refine r_cons ?_
  refine r_var rfl ?_
  refine r_nil ?_
  refine ⟨v, d, rfl, hv, hd, fun v' H1 s1 o1 => ?_⟩
  refine r_var rfl ?_
  refine ⟨x, C, rfl, T, free, .inl ⟨s1 _ _ ex, fun dx hdx ne => ?_⟩⟩
  refine k dx v' _ upd_same (by rw [upd_ne ne, upd_same]) (s1.free hdx) ne (Keep.own (Keep.new (Keep.same s1) hdx)) (o1.stored (by rw [ex]; exact Option.some_ne_none _) hdx)

theorem exo_lt {x : Addr} {C : Addr} {d : Option Addr} {u : HO} (h : IsLT u) : exo x C d ≠ u := fun z => by
  rcases h with ⟨_, e⟩ | ⟨_, e⟩ | ⟨_, _, e⟩
  · rw [e] at z; exact exo_lt' z
  · exact exo_tup (z.trans e)
  · exact exo_frz (z.trans e)
where exo_lt' {x C : Addr} {d : Option Addr} {xs : List V} (z : exo x C d = .lst xs) : False := by cases (show HO.ext _ = HO.lst xs from z)
/-- behind the stores into the error at x lists and tuples are as they were -/
theorem sameD_err {H : Hp} {x C dx : Addr} {d : Option Addr} {o u : HO} (hx : H x = some (exo x C d)) (hd : H dx = none) : SameD H (upd (upd H dx o) x u) := fun a z l h => by
  rw [upd_ne (at_ne hx h (exo_lt l)), upd_ne (ne_of_none h hd)]
  exact h
theorem err_two {msg : Str} {kd : Nat} {p0 p1 p2 p3 p4 p5 q0 q1 q2 q3 q4 q5 z0 z1 z2 z3 z4 z5 : Pos} (T : ErrC K C) (J : InitFn P K C fI cc F) (ms : mg "super" = none) (G : FnOk P w K mg base CX0 (n + 1) fc fdc ["value"] (spCopy K n)) (mc : mg "own_copy" = some (.ref fc)) (kc : PySem.W.keepIn K (.ref fc) = true)
    (bc : Binds K fdc ["value"] []) (S : NdefX.NScope ["self", f, g, "__class__"] ["self", f, g] ["__class__"] F.scope)
    (hB : F.body = .Expr (.Call (.Attribute (.Call (.Name "super" p0) [] [] p1) "__init__" p2) [.Constant (.str msg) kd p3] [] p4) p5 ::
      [.Assign [.Attribute (.Name "self" q0) f q1] (.Call (.Name "own_copy" q2) [.Name f q3] [] q4) q5, .Assign [.Attribute (.Name "self" z0) g z1] (.Call (.Name "own_copy" z2) [.Name g z3] [] z4) z5])
    (hsg : F.scope.names.lookup ("super" : Str) = some .globalImplicit) (hog : F.scope.names.lookup ("own_copy" : Str) = some .globalImplicit) (free : PySem.W.findIn K (.ref C) f = some none) (freeg : PySem.W.findIn K (.ref C) g = some none)
    (hb : ∀ (kV doc pm ct : Value) (an : Option Addr) (us : List Value), us.length = 3 → bindArgs (PySem.W.fnX F.name F.qual F.params F.body F.scope F.cl .none kV doc pm an (.ref F.c) ct) ⟨us, []⟩ = pure ((["self", f, g] : List Str).zip us))
    {pl : Sem Bool} (he : ∀ env : Env, eval (.Call (.Attribute (.Call (.Name "super" p0) [] [] p1) "__init__" p2) [.Constant (.str msg) kd p3] [] p4) env = (do
      let ov ← attributeBase (.Call (.Name "super" p0) [] [] p1) "__init__" env (eval (.Call (.Name "super" p0) [] [] p1) env)
      standAt p2.atName
      let (f, first) ← holding [ov] (getMethod ov "__init__" pl)
      callWith p4 f first (backTo p4 (starEach [.Constant (.str msg) kd p3] env)) []))
    (fd : (f == ("__debug__" : Str)) = false) (fcd : (f == ("__classdict__" : Str)) = false) (gd : (g == ("__debug__" : Str)) = false) (gcd : (g == ("__classdict__" : Str)) = false) : ErrOk P w K mg base (n + 2) C fI (spErr2 K n C f g) := by
  refine ⟨fun A outer s H us vs x Q hr e0 r ex hsp => ?_⟩
  obtain ⟨x', v, u, d, e, evs, _, hv, hd, hu, hde, k⟩ := hsp
  obtain ⟨rfl, rfl⟩ : x = x' ∧ vs = [v, u] := by
    have z := List.cons.inj evs
    exact ⟨V.ref.inj z.1, z.2⟩
  have lu : us.length = 3 := by rw [← r.length]; rfl
  refine init_run (k := n + 1) (rest := [.Assign [.Attribute (.Name "self" q0) f q1] (.Call (.Name "own_copy" q2) [.Name f q3] [] q4) q5, .Assign [.Attribute (.Name "self" z0) g z1] (.Call (.Name "own_copy" z2) [.Name g z3] [] z4) z5]) (x := x) T J ms S hB hsg (S.par _ (by simp)) hr e0
    (fun kV doc pm ct an => BindsTo.of_eq (hb kV doc pm ct an us lu)) r rfl rfl rfl ex he fun hr' => ?_
  refine ⟨_, pss_cons (ps_errSet (pe_var (i := 0) rfl (.inl (S.par _ (by simp)))) (pe_call G hr' hog mc kc bc .nil pass0 (pa_cons (pe_var (i := 1) rfl (.inl (S.par _ (by simp))) fd fcd) pa_nil)) ?sw)
    (pss_one (ps_errSet (pe_var (i := 0) rfl (.inl (S.par _ (by simp)))) (pe_call G hr' hog mc kc bc .nil pass0 (pa_cons (pe_var (i := 2) rfl (.inl (S.par _ (by simp))) gd gcd) pa_nil)) ?sv)), ?_⟩
  case sw => rfl
  case sv => rfl
  refine r_seq ?_
  refine r_errSet ?_
  refine r_call ?_
  refine r_cons ?_
  refine r_var rfl ?_
  refine r_nil ?_
  refine ⟨v, d, rfl, hv, hd, fun v' H1 s1 o1 => ?_⟩
  refine r_var rfl ?_
  refine ⟨x, C, rfl, T, free, .inl ⟨s1 _ _ ex, fun dx hdx ne => ?_⟩⟩
  have o2 := o1.stored (o := exd dx [(f, v')]) (u := exo x C (some dx)) (by rw [ex]; exact Option.some_ne_none _) hdx
  have sd : SameD H (upd (upd H1 dx (exd dx [(f, v')])) x (exo x C (some dx))) := (SameD.of s1).trans (sameD_err (s1 _ _ ex) hdx)
  show tErrSet K g (tVar 0) (tCall (spCopy K n) [] E0 (tCons (tVar 2) tNil)) { nx := fun _ H2 => Q .non H2, rt := Q } _ _
  refine r_errSet ?_
  refine r_call ?_
  refine r_cons ?_
  refine r_var rfl ?_
  refine r_nil ?_
  refine ⟨u, e, rfl, Dp.laterD sd hu, hde, fun u' H2 s2 o3 => ?_⟩
  refine r_var rfl ?_
  have ed2 : H2 dx = some (exd dx [(f, v')]) := s2 _ _ (by rw [upd_ne ne, upd_same])
  refine ⟨x, C, rfl, T, freeg, .inr ⟨dx, [(f, v')], s2 _ _ upd_same, ed2, by show 1 ≤ 900; decide, ?_⟩⟩
  have hdx0 : H dx = none := s1.free hdx
  have kp : Keep x H H2 := (Keep.own (Keep.new (Keep.same s1) hdx)).trans (Keep.same s2)
  have ndx : ∀ {a : Addr} {z : HO}, (∃ xs, z = .lst xs ∨ z = .tup xs) → H2 a = some z → a ≠ dx := fun {a z} l h => at_ne ed2 h (exd_lt l)
  refine k dx v' u' _ (by rw [upd_ne (Ne.symm ne)]; exact s2 _ _ upd_same) upd_same hdx0 ne (fun b o nb hbo => ?_) ((o2.later s2).mono (fun _ n _ => n) fun a z n q l => by rw [upd_ne (ndx l q)]; exact q) ?_
  · rw [upd_ne (ne_of_none hbo hdx0)]
    exact kp b o nb hbo
  · refine o3.mono (fun a n _ => ?_) fun a z n q l => by rw [upd_ne (ndx l q)]; exact q
    have na : a ≠ x := fun z => by rw [z, upd_same] at n; cases n
    have nd : a ≠ dx := fun z => by rw [z, upd_ne ne, upd_same] at n; cases n
    rw [upd_ne na, upd_ne nd] at n
    exact s1.free n
/-- C(e) in the raiser's heap: a new dict with a copy -/
theorem r_err1 {σ : L2.St} {H : Hp} {Q : XK} {v : V} {d : PyData} (hv : Dp K H v d) (hd : Deep n d) (q : ∀ (dd : Addr) (v' : V) (H' : Hp), Same H H' → H dd = none → H' dd = some (.xd [(f, v')]) → Own H H' v' d → Q (.ref C) (some dd) H') :
    [v].length ≤ 1000 ∧ ∀ x, H x = none → spErr1 K n C f (.ref x :: [v]) (upd H x (exo x C none)) (fun v H2 => v = .non ∧ ∃ (d : Addr) (fs : List (Str × V)), H2 x = some (exo x C (some d)) ∧ H2 d = some (exd d fs) ∧ H d = none ∧ Q (.ref C) (some d) (upd (del H2 x) d (.xd fs))) (fun _ _ _ => False) := by
  refine ⟨by show 1 ≤ 1000; decide, fun x hx => ?_⟩
  have s0 : Same H (upd H x (exo x C none)) := Same.up (Same.refl H) hx
  refine ⟨x, v, d, rfl, upd_same, Dp.later s0 hv, hd, fun dx v' H' h1 h2 h3 ne h4 h5 => ⟨rfl, dx, _, h1, h2, ?_, ?_⟩⟩
  · rw [upd_ne ne] at h3; exact h3
  · rw [upd_ne ne] at h3
    refine q dx v' _ (fun b o e => ?_) h3 upd_same (h5.mono (fun a n _ => s0.free n) fun a z n e l => ?_)
    · have nb : b ≠ x := ne_of_none e hx
      rw [upd_ne (ne_of_none e h3), del_ne nb]
      exact h4 b o nb (s0 b o e)
    · have na : a ≠ x := fun z => by rw [z, upd_same] at n; cases n
      rw [upd_ne (at_ne h2 e (exd_lt l)), del_ne na]
      exact e
theorem r_err2 {σ : L2.St} {H : Hp} {Q : XK} {v u : V} {d e : PyData} (hv : Dp K H v d) (hd : Deep n d) (hu : Dp K H u e) (he : Deep n e)
    (q : ∀ (dd : Addr) (v' u' : V) (H' : Hp), Same H H' → H dd = none → H' dd = some (.xd [(g, u'), (f, v')]) → Own H H' v' d → Own H H' u' e → Q (.ref C) (some dd) H') :
    [v, u].length ≤ 1000 ∧ ∀ x, H x = none → spErr2 K n C f g (.ref x :: [v, u]) (upd H x (exo x C none)) (fun v H2 => v = .non ∧ ∃ (d : Addr) (fs : List (Str × V)), H2 x = some (exo x C (some d)) ∧ H2 d = some (exd d fs) ∧ H d = none ∧ Q (.ref C) (some d) (upd (del H2 x) d (.xd fs))) (fun _ _ _ => False) := by
  refine ⟨by show 2 ≤ 1000; decide, fun x hx => ?_⟩
  have s0 : Same H (upd H x (exo x C none)) := Same.up (Same.refl H) hx
  refine ⟨x, v, u, d, e, rfl, upd_same, Dp.later s0 hv, hd, Dp.later s0 hu, he, fun dx v' u' H' h1 h2 h3 ne h4 h5 h6 => ⟨rfl, dx, _, h1, h2, ?_, ?_⟩⟩
  · rw [upd_ne ne] at h3; exact h3
  · rw [upd_ne ne] at h3
    have keep : ∀ a z, upd H x (exo x C none) a = none → H' a = some z → (∃ xs, z = .lst xs ∨ z = .tup xs) → upd (del H' x) dx (.xd [(g, u'), (f, v')]) a = some z := fun a z n e l => by
      have na : a ≠ x := fun z => by rw [z, upd_same] at n; cases n
      rw [upd_ne (at_ne h2 e (exd_lt l)), del_ne na]
      exact e
    refine q dx v' u' _ (fun b o e => ?_) h3 upd_same (h5.mono (fun a n _ => s0.free n) keep) (h6.mono (fun a n _ => s0.free n) keep)
    have nb : b ≠ x := ne_of_none e hx
    rw [upd_ne (ne_of_none e h3), del_ne nb]
    exact h4 b o nb (s0 b o e)
end
end Pk
set_option Elab.async false
set_option linter.all false
set_option maxRecDepth 100000
set_option maxHeartbeats 1000000
namespace Pk
open PySem L2 PySem.Spec PyProof.Rows
/-- a def x of the text, at f, with its promise -/
structure Df1 (P : Program) (w : World) (K : PySem.W.Frag) (mg : Str → Option Value) (base : Heap) (CX : CXT) (x : Str) (k : Nat) (ps : List Str) (sp : Sp) (f : Addr) (fd : FuncData) : Prop where
  at_ : mg x = some (.ref f)
  kp : PySem.W.keepIn K (.ref f) = true
  bd : Binds K fd ps []
  ok : FnOk P w K mg base CX k f fd ps sp
/-- an error class x of the text, at C, with the promise of its __init__ -/
structure De1 (P : Program) (w : World) (K : PySem.W.Frag) (mg : Str → Option Value) (base : Heap) (x : Str) (k : Nat) (sp : Sp) (C fI : Addr) : Prop where
  at_ : mg x = some (.ref C)
  cls : ErrC K C
  ini : PySem.W.findIn K (.ref C) "__init__" = some (some (.ref fI))
  fn : PySem.W.typeIn K (.ref fI) = some (.type "function")
  ok : ErrOk P w K mg base k C fI sp
  xf : XfC K C
  xm : PySem.W.exmOne K (.ref C) (.ref C) = some true
abbrev Df (P : Program) (w : World) (K : PySem.W.Frag) (mg : Str → Option Value) (base : Heap) (CX : CXT) (x : Str) (k : Nat) (ps : List Str) (sp : Sp) : Prop := ∃ f fd, Df1 P w K mg base CX x k ps sp f fd
abbrev De (P : Program) (w : World) (K : PySem.W.Frag) (mg : Str → Option Value) (base : Heap) (x : Str) (k : Nat) (sp : Sp) (C : Addr) : Prop := ∃ fI, De1 P w K mg base x k sp C fI
section
variable {X : Cx} {CX : CXT} {x : Str} {k j : Nat} {ps : List Str} {sp : Sp} {e : Expr} {es : List Expr} {t : TA} {p pos : Pos} {W : WX} {C : Addr}
/-- a call of what raises nothing -/
theorem pe_df (D : Df X.prog X.w X.K X.mg X.base CX0 x k ps sp) (hr : Room j X.A) (l : k ≤ j) (ha : PA X (e :: es) t) (hg : Gl X x := by rfl) (hdb : (x == ("__debug__" : Str)) = false := by decide)
    (he : starEach (e :: es) X.env = (false, eval e X.env) :: starEach es X.env := by rfl) (hpl : (backTo pos (starEach es X.env)).any (·.1) = false := by rfl) : PE X (.Call (.Name x p) (e :: es) [] pos) (tCall sp [] E0 t) :=
  let ⟨_, _, D⟩ := D; pe_call D.ok (hr.mono l) hg D.at_ D.kp D.bd .nil pass0 ha hdb he hpl
/-- .. of what may raise, and does not here -/
theorem pe_dfL (D : Df X.prog X.w X.K X.mg X.base (L2.CX X.prog X.w) x k ps sp) (hr : Room j X.A) (l : k ≤ j) (ha : PA X (e :: es) t) (hg : Gl X x := by rfl) (hdb : (x == ("__debug__" : Str)) = false := by decide)
    (he : starEach (e :: es) X.env = (false, eval e X.env) :: starEach es X.env := by rfl) (hpl : (backTo pos (starEach es X.env)).any (·.1) = false := by rfl) : PE X (.Call (.Name x p) (e :: es) [] pos) (tCall sp [] E0 t) :=
  let ⟨_, _, D⟩ := D; pe_call D.ok (hr.mono l) hg D.at_ D.kp D.bd .nil passL ha hdb he hpl
/-- .. where what is raised is taken: within a try, or by a def that lets it out -/
theorem pe_dfS (tk : Takes X W) (D : Df X.prog X.w X.K X.mg X.base (L2.CX X.prog X.w) x k ps sp) (hr : Room j X.A) (l : k ≤ j) (ha : PA X (e :: es) t) (hg : Gl X x := by rfl) (hdb : (x == ("__debug__" : Str)) = false := by decide)
    (he : starEach (e :: es) X.env = (false, eval e X.env) :: starEach es X.env := by rfl) (hpl : (backTo pos (starEach es X.env)).any (·.1) = false := by rfl) : PE X (.Call (.Name x p) (e :: es) [] pos) (tCallS sp (WE W) t) :=
  let ⟨_, _, D⟩ := D; pe_callS D.ok (hr.mono l) hg D.at_ D.kp D.bd (fun σ => passAt tk σ) ha hdb he hpl
/-- raise x(e, ..) -/
theorem ps_rse {spos : Pos} (hc : X.calm = true) (tk : Takes X W) (D : De X.prog X.w X.K X.mg X.base x k sp C) (hr : Room j X.A) (l : k + 1 ≤ j) (ha : PA X (e :: es) t) (hg : Gl X x := by rfl) (hdb : (x == ("__debug__" : Str)) = false := by decide)
    (he : starEach (e :: es) X.env = (false, eval e X.env) :: starEach es X.env := by rfl) (hpl : (backTo pos (starEach es X.env)).any (·.1) = false := by rfl) :
    PS X (.Raise (some (.Call (.Name x p) (e :: es) [] pos)) none spos) (fun _ σ H => tMkErr C sp t σ H fun cls d H' => W cls d σ H') := let ⟨_, D⟩ := D; ps_raise hc tk (pmk_err D.cls D.ini D.fn D.ok (hr.mono l) hg D.at_ ha hdb he hpl)
end
section
variable {σ : L2.St} {H : Hp} {Q : VK} {ta tk : TA} {sp : Sp} {E : L2.St → XK} {D : Ends}
theorem r_callS (h : ta σ H fun vs H1 => sp vs H1 Q (E σ)) : tCallS sp E ta σ H Q := h
theorem r_callN {n m : Nat} {gV : List V → List V → List V} {E : XK} (h : ta σ H fun vs H1 => tk σ H1 fun zs H2 => vs.length = n ∧ zs.length = m ∧ sp (gV vs zs) H2 Q E) : tCallN n m sp gV E ta tk σ H Q := h
theorem r_mkErr {C : Addr} {R : XK} (h : ta σ H fun vs H1 => vs.length ≤ 1000 ∧ ∀ x, H1 x = none →
  sp (.ref x :: vs) (upd H1 x (exo x C none)) (fun v H2 => v = .non ∧ ∃ (d : Addr) (fs : List (Str × V)), H2 x = some (exo x C (some d)) ∧ H2 d = some (exd d fs) ∧ H1 d = none ∧ R (.ref C) (some d) (upd (del H2 x) d (.xd fs))) (fun _ _ _ => False)) : tMkErr C sp ta σ H R := h
theorem r_xf {a : Addr} {C dd : Addr} {f : Str} {te : TE} {fs : List (Str × V)} {v : V} (h : te σ H fun x H1 => x = .ref a ∧ Value.ref C = .ref C ∧ ∃ (d2 : Addr) (fs : List (Str × V)) (v : V), some dd = some d2 ∧ H1 d2 = some (.xd fs) ∧ fs.lookup f = some v ∧ Q v H1) : tXf a (.ref C) (some dd) C f te σ H Q := h
end
/-- f(e, .., k = v, ..) where what is raised is wished for at the caller's slots -/
def tKwS (n m : Nat) (sp : Sp) (gV : List V → List V → List V) (E : L2.St → XK) (t tk : TA) : TE := fun σ H Q => t σ H fun vs H1 => tk σ H1 fun zs H2 => vs.length = n ∧ zs.length = m ∧ sp (gV vs zs) H2 Q (E σ)
theorem r_kwS {σ : L2.St} {H : Hp} {Q : VK} {ta tk : TA} {sp : Sp} {n m : Nat} {gV : List V → List V → List V} {E : L2.St → XK} (h : ta σ H fun vs H1 => tk σ H1 fun zs H2 => vs.length = n ∧ zs.length = m ∧ sp (gV vs zs) H2 Q (E σ)) : tKwS n m sp gV E ta tk σ H Q := h
theorem pe_kwS {X : Cx} {CX : CXT} {k n : Nat} {f : Addr} {fd : FuncData} {ps ks : List Str} {sp : Sp} {E : L2.St → XK} {x : Str} {p pos : Pos} {e : Expr} {es : List Expr} {kws : List Keyword} {t tk : TA} {g : List Value → List Value → List Value} {gV : List V → List V → List V}
    (F : FnOk X.prog X.w X.K X.mg X.base CX k f fd ps sp) (hr : Room k X.A) (hm : X.mg x = some (.ref f)) (hk : PySem.W.keepIn X.K (.ref f) = true) (hb : KBn X.K fd ps n ks g gV) (hx : ∀ σ, PassesAt CX X σ (E σ)) (ha : PA X (e :: es) t) (hkw : PK X kws tk) (hg : Gl X x := by rfl)
    (hall : (backToKw pos (keywordEach kws X.env)).all (·.1.isSome) = true := by rfl) (hks : (backToKw pos (keywordEach kws X.env)).filterMap (·.1) = ks := by rfl) (hdb : (x == ("__debug__" : Str)) = false := by decide)
    (he : starEach (e :: es) X.env = (false, eval e X.env) :: starEach es X.env := by rfl) (hpl : ((backTo pos (starEach (e :: es) X.env)).any (·.1) || (backToKw pos (keywordEach kws X.env)).any (·.1.isNone)) = false := by rfl) :
    PE X (.Call (.Name x p) (e :: es) kws pos) (tKwS n ks.length sp gV E t tk) := by
  refine ⟨fun pins s σ H Q I h => wpAny_Call_Name_kw (ld_glob I hg hm (PySem.W.callWith_KW (h₀ := X.base) I.ok.mod.kin hk hall (thn (ha.run pos pins s σ H _ I h) fun us s1 ⟨vs, H1, I1, r, q⟩ => thn (hkw.run pos pins s1 σ H1 _ I1 q) fun ws s2 ⟨zs, H2, I2, rz, l1, l2, q2⟩ => ⟨I2.kIn, ?_⟩) hpl he) hdb)⟩
  rw [hks]
  refine wpAny_call (codeAny_mono (F.run X.A X.stack s2 H2 ⟨us, ks.zip ws⟩ (g us ws) (gV vs zs) Q (E σ) hr I2.env0 (hb.to s2 us ws I2.kIn (r.length.symm.trans l1) (rz.length.symm.trans l2)) (hb.rel r rz) q2) fun r s' hq => ?_)
  cases r with
  | error er => exact hx σ pins H2 s2 er s' I2 hq
  | ok fl =>
    cases fl with
    | ret u => exact I2.after hq
    | next => exact False.elim hq
    | brk => exact False.elim hq
    | cont => exact False.elim hq
/-- an own class x of the text, made by its __init__ -/
structure Dk1 (P : Program) (w : World) (K : PySem.W.Frag) (mg : Str → Option Value) (base : Heap) (CX : CXT) (x : Str) (k : Nat) (ps : List Str) (sp : Sp) (C fI : Addr) (fd : FuncData) : Prop where
  at_ : mg x = some (.ref C)
  mkc : Mk K C fI
  bd : Binds K fd ps []
  ok : FnOk P w K mg base CX k fI fd ps sp
abbrev Dk (P : Program) (w : World) (K : PySem.W.Frag) (mg : Str → Option Value) (base : Heap) (CX : CXT) (x : Str) (k : Nat) (ps : List Str) (sp : Sp) (C : Addr) : Prop := ∃ fI fd, Dk1 P w K mg base CX x k ps sp C fI fd
theorem pe_dkL {X : Cx} {x : Str} {k j : Nat} {ps : List Str} {sp : Sp} {e : Expr} {es : List Expr} {t : TA} {p pos : Pos} {C : Addr} (D : Dk X.prog X.w X.K X.mg X.base (L2.CX X.prog X.w) x k ps sp C) (hr : Room j X.A) (l : k + 1 ≤ j) (ha : PA X (e :: es) t) (hg : Gl X x := by rfl)
    (hdb : (x == ("__debug__" : Str)) = false := by decide) (he : starEach (e :: es) X.env = (false, eval e X.env) :: starEach es X.env := by rfl) (hpl : (backTo pos (starEach es X.env)).any (·.1) = false := by rfl) : PE X (.Call (.Name x p) (e :: es) [] pos) (tMake C sp [] E0 t) :=
  let ⟨_, _, D⟩ := D; pe_make D.mkc D.ok (hr.mono l) hg D.at_ D.bd .nil passL ha hdb he hpl
theorem look1 (f : Str) (v : V) : List.lookup f [(f, v)] = some v := by simp [List.lookup]
theorem look2 (f g : Str) (v u : V) (h : (f == g) = false) : List.lookup f [(g, u), (f, v)] = some v := by simp [List.lookup, h]
theorem look2' (f g : Str) (v u : V) : List.lookup g [(g, u), (f, v)] = some u := by simp [List.lookup]
/-- built-ins that the text does not name anew -/
structure Bt (mg : Str → Option Value) : Prop where
  int : mg "int" = none
  str : mg "str" = none
  bool : mg "bool" = none
  list : mg "list" = none
  tuple : mg "tuple" = none
  dict : mg "dict" = none
  len : mg "len" = none
  range : mg "range" = none
  isinstance : mg "isinstance" = none
  sum : mg "sum" = none
  max : mg "max" = none
  min : mg "min" = none
  sorted : mg "sorted" = none
  set : mg "set" = none
  super : mg "super" = none
  enumerate : mg "enumerate" = none
  zip : mg "zip" = none
  abs : mg "abs" = none
end Pk
set_option Elab.async false
set_option linter.all false
set_option maxRecDepth 100000
set_option maxHeartbeats 1000000
namespace Pk
open PySem L2 PySem.Spec PyProof.Rows PySem.W
/-- what the top holds of a def x -/
def DefAt (K : PySem.W.Frag) (x : Str) (st : Stmt) : Prop := ∃ (f : Addr) (oc : Value) (od : Option Addr) (kV dc pm : Value) (an : Option Addr) (cd ct : Value) (sl : Array (Option Value)),
  PySem.W.nsIn K mainGlobals x = some (some (.ref f)) ∧ K.lookup f = some ⟨oc, od, .func (PySem.W.fnOf x x (defArgs st) (defBody st) (defScope st) .none kV dc pm an cd ct), sl⟩ ∧ PySem.W.codeIn K cd x = true ∧ PySem.W.keepIn K (.ref f) = true
theorem DefAt.fn {K : PySem.W.Frag} {h : Heap} {mg : Str → Option Value} {x : Str} {st : Stmt} (X : K.In h) (G : h.Ns mainGlobals mg) (d : DefAt K x st) : ∃ f fd, Fun K x x st f fd ∧ mg x = some (.ref f) := by
  obtain ⟨f, oc, od, kV, dc, pm, an, cd, ct, sl, a, l, c, k⟩ := d
  exact ⟨f, _, fun_mk (st := st) l c k, PySem.W.mg_of X G a⟩
/-- .. of a method x of the class at C -/
def MethAt (K : PySem.W.Frag) (C : Addr) (x q : Str) (st : Stmt) : Prop := ∃ (f : Addr) (oc : Value) (od : Option Addr) (kV dc pm : Value) (an : Option Addr) (cd ct : Value) (sl : Array (Option Value)),
  PySem.W.findIn K (.ref C) x = some (some (.ref f)) ∧ K.lookup f = some ⟨oc, od, .func (PySem.W.fnOf x q (defArgs st) (defBody st) (defScope st) .none kV dc pm an cd ct), sl⟩ ∧ PySem.W.codeIn K cd q = true ∧ PySem.W.keepIn K (.ref f) = true ∧ PySem.W.isFn K (.ref f) = true
theorem MethAt.fn {K : PySem.W.Frag} {C : Addr} {x q : Str} {st : Stmt} (d : MethAt K C x q st) : ∃ f fd, Fun K x q st f fd ∧ Meth K C x f := by
  obtain ⟨f, oc, od, kV, dc, pm, an, cd, ct, sl, a, l, c, k, i⟩ := d
  exact ⟨f, _, fun_mk (st := st) l c k, ⟨a, i, k⟩⟩
/-- .. of a def x with one keyword-only default, a text -/
def DefAtK (K : PySem.W.Frag) (x k : Str) (z : Str) (st : Stmt) : Prop := ∃ (f D : Addr) (oc : Value) (od : Option Addr) (dc pm : Value) (an : Option Addr) (cd ct : Value) (sl : Array (Option Value)) (t : Tok),
  PySem.W.nsIn K mainGlobals x = some (some (.ref f)) ∧ K.lookup f = some ⟨oc, od, .func (PySem.W.fnOf x x (defArgs st) (defBody st) (defScope st) .none (.ref D) dc pm an cd ct), sl⟩ ∧ PySem.W.codeIn K cd x = true ∧ PySem.W.keepIn K (.ref f) = true ∧ PySem.W.nsIn K D k = some (some (.str z t))
theorem DefAtK.fn {K : PySem.W.Frag} {h : Heap} {mg : Str → Option Value} {x k z : Str} {st : Stmt} (X : K.In h) (G : h.Ns mainGlobals mg) (d : DefAtK K x k z st) : ∃ f fd, FunD K x x (defArgs st) (defBody st) (defScope st) [] [(k, .str z)] f fd ∧ mg x = some (.ref f) := by
  obtain ⟨f, D, oc, od, dc, pm, an, cd, ct, sl, t, a, l, c, kp, n⟩ := d
  refine ⟨f, _, ⟨⟨oc, od, .none, .ref D, dc, pm, an, cd, ct, sl, rfl, l, c, .inl ⟨rfl, rfl⟩, .inr ⟨D, rfl, fun q hq => ?_⟩⟩, kp⟩, PySem.W.mg_of X G a⟩
  rw [List.mem_singleton.mp hq]
  exact ⟨_, n, t, rfl⟩
/-- what the top holds of an error class x with an __init__ of its own (st) -/
structure ErrAt1 (P : Program) (K : PySem.W.Frag) (x q : Str) (st : Stmt) (C fI cc c : Addr) : Prop where
  at_ : PySem.W.nsIn K mainGlobals x = some (some (.ref C))
  cls : ∃ pe nm qn N bs sn sub ab col dd k0 k1 k2 k3 k5, K.lookup C = some (excClassObj nm qn C N bs (.ref pe :: arT) true sn sub ab col dd k0 k1 k2 k3 k5 "ArithmeticError.__new__")
  sa : PySem.W.findIn K (.ref C) "__setattr__" = some (some (.builtin "object.__setattr__"))
  exB : PySem.W.subIn K (.ref C) (.type "BaseException") = some true
  exA : PySem.W.subIn K (.ref C) (.type "ArithmeticError") = some true
  ty : PySem.W.typeIn K (.ref C) = some (.type "type")
  kp : PySem.W.keepIn K (.ref C) = true
  ini : PySem.W.findIn K (.ref C) "__init__" = some (some (.ref fI))
  fnt : PySem.W.typeIn K (.ref fI) = some (.type "function")
  fn : ∃ (oc : Value) (od : Option Addr) (kV doc pm : Value) (an : Option Addr) (ct : Value) (osl : Array (Option Value)), K.lookup fI = some ⟨oc, od, .func (PySem.W.fnX "__init__" q (defArgs st) (defBody st) (defScope st) [(("__class__" : Str), cc)] .none kV doc pm an (.ref c) ct), osl⟩
  code : PySem.W.codeIn K (.ref c) q = true
  cell : ∃ (a : Value) (b : Option Addr) (d : Array (Option Value)), K.lookup cc = some ⟨a, b, .cell (some (.ref C)), d⟩
  file : ∃ (a : Value) (b : Option Addr) (vs : Array Value) (d : Array (Option Value)) (f : Str) (t : Tok), K.lookup c = some ⟨a, b, .fields vs, d⟩ ∧ vs[2]? = some (.str f t) ∧ ((P.main.file : Str) == f) = true
  opq : PySem.W.nsIn K cStatics "thirdparty.any" = some none
  sup : PySem.W.ks_superIn K C C "__init__" = some (some (.builtin "ArithmeticError.__init__"))
  below : PySem.W.mroIn K C (.ref C) = some true
  ga : PySem.W.findIn K (.ref C) "__getattribute__" = some (some (.builtin "BaseException.__getattribute__"))
  gg : PySem.W.findIn K (.ref C) "__getattr__" = some none
  hd : PySem.W.hasDictIn K C = true
  isC : PySem.W.isClsIn K C = true
  own : PySem.W.subIn K (.ref C) (.ref C) = some true
theorem err_self {K : PySem.W.Frag} {S : Addr} (h1 : PySem.W.subIn K (.ref S) (.type "BaseException") = some true) (h2 : PySem.W.isClsIn K S = true) (h3 : PySem.W.typeIn K (.ref S) = some (.type "type")) (h4 : PySem.W.subIn K (.ref S) (.ref S) = some true) : PySem.W.exmOne K (.ref S) (.ref S) = some true := by
  have h5 : (PySem.W.clsIn K S).isSome = true := h2
  unfold PySem.W.exmOne PySem.W.kitCls
  simp only [h1, h3, h4, h5]
  rfl
section
variable {P : Program} {w : World} {K : PySem.W.Frag} {h : Heap} {mg : Str → Option Value} {base : Heap} {x q : Str} {st : Stmt} {C fI cc c : Addr}
theorem ErrAt1.errC (e : ErrAt1 P K x q st C fI cc c) : ErrC K C := ⟨e.cls, e.sa, e.exB, e.exA, e.ty, e.kp⟩
theorem ErrAt1.init (e : ErrAt1 P K x q st C fI cc c) (top : (P.main.scope.names.lookup ("super" : Str)).isSome = false) (self : ∃ q, ((defArgs st).posonlyargs ++ (defArgs st).args).head? = some { arg := "self", annotation := none, pos := q }) :
    InitFn P K C fI cc { name := "__init__", qual := q, params := defArgs st, body := defBody st, scope := defScope st, cl := [(("__class__" : Str), cc)], c := c } :=
  ⟨e.fn, e.code, rfl, e.cell, e.file, top, e.opq, self, e.sup, e.below⟩
theorem ErrAt1.de {k : Nat} {sp : Sp} (e : ErrAt1 P K x q st C fI cc c) (X : K.In h) (G : h.Ns mainGlobals mg) (o : ErrOk P w K mg base k C fI sp) : De P w K mg base x k sp C :=
  ⟨fI, PySem.W.mg_of X G e.at_, e.errC, e.ini, e.fnt, o, ⟨e.ga, e.gg, e.exB, e.hd⟩, err_self e.exB e.isC e.ty e.own⟩
end
def BtIn (K : PySem.W.Frag) : Prop := ∀ x, x ∈ (["int", "str", "bool", "list", "tuple", "dict", "len", "range", "isinstance", "sum", "max", "min", "sorted", "set", "super", "enumerate", "zip", "abs"] : List Str) → PySem.W.nsIn K mainGlobals x = some none
theorem BtIn.bt {K : PySem.W.Frag} {h : Heap} {mg : Str → Option Value} (X : K.In h) (G : h.Ns mainGlobals mg) (b : BtIn K) : Bt mg := by
  have g : ∀ x, x ∈ (["int", "str", "bool", "list", "tuple", "dict", "len", "range", "isinstance", "sum", "max", "min", "sorted", "set", "super", "enumerate", "zip", "abs"] : List Str) → mg x = none := fun x hx => PySem.W.mg_none_of X G (b x hx)
  constructor <;> exact g _ (by decide)
theorem DefAt.of {K : PySem.W.Frag} {x : Str} {st : Stmt} {f : Addr} {oc : Value} {od : Option Addr} {kV dc pm : Value} {an : Option Addr} {cd ct : Value} {sl : Array (Option Value)} (a : PySem.W.nsIn K mainGlobals x = some (some (.ref f)))
    (l : K.lookup f = some ⟨oc, od, .func (PySem.W.fnOf x x (defArgs st) (defBody st) (defScope st) .none kV dc pm an cd ct), sl⟩) (c : PySem.W.codeIn K cd x = true) (k : PySem.W.keepIn K (.ref f) = true) : DefAt K x st := ⟨_, _, _, _, _, _, _, _, _, _, a, l, c, k⟩
theorem DefAtK.of {K : PySem.W.Frag} {x y z : Str} {st : Stmt} {f D : Addr} {oc : Value} {od : Option Addr} {dc pm : Value} {an : Option Addr} {cd ct : Value} {sl : Array (Option Value)} {t : Tok} (a : PySem.W.nsIn K mainGlobals x = some (some (.ref f)))
    (l : K.lookup f = some ⟨oc, od, .func (PySem.W.fnOf x x (defArgs st) (defBody st) (defScope st) .none (.ref D) dc pm an cd ct), sl⟩) (c : PySem.W.codeIn K cd x = true) (k : PySem.W.keepIn K (.ref f) = true) (n : PySem.W.nsIn K D y = some (some (.str z t))) : DefAtK K x y z st := ⟨_, _, _, _, _, _, _, _, _, _, _, a, l, c, k, n⟩
theorem MethAt.of {K : PySem.W.Frag} {C : Addr} {x q : Str} {st : Stmt} {f : Addr} {oc : Value} {od : Option Addr} {kV dc pm : Value} {an : Option Addr} {cd ct : Value} {sl : Array (Option Value)} (a : PySem.W.findIn K (.ref C) x = some (some (.ref f)))
    (l : K.lookup f = some ⟨oc, od, .func (PySem.W.fnOf x q (defArgs st) (defBody st) (defScope st) .none kV dc pm an cd ct), sl⟩) (c : PySem.W.codeIn K cd q = true) (k : PySem.W.keepIn K (.ref f) = true) (i : PySem.W.isFn K (.ref f) = true) : MethAt K C x q st := ⟨_, _, _, _, _, _, _, _, _, _, a, l, c, k, i⟩
theorem ErrAt1.of {P : Program} {K : PySem.W.Frag} {x q : Str} {st : Stmt} {C fI cc c pe : Addr} {nm qn : Str} {N : Addr} {bs sn sub ab col dd k0 k1 k2 k3 k5} {oc1 : Value} {od1 : Option Addr} {kV dc pm : Value} {an : Option Addr} {ct : Value} {sl1 sl2 sl3 : Array (Option Value)} {v2 v3 : Value} {o2 o3 : Option Addr} {vs : Array Value} {fl : Str} {t : Tok}
    (at_ : PySem.W.nsIn K mainGlobals x = some (some (.ref C))) (cls : K.lookup C = some (excClassObj nm qn C N bs (.ref pe :: arT) true sn sub ab col dd k0 k1 k2 k3 k5 "ArithmeticError.__new__"))
    (sa : PySem.W.findIn K (.ref C) "__setattr__" = some (some (.builtin "object.__setattr__"))) (exB : PySem.W.subIn K (.ref C) (.type "BaseException") = some true) (exA : PySem.W.subIn K (.ref C) (.type "ArithmeticError") = some true) (ty : PySem.W.typeIn K (.ref C) = some (.type "type")) (kp : PySem.W.keepIn K (.ref C) = true)
    (ini : PySem.W.findIn K (.ref C) "__init__" = some (some (.ref fI))) (fnt : PySem.W.typeIn K (.ref fI) = some (.type "function")) (fn : K.lookup fI = some ⟨oc1, od1, .func (PySem.W.fnX "__init__" q (defArgs st) (defBody st) (defScope st) [(("__class__" : Str), cc)] .none kV dc pm an (.ref c) ct), sl1⟩)
    (code : PySem.W.codeIn K (.ref c) q = true) (cell : K.lookup cc = some ⟨v2, o2, .cell (some (.ref C)), sl2⟩) (file : K.lookup c = some ⟨v3, o3, .fields vs, sl3⟩) (file2 : vs[2]? = some (.str fl t)) (file3 : ((P.main.file : Str) == fl) = true) (opq : PySem.W.nsIn K cStatics "thirdparty.any" = some none)
    (sup : PySem.W.ks_superIn K C C "__init__" = some (some (.builtin "ArithmeticError.__init__"))) (below : PySem.W.mroIn K C (.ref C) = some true) (ga : PySem.W.findIn K (.ref C) "__getattribute__" = some (some (.builtin "BaseException.__getattribute__"))) (gg : PySem.W.findIn K (.ref C) "__getattr__" = some none)
    (hd : PySem.W.hasDictIn K C = true) (isC : PySem.W.isClsIn K C = true) (own : PySem.W.subIn K (.ref C) (.ref C) = some true) : ErrAt1 P K x q st C fI cc c :=
  ⟨at_, ⟨_, _, _, _, _, _, _, _, _, _, _, _, _, _, _, cls⟩, sa, exB, exA, ty, kp, ini, fnt, ⟨_, _, _, _, _, _, _, _, fn⟩, code, ⟨_, _, _, cell⟩, ⟨_, _, _, _, _, _, file, file2, file3⟩, opq, sup, below, ga, gg, hd, isC, own⟩
end Pk
set_option Elab.async false
set_option linter.all false
set_option maxRecDepth 100000
set_option maxHeartbeats 1000000
namespace Pk
open PySem L2 PySem.Spec PyProof.Rows
/-! ### operators of an own class, by its own methods -/
section
variable {X : Cx} {CX : CXT} {pins : List (Addr × Obj)} {σ : L2.St} {H : Hp} {s : Shared} {k : Nat} {f C : Addr} {fd : FuncData} {ps : List Str} {sp : Sp} {E : L2.St → XK} {Q : VK} {us : List Value} {vs : List V} {A' : Around}
/-- the run of a method in a room around -/
theorem own_run (F : FnOk X.prog X.w X.K X.mg X.base CX k f fd ps sp) (hr : Room k A') (e0 : Env0 X.prog X.w X.K X.mg X.base A' X.stack s H) (hb : Binds X.K fd ps []) (hx : PassesAt CX X σ (E σ)) (I : Inv X pins σ H s) (r : Vals vs us) (h : sp vs H Q (E σ)) :
    wpAny (model X.prog X.w) A' (call (.ref f) us) (EP X pins σ Q) X.xe s := by
  have n : us.length = ps.length := r.length ▸ F.len _ _ _ _ h
  have b := hb s us I.kIn (by simpa using n)
  rw [List.append_nil] at b
  refine wpAny_call (codeAny_mono (F.run A' X.stack s H ⟨us, []⟩ us vs Q (E σ) hr e0 b r h) ?_)
  intro z s' hz
  rcases z with e | fl
  · exact hx pins H s e s' I hz
  · cases fl with
    | ret u => exact I.after hz
    | next => exact hz.elim
    | brk => exact hz.elim
    | cont => exact hz.elim
/-- the instance that stands at a -/
theorem own_at {a dx : Addr} {fs : List (Str × V)} (I : Inv X pins σ H s) (ha : H a = some (.ins C dx fs)) : ∃ ox od, PySem.W.InstAt s.heap a ox C (some od) := by
  obtain ⟨mA, J, _⟩ := ins_get I.hok ha
  obtain ⟨od, J, _⟩ := J.look
  exact ⟨_, od, J⟩
/-- e1 ⊕ e2, at the slots -/
def tOp2 (r : (L2.St → XK) → L2.St → V → V → Hp → VK → Prop) (E : L2.St → XK) (ta tb : TE) : TE := fun σ H Q => ta σ H fun x H1 => tb σ H1 fun y H2 => r E σ x y H2 Q
/-- the method's promise, of the instance x of C and y -/
def rOwn2 (C : Addr) (sp : Sp) : (L2.St → XK) → L2.St → V → V → Hp → VK → Prop := fun E σ x y H Q => ∃ a dx fs, x = .ref a ∧ H a = some (.ins C dx fs) ∧ sp [x, y] H Q (E σ)
/-- .. and the two are of the one class, or y is of a class that C is no base of -/
def OtherT (K : PySem.W.Frag) (C : Addr) (H : Hp) (y : V) : Prop := (∃ b dy gs, y = .ref b ∧ H b = some (.ins C dy gs)) ∨ (∃ T : String, TyX K H y (.type T) ∧ PySem.W.subIn K (.type T) (.ref C) = some false)
theorem ty_looks {y : V} {u t : Value} {M : Model} (I : Inv X pins σ H s) (ry : RelV y u) (ty : TyX X.K H y t) : PySem.W.Looks M s.heap (typeOf u) t := by
  obtain ⟨P, kx, hp, _⟩ := kit_of I ry ty
  exact kx.ty M s.heap I.kIn hp
theorem other_looks {y : V} {u : Value} {M : Model} (I : Inv X pins σ H s) (ry : RelV y u) (o : OtherT X.K C H y) (one : ∀ b dy gs, y = .ref b → H b = some (.ins C dy gs) → True) : ∃ tb, PySem.W.Looks M s.heap (typeOf u) tb ∧ PySem.W.notFirst X.K C tb = true := by
  rcases o with ⟨b, dy, gs, rfl, hb⟩ | ⟨T, ty, hs⟩
  · cases ry
    obtain ⟨ox, od, J⟩ := own_at I hb
    exact ⟨.ref C, J.type, by simp [PySem.W.notFirst]⟩
  · exact ⟨.type T, ty_looks I ry ty, by simp [PySem.W.notFirst, hs]⟩
/-- what an own method of two places must be -/
structure Two (X : Cx) (CX : CXT) (k : Nat) (C : Addr) (m : Str) (sp : Sp) : Prop where
  ex : ∃ (f : Addr) (fd : FuncData) (ps : List Str), Meth X.K C m f ∧ FnOk X.prog X.w X.K X.mg X.base CX k f fd ps sp ∧ Binds X.K fd ps []
/-- x == y, x < y, .. by the own method -/
def rOwnC (K : PySem.W.Frag) (C : Addr) (sp : Sp) : (L2.St → XK) → L2.St → V → V → Hp → VK → Prop := fun E σ x y H Q => ∃ a dx fs, x = .ref a ∧ H a = some (.ins C dx fs) ∧ OtherT K C H y ∧ sp [x, y] H Q (E σ)
theorem pe_cmpOwn {op : CmpOp} {a b : Expr} {ta tb : TE} {pos : Pos} (hop : ∀ a b, compareOp op a b = richCompare op a b) (F : Two X CX k C (cmpInfo op).2.1 sp) (hr : Room k X.A) (hx : ∀ σ, PassesAt CX X σ (E σ)) (ha : PE X a ta) (hb : PE X b tb) (hm : behindInMarks op b = false) :
    PE X (.Compare a [op] [b] pos) (tOp2 (rOwnC X.K C sp) E ta tb) := by
  obtain ⟨f, fd, ps, M, F, B⟩ := F.ex
  refine ⟨fun pins s σ H Q I h => ?_⟩
  refine wpAny_Compare1 (binT ha hb I h fun v u s2 x y H2 I2 rx ry q => ?_) hm
  obtain ⟨a, dx, fs, rfl, e, o, q⟩ := q
  cases rx
  obtain ⟨ox, od, J⟩ := own_at I2 e
  obtain ⟨tb, L, nf⟩ := other_looks (M := model X.prog X.w) I2 ry o fun _ _ _ _ _ => trivial
  obtain ⟨m, hF⟩ := I2.fr
  rw [hop]
  refine PySem.W.cmp_K (op := op) hr.units0 hF I2.ok.mod.kin J L nf M.at_ M.fn ?_
  refine wpAny_mono (own_run (us := [.ref a, u]) (vs := [.ref a, y]) F hr I2.env0 B (hx σ) I2 (.cons rfl (.cons ry .nil)) q) (fun w s' z => ?_) fun _ _ z => z
  obtain ⟨z, H3, I3, rz, qz⟩ := z
  exact SlX.cmpback rz ⟨z, H3, I3, rz, qz⟩
/-- y in x by the own __contains__ -/
def rOwnIn (C : Addr) (sp : Sp) (neg : Bool) : (L2.St → XK) → L2.St → V → V → Hp → VK → Prop := fun E σ y x H Q => ∃ a dx fs, x = .ref a ∧ H a = some (.ins C dx fs) ∧ sp [x, y] H (fun z H' => ∃ c, z = .bl c ∧ Q (.bl (if neg then !c else c)) H') (E σ)
theorem pe_inOwn {a b : Expr} {ta tb : TE} {pos : Pos} (F : Two X CX k C "__contains__" sp) (hr : Room k X.A) (hx : ∀ σ, PassesAt CX X σ (E σ)) (ha : PE X a ta) (hb : PE X b tb) (hm : behindInMarks .In b = false) :
    PE X (.Compare a [.In] [b] pos) (tOp2 (rOwnIn C sp false) E ta tb) := by
  obtain ⟨f, fd, ps, M, F, B⟩ := F.ex
  refine ⟨fun pins s σ H Q I h => ?_⟩
  refine wpAny_Compare1 (binT ha hb I h fun v u s2 y x H2 I2 ry rx q => ?_) hm
  obtain ⟨a, dx, fs, rfl, e, q⟩ := q
  cases rx
  obtain ⟨ox, od, J⟩ := own_at I2 e
  obtain ⟨m, hF⟩ := I2.fr
  refine PySem.W.in_K hF I2.ok.mod.kin J M.at_ M.fn ?_
  refine wpAny_mono (own_run (us := [.ref a, v]) (vs := [.ref a, y]) F hr I2.env0 B (hx σ) I2 (.cons rfl (.cons ry .nil)) q) (fun w s' z => ?_) fun _ _ z => z
  obtain ⟨z, H3, I3, rz, c, rfl, qz⟩ := z
  cases (show w = Value.bool c from rz)
  exact wpAny_pure ⟨.bl c, H3, I3, rfl, qz⟩
/-- len(x) by the own __len__ -/
def rOwnLen (C : Addr) (sp : Sp) : (L2.St → XK) → L2.St → List V → Hp → VK → Prop := fun E σ xs H Q => ∃ a dx fs, xs = [.ref a] ∧ H a = some (.ins C dx fs) ∧ sp xs H (fun z H' => ∃ n : Nat, z = .int n ∧ n < 2 ^ 63 ∧ Q (.int n) H') (E σ)
theorem call_lenOwn {D : XK} (F : Two X CX k C "__len__" sp) (hr : Room (k + 1) X.A) (hx : Passes CX X D) : CallR X (.builtin "len") (rOwnLen C sp (fun _ => D) []) := by
  obtain ⟨f, fd, ps, M, F, B⟩ := F.ex
  intro pins s σ H xs us Q I r q
  obtain ⟨a, dx, fs, rfl, e, q⟩ := q
  cases r with
  | cons r1 r2 =>
    cases r2
    cases r1
    obtain ⟨ox, od, J⟩ := own_at I e
    obtain ⟨m, hF⟩ := I.fr
    refine PySem.W.len_K hF I.ok.mod.kin J M.at_ M.fn ?_
    refine wpAny_mono (own_run (us := [.ref a]) (vs := [.ref a]) (E := fun _ => D) F hr.in1 I.env0.in1 B (fun pins H s e s' I z => hx pins σ H s e s' I z) I (.cons rfl .nil) q) (fun w s' z => ?_) fun _ _ z => z
    obtain ⟨z, H3, I3, rz, n, rfl, hn, qz⟩ := z
    obtain ⟨t, rfl⟩ := (show ∃ t, w = Value.int n t from rz)
    refine ⟨⟨by omega, by omega⟩, ?_⟩
    exact ⟨.int n, H3, I3.tok _, ⟨_, rfl⟩, qz⟩
/-- x[y] by the own __getitem__ -/
theorem pe_ixOwn {a b : Expr} {ta tb : TE} {pos : Pos} (F : Two X CX k C "__getitem__" sp) (fi : ∀ f, PySem.W.findIn X.K (.ref C) "__getitem__" = some (some (.ref f)) → PySem.W.fnIn X.K f = true) (hr : Room (k + 1) X.A) (hx : ∀ σ, PassesAt CX X σ (E σ)) (ha : PE X a ta) (hb : PE X b tb)
    (hs : ∀ x i, subscripted b true (.ref x) i = runValue (.builtin "lifetime.subscript" ⟨[.ref x, i], []⟩)) :
    PE X (.Subscript a b pos) (tOp2 (rOwn2 C sp) E ta tb) := by
  obtain ⟨f, fd, ps, M, F, B⟩ := F.ex
  refine ⟨fun pins s σ H Q I h => ?_⟩
  refine Subscript_ (binT ha hb I h fun v u s2 x y H2 I2 rx ry q => ?_)
  obtain ⟨c, dx, fs, rfl, e, q⟩ := q
  cases rx
  obtain ⟨ox, od, J⟩ := own_at I2 e
  obtain ⟨m, hF⟩ := I2.fr
  refine PySem.W.sub_K hF I2.ok.mod.kin J M.at_ (fi f M.at_) M.fn ?_ (hs _ _)
  exact own_run (us := [.ref c, u]) (vs := [.ref c, y]) F hr.in1 I2.env0.in1 B (hx σ) I2 (.cons rfl (.cons ry .nil)) q
end
section
open PySem.W PySem.Calls
variable {prog : Program} {w : World} {A : Around} {E : Value → Shared → Prop} {s : Shared} {K : Frag} {x f C : Addr} {ox : Obj} {od : Option Obj}
/-- x ⊕ b by the own method: b is of the one class, or of a built-in one -/
theorem bin_by_own {op : Operator} {b tb : Value} {Q : Value → Shared → Prop} (X : K.In s.heap) (I : InstAt s.heap x ox C od) (hb : Looks (model prog w) s.heap (typeOf b) tb) (hc : selfFirst K C = true)
    (hs : findIn K (.ref C) (PySem.dunder op.info.2) = some (some (.ref f))) (hf : isFn K (.ref f) = true) (hr : ∃ rc, findIn K (.ref C) (dunderR op.info.2) = some rc ∧ (rc = none ∨ ∃ g : Addr, rc = some (.ref g)))
    (ht : tb = .ref C ∨ ∃ (T : String) (fo ro : Option Value), tb = .type T ∧ findIn K (.type T) (PySem.dunder op.info.2) = some fo ∧ findIn K (.type T) (dunderR op.info.2) = some ro ∧ subIn K (.type T) (.ref C) = some false)
    (h : wpAny (model prog w) A (call (.ref f) [.ref x, b]) (PySem.W.CmpBack Q) E s) : wpAny (model prog w) A (binaryOp op (.ref x) b) Q E s := by
  obtain ⟨cd, rest, hcd, hm⟩ := ksp_first hc
  obtain ⟨rc, hr, hp⟩ := hr
  rcases hi : op.info with ⟨sym, nm'⟩
  rw [hi] at hs hr ht
  dsimp only at hs hr ht
  have one := ksp_try X I hs hf h
  obtain ⟨hh, g, d, tt, os⟩ := s
  have a1 : Looks (model prog w) hh (typeOf (.ref x)) (.ref C) := I.type
  have a2 : Looks (model prog w) hh (typeOf b) tb := hb
  have a3 : Looks (model prog w) hh (fillsNumberSlot (.ref C) nm') true := fills_K X hcd hm hs
  have a6 : Looks (model prog w) hh (numberSlotInPython (.ref C) nm') true := ksp_inPy X hs hr hp
  simp only [binaryOp, hi]
  refine wpAny_holding (wpAny_bind ?_)
  unfold binaryOp1
  refine wpAny_bind (a1.at (wpAny_bind (a2.at (wpAny_bind (a3.at ?_)))))
  rcases ht with rfl | ⟨T, fo, ro, rfl, h1, h2, hsub⟩
  · simp only [beq_self_eq_true, if_true]
    ksp_lk
    refine wpAny_mono one (fun r s' hr' => ?_) fun _ _ e => e
    obtain ⟨v, rfl, hq⟩ := hr'
    ksp_lk
    exact hq
  · have a4 := ksp_fillsT (M := model prog w) X h1 h2
    have a5 : Looks (model prog w) hh (isSubtype (.type T) (.ref C)) false := looks_subIn X hsub
    have a7 : Looks (model prog w) hh (numberSlotInPython (.type T) nm') false := Looks.of_pure rfl
    have a8 : Looks (model prog w) hh (typeLookup (.type T) (dunderR nm')) ro := looks_findIn X h2
    generalize ((fo.isSome && !isSeqSlot fo) || (ro.isSome && !isSeqSlot ro)) = right at a4
    have ne : (Value.ref C == Value.type T) = false := Bool.eq_false_iff.mpr fun q => by cases beq_iff_eq.mp q
    simp only [ne, Bool.false_eq_true, if_false]
    cases right with
    | false =>
      ksp_lk
      refine wpAny_mono one (fun r s' hr' => ?_) fun _ _ e => e
      obtain ⟨v, rfl, hq⟩ := hr'
      ksp_lk
      exact hq
    | true =>
      ksp_lk
      refine wpAny_mono one (fun r s' hr' => ?_) fun _ _ e => e
      obtain ⟨v, rfl, hq⟩ := hr'
      ksp_lk
      exact hq
end
section
variable {X : Cx} {CX : CXT} {k : Nat} {C : Addr} {sp : Sp} {E : L2.St → XK}
/-- what the other one may be in x ⊕ y -/
def OtherB (K : PySem.W.Frag) (C : Addr) (H : Hp) (nm : String) (y : V) : Prop := (∃ b dy gs, y = .ref b ∧ H b = some (.ins C dy gs)) ∨
  (∃ (T : String) (fo ro : Option Value), TyX K H y (.type T) ∧ PySem.W.findIn K (.type T) (PySem.dunder nm) = some fo ∧ PySem.W.findIn K (.type T) (dunderR nm) = some ro ∧ PySem.W.subIn K (.type T) (.ref C) = some false)
def rOwnB (K : PySem.W.Frag) (C : Addr) (nm : String) (sp : Sp) : (L2.St → XK) → L2.St → V → V → Hp → VK → Prop := fun E σ x y H Q => ∃ a dx fs, x = .ref a ∧ H a = some (.ins C dx fs) ∧ OtherB K C H nm y ∧ sp [x, y] H Q (E σ)
/-- x ⊕ y by the own method -/
theorem pe_binOwn {op : Operator} {a b : Expr} {ta tb : TE} {pos : Pos} (F : Two X CX k C (PySem.dunder op.info.2) sp) (hc : PySem.W.selfFirst X.K C = true) (hrc : ∃ rc, PySem.W.findIn X.K (.ref C) (dunderR op.info.2) = some rc ∧ (rc = none ∨ ∃ g : Addr, rc = some (.ref g)))
    (hr : Room k X.A) (hx : ∀ σ, PassesAt CX X σ (E σ)) (ha : PE X a ta) (hb : PE X b tb) : PE X (.BinOp a op b pos) (tOp2 (rOwnB X.K C op.info.2 sp) E ta tb) := by
  obtain ⟨f, fd, ps, M, F, B⟩ := F.ex
  refine ⟨fun pins s σ H Q I h => ?_⟩
  refine wpAny_BinOp (binT ha hb I h fun v u s2 x y H2 I2 rx ry q => ?_)
  obtain ⟨a, dx, fs, rfl, e, o, q⟩ := q
  cases rx
  obtain ⟨ox, od, J⟩ := own_at I2 e
  have run := wpAny_mono (own_run (us := [.ref a, u]) (vs := [.ref a, y]) F hr I2.env0 B (hx σ) I2 (.cons rfl (.cons ry .nil)) q) (Q' := PySem.W.CmpBack (EP X pins σ Q)) (fun w s' z => by
    obtain ⟨z, H3, I3, rz, qz⟩ := z
    exact SlX.cmpback rz ⟨z, H3, I3, rz, qz⟩) fun _ _ z => z
  rcases o with ⟨b, dy, gs, rfl, eb⟩ | ⟨T, fo, ro, ty, h1, h2, h3⟩
  · cases ry
    obtain ⟨oy, oe, J'⟩ := own_at I2 eb
    exact bin_by_own I2.kIn J J'.type hc M.at_ M.fn hrc (.inl rfl) run
  · exact bin_by_own I2.kIn J (ty_looks I2 ry ty) hc M.at_ M.fn hrc (.inr ⟨T, fo, ro, rfl, h1, h2, h3⟩) run
/-- what raises nothing here -/
theorem passN (hx : Passes CX X E0) : ∀ σ, PassesAt CX X σ ((fun _ => E0 : L2.St → XK) σ) := fun σ pins H s e s' I c => hx pins σ H s e s' I c
end
section
open PySem.W PySem.Calls
variable {prog : Program} {w : World} {A : Around} {E : Value → Shared → Prop} {s : Shared} {K : Frag} {x f C : Addr} {ox : Obj} {od : Option Obj} {b tb : Value}
/-- what object's != does where an own == stands -/
theorem ne_body (hu : A.units < cLine) (X : K.In s.heap) (I : InstAt s.heap x ox C od) (he : findIn K (.ref C) "__eq__" = some (some (.ref f))) (hf : isFn K (.ref f) = true) {Q : Fin → Shared → Prop}
    (h : wpAny (model prog w) A (call (.ref f) [.ref x, b]) (fun v s' => ∃ c, v = .bool c ∧ Q (.done (.ret (.bool (!c)))) s') E s) : wpAny (model prog w) A (Builtin.«object.__ne__» ⟨[.ref x, b], []⟩) Q E s := by
  unfold Builtin.«object.__ne__»
  repeat (first
    | with_reducible refine wpAny_cRoomFor hu ?_
    | (refine wpAny_bind (m := callSpecialIfBound? (.ref x) (Str.ofString "__eq__") [b]) (ifBound_K X I he hf (wpAny_mono h (fun r s' hr => by
          obtain ⟨c, rfl, hq⟩ := hr
          repeat (first | exact hq | exact wpAny_pure hq | exact wpAny_truthy_bool hq | (refine wpAny_bind (m := truthy (.bool _)) (wpAny_truthy_bool ?_)) | wp_step)) fun _ _ e => e)))
    | wp_step)
/-- x != b by the own == -/
theorem ne_by_eq (hu : A.in1.units < cLine) (hu0 : A.units < cLine) (X : K.In s.heap) (I : InstAt s.heap x ox C od) (hb : Looks (model prog w) s.heap (typeOf b) tb) (hn : notFirst K C tb = true) (hm : mroIn K C (.type "object") = some true)
    (hs : findIn K (.ref C) "__ne__" = some (some (.builtin "object.__ne__"))) (he : findIn K (.ref C) "__eq__" = some (some (.ref f))) (hf : isFn K (.ref f) = true) {Q : Value → Shared → Prop}
    (h : wpAny (model prog w) A.in1 (call (.ref f) [.ref x, b]) (fun v s' => ∃ c, v = .bool c ∧ Q (.bool (!c)) s') E s) : wpAny (model prog w) A (richCompare .NotEq (.ref x) b) Q E s := by
  have inner : ∀ {R : Value → Shared → Prop}, (∀ c s', Q (.bool c) s' → R (.bool c) s') → wpAny (model prog w) A (call (.builtin "object.__ne__") [.ref x, b]) R E s := fun {R} hR =>
    wpAny_call (codeAny_call_builtin F.cmp_object.ne.plain F.cmpEntry_ne (check_slot F.cmpKind_ne F.cmpSplit_ne (I.type.andThen (looks_mroIn X hm)) (F.cmpArgs_ne _ _)
      (ne_body hu X I he hf (wpAny_mono h (fun v s' z => by
        obtain ⟨c, e, q⟩ := z
        exact ⟨c, e, hR _ _ q⟩) fun _ _ e => e))))
  have one : wpAny (model prog w) A (tryCompare (.ref x) "__ne__" b) (fun r s' => ∃ v, r = some v ∧ Q v s') E s := by
    unfold tryCompare
    simp only [callSpecialIfBound?, bindSpecialIfBound?]
    refine wpAny_bind (wpAny_holding (wpAny_bind (wpAny_bind (wpAny_bind (I.type.here ((looks_findIn X hs).here ?_))))))
    refine wpAny_bind (wpAny_askSetting (wpAny_ite ?_))
    have fin := inner (R := fun v s' => wpAny (model prog w) A (pure (some v)) (fun r s'' => wpAny (model prog w) A (match r with | some .notImplemented | none => pure none | some v => pure (some v)) (fun r s' => ∃ v, r = some v ∧ Q v s') E s'') E s') (fun c s' q => wpAny_pure (wpAny_pure ⟨_, rfl, q⟩))
    split
    · exact wpAny_bind (wpAny_of_eq (F.cmp_object.ne.bind _) (wpAny_pure (by exact wpAny_bind fin)))
    · exact wpAny_tryCatch (wpAny_bind (wpAny_of_eq (F.cmp_object.ne.bind _) (wpAny_pure (by exact wpAny_bind fin))))
  unfold richCompare
  simp only [oneThing_ref]
  refine wpAny_holding (wpAny_bind (wpAny_cRoomFor hu0 ?_))
  refine wpAny_bind (I.type.here (wpAny_bind (hb.here ?_)))
  split
  · rename_i q
    have e : subIn K tb (.ref C) = some false := by
      rcases Bool.or_eq_true_iff.mp hn with e | e
      · rw [beq_iff_eq.mp e] at q; simp at q
      · exact beq_iff_eq.mp e
    refine wpAny_bind ((looks_subIn X e).here ?_)
    simp only [Bool.false_eq_true, if_false]
    refine wpAny_bind (wpAny_mono one (fun r s' z => ?_) fun _ _ e => e)
    obtain ⟨v, rfl, hq⟩ := z
    exact wpAny_pure hq
  · refine wpAny_bind (wpAny_pure ?_)
    simp only [Bool.false_eq_true, if_false]
    refine wpAny_bind (wpAny_mono one (fun r s' z => ?_) fun _ _ e => e)
    obtain ⟨v, rfl, hq⟩ := z
    exact wpAny_pure hq
end
section
variable {X : Cx} {CX : CXT} {k : Nat} {C : Addr} {sp : Sp} {E : L2.St → XK}
/-- x != y, where the class has an == of its own and no != -/
def rOwnNe (K : PySem.W.Frag) (C : Addr) (sp : Sp) : (L2.St → XK) → L2.St → V → V → Hp → VK → Prop := fun E σ x y H Q => ∃ a dx fs, x = .ref a ∧ H a = some (.ins C dx fs) ∧ OtherT K C H y ∧ sp [x, y] H (fun z H' => ∃ c, z = .bl c ∧ Q (.bl (!c)) H') (E σ)
theorem pe_neOwn {a b : Expr} {ta tb : TE} {pos : Pos} (F : Two X CX k C "__eq__" sp) (hs : PySem.W.findIn X.K (.ref C) "__ne__" = some (some (.builtin "object.__ne__"))) (ho : PySem.W.mroIn X.K C (.type "object") = some true) (hr : Room (k + 1) X.A) (hx : ∀ σ, PassesAt CX X σ (E σ)) (ha : PE X a ta) (hb : PE X b tb) (hm : behindInMarks .NotEq b = false) :
    PE X (.Compare a [.NotEq] [b] pos) (tOp2 (rOwnNe X.K C sp) E ta tb) := by
  obtain ⟨f, fd, ps, M, F, B⟩ := F.ex
  refine ⟨fun pins s σ H Q I h => ?_⟩
  refine wpAny_Compare1 (binT ha hb I h fun v u s2 x y H2 I2 rx ry q => ?_) hm
  obtain ⟨a, dx, fs, rfl, e, o, q⟩ := q
  cases rx
  obtain ⟨ox, od, J⟩ := own_at I2 e
  obtain ⟨tb, L, nf⟩ := other_looks (M := model X.prog X.w) I2 ry o fun _ _ _ _ _ => trivial
  show wpAny _ _ (richCompare .NotEq _ _) _ _ _
  refine ne_by_eq hr.in1.units0 hr.units0 I2.kIn J L nf ho hs M.at_ M.fn ?_
  refine wpAny_mono (own_run (us := [.ref a, u]) (vs := [.ref a, y]) F hr.in1 I2.env0.in1 B (hx σ) I2 (.cons rfl (.cons ry .nil)) q) (fun w s' z => ?_) fun _ _ z => z
  obtain ⟨z, H3, I3, rz, c, rfl, qz⟩ := z
  cases (show w = Value.bool c from rz)
  exact ⟨c, rfl, .bl (!c), H3, I3, rfl, qz⟩
end
/-! readings, step by step -/
section
variable {K : PySem.W.Frag} {C a dx : Addr} {fs : List (Str × V)} {sp : Sp} {E : L2.St → XK} {σ : L2.St} {y : V} {H : Hp} {Q : VK} {nm : String}
theorem r_op2 {r : (L2.St → XK) → L2.St → V → V → Hp → VK → Prop} {ta tb : TE} (h : ta σ H fun x H1 => tb σ H1 fun y H2 => r E σ x y H2 Q) : tOp2 r E ta tb σ H Q := h
theorem r_own2 (e : H a = some (.ins C dx fs)) (h : sp [.ref a, y] H Q (E σ)) : rOwn2 C sp E σ (.ref a) y H Q := ⟨a, dx, fs, rfl, e, h⟩
theorem r_ownC (e : H a = some (.ins C dx fs)) (o : OtherT K C H y) (h : sp [.ref a, y] H Q (E σ)) : rOwnC K C sp E σ (.ref a) y H Q := ⟨a, dx, fs, rfl, e, o, h⟩
theorem r_ownB (e : H a = some (.ins C dx fs)) (o : OtherB K C H nm y) (h : sp [.ref a, y] H Q (E σ)) : rOwnB K C nm sp E σ (.ref a) y H Q := ⟨a, dx, fs, rfl, e, o, h⟩
theorem r_ownNe (e : H a = some (.ins C dx fs)) (o : OtherT K C H y) (h : sp [.ref a, y] H (fun z H' => ∃ c, z = .bl c ∧ Q (.bl (!c)) H') (E σ)) : rOwnNe K C sp E σ (.ref a) y H Q := ⟨a, dx, fs, rfl, e, o, h⟩
theorem r_ownIn (e : H a = some (.ins C dx fs)) (h : sp [.ref a, y] H (fun z H' => ∃ c, z = .bl c ∧ Q (.bl c) H') (E σ)) : rOwnIn C sp false E σ y (.ref a) H Q := ⟨a, dx, fs, rfl, e, h⟩
theorem r_ownLen (e : H a = some (.ins C dx fs)) (h : sp [.ref a] H (fun z H' => ∃ n : Nat, z = .int n ∧ n < 2 ^ 63 ∧ Q (.int n) H') (E σ)) : rOwnLen C sp E σ [.ref a] H Q := ⟨a, dx, fs, rfl, e, h⟩
end
end Pk
set_option Elab.async false
set_option linter.all false
set_option maxRecDepth 100000
set_option maxHeartbeats 200000
namespace Pk
open PySem L2 PySem.Spec PyProof.Rows
section
open PySem.W PySem.Calls
variable {prog : Program} {w : World} {A : Around} {E : Value → Shared → Prop} {s : Shared} {K : Frag} {x f C : Addr} {ox : Obj} {od : Option Obj} {i : Int} {t : Tok}
/-- int's product with an instance: declined -/
theorem mul_no {c : Value} {dd : Option Addr} {sl : Array (Option Value)} {Q : Value → Shared → Prop} (hx : s.heap.get? x = some ⟨c, dd, .plain, sl⟩) (h : Q .notImplemented s) : wpAny (model prog w) A (call (.builtin "int.__mul__") [.int i t, .ref x]) Q E s := by
  refine wpAny_call (codeAny_call_builtin F.slot_int_mul.plain F.entry_int_mul (F.slot_int_mul.check _ _ _ _ _ _ _ _ (typeIs_int s i t) (F.args_int_mul_2 _ _) ?_))
  obtain ⟨hp, g, d, tk, os⟩ := s
  unfold Builtin.«int.__mul__» Builtin.Int.intBinary
  repeat (first
    | exact h
    | with_reducible refine wpAny_load hx ?_
    | wp_step)
theorem try_mul_int {nm : Str} {c : Value} {dd : Option Addr} {sl : Array (Option Value)} {Q : Option Value → Shared → Prop} (L : Slot "int" nm "int.__mul__") (hx : s.heap.get? x = some ⟨c, dd, .plain, sl⟩) (h : Q none s) : wpAny (model prog w) A (tryMethod (.int i t) nm (.ref x)) Q E s :=
  wpAny_tryMethod_declines (typeIs_int s i t) L (mul_no hx ⟨rfl, h⟩)
/-- a ⊕ x by x's own reflected method, a of a built-in class that has none of its own, or declines -/
theorem bin_back {op : Operator} {a : Value} {T : String} {lb : Bool} {g0 : Addr} {Q : Value → Shared → Prop} (X : K.In s.heap) (I : InstAt s.heap x ox C od) (hta : typeOf a = pure (.type T)) (hl : fillsNumberSlot (.type T) op.info.2 = pure lb) (hc : selfFirst K C = true)
    (hs : findIn K (.ref C) (PySem.dunder op.info.2) = some (some (.ref g0))) (hr : findIn K (.ref C) (dunderR op.info.2) = some (some (.ref f))) (hf : isFn K (.ref f) = true) (hsub : subIn K (.ref C) (.type T) = some false)
    (no : lb = true → ∀ {R : Option Value → Shared → Prop}, R none s → wpAny (model prog w) A (tryMethod a (PySem.dunder op.info.2) (.ref x)) R E s)
    (h : wpAny (model prog w) A (call (.ref f) [.ref x, a]) (PySem.W.CmpBack Q) E s) : wpAny (model prog w) A (binaryOp op a (.ref x)) Q E s := by
  obtain ⟨cd, rest, hcd, hm⟩ := ksp_first hc
  rcases hi : op.info with ⟨sym, nm'⟩
  rw [hi] at hs hr hl no
  dsimp only at hs hr hl no
  have one := ksp_try X I hr hf h
  obtain ⟨hh, g, d, tt, os⟩ := s
  have a1 : Looks (model prog w) hh (typeOf (.ref x)) (.ref C) := I.type
  have a2 : Looks (model prog w) hh (typeOf a) (.type T) := Looks.of_pure hta
  have a3 : Looks (model prog w) hh (fillsNumberSlot (.ref C) nm') true := fills_K X hcd hm hs
  have a4 : Looks (model prog w) hh (fillsNumberSlot (.type T) nm') lb := Looks.of_pure hl
  have a5 : Looks (model prog w) hh (isSubtype (.ref C) (.type T)) false := looks_subIn X hsub
  have a7 : Looks (model prog w) hh (numberSlotInPython (.type T) nm') false := Looks.of_pure rfl
  have ne : (Value.type T == Value.ref C) = false := Bool.eq_false_iff.mpr fun q => by cases beq_iff_eq.mp q
  simp only [binaryOp, hi]
  refine wpAny_holding (wpAny_bind ?_)
  unfold binaryOp1
  refine wpAny_bind (a2.at (wpAny_bind (a1.at (wpAny_bind (a4.at ?_)))))
  simp only [ne, Bool.false_eq_true, if_false]
  cases lb with
  | false =>
    ksp_lk
    refine wpAny_mono one (fun r s' hr' => ?_) fun _ _ e => e
    obtain ⟨v, rfl, hq⟩ := hr'
    ksp_lk
    exact hq
  | true =>
    ksp_lk
    refine no rfl ?_
    ksp_lk
    refine wpAny_mono one (fun r s' hr' => ?_) fun _ _ e => e
    obtain ⟨v, rfl, hq⟩ := hr'
    ksp_lk
    exact hq
end
theorem slot_mul_lit : Slot "int" ("__mul__" : Str) "int.__mul__" := by
  have e : PySem.dunder "mul" = ("__mul__" : Str) := by decide +kernel
  rw [← e]
  exact PySem.F.slot_int_mul
section
variable {X : Cx} {CX : CXT} {k : Nat} {C g0 : Addr} {sp : Sp} {E : L2.St → XK}
/-- i * x by the own __rmul__, i an int -/
def rMulBack (C : Addr) (sp : Sp) : (L2.St → XK) → L2.St → V → V → Hp → VK → Prop := fun E σ y x H Q => ∃ a dx fs i, x = .ref a ∧ y = .int i ∧ H a = some (.ins C dx fs) ∧ sp [x, y] H Q (E σ)
theorem pe_mulBack {op : Operator} {a b : Expr} {ta tb : TE} {pos : Pos} (hop : op = .Mult) (F : Two X CX k C "__rmul__" sp) (hc : PySem.W.selfFirst X.K C = true) (hs : PySem.W.findIn X.K (.ref C) "__mul__" = some (some (.ref g0))) (hsub : PySem.W.subIn X.K (.ref C) (.type "int") = some false)
    (hr : Room k X.A) (hx : ∀ σ, PassesAt CX X σ (E σ)) (ha : PE X a ta) (hb : PE X b tb) : PE X (.BinOp a op b pos) (tOp2 (rMulBack C sp) E ta tb) := by
  obtain ⟨f, fd, ps, M, F, B⟩ := F.ex
  refine ⟨fun pins s σ H Q I h => ?_⟩
  refine wpAny_BinOp (binT ha hb I h fun v u s2 y x H2 I2 ry rx q => ?_)
  obtain ⟨a, dx, fs, i, rfl, rfl, e, q⟩ := q
  cases rx
  obtain ⟨t, rfl⟩ := (show ∃ t, v = Value.int i t from ry)
  obtain ⟨mA, J0, _⟩ := ins_get I2.hok e
  obtain ⟨od, J, _⟩ := J0.look
  have run := wpAny_mono (own_run (us := [.ref a, .int i t]) (vs := [.ref a, .int i]) F hr I2.env0 B (hx σ) I2 (.cons rfl (.cons ⟨t, rfl⟩ .nil)) q) (Q' := PySem.W.CmpBack (EP X pins σ Q)) (fun w s' z => by
    obtain ⟨z, H3, I3, rz, qz⟩ := z
    exact SlX.cmpback rz ⟨z, H3, I3, rz, qz⟩) fun _ _ z => z
  have e0 : op.info.2 = "mul" := by rw [hop]; rfl
  have e1 : PySem.dunder op.info.2 = ("__mul__" : Str) := by rw [e0]; decide +kernel
  have e2 : dunderR op.info.2 = ("__rmul__" : Str) := by rw [e0]; decide +kernel
  have k1 : PySem.W.findIn X.K (.ref C) (PySem.dunder op.info.2) = some (some (.ref g0)) := by rw [e1]; exact hs
  have k2 : PySem.W.findIn X.K (.ref C) (dunderR op.info.2) = some (some (.ref f)) := by rw [e2]; exact M.at_
  have k3 : fillsNumberSlot (.type "int") op.info.2 = pure true := by rw [e0]; exact PySem.F.fills_int_mul
  have k5 : Slot "int" (PySem.dunder op.info.2) "int.__mul__" := by rw [e1]; exact slot_mul_lit
  have kT : typeOf (.int i t) = pure (.type "int") := rfl
  exact bin_back I2.kIn J kT k3 hc k1 k2 M.fn hsub (fun _ {R} hR => try_mul_int k5 J0.obj hR) run
theorem r_mulBack {σ : L2.St} {H : Hp} {Q : VK} {a dx : Addr} {fs : List (Str × V)} {i : Int} (e : H a = some (.ins C dx fs)) (h : sp [.ref a, .int i] H Q (E σ)) : rMulBack C sp E σ (.int i) (.ref a) H Q := ⟨a, dx, fs, i, rfl, rfl, e, h⟩
end
section
open PySem.W PySem.Calls
variable {prog : Program} {w : World} {A : Around} {E : Value → Shared → Prop} {s : Shared} {x : Addr} {b : Bool}
/-- a bool's product with an instance: declined -/
theorem mul_noB {c : Value} {dd : Option Addr} {sl : Array (Option Value)} {Q : Value → Shared → Prop} (hx : s.heap.get? x = some ⟨c, dd, .plain, sl⟩) (h : Q .notImplemented s) : wpAny (model prog w) A (call (.builtin "int.__mul__") [.bool b, .ref x]) Q E s := by
  refine wpAny_call (codeAny_call_builtin PySem.F.slot_int_mul.plain PySem.F.entry_int_mul (PySem.F.slot_bool_mul.check _ _ _ _ _ _ _ _ (PySem.typeIs_bool s b) (PySem.F.args_int_mul_2 _ _) ?_))
  obtain ⟨hp, g, d, tk, os⟩ := s
  unfold Builtin.«int.__mul__» Builtin.Int.intBinary
  repeat (first
    | exact h
    | with_reducible refine wpAny_load hx ?_
    | wp_step)
theorem try_mul_bool {nm : Str} {c : Value} {dd : Option Addr} {sl : Array (Option Value)} {Q : Option Value → Shared → Prop} (L : Slot "bool" nm "int.__mul__") (hx : s.heap.get? x = some ⟨c, dd, .plain, sl⟩) (h : Q none s) : wpAny (model prog w) A (tryMethod (.bool b) nm (.ref x)) Q E s :=
  wpAny_tryMethod_declines (PySem.typeIs_bool s b) L (mul_noB hx ⟨rfl, h⟩)
theorem slot_mul_litB : Slot "bool" ("__mul__" : Str) "int.__mul__" := by
  have e : PySem.dunder "mul" = ("__mul__" : Str) := by decide +kernel
  rw [← e]
  exact PySem.F.slot_bool_mul
end
section
variable {X : Cx} {CX : CXT} {k : Nat} {C g0 : Addr} {sp : Sp} {E : L2.St → XK}
/-- y * x by the own __rmul__, y a number, a truth, a text or none -/
def Plain1 (y : V) : Prop := (∃ i, y = .int i) ∨ (∃ b, y = .bl b) ∨ (∃ z, y = .str z) ∨ y = .non
def rMulAny (C : Addr) (sp : Sp) : (L2.St → XK) → L2.St → V → V → Hp → VK → Prop := fun E σ y x H Q => ∃ a dx fs, x = .ref a ∧ Plain1 y ∧ H a = some (.ins C dx fs) ∧ sp [x, y] H Q (E σ)
theorem none_mul : fillsNumberSlot (.type "NoneType") "mul" = pure false := by
  unfold fillsNumberSlot
  have a : typeLookup (.type "NoneType") (PySem.dunder "mul") = pure none := by rw [typeLookup_type, builtinLookup_eq_fast]; kernel_rfl
  have b : typeLookup (.type "NoneType") (dunderR "mul") = pure none := by rw [typeLookup_type, builtinLookup_eq_fast]; kernel_rfl
  simp only [a, b, pure_bind]
  rfl
theorem pe_mulAny {op : Operator} {a b : Expr} {ta tb : TE} {pos : Pos} (hop : op = .Mult) (F : Two X CX k C "__rmul__" sp) (hc : PySem.W.selfFirst X.K C = true) (hs : PySem.W.findIn X.K (.ref C) "__mul__" = some (some (.ref g0)))
    (hi : PySem.W.subIn X.K (.ref C) (.type "int") = some false) (hbo : PySem.W.subIn X.K (.ref C) (.type "bool") = some false) (hst : PySem.W.subIn X.K (.ref C) (.type "str") = some false) (hno : PySem.W.subIn X.K (.ref C) (.type "NoneType") = some false)
    (hr : Room k X.A) (hx : ∀ σ, PassesAt CX X σ (E σ)) (ha : PE X a ta) (hb : PE X b tb) : PE X (.BinOp a op b pos) (tOp2 (rMulAny C sp) E ta tb) := by
  obtain ⟨f, fd, ps, M, F, B⟩ := F.ex
  refine ⟨fun pins s σ H Q I h => ?_⟩
  refine wpAny_BinOp (binT ha hb I h fun v u s2 y x H2 I2 ry rx q => ?_)
  obtain ⟨a, dx, fs, rfl, py, e, q⟩ := q
  cases rx
  obtain ⟨mA, J0, _⟩ := ins_get I2.hok e
  obtain ⟨od, J, _⟩ := J0.look
  have run := wpAny_mono (own_run (us := [.ref a, v]) (vs := [.ref a, y]) F hr I2.env0 B (hx σ) I2 (.cons rfl (.cons ry .nil)) q) (Q' := PySem.W.CmpBack (EP X pins σ Q)) (fun w s' z => by
    obtain ⟨z, H3, I3, rz, qz⟩ := z
    exact SlX.cmpback rz ⟨z, H3, I3, rz, qz⟩) fun _ _ z => z
  have e0 : op.info.2 = "mul" := by rw [hop]; rfl
  have e1 : PySem.dunder op.info.2 = ("__mul__" : Str) := by rw [e0]; decide +kernel
  have e2 : dunderR op.info.2 = ("__rmul__" : Str) := by rw [e0]; decide +kernel
  have k1 : PySem.W.findIn X.K (.ref C) (PySem.dunder op.info.2) = some (some (.ref g0)) := by rw [e1]; exact hs
  have k2 : PySem.W.findIn X.K (.ref C) (dunderR op.info.2) = some (some (.ref f)) := by rw [e2]; exact M.at_
  rcases py with ⟨i, rfl⟩ | ⟨i, rfl⟩ | ⟨i, rfl⟩ | rfl
  · obtain ⟨t, rfl⟩ := (show ∃ t, v = Value.int i t from ry)
    have k3 : fillsNumberSlot (.type "int") op.info.2 = pure true := by rw [e0]; exact PySem.F.fills_int_mul
    have k5 : Slot "int" (PySem.dunder op.info.2) "int.__mul__" := by rw [e1]; exact slot_mul_lit
    have kT : typeOf (.int i t) = pure (.type "int") := rfl
    exact bin_back I2.kIn J kT k3 hc k1 k2 M.fn hi (fun _ {R} hR => try_mul_int k5 J0.obj hR) run
  · cases (show v = Value.bool i from ry)
    have k3 : fillsNumberSlot (.type "bool") op.info.2 = pure true := by rw [e0]; exact PySem.F.fills_bool_mul
    have k5 : Slot "bool" (PySem.dunder op.info.2) "int.__mul__" := by rw [e1]; exact slot_mul_litB
    have kT : typeOf (.bool i) = pure (.type "bool") := rfl
    exact bin_back I2.kIn J kT k3 hc k1 k2 M.fn hbo (fun _ {R} hR => try_mul_bool k5 J0.obj hR) run
  · obtain ⟨t, rfl⟩ := (show ∃ t, v = Value.str i t from ry)
    have k3 : fillsNumberSlot (.type "str") op.info.2 = pure false := by rw [e0]; exact noFill_str_mul
    have kT : typeOf (.str i t) = pure (.type "str") := rfl
    exact bin_back I2.kIn J kT k3 hc k1 k2 M.fn hst (fun z => Bool.noConfusion z) run
  · cases (show v = Value.none from ry)
    have k3 : fillsNumberSlot (.type "NoneType") op.info.2 = pure false := by rw [e0]; exact none_mul
    have kT : typeOf .none = pure (.type "NoneType") := rfl
    exact bin_back I2.kIn J kT k3 hc k1 k2 M.fn hno (fun z => Bool.noConfusion z) run
theorem r_mulAny {σ : L2.St} {H : Hp} {Q : VK} {a dx : Addr} {fs : List (Str × V)} {y : V} (e : H a = some (.ins C dx fs)) (py : Plain1 y) (h : sp [.ref a, y] H Q (E σ)) : rMulAny C sp E σ y (.ref a) H Q := ⟨a, dx, fs, rfl, py, e, h⟩
end
end Pk
set_option Elab.async false
set_option linter.all false
set_option maxRecDepth 100000
set_option maxHeartbeats 1000000
namespace Pk
open PySem L2
section
variable {K : PySem.W.Frag} {σ : L2.St} {H : Hp} {Q : VK} {D : Ends} {a C dx : Addr} {fs : List (Str × V)} {f g : Str} {v u : V} {i : Nat} {ta tv : TE}
/-- an attribute is read -/
theorem r_fldU (h : ta σ H fun x H1 => ∃ a C dx fs v, x = .ref a ∧ H1 a = some (.ins C dx fs) ∧ Cls K C ∧ NoAttr K C f ∧ fs.lookup f = some v ∧ Q v H1) : tFld K ta f σ H Q := h
theorem r_fld0 (o : H a = some (.ins C dx fs)) (c : Cls K C) (n : NoAttr K C f) (l : fs.lookup f = some v) (h : Q v H) : ∃ b C dx fs v, V.ref a = .ref b ∧ H b = some (.ins C dx fs) ∧ Cls K C ∧ NoAttr K C f ∧ fs.lookup f = some v ∧ Q v H := ⟨a, C, dx, fs, v, rfl, o, c, n, l, h⟩
theorem r_fldV (e : σ[i]? = some (some (.ref a))) (o : H a = some (.ins C dx fs)) (c : Cls K C) (n : NoAttr K C f) (l : fs.lookup f = some v) (h : Q v H) : tFld K (tVar i) f σ H Q := ⟨.ref a, e, a, C, dx, fs, v, rfl, o, c, n, l, h⟩
/-- .. is set -/
theorem r_sFldU (h : tv σ H fun y H1 => ta σ H1 fun x H2 => ∃ a C dx fs, x = .ref a ∧ H2 a = some (.ins C dx fs) ∧ Cls K C ∧ NoAttr K C f ∧ fs.length < 1000 ∧ D.nx σ (upd H2 a (.ins C dx (putF f y fs)))) : sFld K ta tv f D σ H := h
theorem r_sFld0 {P : Hp → Prop} {y : V} (o : H a = some (.ins C dx fs)) (c : Cls K C) (n : NoAttr K C f) (l : fs.length < 1000) (h : P (upd H a (.ins C dx (putF f y fs)))) :
    ∃ b C dx fs, V.ref a = .ref b ∧ H b = some (.ins C dx fs) ∧ Cls K C ∧ NoAttr K C f ∧ fs.length < 1000 ∧ P (upd H b (.ins C dx (putF f y fs))) := ⟨a, C, dx, fs, rfl, o, c, n, l, h⟩
/-- a method of an own class is called -/
theorem r_methU {m : Str} {sp : Sp} {dvs : List V} {E : XK} {t : TA} (h : ta σ H fun x H1 => ∃ a dx fs, x = .ref a ∧ H1 a = some (.ins C dx fs) ∧ fs.lookup m = none ∧ t σ H1 fun vs H2 => sp (x :: (vs ++ dvs)) H2 Q E) : tMeth C m sp dvs E ta t σ H Q := h
/-- a < b < c -/
theorem r_chain {r r' : R2} {tc : TE} (h : ta σ H fun x H1 => tv σ H1 fun y H2 => r x y H2 fun z H3 => ∃ k, z = .bl k ∧ (if k = true then tc σ H3 fun w H4 => r' y w H4 Q else Q (.bl false) H3)) : tChain r r' ta tv tc σ H Q := h
theorem ifT {c : Bool} {A B : Prop} (hc : c = true) (h : A) : if c = true then A else B := by rw [if_pos hc]; exact h
theorem ifF {c : Bool} {A B : Prop} (hc : c = false) (h : B) : if c = true then A else B := by rw [hc, if_neg Bool.false_ne_true]; exact h
/-- enumerate(list) in a for -/
theorem r_enum {ta : TA} {R : It → Hp → Prop} (h : ta σ H fun vs H1 => ∃ a xs, vs = [.ref a] ∧ SqL K H1 a xs ∧ R (Ite K a) H1) : iEnum K ta σ H R := h
theorem r_zip {ta : TA} {R : It → Hp → Prop} (h : ta σ H fun vs H1 => ∃ a b xs ys, vs = [.ref a, .ref b] ∧ SqL K H1 a xs ∧ SqL K H1 b ys ∧ R (Itz K a b) H1) : iZip K ta σ H R := h
theorem r_gtup {n : Nat} {t : TGs} {R : L2.St → Hp → Prop} (h : ∃ a xs, v = .ref a ∧ SqT K H a xs ∧ xs.length = n ∧ t xs σ H R) : gTup K n t v σ H R := h
theorem int_at {ms : List Int} {i : Nat} {y : V} (h : (ms.map V.int)[i]? = some y) : ∃ m, m ∈ ms ∧ y = .int m := by
  rw [List.getElem?_map] at h
  cases e : ms[i]? with
  | none => rw [e] at h; cases h
  | some m => rw [e] at h; exact ⟨m, List.mem_of_getElem? e, (Option.some.inj h).symm⟩
theorem int_get {ms : List Int} {i : Nat} {y : V} (h : (ms.map V.int)[i]? = some y) : y = .int (ms.getD i 0) := by
  rw [List.getElem?_map] at h
  cases e : ms[i]? with
  | none => rw [e] at h; cases h
  | some m => rw [e] at h; rw [List.getD_eq_getElem?_getD, e]; exact (Option.some.inj h).symm
/-- two attributes -/
theorem two_put (hfg : (f == g) = false) (e : ¬ f = g) : putF g u (putF f v []) = [(f, v), (g, u)] := by
  show putF g u [(f, v)] = _
  rw [show putF g u [(f, v)] = (f, v) :: putF g u [] from if_neg e]
  rfl
theorem two_fst : List.lookup f [(f, v), (g, u)] = some v := by simp [List.lookup]
theorem two_snd (hfg : (g == f) = false) : List.lookup g [(f, v), (g, u)] = some u := by simp [List.lookup, hfg]
theorem two_no {m : Str} (h1 : (m == f) = false) (h2 : (m == g) = false) : List.lookup m [(f, v), (g, u)] = none := by simp [List.lookup, h1, h2]
theorem ite_and {c d : Bool} {A B : Prop} (h : if (c && d) = true then A else B) : if c = true then (if d = true then A else B) else B := by
  cases c <;> cases d <;> simpa using h
end
/-- what isinstance asks of an own class -/
structure OwnC (K : PySem.W.Frag) (C : Addr) : Prop where
  cl : Cls K C
  ha : PySem.W.findIn K (.ref C) "__class__" = some (some (.builtin "object.__class__"))
  hn : PySem.W.specialIn K (.builtin "object.__class__") "__get__" = some (some (.builtin "getset_descriptor.__get__"))
  htk : PySem.W.takesIn K (.builtin "object.__class__") = some true
  hm : PySem.W.mroIn K C (.type "object") = some true
  isC : PySem.W.isClsIn K C = true
  ty : PySem.W.typeIn K (.ref C) = some (.type "type")
  sub : ∀ T : String, T ∈ (["NoneType", "int", "bool", "str", "list", "tuple", "dict"] : List String) → PySem.W.subIn K (.type T) (.ref C) = some false
theorem OwnC.of {K : PySem.W.Frag} {C : Addr} (pg : PySem.W.plainGet K C Str.empty = true) (hd : PySem.W.hasDictIn K C = true) (po : PySem.W.plainOver K C = true) (sa : PySem.W.findIn K (.ref C) "__setattr__" = some (some (.builtin "object.__setattr__")))
    (ha : PySem.W.findIn K (.ref C) "__class__" = some (some (.builtin "object.__class__"))) (hn : PySem.W.specialIn K (.builtin "object.__class__") "__get__" = some (some (.builtin "getset_descriptor.__get__"))) (htk : PySem.W.takesIn K (.builtin "object.__class__") = some true)
    (hm : PySem.W.mroIn K C (.type "object") = some true) (isC : PySem.W.isClsIn K C = true) (ty : PySem.W.typeIn K (.ref C) = some (.type "type")) (s1 : PySem.W.subIn K (.type "NoneType") (.ref C) = some false) (s2 : PySem.W.subIn K (.type "int") (.ref C) = some false)
    (s3 : PySem.W.subIn K (.type "bool") (.ref C) = some false) (s4 : PySem.W.subIn K (.type "str") (.ref C) = some false) (s5 : PySem.W.subIn K (.type "list") (.ref C) = some false) (s6 : PySem.W.subIn K (.type "tuple") (.ref C) = some false) (s7 : PySem.W.subIn K (.type "dict") (.ref C) = some false) : OwnC K C :=
  ⟨⟨pg, hd, po, sa⟩, ha, hn, htk, hm, isC, ty, fun T h => by
    simp only [List.mem_cons, List.not_mem_nil, or_false] at h
    rcases h with rfl | rfl | rfl | rfl | rfl | rfl | rfl
    · exact s1
    · exact s2
    · exact s3
    · exact s4
    · exact s5
    · exact s6
    · exact s7⟩
section
variable {K : PySem.W.Frag} {C a dx : Addr} {fs : List (Str × V)} {H : Hp} {Q : VK} {x : V} {T : String}
theorem OwnC.tyx (c : OwnC K C) (e : H a = some (.ins C dx fs)) : TyX K H (.ref a) (.ref C) := .base (.ins e c.cl c.ha c.hn c.htk c.hm)
/-- isinstance(x, the own class) -/
theorem r_isiSelf (c : OwnC K C) (e : H a = some (.ins C dx fs)) (h : Q (.bl true) H) : rIsi K [.ref a, .ref C] H Q :=
  ⟨.ref a, .ref C, _, _, true, rfl, .own C, c.tyx e, by unfold PySem.W.kitOne; rw [if_pos (by simp)], h⟩
theorem OwnC.kit (c : OwnC K C) (h : T ∈ (["NoneType", "int", "bool", "str", "list", "tuple", "dict"] : List String)) : PySem.W.kitOne K (.type T) (.ref C) = some false := by
  unfold PySem.W.kitOne PySem.W.kitCls
  have h1 : (PySem.W.clsIn K C).isSome = true := c.isC
  simp only [h1, c.ty, c.sub T h]
  rfl
theorem r_isiNo (c : OwnC K C) (t : TyX K H x (.type T)) (m : T ∈ (["NoneType", "int", "bool", "str", "list", "tuple", "dict"] : List String)) (h : Q (.bl false) H) : rIsi K [x, .ref C] H Q :=
  ⟨x, .ref C, _, _, false, rfl, .own C, t, c.kit m, h⟩
end
/-! ### lists of ints are compared -/
section
variable {K : PySem.W.Frag} {H : Hp} {Q : VK} {a b : Addr} {ms ns : List Int}
theorem ints_all (ns : List Int) : DpAll K H (ns.map V.int) (ns.map PyData.int) := by
  induction ns with
  | nil => exact .nil
  | cons n r ih => exact .cons (.int n) ih
theorem Dp.ints (h : SqL K H a (ns.map V.int)) : Dp K H (.ref a) (.list (ns.map PyData.int)) := .lst h (ints_all ns)
theorem eqv_ints : PyData.eqv (.list (ms.map PyData.int)) (.list (ns.map PyData.int)) = decide (ms = ns) := by
  have h := PySem.W.eqvAll_map ms ns
  rw [PyData.eqv]
  exact h
theorem r_eqL (h1 : SqL K H a (ms.map V.int)) (h2 : SqL K H b (ns.map V.int)) (h : Q (.bl (decide (ms = ns))) H) : rEqD K (.ref a) (.ref b) H Q :=
  ⟨_, _, Dp.ints h1, Dp.ints h2, PySem.W.ke_shaped_ints ms, PySem.W.ke_shaped_ints ns, by rw [eqv_ints]; exact h⟩
theorem r_neL (h1 : SqL K H a (ms.map V.int)) (h2 : SqL K H b (ns.map V.int)) (h : Q (.bl (!decide (ms = ns))) H) : rNeD K (.ref a) (.ref b) H Q :=
  ⟨_, _, Dp.ints h1, Dp.ints h2, PySem.W.ke_shaped_ints ms, PySem.W.ke_shaped_ints ns, by rw [eqv_ints]; exact h⟩
end
/-! ### a comprehension: the list at D, by its turns -/
def Out (H1 : Hp) (D : Addr) (out : Nat → V) (i : Nat) (H' : Hp) : Prop := Same H1 H' ∧ H' D = some (.lst ((List.range i).map out))
theorem Out.start {H1 : Hp} {D : Addr} {out : Nat → V} (hD : H1 D = none) : Out H1 D out 0 (upd H1 D (.lst [])) := ⟨Same.up (Same.refl H1) hD, upd_same⟩
theorem Out.more {H1 H H4 : Hp} {D : Addr} {out : Nat → V} {i : Nat} (hD : H1 D = none) (o : Out H1 D out i H) (s : Same H H4) (hi : i < sizeLine) :
    ∃ acc, H4 D = some (.lst acc) ∧ acc.length < sizeLine ∧ Out H1 D out (i + 1) (upd H4 D (.lst (acc ++ [out i]))) := by
  refine ⟨_, s _ _ o.2, by simpa using hi, fun c u e => ?_, ?_⟩
  · have n : c ≠ D := fun z => by rw [z, hD] at e; cases e
    rw [upd_ne n]
    exact s _ _ (o.1 _ _ e)
  · rw [upd_same, List.range_succ, List.map_append]
    rfl
/-! ### x ⊕ y by the own method, the other one no number of ours -/
structure BinC (K : PySem.W.Frag) (C : Addr) (nm : String) (Ts : List String) : Prop where
  sf : PySem.W.selfFirst K C = true
  rc : ∃ rc, PySem.W.findIn K (.ref C) (PySem.dunderR nm) = some rc ∧ (rc = none ∨ ∃ g : Addr, rc = some (.ref g))
  oth : ∀ T : String, T ∈ Ts → ∃ fo ro : Option Value, PySem.W.findIn K (.type T) (PySem.dunder nm) = some fo ∧ PySem.W.findIn K (.type T) (PySem.dunderR nm) = some ro
theorem BinC.other {K : PySem.W.Frag} {C : Addr} {nm T : String} {Ts : List String} {H : Hp} {y : V} (b : BinC K C nm Ts) (O : OwnC K C) (t : TyX K H y (.type T)) (m : T ∈ Ts) (m2 : T ∈ (["NoneType", "int", "bool", "str", "list", "tuple", "dict"] : List String)) : OtherB K C H nm y := by
  obtain ⟨fo, ro, h1, h2⟩ := b.oth T m
  exact .inr ⟨T, fo, ro, t, h1, h2, O.sub T m2⟩
theorem Plain1.ty {K : PySem.W.Frag} {H : Hp} {y : V} (h : Plain1 y) : ∃ T : String, TyX K H y (.type T) ∧ T ∈ (["NoneType", "int", "bool", "str"] : List String) := by
  rcases h with ⟨i, rfl⟩ | ⟨b, rfl⟩ | ⟨z, rfl⟩ | rfl
  · exact ⟨"int", .base (.int i), by simp⟩
  · exact ⟨"bool", .base (.bl b), by simp⟩
  · exact ⟨"str", .base (.str z), by simp⟩
  · exact ⟨"NoneType", .base .non, by simp⟩
end Pk
set_option Elab.async false
set_option linter.all false
set_option maxRecDepth 100000
set_option maxHeartbeats 2000000
/-! What the top holds, read off the heap by a Hook: facts in place of a heap written out. -/
namespace Pk
open PySem L2 PySem.Spec PyProof.Rows PySem.W
/-! ### function objects -/
abbrev FnP : Type := Option (Str × Str × Arguments × FuncBody × Scope × Addr × List Str × Value × Addr)
def fnP (K : PySem.W.Frag) (p : Str × Option Str) : FnP := match K.lookup (He.fAd K p) with
  | some ⟨_, _, .func fd, _⟩ => some (fd.name, fd.qualname, fd.params, fd.body, fd.scope, fd.globals, fd.closure.map (·.1), fd.defaults, fd.builtins)
  | _ => none
structure FdP where
  at_ : Str × Option Str
  name : Str
  qual : Str
  st : Stmt
  cl : List Str
def FdP.val (d : FdP) : FnP := some (d.name, d.qual, defArgs d.st, .stmts (defBody d.st), defScope d.st, mainGlobals, d.cl, .none, builtinsNs)
def codeP (K : PySem.W.Frag) (p : Str × Option Str) (q : Str) : Bool := match K.lookup (He.fAd K p) with
  | some ⟨_, _, .func fd, _⟩ => PySem.W.codeIn K fd.code q
  | _ => false
theorem fnP_ok {K : PySem.W.Frag} {p : Str × Option Str} {nm q : Str} {st : Stmt} (e : fnP K p = FdP.val ⟨p, nm, q, st, []⟩) (c : codeP K p q = true) :
    ∃ oc od osl kV doc pm an cdv ct, K.lookup (He.fAd K p) = some ⟨oc, od, .func (PySem.W.fnOf nm q (defArgs st) (defBody st) (defScope st) .none kV doc pm an cdv ct), osl⟩ ∧ PySem.W.codeIn K cdv q = true := by
  unfold fnP FdP.val at e
  unfold codeP at c
  cases h : K.lookup (He.fAd K p) with
  | none =>
    rw [h] at c
    cases c
  | some o =>
    obtain ⟨oc, od, dt, osl⟩ := o
    rw [h] at c e
    cases dt with
    | func fd =>
      obtain ⟨n1, n2, n3, n4, n5, n6, n7, n8, n9, n10, n11, n12, n13, n14, n15⟩ := fd
      have e2 : (some (n1, n2, n3, n4, n5, n6, n7.map (·.1), n8, n15) : FnP) = some (nm, q, defArgs st, .stmts (defBody st), defScope st, mainGlobals, [], .none, builtinsNs) := e
      simp only [Option.some.injEq, Prod.mk.injEq, List.map_eq_nil_iff] at e2
      obtain ⟨h1, h2, h3, h4, h5, h6, h7, h8, h9⟩ := e2
      subst h1 h2 h3 h4 h5 h6 h7 h8 h9
      exact ⟨oc, od, osl, n9, n10, n11, n12, n13, n14, rfl, c⟩
    | _ => cases c
/-! ### the Hook -/
/-- addresses not seen so far: a number's bits tell which were -/
def newB : List Addr → Nat → List Addr → Nat × List Addr
  | [], m, acc => (m, acc)
  | a :: r, m, acc => match Nat.beq (Nat.land (Nat.shiftRight m a) 1) 1 with
    | true => newB r m acc
    | false => newB r (Nat.lor m (Nat.shiftLeft 1 a)) (a :: acc)
def refsB (g : Addr → Option Obj) (a : Addr) : List Addr := match g a with
  | some o => He.refsD o
  | none => []
/-- by levels: what was found last names the next -/
def levB (g : Addr → Option Obj) : Nat → Nat → List Addr → List Addr
  | 0, _, fr => fr
  | n + 1, m, fr => match newB (fr.flatMap (refsB g)) m [] with
    | (m', nw) => fr ++ levB g n m' nw
def asP (g : Addr → Option Obj) (n : Nat) : List Addr := match newB [cStatics, mainGlobals] 0 [] with
  | (m, fr) => levB g n m fr
def obsP (fn : List FdP) (ex : PySem.W.Frag → Bool) (K : PySem.W.Frag) : Bool × List FnP := (ex K, fn.map fun d => fnP K d.at_)
def valP (fn : List FdP) : Bool × List FnP := (true, fn.map FdP.val)
def obsPG (n : Nat) (fn : List FdP) (ex : PySem.W.Frag → Bool) (g : Addr → Option Obj) : Bool × List FnP := obsP fn ex (He.frG g (asP g n))
def hookP (n : Nat) (fn : List FdP) (ex : PySem.W.Frag → Bool) : PySem.W.Hook where
  α := Bool × List FnP
  obs := fun s => obsPG n fn ex s.heap.get?
  val := fun _ => valP fn
  says := fun _ h => ∃ K : PySem.W.Frag, K.In h ∧ obsP fn ex K = valP fn
  of := fun _ _ e => ⟨_, He.frG_in, e⟩
  keeps := fun _ _ _ ⟨K, hK, c⟩ k => ⟨K, PySem.W.Frag.In.keeps hK k, c⟩
theorem obsPG_eq {n : Nat} {fn : List FdP} {ex : PySem.W.Frag → Bool} {g : Addr → Option Obj} {s : Shared} (h : ∀ a, g a = s.heap.get? a) : obsPG n fn ex g = (hookP n fn ex).obs s := by
  have e : g = s.heap.get? := funext h
  rw [e] <;> rfl
section
variable {fn : List FdP} {ex : PySem.W.Frag → Bool} {K : PySem.W.Frag}
theorem saysP_ex (c : obsP fn ex K = valP fn) : ex K = true := congrArg (fun z => z.1) c
theorem saysP_fn (c : obsP fn ex K = valP fn) (i : Nat) {d : FdP} (h : fn[i]? = some d) : fnP K d.at_ = d.val := by
  have e : fn.map (fun d => fnP K d.at_) = fn.map FdP.val := congrArg (fun z : Bool × List FnP => z.2) c
  have e2 : (fn.map fun d => fnP K d.at_)[i]? = (fn.map FdP.val)[i]? := by rw [e]
  rw [List.getElem?_map, List.getElem?_map, h] at e2
  exact Option.some.inj e2
end
/-! ### checks -/
def eqB (a b : Option (Option Value)) : Bool := decide (a = b)
def chG (x : Str) (K : PySem.W.Frag) : Bool := eqB (PySem.W.nsIn K mainGlobals x) (some (some (.ref (He.ga K x))))
def chD (x : Str) (K : PySem.W.Frag) : Bool := chG x K && (PySem.W.keepIn K (.ref (He.ga K x)) && codeP K (x, none) x)
def chM (C m q : Str) (K : PySem.W.Frag) : Bool := eqB (PySem.W.findIn K (.ref (He.ga K C)) m) (some (some (.ref (He.ma K (He.ga K C) m)))) && (PySem.W.isFn K (.ref (He.ma K (He.ga K C) m)) && (PySem.W.keepIn K (.ref (He.ma K (He.ga K C) m)) && codeP K (C, some m) q))
def kwV (K : PySem.W.Frag) (k z : Str) : Value → Bool
  | .ref D => (match PySem.W.nsIn K D k with
    | some (some (.str y _)) => decide (y = z)
    | _ => false)
  | _ => false
def kwP (x k z : Str) (K : PySem.W.Frag) : Bool := match K.lookup (He.ga K x) with
  | some ⟨_, _, .func fd, _⟩ => kwV K k z fd.kwdefaults
  | _ => false
def chI (x : Str) (i : Int) (K : PySem.W.Frag) : Bool := match PySem.W.nsIn K mainGlobals x with
  | some (some (.int j _)) => decide (j = i)
  | _ => false
def chS (x z : Str) (K : PySem.W.Frag) : Bool := match PySem.W.nsIn K mainGlobals x with
  | some (some (.str y _)) => decide (y = z)
  | _ => false
def btNames : List Str := ["int", "str", "bool", "list", "tuple", "dict", "len", "range", "isinstance", "sum", "max", "min", "sorted", "set", "super", "enumerate", "zip", "abs"]
def chBt (K : PySem.W.Frag) : Bool := btNames.all fun x => eqB (PySem.W.nsIn K mainGlobals x) (some none)
def chO (C : Str) (K : PySem.W.Frag) : Bool := PySem.W.plainGet K (He.ga K C) Str.empty && (PySem.W.hasDictIn K (He.ga K C) && (PySem.W.plainOver K (He.ga K C) && (eqB (PySem.W.findIn K (.ref (He.ga K C)) "__setattr__") (some (some (.builtin "object.__setattr__"))) &&
  (eqB (PySem.W.findIn K (.ref (He.ga K C)) "__class__") (some (some (.builtin "object.__class__"))) && (eqB (PySem.W.specialIn K (.builtin "object.__class__") "__get__") (some (some (.builtin "getset_descriptor.__get__"))) && (decide (PySem.W.takesIn K (.builtin "object.__class__") = some true) &&
  (decide (PySem.W.mroIn K (He.ga K C) (.type "object") = some true) && (PySem.W.isClsIn K (He.ga K C) && (decide (PySem.W.typeIn K (.ref (He.ga K C)) = some (.type "type")) &&
  (["NoneType", "int", "bool", "str", "list", "tuple", "dict"] : List String).all fun T => decide (PySem.W.subIn K (.type T) (.ref (He.ga K C)) = some false))))))))))
def chF (C m : Str) (K : PySem.W.Frag) : Bool := PySem.W.fnIn K (He.ma K (He.ga K C) m)
def chB (C : Str) (nm : String) (Ts : List String) (K : PySem.W.Frag) : Bool := PySem.W.selfFirst K (He.ga K C) && ((match PySem.W.findIn K (.ref (He.ga K C)) (PySem.dunderR nm) with
  | some none => true
  | some (some (.ref _)) => true
  | _ => false) && Ts.all fun T => (PySem.W.findIn K (.type T) (PySem.dunder nm)).isSome && (PySem.W.findIn K (.type T) (PySem.dunderR nm)).isSome)
section
variable {K : PySem.W.Frag}
theorem bb {a b : Bool} (h : (a && b) = true) : a = true ∧ b = true := Bool.and_eq_true_iff.mp h
theorem eqB_ok {a b : Option (Option Value)} (h : eqB a b = true) : a = b := of_decide_eq_true h
theorem chG_ok {x : Str} (c : chG x K = true) : PySem.W.nsIn K mainGlobals x = some (some (.ref (He.ga K x))) := eqB_ok c
theorem hk_def {x : Str} {st : Stmt} (e : fnP K (x, none) = FdP.val ⟨(x, none), x, x, st, []⟩) (c : chD x K = true) : DefAt K x st := by
  obtain ⟨c1, c⟩ := bb c
  obtain ⟨c2, c3⟩ := bb c
  obtain ⟨oc, od, osl, kV, doc, pm, an, cdv, ct, l, cc⟩ := fnP_ok e c3
  exact DefAt.of (chG_ok c1) l cc c2
theorem hk_meth {C m q : Str} {st : Stmt} (e : fnP K (C, some m) = FdP.val ⟨(C, some m), m, q, st, []⟩) (c : chM C m q K = true) : MethAt K (He.ga K C) m q st := by
  obtain ⟨c1, c⟩ := bb c
  obtain ⟨c2, c⟩ := bb c
  obtain ⟨c3, c4⟩ := bb c
  obtain ⟨oc, od, osl, kV, doc, pm, an, cdv, ct, l, cc⟩ := fnP_ok e c4
  exact MethAt.of (eqB_ok c1) l cc c3 c2
theorem kwV_ok {k z : Str} {v : Value} (c : kwV K k z v = true) : ∃ D t, v = .ref D ∧ PySem.W.nsIn K D k = some (some (.str z t)) := by
  cases v with
  | ref D =>
    have w : (match PySem.W.nsIn K D k with
      | some (some (.str y _)) => decide (y = z)
      | _ => false) = true := c
    cases h : PySem.W.nsIn K D k with
    | none => rw [h] at w; cases w
    | some o =>
      cases o with
      | none => rw [h] at w; cases w
      | some v =>
        cases v with
        | str y t =>
          rw [h] at w
          have w : y = z := of_decide_eq_true w
          exact ⟨D, t, rfl, by rw [h, w]⟩
        | _ => rw [h] at w; cases w
  | _ => cases c
theorem hk_defK {x k z : Str} {st : Stmt} (e : fnP K (x, none) = FdP.val ⟨(x, none), x, x, st, []⟩) (c : chD x K = true) (w : kwP x k z K = true) : DefAtK K x k z st := by
  obtain ⟨c1, c⟩ := bb c
  obtain ⟨c2, c3⟩ := bb c
  obtain ⟨oc, od, osl, kV, doc, pm, an, cdv, ct, l, cc⟩ := fnP_ok e c3
  have l' : K.lookup (He.ga K x) = some ⟨oc, od, .func (PySem.W.fnOf x x (defArgs st) (defBody st) (defScope st) .none kV doc pm an cdv ct), osl⟩ := l
  unfold kwP at w
  rw [l'] at w
  obtain ⟨D, t, e, h⟩ := kwV_ok (v := kV) w
  subst e
  exact DefAtK.of (chG_ok c1) l' cc c2 h
theorem hk_str {x z : Str} (c : chS x z K = true) : ∃ t, PySem.W.nsIn K mainGlobals x = some (some (.str z t)) := by
  unfold chS at c
  cases h : PySem.W.nsIn K mainGlobals x with
  | none => rw [h] at c; cases c
  | some o =>
    cases o with
    | none => rw [h] at c; cases c
    | some v =>
      cases v with
      | str y t =>
        rw [h] at c
        have c : y = z := of_decide_eq_true c
        exact ⟨t, by rw [c]⟩
      | _ => rw [h] at c; cases c
theorem hk_int {x : Str} {i : Int} (c : chI x i K = true) : ∃ t, PySem.W.nsIn K mainGlobals x = some (some (.int i t)) := by
  unfold chI at c
  cases h : PySem.W.nsIn K mainGlobals x with
  | none => rw [h] at c; cases c
  | some o =>
    cases o with
    | none => rw [h] at c; cases c
    | some v =>
      cases v with
      | int j t =>
        rw [h] at c
        have c : j = i := of_decide_eq_true c
        exact ⟨t, by rw [c]⟩
      | _ => rw [h] at c; cases c
theorem hk_bt (c : chBt K = true) : BtIn K := fun x hx => eqB_ok (List.all_eq_true.mp c x hx)
theorem hk_own {C : Str} (c : chO C K = true) : OwnC K (He.ga K C) := by
  obtain ⟨c1, c⟩ := bb c
  obtain ⟨c2, c⟩ := bb c
  obtain ⟨c3, c⟩ := bb c
  obtain ⟨c4, c⟩ := bb c
  obtain ⟨c5, c⟩ := bb c
  obtain ⟨c6, c⟩ := bb c
  obtain ⟨c7, c⟩ := bb c
  obtain ⟨c8, c⟩ := bb c
  obtain ⟨c9, c⟩ := bb c
  obtain ⟨c10, c⟩ := bb c
  have s : ∀ T : String, T ∈ (["NoneType", "int", "bool", "str", "list", "tuple", "dict"] : List String) → PySem.W.subIn K (.type T) (.ref (He.ga K C)) = some false := fun T h => of_decide_eq_true (List.all_eq_true.mp c T h)
  exact ⟨⟨c1, c2, c3, eqB_ok c4⟩, eqB_ok c5, eqB_ok c6, of_decide_eq_true c7, of_decide_eq_true c8, c9, of_decide_eq_true c10, s⟩
theorem hk_fi {C m q : Str} (c : chM C m q K = true) (d : chF C m K = true) : ∀ f, PySem.W.findIn K (.ref (He.ga K C)) m = some (some (.ref f)) → PySem.W.fnIn K f = true := fun f e => by
  have c1 := eqB_ok (bb c).1
  rw [c1] at e
  have z := Value.ref.inj (Option.some.inj (Option.some.inj e))
  rw [← z]
  exact d
theorem hk_bin {C : Str} {nm : String} {Ts : List String} (c : chB C nm Ts K = true) : BinC K (He.ga K C) nm Ts := by
  obtain ⟨c1, c⟩ := bb c
  obtain ⟨c2, c3⟩ := bb c
  refine ⟨c1, ?_, fun T h => ?_⟩
  · cases e : PySem.W.findIn K (.ref (He.ga K C)) (PySem.dunderR nm) with
    | none => rw [e] at c2; cases c2
    | some o =>
      cases o with
      | none => exact ⟨_, rfl, .inl rfl⟩
      | some v =>
        cases v with
        | ref g => exact ⟨_, rfl, .inr ⟨g, rfl⟩⟩
        | _ => rw [e] at c2; cases c2
  · obtain ⟨a, b⟩ := bb (List.all_eq_true.mp c3 T h)
    obtain ⟨x, hx⟩ := Option.isSome_iff_exists.mp a
    obtain ⟨y, hy⟩ := Option.isSome_iff_exists.mp b
    exact ⟨x, y, hx, hy⟩
end
/-! ### error classes -/
def inA (K : PySem.W.Frag) (x : Str) : Addr := He.ma K (He.ga K x) "__init__"
def ccA (K : PySem.W.Frag) (x : Str) : Addr := match K.lookup (inA K x) with
  | some ⟨_, _, .func fd, _⟩ => (match fd.closure with
    | [(_, a)] => a
    | _ => 0)
  | _ => 0
def cdA (K : PySem.W.Frag) (x : Str) : Addr := match K.lookup (inA K x) with
  | some ⟨_, _, .func fd, _⟩ => (match fd.code with
    | .ref a => a
    | _ => 0)
  | _ => 0
def codeIsRef : Value → Bool
  | .ref _ => true
  | _ => false
def fnE (x : Str) (K : PySem.W.Frag) : Bool := match K.lookup (inA K x) with
  | some ⟨_, _, .func fd, _⟩ => codeIsRef fd.code
  | _ => false
def clsE (C : Addr) (K : PySem.W.Frag) : Bool := match K.lookup C with
  | some ⟨.type "type", _, .cls cd, sl⟩ => (match cd.mro, sl.toList with
    | .ref C' :: .ref _ :: bm, [_, _, _, _, some (.builtin n), _] => C' == C && (n == "ArithmeticError.__new__" && (!cd.hasDel && (cd.hasDict && decide (bm = arT))))
    | _, _ => false)
  | _ => false
def cellE (C cc : Addr) (K : PySem.W.Frag) : Bool := match K.lookup cc with
  | some ⟨_, _, .cell (some (.ref D)), _⟩ => decide (D = C)
  | _ => false
def fileE (fl : Str) (c : Addr) (K : PySem.W.Frag) : Bool := match K.lookup c with
  | some ⟨_, _, .fields vs, _⟩ => (match (vs[2]? : Option Value) with
    | some (Value.str f _) => fl == f
    | _ => false)
  | _ => false
def chE (fl x q : Str) (K : PySem.W.Frag) : Bool := chG x K && (clsE (He.ga K x) K && (eqB (PySem.W.findIn K (.ref (He.ga K x)) "__setattr__") (some (some (.builtin "object.__setattr__"))) && (decide (PySem.W.subIn K (.ref (He.ga K x)) (.type "BaseException") = some true) && (decide (PySem.W.subIn K (.ref (He.ga K x)) (.type "ArithmeticError") = some true) &&
  (decide (PySem.W.typeIn K (.ref (He.ga K x)) = some (.type "type")) && (PySem.W.keepIn K (.ref (He.ga K x)) && (eqB (PySem.W.findIn K (.ref (He.ga K x)) "__init__") (some (some (.ref (inA K x)))) && (decide (PySem.W.typeIn K (.ref (inA K x)) = some (.type "function")) && (fnE x K && (PySem.W.codeIn K (.ref (cdA K x)) q &&
  (cellE (He.ga K x) (ccA K x) K && (fileE fl (cdA K x) K && (eqB (PySem.W.nsIn K cStatics "thirdparty.any") (some none) && (eqB (PySem.W.ks_superIn K (He.ga K x) (He.ga K x) "__init__") (some (some (.builtin "ArithmeticError.__init__"))) && (decide (PySem.W.mroIn K (He.ga K x) (.ref (He.ga K x)) = some true) &&
  (eqB (PySem.W.findIn K (.ref (He.ga K x)) "__getattribute__") (some (some (.builtin "BaseException.__getattribute__"))) && (eqB (PySem.W.findIn K (.ref (He.ga K x)) "__getattr__") (some none) && (PySem.W.hasDictIn K (He.ga K x) && (PySem.W.isClsIn K (He.ga K x) && decide (PySem.W.subIn K (.ref (He.ga K x)) (.ref (He.ga K x)) = some true))))))))))))))))))))
section
variable {K : PySem.W.Frag}
theorem clsE_ok {C : Addr} (c : clsE C K = true) : ∃ pe nm qn N bs sn sub ab col dd k0 k1 k2 k3 k5, K.lookup C = some (excClassObj nm qn C N bs (.ref pe :: arT) true sn sub ab col dd k0 k1 k2 k3 k5 "ArithmeticError.__new__") := by
  unfold clsE at c
  split at c
  · rename_i dd cd sl ho
    split at c
    · rename_i C' pe bm k0 k1 k2 k3 n k5 hm hs
      simp only [Bool.and_eq_true, beq_iff_eq, Bool.not_eq_true', decide_eq_true_eq] at c
      obtain ⟨rfl, rfl, hdel, hdict, rfl⟩ := c
      obtain ⟨nm, bs, mro, ns, qn, hd, sn, sub, ab, col, del⟩ := cd
      dsimp only at hm hdel hdict
      subst hm hdel hdict
      have hsl : sl = #[k0, k1, k2, k3, some (.builtin "ArithmeticError.__new__"), k5] := by
        obtain ⟨l⟩ := sl
        simp only at hs
        rw [hs]
      subst hsl
      exact ⟨pe, nm, qn, ns, bs, sn, sub, ab, col, dd, k0, k1, k2, k3, k5, ho⟩
    · cases c
  · cases c
theorem hk_err {P : Program} {x q : Str} {st : Stmt} (e : fnP K (x, some "__init__") = FdP.val ⟨(x, some "__init__"), "__init__", q, st, ["__class__"]⟩) (c : chE P.main.file x q K = true) : ErrAt1 P K x q st (He.ga K x) (inA K x) (ccA K x) (cdA K x) := by
  obtain ⟨a1, c⟩ := bb c
  obtain ⟨a2, c⟩ := bb c
  obtain ⟨a3, c⟩ := bb c
  obtain ⟨a4, c⟩ := bb c
  obtain ⟨a5, c⟩ := bb c
  obtain ⟨a6, c⟩ := bb c
  obtain ⟨a7, c⟩ := bb c
  obtain ⟨a8, c⟩ := bb c
  obtain ⟨a9, c⟩ := bb c
  obtain ⟨b0, c⟩ := bb c
  obtain ⟨b1, c⟩ := bb c
  obtain ⟨b2, c⟩ := bb c
  obtain ⟨b3, c⟩ := bb c
  obtain ⟨b4, c⟩ := bb c
  obtain ⟨b5, c⟩ := bb c
  obtain ⟨b6, c⟩ := bb c
  obtain ⟨b7, c⟩ := bb c
  obtain ⟨b8, c⟩ := bb c
  obtain ⟨b9, c⟩ := bb c
  obtain ⟨d0, d1⟩ := bb c
  refine ⟨chG_ok a1, clsE_ok a2, eqB_ok a3, of_decide_eq_true a4, of_decide_eq_true a5, of_decide_eq_true a6, a7, eqB_ok a8, of_decide_eq_true a9, ?_, b1, ?_, ?_, eqB_ok b4, eqB_ok b5, of_decide_eq_true b6, eqB_ok b7, eqB_ok b8, b9, d0, of_decide_eq_true d1⟩
  · have e : fnP K (x, some "__init__") = FdP.val ⟨(x, some "__init__"), "__init__", q, st, ["__class__"]⟩ := e
    unfold fnP FdP.val at e
    unfold fnE at b0
    have ei : He.fAd K (x, some "__init__") = inA K x := rfl
    rw [ei] at e
    cases h : K.lookup (inA K x) with
    | none => rw [h] at b0; cases b0
    | some o =>
      obtain ⟨oc, od, dt, osl⟩ := o
      rw [h] at e b0
      cases dt with
      | func fd =>
        obtain ⟨n1, n2, n3, n4, n5, n6, n7, n8, n9, n10, n11, n12, n13, n14, n15⟩ := fd
        have e2 : (some (n1, n2, n3, n4, n5, n6, n7.map (·.1), n8, n15) : FnP) = some (("__init__" : Str), q, defArgs st, .stmts (defBody st), defScope st, mainGlobals, (["__class__"] : List Str), .none, builtinsNs) := e
        simp only [Option.some.injEq, Prod.mk.injEq] at e2
        obtain ⟨h1, h2, h3, h4, h5, h6, h7, h8, h9⟩ := e2
        subst h1 h2 h3 h4 h5 h6 h8 h9
        have b0 : codeIsRef n13 = true := b0
        cases n13 with
        | ref c0 =>
          match n7, h7 with
          | [(y, cc0)], h7 =>
            have h7 : y = "__class__" := by simpa using h7
            subst h7
            have q1 : ccA K x = cc0 := by unfold ccA; rw [h]
            have q2 : cdA K x = c0 := by unfold cdA; rw [h]
            rw [q1, q2]
            exact ⟨oc, od, n9, n10, n11, n12, n14, osl, rfl⟩
        | _ => cases b0
      | _ => cases b0
  · unfold cellE at b2
    split at b2
    · rename_i a b D d h
      have : D = He.ga K x := of_decide_eq_true b2
      rw [this] at h
      exact ⟨a, b, d, h⟩
    · cases b2
  · unfold fileE at b3
    split at b3
    · rename_i a b vs d h
      split at b3
      · rename_i f t hv
        exact ⟨a, b, vs, d, f, t, h, hv, b3⟩
      · cases b3
    · cases b3
end
/-! ### a run's equation from its parts -/
section
variable {α β γ : Type} {o : Option α}
theorem map_pair {f : α → β} {g : α → γ} {a : β} {b : γ} (h1 : o.map f = some a) (h2 : o.map g = some b) : o.map (fun s => (f s, g s)) = some (a, b) := by
  cases o with
  | none => cases h1
  | some s =>
    have h1 : some (f s) = some a := h1
    have h2 : some (g s) = some b := h2
    show some (f s, g s) = some (a, b)
    rw [Option.some.inj h1, Option.some.inj h2]
theorem map_and {f g : α → Bool} (h1 : o.map f = some true) (h2 : o.map g = some true) : o.map (fun s => f s && g s) = some true := by
  cases o with
  | none => cases h1
  | some s =>
    have h1 : some (f s) = some true := h1
    have h2 : some (g s) = some true := h2
    show some (f s && g s) = some true
    rw [Option.some.inj h1, Option.some.inj h2]
    rfl
theorem map_app {L1 L2 : List β} {F : α → β → γ} {v : β → γ} (h1 : o.map (fun s => L1.map (F s)) = some (L1.map v)) (h2 : o.map (fun s => L2.map (F s)) = some (L2.map v)) : o.map (fun s => (L1 ++ L2).map (F s)) = some ((L1 ++ L2).map v) := by
  cases o with
  | none => cases h1
  | some s =>
    have h1 : some (L1.map (F s)) = some (L1.map v) := h1
    have h2 : some (L2.map (F s)) = some (L2.map v) := h2
    show some ((L1 ++ L2).map (F s)) = some ((L1 ++ L2).map v)
    rw [List.map_append, List.map_append, Option.some.inj h1, Option.some.inj h2]
end
end Pk
set_option Elab.async false
set_option linter.all false
set_option maxRecDepth 100000
set_option maxHeartbeats 1000000
namespace Pk
open PySem L2
def top (i : Nat) : Stmt := PySem.Challenge.pw_pairorder_k77_texts_of_amounts.main.body.getD i (.Pass ⟨0, 0, 0, 0⟩)
end Pk
set_option Elab.async false
set_option linter.all false
set_option maxRecDepth 100000
set_option maxHeartbeats 0
namespace Pk
open PySem L2 PySem.Spec PyProof.Rows PySem.W PySem.Calls
/-! ### the head: what is looked at -/
def hkCls (i j : Nat) : Stmt := match top i with
  | .ClassDef (body := b) .. => b.getD j (.Pass ⟨0, 0, 0, 0⟩)
  | _ => .Pass ⟨0, 0, 0, 0⟩
def hkFn0 : List FdP := [⟨("own_copy", none), "own_copy", "own_copy", (top 2), []⟩, ⟨("InvalidAmounts", some "__init__"), "__init__", "InvalidAmounts.__init__", (hkCls 4 0), ["__class__"]⟩, ⟨("InvalidText", some "__init__"), "__init__", "InvalidText.__init__", (hkCls 6 0), ["__class__"]⟩, ⟨("is_integer", none), "is_integer", "is_integer", (top 9), []⟩, ⟨("check_line_amounts", none), "check_line_amounts", "check_line_amounts", (top 11), []⟩, ⟨("Amounts", some "__init__"), "__init__", "Amounts.__init__", (hkCls 12 0), []⟩, ⟨("Amounts", some "stocks"), "stocks", "Amounts.stocks", (hkCls 12 7), []⟩, ⟨("Amounts", some "wishes"), "wishes", "Amounts.wishes", (hkCls 12 8), []⟩, ⟨("Amounts", some "__eq__"), "__eq__", "Amounts.__eq__", (hkCls 12 2), []⟩, ⟨("show_amounts", none), "show_amounts", "show_amounts", (top 17), []⟩, ⟨("check_text", none), "check_text", "check_text", (top 18), []⟩, ⟨("is_amount_word", none), "is_amount_word", "is_amount_word", (top 19), []⟩, ⟨("read_amounts", none), "read_amounts", "read_amounts", (top 20), []⟩, ⟨("_law_cell", none), "_law_cell", "_law_cell", (top 22), []⟩, ⟨("_law_mixed", none), "_law_mixed", "_law_mixed", (top 23), []⟩, ⟨("_law_draws", none), "_law_draws", "_law_draws", (top 24), []⟩, ⟨("_law_same", none), "_law_same", "_law_same", (top 25), []⟩, ⟨("_law_number", none), "_law_number", "_law_number", (top 26), []⟩, ⟨("_law_sign", none), "_law_sign", "_law_sign", (top 27), []⟩, ⟨("_law_put_in", none), "_law_put_in", "_law_put_in", (top 28), []⟩, ⟨("_law_taken_out", none), "_law_taken_out", "_law_taken_out", (top 29), []⟩, ⟨("_law_read", none), "_law_read", "_law_read", (top 30), []⟩, ⟨("_law_answer", none), "_law_answer", "_law_answer", (top 31), []⟩, ⟨("_law_agrees", none), "_law_agrees", "_law_agrees", (top 32), []⟩, ⟨("_law_changed", none), "_law_changed", "_law_changed", (top 33), []⟩, ⟨("_law_joined", none), "_law_joined", "_law_joined", (top 34), []⟩, ⟨("law", none), "law", "law", (top 35), []⟩]
def hkFn : List FdP := hkFn0
def hkEx0 (K : PySem.W.Frag) : Bool := chBt K && (chD "own_copy" K && (chE PySem.Challenge.rw_pairorder_k77_texts_of_amounts.prog.main.file "InvalidAmounts" "InvalidAmounts.__init__" K && (eqB (PySem.W.findIn K (.ref (He.ga K "InvalidAmounts")) "word") (some none) && (eqB (PySem.W.findIn K (.ref (He.ga K "InvalidAmounts")) "at") (some none) && (chE PySem.Challenge.rw_pairorder_k77_texts_of_amounts.prog.main.file "InvalidText" "InvalidText.__init__" K && (eqB (PySem.W.findIn K (.ref (He.ga K "InvalidText")) "line") (some none) && (eqB (PySem.W.findIn K (.ref (He.ga K "InvalidText")) "word") (some none) && (decide (PySem.W.subIn K (.ref (He.ga K "InvalidAmounts")) (.ref (He.ga K "InvalidText")) = some false) && (chD "is_integer" K && (chI "MOST_LINES" 8 K && (chI "MOST_DIGITS" 60 K && (chS "DIGITS" "0123456789" K && (chS "BETWEEN" "|" K && (eqB (PySem.W.nsIn K mainGlobals "all") (some none) && (chD "check_line_amounts" K && (chG "Amounts" K && (chM "Amounts" "__init__" "Amounts.__init__" K && (chM "Amounts" "stocks" "Amounts.stocks" K && (chM "Amounts" "wishes" "Amounts.wishes" K && (chM "Amounts" "__eq__" "Amounts.__eq__" K && (chO "Amounts" K && (PySem.W.makesIn K (He.ga K "Amounts") && (PySem.W.keepIn K (.ref (He.ga K "Amounts")) && (eqB (PySem.W.findIn K (.ref (He.ga K "Amounts")) "held") (some none) && (eqB (PySem.W.findIn K (.ref (He.ga K "Amounts")) "wished") (some none) && (eqB (PySem.W.findIn K (.ref (He.ga K "Amounts")) "__ne__") (some (some (.builtin "object.__ne__"))) && (chD "show_amounts" K && (chD "check_text" K && (chD "is_amount_word" K && (chD "read_amounts" K && (chD "_law_cell" K && (chD "_law_mixed" K && (chD "_law_draws" K && (chD "_law_same" K && (chD "_law_number" K && (chD "_law_sign" K && (chD "_law_put_in" K && (chD "_law_taken_out" K && (chD "_law_read" K && (chD "_law_answer" K && (chD "_law_agrees" K && (chD "_law_changed" K && (chD "_law_joined" K && (chD "law" K && (true)))))))))))))))))))))))))))))))))))))))))))))
def hkEx (K : PySem.W.Frag) : Bool := hkEx0 K
def hkNames0 : List Str := ["_wall", "__name__", "own_copy", "PairError", "InvalidAmounts", "InvalidBound", "InvalidText", "MOST_LINES", "is_integer", "check_line_amounts"]
def hkNames1 : List Str := ["Amounts", "DIGITS", "MOST_DIGITS", "BETWEEN", "show_amounts", "check_text", "is_amount_word", "read_amounts", "_law_cell", "_law_mixed"]
def hkNames2 : List Str := ["_law_draws", "_law_same", "_law_number", "_law_sign", "_law_put_in", "_law_taken_out", "_law_read", "_law_answer", "_law_agrees", "_law_changed"]
def hkNames3 : List Str := ["_law_joined"]
def hkNames : List Str := hkNames0 ++ (hkNames1 ++ (hkNames2 ++ (hkNames3)))
abbrev hkR : PySem.W.OpenRow := PySem.W.OpenLaw.row PySem.Challenge.rw_pairorder_k77_texts_of_amounts
abbrev hkH : PySem.W.Hook := hookP 4 hkFn hkEx
def hkOb (s : PySem.W.SharedT) : Bool × List FnP := obsPG 4 hkFn hkEx (HandSHeadRun.getT s)
theorem hkOb_eq (s : PySem.W.SharedT) : hkOb s = hkH.obs s.abs := obsPG_eq (HandSHeadRun.getT_eq s)
theorem hkBare : hkR.prog.bare := ⟨rfl, rfl, rfl, rfl, rfl, by decide +kernel⟩
theorem hkLaw (h : hkR.wellSaid = true → hkR.Holds) : PySem.Challenge.rw_pairorder_k77_texts_of_amounts.Holds := by
  w_on; o_law
  exact h (by assumption)
noncomputable abbrev hkS (w : World) (os : OsState) : Option PySem.W.SharedT := HandSHeadRun.endF (HandSHeadRun.stepQ (HandSHeadRun.denQ HandSHeadRun.tabQ) hkR.prog w) 12000 hkR.prog w os
def hkK (s : PySem.W.SharedT) : PySem.W.Frag := He.frG (HandSHeadRun.getT s) (asP (HandSHeadRun.getT s) 4)
theorem hkRunA (w : World) (os : OsState) : (hkS w os).map (fun s => (HandSHeadRun.looksF hkR.prog (boot_heap w.params) s.abs, HandSHeadRun.seenQ (PySem.W.view hkR.prog [35]) hkNames (importedModules hkR.prog.main.body) (fun s => PySem.W.xlAt (PySem.W.view hkR.prog [35]) [] s && PySem.W.recOk hkR.toRowW.records s) s.abs)) = some (true, PySem.W.openGood (PySem.W.view hkR.prog [35]) hkNames) := by kernel_rfl
theorem hkE0 (w : World) (os : OsState) : (hkS w os).map (fun s => hkEx0 (hkK s)) = some true := by kernel_rfl
theorem hkF0 (w : World) (os : OsState) : (hkS w os).map (fun s => hkFn0.map fun d => fnP (hkK s) d.at_) = some (hkFn0.map FdP.val) := by kernel_rfl
theorem hkRun (w : World) : HandSHeadRun.RunEq hkR (PySem.W.view hkR.prog [35]) hkH hkOb 12000 hkNames w := by
  intro os
  have a := hkRunA w os
  have e : (hkS w os).map (fun s => hkEx (hkK s)) = some true := hkE0 w os
  have f : (hkS w os).map (fun s => hkFn.map fun d => fnP (hkK s) d.at_) = some (hkFn.map FdP.val) := hkF0 w os
  have o : (hkS w os).map hkOb = some (valP hkFn) := map_pair e f
  cases q : hkS w os with
  | none => rw [q] at a; cases a
  | some s =>
    rw [q] at a o
    have a := Option.some.inj (show some (_, _) = some (_, _) from a)
    have o : hkOb s = valP hkFn := Option.some.inj o
    show (hkS w os).map _ = _
    rw [q]
    show some (_, _, hkOb s) = some (true, _, valP hkFn)
    rw [o, (Prod.mk.inj a).1, (Prod.mk.inj a).2]
end Pk
set_option Elab.async false
set_option linter.all false
set_option maxRecDepth 100000
set_option maxHeartbeats 1000000
namespace Pk
open PySem L2 PySem.Spec PyProof.Rows
/-! ### <, <=, >, >= and in, over data -/
section
variable {X : Cx}
/-- two data that may be compared, of no great depth -/
def Cmpr (K : PySem.W.Frag) (H : Hp) (x y : V) (d e : PyData) : Prop := Dp K H x d ∧ Dp K H y e ∧ PySem.W.alike d e = true ∧ d ≠ .none ∧ d.depth ≤ 32
def rCmpD (K : PySem.W.Frag) (g : PyData → PyData → Bool) : R2 := fun x y H Q => ∃ d e, Cmpr K H x y d e ∧ Q (.bl (g d e)) H
theorem op_ltD (hu : X.A.units + 64 < cLine) : OpR X (compareOp .Lt) (rCmpD X.K fun d e => PySem.W.dataLt d e) := by
  intro pins s σ H x y v u Q I rx ry h
  obtain ⟨d, e, ⟨hd, he, al, nn, dl⟩, q⟩ := h
  obtain ⟨as, r1⟩ := Dp.reads I d x v hd rx
  obtain ⟨bs, r2⟩ := Dp.reads I e y u he ry
  exact PySem.W.lt_data r1 r2 al nn (by omega) ⟨.bl _, H, I, rfl, q⟩
theorem op_gtD (hu : X.A.units + 64 < cLine) : OpR X (compareOp .Gt) (rCmpD X.K fun d e => PySem.W.dataLt e d) := by
  intro pins s σ H x y v u Q I rx ry h
  obtain ⟨d, e, ⟨hd, he, al, nn, dl⟩, q⟩ := h
  obtain ⟨as, r1⟩ := Dp.reads I d x v hd rx
  obtain ⟨bs, r2⟩ := Dp.reads I e y u he ry
  exact PySem.W.gt_data r1 r2 al nn (by omega) ⟨.bl _, H, I, rfl, q⟩
theorem op_leD (hu : X.A.units + 64 < cLine) : OpR X (compareOp .LtE) (rCmpD X.K fun d e => !PySem.W.dataLt e d) := by
  intro pins s σ H x y v u Q I rx ry h
  obtain ⟨d, e, ⟨hd, he, al, nn, dl⟩, q⟩ := h
  obtain ⟨as, r1⟩ := Dp.reads I d x v hd rx
  obtain ⟨bs, r2⟩ := Dp.reads I e y u he ry
  exact PySem.W.le_data r1 r2 al nn (by omega) ⟨.bl _, H, I, rfl, q⟩
theorem op_geD (hu : X.A.units + 64 < cLine) : OpR X (compareOp .GtE) (rCmpD X.K fun d e => !PySem.W.dataLt d e) := by
  intro pins s σ H x y v u Q I rx ry h
  obtain ⟨d, e, ⟨hd, he, al, nn, dl⟩, q⟩ := h
  obtain ⟨as, r1⟩ := Dp.reads I d x v hd rx
  obtain ⟨bs, r2⟩ := Dp.reads I e y u he ry
  exact PySem.W.ge_data r1 r2 al nn (by omega) ⟨.bl _, H, I, rfl, q⟩
end
/-! ### lists of pairs of ints -/
abbrev Pr := Int × Int
def prD (z : Pr) : PyData := .tuple [.int z.1, .int z.2]
def prsD (zs : List Pr) : PyData := .list (zs.map prD)
/-- one pair goes ahead of another -/
def prLt (x y : Pr) : Bool := decide (x.1 < y.1) || (decide (x.1 = y.1) && decide (x.2 < y.2))
def lexB : List Pr → List Pr → Bool
  | [], [] => false
  | [], _ :: _ => true
  | _ :: _, [] => false
  | x :: xs, y :: ys => if x = y then lexB xs ys else prLt x y
theorem pr_alike (x y : Pr) : PySem.W.alike (prD x) (prD y) = true := rfl
theorem prs_alike : ∀ xs ys : List Pr, PySem.W.alikeAll (xs.map prD) (ys.map prD) = true
  | [], _ => by cases ‹List Pr› <;> rfl
  | _ :: _, [] => rfl
  | x :: xs, y :: ys => by
    show (PySem.W.alike (prD x) (prD y) && PySem.W.alikeAll (xs.map prD) (ys.map prD)) = true
    rw [pr_alike, prs_alike xs ys]
    rfl
theorem pr_eqv (x y : Pr) : PyData.eqv (prD x) (prD y) = decide (x = y) := PySem.W.Datum.eqv (α := Int × Int) x y
theorem prs_eqv (xs ys : List Pr) : PyData.eqv (prsD xs) (prsD ys) = decide (xs = ys) := PySem.W.Datum.eqv (α := List (Int × Int)) xs ys
theorem pr_lt (x y : Pr) (n : x ≠ y) : PySem.W.dataLt (prD x) (prD y) = prLt x y := by
  obtain ⟨a, b⟩ := x
  obtain ⟨c, d⟩ := y
  show PySem.W.dataLt (.tuple [.int a, .int b]) (.tuple [.int c, .int d]) = _
  rw [PySem.W.dataLt_tuple]
  by_cases e : a = c
  · subst e
    rw [PySem.W.dataLt_all_yes rfl (by simp [PyData.eqv])]
    have e2 : b ≠ d := fun z => n (by rw [z])
    rw [PySem.W.dataLt_all_no rfl (by simp [PyData.eqv, e2]), PySem.W.dataLt_int]
    simp [prLt]
  · rw [PySem.W.dataLt_all_no rfl (by simp [PyData.eqv, e]), PySem.W.dataLt_int]
    simp [prLt, e]
theorem prs_lt : ∀ xs ys : List Pr, PyProof.Rows.lexLt PyProof.Rows.itemOrd (PySem.W.keyToksAll (xs.map prD)) (PySem.W.keyToksAll (ys.map prD)) = lexB xs ys
  | [], [] => by decide +kernel
  | [], y :: ys => (PyProof.Rows.lex_diff (O := PyProof.Rows.itemOrd) (x := .inl 0) (y := .inl 1) (by decide)).trans rfl
  | x :: xs, [] => (PyProof.Rows.lex_diff (O := PyProof.Rows.itemOrd) (x := .inl 1) (y := .inl 0) (by decide)).trans rfl
  | x :: xs, y :: ys => by
    rw [List.map_cons, List.map_cons, lexB]
    by_cases e : x = y
    · rw [if_pos e, PySem.W.dataLt_all_yes (pr_alike x y) (by rw [pr_eqv, decide_eq_true e]), prs_lt xs ys]
    · rw [if_neg e, PySem.W.dataLt_all_no (pr_alike x y) (by rw [pr_eqv, decide_eq_false e]), pr_lt x y e]
theorem prsLt (xs ys : List Pr) : PySem.W.dataLt (prsD xs) (prsD ys) = lexB xs ys := by
  rw [prsD, prsD, PySem.W.dataLt_list]
  exact prs_lt xs ys
end Pk
set_option Elab.async false
set_option linter.all false
set_option maxRecDepth 100000
set_option maxHeartbeats 1000000
namespace Pk
open PySem L2 PySem.Spec PyProof.Rows
theorem pr_depth (z : Pr) : (prD z).depth ≤ 1 := by
  obtain ⟨a, b⟩ := z
  simp [prD, PyData.depth, PyData.depthAll]
theorem prs_depthAll : ∀ zs : List Pr, PyData.depthAll (zs.map prD) ≤ 1
  | [] => by simp [PyData.depthAll]
  | z :: zs => by
    have h1 := prs_depthAll zs
    have h2 := pr_depth z
    simp only [List.map_cons, PyData.depthAll]
    omega
theorem prs_depth (zs : List Pr) : (prsD zs).depth ≤ 2 := by
  have h := prs_depthAll zs
  simp only [prsD, PyData.depth]
  omega
theorem pr_lay (z : Pr) : (prD z).canLay0 = true := by
  obtain ⟨a, b⟩ := z
  simp [prD, PyData.canLay0, PyData.canLayAll0]
theorem prs_layAll : ∀ zs : List Pr, PyData.canLayAll0 (zs.map prD) = true
  | [] => by simp [PyData.canLayAll0]
  | z :: zs => by simp [PyData.canLayAll0, prs_layAll zs, pr_lay z]
theorem pr_shaped (z : Pr) : SeqAt.shaped (prD z) = true := by
  have h := pr_depth z
  simp only [SeqAt.shaped, pr_lay z, Bool.true_and]
  exact decide_eq_true (by omega)
theorem prs_shaped (zs : List Pr) : SeqAt.shaped (prsD zs) = true := by
  have h := prs_depth zs
  have e : (prsD zs).canLay0 = true := by simp only [prsD, PyData.canLay0]; exact prs_layAll zs
  simp only [SeqAt.shaped, e, Bool.true_and]
  exact decide_eq_true (by omega)
theorem pr_plain (z : Pr) : (prD z).plain = true := PySem.W.Datum.plain (α := Int × Int) z
theorem prs_plainAll (zs : List Pr) : PyData.plainAll (zs.map prD) = true := PySem.W.plainAll_map (α := Int × Int) zs
/-- x in a list of pairs -/
def rInP (K : PySem.W.Frag) : R2 := fun x y H Q => ∃ z zs, Dp K H x (prD z) ∧ Dp K H y (prsD zs) ∧ Q (.bl (decide (z ∈ zs))) H
theorem op_inP {X : Cx} (hu : X.A.units + 64 < cLine) : OpR X (compareOp .In) (rInP X.K) := by
  intro pins s σ H x y v u Q I rx ry h
  obtain ⟨z, zs, hd, he, q⟩ := h
  obtain ⟨as, r1⟩ := Dp.reads I _ x v hd rx
  obtain ⟨bs, r2⟩ := Dp.reads I _ y u he ry
  have h1 := prs_depthAll zs
  refine SeqAt.in_list_data r2 r1 (prs_plainAll zs) (pr_plain z) (by omega) ⟨.bl _, H, I, rfl, ?_⟩
  have e := PySem.W.any_datum (α := Int × Int) zs z
  rw [show ((zs.map prD).any fun y => PyData.eqv y (prD z)) = decide (z ∈ zs) from e.trans (decide_eq_decide.mpr Iff.rfl)]
  exact q
/-! ### pairs on the heap -/
/-- the pair z, none of the pool's -/
def PrAt (p : Addr) (H : Hp) (v : V) (z : Pr) : Prop := ∃ t, v = .ref t ∧ t ≠ p ∧ H t = some (.tup [.int z.1, .int z.2])
inductive PrsAt (p : Addr) (H : Hp) : List V → List Pr → Prop
  | nil : PrsAt p H [] []
  | cons {v : V} {z : Pr} {vs : List V} {zs : List Pr} (h : PrAt p H v z) (r : PrsAt p H vs zs) : PrsAt p H (v :: vs) (z :: zs)
section
variable {p : Addr} {H H' : Hp} {v : V} {z : Pr} {vs us : List V} {zs ys : List Pr} {K : PySem.W.Frag} {i : Nat}
theorem PrAt.keep (h : PrAt p H v z) (k : Keep p H H') : PrAt p H' v z := by
  obtain ⟨t, e, n, h⟩ := h
  exact ⟨t, e, n, k _ _ n h⟩
theorem PrsAt.keep (h : PrsAt p H vs zs) (k : Keep p H H') : PrsAt p H' vs zs := by
  induction h with
  | nil => exact .nil
  | cons h _ ih => exact .cons (h.keep k) ih
theorem PrsAt.mono (h : PrsAt p H vs zs) (k : ∀ t xs, H t = some (.tup xs) → H' t = some (.tup xs)) : PrsAt p H' vs zs := by
  induction h with
  | nil => exact .nil
  | cons h _ ih =>
    obtain ⟨t, e, n, h⟩ := h
    exact .cons ⟨t, e, n, k _ _ h⟩ ih
theorem PrsAt.mono2 (h : PrsAt p H vs zs) (k : ∀ t xs, t ≠ p → H t = some (.tup xs) → H' t = some (.tup xs)) : PrsAt p H' vs zs := by
  induction h with
  | nil => exact .nil
  | cons h _ ih =>
    obtain ⟨t, e, n, h⟩ := h
    exact .cons ⟨t, e, n, k _ _ n h⟩ ih
theorem r_rng3 {σ : L2.St} {ta : TA} {R : It → Hp → Prop} (h : ta σ H fun vs H1 => ∃ (i j c : Int) (n : Nat), vs = [.int i, .int j, .int c] ∧ RgC i j c n ∧ R (Itc i c n) H1) : iRng3 ta σ H R := h
theorem PrsAt.length (h : PrsAt p H vs zs) : vs.length = zs.length := by
  induction h with
  | nil => rfl
  | cons _ _ ih => rw [List.length_cons, List.length_cons, ih]
theorem PrAt.dp (h : PrAt p H v z) : Dp K H v (prD z) := by
  obtain ⟨t, rfl, n, h⟩ := h
  exact .tup (SqT.of h) (.cons (.int _) (.cons (.int _) .nil))
theorem PrsAt.dp (h : PrsAt p H vs zs) : DpAll K H vs (zs.map prD) := by
  induction h with
  | nil => exact .nil
  | cons h _ ih => exact .cons h.dp ih
theorem PrsAt.at (h : PrsAt p H vs zs) : ∀ {i : Nat} {v : V}, vs[i]? = some v → ∃ z, zs[i]? = some z ∧ PrAt p H v z := by
  induction h with
  | nil => intro i v e; simp at e
  | cons h _ ih =>
    intro i v e
    cases i with
    | zero => exact ⟨_, rfl, by cases (Option.some.inj e); exact h⟩
    | succ i => exact ih (by simpa using e)
theorem PrsAt.get (h : PrsAt p H vs zs) : ∀ {i : Nat} {z : Pr}, zs[i]? = some z → ∃ v, vs[i]? = some v ∧ PrAt p H v z := by
  induction h with
  | nil => intro i v e; simp at e
  | cons h _ ih =>
    intro i v e
    cases i with
    | zero => exact ⟨_, rfl, by cases (Option.some.inj e); exact h⟩
    | succ i => exact ih (by simpa using e)
theorem PrsAt.take (h : PrsAt p H vs zs) : ∀ n, PrsAt p H (vs.take n) (zs.take n) := by
  induction h with
  | nil => intro n; cases n <;> exact .nil
  | cons h _ ih =>
    intro n
    cases n with
    | zero => exact .nil
    | succ n => exact .cons h (ih n)
theorem PrsAt.drop (h : PrsAt p H vs zs) : ∀ n, PrsAt p H (vs.drop n) (zs.drop n) := by
  induction h with
  | nil => intro n; cases n <;> exact .nil
  | cons h r ih =>
    intro n
    cases n with
    | zero => exact .cons h r
    | succ n => exact ih n
theorem PrsAt.app (h : PrsAt p H vs zs) (g : PrsAt p H us ys) : PrsAt p H (vs ++ us) (zs ++ ys) := by
  induction h with
  | nil => exact g
  | cons h _ ih => exact .cons h ih
theorem PrsAt.set (h : PrsAt p H vs zs) (g : PrAt p H v z) : ∀ i, PrsAt p H (vs.set i v) (zs.set i z) := by
  induction h with
  | nil => intro i; exact .nil
  | cons h r ih =>
    intro i
    cases i with
    | zero => exact .cons g r
    | succ i => exact .cons h (ih i)
end
/-- a list of pairs, none of the pool's -/
structure PL (p : Addr) (H : Hp) (a : Addr) (zs : List Pr) : Prop where
  ne : a ≠ p
  ex : ∃ vs, H a = some (.lst vs) ∧ PrsAt p H vs zs
section
variable {p a : Addr} {H H' : Hp} {zs : List Pr} {K : PySem.W.Frag}
theorem PL.keep (h : PL p H a zs) (k : Keep p H H') : PL p H' a zs := by
  obtain ⟨n, vs, e, r⟩ := h
  exact ⟨n, vs, k _ _ n e, r.keep k⟩
theorem PL.same (h : PL p H a zs) (k : Same H H') : PL p H' a zs := h.keep (Keep.same k)
theorem PL.dp (h : PL p H a zs) : Dp K H (.ref a) (prsD zs) := by
  obtain ⟨n, vs, e, r⟩ := h
  exact .lst (SqL.of e) r.dp
end
/-! ### the order of lists of pairs -/
theorem prLt_tri (x y : Pr) (n : x ≠ y) : prLt x y = !prLt y x := by
  obtain ⟨a, b⟩ := x
  obtain ⟨c, d⟩ := y
  simp only [prLt]
  by_cases h1 : a < c
  · have : ¬ c < a := by omega
    have : ¬ c = a := by omega
    simp [h1, *]
  · by_cases h2 : a = c
    · subst h2
      have : b ≠ d := fun z => n (by rw [z])
      by_cases h3 : b < d
      · have : ¬ d < b := by omega
        simp [h3, this]
      · have : d < b := by omega
        simp [h3, this]
    · have : c < a := by omega
      simp [h1, h2, this]
theorem prLt_trans {x y z : Pr} (h : prLt x y = true) (g : prLt y z = true) : prLt x z = true := by
  simp only [prLt, Bool.or_eq_true, Bool.and_eq_true, decide_eq_true_eq] at *
  omega
theorem prLt_irr (x : Pr) : prLt x x = false := by simp [prLt]
theorem lexB_self : ∀ xs : List Pr, lexB xs xs = false
  | [] => rfl
  | x :: xs => by rw [lexB, if_pos rfl, lexB_self xs]
theorem lexB_tri : ∀ xs ys : List Pr, xs ≠ ys → lexB xs ys = !lexB ys xs
  | [], [], n => absurd rfl n
  | [], _ :: _, _ => rfl
  | _ :: _, [], _ => rfl
  | x :: xs, y :: ys, n => by
    rw [lexB, lexB]
    by_cases e : x = y
    · subst e
      rw [if_pos rfl, if_pos rfl]
      exact lexB_tri xs ys fun z => n (by rw [z])
    · rw [if_neg e, if_neg (Ne.symm e)]
      exact prLt_tri x y e
theorem lexB_trans : ∀ xs ys zs : List Pr, lexB xs ys = true → lexB ys zs = true → lexB xs zs = true
  | [], [], _, h, _ => by cases h
  | [], _ :: _, [], _, g => by cases g
  | [], _ :: _, _ :: _, _, _ => rfl
  | _ :: _, [], _, h, _ => by cases h
  | _ :: _, _ :: _, [], _, g => by cases g
  | x :: xs, y :: ys, z :: zs, h, g => by
    rw [lexB] at h g ⊢
    by_cases e : x = y
    · subst e
      rw [if_pos rfl] at h
      by_cases e2 : x = z
      · subst e2
        rw [if_pos rfl] at g ⊢
        exact lexB_trans xs ys zs h g
      · rw [if_neg e2] at g ⊢
        exact g
    · rw [if_neg e] at h
      by_cases e2 : y = z
      · subst e2
        rw [if_neg e]
        exact h
      · rw [if_neg e2] at g
        have t := prLt_trans h g
        have : x ≠ z := fun q => by rw [q, prLt_irr] at t; cases t
        rw [if_neg this]
        exact t
end Pk
set_option Elab.async false
set_option linter.all false
set_option maxRecDepth 100000
set_option maxHeartbeats 1000000
namespace Pk
open PySem L2 PySem.Spec PyProof.Rows
/-! ### what kind of data -/
def isID : PyData → Bool | .int _ => true | _ => false
def isIB : PyData → Bool | .int _ => true | .bool _ => true | _ => false
def isBD : PyData → Bool | .bool _ => true | _ => false
def isTD : PyData → Bool | .tuple _ => true | _ => false
def isLD : PyData → Bool | .list _ => true | _ => false
theorem kit_i (d : PyData) : kitB (kindOf d) "int" = some (isIB d) := by
  cases d with
  | none => exact (by decide +kernel : kitB "NoneType" "int" = some false)
  | bool b => exact (by decide +kernel : kitB "bool" "int" = some true)
  | int i => exact (by decide +kernel : kitB "int" "int" = some true)
  | str z => exact (by decide +kernel : kitB "str" "int" = some false)
  | list ds => exact (by decide +kernel : kitB "list" "int" = some false)
  | tuple ds => exact (by decide +kernel : kitB "tuple" "int" = some false)
  | dict kv => exact (by decide +kernel : kitB "object" "int" = some false)
theorem kit_b (d : PyData) : kitB (kindOf d) "bool" = some (isBD d) := by
  cases d with
  | none => exact (by decide +kernel : kitB "NoneType" "bool" = some false)
  | bool b => exact (by decide +kernel : kitB "bool" "bool" = some true)
  | int i => exact (by decide +kernel : kitB "int" "bool" = some false)
  | str z => exact (by decide +kernel : kitB "str" "bool" = some false)
  | list ds => exact (by decide +kernel : kitB "list" "bool" = some false)
  | tuple ds => exact (by decide +kernel : kitB "tuple" "bool" = some false)
  | dict kv => exact (by decide +kernel : kitB "object" "bool" = some false)
theorem kit_t (d : PyData) : kitB (kindOf d) "tuple" = some (isTD d) := by
  cases d with
  | none => exact (by decide +kernel : kitB "NoneType" "tuple" = some false)
  | bool b => exact (by decide +kernel : kitB "bool" "tuple" = some false)
  | int i => exact (by decide +kernel : kitB "int" "tuple" = some false)
  | str z => exact (by decide +kernel : kitB "str" "tuple" = some false)
  | list ds => exact (by decide +kernel : kitB "list" "tuple" = some false)
  | tuple ds => exact (by decide +kernel : kitB "tuple" "tuple" = some true)
  | dict kv => exact (by decide +kernel : kitB "object" "tuple" = some false)
theorem kit_l (d : PyData) : kitB (kindOf d) "list" = some (isLD d) := by
  cases d with
  | none => exact (by decide +kernel : kitB "NoneType" "list" = some false)
  | bool b => exact (by decide +kernel : kitB "bool" "list" = some false)
  | int i => exact (by decide +kernel : kitB "int" "list" = some false)
  | str z => exact (by decide +kernel : kitB "str" "list" = some false)
  | list ds => exact (by decide +kernel : kitB "list" "list" = some true)
  | tuple ds => exact (by decide +kernel : kitB "tuple" "list" = some false)
  | dict kv => exact (by decide +kernel : kitB "object" "list" = some false)
section
variable {K : PySem.W.Frag} {H : Hp} {Q : VK} {v : V} {d : PyData} {ds : List PyData}
theorem r_isDI (h : Dp K H v d) (q : Q (.bl (isIB d)) H) : rIsi K [v, .ty "int"] H Q := r_isi (Dp.kind h) (kit_i d) q
theorem r_isDB (h : Dp K H v d) (q : Q (.bl (isBD d)) H) : rIsi K [v, .ty "bool"] H Q := r_isi (Dp.kind h) (kit_b d) q
theorem r_isDT (h : Dp K H v d) (q : Q (.bl (isTD d)) H) : rIsi K [v, .ty "tuple"] H Q := r_isi (Dp.kind h) (kit_t d) q
theorem r_isDL (h : Dp K H v d) (q : Q (.bl (isLD d)) H) : rIsi K [v, .ty "list"] H Q := r_isi (Dp.kind h) (kit_l d) q
theorem Dp.tupAt (h : Dp K H v (.tuple ds)) : ∃ t vs, v = .ref t ∧ SqT K H t vs ∧ DpAll K H vs ds := by
  cases h with
  | tup h1 h2 => exact ⟨_, _, rfl, h1, h2⟩
theorem Dp.lstAt (h : Dp K H v (.list ds)) : ∃ t vs, v = .ref t ∧ SqL K H t vs ∧ DpAll K H vs ds := by
  cases h with
  | lst h1 h2 => exact ⟨_, _, rfl, h1, h2⟩
theorem DpAll.len : ∀ {vs : List V} {ds : List PyData}, DpAll K H vs ds → vs.length = ds.length
  | _, _, .nil => rfl
  | _, _, .cons _ t => by rw [List.length_cons, List.length_cons, DpAll.len t]
theorem DpAll.at : ∀ {vs : List V} {ds : List PyData}, DpAll K H vs ds → ∀ {i : Nat} {v : V}, vs[i]? = some v → ∃ d, ds[i]? = some d ∧ Dp K H v d
  | _, _, .nil, i, v, e => by simp at e
  | _, _, .cons h t, 0, v, e => ⟨_, rfl, by cases (Option.some.inj e); exact h⟩
  | _, _, .cons h t, i + 1, v, e => DpAll.at t (by simpa using e)
theorem DpAll.get : ∀ {vs : List V} {ds : List PyData}, DpAll K H vs ds → ∀ {i : Nat} {d : PyData}, ds[i]? = some d → ∃ v, vs[i]? = some v ∧ Dp K H v d
  | _, _, .nil, i, v, e => by simp at e
  | _, _, .cons h t, 0, v, e => ⟨_, rfl, by cases (Option.some.inj e); exact h⟩
  | _, _, .cons h t, i + 1, v, e => DpAll.get t (by simpa using e)
theorem DpAll.take : ∀ {vs : List V} {ds : List PyData}, DpAll K H vs ds → ∀ n, DpAll K H (vs.take n) (ds.take n)
  | _, _, .nil, n => by cases n <;> exact .nil
  | _, _, .cons h t, 0 => .nil
  | _, _, .cons h t, n + 1 => .cons h (DpAll.take t n)
theorem DpAll.drop : ∀ {vs : List V} {ds : List PyData}, DpAll K H vs ds → ∀ n, DpAll K H (vs.drop n) (ds.drop n)
  | _, _, .nil, n => by cases n <;> exact .nil
  | _, _, .cons h t, 0 => .cons h t
  | _, _, .cons h t, n + 1 => DpAll.drop t n
theorem DpAll.app : ∀ {vs us : List V} {ds es : List PyData}, DpAll K H vs ds → DpAll K H us es → DpAll K H (vs ++ us) (ds ++ es)
  | _, _, _, _, .nil, g => g
  | _, _, _, _, .cons h t, g => .cons h (DpAll.app t g)
end
/-! ### in a list, over data; a list of data that can be compared -/
structure Small (ds : List PyData) : Prop where
  plain : PyData.plainAll ds = true
  deep : PyData.depthAll ds ≤ 8
def rInD (K : PySem.W.Frag) (neg : Bool) : R2 := fun x y H Q => ∃ d ds, Dp K H x d ∧ Dp K H y (.list ds) ∧ d.plain = true ∧ Small ds ∧ Q (.bl (if neg then !(ds.any fun e => PyData.eqv e d) else ds.any fun e => PyData.eqv e d)) H
theorem op_inD {X : Cx} (hu : X.A.units + 64 < cLine) : OpR X (compareOp .In) (rInD X.K false) := by
  intro pins s σ H x y v u Q I rx ry h
  obtain ⟨d, ds, hd, he, pd, sm, q⟩ := h
  obtain ⟨as, r1⟩ := Dp.reads I _ x v hd rx
  obtain ⟨bs, r2⟩ := Dp.reads I _ y u he ry
  have h1 := sm.deep
  exact SeqAt.in_list_data r2 r1 sm.plain pd (by omega) ⟨.bl _, H, I, rfl, q⟩
end Pk
set_option Elab.async false
set_option linter.all false
set_option maxRecDepth 100000
set_option maxHeartbeats 1000000
namespace Pk
open PySem L2 PySem.Spec PyProof.Rows
/-! ### an object is made where what is raised is wished for at the caller's slots -/
def tMakeS (C : Addr) (sp : Sp) (E : L2.St → XK) (t : TA) : TE := fun σ H Q => t σ H fun zs H1 => ∀ y dy, H1 y = none → H1 dy = none → dy ≠ y →
  sp (.ref y :: zs) (upd (upd H1 dy (.own y)) y (.ins C dy [])) (fun r H2 => r = .non ∧ Q (.ref y) H2) (E σ)
theorem r_makeS {C : Addr} {sp : Sp} {E : L2.St → XK} {t : TA} {σ : L2.St} {H : Hp} {Q : VK} (h : t σ H fun zs H1 => ∀ y dy, H1 y = none → H1 dy = none → dy ≠ y → sp (.ref y :: zs) (upd (upd H1 dy (.own y)) y (.ins C dy [])) (fun r H2 => r = .non ∧ Q (.ref y) H2) (E σ)) : tMakeS C sp E t σ H Q := h
section
variable {X : Cx} {CX : CXT} {k : Nat} {f C : Addr} {fd : FuncData} {ps : List Str} {sp : Sp} {E : L2.St → XK}
theorem made_at {pins : List (Addr × Obj)} {τ : L2.St} {G : Hp} {sh : Shared} {R : VK} {as : List Value} {zs : List V} (mk : Mk X.K C f) (ok : FnOk X.prog X.w X.K X.mg X.base CX k f fd ps sp) (room : Room (k + 1) X.A) (bd : Binds X.K fd ps []) (px : PassesAt CX X τ (E τ)) (J : Inv X pins τ G sh) (rl : Vals zs as)
    (want : ∀ y dy, G y = none → G dy = none → dy ≠ y → sp (.ref y :: zs) (upd (upd G dy (.own y)) y (.ins C dy [])) (fun r H2 => r = .non ∧ R (.ref y) H2) (E τ)) : wpAny (model X.prog X.w) X.A (call (.ref C) as) (EP X pins τ R) X.xe sh := by
  have w1 := want (sh.heap.objs.size + 1) sh.heap.objs.size (J.hok.fresh (Nat.le_succ _)) (J.hok.fresh (Nat.le_refl _)) (Nat.ne_of_lt (Nat.lt_succ_self _))
  have J2 := Inv.made (C := C) J
  have rl2 : Vals (V.ref (sh.heap.objs.size + 1) :: zs) (Value.ref (sh.heap.objs.size + 1) :: as) := .cons rfl rl
  have len : (Value.ref (sh.heap.objs.size + 1) :: as ++ []).length = ps.length := by
    rw [List.append_nil]
    exact rl2.length.symm.trans (ok.len _ _ _ _ w1)
  have b2 := bd _ (Value.ref (sh.heap.objs.size + 1) :: as) J2.kIn len
  rw [List.append_nil] at b2
  refine wpAny_call (make_map (f := f) J.kIn mk.makes mk.init (beq_iff_eq.mp mk.fn) (codeAny_mono (ok.run _ X.stack _ _ ⟨Value.ref (sh.heap.objs.size + 1) :: as, []⟩
    (Value.ref (sh.heap.objs.size + 1) :: as) _ _ (E τ) (room.make C as []) (J2.env0.make C as []) b2 rl2 w1) fun fin t ht => ?_))
  rcases fin with er | fl
  · exact px pins _ _ er t J2 ht
  · cases fl with
    | ret u =>
      obtain ⟨r, G', J3, rr, er, q3⟩ := J2.after ht
      subst er
      exact ⟨rr, ⟨V.ref (sh.heap.objs.size + 1), G', J3, rfl, q3⟩⟩
    | next => exact ht.elim
    | brk => exact ht.elim
    | cont => exact ht.elim
end
theorem pe_dkS {X : Cx} {W : WX} {x : Str} {k j : Nat} {ps : List Str} {sp : Sp} {e : Expr} {es : List Expr} {t : TA} {p pos : Pos} {C : Addr} (tk : Takes X W) (D : Dk X.prog X.w X.K X.mg X.base (L2.CX X.prog X.w) x k ps sp C) (hr : Room j X.A) (l : k + 1 ≤ j) (ha : PA X (e :: es) t) (hg : Gl X x := by rfl)
    (hdb : (x == ("__debug__" : Str)) = false := by decide) (he : starEach (e :: es) X.env = (false, eval e X.env) :: starEach es X.env := by rfl) (hpl : (backTo pos (starEach es X.env)).any (·.1) = false := by rfl) : PE X (.Call (.Name x p) (e :: es) [] pos) (tMakeS C sp (WE W) t) := by
  obtain ⟨_, _, D⟩ := D
  refine ⟨fun pins s σ H Q J h => ?_⟩
  refine wpAny_Call_Name_kw (ld_glob J hg D.at_ ?_ hdb)
  refine PySem.W.callWith_K (h₀ := X.base) J.ok.mod.kin D.mkc.kp (thn (ha.run pos pins s σ H _ J h) fun us s1 ⟨vs, H1, J1, r, q⟩ => ⟨J1.kIn, ?_⟩) he hpl
  exact made_at D.mkc D.ok (hr.mono l) D.bd (passAt tk σ) J1 r q
end Pk
set_option Elab.async false
set_option linter.all false
set_option maxRecDepth 100000
set_option maxHeartbeats 1000000
namespace Pk
open PySem L2 PySem.Spec PyProof.Rows
/-! ### loops, whatever stands in them -/
theorem lc_any {J : It} {n : Nat} {G : Hp → Prop} {Y : Nat → Hp → V → Hp → Prop} (w : Walk J n G Y) {B : (Hp → Prop) → V → Hp → Prop} {H0 : Hp} {Qd : Hp → Prop} (Pv : Nat → Hp → Prop) (h0 : Pv 0 H0) (hG : ∀ i H, i ≤ n → Pv i H → G H)
    (hs : ∀ i x H H', i < n → Pv i H → Y i H x H' → B (Pv (i + 1)) x H') (hd : ∀ H, Pv n H → Qd H) : ∃ W : Nat → Nat → Hp → Prop, (∃ m, W 0 m H0) ∧ ∀ i m H, W i m H →
      (J.stop i H ∧ Qd H) ∨ (J.go i H ∧ ∃ Nx : Hp → Prop, (∀ H', Nx H' → ∃ m', m' < m ∧ W (i + 1) m' H') ∧ ∀ x H', J.yld i H x H' → B Nx x H') := by
  refine ⟨fun i m H => m = n - i ∧ i ≤ n ∧ Pv i H, ⟨n, (Nat.sub_zero n).symm, Nat.zero_le _, h0⟩, fun i m H hw => ?_⟩
  obtain ⟨rfl, hi, p⟩ := hw
  rcases Nat.lt_or_ge i n with lt | ge
  · refine .inr ⟨w.goes i H lt (hG i H hi p), Pv (i + 1), fun H' p' => ⟨n - (i + 1), by omega, rfl, lt, p'⟩, fun x H' y => ?_⟩
    exact hs i x H H' lt p (w.yields i H x H' lt (hG i H hi p) y)
  · obtain rfl : i = n := Nat.le_antisymm hi ge
    exact .inl ⟨w.stops H (hG _ H hi p), hd H p⟩
theorem r_lc2 {wi wi1 : TI} {g g1 : TG} {tt tt1 : TT} {te : TE} {vs vs1 : List Nat} {σ : L2.St} {H : Hp} {Q : VK} (h : wi σ H fun J H1 => ∀ D, H1 D = none → ∃ W : Nat → Nat → Hp → Prop, (∃ m, W 0 m (upd H1 D (.lst []))) ∧ ∀ i m H, W i m H →
  (J.stop i H ∧ Q (.ref D) H) ∨ (J.go i H ∧ ∃ Nx : Hp → Prop, (∀ H', Nx H' → ∃ m', m' < m ∧ W (i + 1) m' H') ∧ ∀ x H', J.yld i H x H' → g x (wipe σ vs) H' fun σ2 H2 => wipe σ2 vs = wipe σ vs ∧ tt σ2 H2 fun b H3 =>
    if b = true then wi1 σ2 H3 fun J1 H4 => ∃ W1 : Nat → Nat → Hp → Prop, (∃ m, W1 0 m H4) ∧ ∀ j k H, W1 j k H →
      (J1.stop j H ∧ Nx H) ∨ (J1.go j H ∧ ∃ Nx1 : Hp → Prop, (∀ H', Nx1 H' → ∃ k', k' < k ∧ W1 (j + 1) k' H') ∧ ∀ x H', J1.yld j H x H' → g1 x (wipe σ2 vs1) H' fun σ3 H5 => wipe σ3 vs1 = wipe σ2 vs1 ∧ tt1 σ3 H5 fun b H6 =>
        if b = true then te σ3 H6 fun y H7 => ∃ acc, H7 D = some (.lst acc) ∧ acc.length < sizeLine ∧ Nx1 (upd H7 D (.lst (acc ++ [y]))) else Nx1 H6)
    else Nx H3)) : tLc2 wi g tt wi1 g1 tt1 te vs vs1 σ H Q := h
/-! ### a part of the heap -/
/-- all of G was not tracked in H -/
def Fresh (H G : Hp) : Prop := ∀ a o, G a = some o → H a = none
theorem Fresh.off {H G : Hp} {b : Addr} {o : HO} (f : Fresh H G) (h : H b = some o) : G b = none := by
  cases e : G b with
  | none => rfl
  | some u => rw [f b u e] at h; cases h
theorem Fresh.back {H0 H G : Hp} (f : Fresh H G) (s : Same H0 H) : Fresh H0 G := fun a o e => s.free (f a o e)
theorem Same.part {G H H' : Hp} {b : Addr} (s : Same G H) (n : G b = none) (k : Keep b H H') : Same G H' := fun a o e => k a o (fun z => by rw [z, n] at e; cases e) (s a o e)
theorem Same.upOff {G H : Hp} {b : Addr} {o : HO} (s : Same G H) (n : G b = none) : Same G (upd H b o) := fun a u e => by
  rw [upd_ne (fun z => by rw [z, n] at e; cases e)]
  exact s a u e
/-! ### tables -/
abbrev Rw := List (List (Option Int))
def pV : Option Int → V
  | .none => .non
  | .some i => .int i
def pD : Option Int → PyData
  | .none => .none
  | .some i => .int i
def rowD (r : List (Option Int)) : PyData := .list (r.map pD)
def rowsD (R : Rw) : PyData := .list (R.map rowD)
def wd (R : Rw) : Nat := (R.headD []).length
def prc (R : Rw) (i j : Nat) : Option Int := (R.getD i []).getD j none
/-- the pairs, in ascending order -/
def cells (R : Rw) : List Pr := (List.range R.length).flatMap fun i => ((List.range (wd R)).filter fun j => (prc R i j).isSome).map fun (j : Nat) => (((i : Nat) : Int), (j : Int))
structure Gt (R : Rw) : Prop where
  h0 : 0 < R.length
  h8 : R.length ≤ 8
  w0 : 0 < wd R
  w8 : wd R ≤ 8
  sq : ∀ r, r ∈ R → r.length = wd R
instance : PySem.W.Datum (Option Int) where
  toD := pD
  plain z := by cases z <;> rfl
  eqv a b := by cases a <;> cases b <;> simp [pD, PyData.eqv, PySem.W.beq_decide]
  depth := 0
  depth_le z := by cases z <;> simp [pD, PyData.depth]
theorem rows_eqv (R S : Rw) : PyData.eqv (rowsD R) (rowsD S) = decide (R = S) := PySem.W.Datum.eqv (α := List (List (Option Int))) R S
theorem row_depthAll : ∀ r : List (Option Int), PyData.depthAll (r.map pD) = 0
  | [] => by simp [PyData.depthAll]
  | z :: r => by cases z <;> simp [PyData.depthAll, PyData.depth, pD, row_depthAll r]
theorem row_depth (r : List (Option Int)) : (rowD r).depth = 1 := by simp [rowD, PyData.depth, row_depthAll r]
theorem rows_depthAll : ∀ R : Rw, PyData.depthAll (R.map rowD) ≤ 1
  | [] => by simp [PyData.depthAll]
  | r :: R => by
    have h1 := rows_depthAll R
    simp only [List.map_cons, PyData.depthAll, row_depth]
    omega
theorem rows_depth (R : Rw) : (rowsD R).depth ≤ 2 := by
  have h := rows_depthAll R
  simp only [rowsD, PyData.depth]
  omega
theorem row_layAll : ∀ r : List (Option Int), PyData.canLayAll0 (r.map pD) = true
  | [] => by simp [PyData.canLayAll0]
  | z :: r => by cases z <;> simp [PyData.canLayAll0, PyData.canLay0, pD, row_layAll r]
theorem row_lay (r : List (Option Int)) : (rowD r).canLay0 = true := by simp [rowD, PyData.canLay0, row_layAll r]
theorem rows_layAll : ∀ R : Rw, PyData.canLayAll0 (R.map rowD) = true
  | [] => by simp [PyData.canLayAll0]
  | r :: R => by simp [PyData.canLayAll0, rows_layAll R, row_lay r]
theorem rows_shaped (R : Rw) : SeqAt.shaped (rowsD R) = true := by
  have h := rows_depth R
  have e : (rowsD R).canLay0 = true := by simp only [rowsD, PyData.canLay0]; exact rows_layAll R
  simp only [SeqAt.shaped, e, Bool.true_and]
  exact decide_eq_true (by omega)
theorem rows_plain (R : Rw) : (rowsD R).plain = true := PySem.W.Datum.plain (α := List (List (Option Int))) R
theorem pV_dp {K : PySem.W.Frag} {H : Hp} (z : Option Int) : Dp K H (pV z) (pD z) := by
  cases z
  · exact .non
  · exact .int _
theorem row_dp {K : PySem.W.Frag} {H : Hp} (r : List (Option Int)) : DpAll K H (r.map pV) (r.map pD) := by
  induction r with
  | nil => exact .nil
  | cons z r ih => exact .cons (pV_dp z) ih
theorem deep_pD (z : Option Int) {n : Nat} : Deep n (pD z) := by
  cases z
  · exact .non
  · exact .int _
theorem deep_row {r : List (Option Int)} (h : r.length ≤ 1000) : Deep 1 (rowD r) := .lst (fun d hd => by
  obtain ⟨z, _, rfl⟩ := List.mem_map.mp hd
  exact deep_pD z) (by rw [List.length_map]; exact h)
theorem Gt.len {R : Rw} (g : Gt R) {i : Nat} (h : i < R.length) : R[i].length = wd R := g.sq _ (List.getElem_mem h)
theorem Gt.getD {R : Rw} (g : Gt R) {i : Nat} (h : i < R.length) : R.getD i [] = R[i] := by
  rw [List.getD_eq_getElem?_getD, List.getElem?_eq_getElem h]
  rfl
theorem deep_rows {R : Rw} (g : Gt R) : Deep 2 (rowsD R) := .lst (fun d hd => by
  obtain ⟨r, hr, rfl⟩ := List.mem_map.mp hd
  have h1 := g.sq r hr
  have h2 := g.w8
  exact deep_row (by omega)) (by rw [List.length_map]; have := g.h8; omega)
/-- a list of rows, each a list of its own -/
structure RL (G : Hp) (e : Addr) (es : List V) (R : Rw) : Prop where
  at_ : G e = some (.lst es)
  len : es.length = R.length
  row : ∀ i v, es[i]? = some v → ∃ a, v = .ref a ∧ G a = some (.lst ((R.getD i []).map pV))
theorem RL.same {G H : Hp} {e : Addr} {es : List V} {R : Rw} (l : RL G e es R) (s : Same G H) : RL H e es R := ⟨s _ _ l.at_, l.len, fun i v h => by
  obtain ⟨a, e1, e2⟩ := l.row i v h
  exact ⟨a, e1, s _ _ e2⟩⟩
theorem RL.get {G : Hp} {e : Addr} {es : List V} {R : Rw} (l : RL G e es R) {i : Nat} (h : i < R.length) : ∃ a, es[i]? = some (.ref a) ∧ G a = some (.lst ((R.getD i []).map pV)) := by
  have hi : i < es.length := by rw [l.len]; exact h
  obtain ⟨a, e1, e2⟩ := l.row i _ (List.getElem?_eq_getElem hi)
  exact ⟨a, by rw [List.getElem?_eq_getElem hi, e1], e2⟩
theorem RL.all {K : PySem.W.Frag} {G : Hp} {e : Addr} {es : List V} {R : Rw} (l : RL G e es R) : DpAll K G es (R.map rowD) := by
  refine dpAll_of (by rw [List.length_map]; exact l.len) fun i v d hv hd => ?_
  obtain ⟨a, rfl, h⟩ := l.row i v hv
  rw [List.getElem?_map] at hd
  cases q : R[i]? with
  | none => rw [q] at hd; cases hd
  | some r =>
    rw [q] at hd
    cases (Option.some.inj hd)
    rw [List.getD_eq_getElem?_getD, q] at h
    exact .lst (SqL.of h) (row_dp r)
theorem RL.dp {K : PySem.W.Frag} {G : Hp} {e : Addr} {es : List V} {R : Rw} (l : RL G e es R) : Dp K G (.ref e) (rowsD R) := .lst (SqL.of l.at_) l.all
/-- the table at x, whose parts are all in G -/
structure TbX (C : Addr) (G : Hp) (x : Addr) (R : Rw) : Prop where
  g : Gt R
  ex : ∃ dx e u es, G x = some (.ins C dx [("entries", .ref e), ("used", .ref u)]) ∧ RL G e es R ∧ PL x G u (cells R)
theorem pr_at {R : Rw} {i j : Nat} (hi : i < R.length) (hj : j < wd R) : (R.getD i []).length = R[i].length := by
  rw [List.getD_eq_getElem?_getD, List.getElem?_eq_getElem hi]
  rfl
theorem prc_get {R : Rw} (g : Gt R) {i j : Nat} (hi : i < R.length) (hj : j < wd R) : ((R.getD i []).map pV)[j]? = some (pV (prc R i j)) := by
  have l : j < (R.getD i []).length := by rw [g.getD hi, g.len hi]; exact hj
  rw [List.getElem?_map, List.getElem?_eq_getElem l, prc, List.getD_eq_getElem?_getD (l := R.getD i []), List.getElem?_eq_getElem l]
  rfl
/-! ### over data -/
def priceD : PyData → Bool
  | .none => true
  | .int _ => true
  | _ => false
theorem price_inv {d : PyData} (h : priceD d = true) : ∃ z, d = pD z := by
  cases d with
  | none => exact ⟨none, rfl⟩
  | int i => exact ⟨some i, rfl⟩
  | _ => cases h
/-- a list of 1 to 8 prices, as many as the other list has entries -/
def rowOk : PyData → PyData → Bool
  | .list ds, .list es => decide (1 ≤ ds.length) && decide (ds.length ≤ 8) && decide (ds.length = es.length) && ds.all priceD
  | _, _ => false
def firstRow (ds : List PyData) : Option Nat := (List.range ds.length).find? fun i => !rowOk (ds.getD i .none) (ds.getD 0 .none)
/-- what is told of a value as rows: none where it is good -/
def badT : PyData → Option Int
  | .list ds => if ds.length = 0 ∨ 8 < ds.length then some (-1) else (firstRow ds).map Int.ofNat
  | _ => some (-1)
theorem badT_no {d : PyData} (h : isLD d = false) : badT d = some (-1) := by
  cases d with
  | list ds => cases h
  | _ => rfl
theorem firstRow_some {ds : List PyData} {i : Nat} (hi : i < ds.length) (h : ∀ j, j < i → rowOk (ds.getD j .none) (ds.getD 0 .none) = true) (b : rowOk (ds.getD i .none) (ds.getD 0 .none) = false) : firstRow ds = some i := by
  unfold firstRow
  rw [List.find?_range_eq_some]
  exact ⟨by rw [b]; rfl, by simpa using hi, fun j hj => by rw [h j hj]; rfl⟩
theorem firstRow_none {ds : List PyData} (h : ∀ j, j < ds.length → rowOk (ds.getD j .none) (ds.getD 0 .none) = true) : firstRow ds = none := by
  unfold firstRow
  rw [List.find?_eq_none]
  intro j hj
  rw [h j (by simpa using hj)]
  decide
theorem firstRow_all {ds : List PyData} (h : firstRow ds = none) {j : Nat} (hj : j < ds.length) : rowOk (ds.getD j .none) (ds.getD 0 .none) = true := by
  unfold firstRow at h
  rw [List.find?_eq_none] at h
  have := h j (by simpa using hj)
  simpa using this
theorem all_prices {r : List (Option Int)} : (r.map pD).all priceD = true := by
  rw [List.all_map, List.all_eq_true]
  intro z _
  cases z <;> rfl
theorem prices_inv {ds : List PyData} (h : ds.all priceD = true) : ∃ r : List (Option Int), ds = r.map pD := by
  induction ds with
  | nil => exact ⟨[], rfl⟩
  | cons d ds ih =>
    rw [List.all_cons, Bool.and_eq_true] at h
    obtain ⟨z, rfl⟩ := price_inv h.1
    obtain ⟨r, rfl⟩ := ih h.2
    exact ⟨z :: r, rfl⟩
theorem row_okD {R : Rw} (g : Gt R) {i : Nat} (hi : i < R.length) : rowOk ((R.map rowD).getD i .none) ((R.map rowD).getD 0 .none) = true := by
  have e : ∀ k (hk : k < R.length), (R.map rowD).getD k .none = rowD R[k] := fun k hk => by
    rw [List.getD_eq_getElem?_getD, List.getElem?_map, List.getElem?_eq_getElem hk]
    rfl
  rw [e i hi, e 0 g.h0]
  have l1 := g.len hi
  have l2 := g.len g.h0
  have h1 := g.w0
  have h2 := g.w8
  simp only [rowD, rowOk, List.length_map, l1, l2, all_prices, Bool.and_eq_true, decide_eq_true_eq, and_true]
  omega
theorem badT_good {R : Rw} (g : Gt R) : badT (rowsD R) = none := by
  have h0 := g.h0
  have h8 := g.h8
  show (if (R.map rowD).length = 0 ∨ 8 < (R.map rowD).length then some (-1) else (firstRow (R.map rowD)).map Int.ofNat) = none
  rw [if_neg (by rw [List.length_map]; omega), firstRow_none (fun j hj => row_okD g (by simpa using hj))]
  rfl
/-- what is good is a table's rows -/
theorem badT_inv {d : PyData} (h : badT d = none) : ∃ R, d = rowsD R ∧ Gt R := by
  cases d with
  | list ds =>
    by_cases c : ds.length = 0 ∨ 8 < ds.length
    · have : badT (.list ds) = some (-1) := if_pos c
      rw [this] at h
      cases h
    · have hb : badT (.list ds) = (firstRow ds).map Int.ofNat := if_neg c
      rw [hb] at h
      have hf : firstRow ds = none := by
        cases e : firstRow ds with
        | none => rfl
        | some k => rw [e] at h; cases h
      have all := fun {j} (hj : j < ds.length) => firstRow_all hf hj
      have rows : ∀ d, d ∈ ds → ∃ r : List (Option Int), d = rowD r ∧ 1 ≤ r.length ∧ r.length ≤ 8 ∧ ∀ es, ds.getD 0 .none = .list es → r.length = es.length := by
        intro d hd
        obtain ⟨j, hj, rfl⟩ := List.getElem_of_mem hd
        have a := all hj
        rw [List.getD_eq_getElem?_getD (l := ds) (i := j), List.getElem?_eq_getElem hj] at a
        simp only [Option.getD_some] at a
        cases e1 : ds[j] with
        | list xs =>
          cases e2 : ds.getD 0 .none with
          | list es =>
            rw [e1, e2] at a
            simp only [rowOk, Bool.and_eq_true, decide_eq_true_eq] at a
            obtain ⟨⟨⟨a1, a2⟩, a3⟩, a4⟩ := a
            obtain ⟨r, rfl⟩ := prices_inv a4
            rw [List.length_map] at a1 a2 a3
            exact ⟨r, rfl, a1, a2, fun fs q => by cases q; exact a3⟩
          | _ => rw [e1, e2] at a; cases a
        | _ => rw [e1] at a; cases a
      have ex : ∃ R : Rw, ds = R.map rowD := by
        have : ∀ es : List PyData, (∀ d, d ∈ es → ∃ r : List (Option Int), d = rowD r) → ∃ R : Rw, es = R.map rowD := by
          intro es
          induction es with
          | nil => intro _; exact ⟨[], rfl⟩
          | cons d es ih =>
            intro k
            obtain ⟨r, rfl⟩ := k d List.mem_cons_self
            obtain ⟨R, rfl⟩ := ih fun e he => k e (List.mem_cons_of_mem _ he)
            exact ⟨r :: R, rfl⟩
        exact this ds fun d hd => by
          obtain ⟨r, e, _⟩ := rows d hd
          exact ⟨r, e⟩
      obtain ⟨R, rfl⟩ := ex
      rw [List.length_map] at c
      refine ⟨R, rfl, ?_⟩
      have hR : 0 < R.length := by omega
      have e0 : (R.map rowD).getD 0 .none = rowD R[0] := by
        rw [List.getD_eq_getElem?_getD, List.getElem?_map, List.getElem?_eq_getElem hR]
        rfl
      have w : wd R = R[0].length := by
        cases R with
        | nil => cases hR
        | cons r R => rfl
      have one : ∀ r, r ∈ R → 1 ≤ r.length ∧ r.length ≤ 8 ∧ r.length = wd R := by
        intro r hr
        obtain ⟨r', e, b1, b2, b3⟩ := rows (rowD r) (List.mem_map.mpr ⟨r, hr, rfl⟩)
        have l : r.length = r'.length := by
          have := PyData.list.inj e
          have := congrArg List.length this
          simpa using this
        have := b3 _ e0
        rw [List.length_map] at this
        exact ⟨by omega, by omega, by omega⟩
      have o := one _ (List.getElem_mem hR)
      exact ⟨hR, by omega, by omega, by omega, fun r hr => (one r hr).2.2⟩
  | _ => cases h
/-- a tuple of two ints -/
def twoD : PyData → Bool
  | .tuple [.int _, .int _] => true
  | _ => false
theorem twoD_inv {d : PyData} (h : twoD d = true) : ∃ a b, d = .tuple [.int a, .int b] := by
  unfold twoD at h
  split at h
  · exact ⟨_, _, rfl⟩
  · cases h
/-- a cell of the table -/
def cellD (R : Rw) : PyData → Bool
  | .tuple [.int a, .int b] => decide (0 ≤ a) && decide (a < R.length) && decide (0 ≤ b) && decide (b < wd R)
  | _ => false
theorem cellD_no {R : Rw} {d : PyData} (h : twoD d = false) : cellD R d = false := by
  unfold cellD
  split
  · rename_i a b
    exact absurd (show twoD (.tuple [.int a, .int b]) = true from rfl) (by rw [h]; decide)
  · rfl
theorem cellD_inv {R : Rw} {d : PyData} (h : cellD R d = true) : ∃ i j : Nat, d = prD ((i : Int), (j : Int)) ∧ i < R.length ∧ j < wd R := by
  unfold cellD at h
  split at h
  · rename_i a b
    simp only [Bool.and_eq_true, decide_eq_true_eq] at h
    obtain ⟨⟨⟨h1, h2⟩, h3⟩, h4⟩ := h
    refine ⟨a.toNat, b.toNat, ?_, by omega, by omega⟩
    rw [show ((a.toNat : Nat) : Int) = a by omega, show ((b.toNat : Nat) : Int) = b by omega]
    rfl
  · cases h
/-- its price, where it is a cell -/
def cellP (R : Rw) : PyData → Option Int
  | .tuple [.int a, .int b] => prc R a.toNat b.toNat
  | _ => none
theorem mem_cells {R : Rw} {i j : Nat} : ((i : Int), (j : Int)) ∈ cells R ↔ i < R.length ∧ j < wd R ∧ (prc R i j).isSome = true := by
  simp only [cells, List.mem_flatMap, List.mem_range, List.mem_map, List.mem_filter, Prod.mk.injEq]
  constructor
  · rintro ⟨a, ha, b, ⟨hb, hp⟩, e1, e2⟩
    have : a = i := by omega
    have : b = j := by omega
    subst_vars
    exact ⟨ha, hb, hp⟩
  · rintro ⟨ha, hb, hp⟩
    exact ⟨i, ha, j, ⟨hb, hp⟩, rfl, rfl⟩
end Pk
set_option Elab.async false
set_option linter.all false
set_option maxRecDepth 100000
set_option maxHeartbeats 1000000
namespace Pk
open PySem L2 PySem.Spec PyProof.Rows
/-! ### a cut behind a statement -/
theorem r_cut {t u : TS} {D : Ends} {σ : L2.St} {H : Hp} (Mid : L2.St → Hp → Prop) (h1 : t { D with nx := Mid } σ H) (h2 : ∀ σ' H', Mid σ' H' → u D σ' H') : C8.tCut t u D σ H := ⟨Mid, h1, h2⟩
/-! ### the pool, further -/
theorem PoolAt.sameS {H H' : Hp} {p c : Addr} {ns : List Int} (h : PoolAt H p c ns) (s : Same H H') : PoolAt H' p c ns := by
  obtain ⟨a, b, z, n, h0, hP, hC⟩ := h
  exact ⟨a, b, z, n, h0, s _ _ hP, s _ _ hC⟩
theorem PoolAt.off {H : Hp} {p c D : Addr} {ns : List Int} {o : HO} (h : PoolAt H p c ns) (n1 : D ≠ p) (n2 : D ≠ c) : PoolAt (upd H D o) p c ns := by
  obtain ⟨a, b, z, n, h0, hP, hC⟩ := h
  exact ⟨a, b, z, n, h0, by rw [upd_ne (Ne.symm n1)]; exact hP, by rw [upd_ne (Ne.symm n2)]; exact hC⟩
theorem PoolAt.ex {H : Hp} {p c : Addr} {ns : List Int} (h : PoolAt H p c ns) : ∃ o, H p = some o := by
  obtain ⟨a, b, z, n, h0, hP, hC⟩ := h
  exact ⟨_, hP⟩
theorem PoolAt.exC {H : Hp} {p c : Addr} {ns : List Int} (h : PoolAt H p c ns) : ∃ o, H c = some o := by
  obtain ⟨a, b, z, n, h0, hP, hC⟩ := h
  exact ⟨_, hC⟩
theorem Keep.free {p a : Addr} {H H' : Hp} (k : Keep p H H') (n : H' a = none) (np : a ≠ p) : H a = none := by
  cases e : H a with
  | none => rfl
  | some o => rw [k a o np e] at n; cases n
theorem Keep.put {p D : Addr} {H H' : Hp} {o : HO} (k : Keep p H H') (n : H D = none) : Keep p H (upd H' D o) := fun b u nb e => by
  rw [upd_ne (fun z => by rw [z, n] at e; cases e)]
  exact k b u nb e
/-! ### prices that are drawn -/
def Sb (i : Int) : Prop := i.natAbs < 2 ^ 100
def Sz (i : Int) : Prop := i.natAbs < 2 ^ 204
theorem Sb.mul {a b : Int} (h : Sb a) (g : Sb b) : (a * b).natAbs < 2 ^ 200 := by
  rw [Int.natAbs_mul]
  have := Nat.mul_lt_mul'' h g
  exact Nat.lt_of_lt_of_le this (by decide)
theorem Sb.wide {a b : Int} (h : Sb a) (g : Sb b) : CMulW a b := wide_mul h g (by decide) (by decide) (by decide)
def Bd (R : Rw) : Prop := ∀ r, r ∈ R → ∀ i : Int, some i ∈ r → Sz i
/-- tops: pairs of prices -/
structure TL (p D : Addr) (tv : List V) (H : Hp) : Prop where
  ne : D ≠ p
  at_ : H D = some (.lst tv)
  all : ∀ (j : Nat) (v : V), tv[j]? = some v → ∃ (t : Addr) (b y : Int), v = .ref t ∧ t ≠ p ∧ H t = some (.tup [.int b, .int y]) ∧ Sb b ∧ Sb y
theorem TL.keep {p D : Addr} {tv : List V} {H H' : Hp} (l : TL p D tv H) (k : Keep p H H') : TL p D tv H' := ⟨l.ne, k _ _ l.ne l.at_, fun j v e => by
  obtain ⟨t, b, y, e1, n, h, h1, h2⟩ := l.all j v e
  exact ⟨t, b, y, e1, n, k _ _ n h, h1, h2⟩⟩
theorem TL.put {p D L : Addr} {tv ws : List V} {H : Hp} {o : HO} (l : TL p D tv H) (hL : H L = some (.lst ws)) (n : D ≠ L) : TL p D tv (upd H L o) := ⟨l.ne, by rw [upd_ne n]; exact l.at_, fun j v e => by
  obtain ⟨t, b, y, e1, m, h, h1, h2⟩ := l.all j v e
  exact ⟨t, b, y, e1, m, by rw [upd_ne (fun z => by rw [z, hL] at h; cases h)]; exact h, h1, h2⟩⟩
/-- no list stands twice -/
def Dist (es : List V) : Prop := ∀ (i j : Nat) (a : Addr), es[i]? = some (V.ref a) → es[j]? = some (V.ref a) → i = j
theorem Dist.nil : Dist [] := fun i j a e _ => by simp at e
theorem Dist.more {es : List V} {b : Addr} (h : Dist es) (m : ∀ (j : Nat) (v : V), es[j]? = some v → v ≠ .ref b) : Dist (es ++ [.ref b]) := fun i j a e1 e2 => by
  have side : ∀ {k : Nat}, (es ++ [V.ref b])[k]? = some (.ref a) → (k < es.length ∧ es[k]? = some (.ref a)) ∨ (k = es.length ∧ a = b) := fun {k} e => by
    by_cases c : k < es.length
    · rw [List.getElem?_append_left c] at e
      exact .inl ⟨c, e⟩
    · rw [List.getElem?_append_right (by omega)] at e
      have : k - es.length = 0 := by
        have := (List.getElem?_eq_some_iff.mp e).1
        simp at this
        omega
      rw [this] at e
      cases (Option.some.inj e)
      exact .inr ⟨by omega, rfl⟩
  rcases side e1 with ⟨c1, f1⟩ | ⟨c1, f1⟩ <;> rcases side e2 with ⟨c2, f2⟩ | ⟨c2, f2⟩
  · exact h i j a f1 f2
  · exact absurd (by rw [f2]) (m i _ f1)
  · exact absurd (by rw [f1]) (m j _ f2)
  · omega
/-- the rows made so far -/
structure RK (p : Addr) (H0 H : Hp) (L : Addr) (es : List V) (R : Rw) : Prop where
  ne : L ≠ p
  nw : H0 L = none
  at_ : H L = some (.lst es)
  len : es.length = R.length
  row : ∀ (j : Nat) (v : V), es[j]? = some v → ∃ a, v = .ref a ∧ a ≠ p ∧ a ≠ L ∧ H0 a = none ∧ H a = some (.lst ((R.getD j []).map pV))
  dist : Dist es
theorem RK.keep {p L : Addr} {H0 H H' : Hp} {es : List V} {R : Rw} (l : RK p H0 H L es R) (k : Keep p H H') : RK p H0 H' L es R := ⟨l.ne, l.nw, k _ _ l.ne l.at_, l.len, fun j v e => by
  obtain ⟨a, e1, n1, n2, n3, h⟩ := l.row j v e
  exact ⟨a, e1, n1, n2, n3, k _ _ n1 h⟩, l.dist⟩
theorem RK.put {p L b : Addr} {H0 H : Hp} {es : List V} {R : Rw} {o : HO} (l : RK p H0 H L es R) (n : L ≠ b) (m : ∀ (j : Nat) (v : V), es[j]? = some v → v ≠ .ref b) : RK p H0 (upd H b o) L es R := ⟨l.ne, l.nw, by rw [upd_ne n]; exact l.at_, l.len, fun j v e => by
  obtain ⟨a, e1, n1, n2, n3, h⟩ := l.row j v e
  exact ⟨a, e1, n1, n2, n3, by rw [upd_ne (fun z => m j v e (by rw [e1, z]))]; exact h⟩, l.dist⟩
theorem RK.more {p L b : Addr} {H0 H : Hp} {es : List V} {R : Rw} {r : List (Option Int)} (l : RK p H0 H L es R) (h1 : b ≠ p) (h2 : b ≠ L) (h3 : H0 b = none) (h4 : H b = some (.lst (r.map pV))) (m : ∀ (j : Nat) (v : V), es[j]? = some v → v ≠ .ref b) : RK p H0 (upd H L (.lst (es ++ [.ref b]))) L (es ++ [.ref b]) (R ++ [r]) := by
  refine ⟨l.ne, l.nw, upd_same, by rw [List.length_append, List.length_append, l.len]; rfl, fun j v e => ?_, l.dist.more m⟩
  by_cases ji : j < es.length
  · rw [List.getElem?_append_left ji] at e
    obtain ⟨a, e1, n1, n2, n3, h⟩ := l.row j v e
    refine ⟨a, e1, n1, n2, n3, ?_⟩
    rw [upd_ne n2, h, List.getD_eq_getElem?_getD, List.getD_eq_getElem?_getD, List.getElem?_append_left (by rw [← l.len]; exact ji)]
  · rw [List.getElem?_append_right (by omega)] at e
    have : j = es.length := by
      have := (List.getElem?_eq_some_iff.mp e).1
      simp at this
      omega
    subst this
    rw [Nat.sub_self] at e
    cases (Option.some.inj e)
    refine ⟨b, rfl, h1, h2, h3, ?_⟩
    rw [upd_ne h2, h4, l.len, List.getD_eq_getElem?_getD, List.getElem?_append_right (Nat.le_refl _), Nat.sub_self]
    rfl
/-- a list of rows, new since H, the pool aside -/
structure NewK (p : Addr) (H H' : Hp) (r : Addr) (es : List V) (R : Rw) : Prop where
  ne : r ≠ p
  nw : H r = none
  rl : RL H' r es R
  rows : ∀ (i : Nat) (c : Addr), es[i]? = some (V.ref c) → H c = none ∧ c ≠ r ∧ c ≠ p
  dist : Dist es
theorem RK.new {p L : Addr} {H0 H : Hp} {es : List V} {R : Rw} (l : RK p H0 H L es R) : NewK p H0 H L es R := ⟨l.ne, l.nw, ⟨l.at_, l.len, fun i v e => by
  obtain ⟨a, e1, n1, n2, n3, h⟩ := l.row i v e
  exact ⟨a, e1, h⟩⟩, fun i c e => by
  obtain ⟨a, e1, n1, n2, n3, h⟩ := l.row i _ e
  cases e1
  exact ⟨n3, n2, n1⟩, l.dist⟩
theorem RL.keepK {p : Addr} {G H : Hp} {e : Addr} {es : List V} {R : Rw} (l : RL G e es R) (k : Keep p G H) (n : e ≠ p) (m : ∀ (i : Nat) (a : Addr), es[i]? = some (V.ref a) → a ≠ p) : RL H e es R := ⟨k _ _ n l.at_, l.len, fun i v h => by
  obtain ⟨a, e1, e2⟩ := l.row i v h
  exact ⟨a, e1, k _ _ (m i a (by rw [h, e1])) e2⟩⟩
abbrev hpOf {H H' : Hp} (_ : Same H H') : Hp := H'
/-- rows that may be read, tracked or written -/
structure RS (K : PySem.W.Frag) (G : Hp) (e : Addr) (es : List V) (R : Rw) : Prop where
  at_ : SqL K G e es
  len : es.length = R.length
  row : ∀ (i : Nat) (v : V), es[i]? = some v → ∃ a, v = .ref a ∧ SqL K G a ((R.getD i []).map pV)
theorem RL.rs {K : PySem.W.Frag} {G : Hp} {e : Addr} {es : List V} {R : Rw} (l : RL G e es R) : RS K G e es R := ⟨SqL.of l.at_, l.len, fun i v h => by
  obtain ⟨a, e1, e2⟩ := l.row i v h
  exact ⟨a, e1, SqL.of e2⟩⟩
theorem RS.get {K : PySem.W.Frag} {G : Hp} {e : Addr} {es : List V} {R : Rw} (l : RS K G e es R) {i : Nat} (h : i < R.length) : ∃ a, es[i]? = some (.ref a) ∧ SqL K G a ((R.getD i []).map pV) := by
  have hi : i < es.length := by rw [l.len]; exact h
  obtain ⟨a, e1, e2⟩ := l.row i _ (List.getElem?_eq_getElem hi)
  exact ⟨a, by rw [List.getElem?_eq_getElem hi, e1], e2⟩
theorem RS.same {K : PySem.W.Frag} {G H : Hp} {e : Addr} {es : List V} {R : Rw} (l : RS K G e es R) (s : Same G H) : RS K H e es R := ⟨s.seq l.at_, l.len, fun i v h => by
  obtain ⟨a, e1, e2⟩ := l.row i v h
  exact ⟨a, e1, s.seq e2⟩⟩
theorem RS.all {K : PySem.W.Frag} {G : Hp} {e : Addr} {es : List V} {R : Rw} (l : RS K G e es R) : DpAll K G es (R.map rowD) := by
  refine dpAll_of (by rw [List.length_map]; exact l.len) fun i v d hv hd => ?_
  obtain ⟨a, rfl, h⟩ := l.row i v hv
  rw [List.getElem?_map] at hd
  cases q : R[i]? with
  | none => rw [q] at hd; cases hd
  | some r =>
    rw [q] at hd
    cases (Option.some.inj hd)
    rw [List.getD_eq_getElem?_getD, q] at h
    exact .lst h (row_dp r)
theorem RS.dp {K : PySem.W.Frag} {G : Hp} {e : Addr} {es : List V} {R : Rw} (l : RS K G e es R) : Dp K G (.ref e) (rowsD R) := .lst l.at_ l.all
theorem dp_pV {K : PySem.W.Frag} {H : Hp} {v : V} {z : Option Int} (h : Dp K H v (pD z)) : v = pV z := by
  cases z with
  | none => cases h; rfl
  | some i => cases h; rfl
theorem dp_pVs {K : PySem.W.Frag} {H : Hp} : ∀ {vs : List V} {r : List (Option Int)}, DpAll K H vs (r.map pD) → vs = r.map pV
  | [], [], _ => rfl
  | _ :: _, [], h => by cases h
  | [], _ :: _, h => by cases h
  | v :: vs, z :: r, h => by
    cases h with
    | cons h1 h2 => rw [dp_pV h1, dp_pVs h2]; rfl
theorem RS.of {K : PySem.W.Frag} {G : Hp} {v : V} {R : Rw} (h : Dp K G v (rowsD R)) : ∃ e es, v = .ref e ∧ RS K G e es R := by
  obtain ⟨e, es, rfl, he, ha⟩ := Dp.lstAt h
  refine ⟨e, es, rfl, he, by have := DpAll.len ha; rwa [List.length_map] at this, fun i v hv => ?_⟩
  obtain ⟨d, hd, pd⟩ := DpAll.at ha hv
  rw [List.getElem?_map] at hd
  cases q : R[i]? with
  | none => rw [q] at hd; cases hd
  | some r =>
    rw [q] at hd
    cases (Option.some.inj hd)
    obtain ⟨a, vs, rfl, h1, h2⟩ := Dp.lstAt pd
    rw [dp_pVs h2] at h1
    exact ⟨a, rfl, by rw [List.getD_eq_getElem?_getD, q]; exact h1⟩
/-! ### small data that can be laid and compared -/
structure Ni (n : Nat) (d : PyData) : Prop where
  lay : d.canLay0 = true
  deep : d.depth ≤ n
  plain : d.plain = true
theorem Ni.mono {n m : Nat} {d : PyData} (h : Ni n d) (l : n ≤ m) : Ni m d := ⟨h.lay, Nat.le_trans h.deep l, h.plain⟩
theorem ni_all {n : Nat} : ∀ {ds : List PyData}, (∀ d, d ∈ ds → Ni n d) → PyData.canLayAll0 ds = true ∧ PyData.depthAll ds ≤ n ∧ PyData.plainAll ds = true
  | [], _ => ⟨by simp [PyData.canLayAll0], by simp [PyData.depthAll], rfl⟩
  | d :: ds, h => by
    obtain ⟨a, b, c⟩ := ni_all (ds := ds) fun e he => h e (List.mem_cons_of_mem _ he)
    have k := h d List.mem_cons_self
    refine ⟨by simp [PyData.canLayAll0, k.lay, a], ?_, by simp [PyData.plainAll, k.plain, c]⟩
    rw [PyData.depthAll]
    exact Nat.max_le.mpr ⟨k.deep, b⟩
theorem Ni.list {n : Nat} {ds : List PyData} (h : ∀ d, d ∈ ds → Ni n d) : Ni (n + 1) (.list ds) := by
  obtain ⟨a, b, c⟩ := ni_all h
  exact ⟨by simp only [PyData.canLay0]; exact a, by simp only [PyData.depth]; omega, by simp only [PyData.plain]; exact c⟩
theorem Ni.tuple {n : Nat} {ds : List PyData} (h : ∀ d, d ∈ ds → Ni n d) : Ni (n + 1) (.tuple ds) := by
  obtain ⟨a, b, c⟩ := ni_all h
  exact ⟨by simp only [PyData.canLay0]; exact a, by simp only [PyData.depth]; omega, by simp only [PyData.plain]; exact c⟩
theorem Ni.int {n : Nat} (i : Int) : Ni n (.int i) := ⟨by simp [PyData.canLay0], by simp [PyData.depth], rfl⟩
theorem Ni.non {n : Nat} : Ni n .none := ⟨by simp [PyData.canLay0], by simp [PyData.depth], rfl⟩
theorem Ni.bl {n : Nat} (b : Bool) : Ni n (.bool b) := ⟨by simp [PyData.canLay0], by simp [PyData.depth], rfl⟩
theorem Ni.pD {n : Nat} (z : Option Int) : Ni n (pD z) := by
  cases z
  · exact .non
  · exact .int _
theorem Ni.row {n : Nat} (r : List (Option Int)) : Ni (n + 1) (rowD r) := Ni.list fun d hd => by
  obtain ⟨z, _, rfl⟩ := List.mem_map.mp hd
  exact .pD z
theorem Ni.rows {n : Nat} (R : Rw) : Ni (n + 2) (rowsD R) := Ni.list fun d hd => by
  obtain ⟨r, _, rfl⟩ := List.mem_map.mp hd
  exact .row r
theorem Ni.shaped {n : Nat} {d : PyData} (h : Ni n d) (l : n ≤ 30) : SeqAt.shaped d = true := by
  have := h.deep
  simp only [SeqAt.shaped, h.lay, Bool.true_and]
  exact decide_eq_true (by omega)
theorem eqv_plain {d : PyData} (h : d.plain = true) : PyData.eqv d d = true := PySem.SeqAt.eqv_refl_plain d h
def spPrc : Sp := fun vs H Q _ => ∃ (p c : Addr) (ns : List Int) (z : Int), vs = [.ref p, .int z] ∧ PoolAt H p c ns ∧ ∀ (r : Int) (H' : Hp), Sb r → Keep p H H' → PoolAt H' p c ns → Q (.int r) H'
def spEnt : Sp := fun vs H Q _ => ∃ st q a b x y : Int, vs = [.int st, .int q, .int a, .int b, .int x, .int y] ∧ Sb q ∧ Sb a ∧ Sb b ∧ Sb x ∧ Sb y ∧ ∀ r : Int, Sz r → Q (.int r) H
/-- _law_rows(pool, most) -/
def spLRws : Sp := fun vs H Q _ => ∃ (p c : Addr) (ns : List Int) (m : Int), vs = [.ref p, .int m] ∧ PoolAt H p c ns ∧ 0 < m ∧ m ≤ 8 ∧
  ∀ (r : Addr) (es : List V) (R : Rw) (H' : Hp), Keep p H H' → PoolAt H' p c ns → NewK p H H' r es R → Gt R → Bd R → (R.length : Int) ≤ m → (wd R : Int) ≤ m → Q (.ref r) H'
/-- _law_copy(rows) -/
def spLCpy (K : PySem.W.Frag) : Sp := fun vs H Q _ => ∃ (a : Addr) (es : List V) (R : Rw), vs = [.ref a] ∧ RS K H a es R ∧ R.length ≤ 8 ∧ ∀ (r : Addr) (fs : List V) (H' : Hp), Same H H' → H r = none → RL H' r fs R → (∀ (i : Nat) (c : Addr), fs[i]? = some (V.ref c) → H c = none ∧ c ≠ r) → Q (.ref r) H'
/-- _law_pairs(rows) -/
def spLPrs (K : PySem.W.Frag) : Sp := fun vs H Q _ => ∃ (a : Addr) (es : List V) (R : Rw), vs = [.ref a] ∧ RS K H a es R ∧ Gt R ∧ ∀ (r : Addr) (us : List V) (H' : Hp), Same H H' → H r = none → H' r = some (.lst us) → PrsAt r H' us (cells R) → Q (.ref r) H'
end Pk
set_option Elab.async false
set_option linter.all false
set_option maxRecDepth 100000
set_option maxHeartbeats 1000000
namespace Pk
open PySem L2 PySem.Spec PyProof.Rows
/-! ### an own comparison as a test -/
section
variable {X : Cx} {CX : CXT} {k : Nat} {C : Addr} {sp : Sp} {E : L2.St → XK} {a b : Expr} {ta tb : TE} {pos : Pos}
theorem core_cmpOwn {op : CmpOp} (hop : ∀ a b, compareOp op a b = richCompare op a b) (F : Two X CX k C (cmpInfo op).2.1 sp) (hr : Room k X.A) (hx : ∀ σ, PassesAt CX X σ (E σ))
    {pins : List (Addr × Obj)} {σ : L2.St} {H2 : Hp} {s2 : Shared} {x y : V} {v u : Value} {Q : VK} (I2 : Inv X pins σ H2 s2) (rx : RelV x v) (ry : RelV y u) (q : rOwnC X.K C sp E σ x y H2 Q) :
    wpAny (model X.prog X.w) X.A (compareOp op v u) (EP X pins σ Q) X.xe s2 := by
  obtain ⟨f, fd, ps, M, F, B⟩ := F.ex
  obtain ⟨a, dx, fs, rfl, e, o, q⟩ := q
  cases rx
  obtain ⟨ox, od, J⟩ := own_at I2 e
  obtain ⟨tb, L, nf⟩ := other_looks (M := model X.prog X.w) I2 ry o fun _ _ _ _ _ => trivial
  obtain ⟨m, hF⟩ := I2.fr
  rw [hop]
  refine PySem.W.cmp_K (op := op) hr.units0 hF I2.ok.mod.kin J L nf M.at_ M.fn ?_
  refine wpAny_mono (own_run (us := [.ref a, u]) (vs := [.ref a, y]) F hr I2.env0 B (hx σ) I2 (.cons rfl (.cons ry .nil)) q) (fun w s' z => ?_) fun _ _ z => z
  obtain ⟨z, H3, I3, rz, qz⟩ := z
  exact SlX.cmpback rz ⟨z, H3, I3, rz, qz⟩
theorem pt_cmpOwn {op : CmpOp} (hop : ∀ a b, compareOp op a b = richCompare op a b) (F : Two X CX k C (cmpInfo op).2.1 sp) (hr : Room k X.A) (hx : ∀ σ, PassesAt CX X σ (E σ)) (ha : PE X a ta) (hb : PE X b tb) (hm : behindInMarks op b = false) :
    PT X (.Compare a [op] [b] pos) (tTest (tOp2 (rOwnC X.K C sp) E ta tb)) := by
  refine ⟨fun pins s σ H Q I h => ?_⟩
  refine wpAny_isTrue_Compare1 (binT ha hb I h fun v u s2 x y H2 I2 rx ry q => ?_) hm
  refine thn (core_cmpOwn hop F hr hx I2 rx ry q) fun c s3 ⟨z, H3, I3, r3, k, e, q3⟩ => ?_
  subst e
  cases r3
  exact wpAny_truthy_bool ⟨H3, I3, q3⟩
theorem core_neOwn (F : Two X CX k C "__eq__" sp) (hs : PySem.W.findIn X.K (.ref C) "__ne__" = some (some (.builtin "object.__ne__"))) (ho : PySem.W.mroIn X.K C (.type "object") = some true) (hr : Room (k + 1) X.A) (hx : ∀ σ, PassesAt CX X σ (E σ))
    {pins : List (Addr × Obj)} {σ : L2.St} {H2 : Hp} {s2 : Shared} {x y : V} {v u : Value} {Q : VK} (I2 : Inv X pins σ H2 s2) (rx : RelV x v) (ry : RelV y u) (q : rOwnNe X.K C sp E σ x y H2 Q) :
    wpAny (model X.prog X.w) X.A (compareOp .NotEq v u) (EP X pins σ Q) X.xe s2 := by
  obtain ⟨f, fd, ps, M, F, B⟩ := F.ex
  obtain ⟨a, dx, fs, rfl, e, o, q⟩ := q
  cases rx
  obtain ⟨ox, od, J⟩ := own_at I2 e
  obtain ⟨tb, L, nf⟩ := other_looks (M := model X.prog X.w) I2 ry o fun _ _ _ _ _ => trivial
  show wpAny _ _ (richCompare .NotEq _ _) _ _ _
  refine ne_by_eq hr.in1.units0 hr.units0 I2.kIn J L nf ho hs M.at_ M.fn ?_
  refine wpAny_mono (own_run (us := [.ref a, u]) (vs := [.ref a, y]) F hr.in1 I2.env0.in1 B (hx σ) I2 (.cons rfl (.cons ry .nil)) q) (fun w s' z => ?_) fun _ _ z => z
  obtain ⟨z, H3, I3, rz, c, rfl, qz⟩ := z
  cases (show w = Value.bool c from rz)
  exact ⟨c, rfl, .bl (!c), H3, I3, rfl, qz⟩
theorem pt_neOwn (F : Two X CX k C "__eq__" sp) (hs : PySem.W.findIn X.K (.ref C) "__ne__" = some (some (.builtin "object.__ne__"))) (ho : PySem.W.mroIn X.K C (.type "object") = some true) (hr : Room (k + 1) X.A) (hx : ∀ σ, PassesAt CX X σ (E σ)) (ha : PE X a ta) (hb : PE X b tb) (hm : behindInMarks .NotEq b = false) :
    PT X (.Compare a [.NotEq] [b] pos) (tTest (tOp2 (rOwnNe X.K C sp) E ta tb)) := by
  refine ⟨fun pins s σ H Q I h => ?_⟩
  refine wpAny_isTrue_Compare1 (binT ha hb I h fun v u s2 x y H2 I2 rx ry q => ?_) hm
  refine thn (core_neOwn F hs ho hr hx I2 rx ry q) fun c s3 ⟨z, H3, I3, r3, k, e, q3⟩ => ?_
  subst e
  cases r3
  exact wpAny_truthy_bool ⟨H3, I3, q3⟩
end
end Pk
set_option Elab.async false
set_option linter.all false
set_option maxRecDepth 100000
set_option maxHeartbeats 1000000
namespace Pk
open PySem L2 PySem.Spec PyProof.Rows
/-! ### either promise of a def -/
def spOr (a b : Sp) : Sp := fun vs H Q E => a vs H Q E ∨ b vs H Q E
theorem _root_.L2.FnOk.or {P : Program} {w : World} {K : PySem.W.Frag} {mg : Str → Option Value} {base : Heap} {CX : CXT} {k : Nat} {f : Addr} {fd : FuncData} {ps : List Str} {a b : Sp} (A : FnOk P w K mg base CX k f fd ps a) (B : FnOk P w K mg base CX k f fd ps b) : FnOk P w K mg base CX k f fd ps (spOr a b) :=
  ⟨fun vs H Q E h => h.elim (A.len vs H Q E) (B.len vs H Q E), fun A' outer s H args us vs Q E hr he hb hv hs => hs.elim (A.run A' outer s H args us vs Q E hr he hb hv) (B.run A' outer s H args us vs Q E hr he hb hv)⟩
theorem ErrOk.or {P : Program} {w : World} {K : PySem.W.Frag} {mg : Str → Option Value} {base : Heap} {k : Nat} {C fI : Addr} {a b : Sp} (A : ErrOk P w K mg base k C fI a) (B : ErrOk P w K mg base k C fI b) : ErrOk P w K mg base k C fI (spOr a b) :=
  ⟨fun A' outer s H us vs x Q hr he hv hx hs => hs.elim (A.run A' outer s H us vs x Q hr he hv hx) (B.run A' outer s H us vs x Q hr he hv hx)⟩
/-! ### the dict {0: 1} -/
abbrev kvs01 : List (Key × V) := [(.inl 0, .int 1)]
def D01 (H : Hp) (v : V) : Prop := ∃ a : Addr, v = .ref a ∧ H a = some (.dK kvs01)
theorem D01.later {H H' : Hp} {v : V} (s : Same H H') (h : D01 H v) : D01 H' v := let ⟨a, e, q⟩ := h; ⟨a, e, s _ _ q⟩
theorem D01.ty {K : PySem.W.Frag} {H : Hp} {v : V} (h : D01 H v) : TyX K H v (.type "dict") := by
  obtain ⟨a, rfl, q⟩ := h
  exact .base (.dK q)
/-- .. new since H0 -/
def D01n (H0 H : Hp) (v : V) : Prop := ∃ a : Addr, v = .ref a ∧ H0 a = none ∧ H a = some (.dK kvs01)
theorem D01n.at_ {H0 H : Hp} {v : V} (h : D01n H0 H v) : D01 H v := let ⟨a, e, _, q⟩ := h; ⟨a, e, q⟩
/-- own_copy of it -/
def spCopyD : Sp := fun vs H Q _ => ∃ v : V, vs = [v] ∧ D01 H v ∧ ∀ (v' : V) (H' : Hp), Same H H' → D01n H H' v' → Q v' H'
/-- an __init__ of one field, a copy of such a dict -/
def spErrD (K : PySem.W.Frag) (C : Addr) (f : Str) : Sp := fun vs H Q _ => ∃ (x : Addr) (v : V), vs = [.ref x, v] ∧ H x = some (exo x C none) ∧ D01 H v ∧
  ∀ (dx : Addr) (v' : V) (H' : Hp), H' x = some (exo x C (some dx)) → H' dx = some (exd dx [(f, v')]) → H dx = none → dx ≠ x → Keep x H H' → D01n H H' v' → Q .non H'
theorem exd_dk {dx : Addr} {fs : List (Str × V)} {kvs : List (Key × V)} : exd dx fs ≠ .dK kvs := fun z => by cases (show HO.ext _ = HO.dK kvs from z)
theorem dc_it {J : It} {n : Nat} {G : Hp → Prop} {Y : Nat → Hp → V → Hp → Prop} (w : Walk J n G Y) {g : TG} {tt : TT} {tk tv : TE} {vs : List Nat} {σ : L2.St} {H1 : Hp} {D : Addr} {Qd : Hp → Prop} (Pv : Nat → Hp → Prop) (h0 : Pv 0 (upd H1 D (.dK []))) (hG : ∀ i H, i ≤ n → Pv i H → G H)
    (hs : ∀ i x H H', i < n → Pv i H → Y i H x H' → g x (wipe σ vs) H' fun σ2 H2 => wipe σ2 vs = wipe σ vs ∧ tt σ2 H2 fun b H3 =>
      if b = true then tk σ2 H3 fun y H4 => tv σ2 H4 fun z H5 => ∃ kvs k, y = kV k ∧ H5 D = some (.dK kvs) ∧ kvs.length < sizeLine ∧ Pv (i + 1) (upd H5 D (.dK (putK kvs k z))) else Pv (i + 1) H3) (hd : ∀ H, Pv n H → Qd H) :
    ∃ W : Nat → Nat → Hp → Prop, (∃ m, W 0 m (upd H1 D (.dK []))) ∧ ∀ i m H, W i m H →
      (J.stop i H ∧ Qd H) ∨ (J.go i H ∧ ∃ Nx : Hp → Prop, (∀ H', Nx H' → ∃ m', m' < m ∧ W (i + 1) m' H') ∧ ∀ x H', J.yld i H x H' → g x (wipe σ vs) H' fun σ2 H2 => wipe σ2 vs = wipe σ vs ∧ tt σ2 H2 fun b H3 =>
        if b = true then tk σ2 H3 fun y H4 => tv σ2 H4 fun z H5 => ∃ kvs k, y = kV k ∧ H5 D = some (.dK kvs) ∧ kvs.length < sizeLine ∧ Nx (upd H5 D (.dK (putK kvs k z))) else Nx H3) :=
  lc_any w (B := fun Nx x H' => g x (wipe σ vs) H' fun σ2 H2 => wipe σ2 vs = wipe σ vs ∧ tt σ2 H2 fun b H3 => if b = true then tk σ2 H3 fun y H4 => tv σ2 H4 fun z H5 => ∃ kvs k, y = kV k ∧ H5 D = some (.dK kvs) ∧ kvs.length < sizeLine ∧ Nx (upd H5 D (.dK (putK kvs k z))) else Nx H3) Pv h0 hG hs hd
section
variable {P : Program} {w : World} {K : PySem.W.Frag} {mg : Str → Option Value} {base : Heap} {C fI cc fc : Addr} {fdc : FuncData} {F : NdefX.NF} {n : Nat} {f g : Str}
theorem err_oneD {msg : Str} {kd : Nat} {p0 p1 p2 p3 p4 p5 q0 q1 q2 q3 q4 q5 : Pos} (T : ErrC K C) (J : InitFn P K C fI cc F) (ms : mg "super" = none) (G : FnOk P w K mg base CX0 (n + 1) fc fdc ["value"] spCopyD) (mc : mg "own_copy" = some (.ref fc)) (kc : PySem.W.keepIn K (.ref fc) = true)
    (bc : Binds K fdc ["value"] []) (S : NdefX.NScope ["self", f, "__class__"] ["self", f] ["__class__"] F.scope)
    (hB : F.body = .Expr (.Call (.Attribute (.Call (.Name "super" p0) [] [] p1) "__init__" p2) [.Constant (.str msg) kd p3] [] p4) p5 :: [.Assign [.Attribute (.Name "self" q0) f q1] (.Call (.Name "own_copy" q2) [.Name f q3] [] q4) q5])
    (hsg : F.scope.names.lookup ("super" : Str) = some .globalImplicit) (hog : F.scope.names.lookup ("own_copy" : Str) = some .globalImplicit) (free : PySem.W.findIn K (.ref C) f = some none)
    (hb : ∀ (kV doc pm ct : Value) (an : Option Addr) (us : List Value), us.length = 2 → bindArgs (PySem.W.fnX F.name F.qual F.params F.body F.scope F.cl .none kV doc pm an (.ref F.c) ct) ⟨us, []⟩ = pure ((["self", f] : List Str).zip us))
    {pl : Sem Bool} (he : ∀ env : Env, eval (.Call (.Attribute (.Call (.Name "super" p0) [] [] p1) "__init__" p2) [.Constant (.str msg) kd p3] [] p4) env = (do
      let ov ← attributeBase (.Call (.Name "super" p0) [] [] p1) "__init__" env (eval (.Call (.Name "super" p0) [] [] p1) env)
      standAt p2.atName
      let (f, first) ← holding [ov] (getMethod ov "__init__" pl)
      callWith p4 f first (backTo p4 (starEach [.Constant (.str msg) kd p3] env)) []))
    (fd : (f == ("__debug__" : Str)) = false) (fcd : (f == ("__classdict__" : Str)) = false) : ErrOk P w K mg base (n + 2) C fI (spErrD K C f) := by
  refine ⟨fun A outer s H us vs x Q hr e0 r ex hsp => ?_⟩
  obtain ⟨x', v, evs, _, hv, k⟩ := hsp
  obtain ⟨rfl, rfl⟩ : x = x' ∧ vs = [v] := by
    have z := List.cons.inj evs
    exact ⟨V.ref.inj z.1, z.2⟩
  have lu : us.length = 2 := by rw [← r.length]; rfl
  refine init_run (k := n + 1) (rest := [.Assign [.Attribute (.Name "self" q0) f q1] (.Call (.Name "own_copy" q2) [.Name f q3] [] q4) q5]) (x := x) T J ms S hB hsg (S.par _ (by simp)) hr e0 (fun kV doc pm ct an => BindsTo.of_eq (hb kV doc pm ct an us lu)) r rfl rfl rfl ex he fun hr' => ?_
  refine ⟨_, pss_one (ps_errSet (pe_var (i := 0) rfl (.inl (S.par _ (by simp)))) (pe_call G hr' hog mc kc bc .nil pass0 (pa_cons (pe_var (i := 1) rfl (.inl (S.par _ (by simp))) fd fcd) pa_nil)) ?sw), ?_⟩
  case sw => rfl
  refine r_errSet ?_
  refine r_call ?_
  refine r_cons ?_
  refine r_var rfl ?_
  refine r_nil ?_
  refine ⟨v, rfl, hv, fun v' H1 s1 o1 => ?_⟩
  refine r_var rfl ?_
  refine ⟨x, C, rfl, T, free, .inl ⟨s1 _ _ ex, fun dx hdx ne => ?_⟩⟩
  obtain ⟨b, e1, n1, h1⟩ := o1
  refine k dx v' _ upd_same (by rw [upd_ne ne, upd_same]) (s1.free hdx) ne (Keep.own (Keep.new (Keep.same s1) hdx)) ⟨b, e1, n1, ?_⟩
  have nx : b ≠ x := fun z => by rw [z, ex] at n1; cases n1
  have nd : b ≠ dx := fun z => by rw [z, hdx] at h1; cases h1
  rw [upd_ne nx, upd_ne nd]
  exact h1
theorem r_errD {σ : L2.St} {H : Hp} {Q : XK} {v : V} (hv : D01 H v) (q : ∀ (dd : Addr) (v' : V) (H' : Hp), Same H H' → H dd = none → H' dd = some (.xd [(f, v')]) → D01n H H' v' → Q (.ref C) (some dd) H') :
    [v].length ≤ 1000 ∧ ∀ x, H x = none → spErrD K C f (.ref x :: [v]) (upd H x (exo x C none)) (fun v H2 => v = .non ∧ ∃ (d : Addr) (fs : List (Str × V)), H2 x = some (exo x C (some d)) ∧ H2 d = some (exd d fs) ∧ H d = none ∧ Q (.ref C) (some d) (upd (del H2 x) d (.xd fs))) (fun _ _ _ => False) := by
  refine ⟨by show 1 ≤ 1000; decide, fun x hx => ?_⟩
  have s0 : Same H (upd H x (exo x C none)) := Same.up (Same.refl H) hx
  refine ⟨x, v, rfl, upd_same, hv.later s0, fun dx v' H' h1 h2 h3 ne h4 h5 => ⟨rfl, dx, _, h1, h2, ?_, ?_⟩⟩
  · rw [upd_ne ne] at h3; exact h3
  · rw [upd_ne ne] at h3
    obtain ⟨b, e1, n1, hb⟩ := h5
    have nx : b ≠ x := fun z => by rw [z, upd_same] at n1; cases n1
    have nd : b ≠ dx := fun z => by
      rw [z, h2] at hb
      exact exd_dk (Option.some.inj hb)
    refine q dx v' _ (fun b o e => ?_) h3 upd_same ⟨b, e1, s0.free n1, ?_⟩
    · have nb : b ≠ x := ne_of_none e hx
      rw [upd_ne (ne_of_none e h3), del_ne nb]
      exact h4 b o nb (s0 b o e)
    · rw [upd_ne nd, del_ne nx]
      exact hb
end
end Pk
set_option Elab.async false
set_option linter.all false
set_option maxRecDepth 100000
set_option maxHeartbeats 1000000
namespace Pk
open PySem L2 PySem.Spec PyProof.Rows
/-- a clause's ends: its name is gone behind it -/
def goneAt (i : Nat) (D : Ends) : Ends := { nx := fun τ G => D.nx (τ.set i none) G, rt := D.rt, bk := fun τ G => D.bk (τ.set i none) G, ct := fun τ G => D.ct (τ.set i none) G }
abbrev Cl := Value × Nat × (Addr → Value → Option Addr → TS)
/-- what several clauses 'except c as n' wish of an exception of the body, one behind another -/
def wAsMany (K : PySem.W.Frag) (Wout : WX) (D : Ends) : List Cl → WX
  | [] => Wout
  | (c, i, ts) :: r => fun k d τ G => ∃ b, PySem.W.exmOne K k c = some b ∧ (b = true → ∀ a, G a = none → ts a k d (goneAt i D) (τ.set i (some (.ref a))) G) ∧ (b = false → wAsMany K Wout D r k d τ G)
inductive ClsOk (X : Cx) : List ExceptHandler → List Cl → Prop
  | nil : ClsOk X [] []
  | cons {x n : Str} {c : Value} {i : Nat} {ts : Addr → Value → Option Addr → TS} {b₀ : Stmt} {su : List Stmt} {np ps : Pos} {hds : List ExceptHandler} {l : List Cl} (hc : Names X x c) (hi : X.N[i]? = some n) (hk : X.env.kindOf n = some .local)
      (hsu : ∀ (a : Addr) (oe : Obj) (k : Value) (d : Option Addr) (pn : List (Addr × Obj)), Zc k d oe → (∃ vs, oe.data = .fields vs) → PSs (X.suite a ((a, oe) :: pn)) (b₀ :: su) (ts a k d)) (r : ClsOk X hds l) :
      ClsOk X (.ExceptHandler (some (.Name x np)) (some n) (b₀ :: su) ps :: hds) ((c, i, ts) :: l)
  /-- a clause that nothing comes to -/
  | never {x : Str} {nm : Option Str} {c : Value} {su : List Stmt} {np ps : Pos} {hds : List ExceptHandler} {l : List Cl} (hc : Names X x c) (r : ClsOk X hds l) :
      ClsOk X (.ExceptHandler (some (.Name x np)) nm su ps :: hds) ((c, 0, fun _ _ _ _ _ _ => False) :: l)
section
variable {X : Cx} {body : List Stmt} {h₀ : ExceptHandler} {hds : List ExceptHandler} {l : List Cl} {pos : Pos} {tb : WX → TS} {Wout : WX}
theorem ps_try_asMany (hs : X.stack = X.env :: X.outer) (hf : X.env.frame = some X.env.locals) (hN : X.N.Nodup) (tk : Takes X Wout)
    (hb : ∀ (W : WX) (pn : List (Addr × Obj)) (xe : Value → Shared → Prop), Takes (X.tr pn xe) W → PassesOwn (model X.prog X.w) X.A X.env xe → PSs (X.tr pn xe) body (tb W)) (hh : ClsOk X (h₀ :: hds) l) :
    PS X (.Try body (h₀ :: hds) [] [] pos) (fun D τ G => tb (wAsMany X.K Wout D l) D τ G) := by
  refine ⟨fun pins s τ G D I h => ?_⟩
  have oki := I.ok
  have frm : X.A.frames = some (X.env :: X.outer) := oki.frames.trans (congrArg some hs)
  refine wpAny_Try_except (wpAny_mono ((hb (wAsMany X.K Wout D l) (X.pn ++ pins) (fun e s₁ => wpAny (model X.prog X.w) X.A (noteFrame e X.env) (fun _ s₂ => wpAny (model X.prog X.w) X.A (setFlight e none)
    (fun _ s₃ => wpAny (model X.prog X.w) X.A (handleBy e X.env (h₀ :: hds)) (SP X pins D) X.xe s₃) X.xe s₂) X.xe s₁) (fun u st xx => ?caught) PassesOwn.looking).run [] s τ G D (I.toTry _) h) (fun fl st hsp => ?through) (fun e st he => he))
  case through =>
    cases fl with
    | next => obtain ⟨τ', G', J, q⟩ := hsp; exact wpAny_execs_nil ⟨τ', G', J.ofTry oki, q⟩
    | brk => obtain ⟨τ', G', J, q⟩ := hsp; exact ⟨τ', G', J.ofTry oki, q⟩
    | cont => obtain ⟨τ', G', J, q⟩ := hsp; exact ⟨τ', G', J.ofTry oki, q⟩
    | ret u => obtain ⟨v, τ', G', J, r, q⟩ := hsp; exact ⟨v, τ', G', J.ofTry oki, r, q⟩
  case caught =>
    obtain ⟨a, B, sI, pins', τ', G', k, d, rfl, J', nb, up, sky, na, os, ag, w⟩ := xx
    have J : Inv X pins τ' G' sI := J'.ofTry oki
    have skyB : Sky B (X.env :: X.outer) a (Zc k d) X.env.locals st.heap := hs ▸ sky
    show wpAny (model X.prog X.w) X.A (noteFrame (.ref a) X.env) _ _ _
    refine Sky.land Zc.steady frm hf skyB fun h3 fl3 up3 => ?_
    have J3 : Inv X pins τ' G' { st with heap := h3 } := J.landed nb fl3.1 (up.trans up3) os ag
    obtain ⟨oe3, vs3, he3, hz3, hd3⟩ := fl3.there
    have off : a ∉ frs (X.env :: X.outer) := fun hm => by
      obtain ⟨_, o', e', hnf⟩ := fl3.2.2.1.mem hm
      cases he3.symm.trans e'; exact hnf _ hd3
    have nL : a ≠ X.env.locals := fun z => off (List.mem_filterMap.mpr ⟨X.env, List.mem_cons_self, by rw [hf, z]⟩)
    have nF : a ∉ X.fs := fun hm => let ⟨e, he, q⟩ := List.mem_filterMap.mp hm; off (List.mem_filterMap.mpr ⟨e, List.mem_cons_of_mem _ he, q⟩)
    have S3 := J3.suite he3 hd3 na nL nF
    suffices go : ∀ {ks : List ExceptHandler} {m : List Cl}, ClsOk X ks m → wAsMany X.K Wout D m k d τ' G' → wpAny (model X.prog X.w) X.A (handleBy (.ref a) X.env ks) (SP X pins D) X.xe { st with heap := h3 } from go hh w
    intro ks m hk
    induction hk with
    | nil =>
      intro w; refine wpAny_handleBy_nil ?_
      obtain ⟨_, _, _, oe, vs, T, oT, tz, he, hz, hd, h1, hr⟩ := id fl3
      unfold PySem.passOn
      refine wpAny_bind (wpAny_field he hd h1 ?_)
      rw [if_neg (by simp : ¬ ((Value.ref T == Value.none) = true))]
      have out : wpAny (model X.prog X.w) X.A (setFlight (.ref a) X.env.frame) (fun _ s4 => wpAny (model X.prog X.w) X.A (throw (.ref a) : Sem Flow) (SP X pins D) X.xe s4) X.xe { st with heap := h3 } := by
        rw [hf]; refine HandSPX.setFlight_upZ fl3 fun h4 hh4 up4 => wpAny_throw (tk _ _ ?_)
        exact ⟨a, B, sI, pins, τ', G', k, d, rfl, J, nb, (up.trans up3).trans up4, .inr (.inr (hs.symm ▸ hh4)), na, os, ag, w⟩
      first | exact wpAny_bind (wpAny_pure (wpAny_bind out)) | exact wpAny_bind out
    | @never x nm c su np ps hds2 l2 hc r ih =>
      intro w
      obtain ⟨b, hb1, yes, no⟩ := w
      refine wpAny_handleBy_cons (codeAny_handlers_test ?_) (by intro q; cases q)
      have tyL : PySem.W.Looks (model X.prog X.w) h3 (typeOf (.ref a)) k := fun A Q E s kk q => wpAny_typeOf_ref (kk _ _ he3) (hz3.1.symm ▸ q)
      have mt := PySem.W.exm_one (M := model X.prog X.w) (J3.kIn) tyL hb1
      have ask : ∀ {Q : Value → Shared → Prop} {E : Value → Shared → Prop}, Q c { st with heap := h3 } → wpAny (model X.prog X.w) (X.A.mark (some (.ref a))) (eval (.Name x np) X.env) Q E { st with heap := h3 } := fun {Q E} q => by
        obtain ⟨hg, hdb, g | ⟨g, hv, hnn⟩⟩ := hc
        · exact ld_glob (X := X.suite a ((a, oe3) :: (X.pn ++ pins))) S3 hg g q hdb
        · exact ld_blt (X := X.suite a ((a, oe3) :: (X.pn ++ pins))) S3 hg g hv q hnn hdb
      refine ask (mt.here ?_)
      cases b with
      | false => show wpAny _ X.A (handleBy (.ref a) X.env hds2) _ _ _; exact ih (no rfl)
      | true => exact (yes rfl a na).elim
    | @cons x n c i ts b₀ su np ps hds2 l2 hc hi hln hsu r ih =>
      intro w
      obtain ⟨b, hb1, yes, no⟩ := w
      refine wpAny_handleBy_cons (codeAny_handlers_test ?_) (by intro q; cases q)
      have tyL : PySem.W.Looks (model X.prog X.w) h3 (typeOf (.ref a)) k := fun A Q E s kk q => wpAny_typeOf_ref (kk _ _ he3) (hz3.1.symm ▸ q)
      have mt := PySem.W.exm_one (M := model X.prog X.w) (J3.kIn) tyL hb1
      have ask : ∀ {Q : Value → Shared → Prop} {E : Value → Shared → Prop}, Q c { st with heap := h3 } → wpAny (model X.prog X.w) (X.A.mark (some (.ref a))) (eval (.Name x np) X.env) Q E { st with heap := h3 } := fun {Q E} q => by
        obtain ⟨hg, hdb, g | ⟨g, hv, hnn⟩⟩ := hc
        · exact ld_glob (X := X.suite a ((a, oe3) :: (X.pn ++ pins))) S3 hg g q hdb
        · exact ld_blt (X := X.suite a ((a, oe3) :: (X.pn ++ pins))) S3 hg g hv q hnn hdb
      refine ask (mt.here ?_)
      cases b with
      | false => show wpAny _ X.A (handleBy (.ref a) X.env hds2) _ _ _; exact ih (no rfl)
      | true =>
        refine codeAny_handlers_suite_as (HandSPX.lands_againZ fl3 fun h4 fl4 up4 => ?_)
        have J4 : Inv X pins τ' G' { st with heap := h4 } := J.landed nb fl4.1 ((up.trans up3).trans up4) os ag
        obtain ⟨oe4, vs4, he4, hz4, hd4⟩ := fl4.there
        have S4 := J4.suite he4 hd4 na nL nF
        refine store_ok (X := X.suite a ((a, oe4) :: (X.pn ++ pins))) (v := .ref a) S4 hN hi (.inl hln) rfl (fun s5 S5 => ?_) (.inr hln)
        refine wpAny_mono ((hsu a oe4 k d (X.pn ++ pins) hz4 ⟨_, hd4⟩).run [] s5 _ G' _ S5 (yes rfl a na)) (fun f s6 hsp => ?_) (fun _ _ z => False.elim z)
        have fin : ∀ {τ6 : L2.St} {G6 : Hp} {Q : Shared → Prop}, Inv (X.suite a ((a, oe4) :: (X.pn ++ pins))) [] τ6 G6 s6 → (∀ s7, Inv X pins (τ6.set i none) G6 s7 → Q s7) →
            wpAny (model X.prog X.w) X.A (do bindName X.env n .none; unbindBehindTheSuite X.env n ps) (fun _ s7 => Q s7) X.xe s6 := fun {τ6 G6 Q} S6 hq => gone_ok (S6.unsuite oki) hN hi hln hq
        cases f with
        | next => obtain ⟨τ6, G6, S6, q6⟩ := hsp; exact fin S6 fun s7 J7 => ⟨_, _, J7, q6⟩
        | brk => obtain ⟨τ6, G6, S6, q6⟩ := hsp; exact fin S6 fun s7 J7 => ⟨_, _, J7, q6⟩
        | cont => obtain ⟨τ6, G6, S6, q6⟩ := hsp; exact fin S6 fun s7 J7 => ⟨_, _, J7, q6⟩
        | ret u => obtain ⟨v6, τ6, G6, S6, r6, q6⟩ := hsp; exact fin S6 fun s7 J7 => ⟨_, _, _, J7, r6, q6⟩
end
end Pk
set_option Elab.async false
set_option linter.all false
set_option maxRecDepth 100000
set_option maxHeartbeats 1000000
namespace Pk
open PySem L2 PySem.Spec PyProof.Rows
/-! ### a method is called where what it raises is wished for at the caller's slots -/
def tMethT (C : Addr) (m : Str) (sp : Sp) (E : L2.St → XK) (ta : TE) (t : TA) : TE := fun σ H Q => ta σ H fun x H1 => ∃ a dx fs, x = .ref a ∧ H1 a = some (.ins C dx fs) ∧ fs.lookup m = none ∧ t σ H1 fun vs H2 => sp (x :: vs) H2 Q (E σ)
theorem r_methT {C : Addr} {m : Str} {sp : Sp} {E : L2.St → XK} {ta : TE} {t : TA} {σ : L2.St} {H : Hp} {Q : VK} (h : ta σ H fun x H1 => ∃ a dx fs, x = .ref a ∧ H1 a = some (.ins C dx fs) ∧ fs.lookup m = none ∧ t σ H1 fun vs H2 => sp (x :: vs) H2 Q (E σ)) : tMethT C m sp E ta t σ H Q := h
theorem pe_methT {X : Cx} {CX : CXT} {k : Nat} {f C : Addr} {fd : FuncData} {ps : List Str} {sp : Sp} {E : L2.St → XK} {m : Str} {pos apos : Pos} {o e : Expr} {es : List Expr} {ta : TE} {t : TA} {pl : Sem Bool} (he : PE X o ta) (c : Cls X.K C) (hm : Meth X.K C m f)
    (F : FnOk X.prog X.w X.K X.mg X.base CX k f fd ps sp) (hr : Room k X.A) (hb : Binds X.K fd ps []) (hx : ∀ σ, PassesAt CX X σ (E σ)) (ha : PA X (e :: es) t)
    (hst : starEach (e :: es) X.env = (false, eval e X.env) :: starEach es X.env := by rfl) (hpl : (backTo pos (starEach es X.env)).any (·.1) = false := by rfl)
    (ht : eval (.Call (.Attribute o m apos) (e :: es) [] pos) X.env = (do
      let ov ← eval o X.env
      standAt apos.atName
      let (f, first) ← holding [ov] (getMethod ov m pl)
      callWith pos f first (backTo pos (starEach (e :: es) X.env)) (backToKw pos (keywordEach [] X.env))) := by rfl) :
    PE X (.Call (.Attribute o m apos) (e :: es) [] pos) (tMethT C m sp E ta t) := by
  refine ⟨fun pins s σ H Q I h => ?_⟩
  refine PySem.W.methodCall_KW (pl := pl) (thn (he.run pins s σ H _ I h) fun u s1 ⟨x, H1, I1, rx, a, dx, fs, ex, ea, l, q⟩ => ?_) ht
  subst ex
  obtain rfl : u = Value.ref a := rx
  refine getmeth_ok I1 ea c hm l ?_
  refine PySem.W.callWith_K (first := [.ref a]) (h₀ := X.base) I.ok.mod.kin hm.kp (thn (ha.run pos pins s1 σ H1 _ I1 q) fun us s2 ⟨vs, H2, I2, r, q2⟩ => ⟨I2.kIn, ?_⟩) hst hpl
  exact run_fnS (us := .ref a :: us) (vs := .ref a :: vs) F hr hb (hx σ) I2 (.cons rfl r) q2
end Pk
set_option Elab.async false
set_option linter.all false
set_option maxRecDepth 100000
set_option maxHeartbeats 1000000
namespace Pk
open PySem L2 PySem.Spec PyProof.Rows
/-- x not in a list of pairs -/
def rNotInP (K : PySem.W.Frag) : R2 := fun x y H Q => ∃ z zs, Dp K H x (prD z) ∧ Dp K H y (prsD zs) ∧ Q (.bl (!decide (z ∈ zs))) H
theorem op_notInP {X : Cx} (room : X.A.units + 64 < cLine) : OpR X (compareOp .NotIn) (rNotInP X.K) := by
  intro pn sh τ G a b va vb R J ra rb want
  obtain ⟨z, zs, da, db, q⟩ := want
  obtain ⟨as, r1⟩ := Dp.reads J _ a va da ra
  obtain ⟨bs, r2⟩ := Dp.reads J _ b vb db rb
  have deep := prs_depthAll zs
  have e := PySem.W.any_datum (α := Int × Int) zs z
  refine SeqAt.notIn_list_data r2 r1 (prs_plainAll zs) (pr_plain z) (by omega) ⟨.bl _, G, J, rfl, ?_⟩
  rw [show ((zs.map prD).any fun y => PyData.eqv y (prD z)) = decide (z ∈ zs) from e.trans (decide_eq_decide.mpr Iff.rfl)]
  exact q
section
variable {X : Cx} {CX : CXT} {k : Nat} {C : Addr} {sp : Sp} {E : L2.St → XK} {a b : Expr} {ta tb : TE} {pos : Pos}
/-- y not in x, x of an own class -/
theorem pt_notIn2 (F : Two X CX k C "__contains__" sp) (hr : Room k X.A) (hx : ∀ σ, PassesAt CX X σ (E σ)) (ha : PE X a ta) (hb : PE X b tb) (hm : behindInMarks .NotIn b = false) :
    PT X (.Compare a [.NotIn] [b] pos) (tTest (tOp2 (rOwnIn C sp true) E ta tb)) := by
  obtain ⟨f, fd, ps, M, F, B⟩ := F.ex
  refine ⟨fun pins s σ H Q I h => ?_⟩
  refine wpAny_isTrue_Compare1 (binT ha hb I h fun v u s2 y x H2 I2 ry rx q => ?_) hm
  obtain ⟨a, dx, fs, rfl, e, q⟩ := q
  cases rx
  obtain ⟨ox, od, J⟩ := own_at I2 e
  obtain ⟨m, hF⟩ := I2.fr
  refine PySem.W.notIn_K hF I2.ok.mod.kin J M.at_ M.fn ?_
  refine wpAny_mono (own_run (us := [.ref a, v]) (vs := [.ref a, y]) F hr I2.env0 B (hx σ) I2 (.cons rfl (.cons ry .nil)) q) (fun w s' z => ?_) fun _ _ z => z
  obtain ⟨z, H3, I3, rz, c, rfl, qz⟩ := z
  cases (show w = Value.bool c from rz)
  obtain ⟨k2, e2, q2⟩ := qz
  cases e2
  exact wpAny_pure (wpAny_truthy_bool ⟨H3, I3, q2⟩)
end
theorem cutAt {vs : List V} {i : Nat} (h : i ≤ vs.length) : cutV vs none (some (i : Int)) = vs.take i := by
  have e : min (i : Int).toNat vs.length = i := by simp; omega
  have n : ¬ (i : Int) < 0 := by omega
  simp only [cutV, HT.sIx, if_neg n, e, List.drop_zero, Nat.sub_zero]
theorem notBefore {zs : List Pr} {z : Pr} {i : Nat} (nd : zs.Nodup) (h : zs[i]? = some z) : z ∉ zs.take i := by
  intro m
  obtain ⟨j, hj, e⟩ := List.getElem_of_mem m
  rw [List.length_take] at hj
  rw [List.getElem_take] at e
  obtain ⟨hi, e2⟩ := List.getElem?_eq_some_iff.mp h
  exact (List.pairwise_iff_getElem.mp nd) j i (by omega) hi (by omega) (by rw [e, e2])
end Pk
set_option Elab.async false
set_option linter.all false
set_option maxRecDepth 100000
set_option maxHeartbeats 1000000
namespace Pk
open PySem L2 PySem.Spec PyProof.Rows
/-- how often a pair is in a list of pairs -/
def rCountP (K : PySem.W.Frag) : V → List V → Hp → VK → Prop := fun x xs H Q => ∃ (a : Addr) (y : V) (z : Pr) (zs : List Pr), x = V.ref a ∧ xs = [y] ∧ Dp K H (V.ref a) (prsD zs) ∧ Dp K H y (prD z) ∧ Q (.int ((zs.countP fun u => decide (u = z) : Nat) : Int)) H
theorem mt_countP {X : Cx} (hu : X.A.units + 64 < cLine) : MtR X "list.count" (rCountP X.K) := by
  intro pins s σ H x xs v us Q I rx rxs h
  obtain ⟨a, y, z, zs, rfl, rfl, hl, hy, q⟩ := h
  cases rx
  cases rxs with
  | cons ry rt =>
    rename_i uy ut
    cases rt
    obtain ⟨bs, r1⟩ := Dp.reads I (prD z) y uy hy ry
    cases hl with
    | lst hs ha =>
      obtain ⟨its, rv, ⟨⟨cls, dd, data, sls⟩, n, ho, hc, hdn, hdt⟩, hlen⟩ := I.list hs
      simp only at hc hdt
      subst hc hdt
      obtain ⟨as, h4⟩ := Dp.readsAll I _ _ its ha rv
      have e : ((zs.map prD).countP fun y => PyData.eqv y (prD z)) = zs.countP fun u => decide (u = z) := PySem.W.count_datum (α := Int × Int) zs z
      have dp := prs_depthAll zs
      refine SeqAt.count_list_data (vs := its.toArray) ⟨_, ho, rfl, n, rfl⟩ (by simpa using h4) r1 (prs_plainAll zs) (pr_plain z) (by omega) ?_
      rw [e]
      exact ⟨.int _, H, I.tok _, ⟨_, rfl⟩, q⟩
theorem cutDrop {vs : List V} {i : Nat} (h : i ≤ vs.length) : cutV vs (some (i : Int)) none = vs.drop i := by
  have e : min (i : Int).toNat vs.length = i := by simp; omega
  have n : ¬ (i : Int) < 0 := by omega
  have e2 : min vs.length vs.length = vs.length := by omega
  simp only [cutV, HT.sIx, if_neg n, e]
  first | rfl | (rw [List.take_of_length_le (by rw [List.length_drop]; omega)]) | simp
/-- a def with one keyword-only parameter, called with it -/
structure Dkw1 (P : Program) (w : World) (K : PySem.W.Frag) (mg : Str → Option Value) (base : Heap) (CX : CXT) (x : Str) (k : Nat) (ps : List Str) (n : Nat) (kw : Str) (sp : Sp) (f : Addr) (fd : FuncData) : Prop where
  at_ : mg x = some (.ref f)
  kp : PySem.W.keepIn K (.ref f) = true
  ok : FnOk P w K mg base CX k f fd ps sp
  kb : KBn K fd ps n [kw] (fun us ws => us ++ ws) (fun vs zs => vs ++ zs)
  dd : ∃ ds, Vals [V.str "even"] ds ∧ Binds K fd ps ds
abbrev Dkw (P : Program) (w : World) (K : PySem.W.Frag) (mg : Str → Option Value) (base : Heap) (CX : CXT) (x : Str) (k : Nat) (ps : List Str) (n : Nat) (kw : Str) (sp : Sp) : Prop := ∃ f fd, Dkw1 P w K mg base CX x k ps n kw sp f fd
theorem pe_kd {X : Cx} {k j n : Nat} {ps : List Str} {kw : Str} {sp : Sp} {x : Str} {p pos : Pos} {e : Expr} {es : List Expr} {kws : List Keyword} {t tk : TA}
    (D : Dkw X.prog X.w X.K X.mg X.base CX0 x k ps n kw sp) (hr : Room j X.A) (l : k ≤ j) (ha : PA X (e :: es) t) (hkw : PK X kws tk) (hg : Gl X x := by rfl)
    (hall : (backToKw pos (keywordEach kws X.env)).all (·.1.isSome) = true := by rfl) (hks : (backToKw pos (keywordEach kws X.env)).filterMap (·.1) = [kw] := by rfl) (hdb : (x == ("__debug__" : Str)) = false := by decide)
    (he : starEach (e :: es) X.env = (false, eval e X.env) :: starEach es X.env := by rfl) (hpl : ((backTo pos (starEach (e :: es) X.env)).any (·.1) || (backToKw pos (keywordEach kws X.env)).any (·.1.isNone)) = false := by rfl) :
    PE X (.Call (.Name x p) (e :: es) kws pos) (tKwS n [kw].length sp (fun vs zs => vs ++ zs) (fun _ => E0) t tk) := by
  obtain ⟨f, fd, D⟩ := D
  exact pe_kwS D.ok (hr.mono l) D.at_ D.kp D.kb (passN pass0) ha hkw hg hall hks hdb he hpl
end Pk
set_option Elab.async false
set_option linter.all false
set_option maxRecDepth 100000
set_option maxHeartbeats 1000000
namespace Pk
open PySem L2
local macro_rules | `(tactic| walk_at "rd") => `(tactic| repeat (first
  | with_reducible refine r_seq ?_ | with_reducible refine r_nxt ?_ | with_reducible refine r_asg ?_ | with_reducible refine r_to ?_ | with_reducible refine r_ret ?_ | with_reducible refine r_for ?_ | with_reducible refine r_lc ?_ | with_reducible refine r_rng1 ?_ | with_reducible refine r_list ?_ | with_reducible refine r_tupI ?_ | with_reducible refine r_drop ?_ | with_reducible refine r_ifs ?_
  | with_reducible refine r_op ?_ | with_reducible refine r_c ?_ | with_reducible refine r_var rfl ?_ | with_reducible refine r_I0 ?_ | with_reducible refine r_un ?_ | with_reducible refine r_U ?_ | with_reducible refine r_make ?_ | with_reducible refine r_sub ?_
  | with_reducible refine r_nil ?_ | with_reducible refine r_cons ?_ | with_reducible refine r_cb ?_ | with_reducible refine r_sl ?_ | with_reducible refine r_noP ?_ | with_reducible refine r_part ?_ | with_reducible refine r_isI ?_ | with_reducible refine r_lst ?_ | with_reducible refine r_tup ?_ | with_reducible refine r_call ?_
  | with_reducible refine r_test ?_ | with_reducible refine r_B ?_ | with_reducible refine r_and ?_ | with_reducible refine r_or ?_ | with_reducible refine r_not ?_ | with_reducible refine r_andV ?_ | with_reducible refine r_orV ?_ | with_reducible refine r_notV ?_ | with_reducible refine r_bl ?_ | with_reducible refine r_yes ?_ | with_reducible refine r_int ?_ | with_reducible refine r_is0 ?_ | with_reducible refine r_is1 ?_ | with_reducible refine iteT ?_ | with_reducible refine iteF ?_ | with_reducible refine ite_nF ?_ | with_reducible refine ite_nT ?_
  | with_reducible refine r_mod (by decide) ?_ | with_reducible refine r_div (by decide) (by decide) ?_ | with_reducible refine r_mulR (by decide) (by decide) ?_ | with_reducible refine r_mulL (by decide) (by decide) ?_ | with_reducible refine r_pow (by decide) (by decide) (by decide) ?_))
abbrev sCopy : Stmt := top 2
section
variable {P : Program} {w : World} {K : PySem.W.Frag} {mg : Str → Option Value} {base : Heap}
/-- the copies made so far stand in the list at D -/
def Copied (H : Hp) (D : Addr) (ds : List PyData) (i : Nat) (H' : Hp) : Prop :=
  ∃ ys, H' D = some (.lst ys) ∧ ys.length = i ∧ Same H H' ∧ ∀ (j : Nat) (v : V) (d : PyData), ys[j]? = some v → ds[j]? = some d → Own (upd H D (.lst [])) H' v d
theorem Copied.start {H : Hp} {D : Addr} {ds : List PyData} (hD : H D = none) : Copied H D ds 0 (upd H D (.lst [])) :=
  ⟨[], upd_same, rfl, fun b o e => by rw [upd_ne (ne_of_none e hD)]; exact e, fun j v d e => by simp at e⟩
theorem Copied.more {H H1 H2 : Hp} {D : Addr} {ds : List PyData} {i : Nat} {v : V} {d : PyData} (hD : H D = none) (c : Copied H D ds i H1) (s : Same H1 H2) (o : Own H1 H2 v d) (hd : ds[i]? = some d) :
    ∃ acc, H2 D = some (.lst acc) ∧ acc.length = i ∧ Copied H D ds (i + 1) (upd H2 D (.lst (acc ++ [v]))) := by
  obtain ⟨ys, h1, h2, h3, h4⟩ := c
  have nD : ∀ {a : Addr}, upd H D (.lst []) a = none → a ≠ D := fun {a} n z => by rw [z, upd_same] at n; cases n
  refine ⟨ys, s _ _ h1, h2, ys ++ [v], upd_same, by rw [List.length_append, h2]; rfl, fun b o e => ?_, fun j u e e1 e2 => ?_⟩
  · have n : b ≠ D := ne_of_none e hD
    rw [upd_ne n]
    exact s _ _ (h3 _ _ e)
  · by_cases hj : j < ys.length
    · rw [List.getElem?_append_left hj] at e1
      exact ((h4 j u e e1 e2).later s).mono (fun a n _ => n) fun a z n q _ => by rw [upd_ne (nD n)]; exact q
    · have ej : j = i := by
        have z := (List.getElem?_eq_some_iff.mp e1).1
        rw [List.length_append, List.length_singleton] at z
        omega
      subst ej
      rw [List.getElem?_append_right (by omega), h2, Nat.sub_self] at e1
      have eu : v = u := Option.some.inj e1
      have ee : d = e := Option.some.inj (hd.symm.trans e2)
      subst eu ee
      refine o.mono (fun a n _ => ?_) fun a z n q _ => ?_
      · have na : a ≠ D := fun z => by rw [z, h1] at n; cases n
        rw [upd_ne na]
        exact h3.free n
      · have na : a ≠ D := fun z => by rw [z, h1] at n; cases n
        rw [upd_ne na]
        exact q
theorem Copied.done {H H' : Hp} {D : Addr} {ds : List PyData} (hD : H D = none) (c : Copied H D ds ds.length H') : ∃ ys, H' D = some (.lst ys) ∧ ys.length = ds.length ∧ Same H H' ∧ ∀ (j : Nat) (v : V) (d : PyData), ys[j]? = some v → ds[j]? = some d → Own H H' v d := by
  obtain ⟨ys, h1, h2, h3, h4⟩ := c
  refine ⟨ys, h1, h2, h3, fun j v d e1 e2 => (h4 j v d e1 e2).mono (fun a n _ => ?_) fun a u _ q _ => q⟩
  have na : a ≠ D := fun z => by rw [z, upd_same] at n; cases n
  rw [upd_ne na] at n
  exact n

theorem scCopy : FnScope ["value", "entry"] ["value"] (defScope sCopy) := ⟨rfl, rfl, rfl, by decide +kernel, rfl, by decide +kernel, by decide +kernel⟩
theorem ok_copy {f : Addr} {fd : FuncData} (F : Fun K "own_copy" "own_copy" sCopy f fd) (T : Bt mg) (me : mg "own_copy" = some (.ref f)) : ∀ n : Nat, FnOk P w K mg base CX0 (n + 1) f fd ["value"] (spCopy K n)
  | 0 => by
    refine F.ok scCopy (fun vs H Q E h => ?_) (fun cdv A outer s H vs Q E hr h => ?_)
    · obtain ⟨v, d, rfl, _⟩ := h
      rfl
    · obtain ⟨v, d, rfl, hv, hd, k⟩ := h
      refine ⟨_, pss_cons (ps_if (pt_val (pe_callB call_isi (by rfl) T.isinstance (by decide +kernel) (pa_cons (pv 0) (pa_cons (pe_bltn (v := .ty "list") (by rfl) T.list (by decide +kernel) rfl) pa_nil)))) pss_never pss_nil)
        (pss_cons (ps_if (pt_val (pe_callB call_isi (by rfl) T.isinstance (by decide +kernel) (pa_cons (pv 0) (pa_cons (pe_bltn (v := .ty "tuple") (by rfl) T.tuple (by decide +kernel) rfl) pa_nil)))) pss_never pss_nil)
        (pss_cons (ps_if (pt_val (pe_callB call_isi (by rfl) T.isinstance (by decide +kernel) (pa_cons (pv 0) (pa_cons (pe_bltn (v := .ty "dict") (by rfl) T.dict (by decide +kernel) rfl) pa_nil)))) pss_never pss_nil)
        (pss_one (ps_ret (pv 0))))), ?_⟩
      obtain ⟨r1, e1, f1⟩ := kit_list d
      obtain ⟨r2, e2, f2⟩ := kit_tuple d
      have n1 : r1 = false := by
        cases r1 with
        | false => rfl
        | true => obtain ⟨ds, rfl⟩ := f1.mp rfl; cases hd
      have n2 : r2 = false := by
        cases r2 with
        | false => rfl
        | true => obtain ⟨ds, rfl⟩ := f2.mp rfl; cases hd
      subst n1 n2
      walk_at "rd"
      refine r_isi (Dp.kind hv) e1 ?_
      walk_at "rd"
      refine r_isi (Dp.kind hv) e2 ?_
      walk_at "rd"
      refine r_isi (Dp.kind hv) (kit_dict hd) ?_
      walk_at "rd"
      refine k v H (Same.refl H) ?_
      cases hd with
      | non => cases hv; exact .non
      | bl b => cases hv; exact .bl b
      | int i => cases hv; exact .int i
      | str z => cases hv; exact .str z
  | n + 1 => by
    have G := ok_copy F T me n
    have b : Binds K fd ["value"] [] := F.binds fun _ _ _ _ _ _ us hl => match us, hl with | [_], _ => rfl
    refine F.ok scCopy (fun vs H Q E h => ?_) (fun cdv A outer s H vs Q E hr h => ?_)
    · obtain ⟨v, d, rfl, _⟩ := h
      rfl
    · obtain ⟨v, d, rfl, hv, hd, k⟩ := h
      refine ⟨_, pss_cons (ps_if (pt_val (pe_callB call_isi (by rfl) T.isinstance (by decide +kernel) (pa_cons (pv 0) (pa_cons (pe_bltn (v := .ty "list") (by rfl) T.list (by decide +kernel) rfl) pa_nil))))
          (pss_one (ps_ret (pe_lc (own := [("entry", 1)]) (g := gName 1) rfl scCopy.nd (pi_list (pv 0)) (blkOk_by (own := [("entry", 1)]) (N := ["value", "entry"]) (sc := defScope sCopy) (by decide +kernel)) (fun _ _ _ _ _ => pg_name (i := 1) scCopy.nd rfl (Or.inl rfl)) (fun _ _ _ _ _ => pts_nil)
            (fun _ _ _ _ _ => pe_call G hr rfl me F.kp b .nil pass0 (pa_cons (pv 1) pa_nil))))) pss_nil)
        (pss_cons (ps_if (pt_val (pe_callB call_isi (by rfl) T.isinstance (by decide +kernel) (pa_cons (pv 0) (pa_cons (pe_bltn (v := .ty "tuple") (by rfl) T.tuple (by decide +kernel) rfl) pa_nil))))
          (pss_one (ps_ret (pe_callTy cl_tup (by rfl) T.tuple (by decide +kernel) (pa_cons (pe_lc (own := [("entry", 1)]) (g := gName 1) rfl scCopy.nd (pi_tup (pv 0)) (blkOk_by (own := [("entry", 1)]) (N := ["value", "entry"]) (sc := defScope sCopy) (by decide +kernel)) (fun _ _ _ _ _ => pg_name (i := 1) scCopy.nd rfl (Or.inl rfl)) (fun _ _ _ _ _ => pts_nil)
            (fun _ _ _ _ _ => pe_call G hr rfl me F.kp b .nil pass0 (pa_cons (pv 1) pa_nil))) pa_nil)))) pss_nil)
        (pss_cons (ps_if (pt_val (pe_callB call_isi (by rfl) T.isinstance (by decide +kernel) (pa_cons (pv 0) (pa_cons (pe_bltn (v := .ty "dict") (by rfl) T.dict (by decide +kernel) rfl) pa_nil)))) pss_never pss_nil)
        (pss_one (ps_ret (pv 0))))), ?_⟩
      obtain ⟨r1, e1, f1⟩ := kit_list d
      obtain ⟨r2, e2, f2⟩ := kit_tuple d
      walk_at "rd"
      refine r_isi (Dp.kind hv) e1 ?_
      walk_at "rd"
      cases r1 with
      | true =>
        obtain ⟨ds, rfl⟩ := f1.mp rfl
        cases hd with
        | lst hds hz =>
          cases hv with
          | @lst a xs _ hS hA =>
            have ln := dpAll_len hA
            walk_at "rd"
            refine ⟨a, rfl, ⟨_, hS⟩, fun D hD => lc_list (K := K) (a := a) (xs := xs) (Copied H D ds) (Copied.start hD) (fun i H' _ c => c.choose_spec.2.2.1.seq hS) (fun i x H' hi c => ?_) (fun H' c => ?_)⟩
            · obtain ⟨d, hd, hx⟩ := dpAll_at hA hi
              have s1 : Same H H' := c.choose_spec.2.2.1
              walk_at "rd"
              refine ⟨rfl, ?_⟩
              walk_at "rd"
              refine ⟨x, d, rfl, Dp.later s1 hx, hds d (List.mem_of_getElem? hd), fun v' H2 s2 o => ?_⟩
              obtain ⟨acc, h1, h2, h3⟩ := c.more hD s2 o hd
              refine ⟨acc, h1, Nat.lt_of_lt_of_le ?_ (show 1001 ≤ sizeLine by decide), h3⟩
              have := (List.getElem?_eq_some_iff.mp hd).1
              omega
            · rw [ln] at c
              obtain ⟨ys, h1, h2, h3, h4⟩ := Copied.done hD c
              exact k _ _ h3 (.lst hD h1 h2 h4)
      | false =>
        walk_at "rd"
        refine r_isi (Dp.kind hv) e2 ?_
        walk_at "rd"
        cases r2 with
        | true =>
          obtain ⟨ds, rfl⟩ := f2.mp rfl
          cases hd with
          | tup hds hz =>
            cases hv with
            | @tup a xs _ hS hA =>
              have ln := dpAll_len hA
              walk_at "rd"
              refine ⟨a, rfl, ⟨_, hS⟩, fun D hD => lc_tup (K := K) (a := a) (xs := xs) (Copied H D ds) (Copied.start hD) (fun i H' _ c => ?_) (fun i x H' hi c => ?_) (fun H' c => ?_)⟩
              · have s1 : Same H H' := c.choose_spec.2.2.1
                rcases hS with (h | ⟨o, h⟩) | h
                · exact .inl (.inl (s1 _ _ h))
                · exact .inl (.inr ⟨o, s1 _ _ h⟩)
                · exact .inr h
              · obtain ⟨d, hd, hx⟩ := dpAll_at hA hi
                have s1 : Same H H' := c.choose_spec.2.2.1
                walk_at "rd"
                refine ⟨rfl, ?_⟩
                walk_at "rd"
                refine ⟨x, d, rfl, Dp.later s1 hx, hds d (List.mem_of_getElem? hd), fun v' H2 s2 o => ?_⟩
                obtain ⟨acc, h1, h2, h3⟩ := c.more hD s2 o hd
                refine ⟨acc, h1, Nat.lt_of_lt_of_le ?_ (show 1001 ≤ sizeLine by decide), h3⟩
                have := (List.getElem?_eq_some_iff.mp hd).1
                omega
              · rw [ln] at c
                obtain ⟨ys, h1, h2, h3, h4⟩ := Copied.done hD c
                walk_at "rd"
                refine r_tupOf (SqL.of h1) fun q hq => ?_
                have s2 : Same H (upd H' q (.tup ys)) := Same.up h3 hq
                exact k _ _ s2 (.tup (h3.free hq) upd_same h2 fun j v d e1 e2 => (h4 j v d e1 e2).later (Same.up (Same.refl H') hq))
        | false =>
          walk_at "rd"
          refine r_isi (Dp.kind hv) (kit_dict hd) ?_
          walk_at "rd"
          refine k v H (Same.refl H) ?_
          cases hd with
          | non => cases hv; exact .non
          | bl b => cases hv; exact .bl b
          | int i => cases hv; exact .int i
          | str z => cases hv; exact .str z
          | lst h z => exact absurd (f1.mpr ⟨_, rfl⟩) Bool.false_ne_true
          | tup h z => exact absurd (f2.mpr ⟨_, rfl⟩) Bool.false_ne_true
end
end Pk
set_option Elab.async false
set_option linter.all false
set_option maxRecDepth 100000
set_option maxHeartbeats 4000000
namespace Pk
open PySem L2
local macro_rules | `(tactic| walk_at "rd") => `(tactic| repeat (first
  | with_reducible refine r_seq ?_ | with_reducible refine r_nxt ?_ | with_reducible refine r_asg ?_ | with_reducible refine r_to ?_ | with_reducible refine r_ret ?_ | with_reducible refine r_for ?_ | with_reducible refine r_lc ?_ | with_reducible refine r_lc2 ?_ | with_reducible refine r_rng1 ?_ | with_reducible refine r_list ?_ | with_reducible refine r_tupI ?_ | with_reducible refine r_drop ?_ | with_reducible refine r_ifs ?_
  | with_reducible refine r_op ?_ | with_reducible refine r_c ?_ | with_reducible refine r_var rfl ?_ | with_reducible refine r_var (by assumption) ?_ | with_reducible refine r_I0 ?_ | with_reducible refine r_un ?_ | with_reducible refine r_U ?_ | with_reducible refine r_make ?_ | with_reducible refine r_makeS ?_ | with_reducible refine r_ifE ?_ | with_reducible refine r_cm ?_ | with_reducible refine r_mkV rfl ?_ | with_reducible refine r_sub ?_
  | with_reducible refine r_nil ?_ | with_reducible refine r_cons ?_ | with_reducible refine r_cb ?_ | with_reducible refine r_sl ?_ | with_reducible refine r_noP ?_ | with_reducible refine r_part ?_ | with_reducible refine r_isI ?_ | with_reducible refine r_lst ?_ | with_reducible refine r_tup ?_ | with_reducible refine r_call ?_ | with_reducible refine r_callS ?_ | with_reducible refine r_sFldU ?_ | with_reducible refine r_chain ?_ | with_reducible refine r_enum ?_ | with_reducible refine r_zip ?_ | with_reducible refine r_rng3 ?_ | with_reducible refine r_gtup ?_ | with_reducible refine r_methU ?_
  | with_reducible refine r_test ?_ | with_reducible refine r_B ?_ | with_reducible refine r_and ?_ | with_reducible refine r_or ?_ | with_reducible refine r_not ?_ | with_reducible refine r_andV ?_ | with_reducible refine r_orV ?_ | with_reducible refine r_notV ?_ | with_reducible refine r_bl ?_ | with_reducible refine r_yes ?_ | with_reducible refine r_int ?_ | with_reducible refine r_is0 ?_ | with_reducible refine r_is1 ?_ | with_reducible refine iteT ?_ | with_reducible refine iteF ?_ | with_reducible refine ite_nF ?_ | with_reducible refine ite_nT ?_
  | with_reducible refine r_mod (by decide) ?_ | with_reducible refine r_div (by decide) (by decide) ?_ | with_reducible refine r_mulR (by decide) (by decide) ?_ | with_reducible refine r_mulL (by decide) (by decide) ?_ | with_reducible refine r_pow (by decide) (by decide) (by decide) ?_))
/-! ### is_integer, is_between, is_two -/
theorem one_fst {f : Str} {v : V} : List.lookup f [(f, v)] = some v := by simp [List.lookup]
theorem one_no {m f : Str} {v : V} (h : (m == f) = false) : List.lookup m [(f, v)] = none := by simp [List.lookup, h]
theorem cut_take {vs : List V} {i : Nat} (h : i ≤ vs.length) : cutV vs none (some (i : Int)) = vs.take i := by
  have e : min (i : Int).toNat vs.length = i := by simp; omega
  have n : ¬ (i : Int) < 0 := by omega
  simp only [cutV, HT.sIx, if_neg n, e, List.drop_zero, Nat.sub_zero]
theorem cut_drop {vs : List V} {i : Nat} (h : i ≤ vs.length) : cutV vs (some (i : Int)) none = vs.drop i := by
  have e : min (i : Int).toNat vs.length = i := by simp; omega
  have n : ¬ (i : Int) < 0 := by omega
  simp only [cutV, HT.sIx, if_neg n, e]
  exact List.take_of_length_le (by rw [List.length_drop]; omega)
theorem two_eq {x y : PyData} (h : isID x = true) : twoD (.tuple [x, y]) = isID y := by
  cases x <;> cases h
  cases y <;> rfl
theorem two_noD {x y : PyData} (h : isID x = false) : twoD (.tuple [x, y]) = false := by
  cases x <;> first | rfl | cases h
theorem len2 {ds : List PyData} (h : ds.length = 2) : ∃ d1 d2, ds = [d1, d2] := by
  match ds, h with
  | [a, b], _ => exact ⟨a, b, rfl⟩
theorem all2 {K : PySem.W.Frag} {H : Hp} {vs : List V} {x y : PyData} (h : DpAll K H vs [x, y]) : ∃ v u, vs = [v, u] ∧ Dp K H v x ∧ Dp K H u y := by
  cases h with
  | cons h1 r => cases r with
    | cons h2 r2 => cases r2; exact ⟨_, _, rfl, h1, h2⟩
def betD (lo hi : Int) : PyData → Bool
  | .int i => decide (lo ≤ i) && decide (i ≤ hi)
  | _ => false
def spIntD (K : PySem.W.Frag) : Sp := fun vs H Q _ => ∃ (v : V) (d : PyData), vs = [v] ∧ Dp K H v d ∧ Q (.bl (isID d)) H
def spTwoD (K : PySem.W.Frag) : Sp := fun vs H Q _ => ∃ (v : V) (d : PyData), vs = [v] ∧ Dp K H v d ∧ Q (.bl (twoD d)) H
def spBetD (K : PySem.W.Frag) : Sp := fun vs H Q _ => ∃ (v : V) (d : PyData) (lo hi : Int), vs = [v, .int lo, .int hi] ∧ Dp K H v d ∧ Q (.bl (betD lo hi d)) H
/-- the def within a class's text -/
def inCls (i j : Nat) : Stmt := match top i with
  | .ClassDef (body := b) .. => b.getD j (.Pass ⟨0, 0, 0, 0⟩)
  | _ => .Pass ⟨0, 0, 0, 0⟩
abbrev slIsInt : Stmt := top 9
section
variable {P : Program} {w : World} {K : PySem.W.Frag} {mg : Str → Option Value} {base : Heap} {C CE f : Addr} {fd : FuncData}
theorem sclIsInt : FnScope ["value"] ["value"] (defScope slIsInt) := ⟨rfl, rfl, rfl, by decide +kernel, rfl, by decide +kernel, by decide +kernel⟩
theorem ok_isInt (F : Fun K "is_integer" "is_integer" slIsInt f fd) (T : Bt mg) : FnOk P w K mg base CX0 1 f fd ["value"] (spIntD K) := by
  refine F.ok sclIsInt (fun vs H Q E h => ?_) (fun cdv A outer s H vs Q E hr h => ?_)
  · obtain ⟨v, d, rfl, _⟩ := h
    rfl
  · obtain ⟨v, d, rfl, hd, k⟩ := h
    refine ⟨_, (pss_one (ps_ret (pe_and (pe_callB call_isi (by rfl) T.isinstance (by decide +kernel) (pa_cons (pv 0) (pa_cons (pe_bltn (v := .ty "int") (by rfl) T.int (by decide +kernel) rfl) pa_nil))) (pe_one (pe_not (pe_callB call_isi (by rfl) T.isinstance (by decide +kernel) (pa_cons (pv 0) (pa_cons (pe_bltn (v := .ty "bool") (by rfl) T.bool (by decide +kernel) rfl) pa_nil)))))))), ?_⟩
    walk_at "rd"
    refine r_isDI hd ?_
    walk_at "rd"
    by_cases e : isIB d = true
    · refine ifT e ?_
      walk_at "rd"
      refine r_isDB hd ?_
      walk_at "rd"
      rw [show isID d = !isBD d from by cases d <;> first | rfl | cases e] at k
      exact k
    · refine ifF (Bool.eq_false_iff.mpr e) ?_
      rw [show isID d = false from by cases d <;> first | exact absurd rfl e | rfl] at k
      exact k
theorem Dp.intV {H : Hp} {v : V} {i : Int} (h : Dp K H v (.int i)) : v = .int i := by
  cases h
  rfl
end
end Pk
set_option Elab.async false
set_option linter.all false
set_option maxRecDepth 100000
set_option maxHeartbeats 4000000
namespace Pk
open PySem L2
local macro_rules | `(tactic| walk_at "rd") => `(tactic| repeat (first
  | with_reducible refine r_seq ?_ | with_reducible refine r_nxt ?_ | with_reducible refine r_asg ?_ | with_reducible refine r_to ?_ | with_reducible refine r_ret ?_ | with_reducible refine r_for ?_ | with_reducible refine r_lc ?_ | with_reducible refine r_lc2 ?_ | with_reducible refine r_rng1 ?_ | with_reducible refine r_list ?_ | with_reducible refine r_tupI ?_ | with_reducible refine r_drop ?_ | with_reducible refine r_ifs ?_
  | with_reducible refine r_op ?_ | with_reducible refine r_c ?_ | with_reducible refine r_var rfl ?_ | with_reducible refine r_var (by assumption) ?_ | with_reducible refine r_I0 ?_ | with_reducible refine r_un ?_ | with_reducible refine r_U ?_ | with_reducible refine r_make ?_ | with_reducible refine r_makeS ?_ | with_reducible refine r_ifE ?_ | with_reducible refine r_cm ?_ | with_reducible refine r_mkV rfl ?_ | with_reducible refine r_sub ?_
  | with_reducible refine r_nil ?_ | with_reducible refine r_cons ?_ | with_reducible refine r_cb ?_ | with_reducible refine r_sl ?_ | with_reducible refine r_noP ?_ | with_reducible refine r_part ?_ | with_reducible refine r_isI ?_ | with_reducible refine r_lst ?_ | with_reducible refine r_tup ?_ | with_reducible refine r_call ?_ | with_reducible refine r_callS ?_ | with_reducible refine r_sFldU ?_ | with_reducible refine r_chain ?_ | with_reducible refine r_enum ?_ | with_reducible refine r_zip ?_ | with_reducible refine r_rng3 ?_ | with_reducible refine r_gtup ?_ | with_reducible refine r_methU ?_
  | with_reducible refine r_test ?_ | with_reducible refine r_B ?_ | with_reducible refine r_and ?_ | with_reducible refine r_or ?_ | with_reducible refine r_not ?_ | with_reducible refine r_andV ?_ | with_reducible refine r_orV ?_ | with_reducible refine r_notV ?_ | with_reducible refine r_bl ?_ | with_reducible refine r_yes ?_ | with_reducible refine r_int ?_ | with_reducible refine r_is0 ?_ | with_reducible refine r_is1 ?_ | with_reducible refine iteT ?_ | with_reducible refine iteF ?_ | with_reducible refine ite_nF ?_ | with_reducible refine ite_nT ?_
  | with_reducible refine r_mod (by decide) ?_ | with_reducible refine r_div (by decide) (by decide) ?_ | with_reducible refine r_mulR (by decide) (by decide) ?_ | with_reducible refine r_mulL (by decide) (by decide) ?_ | with_reducible refine r_pow (by decide) (by decide) (by decide) ?_))
theorem r_ifE {t : TT} {ta tb : TE} {σ : L2.St} {H : Hp} {Q : VK} (h : t σ H fun c H1 => if c = true then ta σ H1 Q else tb σ H1 Q) : tIf t ta tb σ H Q := h
theorem r_bm {K : PySem.W.Frag} {T : String} {r : V → List V → Hp → VK → Prop} {to : TE} {t : TA} {σ : L2.St} {H : Hp} {Q : VK} (h : to σ H fun x H1 => tyV K T x H1 ∧ t σ H1 fun xs H2 => r x xs H2 Q) : tBM K T r to t σ H Q := h
section
theorem SameD.ofKeep {x C dx : Addr} {fs : List (Str × V)} {H H' : Hp} (k : Keep x H H') (hx : H x = some (.ins C dx fs)) : SameD H H' := fun a u l h => k a u (fun z => by
  rw [z, hx] at h
  cases (Option.some.inj h)
  rcases l with ⟨_, l⟩ | ⟨_, l⟩ | ⟨_, _, l⟩ <;> cases l) h
end
/-! ### class Amounts, whatever is handed in -/
/-- the amounts at x: their dict at dx, their two lists at p and q -/
structure AmX (C : Addr) (H : Hp) (x dx p q : Addr) (ms ns : List Int) : Prop where
  o : H x = some (.ins C dx [("held", .ref p), ("wished", .ref q)])
  h : H p = some (.lst (ms.map V.int))
  w : H q = some (.lst (ns.map V.int))
theorem AmX.same {C : Addr} {H H' : Hp} {x dx p q : Addr} {ms ns : List Int} (a : AmX C H x dx p q ms ns) (s : Same H H') : AmX C H' x dx p q ms ns := ⟨s _ _ a.o, s _ _ a.h, s _ _ a.w⟩
/-- good amounts of some lines -/
def Gd (ms : List Int) : Prop := 0 < ms.length ∧ ms.length ≤ 8 ∧ ∀ m, m ∈ ms → 0 ≤ m
structure AmC (K : PySem.W.Frag) (C : Addr) : Prop where
  cls : Cls K C
  h : NoAttr K C "held"
  w : NoAttr K C "wished"
def natD : PyData → Bool
  | .int i => decide (0 ≤ i)
  | _ => false
def firstBad : List PyData → Option Nat
  | [] => none
  | d :: ds => if natD d = true then (firstBad ds).map (· + 1) else some 0
def intsD (ms : List Int) : PyData := .list (ms.map .int)
def badL : PyData → Option Int
  | .list ds => if ds.length = 0 ∨ 8 < ds.length then some (-1) else (firstBad ds).map Int.ofNat
  | _ => some (-1)
theorem badL_no {d : PyData} (h : isLD d = false) : badL d = some (-1) := by cases d <;> first | rfl | cases h
theorem firstBad_some : ∀ {ds : List PyData} {i : Nat}, i < ds.length → (∀ j, j < i → natD (ds.getD j .none) = true) → natD (ds.getD i .none) = false → firstBad ds = some i
  | [], i, h, _, _ => by simp at h
  | d :: ds, 0, _, _, b => by
    have b : natD d = false := b
    simp [firstBad, b]
  | d :: ds, i + 1, h, p, b => by
    have p0 : natD d = true := p 0 (by omega)
    rw [firstBad, if_pos p0, firstBad_some (i := i) (by simpa using h) (fun j hj => p (j + 1) (by omega)) b]
    rfl
theorem firstBad_none : ∀ {ds : List PyData}, (∀ j, j < ds.length → natD (ds.getD j .none) = true) → firstBad ds = none
  | [], _ => rfl
  | d :: ds, p => by
    have p0 : natD d = true := p 0 (by simp)
    rw [firstBad, if_pos p0, firstBad_none fun j hj => p (j + 1) (by simpa using hj)]
    rfl
theorem firstBad_inv : ∀ {ds : List PyData}, firstBad ds = none → ∃ ms : List Int, ds = ms.map .int ∧ ∀ m, m ∈ ms → 0 ≤ m
  | [], _ => ⟨[], rfl, fun m h => by cases h⟩
  | d :: ds, h => by
    rw [firstBad] at h
    by_cases c : natD d = true
    · rw [if_pos c] at h
      have h' : firstBad ds = none := by
        cases q : firstBad ds with
        | none => rfl
        | some k => rw [q] at h; cases h
      obtain ⟨ms, rfl, hm⟩ := firstBad_inv h'
      cases d with
      | int i => exact ⟨i :: ms, rfl, fun m hm' => by
          rcases List.mem_cons.mp hm' with rfl | h2
          · exact of_decide_eq_true c
          · exact hm m h2⟩
      | _ => cases c
    · rw [if_neg c] at h
      cases h
theorem badL_inv {d : PyData} (h : badL d = none) : ∃ ms, d = intsD ms ∧ Gd ms := by
  cases d with
  | list ds =>
    by_cases c : ds.length = 0 ∨ 8 < ds.length
    · rw [show badL (.list ds) = some (-1) from if_pos c] at h; cases h
    · rw [show badL (.list ds) = (firstBad ds).map Int.ofNat from if_neg c] at h
      have h' : firstBad ds = none := by
        cases q : firstBad ds with
        | none => rfl
        | some k => rw [q] at h; cases h
      obtain ⟨ms, rfl, hm⟩ := firstBad_inv h'
      rw [List.length_map] at c
      exact ⟨ms, rfl, by omega, by omega, hm⟩
  | _ => cases h
theorem badL_good {ms : List Int} (g : Gd ms) : badL (intsD ms) = none := by
  have c : ¬ ((ms.map PyData.int).length = 0 ∨ 8 < (ms.map PyData.int).length) := by
    have h1 := g.1
    have h2 := g.2.1
    rw [List.length_map]; omega
  rw [intsD, show badL (.list (ms.map .int)) = (firstBad (ms.map .int)).map Int.ofNat from if_neg c, firstBad_none fun j hj => ?_]
  · rfl
  · rw [List.getD_eq_getElem?_getD, List.getElem?_eq_getElem hj, List.getElem_map]
    rw [List.length_map] at hj
    exact decide_eq_true (g.2.2 _ (List.getElem_mem hj))
theorem ints_dp {K : PySem.W.Frag} {H : Hp} : ∀ {vs : List V} {ms : List Int}, DpAll K H vs (ms.map .int) → vs = ms.map V.int
  | [], [], _ => rfl
  | _ :: _, [], h => by cases h
  | [], _ :: _, h => by cases h
  | v :: vs, m :: ms, h => by
    cases h with
    | cons h1 h2 => rw [Dp.intV h1, ints_dp h2]; rfl
theorem dp_ints {K : PySem.W.Frag} {H : Hp} : ∀ ms : List Int, DpAll K H (ms.map V.int) (ms.map .int)
  | [] => .nil
  | m :: ms => .cons (.int m) (dp_ints ms)
theorem ints_inj : ∀ {ms ns : List Int}, ms.map PyData.int = ns.map PyData.int → ms = ns
  | [], [], _ => rfl
  | [], _ :: _, h => by cases h
  | _ :: _, [], h => by cases h
  | m :: ms, n :: ns, h => by
    simp only [List.map_cons, List.cons.injEq] at h
    rw [PyData.int.inj h.1, ints_inj h.2]
def badA (d e : PyData) : Option (Str × Int) := match badL d with
  | some k => some ("stocks", k)
  | none => (badL e).map fun k => ("wishes", k)
def spChkA (K : PySem.W.Frag) (CE : Addr) : Sp := fun vs H Q E => ∃ (z : Str) (v : V) (d : PyData), vs = [.str z, v] ∧ Dp K H v d ∧ (badL d = none → ∀ H' : Hp, Same H H' → Q .non H') ∧
  (∀ k, badL d = some k → ∀ (dd : Addr) (H' : Hp), Same H H' → H dd = none → H' dd = some (.xd [("at", .int k), ("word", .str z)]) → E (.ref CE) (some dd) H')
def spAmG (K : PySem.W.Frag) (C CE : Addr) : Sp := fun vs H Q E => ∃ (x dx : Addr) (v u : V) (d e : PyData), vs = [.ref x, v, u] ∧ H x = some (.ins C dx []) ∧ H dx = some (.own x) ∧ dx ≠ x ∧ Dp K H v d ∧ Dp K H u e ∧
  (∀ ms ns, d = intsD ms → e = intsD ns → Gd ms → Gd ns → ∀ (H' : Hp) (p q : Addr), H p = none → H q = none → p ≠ q → AmX C H' x dx p q ms ns → (∀ c o, c ≠ x → H c = some o → H' c = some o) → Q .non H') ∧
  (∀ z k, badA d e = some (z, k) → ∀ (dd : Addr) (H' : Hp), Same H H' → H dd = none → H' dd = some (.xd [("at", .int k), ("word", .str z)]) → E (.ref CE) (some dd) H')
def spAmOver (C : Addr) : Sp := fun vs H Q _ => ∃ (x dx p q : Addr) (ms ns : List Int), vs = [.ref x] ∧ AmX C H x dx p q ms ns ∧ Q (.int (ms.sum - ns.sum)) H
def spGet (C : Addr) (g : List Int → List Int → List Int) : Sp := fun vs H Q _ => ∃ (x dx p q : Addr) (ms ns : List Int), vs = [.ref x] ∧ AmX C H x dx p q ms ns ∧ ∀ r, H r = none → Q (.ref r) (upd H r (.lst ((g ms ns).map V.int)))
def spAmEq (C : Addr) : Sp := fun vs H Q _ => ∃ (x dx p q y dy r s : Addr) (ms ns ms' ns' : List Int), vs = [.ref x, .ref y] ∧ AmX C H x dx p q ms ns ∧ AmX C H y dy r s ms' ns' ∧ Q (.bl (decide (ms = ms') && decide (ns = ns'))) H
abbrev slChk : Stmt := top 11
abbrev slAmI : Stmt := inCls 12 0
abbrev slEq : Stmt := inCls 12 2
abbrev slStocks : Stmt := inCls 12 7
abbrev slWishes : Stmt := inCls 12 8
section
variable {P : Program} {w : World} {K : PySem.W.Frag} {mg : Str → Option Value} {base : Heap} {C CE f : Addr} {fd : FuncData}
theorem sclChk : FnScope ["word", "numbers", "at", "number"] ["word", "numbers"] (defScope slChk) := ⟨rfl, rfl, rfl, by decide +kernel, rfl, by decide +kernel, by decide +kernel⟩
theorem ok_chkA (F : Fun K "check_line_amounts" "check_line_amounts" slChk f fd) (T : Bt mg) {tk : Tok} (hM : mg "MOST_LINES" = some (.int 8 tk)) (DI : Df P w K mg base CX0 "is_integer" 1 ["value"] (spIntD K)) (EA : De P w K mg base "InvalidAmounts" 3 (spErr2 K 1 CE "word" "at") CE) :
    FnOk P w K mg base (L2.CX P w) 6 f fd ["word", "numbers"] (spChkA K CE) := by
  refine F.okX sclChk (fun vs H Q E h => ?_) (fun cdv A outer s H vs Q E hr h => ?_)
  · obtain ⟨z, v, d, rfl, _⟩ := h
    rfl
  · obtain ⟨z, v, d, rfl, hd, k1, k2⟩ := h
    refine ⟨_, (pss_cons (ps_if (PW.pt (pw_or (pt_not (pt_val (pe_callB call_isi (by rfl) T.isinstance (by decide +kernel) (pa_cons (pv 1) (pa_cons (pe_bltn (v := .ty "list") (by rfl) T.list (by decide +kernel) rfl) pa_nil)))))
        (pw_or1 (pt_not (pt_chain op_le op_le pe_int (pe_callB cl_len (by rfl) T.len PySem.boot_len (pa_cons (pv 1) pa_nil)) (pe_glob (v := .int 8) (by rfl) hM ⟨tk, rfl⟩)))))) (pss_one (ps_rse rfl (takes_of rfl rfl rfl rfl) EA hr (by decide) (pa_cons (pv 0) (pa_cons (pe_un un_neg pe_int) pa_nil)))) pss_nil)
      (pss_one (ps_for (passes_of rfl) rfl (pi_enum (by rfl) T.enumerate (pa_cons (pv 1) pa_nil)) (pg_tup (by rfl) (pgs_cons (pg_name (i := 2) sclChk.nd rfl (Or.inl rfl)) (pgs_cons (pg_name (i := 3) sclChk.nd rfl (Or.inl rfl)) pgs_nil)))
        (pss_one (ps_if (PW.pt (pw_or (pt_not (pt_val (pe_df DI hr (by decide) (pa_cons (pv 3) pa_nil)))) (pw_or1 (pt_cmpR op_lt (pv 3) pe_int (nomark _))))) (pss_one (ps_rse rfl (takes_of rfl rfl rfl rfl) EA hr (by decide) (pa_cons (pv 0) (pa_cons (pv 2) pa_nil)))) pss_nil))))), ?_⟩
    have raise1 : badL d = some (-1) → tMkErr CE (spErr2 K 1 CE "word" "at") (tCons (tVar 0) (tCons (tUn (rU fun i => .int (-i)) (tC (.int 1))) tNil)) [some (.str z), some v, none, none] H (fun cls d H' => E cls d H') := fun b => by
      refine r_mkErr ?_
      walk_at "rd"
      refine r_err2 (σ := []) (.str _) (.str _) (.int _) (.int _) fun dd u1 v1 H' s1 h1 h2 o1 o2 => ?_
      cases o1
      cases o2
      exact k2 (-1) b dd H' s1 h1 h2
    walk_at "rd"
    refine r_isDL hd ?_
    walk_at "rd"
    by_cases e : isLD d = true
    · refine ifF (by rw [e]; rfl) ?_
      obtain ⟨ds, rfl⟩ : ∃ ds, d = .list ds := by
        cases d with
        | list ds => exact ⟨ds, rfl⟩
        | _ => cases e
      obtain ⟨a, vs, rfl, ha, hv⟩ := Dp.lstAt hd
      have vl := DpAll.len hv
      walk_at "rd"
      refine r_lenL ha ?_
      walk_at "rd"
      by_cases c1 : 1 ≤ ds.length
      · refine ifT (decide_eq_true (by omega)) ?_
        walk_at "rd"
        by_cases c2 : ds.length ≤ 8
        · refine ifF (by rw [decide_eq_true (by omega)]; rfl) ?_
          have bd : badL (.list ds) = (firstBad ds).map Int.ofNat := if_neg (by omega)
          walk_at "rd"
          refine ⟨a, _, rfl, ha, for_it walk_enum (fun i σ H' => ∃ u v, σ = [some (.str z), some (.ref a), u, v] ∧ Same H H' ∧ ∀ j, j < i → natD (ds.getD j .none) = true) ⟨none, none, rfl, Same.refl H, fun j hj => by cases hj⟩ (fun i σ H' _ ⟨_, _, _, s, _⟩ => s.seq ha) ?_ ?_⟩
          · rintro i x σ H1 H2 hi ⟨u, v, rfl, s1, prev⟩ ⟨t, i', y, rfl, ht, rfl, e1, e2⟩
            obtain ⟨dy, hdy, py⟩ := DpAll.at hv e2
            cases (Option.some.inj e1)
            have gd : ds.getD i .none = dy := by rw [List.getD_eq_getElem?_getD, hdy]; rfl
            have st : Same H (upd H1 t (.tup [.int (i : Int), y])) := Same.up s1 ht
            have raise : natD dy = false → tMkErr CE (spErr2 K 1 CE "word" "at") (tCons (tVar 0) (tCons (tVar 2) tNil)) [some (.str z), some (.ref a), some (.int (i : Int)), some y] (upd H1 t (.tup [.int (i : Int), y])) (fun cls d H' => E cls d H') := fun o => by
              refine r_mkErr ?_
              walk_at "rd"
              refine r_err2 (σ := []) (.str _) (.str _) (.int _) (.int _) fun dd u1 v1 H' s4 h1 h2 o1 o2 => ?_
              cases o1
              cases o2
              exact k2 (i : Int) (by rw [bd, firstBad_some (by omega) prev (by rw [gd]; exact o)]; rfl) dd H' (st.trans s4) (st.free h1) h2
            have next : natD dy = true → ∃ u v, [some (.str z), some (.ref a), some (.int (i : Int)), some y] = [some (.str z), some (.ref a), u, v] ∧ Same H (upd H1 t (.tup [.int (i : Int), y])) ∧ ∀ j, j < i + 1 → natD (ds.getD j .none) = true := fun o => ⟨_, _, rfl, st, fun j hj => by
              by_cases ji : j < i
              · exact prev j ji
              · have : j = i := by omega
                rw [this, gd]
                exact o⟩
            refine r_gtup ⟨t, _, rfl, SqT.of upd_same, rfl, _, _, rfl, ?_⟩
            walk_at "rd"
            refine ⟨_, _, rfl, ?_⟩
            walk_at "rd"
            refine ⟨rfl, ?_⟩
            walk_at "rd"
            refine ⟨y, dy, rfl, Dp.later st py, ?_⟩
            walk_at "rd"
            by_cases o : isID dy = true
            · refine ifF (by rw [o]; rfl) ?_
              obtain ⟨m, rfl⟩ : ∃ m, dy = .int m := by
                cases dy with
                | int m => exact ⟨m, rfl⟩
                | _ => cases o
              obtain rfl := Dp.intV py
              walk_at "rd"
              by_cases lt : m < 0
              · refine ifT (decide_eq_true lt) ?_
                walk_at "rd"
                exact raise (decide_eq_false (by omega))
              · refine ifF (decide_eq_false lt) ?_
                walk_at "rd"
                exact next (decide_eq_true (by omega))
            · refine ifT (by rw [Bool.eq_false_iff.mpr o]; rfl) ?_
              walk_at "rd"
              exact raise (by cases dy <;> first | rfl | exact absurd rfl o)
          · rintro σ H1 ⟨u, v, rfl, s1, prev⟩
            exact k1 (by rw [bd, firstBad_none (fun j hj => prev j (by omega))]; rfl) H1 s1
        · refine ifT (by rw [decide_eq_false (by omega)]; rfl) ?_
          exact raise1 (if_pos (by omega))
      · refine ifF (decide_eq_false (by omega)) ?_
        walk_at "rd"
        exact raise1 (if_pos (by omega))
    · refine ifT (by rw [Bool.eq_false_iff.mpr e]; rfl) ?_
      exact raise1 (badL_no (Bool.eq_false_iff.mpr e))
theorem sclAmI : FnScope ["self", "stocks", "wishes"] ["self", "stocks", "wishes"] (defScope slAmI) := ⟨rfl, rfl, rfl, by decide +kernel, rfl, by decide +kernel, by decide +kernel⟩
theorem ok_amG (F : Fun K "__init__" "Amounts.__init__" slAmI f fd) (T : Bt mg) (A : AmC K C) (DC : Df P w K mg base (L2.CX P w) "check_line_amounts" 6 ["word", "numbers"] (spChkA K CE)) :
    FnOk P w K mg base (L2.CX P w) 8 f fd ["self", "stocks", "wishes"] (spAmG K C CE) := by
  refine F.okX sclAmI (fun vs H Q E h => ?_) (fun cdv A' outer s H vs Q E hr h => ?_)
  · obtain ⟨x, dx, v, u, d, e, rfl, _⟩ := h
    rfl
  · obtain ⟨x, dx, v, u, d, e, rfl, hx, hdx, ne, hd, he, k, kbad⟩ := h
    refine ⟨_, (pss_cons (ps_expr (pe_dfS (takes_of rfl rfl rfl rfl) DC hr (by decide) (pa_cons pe_str (pa_cons (pv 1) pa_nil))))
      (pss_cons (ps_expr (pe_dfS (takes_of rfl rfl rfl rfl) DC hr (by decide) (pa_cons pe_str (pa_cons (pv 2) pa_nil))))
      (pss_cons (ps_fld (pv 0) (pe_callTy cl_lst (by rfl) T.list (by decide +kernel) (pa_cons (pv 1) pa_nil)) rfl)
      (pss_one (ps_fld (pv 0) (pe_callTy cl_lst (by rfl) T.list (by decide +kernel) (pa_cons (pv 2) pa_nil)) rfl))))), ?_⟩
    walk_at "rd"
    refine ⟨_, v, d, rfl, hd, fun bd H1 s1 => ?_, fun k1 e1 dd H' s1 h1 h2 => kbad "stocks" k1 (by rw [badA, e1]) dd H' s1 h1 h2⟩
    walk_at "rd"
    refine ⟨_, u, e, rfl, Dp.later s1 he, fun be H2 s2 => ?_, fun k1 e1 dd H' s2 h1 h2 => kbad "wishes" k1 (by rw [badA, bd, e1]; rfl) dd H' (s1.trans s2) (s1.free h1) h2⟩
    obtain ⟨ms, rfl, gm⟩ := badL_inv bd
    obtain ⟨ns, rfl, gn⟩ := badL_inv be
    obtain ⟨a, vs, rfl, ha, hv⟩ := Dp.lstAt hd
    obtain rfl := ints_dp hv
    obtain ⟨b, us, rfl, hb, hu⟩ := Dp.lstAt he
    obtain rfl := ints_dp hu
    have s12 : Same H H2 := s1.trans s2
    walk_at "rd"
    refine r_lstOf (s12.seq ha) fun q1 n1 => ?_
    have x1 : x ≠ q1 := fun z => by
      have e := s12 _ _ hx
      rw [z, n1] at e
      cases e
    walk_at "rd"
    refine r_sFld0 (C := C) (dx := dx) (fs := []) (by rw [upd_ne x1]; exact s12 _ _ hx) A.cls A.h (by decide) ?_
    walk_at "rd"
    have sq := Same.up (o := .lst (ms.map V.int)) (Same.refl H2) n1
    have hb2 : SqL K (upd (upd H2 q1 (.lst (ms.map V.int))) x (.ins C dx [("held", .ref q1)])) b (ns.map V.int) :=
      (SameD.ofKeep (Keep.refl.own) (sq _ _ (s12 _ _ hx))).seqL (sq.seq (s12.seq hb))
    refine r_lstOf hb2 fun q2 n2 => ?_
    have x2 : x ≠ q2 := fun z => by
      rw [← z, upd_same] at n2
      cases n2
    have q12 : q1 ≠ q2 := fun z => by
      rw [← z, upd_ne (Ne.symm x1), upd_same] at n2
      cases n2
    rw [upd_ne (Ne.symm x2), upd_ne (Ne.symm q12)] at n2
    walk_at "rd"
    refine r_sFld0 (C := C) (dx := dx) (by rw [upd_ne x2, upd_same]) A.cls A.w (by show 1 < 1000; decide) ?_
    rw [two_put (by decide +kernel) (by decide +kernel)]
    refine k ms ns rfl rfl gm gn _ q1 q2 (s12.free n1) (s12.free n2) q12 ⟨upd_same, ?_, ?_⟩ fun c o hc e => ?_
    · rw [upd_ne (Ne.symm x1), upd_ne q12, upd_ne (Ne.symm x1), upd_same]
    · rw [upd_ne (Ne.symm x2), upd_same]
    · have e2 := s12 _ _ e
      have c1 : c ≠ q1 := fun z => by rw [z, n1] at e2; cases e2
      have c2 : c ≠ q2 := fun z => by rw [z, n2] at e2; cases e2
      rw [upd_ne hc, upd_ne c2, upd_ne hc, upd_ne c1]
      exact e2
/-- good amounts are made -/
theorem mk_amG {H1 : Hp} {x dx : Addr} {v u : V} {ms ns : List Int} {Q : Hp → Prop} {E : XK} (nx : H1 x = none) (nd : H1 dx = none) (ne : dx ≠ x) (hv : Dp K H1 v (intsD ms)) (hu : Dp K H1 u (intsD ns)) (gm : Gd ms) (gn : Gd ns)
    (k : ∀ (H' : Hp) (p q : Addr), H1 p = none → H1 q = none → p ≠ q → AmX C H' x dx p q ms ns → Same H1 H' → Q H') : spAmG K C CE [.ref x, v, u] (upd (upd H1 dx (.own x)) x (.ins C dx [])) (fun v H2 => v = .non ∧ Q H2) E := by
  have sy : Same H1 (upd (upd H1 dx (.own x)) x (.ins C dx [])) := fun d o e => by
    have n1 : d ≠ x := fun z => by rw [z, nx] at e; cases e
    have n2 : d ≠ dx := fun z => by rw [z, nd] at e; cases e
    rw [upd_ne n1, upd_ne n2]
    exact e
  refine ⟨x, dx, v, u, _, _, rfl, upd_same, by rw [upd_ne ne, upd_same], ne, Dp.later sy hv, Dp.later sy hu, fun ms' ns' e1 e2 _ _ H' p q np nq pq am kp => ⟨rfl, ?_⟩, fun z k1 e1 => ?_⟩
  · have i1 : ms = ms' := by
      have e := PyData.list.inj e1
      exact ints_inj e
    have i2 : ns = ns' := by
      have e := PyData.list.inj e2
      exact ints_inj e
    subst i1
    subst i2
    exact k H' p q (sy.free np) (sy.free nq) pq am fun d o e => kp _ _ (fun z => by rw [z, nx] at e; cases e) (sy _ _ e)
  · rw [badA, badL_good gm, badL_good gn] at e1
    cases e1
theorem sclStocks : FnScope ["self"] ["self"] (defScope slStocks) := ⟨rfl, rfl, rfl, by decide +kernel, rfl, by decide +kernel, by decide +kernel⟩
theorem sclWishes : FnScope ["self"] ["self"] (defScope slWishes) := ⟨rfl, rfl, rfl, by decide +kernel, rfl, by decide +kernel, by decide +kernel⟩
theorem ok_stocks (F : Fun K "stocks" "Amounts.stocks" slStocks f fd) (T : Bt mg) (A : AmC K C) : FnOk P w K mg base CX0 1 f fd ["self"] (spGet C fun ms _ => ms) := by
  refine F.ok sclStocks (fun vs H Q E h => ?_) (fun cdv A' outer s H vs Q E hr h => ?_)
  · obtain ⟨x, dx, p, q, ms, ns, rfl, _⟩ := h
    rfl
  · obtain ⟨x, dx, p, q, ms, ns, rfl, a, k⟩ := h
    refine ⟨_, (pss_one (ps_ret (pe_callTy cl_lst (by rfl) T.list (by decide +kernel) (pa_cons (pe_fld (pv 0) rfl) pa_nil)))), ?_⟩
    walk_at "rd"
    refine r_fldV rfl a.o A.cls A.h two_fst ?_
    walk_at "rd"
    exact r_lstOf (SqL.of a.h) k
theorem ok_wishes (F : Fun K "wishes" "Amounts.wishes" slWishes f fd) (T : Bt mg) (A : AmC K C) : FnOk P w K mg base CX0 1 f fd ["self"] (spGet C fun _ ns => ns) := by
  refine F.ok sclWishes (fun vs H Q E h => ?_) (fun cdv A' outer s H vs Q E hr h => ?_)
  · obtain ⟨x, dx, p, q, ms, ns, rfl, _⟩ := h
    rfl
  · obtain ⟨x, dx, p, q, ms, ns, rfl, a, k⟩ := h
    refine ⟨_, (pss_one (ps_ret (pe_callTy cl_lst (by rfl) T.list (by decide +kernel) (pa_cons (pe_fld (pv 0) rfl) pa_nil)))), ?_⟩
    walk_at "rd"
    refine r_fldV rfl a.o A.cls A.w (two_snd (by decide +kernel)) ?_
    walk_at "rd"
    exact r_lstOf (SqL.of a.w) k
theorem sclEq : FnScope ["self", "other"] ["self", "other"] (defScope slEq) := ⟨rfl, rfl, rfl, by decide +kernel, rfl, by decide +kernel, by decide +kernel⟩
theorem ok_amEq (F : Fun K "__eq__" "Amounts.__eq__" slEq f fd) (T : Bt mg) (A : AmC K C) (O : OwnC K C) (gA : mg "Amounts" = some (.ref C)) : FnOk P w K mg base CX0 1 f fd ["self", "other"] (spAmEq C) := by
  refine F.ok sclEq (fun vs H Q E h => ?_) (fun cdv A' outer s H vs Q E hr h => ?_)
  · obtain ⟨x, dx, p, q, y, dy, r, s, ms, ns, ms', ns', rfl, _⟩ := h
    rfl
  · obtain ⟨x, dx, p, q, y, dy, r, s, ms, ns, ms', ns', rfl, o, o', k⟩ := h
    refine ⟨_, (pss_one (ps_ret (pe_and (pe_callB call_isi (by rfl) T.isinstance (by decide +kernel) (pa_cons (pv 1) (pa_cons (pe_glob (v := .ref C) (by rfl) gA rfl) pa_nil)))
      (pe_and (pe_cmpR (op_eqD hr.units) (pe_fld (pv 0) rfl) (pe_fld (pv 1) rfl) (nomark _)) (pe_one (pe_cmpR (op_eqD hr.units) (pe_fld (pv 0) rfl) (pe_fld (pv 1) rfl) (nomark _))))))), ?_⟩
    walk_at "rd"
    refine r_isiSelf O o'.o ?_
    walk_at "rd"
    refine r_fldV rfl o.o A.cls A.h two_fst ?_
    refine r_fldV rfl o'.o A.cls A.h two_fst ?_
    refine r_eqL (SqL.of o.h) (SqL.of o'.h) ?_
    walk_at "rd"
    by_cases e : ms = ms'
    · refine ifT (decide_eq_true e) ?_
      rw [decide_eq_true e, Bool.true_and] at k
      walk_at "rd"
      refine r_fldV rfl o.o A.cls A.w (two_snd (by decide +kernel)) ?_
      refine r_fldV rfl o'.o A.cls A.w (two_snd (by decide +kernel)) ?_
      exact r_eqL (SqL.of o.w) (SqL.of o'.w) k
    · refine ifF (decide_eq_false e) ?_
      rw [decide_eq_false e, Bool.false_and] at k
      exact k
end
end Pk
set_option Elab.async false
set_option linter.all false
set_option maxRecDepth 100000
set_option maxHeartbeats 4000000
namespace Pk
open PySem L2
local macro_rules | `(tactic| walk_at "rd") => `(tactic| repeat (first
  | with_reducible refine r_seq ?_ | with_reducible refine r_nxt ?_ | with_reducible refine r_asg ?_ | with_reducible refine r_to ?_ | with_reducible refine r_ret ?_ | with_reducible refine r_for ?_ | with_reducible refine r_lc ?_ | with_reducible refine r_lc2 ?_ | with_reducible refine r_rng1 ?_ | with_reducible refine r_list ?_ | with_reducible refine r_tupI ?_ | with_reducible refine r_drop ?_ | with_reducible refine r_ifs ?_
  | with_reducible refine r_op ?_ | with_reducible refine r_c ?_ | with_reducible refine r_var rfl ?_ | with_reducible refine r_var (by assumption) ?_ | with_reducible refine r_I0 ?_ | with_reducible refine r_un ?_ | with_reducible refine r_U ?_ | with_reducible refine r_make ?_ | with_reducible refine r_makeS ?_ | with_reducible refine r_ifE ?_ | with_reducible refine r_cm ?_ | with_reducible refine r_mkV rfl ?_ | with_reducible refine r_sub ?_
  | with_reducible refine r_nil ?_ | with_reducible refine r_cons ?_ | with_reducible refine r_cb ?_ | with_reducible refine r_sl ?_ | with_reducible refine r_noP ?_ | with_reducible refine r_part ?_ | with_reducible refine r_isI ?_ | with_reducible refine r_lst ?_ | with_reducible refine r_tup ?_ | with_reducible refine r_call ?_ | with_reducible refine r_callS ?_ | with_reducible refine r_sFldU ?_ | with_reducible refine r_chain ?_ | with_reducible refine r_enum ?_ | with_reducible refine r_zip ?_ | with_reducible refine r_rng3 ?_ | with_reducible refine r_gtup ?_ | with_reducible refine r_methU ?_
  | with_reducible refine r_test ?_ | with_reducible refine r_B ?_ | with_reducible refine r_and ?_ | with_reducible refine r_or ?_ | with_reducible refine r_not ?_ | with_reducible refine r_andV ?_ | with_reducible refine r_orV ?_ | with_reducible refine r_notV ?_ | with_reducible refine r_bl ?_ | with_reducible refine r_yes ?_ | with_reducible refine r_int ?_ | with_reducible refine r_is0 ?_ | with_reducible refine r_is1 ?_ | with_reducible refine iteT ?_ | with_reducible refine iteF ?_ | with_reducible refine ite_nF ?_ | with_reducible refine ite_nT ?_
  | with_reducible refine r_mod (by decide) ?_ | with_reducible refine r_div (by decide) (by decide) ?_ | with_reducible refine r_mulR (by decide) (by decide) ?_ | with_reducible refine r_mulL (by decide) (by decide) ?_ | with_reducible refine r_pow (by decide) (by decide) (by decide) ?_))
/-! ### the drawn numbers of a script, without a pool -/
def cellF (ns : List Int) (k : Nat) : Int := ns.getD k 0
def mixF (c k : Int) : Int :=
  ((((((c + 7919 * k + 1) * 48271) % 2147483647) * ((((c + 7919 * k + 1) * 48271) % 2147483647) / 1009 + 69621)) % 2147483647) * (((((((c + 7919 * k + 1) * 48271) % 2147483647) * ((((c + 7919 * k + 1) * 48271) % 2147483647) / 1009 + 69621)) % 2147483647)) / 2003 + 40692)) % 2147483399
theorem mixF_nn (c k : Int) : 0 ≤ mixF c k := Int.emod_nonneg _ (by decide)
theorem mixF_lt (c k : Int) : mixF c k < 2147483399 := Int.emod_lt_of_pos _ (by decide)
def numF (c sp : Int) (k : Nat) (z : Int) : Int := if z > 10 ^ 8 then mixF c (1009 * sp + k) / 16 * (10 ^ 22 + 9) + mixF (c + 1) (1009 * sp + k) / 16 else mixF c (1009 * sp + k) / 16
def dStep (c sp : Int) (k : Nat) (z l : Int) : Int × Int := if 10 ^ 18 ≤ c ∧ 0 < l then (l % z, l / z) else (numF c sp k z % z, l)
theorem dStep_nn {c sp : Int} {k : Nat} {z l : Int} (h : 0 < z) : 0 ≤ (dStep c sp k z l).1 ∧ (dStep c sp k z l).1 < z := by
  unfold dStep
  by_cases g : 10 ^ 18 ≤ c ∧ 0 < l
  · rw [if_pos g]; exact ⟨Int.emod_nonneg _ (by omega), Int.emod_lt_of_pos _ h⟩
  · rw [if_neg g]; exact ⟨Int.emod_nonneg _ (by omega), Int.emod_lt_of_pos _ h⟩
def dAt (c sp : Int) (zs : List Int) : Nat → List Int × Int
  | 0 => ([], c)
  | m + 1 => match zs[m]? with
    | some z => ((dAt c sp zs m).1 ++ [(dStep c sp m z (dAt c sp zs m).2).1], (dStep c sp m z (dAt c sp zs m).2).2)
    | none => dAt c sp zs m
def drawsF (ns : List Int) (sp : Nat) (zs : List Int) : List Int := (dAt (cellF ns sp) sp zs zs.length).1
theorem dAt_more {c sp : Int} {zs : List Int} {m : Nat} {z : Int} (e : zs[m]? = some z) : dAt c sp zs (m + 1) = ((dAt c sp zs m).1 ++ [(dStep c sp m z (dAt c sp zs m).2).1], (dStep c sp m z (dAt c sp zs m).2).2) := by
  show (match zs[m]? with | some z => _ | none => _) = _
  rw [e]
theorem dAt_len {c sp : Int} {zs : List Int} : ∀ {m : Nat}, m ≤ zs.length → (dAt c sp zs m).1.length = m
  | 0, _ => rfl
  | m + 1, h => by
    rw [dAt_more (List.getElem?_eq_getElem (show m < zs.length by omega))]
    show (_ ++ [_]).length = _
    rw [List.length_append, dAt_len (by omega)]
    rfl
theorem drawsF_len (ns : List Int) (sp : Nat) (zs : List Int) : (drawsF ns sp zs).length = zs.length := dAt_len (Nat.le_refl _)
theorem dAt_get {c sp : Int} {zs : List Int} (pos : ∀ z, z ∈ zs → 0 < z) : ∀ {m i : Nat} {d : Int}, m ≤ zs.length → (dAt c sp zs m).1[i]? = some d → ∃ z, zs[i]? = some z ∧ 0 ≤ d ∧ d < z
  | 0, i, d, _, e => by simp [dAt] at e
  | m + 1, i, d, h, e => by
    have em := List.getElem?_eq_getElem (show m < zs.length by omega)
    rw [dAt_more em] at e
    have l := dAt_len (c := c) (sp := sp) (show m ≤ zs.length by omega)
    by_cases c0 : i < m
    · rw [List.getElem?_append_left (by omega)] at e
      exact dAt_get pos (by omega) e
    · rw [List.getElem?_append_right (by omega), l] at e
      have : i = m := by
        by_cases d0 : i - m = 0
        · omega
        · obtain ⟨q, hq⟩ : ∃ q, i - m = q + 1 := ⟨i - m - 1, by omega⟩
          rw [hq] at e
          simp at e
      subst this
      rw [Nat.sub_self] at e
      cases e
      exact ⟨_, em, dStep_nn (pos _ (List.mem_of_getElem? em))⟩
theorem drawsF_get {ns : List Int} {sp : Nat} {zs : List Int} (pos : ∀ z, z ∈ zs → 0 < z) {i : Nat} {z : Int} (e : zs[i]? = some z) : ∃ d, (drawsF ns sp zs)[i]? = some d ∧ 0 ≤ d ∧ d < z := by
  have hi : i < (drawsF ns sp zs).length := by rw [drawsF_len]; exact (List.getElem?_eq_some_iff.mp e).1
  have e1 := List.getElem?_eq_getElem hi
  obtain ⟨z', ez, h1, h2⟩ := dAt_get pos (Nat.le_refl _) e1
  rw [e] at ez
  cases ez
  exact ⟨_, e1, h1, h2⟩
def spCell2 (K : PySem.W.Frag) : Sp := fun vs H Q _ => ∃ (l : Addr) (ns : List Int) (k : Nat), vs = [.ref l, .int (k : Int)] ∧ SqL K H l (ns.map V.int) ∧ Q (.int (cellF ns k)) H
def spMix2 : Sp := fun vs H Q _ => ∃ c k : Int, vs = [.int c, .int k] ∧ Q (.int (mixF c k)) H
/-- a size that can be drawn from -/
def Szd (z : Int) : Prop := 0 < z ∧ z.natAbs.log2 < 9000
def spDraws (K : PySem.W.Frag) : Sp := fun vs H Q _ => ∃ (l zl : Addr) (ns zs : List Int) (sp : Nat), vs = [.ref l, .int (sp : Int), .ref zl] ∧ SqL K H l (ns.map V.int) ∧ H zl = some (.lst (zs.map V.int)) ∧ (∀ z, z ∈ zs → Szd z) ∧ zs.length ≤ 1000 ∧
  ∀ (r : Addr) (H' : Hp), Same H H' → H r = none → H' r = some (.lst ((drawsF ns sp zs).map V.int)) → Q (.ref r) H'
abbrev slCell2 : Stmt := top 22
abbrev slMix2 : Stmt := top 23
abbrev slDraws : Stmt := top 24
theorem r_aug {i : Nat} {te : TE} {ti : TIp} {D : Ends} {σ : L2.St} {H : Hp} {v : V} (e : σ[i]? = some (some v)) (h : te σ H fun y H1 => ti v y H1 fun z H2 => D.nx (σ.set i (some z)) H2) : tAug i te ti D σ H := ⟨v, e, h⟩
theorem r_divW {a b : Int} {H : Hp} {Q : VK} (c : Szd b) (h : Q (.int (a / b)) H) : rI CDivW (fun i j => .int (i / j)) (.int a) (.int b) H Q := r_I c h
section
variable {P : Program} {w : World} {K : PySem.W.Frag} {mg : Str → Option Value} {base : Heap} {f : Addr} {fd : FuncData}
theorem sclCell2 : FnScope ["_law_script", "_law_k"] ["_law_script", "_law_k"] (defScope slCell2) := ⟨rfl, rfl, rfl, by decide +kernel, rfl, by decide +kernel, by decide +kernel⟩
theorem ok_cell2 (F : Fun K "_law_cell" "_law_cell" slCell2 f fd) (T : Bt mg) : FnOk P w K mg base CX0 1 f fd ["_law_script", "_law_k"] (spCell2 K) := by
  refine F.ok sclCell2 (fun vs H Q E h => ?_) (fun cdv A outer s H vs Q E hr h => ?_)
  · obtain ⟨l, ns, k, rfl, _⟩ := h
    rfl
  · obtain ⟨l, ns, k, rfl, hl, kk⟩ := h
    refine ⟨_, (pss_cons (ps_if (pt_cmpR op_lt (pv 1) (pe_callB cl_len (by rfl) T.len (by decide +kernel) (pa_cons (pv 0) pa_nil)) (nomark _)) (pss_one (ps_ret (pe_callTy cl_int (by rfl) T.int (by decide +kernel) (pa_cons (pe_ix ix_list (pv 0) (pv 1) (fun _ _ => rfl)) pa_nil)))) pss_nil)
  (pss_one (ps_ret pe_int))), ?_⟩
    walk_at "rd"
    refine r_lenL hl ?_
    walk_at "rd"
    by_cases c : k < ns.length
    · refine ifT (decide_eq_true (by rw [List.length_map]; omega)) ?_
      walk_at "rd"
      refine r_ixL hl (v := .int ns[k]) (atI_nat (j := k) (by rw [List.getElem?_map, List.getElem?_eq_getElem c]; rfl)) ?_
      walk_at "rd"
      have e : cellF ns k = ns[k] := by unfold cellF; rw [List.getD_eq_getElem?_getD, List.getElem?_eq_getElem c]; rfl
      rw [← e]
      exact kk
    · refine ifF (decide_eq_false (by rw [List.length_map]; omega)) ?_
      walk_at "rd"
      have e : cellF ns k = 0 := by unfold cellF; rw [List.getD_eq_getElem?_getD, List.getElem?_eq_none (by omega)]; rfl
      rw [← e]
      exact kk
theorem sclMix2 : FnScope ["_law_cell_here", "_law_k", "_law_number_here"] ["_law_cell_here", "_law_k"] (defScope slMix2) := ⟨rfl, rfl, rfl, by decide +kernel, rfl, by decide +kernel, by decide +kernel⟩
theorem ok_mix2 (F : Fun K "_law_mixed" "_law_mixed" slMix2 f fd) (T : Bt mg) : FnOk P w K mg base CX0 1 f fd ["_law_cell_here", "_law_k"] spMix2 := by
  refine F.ok sclMix2 (fun vs H Q E h => ?_) (fun cdv A outer s H vs Q E hr h => ?_)
  · obtain ⟨c, k, rfl, _⟩ := h
    rfl
  · obtain ⟨c, k, rfl, kk⟩ := h
    refine ⟨_, (pss_cons (ps_set (i := 2) sclMix2.nd rfl (Or.inl rfl) (pe_op op_mod (pe_callTy cl_int (by rfl) T.int (by decide +kernel) (pa_cons (pe_op op_mul (pe_op op_add (pe_op op_add (pv 0) (pe_op op_mul pe_int (pv 1))) pe_int) pe_int) pa_nil)) pe_int))
  (pss_cons (ps_set (i := 2) sclMix2.nd rfl (Or.inl rfl) (pe_op op_mod (pe_callTy cl_int (by rfl) T.int (by decide +kernel) (pa_cons (pe_op op_mul (pv 2) (pe_op op_add (pe_op op_fdiv (pv 2) pe_int) pe_int)) pa_nil)) pe_int))
  (pss_one (ps_ret (pe_op op_mod (pe_callTy cl_int (by rfl) T.int (by decide +kernel) (pa_cons (pe_op op_mul (pv 2) (pe_op op_add (pe_op op_fdiv (pv 2) pe_int) pe_int)) pa_nil)) pe_int))))), ?_⟩
    walk_at "rd"
    obtain ⟨a, ea⟩ : ∃ a, a = ((c + 7919 * k + 1) * 48271) % 2147483647 := ⟨_, rfl⟩
    have a0 : 0 ≤ a := by rw [ea]; exact Int.emod_nonneg _ (by decide)
    have a1 : a < 2147483647 := by rw [ea]; exact Int.emod_lt_of_pos _ (by decide)
    rw [← ea]
    refine r_mulL (Int.lt_of_lt_of_le (by decide) a0) (Int.lt_trans a1 (by decide)) ?_
    walk_at "rd"
    obtain ⟨b, eb⟩ : ∃ b, b = (a * (a / 1009 + 69621)) % 2147483647 := ⟨_, rfl⟩
    have b0 : 0 ≤ b := by rw [eb]; exact Int.emod_nonneg _ (by decide)
    have b1 : b < 2147483647 := by rw [eb]; exact Int.emod_lt_of_pos _ (by decide)
    rw [← eb]
    refine r_mulL (Int.lt_of_lt_of_le (by decide) b0) (Int.lt_trans b1 (by decide)) ?_
    walk_at "rd"
    have e : mixF c k = (b * (b / 2003 + 40692)) % 2147483399 := by rw [eb, ea]; rfl
    rw [← e]
    exact kk
theorem sclDraws : FnScope ["_law_script", "_law_spot", "_law_sizes", "_law_cell_here", "_law_left", "_law_drawn", "_law_k", "_law_size", "_law_number_here"] ["_law_script", "_law_spot", "_law_sizes"] (defScope slDraws) := ⟨rfl, rfl, rfl, by decide +kernel, rfl, by decide +kernel, by decide +kernel⟩
theorem ok_draws (F : Fun K "_law_draws" "_law_draws" slDraws f fd) (T : Bt mg) (DC : Df P w K mg base CX0 "_law_cell" 1 ["_law_script", "_law_k"] (spCell2 K)) (DM : Df P w K mg base CX0 "_law_mixed" 1 ["_law_cell_here", "_law_k"] spMix2) : FnOk P w K mg base CX0 2 f fd ["_law_script", "_law_spot", "_law_sizes"] (spDraws K) := by
  refine F.ok sclDraws (fun vs H Q E h => ?_) (fun cdv A outer s H vs Q E hr h => ?_)
  · obtain ⟨l, zl, ns, zs, sp, rfl, _⟩ := h
    rfl
  · obtain ⟨l, zl, ns, zs, sp, rfl, hl, hz, sz, z1000, kk⟩ := h
    refine ⟨_, (pss_cons (ps_set (i := 3) sclDraws.nd rfl (Or.inl rfl) (pe_df DC hr (by decide) (pa_cons (pv 0) (pa_cons (pv 1) pa_nil))))
  (pss_cons (ps_set (i := 4) sclDraws.nd rfl (Or.inl rfl) (pv 3))
  (pss_cons (ps_set (i := 5) sclDraws.nd rfl (Or.inl rfl) (pe_lst pa_nil))
  (pss_cons (ps_for PassesOwn.never rfl (pi_enum (by rfl) T.enumerate (pa_cons (pv 2) pa_nil)) (pg_tup (by rfl) (pgs_cons (pg_name (i := 6) sclDraws.nd rfl (Or.inl rfl)) (pgs_cons (pg_name (i := 7) sclDraws.nd rfl (Or.inl rfl)) pgs_nil))) (pss_one (ps_if (PW.pt (pw_and (pt_cmpR op_ge (pv 3) (pe_op op_pow pe_int pe_int) (nomark _)) (pw_and1 (pt_cmpR op_gt (pv 4) pe_int (nomark _))))) (pss_cons (ps_expr (pe_bm PySem.F.plainAttrs_list PySem.F.slot_list_append PySem.F.type_list_append mt_append (pv 5) (pa_cons (pe_op op_mod (pe_callTy cl_int (by rfl) T.int (by decide +kernel) (pa_cons (pv 4) pa_nil)) (pv 7)) pa_nil)))
  (pss_one (ps_set (i := 4) sclDraws.nd rfl (Or.inl rfl) (pe_op op_fdivW (pv 4) (pv 7))))) (pss_cons (ps_set (i := 8) sclDraws.nd rfl (Or.inl rfl) (pe_op op_fdiv (pe_df DM hr (by decide) (pa_cons (pv 3) (pa_cons (pe_op op_add (pe_op op_mul pe_int (pv 1)) (pv 6)) pa_nil))) pe_int))
  (C8.pss_cut (ps_if (pt_cmpR op_gt (pv 7) (pe_op op_pow pe_int pe_int) (nomark _)) (pss_cons (ps_set (i := 8) sclDraws.nd rfl (Or.inl rfl) (pe_op op_mul (pv 8) (pe_op op_add (pe_op op_pow pe_int pe_int) pe_int)))
  (pss_one (ps_aug (i := 8) sclDraws.nd rfl (Or.inl rfl) (pe_op op_fdiv (pe_df DM hr (by decide) (pa_cons (pe_op op_add (pv 3) pe_int) (pa_cons (pe_op op_add (pe_op op_mul pe_int (pv 1)) (pv 6)) pa_nil))) pe_int) ip_add))) pss_nil)
  (pss_one (ps_expr (pe_bm PySem.F.plainAttrs_list PySem.F.slot_list_append PySem.F.type_list_append mt_append (pv 5) (pa_cons (pe_op op_mod (pe_callTy cl_int (by rfl) T.int (by decide +kernel) (pa_cons (pv 8) pa_nil)) (pv 7)) pa_nil)))))))))
  (pss_one (ps_ret (pv 5))))))), ?_⟩
    walk_at "rd"
    refine ⟨l, ns, sp, rfl, hl, ?_⟩
    obtain ⟨c, ec⟩ : ∃ c, c = cellF ns sp := ⟨_, rfl⟩
    rw [← ec]
    walk_at "rd"
    refine ⟨Nat.zero_le _, fun D nD => ?_⟩
    have s1 := Same.up (o := .lst []) (Same.refl H) nD
    have hD1 : upd H D (.lst []) D = some (.lst []) := upd_same
    obtain ⟨H1, eH1⟩ : ∃ H1, H1 = upd H D (.lst []) := ⟨_, rfl⟩
    rw [← eH1] at s1 hD1 ⊢
    walk_at "rd"
    refine ⟨zl, zs.map V.int, rfl, SqL.of (s1 _ _ hz), for_it walk_enum (fun m σ H' => ∃ v6 v7 v8, σ = [some (.ref l), some (.int (sp : Int)), some (.ref zl), some (.int c), some (.int (dAt c sp zs m).2), some (.ref D), v6, v7, v8] ∧ Same H H' ∧ H' D = some (.lst ((dAt c sp zs m).1.map V.int))) ⟨_, _, _, rfl, s1, hD1⟩ (fun m σ H' _ z => by obtain ⟨_, _, _, _, z, _⟩ := z; exact SqL.of (z _ _ hz)) ?_ ?_⟩
    · rintro m y σ H2 H3 hm ⟨v6, v7, v8, rfl, s2, hD2⟩ ⟨t, i', y', rfl, ht, rfl, e1, e2⟩
      cases (Option.some.inj e1)
      have e2 : (zs.map V.int)[m]? = some y' := e2
      rw [List.getElem?_map] at e2
      obtain ⟨z, ez, rfl⟩ := Option.map_eq_some_iff.mp e2
      have sz' := sz z (List.mem_of_getElem? ez)
      have hm' : m < zs.length := (List.getElem?_eq_some_iff.mp ez).1
      have dl := dAt_len (c := c) (sp := sp) (show m ≤ zs.length by omega)
      refine r_gtup ⟨t, _, rfl, SqT.of upd_same, rfl, _, _, rfl, ?_⟩
      have hD3 := Same.up (o := .tup [V.int (m : Int), V.int z]) (Same.refl H2) ht _ _ hD2
      have s3 := s2.trans (Same.up (o := .tup [V.int (m : Int), V.int z]) (Same.refl H2) ht)
      obtain ⟨H3, eH3⟩ : ∃ H3, H3 = upd H2 t (.tup [V.int (m : Int), V.int z]) := ⟨_, rfl⟩
      rw [← eH3] at s3 hD3 ⊢
      have put : ∀ v : V, Same H (upd H3 D (.lst ((dAt c sp zs m).1.map V.int ++ [v]))) := fun v c o e => by
        rw [upd_ne (fun z => by rw [z, nD] at e; cases e)]
        exact s3 _ _ e
      have lD : ((dAt c sp zs m).1.map V.int).length < sizeLine := Nat.lt_of_le_of_lt (show _ ≤ 1000 by rw [List.length_map]; omega) (by decide)
      have dm := dAt_more (c := c) (sp := sp) ez
      walk_at "rd"
      refine ⟨_, _, rfl, ?_⟩
      walk_at "rd"
      refine ⟨rfl, ?_⟩
      walk_at "rd"
      by_cases gd : 10 ^ 18 ≤ c ∧ 0 < (dAt c sp zs m).2
      · have ds : dStep c sp m z (dAt c sp zs m).2 = ((dAt c sp zs m).2 % z, (dAt c sp zs m).2 / z) := by unfold dStep; rw [if_pos gd]
        rw [ds] at dm
        refine ifT (decide_eq_true gd.1) ?_
        walk_at "rd"
        refine ifT (decide_eq_true gd.2) ?_
        walk_at "rd"
        refine r_bm ?_
        walk_at "rd"
        refine ⟨.inl ⟨rfl, _, SqL.of hD3⟩, ?_⟩
        walk_at "rd"
        refine r_mod sz'.1 ?_
        walk_at "rd"
        refine ⟨D, _, _, rfl, rfl, hD3, lD, ?_⟩
        walk_at "rd"
        refine r_divW sz' ?_
        walk_at "rd"
        refine ⟨some (.int (m : Int)), some (.int z), v8, ?_, put _, ?_⟩
        · rw [dm]; rfl
        · rw [dm, upd_same, List.map_append]; rfl
      · have ds : dStep c sp m z (dAt c sp zs m).2 = (numF c sp m z % z, (dAt c sp zs m).2) := by unfold dStep; rw [if_neg gd]
        rw [ds] at dm
        have two : decide (10 ^ (18 : Int).toNat ≤ c) = false ∨ (decide (10 ^ (18 : Int).toNat ≤ c) = true ∧ decide (0 < (dAt c sp zs m).2) = false) := by
          by_cases c18 : 10 ^ 18 ≤ c
          · exact .inr ⟨decide_eq_true c18, decide_eq_false fun z => gd ⟨c18, z⟩⟩
          · exact .inl (decide_eq_false c18)
        rcases two with h | ⟨h, h'⟩
        all_goals
          first
            | refine ifF h ?_
            | (refine ifT h ?_
               walk_at "rd"
               refine ifF h' ?_)
          walk_at "rd"
          refine ⟨c, _, rfl, ?_⟩
          walk_at "rd"
          have b0 := mixF_nn c (1009 * (sp : Int) + (m : Int))
          have b1 := mixF_lt c (1009 * (sp : Int) + (m : Int))
          refine r_cut (fun σ' H' => σ' = [some (.ref l), some (.int (sp : Int)), some (.ref zl), some (.int c), some (.int (dAt c sp zs m).2), some (.ref D), some (.int (m : Int)), some (.int z), some (.int (numF c sp m z))] ∧ H3 = H') ?_ ?_
          · walk_at "rd"
            by_cases z8 : z > 10 ^ 8
            · refine ifT (decide_eq_true z8) ?_
              walk_at "rd"
              refine r_mulL (by omega) (by omega) ?_
              walk_at "rd"
              refine r_aug rfl ?_
              walk_at "rd"
              refine ⟨_, _, rfl, ?_⟩
              walk_at "rd"
              refine ⟨_, _, rfl, rfl, ?_⟩
              refine ⟨?_, rfl⟩
              unfold numF
              rw [if_pos z8]
              rfl
            · refine ifF (decide_eq_false z8) ?_
              refine ⟨?_, rfl⟩
              unfold numF
              rw [if_neg z8]
              rfl
          · rintro σ' H' ⟨rfl, rfl⟩
            walk_at "rd"
            refine r_bm ?_
            walk_at "rd"
            refine ⟨.inl ⟨rfl, _, SqL.of hD3⟩, ?_⟩
            walk_at "rd"
            refine r_mod sz'.1 ?_
            walk_at "rd"
            refine ⟨D, _, _, rfl, rfl, hD3, lD, ?_⟩
            refine ⟨some (.int (m : Int)), some (.int z), some (.int (numF c sp m z)), ?_, put _, ?_⟩
            · rw [dm]
            · rw [dm, upd_same, List.map_append]; rfl
    · rintro σ H2 ⟨v6, v7, v8, rfl, s2, hD2⟩
      rw [List.length_map] at hD2
      walk_at "rd"
      refine kk D H2 s2 nD ?_
      rw [hD2, ec]
      rfl
end
end Pk
set_option Elab.async false
set_option linter.all false
set_option maxRecDepth 100000
set_option maxHeartbeats 4000000
namespace Pk
open PySem L2
local macro_rules | `(tactic| walk_at "rd") => `(tactic| repeat (first
  | with_reducible refine r_seq ?_ | with_reducible refine r_nxt ?_ | with_reducible refine r_asg ?_ | with_reducible refine r_to ?_ | with_reducible refine r_ret ?_ | with_reducible refine r_for ?_ | with_reducible refine r_lc ?_ | with_reducible refine r_lc2 ?_ | with_reducible refine r_rng1 ?_ | with_reducible refine r_list ?_ | with_reducible refine r_tupI ?_ | with_reducible refine r_drop ?_ | with_reducible refine r_ifs ?_
  | with_reducible refine r_op ?_ | with_reducible refine r_c ?_ | with_reducible refine r_var rfl ?_ | with_reducible refine r_var (by assumption) ?_ | with_reducible refine r_I0 ?_ | with_reducible refine r_un ?_ | with_reducible refine r_U ?_ | with_reducible refine r_make ?_ | with_reducible refine r_makeS ?_ | with_reducible refine r_ifE ?_ | with_reducible refine r_cm ?_ | with_reducible refine r_mkV rfl ?_ | with_reducible refine r_sub ?_
  | with_reducible refine r_nil ?_ | with_reducible refine r_cons ?_ | with_reducible refine r_cb ?_ | with_reducible refine r_sl ?_ | with_reducible refine r_noP ?_ | with_reducible refine r_part ?_ | with_reducible refine r_isI ?_ | with_reducible refine r_lst ?_ | with_reducible refine r_tup ?_ | with_reducible refine r_call ?_ | with_reducible refine r_callS ?_ | with_reducible refine r_sFldU ?_ | with_reducible refine r_chain ?_ | with_reducible refine r_enum ?_ | with_reducible refine r_zip ?_ | with_reducible refine r_rng3 ?_ | with_reducible refine r_gtup ?_ | with_reducible refine r_methU ?_
  | with_reducible refine r_test ?_ | with_reducible refine r_B ?_ | with_reducible refine r_and ?_ | with_reducible refine r_or ?_ | with_reducible refine r_not ?_ | with_reducible refine r_andV ?_ | with_reducible refine r_orV ?_ | with_reducible refine r_notV ?_ | with_reducible refine r_bl ?_ | with_reducible refine r_yes ?_ | with_reducible refine r_int ?_ | with_reducible refine r_is0 ?_ | with_reducible refine r_is1 ?_ | with_reducible refine iteT ?_ | with_reducible refine iteF ?_ | with_reducible refine ite_nF ?_ | with_reducible refine ite_nT ?_
  | with_reducible refine r_mod (by decide) ?_ | with_reducible refine r_div (by decide) (by decide) ?_ | with_reducible refine r_mulR (by decide) (by decide) ?_ | with_reducible refine r_mulL (by decide) (by decide) ?_ | with_reducible refine r_pow (by decide) (by decide) (by decide) ?_))
/-! ### the law's own sameness, by zip -/
def spSame2 (K : PySem.W.Frag) (n : Nat) : Sp := fun vs H Q _ => ∃ (a b : V) (d : PyData), vs = [a, b] ∧ Dp K H a d ∧ Dp K H b d ∧ Deep n d ∧ ∀ H' : Hp, Same H H' → Q (.bl true) H'
abbrev slSame : Stmt := top 25
theorem r_zipA {K : PySem.W.Frag} {ta : TA} {σ : L2.St} {H : Hp} {R : It → Hp → Prop} (h : ta σ H fun vs H1 => ∃ a b xs ys, vs = [.ref a, .ref b] ∧ ((SqL K H1 a xs ∧ SqL K H1 b ys ∧ R (Itz K a b) H1) ∨ (SqT K H1 a xs ∧ SqT K H1 b ys ∧ R (RZ.ItzT K a b) H1))) : RZ.iZipA K ta σ H R := h
theorem walk_zipT {K : PySem.W.Frag} {a b : Addr} {xs ys : List V} {n : Nat} (hn : n = min xs.length ys.length) : Walk (RZ.ItzT K a b) n (fun H => SqT K H a xs ∧ SqT K H b ys) (YPair (fun i => xs[i]?) (fun i => ys[i]?)) := by
  subst hn
  refine ⟨fun i _ hi q => ?_, fun _ q => ⟨xs, ys, q.1, q.2, by omega⟩, fun i H v H' _ q y => ?_⟩
  · have h1 : i < xs.length := by omega
    have h2 : i < ys.length := by omega
    exact ⟨xs, ys, xs[i], ys[i], q.1, q.2, by simp [h1], by simp [h2]⟩
  · obtain ⟨T, x, z, h1, h2, h3, h4, h5⟩ := y
    exact ⟨T, x, z, h1, h2, h3, h4 xs q.1, h5 ys q.2⟩
section
variable {P : Program} {w : World} {K : PySem.W.Frag} {mg : Str → Option Value} {base : Heap}
theorem sclSame : FnScope ["_law_actual", "_law_due", "_law_plain", "_law_one", "_law_other"] ["_law_actual", "_law_due"] (defScope slSame) := ⟨rfl, rfl, rfl, by decide +kernel, rfl, by decide +kernel, by decide +kernel⟩
theorem ok_same2 {f : Addr} {fd : FuncData} (F : Fun K "_law_same" "_law_same" slSame f fd) (T : Bt mg) (me : mg "_law_same" = some (.ref f)) : ∀ n : Nat, FnOk P w K mg base CX0 (n + 1) f fd ["_law_actual", "_law_due"] (spSame2 K n)
  | n => by
    have G : ∀ m, n = m + 1 → FnOk P w K mg base CX0 (m + 1) f fd ["_law_actual", "_law_due"] (spSame2 K m) := fun m e => by
      subst e
      exact ok_same2 F T me m
    have b : Binds K fd ["_law_actual", "_law_due"] [] := F.binds fun _ _ _ _ _ _ us hl => match us, hl with | [_, _], _ => rfl
    refine F.ok sclSame (fun vs H Q E h => ?_) (fun cdv A outer s H vs Q E hr h => ?_)
    · obtain ⟨v, d, d', rfl, _⟩ := h
      rfl
    · obtain ⟨x, y, d, rfl, hx, hy, hd, k⟩ := h
      have kk := k H (Same.refl H)
      obtain ⟨u, hu, ru⟩ : ∃ u : TS, PSs (cxOf CX0 P w K mg base ["_law_actual", "_law_due", "_law_plain", "_law_one", "_law_other"] "_law_same" (defScope slSame) f cdv A outer s H E).nox ((defBody slSame).drop 6) u ∧
          (∀ (p q : Addr) (xs ys : List V) (ds : List PyData), x = .ref p → y = .ref q → ((SqL K H p xs ∧ SqL K H q ys ∧ d = .list ds) ∨ (SqT K H p xs ∧ SqT K H q ys ∧ d = .tuple ds)) → DpAll K H xs ds → DpAll K H ys ds →
            u { nx := fun _ H' => Q .non H', rt := Q } [some x, some y, none, none, none] H) := by
        cases hd with
        | non => exact ⟨_, pss_never, fun p q xs ys ds e _ h => by cases hx; cases e⟩
        | bl b => exact ⟨_, pss_never, fun p q xs ys ds e _ h => by cases hx; cases e⟩
        | int i => exact ⟨_, pss_never, fun p q xs ys ds e _ h => by cases hx; cases e⟩
        | str z => exact ⟨_, pss_never, fun p q xs ys ds e _ h => by cases hx; cases e⟩
        | @lst n ds hds hz =>
          refine ⟨_, pss_cons (ps_if (pt_cmpR op_ne (pe_callB cl_len (by rfl) T.len PySem.boot_len (pa_cons (pv 0) pa_nil)) (pe_callB cl_len (by rfl) T.len PySem.boot_len (pa_cons (pv 1) pa_nil)) (nomark _)) (pss_one (ps_ret pe_bl)) pss_nil)
            (pss_cons (ps_for PassesOwn.never rfl (RZ.pi_zipA (by rfl) T.zip (pa_cons (pv 0) (pa_cons (pv 1) pa_nil))) (pg_tup (by rfl) (pgs_cons (pg_name (i := 3) sclSame.nd rfl (Or.inl rfl)) (pgs_cons (pg_name (i := 4) sclSame.nd rfl (Or.inl rfl)) pgs_nil)))
              (pss_one (ps_if (pt_not (pt_val (pe_call (G _ rfl) hr rfl me F.kp b .nil pass0 (pa_cons (pv 3) (pa_cons (pv 4) pa_nil))))) (pss_one (ps_ret pe_bl)) pss_nil)))
            (pss_one (ps_ret pe_bl))), ?_⟩
          intro p q xs ys ds' e1 e2 h hA hB
          rcases h with ⟨hX, hY, e⟩ | ⟨_, _, e⟩
          · have ed := PyData.list.inj e
            subst ed e1 e2
            have l1 := dpAll_len hA
            have l2 := dpAll_len hB
            walk_at "rd"
            refine r_lenL hX ?_
            walk_at "rd"
            refine r_lenL hY ?_
            refine r_ne rfl ?_
            walk_at "rd"
            refine ite_no (fun _ => ?_) (fun h => absurd (by rw [l1, l2]) h)
            walk_at "rd"
            refine r_zipA ?_
            walk_at "rd"
            refine ⟨p, q, xs, ys, rfl, .inl ⟨hX, hY, for_it (walk_zip rfl) (fun i σ H' => Same H H' ∧ ∃ v3 v4 : Option V, σ = [some (.ref p), some (.ref q), none, v3, v4]) ⟨Same.refl H, none, none, rfl⟩ (fun i σ H' _ z => ⟨z.1.seq hX, z.1.seq hY⟩) ?_ ?_⟩⟩
            · rintro i y0 σ H1 H2 hi ⟨s1, v3, v4, rfl⟩ ⟨t, u1, u2, rfl, ht, rfl, e1, e2⟩
              obtain ⟨dx, hdx, hdX⟩ := dpAll_at (i := i) hA e1
              obtain ⟨dy, hdy, hdY⟩ := dpAll_at (i := i) hB e2
              have ee : dx = dy := Option.some.inj (hdx.symm.trans hdy)
              subst ee
              have s2 := Same.up (o := .tup [u1, u2]) s1 ht
              refine r_gtup ⟨t, _, rfl, SqT.of upd_same, rfl, _, _, rfl, ?_⟩
              walk_at "rd"
              refine ⟨_, _, rfl, ?_⟩
              walk_at "rd"
              refine ⟨rfl, ?_⟩
              walk_at "rd"
              refine ⟨u1, u2, dx, rfl, Dp.later s2 hdX, Dp.later s2 hdY, hds _ (List.mem_of_getElem? hdx), fun H4 s4 => ?_⟩
              walk_at "rd"
              exact ⟨s2.trans s4, _, _, rfl⟩
            · rintro σ H1 ⟨s1, v3, v4, rfl⟩
              walk_at "rd"
              exact k _ s1
          · cases e
        | @tup n ds hds hz =>
          refine ⟨_, pss_cons (ps_if (pt_cmpR op_ne (pe_callB cl_len (by rfl) T.len PySem.boot_len (pa_cons (pv 0) pa_nil)) (pe_callB cl_len (by rfl) T.len PySem.boot_len (pa_cons (pv 1) pa_nil)) (nomark _)) (pss_one (ps_ret pe_bl)) pss_nil)
            (pss_cons (ps_for PassesOwn.never rfl (RZ.pi_zipA (by rfl) T.zip (pa_cons (pv 0) (pa_cons (pv 1) pa_nil))) (pg_tup (by rfl) (pgs_cons (pg_name (i := 3) sclSame.nd rfl (Or.inl rfl)) (pgs_cons (pg_name (i := 4) sclSame.nd rfl (Or.inl rfl)) pgs_nil)))
              (pss_one (ps_if (pt_not (pt_val (pe_call (G _ rfl) hr rfl me F.kp b .nil pass0 (pa_cons (pv 3) (pa_cons (pv 4) pa_nil))))) (pss_one (ps_ret pe_bl)) pss_nil)))
            (pss_one (ps_ret pe_bl))), ?_⟩
          intro p q xs ys ds' e1 e2 h hA hB
          rcases h with ⟨_, _, e⟩ | ⟨hX, hY, e⟩
          · cases e
          · have ed := PyData.tuple.inj e
            subst ed e1 e2
            have l1 := dpAll_len hA
            have l2 := dpAll_len hB
            walk_at "rd"
            refine r_lenT hX ?_
            walk_at "rd"
            refine r_lenT hY ?_
            refine r_ne rfl ?_
            walk_at "rd"
            refine ite_no (fun _ => ?_) (fun h => absurd (by rw [l1, l2]) h)
            walk_at "rd"
            refine r_zipA ?_
            walk_at "rd"
            refine ⟨p, q, xs, ys, rfl, .inr ⟨hX, hY, for_it (walk_zipT rfl) (fun i σ H' => Same H H' ∧ ∃ v3 v4 : Option V, σ = [some (.ref p), some (.ref q), none, v3, v4]) ⟨Same.refl H, none, none, rfl⟩ (fun i σ H' _ z => ⟨(SameD.of z.1).seqT hX, (SameD.of z.1).seqT hY⟩) ?_ ?_⟩⟩
            · rintro i y0 σ H1 H2 hi ⟨s1, v3, v4, rfl⟩ ⟨t, u1, u2, rfl, ht, rfl, e1, e2⟩
              obtain ⟨dx, hdx, hdX⟩ := dpAll_at (i := i) hA e1
              obtain ⟨dy, hdy, hdY⟩ := dpAll_at (i := i) hB e2
              have ee : dx = dy := Option.some.inj (hdx.symm.trans hdy)
              subst ee
              have s2 := Same.up (o := .tup [u1, u2]) s1 ht
              refine r_gtup ⟨t, _, rfl, SqT.of upd_same, rfl, _, _, rfl, ?_⟩
              walk_at "rd"
              refine ⟨_, _, rfl, ?_⟩
              walk_at "rd"
              refine ⟨rfl, ?_⟩
              walk_at "rd"
              refine ⟨u1, u2, dx, rfl, Dp.later s2 hdX, Dp.later s2 hdY, hds _ (List.mem_of_getElem? hdx), fun H4 s4 => ?_⟩
              walk_at "rd"
              exact ⟨s2.trans s4, _, _, rfl⟩
            · rintro σ H1 ⟨s1, v3, v4, rfl⟩
              walk_at "rd"
              exact k _ s1
      refine ⟨_, pss_cons (ps_if (pt_cmpR op_is0 (pv 1) pe_non (nomark _)) (pss_one (ps_ret (pe_cmpR op_is0 (pv 0) pe_non (nomark _)))) pss_nil)
        (pss_cons (ps_if (pt_val (pe_callB call_isi (by rfl) T.isinstance (by decide +kernel) (pa_cons (pv 1) (pa_cons (pe_bltn (v := .ty "bool") (by rfl) T.bool (by decide +kernel) rfl) pa_nil)))) (pss_one (ps_ret (pe_and (pe_callB call_isi (by rfl) T.isinstance (by decide +kernel) (pa_cons (pv 0) (pa_cons (pe_bltn (v := .ty "bool") (by rfl) T.bool (by decide +kernel) rfl) pa_nil))) (pe_one (pe_cmpR op_eq (pv 0) (pv 1) (nomark _)))))) pss_nil)
        (pss_cons (ps_if (pt_val (pe_callB call_isi (by rfl) T.isinstance (by decide +kernel) (pa_cons (pv 1) (pa_cons (pe_bltn (v := .ty "int") (by rfl) T.int (by decide +kernel) rfl) pa_nil)))) (pss_cons (ps_set (i := 2) sclSame.nd rfl (Or.inl rfl) (pe_and (pe_callB call_isi (by rfl) T.isinstance (by decide +kernel) (pa_cons (pv 0) (pa_cons (pe_bltn (v := .ty "int") (by rfl) T.int (by decide +kernel) rfl) pa_nil))) (pe_one (pe_not (pe_callB call_isi (by rfl) T.isinstance (by decide +kernel) (pa_cons (pv 0) (pa_cons (pe_bltn (v := .ty "bool") (by rfl) T.bool (by decide +kernel) rfl) pa_nil))))))) (pss_one (ps_ret (pe_and (pv 2) (pe_one (pe_cmpR op_eq (pv 0) (pv 1) (nomark _))))))) pss_nil)
        (pss_cons (ps_if (pt_val (pe_callB call_isi (by rfl) T.isinstance (by decide +kernel) (pa_cons (pv 1) (pa_cons (pe_bltn (v := .ty "str") (by rfl) T.str (by decide +kernel) rfl) pa_nil)))) (pss_one (ps_ret (pe_and (pe_callB call_isi (by rfl) T.isinstance (by decide +kernel) (pa_cons (pv 0) (pa_cons (pe_bltn (v := .ty "str") (by rfl) T.str (by decide +kernel) rfl) pa_nil))) (pe_one (pe_cmpR op_eq (pv 0) (pv 1) (nomark _)))))) pss_nil)
        (pss_cons (ps_if (PW.pt (pw_and (pt_val (pe_callB call_isi (by rfl) T.isinstance (by decide +kernel) (pa_cons (pv 1) (pa_cons (pe_bltn (v := .ty "list") (by rfl) T.list (by decide +kernel) rfl) pa_nil)))) (pw_and1 (pt_not (pt_val (pe_callB call_isi (by rfl) T.isinstance (by decide +kernel) (pa_cons (pv 0) (pa_cons (pe_bltn (v := .ty "list") (by rfl) T.list (by decide +kernel) rfl) pa_nil)))))))) (pss_one (ps_ret pe_bl)) pss_nil)
        (pss_cons (ps_if (PW.pt (pw_and (pt_val (pe_callB call_isi (by rfl) T.isinstance (by decide +kernel) (pa_cons (pv 1) (pa_cons (pe_bltn (v := .ty "tuple") (by rfl) T.tuple (by decide +kernel) rfl) pa_nil)))) (pw_and1 (pt_not (pt_val (pe_callB call_isi (by rfl) T.isinstance (by decide +kernel) (pa_cons (pv 0) (pa_cons (pe_bltn (v := .ty "tuple") (by rfl) T.tuple (by decide +kernel) rfl) pa_nil)))))))) (pss_one (ps_ret pe_bl)) pss_nil)
        hu))))), ?_⟩
      cases hd with
      | non =>
        cases hx; cases hy
        walk_at "rd"
        refine ite_dec (fun _ => ?_) (fun h => absurd rfl h)
        walk_at "rd"
        exact kk
      | bl b =>
        cases hx; cases hy
        walk_at "rd"
        refine ite_dec (fun h => by cases h) (fun _ => ?_)
        walk_at "rd"
        refine r_isi (.base (.bl b)) (by decide +kernel : kitB "bool" "bool" = some true) ?_
        walk_at "rd"
        refine r_isi (.base (.bl b)) (by decide +kernel : kitB "bool" "bool" = some true) ?_
        walk_at "rd"
        exact r_eqT (by rfl) kk
      | int i =>
        cases hx; cases hy
        walk_at "rd"
        refine ite_dec (fun h => by cases h) (fun _ => ?_)
        walk_at "rd"
        refine r_isi (.base (.int i)) (by decide +kernel : kitB "int" "bool" = some false) ?_
        walk_at "rd"
        refine r_isi (.base (.int i)) (by decide +kernel : kitB "int" "int" = some true) ?_
        walk_at "rd"
        refine r_isi (.base (.int i)) (by decide +kernel : kitB "int" "int" = some true) ?_
        walk_at "rd"
        refine r_isi (.base (.int i)) (by decide +kernel : kitB "int" "bool" = some false) ?_
        walk_at "rd"
        exact r_eqT (by rfl) kk
      | str z =>
        cases hx; cases hy
        walk_at "rd"
        refine ite_dec (fun h => by cases h) (fun _ => ?_)
        walk_at "rd"
        refine r_isi (.base (.str z)) (by decide +kernel : kitB "str" "bool" = some false) ?_
        walk_at "rd"
        refine r_isi (.base (.str z)) (by decide +kernel : kitB "str" "int" = some false) ?_
        walk_at "rd"
        refine r_isi (.base (.str z)) (by decide +kernel : kitB "str" "str" = some true) ?_
        walk_at "rd"
        refine r_isi (.base (.str z)) (by decide +kernel : kitB "str" "str" = some true) ?_
        walk_at "rd"
        exact r_eqT (by rfl) kk
      | @lst n ds hds hz =>
        have tx : TyX K H x (.type "list") := Dp.kind hx
        have ty : TyX K H y (.type "list") := Dp.kind hy
        cases hx with
        | @lst p xs _ hX hA =>
          cases hy with
          | @lst q ys _ hY hB =>
            walk_at "rd"
            refine ite_dec (fun h => by cases h) (fun _ => ?_)
            walk_at "rd"
            refine r_isi ty (by decide +kernel : kitB "list" "bool" = some false) ?_
            walk_at "rd"
            refine r_isi ty (by decide +kernel : kitB "list" "int" = some false) ?_
            walk_at "rd"
            refine r_isi ty (by decide +kernel : kitB "list" "str" = some false) ?_
            walk_at "rd"
            refine r_isi ty (by decide +kernel : kitB "list" "list" = some true) ?_
            walk_at "rd"
            refine r_isi tx (by decide +kernel : kitB "list" "list" = some true) ?_
            walk_at "rd"
            refine r_isi ty (by decide +kernel : kitB "list" "tuple" = some false) ?_
            walk_at "rd"
            exact ru p q xs ys ds rfl rfl (.inl ⟨hX, hY, rfl⟩) hA hB
      | @tup n ds hds hz =>
        have tx : TyX K H x (.type "tuple") := Dp.kind hx
        have ty : TyX K H y (.type "tuple") := Dp.kind hy
        cases hx with
        | @tup p xs _ hX hA =>
          cases hy with
          | @tup q ys _ hY hB =>
            walk_at "rd"
            refine ite_dec (fun h => by cases h) (fun _ => ?_)
            walk_at "rd"
            refine r_isi ty (by decide +kernel : kitB "tuple" "bool" = some false) ?_
            walk_at "rd"
            refine r_isi ty (by decide +kernel : kitB "tuple" "int" = some false) ?_
            walk_at "rd"
            refine r_isi ty (by decide +kernel : kitB "tuple" "str" = some false) ?_
            walk_at "rd"
            refine r_isi ty (by decide +kernel : kitB "tuple" "list" = some false) ?_
            walk_at "rd"
            refine r_isi ty (by decide +kernel : kitB "tuple" "tuple" = some true) ?_
            walk_at "rd"
            refine r_isi tx (by decide +kernel : kitB "tuple" "tuple" = some true) ?_
            walk_at "rd"
            exact ru p q xs ys ds rfl rfl (.inr ⟨hX, hY, rfl⟩) hA hB
end
end Pk
set_option Elab.async false
set_option linter.all false
set_option maxRecDepth 100000
set_option maxHeartbeats 4000000
namespace Pk
open PySem L2
local macro_rules | `(tactic| walk_at "rd") => `(tactic| repeat (first
  | with_reducible refine r_seq ?_ | with_reducible refine r_nxt ?_ | with_reducible refine r_asg ?_ | with_reducible refine r_to ?_ | with_reducible refine r_ret ?_ | with_reducible refine r_for ?_ | with_reducible refine r_lc ?_ | with_reducible refine r_lc2 ?_ | with_reducible refine r_rng1 ?_ | with_reducible refine r_list ?_ | with_reducible refine r_tupI ?_ | with_reducible refine r_drop ?_ | with_reducible refine r_ifs ?_
  | with_reducible refine r_op ?_ | with_reducible refine r_c ?_ | with_reducible refine r_var rfl ?_ | with_reducible refine r_var (by assumption) ?_ | with_reducible refine r_I0 ?_ | with_reducible refine r_un ?_ | with_reducible refine r_U ?_ | with_reducible refine r_make ?_ | with_reducible refine r_makeS ?_ | with_reducible refine r_ifE ?_ | with_reducible refine r_cm ?_ | with_reducible refine r_mkV rfl ?_ | with_reducible refine r_sub ?_
  | with_reducible refine r_nil ?_ | with_reducible refine r_cons ?_ | with_reducible refine r_cb ?_ | with_reducible refine r_sl ?_ | with_reducible refine r_noP ?_ | with_reducible refine r_part ?_ | with_reducible refine r_isI ?_ | with_reducible refine r_lst ?_ | with_reducible refine r_tup ?_ | with_reducible refine r_call ?_ | with_reducible refine r_callS ?_ | with_reducible refine r_sFldU ?_ | with_reducible refine r_chain ?_ | with_reducible refine r_enum ?_ | with_reducible refine r_zip ?_ | with_reducible refine r_rng3 ?_ | with_reducible refine r_gtup ?_ | with_reducible refine r_methU ?_
  | with_reducible refine r_test ?_ | with_reducible refine r_B ?_ | with_reducible refine r_and ?_ | with_reducible refine r_or ?_ | with_reducible refine r_not ?_ | with_reducible refine r_andV ?_ | with_reducible refine r_orV ?_ | with_reducible refine r_notV ?_ | with_reducible refine r_bl ?_ | with_reducible refine r_yes ?_ | with_reducible refine r_int ?_ | with_reducible refine r_is0 ?_ | with_reducible refine r_is1 ?_ | with_reducible refine iteT ?_ | with_reducible refine iteF ?_ | with_reducible refine ite_nF ?_ | with_reducible refine ite_nT ?_
  | with_reducible refine r_mod (by decide) ?_ | with_reducible refine r_div (by decide) (by decide) ?_ | with_reducible refine r_mulR (by decide) (by decide) ?_ | with_reducible refine r_mulL (by decide) (by decide) ?_ | with_reducible refine r_pow (by decide) (by decide) (by decide) ?_))
/-! ### words of prices, rows and tables as texts -/
open _root_.TL PySem.StrLaws
def numW (i : Int) : Str := Str.ofString (toString i)
def prW : Option Int → Str
  | none => "-"
  | some i => numW i
def PrB (a : Option Int) : Prop := ∀ i, a = some i → -(10 ^ 60) < i ∧ i < 10 ^ 60
theorem tl_nn (n : Nat) : tl (numW (n : Int)) = numL n := tl_num n
theorem tl_neg (m : Nat) : tl (numW (Int.negSucc m)) = 45 :: numL (m + 1) := by
  have e : toString (Int.negSucc m) = "-" ++ toString (((m + 1 : Nat)) : Int) := rfl
  unfold numW
  rw [e, tl_ofString, String.toList_append, List.map_append, ← tl_ofString, ← tl_ofString, tl_num]
  rfl
theorem num_cases (i : Int) : (∃ n : Nat, i = (n : Int) ∧ tl (numW i) = numL n) ∨ ∃ m : Nat, i = -((m + 1 : Nat) : Int) ∧ tl (numW i) = 45 :: numL (m + 1) := by
  cases i with
  | ofNat n => exact .inl ⟨n, rfl, tl_nn n⟩
  | negSucc m => exact .inr ⟨m, rfl, tl_neg m⟩
def digL : List Nat := [48, 49, 50, 51, 52, 53, 54, 55, 56, 57]
theorem dig_tl : tl ("0123456789" : Str) = digL := by decide +kernel
theorem dig_in {c : Nat} (h : 48 ≤ c ∧ c ≤ 57) : c ∈ digL := by
  unfold digL
  simp only [List.mem_cons, List.not_mem_nil, or_false]
  omega
def amtB (x : Str) : Bool := decide (1 ≤ (tl x).length) && decide ((tl x).length ≤ 60) && ((tl x).all fun c => decide (c ∈ digL)) && (decide (x = "0") || !decide ((tl x)[0]? = some 48))
def intB (x : Str) : Bool := if (tl x)[0]? = some 45 then !decide (x = "-0") && amtB (cutS x (some 1) none) else amtB x
theorem numL_head : ∀ n : Nat, n ≠ 0 → (numL n)[0]? ≠ some 48 := fun n => by
  induction n using Nat.strongRecOn with
  | ind n ih =>
    intro h
    by_cases c : n < 10
    · rw [numL_lt c]
      intro z
      have z := Option.some.inj z
      omega
    · rw [numL_step (by omega)]
      have h1 := numL_ne (n / 10)
      have l1 : 0 < (numL (n / 10)).length := List.length_pos_iff.mpr h1
      rw [List.getElem?_append_left l1]
      exact ih (n / 10) (by omega) (by omega)
theorem numL_amt {x : Str} {n : Nat} (e : tl x = numL n) (h : n < 10 ^ 60) : amtB x = true := by
  unfold amtB
  rw [e, decide_eq_true (show 1 ≤ (numL n).length from List.length_pos_iff.mpr (numL_ne n)), decide_eq_true (numL_len (by decide) h)]
  have a : ((numL n).all fun c => decide (c ∈ digL)) = true := List.all_eq_true.mpr fun c hc => decide_eq_true (dig_in (numL_digits n c hc))
  rw [a]
  by_cases c : n = 0
  · subst c
    have : x = "0" := ext_tl (by rw [e]; decide +kernel)
    rw [decide_eq_true this]; rfl
  · rw [decide_eq_false (numL_head n c)]
    cases decide (x = "0") <;> rfl
theorem tl_cut1 (x : Str) (h : 1 ≤ (tl x).length) : tl (cutS x (some 1) none) = (tl x).drop 1 := by
  have hl : x.length = (tl x).length := len_tl x
  unfold cutS
  rw [tl_mk]
  show List.take (HT.sIx x.length x.length none - HT.sIx x.length 0 (some ((1 : Nat) : Int))) ((tl x).drop (HT.sIx x.length 0 (some ((1 : Nat) : Int)))) = _
  rw [HT.sIx_nat, Nat.min_eq_left (by omega)]
  show List.take (x.length - 1) _ = _
  rw [List.take_of_length_le (by rw [List.length_drop]; omega)]
theorem numW_int {i : Int} (h : -(10 ^ 60) < i ∧ i < 10 ^ 60) : intB (numW i) = true := by
  unfold intB
  rcases num_cases i with ⟨n, ei, e⟩ | ⟨m, ei, e⟩
  · have n45 : ¬ (tl (numW i))[0]? = some 45 := by
      rw [e]
      intro z
      have := numL_digits n 45 (List.mem_of_getElem? z)
      omega
    rw [if_neg n45]
    refine numL_amt e ?_
    have := h.2
    rw [ei] at this
    have c : ((10 ^ 60 : Nat) : Int) = (10 : Int) ^ 60 := by decide +kernel
    omega
  · have s45 : (tl (numW i))[0]? = some 45 := by rw [e]; rfl
    rw [if_pos s45]
    have d1 : tl (cutS (numW i) (some 1) none) = numL (m + 1) := by
      rw [tl_cut1 _ (by rw [e]; simp), e]; rfl
    have lt : m + 1 < 10 ^ 60 := by
      have := h.1
      rw [ei] at this
      have c : ((10 ^ 60 : Nat) : Int) = (10 : Int) ^ 60 := by decide +kernel
      omega
    rw [numL_amt d1 lt]
    have : numW i ≠ "-0" := fun z => by
      have e0 : tl ("-0" : Str) = [45, 48] := by decide +kernel
      rw [z, e0] at e
      have e := (List.cons.inj e).2
      exact numL_head (m + 1) (by omega) (by rw [← e]; rfl)
    rw [decide_eq_false this]; rfl
theorem numW_len {i : Int} (h : -(10 ^ 60) < i ∧ i < 10 ^ 60) : (tl (numW i)).length ≤ 61 := by
  have c : ((10 ^ 60 : Nat) : Int) = (10 : Int) ^ 60 := by decide +kernel
  rcases num_cases i with ⟨n, ei, e⟩ | ⟨m, ei, e⟩
  · rw [e]
    have := numL_len (n := n) (k := 60) (by decide) (by omega)
    omega
  · rw [e, List.length_cons]
    have := numL_len (n := m + 1) (k := 60) (by decide) (by omega)
    omega
theorem numW_text {i : Int} (h : -(10 ^ 60) < i ∧ i < 10 ^ 60) : PySem.intText? (numW i) = some i := by
  have l := numW_len h
  have hl : (numW i).length ≤ 4300 := by rw [len_tl]; omega
  rcases num_cases i with ⟨n, ei, e⟩ | ⟨m, ei, e⟩
  · have := PySem.intText_digits (x := numW i) (by show PySem.NumText.AllDigits (tl _); rw [e]; exact numL_digits n) (by show tl _ ≠ []; rw [e]; exact numL_ne n) hl
    rw [this]
    show some ((PySem.NumText.digitsVal (tl (numW i)) : Nat) : Int) = _
    rw [e, numL_val, ei]
  · have := PySem.intText_neg (x := numW i) (cs := numL (m + 1)) e (numL_digits _) (numL_ne _) hl
    rw [this, numL_val, ei]
theorem numW_ne (i : Int) : numW i ≠ "-" := fun z => by
  have e0 : tl ("-" : Str) = [45] := by decide +kernel
  rcases num_cases i with ⟨n, _, e⟩ | ⟨m, _, e⟩
  · rw [z, e0] at e
    have := numL_digits n 45 (by rw [← e]; exact List.mem_singleton.mpr rfl)
    omega
  · rw [z, e0] at e
    exact numL_ne _ (List.cons.inj e).2.symm
theorem prW_free {s : Nat} (h : s < 45) (a : Option Int) : s ∉ tl (prW a) := by
  cases a with
  | none =>
    have e0 : tl (prW none) = [45] := by decide +kernel
    rw [e0]
    intro z
    have := List.mem_singleton.mp z
    omega
  | some i =>
    show s ∉ tl (numW i)
    rcases num_cases i with ⟨n, _, e⟩ | ⟨m, _, e⟩
    · rw [e]; exact numL_free (.inl (by omega))
    · rw [e]
      intro z
      rcases List.mem_cons.mp z with z | z
      · omega
      · exact numL_free (.inl (by omega)) z
theorem prW_len {a : Option Int} (h : PrB a) : (tl (prW a)).length ≤ 61 := by
  cases a with
  | none =>
    have e0 : tl (prW none) = [45] := by decide +kernel
    rw [e0]; decide
  | some i => exact numW_len (h i rfl)
/-! ### joined, split -/
theorem joinL_free {s : Nat} {S : List Nat} (hs : s ∉ S) : ∀ ps : List (List Nat), (∀ p, p ∈ ps → s ∉ p) → s ∉ joinL S ps
  | [], _ => fun z => by cases z
  | [p], h => h p (List.mem_singleton.mpr rfl)
  | p :: q :: r, h => fun z => by
    have z : s ∈ p ++ (S ++ joinL S (q :: r)) := z
    rcases List.mem_append.mp z with z | z
    · exact h p (List.mem_cons_self ..) z
    · rcases List.mem_append.mp z with z | z
      · exact hs z
      · exact joinL_free hs (q :: r) (fun x hx => h x (List.mem_cons_of_mem _ hx)) z
theorem joinL_len {S : List Nat} {b : Nat} : ∀ ps : List (List Nat), (∀ p, p ∈ ps → p.length ≤ b) → (joinL S ps).length ≤ ps.length * (b + S.length)
  | [], _ => Nat.zero_le _
  | [p], h => by
    have := h p (List.mem_singleton.mpr rfl)
    show p.length ≤ 1 * _
    omega
  | p :: q :: r, h => by
    have h1 := h p (List.mem_cons_self ..)
    have h2 := joinL_len (S := S) (q :: r) fun x hx => h x (List.mem_cons_of_mem _ hx)
    show (p ++ (S ++ joinL S (q :: r))).length ≤ _
    rw [List.length_append, List.length_append, List.length_cons, Nat.succ_mul]
    omega
theorem tl_sp : tl (" " : Str) = [32] := by decide +kernel
theorem tl_nl : tl ("\n" : Str) = [10] := by decide +kernel
theorem sum_le {B : Nat} : ∀ ys : List Str, (∀ y, y ∈ ys → (tl y).length ≤ B) → (ys.map (·.length)).sum ≤ ys.length * B
  | [], _ => Nat.zero_le _
  | y :: ys, h => by
    have h1 := h y (List.mem_cons_self ..)
    have h2 := sum_le ys fun z hz => h z (List.mem_cons_of_mem _ hz)
    rw [List.map_cons, List.sum_cons, List.length_cons, Nat.succ_mul, len_tl y]
    omega
end Pk
set_option Elab.async false
set_option linter.all false
set_option maxRecDepth 100000
set_option maxHeartbeats 4000000
namespace Pk
open PySem L2
local macro_rules | `(tactic| walk_at "rd") => `(tactic| repeat (first
  | with_reducible refine r_seq ?_ | with_reducible refine r_nxt ?_ | with_reducible refine r_asg ?_ | with_reducible refine r_to ?_ | with_reducible refine r_ret ?_ | with_reducible refine r_for ?_ | with_reducible refine r_lc ?_ | with_reducible refine r_lc2 ?_ | with_reducible refine r_rng1 ?_ | with_reducible refine r_list ?_ | with_reducible refine r_tupI ?_ | with_reducible refine r_drop ?_ | with_reducible refine r_ifs ?_
  | with_reducible refine r_op ?_ | with_reducible refine r_c ?_ | with_reducible refine r_var rfl ?_ | with_reducible refine r_var (by assumption) ?_ | with_reducible refine r_I0 ?_ | with_reducible refine r_un ?_ | with_reducible refine r_U ?_ | with_reducible refine r_make ?_ | with_reducible refine r_makeS ?_ | with_reducible refine r_ifE ?_ | with_reducible refine r_cm ?_ | with_reducible refine r_mkV rfl ?_ | with_reducible refine r_sub ?_
  | with_reducible refine r_nil ?_ | with_reducible refine r_cons ?_ | with_reducible refine r_cb ?_ | with_reducible refine r_sl ?_ | with_reducible refine r_noP ?_ | with_reducible refine r_part ?_ | with_reducible refine r_isI ?_ | with_reducible refine r_lst ?_ | with_reducible refine r_tup ?_ | with_reducible refine r_call ?_ | with_reducible refine r_callS ?_ | with_reducible refine r_sFldU ?_ | with_reducible refine r_chain ?_ | with_reducible refine r_enum ?_ | with_reducible refine r_zip ?_ | with_reducible refine r_rng3 ?_ | with_reducible refine r_gtup ?_ | with_reducible refine r_methU ?_
  | with_reducible refine r_test ?_ | with_reducible refine r_B ?_ | with_reducible refine r_and ?_ | with_reducible refine r_or ?_ | with_reducible refine r_not ?_ | with_reducible refine r_andV ?_ | with_reducible refine r_orV ?_ | with_reducible refine r_notV ?_ | with_reducible refine r_bl ?_ | with_reducible refine r_yes ?_ | with_reducible refine r_int ?_ | with_reducible refine r_is0 ?_ | with_reducible refine r_is1 ?_ | with_reducible refine iteT ?_ | with_reducible refine iteF ?_ | with_reducible refine ite_nF ?_ | with_reducible refine ite_nT ?_
  | with_reducible refine r_mod (by decide) ?_ | with_reducible refine r_div (by decide) (by decide) ?_ | with_reducible refine r_mulR (by decide) (by decide) ?_ | with_reducible refine r_mulL (by decide) (by decide) ?_ | with_reducible refine r_pow (by decide) (by decide) (by decide) ?_))
/-! ### reading steps for texts -/
open _root_.TL
def rStrI : List V → Hp → VK → Prop := fun xs H Q => ∃ i, xs = [.int i] ∧ i.natAbs.log2 < 1920 ∧ Q (.str (numW i)) H
theorem cl_strI {X : Cx} : CallR X (.type "str") rStrI := call_str_int
def rIntS : List V → Hp → VK → Prop := fun xs H Q => ∃ a n, xs = [.str a] ∧ PySem.intText? a = some n ∧ a.length ≤ 640 ∧ Q (.int n) H
theorem cl_intS {X : Cx} : CallR X (.type "int") rIntS := call_int_str
def rInG : R2 := fun x y H Q => ∃ (c : Nat) (z : Str), x = .str ⟨#[c]⟩ ∧ y = .str z ∧ Q (.bl (decide (c ∈ z.cps.toList))) H
theorem op_inG {X : Cx} : OpR X (compareOp .In) rInG := op_in_sign
def rNiG : R2 := fun x y H Q => ∃ (c : Nat) (z : Str), x = .str ⟨#[c]⟩ ∧ y = .str z ∧ Q (.bl (!decide (c ∈ z.cps.toList))) H
theorem op_niG {X : Cx} : OpR X (compareOp .NotIn) rNiG := op_notIn_sign
def rAddG : R2 := fun x y H Q => ∃ i j, x = .str i ∧ y = .str j ∧ i.length + j.length ≤ sizeLine ∧ Q (.str (i ++ j)) H
theorem op_addG {X : Cx} : OpR X (binaryOp .Add) rAddG := op_add_str
def rLenS : List V → Hp → VK → Prop := fun xs H Q => ∃ z, xs = [.str z] ∧ z.length ≤ sizeLine ∧ Q (.int z.length) H
theorem cl_lenS {X : Cx} : CallR X (.builtin "len") rLenS := call_len_str
def rJoin (K : PySem.W.Frag) : V → List V → Hp → VK → Prop := fun x xs H Q => ∃ a p, ∃ ys : List Str, x = .str a ∧ xs = [.ref p] ∧ (SqL K H p (ys.map V.str) ∨ SqT K H p (ys.map V.str)) ∧ (ys.map (·.length)).sum + ys.length * a.length ≤ 16777216 ∧ Q (.str (Txt.join a ys)) H
theorem r_tM1 {r : V → List V → Hp → VK → Prop} {to te : TE} {σ : L2.St} {H : Hp} {Q : VK} (h : to σ H fun x H1 => (∃ a, x = .str a) ∧ te σ H1 fun y H2 => r x [y] H2 Q) : tM1 r to te σ H Q := h
theorem r_iStr {te : TE} {σ : L2.St} {H : Hp} {R : It → Hp → Prop} (h : te σ H fun v H1 => ∃ x, v = .str x ∧ R (Its x) H1) : iStr te σ H R := h
theorem walk_str {x : Str} : Walk (Its x) x.cps.size (fun _ => True) (fun i H v H' => H' = H ∧ ∃ c, x.cps[i]? = some c ∧ v = .str ⟨#[c]⟩) :=
  ⟨fun i _ hi _ => hi, fun _ _ => Nat.le_refl _, fun _ _ _ _ _ _ y => y⟩
def tJF (ts : List TE) : TE := fun σ H Q => tJs ts Str.empty σ H fun out H1 => Q (.str out) H1
theorem pe_jf {X : Cx} {v1 v2 : Expr} {rest : List Expr} {ts : List TE} {pos : Pos} (h : PJ X (v1 :: v2 :: rest) ts) : PE X (.JoinedStr (v1 :: v2 :: rest) pos) (tJF ts) := pe_joined h
/-- a value that is no text -/
def NotS (K : PySem.W.Frag) (H : Hp) (v : V) : Prop := ∃ T : String, TyX K H v (.type T) ∧ kitB T "str" = some false
/-! a text's parts -/
theorem spl_bd (S : List Nat) : ∀ (l : List Nat) (k : Nat) (acc : List Nat), (spl S k acc l).length ≤ l.length + 1 ∧ ∀ p, p ∈ spl S k acc l → p.length ≤ acc.length + l.length
  | [], k, acc => by
    rw [spl_nil]
    exact ⟨by simp, fun p hp => by rw [List.mem_singleton.mp hp]; simp⟩
  | c :: r, 0, acc => by
    by_cases h : pre S (c :: r) = true
    · rw [spl_hit h]
      obtain ⟨h1, h2⟩ := spl_bd S r (S.length - 1) []
      refine ⟨by rw [List.length_cons, List.length_cons]; omega, fun p hp => ?_⟩
      rcases List.mem_cons.mp hp with rfl | hp
      · omega
      · have := h2 p hp
        rw [List.length_cons]
        simp at this
        omega
    · rw [spl_miss (Bool.eq_false_iff.mpr h)]
      obtain ⟨h1, h2⟩ := spl_bd S r 0 (acc ++ [c])
      refine ⟨by rw [List.length_cons]; omega, fun p hp => ?_⟩
      have := h2 p hp
      rw [List.length_append] at this
      simp at this ⊢
      omega
  | c :: r, k + 1, acc => by
    show (spl S k acc r).length ≤ _ ∧ ∀ p, p ∈ spl S k acc r → _
    obtain ⟨h1, h2⟩ := spl_bd S r k acc
    refine ⟨by rw [List.length_cons]; omega, fun p hp => ?_⟩
    have := h2 p hp
    rw [List.length_cons]
    omega
theorem split_bd (x : Str) {y : Str} (hy : tl y ≠ []) (hk : y.cps.all (· < 256) = true) : (Txt.split x y).length ≤ (tl x).length + 1 ∧ ∀ w, w ∈ Txt.split x y → (tl w).length ≤ (tl x).length := by
  have e := split_spl x y hy (kind_ok hk)
  obtain ⟨h1, h2⟩ := spl_bd (tl y) (tl x) 0 []
  rw [← e] at h1 h2
  refine ⟨by rw [List.length_map] at h1; exact h1, fun w hw => ?_⟩
  have := h2 (tl w) (List.mem_map.mpr ⟨w, hw, rfl⟩)
  simpa using this
theorem sizes {a : Str} {n : Nat} (h : (tl a).length ≤ n) (hn : n ≤ 1000000) : a.length ≤ sizeLine := by
  rw [len_tl]
  exact Nat.le_trans h (Nat.le_trans hn (by decide))
theorem one_eq {c d : Nat} : decide ((V.str ⟨#[c]⟩ : V) = V.str ⟨#[d]⟩) = decide (c = d) := decide_eq_decide.mpr ⟨fun z => by
  have z := congrArg tl (V.str.inj z)
  have z : [c] = [d] := z
  exact (List.cons.inj z).1, fun z => by rw [z]⟩
theorem int_one {c : Nat} (h : 48 ≤ c ∧ c ≤ 57) : PySem.intText? (⟨#[c]⟩ : Str) = some ((c - 48 : Nat) : Int) := by
  have h1 : tl (⟨#[c]⟩ : Str) = [c] := rfl
  have := PySem.intText_digits (x := (⟨#[c]⟩ : Str)) (by show PySem.NumText.AllDigits (tl _); rw [h1]; intro d hd; rw [List.mem_singleton.mp hd]; exact h) (by show tl _ ≠ []; rw [h1]; simp) (by show 1 ≤ 4300; decide)
  rw [this]
  show some ((PySem.NumText.digitsVal [c] : Nat) : Int) = _
  congr 2
  show 0 * 10 + (c - 48) = c - 48
  omega
end Pk
set_option Elab.async false
set_option linter.all false
set_option maxRecDepth 100000
set_option maxHeartbeats 4000000
namespace Pk
open PySem L2
local macro_rules | `(tactic| walk_at "rd") => `(tactic| repeat (first
  | with_reducible refine r_seq ?_ | with_reducible refine r_nxt ?_ | with_reducible refine r_asg ?_ | with_reducible refine r_to ?_ | with_reducible refine r_ret ?_ | with_reducible refine r_for ?_ | with_reducible refine r_lc ?_ | with_reducible refine r_lc2 ?_ | with_reducible refine r_rng1 ?_ | with_reducible refine r_list ?_ | with_reducible refine r_tupI ?_ | with_reducible refine r_drop ?_ | with_reducible refine r_ifs ?_
  | with_reducible refine r_op ?_ | with_reducible refine r_c ?_ | with_reducible refine r_var rfl ?_ | with_reducible refine r_var (by assumption) ?_ | with_reducible refine r_I0 ?_ | with_reducible refine r_un ?_ | with_reducible refine r_U ?_ | with_reducible refine r_make ?_ | with_reducible refine r_makeS ?_ | with_reducible refine r_ifE ?_ | with_reducible refine r_cm ?_ | with_reducible refine r_mkV rfl ?_ | with_reducible refine r_sub ?_
  | with_reducible refine r_nil ?_ | with_reducible refine r_cons ?_ | with_reducible refine r_cb ?_ | with_reducible refine r_sl ?_ | with_reducible refine r_noP ?_ | with_reducible refine r_part ?_ | with_reducible refine r_isI ?_ | with_reducible refine r_lst ?_ | with_reducible refine r_tup ?_ | with_reducible refine r_call ?_ | with_reducible refine r_callS ?_ | with_reducible refine r_sFldU ?_ | with_reducible refine r_chain ?_ | with_reducible refine r_enum ?_ | with_reducible refine r_zip ?_ | with_reducible refine r_rng3 ?_ | with_reducible refine r_gtup ?_ | with_reducible refine r_methU ?_
  | with_reducible refine r_test ?_ | with_reducible refine r_B ?_ | with_reducible refine r_and ?_ | with_reducible refine r_or ?_ | with_reducible refine r_not ?_ | with_reducible refine r_andV ?_ | with_reducible refine r_orV ?_ | with_reducible refine r_notV ?_ | with_reducible refine r_bl ?_ | with_reducible refine r_yes ?_ | with_reducible refine r_int ?_ | with_reducible refine r_is0 ?_ | with_reducible refine r_is1 ?_ | with_reducible refine iteT ?_ | with_reducible refine iteF ?_ | with_reducible refine ite_nF ?_ | with_reducible refine ite_nT ?_
  | with_reducible refine r_mod (by decide) ?_ | with_reducible refine r_div (by decide) (by decide) ?_ | with_reducible refine r_mulR (by decide) (by decide) ?_ | with_reducible refine r_mulL (by decide) (by decide) ?_ | with_reducible refine r_pow (by decide) (by decide) (by decide) ?_))
/-! ### words of amounts, and what a text of amounts says -/
open _root_.TL PySem.StrLaws
theorem dv_snoc (r : List Nat) (d : Nat) : NumText.digitsVal (r ++ [d]) = NumText.digitsVal r * 10 + (d - 48) := by
  unfold NumText.digitsVal
  rw [List.foldl_append]; rfl
theorem back_num : ∀ (n : Nat) (l : List Nat), l.length = n → NumText.AllDigits l → l ≠ [] → (l[0]? ≠ some 48 ∨ l = [48]) → numL (NumText.digitsVal l) = l ∧ NumText.digitsVal l < 10 ^ n := fun n => by
  induction n with
  | zero => intro l hl _ ne _; exact absurd (List.length_eq_zero_iff.mp hl) ne
  | succ n ih =>
    intro l hl ad ne h0
    rcases List.eq_nil_or_concat l with z | ⟨r, d, rfl⟩
    · exact absurd z ne
    · rw [List.concat_eq_append] at hl ad h0 ne ⊢
      have hd : 48 ≤ d ∧ d ≤ 57 := ad d (List.mem_append_right _ (List.mem_singleton.mpr rfl))
      rw [dv_snoc]
      cases r with
      | nil =>
        have : n = 0 := by simp at hl; omega
        subst this
        show numL (0 * 10 + (d - 48)) = [d] ∧ 0 * 10 + (d - 48) < 10 ^ 1
        rw [numL_lt (by omega)]
        exact ⟨by rw [show 48 + (0 * 10 + (d - 48)) = d by omega], by omega⟩
      | cons a r =>
        have h1 : (a :: r)[0]? ≠ some 48 := by
          rcases h0 with h | h
          · exact h
          · have := congrArg List.length h
            simp at this
        obtain ⟨e, b⟩ := ih (a :: r) (by simp at hl ⊢; omega) (fun c hc => ad c (List.mem_append_left _ hc)) (by simp) (.inl h1)
        have pos : 0 < NumText.digitsVal (a :: r) := Nat.pos_of_ne_zero fun z => by
          rw [z] at e
          rw [← e] at h1
          exact h1 (by decide +kernel)
        obtain ⟨v, ev⟩ : ∃ v, v = NumText.digitsVal (a :: r) := ⟨_, rfl⟩
        rw [← ev] at e b pos ⊢
        rw [numL_step (by omega), show (v * 10 + (d - 48)) / 10 = v by omega, show 48 + (v * 10 + (d - 48)) % 10 = d by omega, e]
        exact ⟨rfl, by rw [Nat.pow_succ]; omega⟩
def numV (w : Str) : Int := (PySem.intText? w).getD 0
theorem amt_num {x : Str} (h : amtB x = true) : ∃ n : Nat, PySem.intText? x = some (n : Int) ∧ numW (n : Int) = x ∧ n < 10 ^ 60 ∧ numV x = n ∧ (tl x).length ≤ 60 := by
  unfold amtB at h
  simp only [Bool.and_eq_true, Bool.or_eq_true, decide_eq_true_eq, Bool.not_eq_true', decide_eq_false_iff_not, List.all_eq_true] at h
  obtain ⟨⟨⟨h1, h60⟩, hd⟩, h0⟩ := h
  have ad : NumText.AllDigits (tl x) := fun c hc => by
    have := hd c hc
    unfold digL at this
    simp only [List.mem_cons, List.not_mem_nil, or_false] at this
    omega
  have ne : tl x ≠ [] := fun z => by rw [z] at h1; exact absurd h1 (by decide)
  have hz : (tl x)[0]? ≠ some 48 ∨ tl x = [48] := by
    rcases h0 with h | h
    · exact .inr (by rw [h]; decide +kernel)
    · exact .inl h
  obtain ⟨e, b⟩ := back_num _ (tl x) rfl ad ne hz
  have it := PySem.intText_digits (x := x) ad ne (by rw [len_tl]; omega)
  refine ⟨_, it, ext_tl (by rw [tl_nn]; exact e), Nat.lt_of_lt_of_le b (Nat.pow_le_pow_right (by decide) h60), ?_, h60⟩
  unfold numV
  rw [it]; rfl
/-- what a text of amounts says: a wrong word, a side that is wrong, or the amounts -/
inductive OutA
  | txt (l k : Int)
  | am (z : Str)
  | ok (ms ns : List Int)
def OutA.d : OutA → PyData
  | .txt l k => .tuple [.str "text", .int l, .int k]
  | .am z => .tuple [.str "amounts", .str z, .int (-1)]
  | .ok ms ns => .tuple [.str "read", .list [intsD ms, intsD ns]]
def stepA (st : Option (List (List Int))) (w : Str) : Option (List (List Int)) := match st with
  | some [a] => if amtB w = true then some [a ++ [numV w]] else if w = "|" then some [a, []] else none
  | some [a, b] => if amtB w = true then some [a, b ++ [numV w]] else none
  | _ => none
def runA (ws : List Str) : Option (List (List Int)) := ws.foldl stepA (some [[]])
def badN (ms : List Int) : Bool := decide (ms.length = 0) || decide (8 < ms.length)
def amO (ms ns : List Int) : OutA := if badN ms = true then .am "stocks" else if badN ns = true then .am "wishes" else .ok ms ns
inductive ReadA (ws : List Str) : OutA → Prop
  | txt (k : Nat) (w : Str) (st : List (List Int)) (h : runA (ws.take k) = some st) (e : ws[k]? = some w) (b : stepA (some st) w = none) : ReadA ws (.txt 0 (k : Int))
  | one (a : List Int) (h : runA ws = some [a]) : ReadA ws (.txt 0 (ws.length : Int))
  | two (a b : List Int) (h : runA ws = some [a, b]) : ReadA ws (amO a b)
theorem run_none : ∀ l : List Str, l.foldl stepA none = none
  | [] => rfl
  | w :: l => run_none l
theorem runA_step {ws : List Str} {k : Nat} {w : Str} (e : ws[k]? = some w) : runA (ws.take (k + 1)) = stepA (runA (ws.take k)) w := by
  unfold runA
  rw [List.take_add_one, e, List.foldl_append]; rfl
theorem runA_cut {ws : List Str} {k : Nat} (h : runA (ws.take k) = none) : runA ws = none := by
  have : ws = ws.take k ++ ws.drop k := (List.take_append_drop k ws).symm
  unfold runA at h ⊢
  rw [this, List.foldl_append, h]
  exact run_none _
theorem runA_le {ws : List Str} {k j : Nat} (h : runA (ws.take k) = none) (l : k ≤ j) : runA (ws.take j) = none := by
  refine runA_cut (k := k) ?_
  rw [List.take_take, Nat.min_eq_left l]
  exact h
theorem ReadA.uniq {ws : List Str} {o p : OutA} (h : ReadA ws o) (g : ReadA ws p) : o = p := by
  have cut : ∀ {k : Nat} {w : Str} {st : List (List Int)}, runA (ws.take k) = some st → ws[k]? = some w → stepA (some st) w = none → runA (ws.take (k + 1)) = none := fun h e b => by rw [runA_step e, h, b]
  cases h with
  | txt k w st h e b =>
    have c := cut h e b
    cases g with
    | txt j v su h' e' b' =>
      have c' := cut h' e' b'
      by_cases q : k = j
      · rw [q]
      · rcases Nat.lt_or_gt_of_ne q with q | q
        · rw [runA_le c q] at h'; cases h'
        · rw [runA_le c' q] at h; cases h
    | one a h' => rw [runA_cut c] at h'; cases h'
    | two a b h' => rw [runA_cut c] at h'; cases h'
  | one a h =>
    cases g with
    | txt j v su h' e' b' => rw [runA_cut (cut h' e' b')] at h; cases h
    | one a' h' => rfl
    | two a' b' h' => rw [h] at h'; cases h'
  | two a b h =>
    cases g with
    | txt j v su h' e' b' => rw [runA_cut (cut h' e' b')] at h; cases h
    | one a' h' => rw [h] at h'; cases h'
    | two a' b' h' => rw [h] at h'; cases h'; rfl
theorem bar_no : amtB "|" = false := by decide +kernel
theorem runA_shape (ws : List Str) : ∀ (k : Nat) (st : List (List Int)), k ≤ ws.length → runA (ws.take k) = some st → (st = [(ws.take k).map numV] ∧ ∀ w, w ∈ ws.take k → amtB w = true) ∨ ∃ A B : List Str, ws.take k = A ++ ("|" : Str) :: B ∧ st = [A.map numV, B.map numV] ∧ (∀ w, w ∈ A → amtB w = true) ∧ ∀ w, w ∈ B → amtB w = true := fun k => by
  induction k with
  | zero =>
    intro st _ h
    rw [List.take_zero] at h ⊢
    cases h
    exact .inl ⟨rfl, fun w h => by cases h⟩
  | succ k ih =>
    intro st hk h
    have e : ws[k]? = some ws[k] := List.getElem?_eq_getElem (by omega)
    rw [runA_step e] at h
    rw [List.take_add_one, e]
    obtain ⟨w, ew⟩ : ∃ w, w = ws[k] := ⟨_, rfl⟩
    rw [← ew] at h ⊢
    cases q : runA (ws.take k) with
    | none => rw [q] at h; cases h
    | some su =>
      rw [q] at h
      show _ ∨ ∃ A B : List Str, ws.take k ++ [w] = _ ∧ _
      rcases ih su (by omega) q with ⟨rfl, g⟩ | ⟨A, B, eA, rfl, gA, gB⟩
      · have h : (if amtB w = true then some [(ws.take k).map numV ++ [numV w]] else if w = "|" then some [(ws.take k).map numV, []] else none) = some st := h
        by_cases c : amtB w = true
        · rw [if_pos c] at h
          cases h
          refine .inl ⟨by show _ = [List.map numV (ws.take k ++ [w])]; rw [List.map_append]; rfl, fun x hx => ?_⟩
          have hx : x ∈ ws.take k ++ [w] := hx
          rcases List.mem_append.mp hx with hx | hx
          · exact g x hx
          · rw [List.mem_singleton.mp hx]; exact c
        · rw [if_neg c] at h
          by_cases d : w = "|"
          · rw [if_pos d] at h
            cases h
            exact .inr ⟨ws.take k, [], by rw [d], rfl, g, fun x hx => by cases hx⟩
          · rw [if_neg d] at h; cases h
      · have h : (if amtB w = true then some [A.map numV, B.map numV ++ [numV w]] else none) = some st := h
        by_cases c : amtB w = true
        · rw [if_pos c] at h
          cases h
          refine .inr ⟨A, B ++ [w], by rw [eA]; simp, by rw [List.map_append]; rfl, gA, fun x hx => ?_⟩
          rcases List.mem_append.mp hx with hx | hx
          · exact gB x hx
          · rw [List.mem_singleton.mp hx]; exact c
        · rw [if_neg c] at h; cases h
end Pk
set_option Elab.async false
set_option linter.all false
set_option maxRecDepth 100000
set_option maxHeartbeats 4000000
namespace Pk
open PySem L2
local macro_rules | `(tactic| walk_at "rd") => `(tactic| repeat (first
  | with_reducible refine r_seq ?_ | with_reducible refine r_nxt ?_ | with_reducible refine r_asg ?_ | with_reducible refine r_to ?_ | with_reducible refine r_ret ?_ | with_reducible refine r_for ?_ | with_reducible refine r_lc ?_ | with_reducible refine r_lc2 ?_ | with_reducible refine r_rng1 ?_ | with_reducible refine r_list ?_ | with_reducible refine r_tupI ?_ | with_reducible refine r_drop ?_ | with_reducible refine r_ifs ?_
  | with_reducible refine r_op ?_ | with_reducible refine r_c ?_ | with_reducible refine r_var rfl ?_ | with_reducible refine r_var (by assumption) ?_ | with_reducible refine r_I0 ?_ | with_reducible refine r_un ?_ | with_reducible refine r_U ?_ | with_reducible refine r_make ?_ | with_reducible refine r_makeS ?_ | with_reducible refine r_ifE ?_ | with_reducible refine r_cm ?_ | with_reducible refine r_mkV rfl ?_ | with_reducible refine r_sub ?_
  | with_reducible refine r_nil ?_ | with_reducible refine r_cons ?_ | with_reducible refine r_cb ?_ | with_reducible refine r_sl ?_ | with_reducible refine r_noP ?_ | with_reducible refine r_part ?_ | with_reducible refine r_isI ?_ | with_reducible refine r_lst ?_ | with_reducible refine r_tup ?_ | with_reducible refine r_call ?_ | with_reducible refine r_callS ?_ | with_reducible refine r_sFldU ?_ | with_reducible refine r_chain ?_ | with_reducible refine r_enum ?_ | with_reducible refine r_zip ?_ | with_reducible refine r_rng3 ?_ | with_reducible refine r_gtup ?_ | with_reducible refine r_methU ?_
  | with_reducible refine r_test ?_ | with_reducible refine r_B ?_ | with_reducible refine r_and ?_ | with_reducible refine r_or ?_ | with_reducible refine r_not ?_ | with_reducible refine r_andV ?_ | with_reducible refine r_orV ?_ | with_reducible refine r_notV ?_ | with_reducible refine r_bl ?_ | with_reducible refine r_yes ?_ | with_reducible refine r_int ?_ | with_reducible refine r_is0 ?_ | with_reducible refine r_is1 ?_ | with_reducible refine iteT ?_ | with_reducible refine iteF ?_ | with_reducible refine ite_nF ?_ | with_reducible refine ite_nT ?_
  | with_reducible refine r_mod (by decide) ?_ | with_reducible refine r_div (by decide) (by decide) ?_ | with_reducible refine r_mulR (by decide) (by decide) ?_ | with_reducible refine r_mulL (by decide) (by decide) ?_ | with_reducible refine r_pow (by decide) (by decide) (by decide) ?_))
/-! ### a sign, many times -/
open _root_.TL
def repS (c n : Nat) : Str := ⟨(List.replicate n #[c]).foldl (· ++ ·) #[]⟩
theorem rep_list (c : Nat) : ∀ (n : Nat) (acc : Array Nat), ((List.replicate n #[c]).foldl (· ++ ·) acc).toList = acc.toList ++ List.replicate n c
  | 0, acc => by simp
  | n + 1, acc => by
    rw [List.replicate_succ, List.foldl_cons, rep_list c n, List.replicate_succ]
    simp
theorem tl_rep (c n : Nat) : _root_.TL.tl (repS c n) = List.replicate n c := by
  show ((List.replicate n #[c]).foldl (· ++ ·) #[]).toList = _
  rw [rep_list]; rfl
def rMulS : R2 := fun x y H Q => ∃ (c n : Nat), x = .str ⟨#[c]⟩ ∧ y = .int (n : Int) ∧ 2 ≤ n ∧ n ≤ 100000 ∧ Q (.str (repS c n)) H
theorem op_mulS {X : Cx} : OpR X (binaryOp .Mult) rMulS := by
  intro pins s σ H x y v u Q I rx ry h
  obtain ⟨c, n, rfl, rfl, h2, hn, q⟩ := h
  obtain ⟨t, rfl⟩ := rx
  obtain ⟨t', rfl⟩ := ry
  have l1 : (⟨#[c]⟩ : Str).length = 1 := rfl
  have n1 : ¬ (n : Int) < 1 := by omega
  have e1 : ((n : Int) == 1 || (⟨#[c]⟩ : Str).length == 0) = false := by
    rw [l1]
    have : ((n : Int) == 1) = false := beq_false_of_ne (by omega)
    rw [this]; rfl
  refine PySem.P.mul_str ?_ (fun _ _ => ?_) (fun _ _ => ?_) ?_
  · rw [decide_eq_false (by omega), decide_eq_false (by omega)]; rfl
  · rw [l1]
    have h0 : (1 : Int) ≤ (2 ^ 63 - 1) / (n : Int) := by
      rw [Int.le_ediv_iff_mul_le (by omega)]
      omega
    omega
  · have hs : (100000 : Nat) ≤ sizeLine := by decide
    rw [l1, Int.toNat_natCast]
    exact decide_eq_false (by omega)
  · rw [if_neg n1, if_neg (by rw [e1]; decide), Int.toNat_natCast]
    have hs : (100000 : Nat) ≤ sizeLine := by decide
    have hl : (repS c n).length ≤ 100000 := by rw [_root_.TL.len_tl, tl_rep, List.length_replicate]; exact hn
    exact ⟨by first | exact Nat.le_trans hl hs | (show decide _ = _; exact decide_eq_false (by omega)), ⟨.str (repS c n), H, I.tok _, ⟨_, rfl⟩, q⟩⟩
def rInS : R2 := fun x y H Q => ∃ (c : Nat) (z : Str), x = .str ⟨#[c]⟩ ∧ y = .str z ∧ Q (.bl (decide (c ∈ z.cps.toList))) H
theorem op_inS {X : Cx} : OpR X (compareOp .In) rInS := op_in_sign
def retLcScope (d : Scope) : Stmt → Scope
  | .Return (value := some (.Call (args := [.ListComp (scope := sc) ..]) ..)) .. => sc
  | _ => d
def spAmtW : Sp := fun vs H Q _ => ∃ a : Str, vs = [.str a] ∧ (tl a).length ≤ 100000 ∧ ∀ H' : Hp, Same H H' → Q (.bl (amtB a)) H'
abbrev slAmtW : Stmt := top 19
section
variable {P : Program} {w : World} {K : PySem.W.Frag} {mg : Str → Option Value} {base : Heap} {C CE CX f : Addr} {fd : FuncData}
theorem log_1920 {i : Int} (h : -(10 ^ 60) < i ∧ i < 10 ^ 60) : i.natAbs.log2 < 1920 := by
  by_cases z : i.natAbs = 0
  · rw [z]; decide
  · rw [Nat.log2_lt z]
    have c : ((10 ^ 60 : Nat) : Int) = (10 : Int) ^ 60 := by decide +kernel
    exact Nat.lt_of_lt_of_le (show i.natAbs < 10 ^ 60 by omega) (by decide +kernel)
theorem sclAmtW : FnScope ["word", "sign"] ["word"] (defScope slAmtW) := ⟨rfl, rfl, rfl, by decide +kernel, rfl, by decide +kernel, by decide +kernel⟩
theorem ok_amtW {t1 t2 : Tok} (F : Fun K "is_amount_word" "is_amount_word" slAmtW f fd) (T : Bt mg) (tall : mg "all" = none) (hM : mg "MOST_DIGITS" = some (.int 60 t1)) (hD : mg "DIGITS" = some (.str "0123456789" t2)) : FnOk P w K mg base CX0 1 f fd ["word"] spAmtW := by
  refine F.ok sclAmtW (fun vs H Q E h => ?_) (fun cdv A' outer s H vs Q E hr h => ?_)
  · obtain ⟨a, rfl, _⟩ := h
    rfl
  · obtain ⟨a, rfl, la, k⟩ := h
    have hs : a.length ≤ sizeLine := by rw [len_tl]; exact Nat.le_trans la (by decide)
    refine ⟨_, (pss_cons (ps_if (PW.pt (pw_or (pt_not (pt_chain op_le op_le pe_int (pe_callB cl_lenS (by rfl) T.len (by decide +kernel) (pa_cons (pv 0) pa_nil)) (pe_glob (v := .int 60) (by rfl) hM ⟨t1, rfl⟩))) (pw_or1 (pt_not (pt_val (pe_callB (cr_all rfl) (by rfl) tall (by decide +kernel) (pa_cons (pe_lc (own := [("sign", 1)]) (g := gName 1) (te := tOp rInS (tVar 1) (tC (.str "0123456789"))) rfl sclAmtW.nd (pi_str (pv 0)) (blkOk_by (own := [("sign", 1)]) (N := ["word", "sign"]) (sc := defScope slAmtW) (by decide +kernel)) (fun _ _ _ _ _ => pg_name (i := 1) sclAmtW.nd rfl (Or.inl rfl)) (fun _ _ _ _ _ => pts_nil) (fun _ _ _ _ _ => (pe_cmpR op_inS (pv 1) (pe_glob (v := .str "0123456789") (by rfl) hD ⟨t2, rfl⟩) (by rfl)))) pa_nil))))))) (pss_one (ps_ret pe_bl)) pss_nil)
  (pss_one (ps_ret (pe_or (pe_cmpR op_eq (pv 0) pe_str (nomark _)) (pe_one (pe_cmpR op_ne (pe_ix ix_str (pv 0) pe_int (fun _ _ => rfl)) pe_str (nomark _))))))), ?_⟩
    have out : ∀ b, amtB a = b → Q (.bl b) H := fun b e => by rw [← e]; exact k H (Same.refl H)
    walk_at "rd"
    refine ⟨a, rfl, hs, ?_⟩
    rw [len_tl]
    walk_at "rd"
    by_cases c1 : 1 ≤ (tl a).length
    · refine ifT (decide_eq_true (by omega)) ?_
      walk_at "rd"
      by_cases c2 : (tl a).length ≤ 60
      · refine ifF (by rw [decide_eq_true (by omega)]; rfl) ?_
        walk_at "rd"
        refine r_iStr ?_
        walk_at "rd"
        refine ⟨a, rfl, fun D nD => lc_it walk_str (Out H D fun i => V.bl (decide ((tl a).getD i 0 ∈ digL))) (Out.start nD) (fun _ _ _ _ => trivial) ?_ ?_⟩
        · rintro i y H1 H2 hi o ⟨rfl, c, ec, rfl⟩
          have hi : i < (tl a).length := by rw [← len_tl]; exact hi
          have ec' : (tl a)[i]? = some c := by rw [← ec]; exact (Array.getElem?_toList ..)
          have gc : (tl a).getD i 0 = c := by rw [List.getD_eq_getElem?_getD, ec']; rfl
          walk_at "rd"
          refine ⟨rfl, ?_⟩
          walk_at "rd"
          refine ⟨c, "0123456789", rfl, rfl, ?_⟩
          have e9 : decide (c ∈ ("0123456789" : Str).cps.toList) = decide ((tl a).getD i 0 ∈ digL) := by rw [gc, ← dig_tl]
          rw [e9]
          exact o.more nD (Same.refl _) (Nat.lt_of_lt_of_le (show i < 61 by omega) (by decide))
        · rintro H1 ⟨s1, hD⟩
          walk_at "rd"
          have eL : (List.range a.cps.size).map (fun i => V.bl (decide ((tl a).getD i 0 ∈ digL))) = ((tl a).map fun c => decide (c ∈ digL)).map V.bl := by
            have sz : a.cps.size = (tl a).length := len_tl a
            rw [sz]
            apply List.ext_getElem
            · simp
            · intro n h1 h2
              have hn : n < (tl a).length := by simpa using h1
              simp only [List.getElem_map, List.getElem_range]
              rw [List.getD_eq_getElem?_getD, List.getElem?_eq_getElem hn]; rfl
          rw [eL] at hD
          refine ⟨D, _, rfl, SqL.of hD, ?_⟩
          have ea : ((tl a).map fun c => decide (c ∈ digL)).all id = (tl a).all fun c => decide (c ∈ digL) := by rw [List.all_map]; rfl
          rw [ea]
          have base0 : amtB a = (((tl a).all fun c => decide (c ∈ digL)) && (decide (a = "0") || !decide ((tl a)[0]? = some 48))) := by
            unfold amtB
            rw [decide_eq_true c1, decide_eq_true c2]; rfl
          have out1 : ∀ b, amtB a = b → Q (.bl b) H1 := fun b e => by rw [← e]; exact k H1 s1
          cases eall : ((tl a).all fun c => decide (c ∈ digL)) with
          | false =>
            rw [eall] at base0
            refine ⟨_, rfl, ifT rfl ?_⟩
            walk_at "rd"
            exact out1 _ base0
          | true =>
            rw [eall] at base0
            refine ⟨_, rfl, ifF rfl ?_⟩
            walk_at "rd"
            refine r_eq rfl ?_
            refine ⟨_, rfl, ?_⟩
            by_cases e0 : a = "0"
            · refine ifT (decide_eq_true (by rw [e0])) ?_
              exact out1 _ (by rw [base0, decide_eq_true e0]; rfl)
            · refine ifF (decide_eq_false fun z => e0 (V.str.inj z)) ?_
              walk_at "rd"
              obtain ⟨c0, rest, ec⟩ : ∃ c0 rest, tl a = c0 :: rest := by
                cases q : tl a with
                | nil => rw [q] at c1; exact absurd c1 (by decide)
                | cons c0 rest => exact ⟨c0, rest, rfl⟩
              refine ⟨a, 0, c0, rfl, rfl, hs, atI_nat (j := 0) (by show (tl a)[0]? = some c0; rw [ec]; rfl), ?_⟩
              refine r_ne rfl ?_
              have e1 : decide ((V.str ⟨#[c0]⟩ : V) = V.str "0") = decide ((tl a)[0]? = some 48) := by
                rw [ec]
                refine decide_eq_decide.mpr ⟨fun z => ?_, fun z => ?_⟩
                · have z := congrArg tl (V.str.inj z)
                  have t0 : tl ("0" : Str) = [48] := by decide +kernel
                  rw [t0] at z
                  have z : [c0] = [48] := z
                  rw [(List.cons.inj z).1]; rfl
                · have z : some c0 = some 48 := z
                  rw [Option.some.inj z]; rfl
              rw [e1]
              exact out1 _ (by rw [base0, decide_eq_false e0]; rfl)
      · refine ifT (by rw [decide_eq_false (by omega)]; rfl) ?_
        walk_at "rd"
        refine out _ ?_
        unfold amtB
        rw [decide_eq_false c2, Bool.and_false, Bool.false_and, Bool.false_and]
    · refine ifF (decide_eq_false (by omega)) ?_
      walk_at "rd"
      refine out _ ?_
      unfold amtB
      rw [decide_eq_false c1, Bool.false_and, Bool.false_and, Bool.false_and]
end
def spChkX (K : PySem.W.Frag) (CX : Addr) : Sp := fun vs H Q E => ∃ v, vs = [v] ∧ ((∃ a, v = .str a ∧ Q .non H) ∨ (NotS K H v ∧ ∀ (dd : Addr) (H' : Hp), Same H H' → H dd = none → H' dd = some (.xd [("word", .int (-1)), ("line", .int (-1))]) → E (.ref CX) (some dd) H'))
abbrev slChkX : Stmt := top 18
section
variable {P : Program} {w : World} {K : PySem.W.Frag} {mg : Str → Option Value} {base : Heap} {CO CX CEO f : Addr} {fd : FuncData}
theorem sclChkX : FnScope ["text"] ["text"] (defScope slChkX) := ⟨rfl, rfl, rfl, by decide +kernel, rfl, by decide +kernel, by decide +kernel⟩
theorem ok_chkX (F : Fun K "check_text" "check_text" slChkX f fd) (T : Bt mg) (EX : De P w K mg base "InvalidText" 3 (spErr2 K 1 CX "line" "word") CX) : FnOk P w K mg base (L2.CX P w) 5 f fd ["text"] (spChkX K CX) := by
  refine F.okX sclChkX (fun vs H Q E h => ?_) (fun cdv A' outer s H vs Q E hr h => ?_)
  · obtain ⟨v, rfl, _⟩ := h
    rfl
  · obtain ⟨v, rfl, h⟩ := h
    refine ⟨_, (pss_one (ps_if (pt_not (pt_val (pe_callB call_isi (by rfl) T.isinstance (by decide +kernel) (pa_cons (pv 0) (pa_cons (pe_bltn (v := .ty "str") (by rfl) T.str (by decide +kernel) rfl) pa_nil))))) (pss_one (ps_rse rfl (takes_of rfl rfl rfl rfl) EX hr (by decide) (pa_cons (pe_un un_neg pe_int) (pa_cons (pe_un un_neg pe_int) pa_nil)))) pss_nil)), ?_⟩
    walk_at "rd"
    rcases h with ⟨a, rfl, k⟩ | ⟨⟨U, ty, kt⟩, k⟩
    · refine r_isi (.base (.str a)) (by decide +kernel : kitB "str" "str" = some true) ?_
      walk_at "rd"
      exact k
    · refine r_isi ty kt ?_
      walk_at "rd"
      refine r_mkErr ?_
      walk_at "rd"
      refine r_err2 (σ := []) (.int _) (.int _) (.int _) (.int _) fun dd u1 v1 H' s1 h1 h2 o1 o2 => ?_
      cases o1
      cases o2
      exact k dd H' s1 h1 h2
end
end Pk
set_option Elab.async false
set_option linter.all false
set_option maxRecDepth 100000
set_option maxHeartbeats 4000000
namespace Pk
open PySem L2
local macro_rules | `(tactic| walk_at "rd") => `(tactic| repeat (first
  | with_reducible refine r_seq ?_ | with_reducible refine r_nxt ?_ | with_reducible refine r_asg ?_ | with_reducible refine r_to ?_ | with_reducible refine r_ret ?_ | with_reducible refine r_for ?_ | with_reducible refine r_lc ?_ | with_reducible refine r_lc2 ?_ | with_reducible refine r_rng1 ?_ | with_reducible refine r_list ?_ | with_reducible refine r_tupI ?_ | with_reducible refine r_drop ?_ | with_reducible refine r_ifs ?_
  | with_reducible refine r_op ?_ | with_reducible refine r_c ?_ | with_reducible refine r_var rfl ?_ | with_reducible refine r_var (by assumption) ?_ | with_reducible refine r_I0 ?_ | with_reducible refine r_un ?_ | with_reducible refine r_U ?_ | with_reducible refine r_make ?_ | with_reducible refine r_makeS ?_ | with_reducible refine r_ifE ?_ | with_reducible refine r_cm ?_ | with_reducible refine r_mkV rfl ?_ | with_reducible refine r_sub ?_
  | with_reducible refine r_nil ?_ | with_reducible refine r_cons ?_ | with_reducible refine r_cb ?_ | with_reducible refine r_sl ?_ | with_reducible refine r_noP ?_ | with_reducible refine r_part ?_ | with_reducible refine r_isI ?_ | with_reducible refine r_lst ?_ | with_reducible refine r_tup ?_ | with_reducible refine r_call ?_ | with_reducible refine r_callS ?_ | with_reducible refine r_sFldU ?_ | with_reducible refine r_chain ?_ | with_reducible refine r_enum ?_ | with_reducible refine r_zip ?_ | with_reducible refine r_rng3 ?_ | with_reducible refine r_gtup ?_ | with_reducible refine r_methU ?_
  | with_reducible refine r_test ?_ | with_reducible refine r_B ?_ | with_reducible refine r_and ?_ | with_reducible refine r_or ?_ | with_reducible refine r_not ?_ | with_reducible refine r_andV ?_ | with_reducible refine r_orV ?_ | with_reducible refine r_notV ?_ | with_reducible refine r_bl ?_ | with_reducible refine r_yes ?_ | with_reducible refine r_int ?_ | with_reducible refine r_is0 ?_ | with_reducible refine r_is1 ?_ | with_reducible refine iteT ?_ | with_reducible refine iteF ?_ | with_reducible refine ite_nF ?_ | with_reducible refine ite_nT ?_
  | with_reducible refine r_mod (by decide) ?_ | with_reducible refine r_div (by decide) (by decide) ?_ | with_reducible refine r_mulR (by decide) (by decide) ?_ | with_reducible refine r_mulL (by decide) (by decide) ?_ | with_reducible refine r_pow (by decide) (by decide) (by decide) ?_))
theorem op_ninD {X : Cx} (hu : X.A.units + 64 < cLine) : OpR X (compareOp .NotIn) (rInD X.K true) := by
  intro pins s σ H x y v u Q I rx ry h
  obtain ⟨d, ds, hd, he, pd, sm, q⟩ := h
  obtain ⟨as, r1⟩ := Dp.reads I _ x v hd rx
  obtain ⟨bs, r2⟩ := Dp.reads I _ y u he ry
  have h1 := sm.deep
  exact SeqAt.notIn_list_data r2 r1 sm.plain pd (by omega) ⟨.bl _, H, I, rfl, q⟩
/-! ### texts of amounts: shown, and read -/
open _root_.TL
theorem strs_plain : ∀ ws : List Str, PyData.plainAll (ws.map PyData.str) = true
  | [] => rfl
  | w :: ws => by
    show (PyData.plain (.str w) && PyData.plainAll (ws.map PyData.str)) = true
    rw [strs_plain ws]; rfl
theorem strs_depth : ∀ ws : List Str, PyData.depthAll (ws.map PyData.str) ≤ 8
  | [] => by decide
  | w :: ws => by
    show max (PyData.depth (.str w)) (PyData.depthAll (ws.map PyData.str)) ≤ 8
    exact Nat.max_le.mpr ⟨by show 0 ≤ 8; decide, strs_depth ws⟩
theorem strs_dp {K : PySem.W.Frag} {H : Hp} : ∀ ws : List Str, DpAll K H (ws.map V.str) (ws.map PyData.str)
  | [] => .nil
  | w :: ws => .cons (.str w) (strs_dp ws)
theorem str_eqv (a b : Str) : PyData.eqv (.str a) (.str b) = decide (a = b) := by
  show (a == b) = decide (a = b)
  by_cases h : a = b
  · subst h; rw [decide_eq_true rfl]; exact beq_self_eq_true a
  · rw [decide_eq_false h]; exact beq_false_of_ne h
theorem strs_any (ws : List Str) (x : Str) : ((ws.map PyData.str).any fun e => PyData.eqv e (.str x)) = decide (x ∈ ws) := by
  rw [List.any_map]
  by_cases m : x ∈ ws
  · rw [decide_eq_true m]
    exact List.any_eq_true.mpr ⟨x, m, by show PyData.eqv (.str x) (.str x) = true; rw [str_eqv]; exact decide_eq_true rfl⟩
  · rw [decide_eq_false m, List.any_eq_false]
    intro y hy q
    have q : PyData.eqv (.str y) (.str x) = true := q
    rw [str_eqv, decide_eq_true_eq] at q
    exact m (q ▸ hy)
theorem r_idxS {K : PySem.W.Frag} {q : Addr} {A B : List Str} {x : Str} {H : Hp} {Q : VK} (hq : SqL K H q ((A ++ x :: B).map V.str)) (n : x ∉ A) (k : Q (.int (A.length : Int)) H) : rIndex K (.ref q) [.str x] H Q := by
  refine ⟨q, _, .str x, A.length, .str x, rfl, rfl, hq, rfl, ?_, ?_, ?_, fun m z hm hz => ?_, k⟩
  · rw [List.all_eq_true]
    intro v hv
    obtain ⟨w, _, rfl⟩ := List.mem_map.mp hv
    rfl
  · rw [List.getElem?_map, List.getElem?_append_right (Nat.le_refl _), Nat.sub_self]; rfl
  · exact beq_self_eq_true x
  · rw [List.getElem?_map, List.getElem?_append_left hm] at hz
    obtain ⟨w, hw, rfl⟩ := Option.map_eq_some_iff.mp hz
    show (w == x) = false
    refine beq_false_of_ne fun z => n ?_
    rw [← z]
    exact List.mem_of_getElem? hw
def joinA (ms ns : List Int) : Str := Txt.join " " (ms.map numW ++ ("|" : Str) :: ns.map numW)
def AmB (ms : List Int) : Prop := ∀ m, m ∈ ms → 0 ≤ m ∧ m < 10 ^ 60
def spShowA (CA : Addr) : Sp := fun vs H Q _ => ∃ (x dx p q : Addr) (ms ns : List Int), vs = [.ref x] ∧ AmX CA H x dx p q ms ns ∧ AmB ms ∧ AmB ns ∧ ms.length ≤ 8 ∧ ns.length ≤ 8 ∧ ∀ H' : Hp, Same H H' → Q (.str (joinA ms ns)) H'
def spReadA (K : PySem.W.Frag) (CA CX CAE : Addr) : Sp := fun vs H Q E => ∃ v : V, vs = [v] ∧
  ((∃ a, v = .str a ∧ (tl a).length ≤ 5100 ∧ (Txt.split a " ").length ≤ 5101 ∧
    (∀ l k, ReadA (Txt.split a " ") (.txt l k) → ∀ (dd : Addr) (H' : Hp), Same H H' → H dd = none → H' dd = some (.xd [("word", .int k), ("line", .int l)]) → E (.ref CX) (some dd) H') ∧
    (∀ z, ReadA (Txt.split a " ") (.am z) → ∀ (dd : Addr) (H' : Hp), Same H H' → H dd = none → H' dd = some (.xd [("at", .int (-1)), ("word", .str z)]) → E (.ref CAE) (some dd) H') ∧
    (∀ ms ns, ReadA (Txt.split a " ") (.ok ms ns) → Gd ms → Gd ns → ∀ (y dy p q : Addr) (H' : Hp), Same H H' → AmX CA H' y dy p q ms ns → Q (.ref y) H')) ∨
   (NotS K H v ∧ ∀ (dd : Addr) (H' : Hp), Same H H' → H dd = none → H' dd = some (.xd [("word", .int (-1)), ("line", .int (-1))]) → E (.ref CX) (some dd) H'))
theorem badN_badL (A : List Str) (g : ∀ w, w ∈ A → amtB w = true) : badL (intsD (A.map numV)) = if badN (A.map numV) = true then some (-1) else none := by
  by_cases b : badN (A.map numV) = true
  · rw [if_pos b]
    have b2 := b
    unfold badN at b2
    rw [Bool.or_eq_true, decide_eq_true_eq, decide_eq_true_eq] at b2
    exact if_pos (by rw [List.length_map]; exact b2)
  · rw [if_neg b]
    refine badL_good ⟨?_, ?_, fun m hm => ?_⟩
    · refine Nat.pos_of_ne_zero fun z => b ?_
      unfold badN
      rw [decide_eq_true z]; rfl
    · refine Nat.le_of_not_lt fun z => b ?_
      unfold badN
      rw [decide_eq_true z, Bool.or_true]
    · obtain ⟨w, hw, rfl⟩ := List.mem_map.mp hm
      obtain ⟨n, _, _, _, e, _⟩ := amt_num (g w hw)
      rw [e]
      exact Int.natCast_nonneg n
theorem stepA_good {st : List (List Int)} {x : Str} {a b : List Int} (c : amtB x = true) (h : st = [a] ∨ st = [a, b]) : ∃ su, stepA (some st) x = some su := by
  rcases h with rfl | rfl
  · exact ⟨_, if_pos c⟩
  · exact ⟨_, if_pos c⟩
theorem stepA_bad {st : List (List Int)} {x : Str} {a b : List Int} (c : amtB x = false) (h : (st = [a] ∧ x ≠ "|") ∨ st = [a, b]) : stepA (some st) x = none := by
  have c : ¬ amtB x = true := by rw [c]; decide
  rcases h with ⟨rfl, d⟩ | rfl
  · exact (if_neg c).trans (if_neg d)
  · exact if_neg c
abbrev slShowA : Stmt := top 17
abbrev slReadA : Stmt := top 20
abbrev nmReadA : List Str := ["text", "words", "at", "word", "middle"]
section
variable {P : Program} {w : World} {K : PySem.W.Frag} {mg : Str → Option Value} {base : Heap} {CA CX CAE f : Addr} {fd : FuncData}
theorem sclReadA : FnScope nmReadA ["text"] (defScope slReadA) := ⟨rfl, rfl, rfl, by decide +kernel, rfl, by decide +kernel, by decide +kernel⟩
theorem ok_readA {t1 : Tok} (F : Fun K "read_amounts" "read_amounts" slReadA f fd) (T : Bt mg) (hB : mg "BETWEEN" = some (.str "|" t1)) (DC : Df P w K mg base (L2.CX P w) "check_text" 5 ["text"] (spChkX K CX)) (DW : Df P w K mg base CX0 "is_amount_word" 1 ["word"] spAmtW) (EX : De P w K mg base "InvalidText" 3 (spErr2 K 1 CX "line" "word") CX) (DO : Dk P w K mg base (L2.CX P w) "Amounts" 8 ["self", "stocks", "wishes"] (spAmG K CA CAE) CA) :
    FnOk P w K mg base (L2.CX P w) 10 f fd ["text"] (spReadA K CA CX CAE) := by
  refine F.okX sclReadA (fun vs H Q E h => ?_) (fun cdv A' outer s H vs Q E hr h => ?_)
  · obtain ⟨v, rfl, _⟩ := h
    rfl
  · obtain ⟨v, rfl, h⟩ := h
    refine ⟨_, (pss_cons (ps_expr (pe_dfS (takes_of rfl rfl rfl rfl) DC hr (by decide) (pa_cons (pv 0) pa_nil)))
  (pss_cons (ps_set (i := 1) sclReadA.nd rfl (Or.inl rfl) (pe_split (pv 0) pe_str))
  (pss_cons (ps_for (passes_of rfl) rfl (pi_enum (by rfl) T.enumerate (pa_cons (pv 1) pa_nil)) (pg_tup (by rfl) (pgs_cons (pg_name (i := 2) sclReadA.nd rfl (Or.inl rfl)) (pgs_cons (pg_name (i := 3) sclReadA.nd rfl (Or.inl rfl)) pgs_nil))) (pss_one (ps_if (PW.pt (pw_and (pt_not (pt_val (pe_df DW hr (by decide) (pa_cons (pv 3) pa_nil)))) (pw_and1 (PW.pt (pw_or (pt_cmpR op_ne (pv 3) (pe_glob (v := .str "|") (by rfl) hB ⟨t1, rfl⟩) (nomark _)) (pw_or1 (pt_cmpR op_lt (pe_bm PySem.F.plainAttrs_list PySem.F.slot_list_index PySem.F.type_list_index mt_index (pv 1) (pa_cons (pe_glob (v := .str "|") (by rfl) hB ⟨t1, rfl⟩) pa_nil)) (pv 2) (nomark _)))))))) (pss_one (ps_rse rfl (takes_of rfl rfl rfl rfl) EX hr (by decide) (pa_cons pe_int (pa_cons (pv 2) pa_nil)))) pss_nil)))
  (pss_cons (ps_if (pt_cmpR (op_ninD hr.units) (pe_glob (v := .str "|") (by rfl) hB ⟨t1, rfl⟩) (pv 1) (by rfl)) (pss_one (ps_rse rfl (takes_of rfl rfl rfl rfl) EX hr (by decide) (pa_cons pe_int (pa_cons (pe_callB cl_len (by rfl) T.len (by decide +kernel) (pa_cons (pv 1) pa_nil)) pa_nil)))) pss_nil)
  (pss_cons (ps_set (i := 4) sclReadA.nd rfl (Or.inl rfl) (pe_bm PySem.F.plainAttrs_list PySem.F.slot_list_index PySem.F.type_list_index mt_index (pv 1) (pa_cons (pe_glob (v := .str "|") (by rfl) hB ⟨t1, rfl⟩) pa_nil)))
  (pss_one (ps_ret (pe_dkS (takes_of rfl rfl rfl rfl) DO hr (by decide) (pa_cons (pe_lc (own := [("word", 3)]) (g := gName 3) (te := tCB rIntS (tCons (tVar 3) tNil)) rfl sclReadA.nd (pi_list (pe_slice sl_list (pv 1) po_none (po_some (pv 4)))) (blkOk_by (own := [("word", 3)]) (N := nmReadA) (sc := defScope slReadA) (by decide +kernel)) (fun _ _ _ _ _ => pg_name (i := 3) sclReadA.nd rfl (Or.inl rfl)) (fun _ _ _ _ _ => pts_nil) (fun _ _ _ _ _ => (pe_callTy cl_intS (by rfl) T.int (by decide +kernel) (pa_cons (pv 3) pa_nil)))) (pa_cons (pe_lc (own := [("word", 3)]) (g := gName 3) (te := tCB rIntS (tCons (tVar 3) tNil)) rfl sclReadA.nd (pi_list (pe_slice sl_list (pv 1) (po_some (pe_op op_add (pv 4) pe_int)) po_none)) (blkOk_by (own := [("word", 3)]) (N := nmReadA) (sc := defScope slReadA) (by decide +kernel)) (fun _ _ _ _ _ => pg_name (i := 3) sclReadA.nd rfl (Or.inl rfl)) (fun _ _ _ _ _ => pts_nil) (fun _ _ _ _ _ => (pe_callTy cl_intS (by rfl) T.int (by decide +kernel) (pa_cons (pv 3) pa_nil)))) pa_nil)))))))))), ?_⟩
    rcases h with ⟨a, rfl, la, l901, k1, k2, k3⟩ | ⟨ns, ke⟩
    · walk_at "rd"
      refine ⟨_, rfl, .inl ⟨a, rfl, ?_⟩⟩
      walk_at "rd"
      refine r_tM1 ?_
      walk_at "rd"
      refine ⟨⟨_, rfl⟩, ?_⟩
      walk_at "rd"
      refine ⟨a, " ", rfl, rfl, by decide +kernel, by rw [len_tl]; exact Nat.le_trans (show (tl a).length + 2 ≤ 5102 by omega) (by decide), fun r nr => ?_⟩
      have wb := (split_bd a (y := " ") (by rw [tl_sp]; decide) (by decide +kernel)).2
      generalize Txt.split a " " = ws at l901 wb k1 k2 k3 ⊢
      have s1 := Same.up (o := .lst (ws.map V.str)) (Same.refl H) nr
      have hr1 := @upd_same H r (.lst (ws.map V.str))
      generalize upd H r (.lst (ws.map V.str)) = H1 at s1 hr1 ⊢
      have at_ : ∀ {i : Nat} {y : V}, (ws.map V.str)[i]? = some y → ∃ x, ws[i]? = some x ∧ y = V.str x ∧ (tl x).length ≤ 5100 := fun {i y} e => by
        rw [List.getElem?_map] at e
        obtain ⟨x, ex, rfl⟩ := Option.map_eq_some_iff.mp e
        exact ⟨x, ex, rfl, Nat.le_trans (wb x (List.mem_of_getElem? ex)) la⟩
      walk_at "rd"
      refine ⟨r, _, rfl, SqL.of hr1, for_it walk_enum (fun i σ H' => ∃ v2 v3, σ = [some (.str a), some (.ref r), v2, v3, none] ∧ Same H1 H' ∧ ∃ st, runA (ws.take i) = some st) ⟨none, none, rfl, Same.refl H1, [[]], by rw [List.take_zero]; rfl⟩ (fun i σ H' _ z => by obtain ⟨_, _, _, z, _⟩ := z; exact SqL.of (z _ _ hr1)) ?_ ?_⟩
      · rintro i y σ H2 H3 hi ⟨v2, v3, rfl, s2, st, rst⟩ ⟨tt, i', y', rfl, htt, rfl, e1, e2⟩
        cases (Option.some.inj e1)
        obtain ⟨x, ex, rfl, bx⟩ := at_ e2
        have hi : i < ws.length := (List.getElem?_eq_some_iff.mp ex).1
        have s3 := Same.up (o := .tup [V.int (i : Int), V.str x]) (Same.refl H2) htt
        refine r_gtup ⟨tt, _, rfl, SqT.of upd_same, rfl, _, _, rfl, ?_⟩
        generalize upd H2 tt (.tup [V.int (i : Int), V.str x]) = H3 at s3 ⊢
        have hr3 := s3 _ _ (s2 _ _ hr1)
        have step := runA_step ex
        rw [rst] at step
        walk_at "rd"
        refine ⟨_, _, rfl, ?_⟩
        walk_at "rd"
        refine ⟨rfl, ?_⟩
        walk_at "rd"
        refine ⟨x, rfl, Nat.le_trans bx (by decide), fun H4 s4 => ?_⟩
        have s24 := s2.trans (s3.trans s4)
        have s14 := s1.trans s24
        have shp := runA_shape ws i st (by omega) rst
        have two : ∃ a b, st = [a] ∨ st = [a, b] := by
          rcases shp with ⟨e, _⟩ | ⟨A, B, _, e, _⟩
          · exact ⟨_, [], .inl e⟩
          · exact ⟨_, _, .inr e⟩
        obtain ⟨sa, sb, two⟩ := two
        cases c : amtB x with
        | true =>
          obtain ⟨su, esu⟩ := stepA_good c two
          refine ⟨_, rfl, ifF rfl ?_⟩
          walk_at "rd"
          exact ⟨_, _, rfl, s24, su, by rw [step]; exact esu⟩
        | false =>
          refine ⟨_, rfl, ifT rfl ?_⟩
          walk_at "rd"
          refine r_ne rfl ?_
          refine ⟨_, rfl, ?_⟩
          by_cases d : x = "|"
          · refine ifF (by rw [d]; decide +kernel) ?_
            walk_at "rd"
            refine r_bm ?_
            walk_at "rd"
            refine ⟨.inl ⟨rfl, _, SqL.of (s4 _ _ hr3)⟩, ?_⟩
            walk_at "rd"
            have cutW : ws = ws.take i ++ x :: ws.drop (i + 1) := by
              rw [show x :: ws.drop (i + 1) = ws.drop i from (by
                rw [List.drop_eq_getElem_cons hi]
                rw [show ws[i] = x from by rw [List.getElem?_eq_getElem hi] at ex; exact Option.some.inj ex])]
              exact (List.take_append_drop i ws).symm
            rcases shp with ⟨e, g⟩ | ⟨A, B, eA, e, gA, gB⟩
            · have nb : ("|" : Str) ∉ ws.take i := fun m => by
                have := g _ m
                rw [bar_no] at this
                cases this
              have li : (ws.take i).length = i := by rw [List.length_take]; omega
              refine r_idxS (A := ws.take i) (B := ws.drop (i + 1)) (by rw [← d, ← cutW]; exact SqL.of (s4 _ _ hr3)) nb ?_
              rw [li]
              walk_at "rd"
              refine ite_dec (fun q => absurd q (by omega)) (fun _ => ?_)
              walk_at "rd"
              refine ⟨_, _, rfl, s24, [(ws.take i).map numV, []], ?_⟩
              rw [step, e]
              exact (if_neg (by rw [c]; decide)).trans (if_pos d)
            · have nb : ("|" : Str) ∉ A := fun m => by
                have := gA _ m
                rw [bar_no] at this
                cases this
              have lA : A.length < i := by
                have := congrArg List.length eA
                rw [List.length_take, List.length_append, List.length_cons] at this
                omega
              refine r_idxS (A := A) (B := B ++ x :: ws.drop (i + 1)) (by
                have : ws = A ++ ("|" : Str) :: (B ++ x :: ws.drop (i + 1)) := by
                  have h2 := cutW
                  rw [eA, List.append_assoc] at h2
                  exact h2
                rw [← this]
                exact SqL.of (s4 _ _ hr3)) nb ?_
              walk_at "rd"
              refine ite_dec (fun _ => ?_) (fun q => absurd (show (A.length : Int) < (i : Int) by omega) q)
              walk_at "rd"
              refine r_mkErr ?_
              walk_at "rd"
              refine r_err2 (σ := []) (.int _) (.int _) (.int _) (.int _) fun dd u1 v1 H' s5 h1 h2 o1 o2 => ?_
              cases o1
              cases o2
              exact k1 _ _ (.txt i x st rst ex (stepA_bad c (.inr e))) dd H' (s14.trans s5) (s14.free h1) h2
          · refine ifT (by rw [decide_eq_false fun z => d (V.str.inj z)]; rfl) ?_
            walk_at "rd"
            refine r_mkErr ?_
            walk_at "rd"
            refine r_err2 (σ := []) (.int _) (.int _) (.int _) (.int _) fun dd u1 v1 H' s5 h1 h2 o1 o2 => ?_
            cases o1
            cases o2
            exact k1 _ _ (.txt i x st rst ex (stepA_bad c (two.imp (fun e => ⟨e, d⟩) fun e => e))) dd H' (s14.trans s5) (s14.free h1) h2
      · rintro σ H2 ⟨v2, v3, rfl, s2, st, rst⟩
        have wl2 : (ws.map V.str).length = ws.length := List.length_map ..
        rw [wl2] at rst
        have shp := runA_shape ws ws.length st (Nat.le_refl _) rst
        rw [List.take_length] at rst shp
        have hr2 := s2 _ _ hr1
        have s12 := s1.trans s2
        walk_at "rd"
        refine ⟨.str "|", _, .str _, .lst (SqL.of hr2) (strs_dp ws), rfl, ⟨strs_plain ws, strs_depth ws⟩, ?_⟩
        rw [if_pos rfl, strs_any]
        refine ⟨_, rfl, ?_⟩
        rcases shp with ⟨e, g⟩ | ⟨A, B, eA, e, gA, gB⟩
        · have nb : ("|" : Str) ∉ ws := fun m => by
            have := g _ m
            rw [bar_no] at this
            cases this
          refine ifT (by rw [decide_eq_false nb]; rfl) ?_
          walk_at "rd"
          refine r_mkErr ?_
          walk_at "rd"
          refine r_lenL (SqL.of hr2) ?_
          walk_at "rd"
          rw [wl2]
          refine r_err2 (σ := []) (.int _) (.int _) (.int _) (.int _) fun dd u1 v1 H' s5 h1 h2 o1 o2 => ?_
          cases o1
          cases o2
          exact k1 _ _ (.one _ (rst.trans (congrArg some e))) dd H' (s12.trans s5) (s12.free h1) h2
        · have mb : ("|" : Str) ∈ ws := by rw [eA]; exact List.mem_append_right _ (List.mem_cons_self ..)
          have nb : ("|" : Str) ∉ A := fun m => by
            have := gA _ m
            rw [bar_no] at this
            cases this
          refine ifF (by rw [decide_eq_true mb]; rfl) ?_
          have rAB := rst.trans (congrArg some e)
          walk_at "rd"
          refine r_bm ?_
          walk_at "rd"
          refine ⟨.inl ⟨rfl, _, SqL.of hr2⟩, ?_⟩
          walk_at "rd"
          refine r_idxS (A := A) (B := B) (by rw [← eA]; exact SqL.of hr2) nb ?_
          walk_at "rd"
          have lens : ws.length = A.length + 1 + B.length := by rw [eA, List.length_append, List.length_cons]; omega
          refine ⟨r, _, rfl, SqL.of hr2, fun p1 np1 => ?_⟩
          rw [show cutV (ws.map V.str) none (some (A.length : Int)) = A.map V.str by
            rw [cutAt (by rw [List.length_map]; omega), eA, List.map_append, List.take_append_of_le_length (by rw [List.length_map]; omega), List.take_of_length_le (by rw [List.length_map]; omega)]]
          have t1 := Same.up (o := .lst (A.map V.str)) (Same.refl H2) np1
          have hslDA := @upd_same H2 p1 (.lst (A.map V.str))
          generalize upd H2 p1 (.lst (A.map V.str)) = H3 at t1 hslDA ⊢
          refine ⟨p1, rfl, ⟨_, SqL.of hslDA⟩, fun DA nDA => lc_it walk_list (Out H3 DA fun i => V.int (numV (A.getD i ""))) (Out.start nDA) (fun i H' _ o => SqL.of (o.1 _ _ hslDA)) ?_ ?_⟩
          · rintro i y H5 H6 hi o ⟨rfl, ey⟩
            rw [List.getElem?_map] at ey
            obtain ⟨w, hw, rfl⟩ := Option.map_eq_some_iff.mp ey
            have gw : A.getD i "" = w := by rw [List.getD_eq_getElem?_getD, hw]; rfl
            obtain ⟨n, it, _, _, nv, l60⟩ := amt_num (gA w (List.mem_of_getElem? hw))
            have hi : i < A.length := (List.getElem?_eq_some_iff.mp hw).1
            have out := o.more nDA (Same.refl _) (Nat.lt_of_lt_of_le (show i < 5102 by omega) (by decide))
            rw [gw, nv] at out
            walk_at "rd"
            refine ⟨rfl, ?_⟩
            walk_at "rd"
            exact ⟨w, _, rfl, it, by rw [len_tl]; omega, out⟩
          rintro H4 ⟨tDA, hDA⟩
          have elDA : (List.range (A.map V.str).length).map (fun i => V.int (numV (A.getD i ""))) = (A.map numV).map V.int := by
            apply List.ext_getElem
            · simp
            · intro n h1 h2
              have hn : n < A.length := by simpa using h2
              simp [List.getD_eq_getElem?_getD, List.getElem?_eq_getElem hn]
          rw [elDA] at hDA
          walk_at "rd"
          refine ⟨r, _, rfl, SqL.of (tDA _ _ (t1 _ _ hr2)), fun p2 np2 => ?_⟩
          rw [show cutV (ws.map V.str) (some ((A.length : Int) + 1)) none = B.map V.str by
            rw [show (A.length : Int) + 1 = ((A.length + 1 : Nat) : Int) by omega, cutDrop (by rw [List.length_map]; omega), eA, ← List.map_drop]
            congr 1
            rw [List.drop_append, List.drop_of_length_le (by omega), show A.length + 1 - A.length = 1 by omega]; rfl]
          have t2 := Same.up (o := .lst (B.map V.str)) (Same.refl H4) np2
          have hslDB := @upd_same H4 p2 (.lst (B.map V.str))
          generalize upd H4 p2 (.lst (B.map V.str)) = H7 at t2 hslDB ⊢
          refine ⟨p2, rfl, ⟨_, SqL.of hslDB⟩, fun DB nDB => lc_it walk_list (Out H7 DB fun i => V.int (numV (B.getD i ""))) (Out.start nDB) (fun i H' _ o => SqL.of (o.1 _ _ hslDB)) ?_ ?_⟩
          · rintro i y H5 H6 hi o ⟨rfl, ey⟩
            rw [List.getElem?_map] at ey
            obtain ⟨w, hw, rfl⟩ := Option.map_eq_some_iff.mp ey
            have gw : B.getD i "" = w := by rw [List.getD_eq_getElem?_getD, hw]; rfl
            obtain ⟨n, it, _, _, nv, l60⟩ := amt_num (gB w (List.mem_of_getElem? hw))
            have hi : i < B.length := (List.getElem?_eq_some_iff.mp hw).1
            have out := o.more nDB (Same.refl _) (Nat.lt_of_lt_of_le (show i < 5102 by omega) (by decide))
            rw [gw, nv] at out
            walk_at "rd"
            refine ⟨rfl, ?_⟩
            walk_at "rd"
            exact ⟨w, _, rfl, it, by rw [len_tl]; omega, out⟩
          rintro H8 ⟨tDB, hDB⟩
          have elDB : (List.range (B.map V.str).length).map (fun i => V.int (numV (B.getD i ""))) = (B.map numV).map V.int := by
            apply List.ext_getElem
            · simp
            · intro n h1 h2
              have hn : n < B.length := by simpa using h2
              simp [List.getD_eq_getElem?_getD, List.getElem?_eq_getElem hn]
          rw [elDB] at hDB
          walk_at "rd"
          intro y dy ny nd ne
          have hA8 := tDB _ _ (t2 _ _ hDA)
          have s18 := s12.trans (t1.trans (tDA.trans (t2.trans tDB)))
          have sm : Same H8 (upd (upd H8 dy (.own y)) y (.ins CA dy [])) := fun c o e => by
            rw [upd_ne (fun z => by rw [z, ny] at e; cases e), upd_ne (fun z => by rw [z, nd] at e; cases e)]
            exact e
          show spAmG K CA CAE [V.ref y, V.ref DA, V.ref DB] _ _ _
          refine ⟨y, dy, _, _, intsD (A.map numV), intsD (B.map numV), rfl, upd_same, by rw [upd_ne ne, upd_same], ne, .lst (SqL.of (sm _ _ hA8)) (dp_ints _), .lst (SqL.of (sm _ _ hDB)) (dp_ints _), fun ms ns em en gm gn H' p q np nq pq X fr => ?_, fun z kk bk dd H' s5 h1 h2 => ?_⟩
          · have em : A.map numV = ms := ints_inj (PyData.list.inj em)
            have en : B.map numV = ns := ints_inj (PyData.list.inj en)
            have rd := ReadA.two _ _ rAB
            rw [em, en] at rd
            have nm : badN ms ≠ true := fun z => by
              have := badL_good gm
              rw [← em] at this z
              rw [badN_badL A gA, if_pos z] at this
              cases this
            have nn : badN ns ≠ true := fun z => by
              have := badL_good gn
              rw [← en] at this z
              rw [badN_badL B gB, if_pos z] at this
              cases this
            rw [show amO ms ns = .ok ms ns by unfold amO; rw [if_neg nm, if_neg nn]] at rd
            refine ⟨rfl, k3 ms ns rd gm gn y dy p q H' (fun c o e => ?_) X⟩
            have e8 := s18 _ _ e
            exact fr c o (fun z => by rw [z, ny] at e8; cases e8) (sm _ _ e8)
          · have rd := ReadA.two _ _ rAB
            unfold badA at bk
            rw [badN_badL A gA, badN_badL B gB] at bk
            unfold amO at rd
            by_cases bA : badN (A.map numV) = true
            · rw [if_pos bA] at rd bk
              cases bk
              exact k2 _ rd dd H' (s18.trans (sm.trans s5)) ((s18.trans sm).free h1) h2
            · rw [if_neg bA] at rd bk
              by_cases bB : badN (B.map numV) = true
              · rw [if_pos bB] at rd bk
                cases bk
                exact k2 _ rd dd H' (s18.trans (sm.trans s5)) ((s18.trans sm).free h1) h2
              · rw [if_neg bB] at bk
                cases bk
    · walk_at "rd"
      exact ⟨_, rfl, .inr ⟨ns, ke⟩⟩
end
end Pk
set_option Elab.async false
set_option linter.all false
set_option maxRecDepth 100000
set_option maxHeartbeats 4000000
namespace Pk
open PySem L2
local macro_rules | `(tactic| walk_at "rd") => `(tactic| repeat (first
  | with_reducible refine r_seq ?_ | with_reducible refine r_nxt ?_ | with_reducible refine r_asg ?_ | with_reducible refine r_to ?_ | with_reducible refine r_ret ?_ | with_reducible refine r_for ?_ | with_reducible refine r_lc ?_ | with_reducible refine r_lc2 ?_ | with_reducible refine r_rng1 ?_ | with_reducible refine r_list ?_ | with_reducible refine r_tupI ?_ | with_reducible refine r_drop ?_ | with_reducible refine r_ifs ?_
  | with_reducible refine r_op ?_ | with_reducible refine r_c ?_ | with_reducible refine r_var rfl ?_ | with_reducible refine r_var (by assumption) ?_ | with_reducible refine r_I0 ?_ | with_reducible refine r_un ?_ | with_reducible refine r_U ?_ | with_reducible refine r_make ?_ | with_reducible refine r_makeS ?_ | with_reducible refine r_ifE ?_ | with_reducible refine r_cm ?_ | with_reducible refine r_mkV rfl ?_ | with_reducible refine r_sub ?_
  | with_reducible refine r_nil ?_ | with_reducible refine r_cons ?_ | with_reducible refine r_cb ?_ | with_reducible refine r_sl ?_ | with_reducible refine r_noP ?_ | with_reducible refine r_part ?_ | with_reducible refine r_isI ?_ | with_reducible refine r_lst ?_ | with_reducible refine r_tup ?_ | with_reducible refine r_call ?_ | with_reducible refine r_callS ?_ | with_reducible refine r_sFldU ?_ | with_reducible refine r_chain ?_ | with_reducible refine r_enum ?_ | with_reducible refine r_zip ?_ | with_reducible refine r_rng3 ?_ | with_reducible refine r_gtup ?_ | with_reducible refine r_methU ?_
  | with_reducible refine r_test ?_ | with_reducible refine r_B ?_ | with_reducible refine r_and ?_ | with_reducible refine r_or ?_ | with_reducible refine r_not ?_ | with_reducible refine r_andV ?_ | with_reducible refine r_orV ?_ | with_reducible refine r_notV ?_ | with_reducible refine r_bl ?_ | with_reducible refine r_yes ?_ | with_reducible refine r_int ?_ | with_reducible refine r_is0 ?_ | with_reducible refine r_is1 ?_ | with_reducible refine iteT ?_ | with_reducible refine iteF ?_ | with_reducible refine ite_nF ?_ | with_reducible refine ite_nT ?_
  | with_reducible refine r_mod (by decide) ?_ | with_reducible refine r_div (by decide) (by decide) ?_ | with_reducible refine r_mulR (by decide) (by decide) ?_ | with_reducible refine r_mulL (by decide) (by decide) ?_ | with_reducible refine r_pow (by decide) (by decide) (by decide) ?_))
/-! ### amounts as a text -/
open _root_.TL
theorem words_le {ms ns : List Int} (a : AmB ms) (b : AmB ns) : ∀ w, w ∈ ms.map numW ++ ("|" : Str) :: ns.map numW → (tl w).length ≤ 61 := fun w h => by
  have one : ∀ {xs : List Int}, AmB xs → ∀ w, w ∈ xs.map numW → (tl w).length ≤ 61 := fun {xs} g w h => by
    obtain ⟨v, hv, rfl⟩ := List.mem_map.mp h
    obtain ⟨v0, v1⟩ := g v hv
    exact numW_len ⟨by omega, v1⟩
  rcases List.mem_append.mp h with h | h
  · exact one a w h
  · rcases List.mem_cons.mp h with rfl | h
    · decide +kernel
    · exact one b w h
theorem joinA_len {ms ns : List Int} (a : AmB ms) (b : AmB ns) (la : ms.length ≤ 10) (lb : ns.length ≤ 10) : (tl (joinA ms ns)).length ≤ 1302 := by
  unfold joinA
  rw [join_eq, tl_join, tl_sp]
  have := joinL_len (S := [32]) (b := 61) ((ms.map numW ++ ("|" : Str) :: ns.map numW).map tl) fun p hp => by
    obtain ⟨x, hx, rfl⟩ := List.mem_map.mp hp
    exact words_le a b x hx
  have ll : ((ms.map numW ++ ("|" : Str) :: ns.map numW).map tl).length ≤ 21 := by simp only [List.length_append, List.length_map, List.length_cons]; omega
  have l1 : [32].length = 1 := rfl
  rw [l1] at this
  omega
def spJoined : Sp := fun vs H Q _ => ∃ (p q : Addr) (ms ns : List Int), vs = [.ref p, .ref q] ∧ H p = some (.lst (ms.map V.int)) ∧ H q = some (.lst (ns.map V.int)) ∧ AmB ms ∧ AmB ns ∧ ms.length ≤ 10 ∧ ns.length ≤ 10 ∧ ∀ H' : Hp, Same H H' → Q (.str (joinA ms ns)) H'
abbrev slJoined : Stmt := top 34
section
variable {P : Program} {w : World} {K : PySem.W.Frag} {mg : Str → Option Value} {base : Heap} {CA f : Addr} {fd : FuncData}
theorem sclShowA : FnScope ["amounts", "words", "amount"] ["amounts"] (defScope slShowA) := ⟨rfl, rfl, rfl, by decide +kernel, rfl, by decide +kernel, by decide +kernel⟩
theorem ok_showA {fS fW : Addr} {fdS fdW : FuncData} {t1 : Tok} (F : Fun K "show_amounts" "show_amounts" slShowA f fd) (T : Bt mg) (hB : mg "BETWEEN" = some (.str "|" t1)) (A : AmC K CA) (mS : Meth K CA "stocks" fS) (oS : FnOk P w K mg base CX0 1 fS fdS ["self"] (spGet CA fun ms _ => ms)) (bS : Binds K fdS ["self"] [])
    (mW : Meth K CA "wishes" fW) (oW : FnOk P w K mg base CX0 1 fW fdW ["self"] (spGet CA fun _ ns => ns)) (bW : Binds K fdW ["self"] []) : FnOk P w K mg base CX0 3 f fd ["amounts"] (spShowA CA) := by
  refine F.ok sclShowA (fun vs H Q E h => ?_) (fun cdv A' outer s H vs Q E hr h => ?_)
  · obtain ⟨x, dx, p, q, ms, ns, rfl, _⟩ := h
    rfl
  · obtain ⟨x, dx, p, q, ms, ns, rfl, X, am, an, lm, ln, k⟩ := h
    have hr1 := hr.mono (show 1 ≤ 2 by decide)
    refine ⟨_, (pss_cons (ps_set (i := 1) sclShowA.nd rfl (Or.inl rfl) (pe_op op_cat (pe_op op_cat (pe_lc (own := [("amount", 2)]) (g := gName 2) (te := tCB rStrI (tCons (tVar 2) tNil)) rfl sclShowA.nd (pi_list (pe_meth0 (pv 0) A.cls mS oS hr1 bS .nil pass0)) (blkOk_by (own := [("amount", 2)]) (N := ["amounts", "words", "amount"]) (sc := defScope slShowA) (by decide +kernel)) (fun _ _ _ _ _ => pg_name (i := 2) sclShowA.nd rfl (Or.inl rfl)) (fun _ _ _ _ _ => pts_nil) (fun _ _ _ _ _ => (pe_callTy cl_strI (by rfl) T.str (by decide +kernel) (pa_cons (pv 2) pa_nil)))) (pe_lst (pa_cons (pe_glob (v := .str "|") (by rfl) hB ⟨t1, rfl⟩) pa_nil))) (pe_lc (own := [("amount", 2)]) (g := gName 2) (te := tCB rStrI (tCons (tVar 2) tNil)) rfl sclShowA.nd (pi_list (pe_meth0 (pv 0) A.cls mW oW hr1 bW .nil pass0)) (blkOk_by (own := [("amount", 2)]) (N := ["amounts", "words", "amount"]) (sc := defScope slShowA) (by decide +kernel)) (fun _ _ _ _ _ => pg_name (i := 2) sclShowA.nd rfl (Or.inl rfl)) (fun _ _ _ _ _ => pts_nil) (fun _ _ _ _ _ => (pe_callTy cl_strI (by rfl) T.str (by decide +kernel) (pa_cons (pv 2) pa_nil))))))
  (pss_one (ps_ret (pe_join pe_str (pv 1))))), ?_⟩
    walk_at "rd"
    refine ⟨x, dx, _, rfl, X.o, two_no (by decide +kernel) (by decide +kernel), ?_⟩
    walk_at "rd"
    refine ⟨x, dx, p, q, ms, ns, rfl, X, fun p1 np1 => ?_⟩
    have t1' := Same.up (o := .lst (ms.map V.int)) (Same.refl H) np1
    have hslDA := @upd_same H p1 (.lst (ms.map V.int))
    generalize upd H p1 (.lst (ms.map V.int)) = H3 at t1' hslDA ⊢
    refine ⟨p1, rfl, ⟨_, SqL.of hslDA⟩, fun DA nDA => lc_it walk_list (Out H3 DA fun i => V.str (numW (ms.getD i 0))) (Out.start nDA) (fun i H' _ o => SqL.of (o.1 _ _ hslDA)) ?_ ?_⟩
    · rintro i y H5 H6 hi o ⟨rfl, ey⟩
      rw [List.getElem?_map] at ey
      obtain ⟨v, hv, rfl⟩ := Option.map_eq_some_iff.mp ey
      have gv : ms.getD i 0 = v := by rw [List.getD_eq_getElem?_getD, hv]; rfl
      obtain ⟨v0, v1⟩ := am v (List.mem_of_getElem? hv)
      have hi : i < ms.length := (List.getElem?_eq_some_iff.mp hv).1
      have out := o.more nDA (Same.refl _) (Nat.lt_of_lt_of_le (show i < 902 by omega) (by decide))
      rw [gv] at out
      walk_at "rd"
      refine ⟨rfl, ?_⟩
      walk_at "rd"
      exact ⟨v, rfl, log_1920 ⟨by omega, v1⟩, out⟩
    rintro H4 ⟨tDA, hDA⟩
    have elDA : (List.range (ms.map V.int).length).map (fun i => V.str (numW (ms.getD i 0))) = (ms.map numW).map V.str := by
      apply List.ext_getElem
      · simp
      · intro n h1 h2
        have hn : n < ms.length := by simpa using h2
        simp [List.getD_eq_getElem?_getD, List.getElem?_eq_getElem hn]
    rw [elDA] at hDA
    walk_at "rd"
    refine ⟨by show 1 ≤ sizeLine; decide, fun p2 np2 => ?_⟩
    have t2 := Same.up (o := .lst [V.str "|"]) (Same.refl H4) np2
    have hp2 := @upd_same H4 p2 (.lst [V.str "|"])
    generalize upd H4 p2 (.lst [V.str "|"]) = H7 at t2 hp2 ⊢
    refine r_cat (t2 _ _ hDA) hp2 (by simp only [List.length_map, List.length_cons, List.length_nil]; exact Nat.le_trans (show ms.length + 1 ≤ 900 by omega) (by decide)) fun p3 np3 => ?_
    have t3 := Same.up (o := .lst ((ms.map numW).map V.str ++ [V.str "|"])) (Same.refl H7) np3
    have hp3 := @upd_same H7 p3 (.lst ((ms.map numW).map V.str ++ [V.str "|"]))
    generalize upd H7 p3 (.lst ((ms.map numW).map V.str ++ [V.str "|"])) = H8 at t3 hp3 ⊢
    walk_at "rd"
    have s8 := t1'.trans (tDA.trans (t2.trans t3))
    refine ⟨x, dx, _, rfl, s8 _ _ X.o, two_no (by decide +kernel) (by decide +kernel), ?_⟩
    walk_at "rd"
    refine ⟨x, dx, p, q, ms, ns, rfl, X.same s8, fun p5 np5 => ?_⟩
    have t5 := Same.up (o := .lst (ns.map V.int)) (Same.refl H8) np5
    have hslDB := @upd_same H8 p5 (.lst (ns.map V.int))
    generalize upd H8 p5 (.lst (ns.map V.int)) = H9 at t5 hslDB ⊢
    refine ⟨p5, rfl, ⟨_, SqL.of hslDB⟩, fun DB nDB => lc_it walk_list (Out H9 DB fun i => V.str (numW (ns.getD i 0))) (Out.start nDB) (fun i H' _ o => SqL.of (o.1 _ _ hslDB)) ?_ ?_⟩
    · rintro i y H5 H6 hi o ⟨rfl, ey⟩
      rw [List.getElem?_map] at ey
      obtain ⟨v, hv, rfl⟩ := Option.map_eq_some_iff.mp ey
      have gv : ns.getD i 0 = v := by rw [List.getD_eq_getElem?_getD, hv]; rfl
      obtain ⟨v0, v1⟩ := an v (List.mem_of_getElem? hv)
      have hi : i < ns.length := (List.getElem?_eq_some_iff.mp hv).1
      have out := o.more nDB (Same.refl _) (Nat.lt_of_lt_of_le (show i < 902 by omega) (by decide))
      rw [gv] at out
      walk_at "rd"
      refine ⟨rfl, ?_⟩
      walk_at "rd"
      exact ⟨v, rfl, log_1920 ⟨by omega, v1⟩, out⟩
    rintro HZ ⟨tDB, hDB⟩
    have elDB : (List.range (ns.map V.int).length).map (fun i => V.str (numW (ns.getD i 0))) = (ns.map numW).map V.str := by
      apply List.ext_getElem
      · simp
      · intro n h1 h2
        have hn : n < ns.length := by simpa using h2
        simp [List.getD_eq_getElem?_getD, List.getElem?_eq_getElem hn]
    rw [elDB] at hDB
    refine r_cat (tDB _ _ (t5 _ _ hp3)) hDB (by simp only [List.length_append, List.length_map, List.length_cons, List.length_nil]; exact Nat.le_trans (show ms.length + 1 + ns.length ≤ 900 by omega) (by decide)) fun p4 np4 => ?_
    rw [show ((ms.map numW).map V.str ++ [V.str "|"]) ++ (ns.map numW).map V.str = (ms.map numW ++ ("|" : Str) :: ns.map numW).map V.str by simp]
    have t4 := Same.up (o := .lst ((ms.map numW ++ ("|" : Str) :: ns.map numW).map V.str)) (Same.refl HZ) np4
    have hp4 := @upd_same HZ p4 (.lst ((ms.map numW ++ ("|" : Str) :: ns.map numW).map V.str))
    generalize upd HZ p4 (.lst ((ms.map numW ++ ("|" : Str) :: ns.map numW).map V.str)) = HY at t4 hp4 ⊢
    walk_at "rd"
    refine r_tM1 ?_
    walk_at "rd"
    refine ⟨⟨_, rfl⟩, ?_⟩
    walk_at "rd"
    refine ⟨" ", p4, _, rfl, rfl, .inl (SqL.of hp4), ?_, ?_⟩
    · have := sum_le (B := 61) (ms.map numW ++ ("|" : Str) :: ns.map numW) (words_le am an)
      have l1 : (" " : Str).length = 1 := by decide +kernel
      rw [l1]
      have ll : (ms.map numW ++ ("|" : Str) :: ns.map numW).length ≤ 21 := by simp only [List.length_append, List.length_map, List.length_cons]; omega
      omega
    · exact k HY (s8.trans (t5.trans (tDB.trans t4)))
theorem sclJoined : FnScope ["_law_stocks", "_law_wishes", "_law_words", "_law_k"] ["_law_stocks", "_law_wishes"] (defScope slJoined) := ⟨rfl, rfl, rfl, by decide +kernel, rfl, by decide +kernel, by decide +kernel⟩
theorem ok_joined (F : Fun K "_law_joined" "_law_joined" slJoined f fd) (T : Bt mg) : FnOk P w K mg base CX0 3 f fd ["_law_stocks", "_law_wishes"] spJoined := by
  refine F.ok sclJoined (fun vs H Q E h => ?_) (fun cdv A' outer s H vs Q E hr h => ?_)
  · obtain ⟨p, q, ms, ns, rfl, _⟩ := h
    rfl
  · obtain ⟨p, q, ms, ns, rfl, hslDA, hq, am, an, lm, ln, k⟩ := h
    refine ⟨_, (pss_cons (ps_set (i := 2) sclJoined.nd rfl (Or.inl rfl) (pe_op op_cat (pe_op op_cat (pe_lc (own := [("_law_k", 3)]) (g := gName 3) (te := tCB rStrI (tCons (tVar 3) tNil)) rfl sclJoined.nd (pi_list (pv 0)) (blkOk_by (own := [("_law_k", 3)]) (N := ["_law_stocks", "_law_wishes", "_law_words", "_law_k"]) (sc := defScope slJoined) (by decide +kernel)) (fun _ _ _ _ _ => pg_name (i := 3) sclJoined.nd rfl (Or.inl rfl)) (fun _ _ _ _ _ => pts_nil) (fun _ _ _ _ _ => (pe_callTy cl_strI (by rfl) T.str (by decide +kernel) (pa_cons (pv 3) pa_nil)))) (pe_lst (pa_cons pe_str pa_nil))) (pe_lc (own := [("_law_k", 3)]) (g := gName 3) (te := tCB rStrI (tCons (tVar 3) tNil)) rfl sclJoined.nd (pi_list (pv 1)) (blkOk_by (own := [("_law_k", 3)]) (N := ["_law_stocks", "_law_wishes", "_law_words", "_law_k"]) (sc := defScope slJoined) (by decide +kernel)) (fun _ _ _ _ _ => pg_name (i := 3) sclJoined.nd rfl (Or.inl rfl)) (fun _ _ _ _ _ => pts_nil) (fun _ _ _ _ _ => (pe_callTy cl_strI (by rfl) T.str (by decide +kernel) (pa_cons (pv 3) pa_nil))))))
  (pss_one (ps_ret (pe_join pe_str (pv 2))))), ?_⟩
    walk_at "rd"
    refine ⟨p, rfl, ⟨_, SqL.of hslDA⟩, fun DA nDA => lc_it walk_list (Out H DA fun i => V.str (numW (ms.getD i 0))) (Out.start nDA) (fun i H' _ o => SqL.of (o.1 _ _ hslDA)) ?_ ?_⟩
    · rintro i y H5 H6 hi o ⟨rfl, ey⟩
      rw [List.getElem?_map] at ey
      obtain ⟨v, hv, rfl⟩ := Option.map_eq_some_iff.mp ey
      have gv : ms.getD i 0 = v := by rw [List.getD_eq_getElem?_getD, hv]; rfl
      obtain ⟨v0, v1⟩ := am v (List.mem_of_getElem? hv)
      have hi : i < ms.length := (List.getElem?_eq_some_iff.mp hv).1
      have out := o.more nDA (Same.refl _) (Nat.lt_of_lt_of_le (show i < 902 by omega) (by decide))
      rw [gv] at out
      walk_at "rd"
      refine ⟨rfl, ?_⟩
      walk_at "rd"
      exact ⟨v, rfl, log_1920 ⟨by omega, v1⟩, out⟩
    rintro H4 ⟨tDA, hDA⟩
    have elDA : (List.range (ms.map V.int).length).map (fun i => V.str (numW (ms.getD i 0))) = (ms.map numW).map V.str := by
      apply List.ext_getElem
      · simp
      · intro n h1 h2
        have hn : n < ms.length := by simpa using h2
        simp [List.getD_eq_getElem?_getD, List.getElem?_eq_getElem hn]
    rw [elDA] at hDA
    walk_at "rd"
    refine ⟨by show 1 ≤ sizeLine; decide, fun p2 np2 => ?_⟩
    have t2 := Same.up (o := .lst [V.str "|"]) (Same.refl H4) np2
    have hp2 := @upd_same H4 p2 (.lst [V.str "|"])
    generalize upd H4 p2 (.lst [V.str "|"]) = H7 at t2 hp2 ⊢
    refine r_cat (t2 _ _ hDA) hp2 (by simp only [List.length_map, List.length_cons, List.length_nil]; exact Nat.le_trans (show ms.length + 1 ≤ 900 by omega) (by decide)) fun p3 np3 => ?_
    have t3 := Same.up (o := .lst ((ms.map numW).map V.str ++ [V.str "|"])) (Same.refl H7) np3
    have hp3 := @upd_same H7 p3 (.lst ((ms.map numW).map V.str ++ [V.str "|"]))
    generalize upd H7 p3 (.lst ((ms.map numW).map V.str ++ [V.str "|"])) = H8 at t3 hp3 ⊢
    walk_at "rd"
    have s8 := tDA.trans (t2.trans t3)
    have hslDB := s8 _ _ hq
    refine ⟨q, rfl, ⟨_, SqL.of hslDB⟩, fun DB nDB => lc_it walk_list (Out H8 DB fun i => V.str (numW (ns.getD i 0))) (Out.start nDB) (fun i H' _ o => SqL.of (o.1 _ _ hslDB)) ?_ ?_⟩
    · rintro i y H5 H6 hi o ⟨rfl, ey⟩
      rw [List.getElem?_map] at ey
      obtain ⟨v, hv, rfl⟩ := Option.map_eq_some_iff.mp ey
      have gv : ns.getD i 0 = v := by rw [List.getD_eq_getElem?_getD, hv]; rfl
      obtain ⟨v0, v1⟩ := an v (List.mem_of_getElem? hv)
      have hi : i < ns.length := (List.getElem?_eq_some_iff.mp hv).1
      have out := o.more nDB (Same.refl _) (Nat.lt_of_lt_of_le (show i < 902 by omega) (by decide))
      rw [gv] at out
      walk_at "rd"
      refine ⟨rfl, ?_⟩
      walk_at "rd"
      exact ⟨v, rfl, log_1920 ⟨by omega, v1⟩, out⟩
    rintro HZ ⟨tDB, hDB⟩
    have elDB : (List.range (ns.map V.int).length).map (fun i => V.str (numW (ns.getD i 0))) = (ns.map numW).map V.str := by
      apply List.ext_getElem
      · simp
      · intro n h1 h2
        have hn : n < ns.length := by simpa using h2
        simp [List.getD_eq_getElem?_getD, List.getElem?_eq_getElem hn]
    rw [elDB] at hDB
    refine r_cat (tDB _ _ hp3) hDB (by simp only [List.length_append, List.length_map, List.length_cons, List.length_nil]; exact Nat.le_trans (show ms.length + 1 + ns.length ≤ 900 by omega) (by decide)) fun p4 np4 => ?_
    rw [show ((ms.map numW).map V.str ++ [V.str "|"]) ++ (ns.map numW).map V.str = (ms.map numW ++ ("|" : Str) :: ns.map numW).map V.str by simp]
    have t4 := Same.up (o := .lst ((ms.map numW ++ ("|" : Str) :: ns.map numW).map V.str)) (Same.refl HZ) np4
    have hp4 := @upd_same HZ p4 (.lst ((ms.map numW ++ ("|" : Str) :: ns.map numW).map V.str))
    generalize upd HZ p4 (.lst ((ms.map numW ++ ("|" : Str) :: ns.map numW).map V.str)) = HY at t4 hp4 ⊢
    walk_at "rd"
    refine r_tM1 ?_
    walk_at "rd"
    refine ⟨⟨_, rfl⟩, ?_⟩
    walk_at "rd"
    refine ⟨" ", p4, _, rfl, rfl, .inl (SqL.of hp4), ?_, ?_⟩
    · have := sum_le (B := 61) (ms.map numW ++ ("|" : Str) :: ns.map numW) (words_le am an)
      have l1 : (" " : Str).length = 1 := by decide +kernel
      rw [l1]
      have ll : (ms.map numW ++ ("|" : Str) :: ns.map numW).length ≤ 21 := by simp only [List.length_append, List.length_map, List.length_cons]; omega
      omega
    · exact k HY (s8.trans (tDB.trans t4))
end
end Pk
set_option Elab.async false
set_option linter.all false
set_option maxRecDepth 100000
set_option maxHeartbeats 4000000
namespace Pk
open PySem L2
local macro_rules | `(tactic| walk_at "rd") => `(tactic| repeat (first
  | with_reducible refine r_seq ?_ | with_reducible refine r_nxt ?_ | with_reducible refine r_asg ?_ | with_reducible refine r_to ?_ | with_reducible refine r_ret ?_ | with_reducible refine r_for ?_ | with_reducible refine r_lc ?_ | with_reducible refine r_lc2 ?_ | with_reducible refine r_rng1 ?_ | with_reducible refine r_list ?_ | with_reducible refine r_tupI ?_ | with_reducible refine r_drop ?_ | with_reducible refine r_ifs ?_
  | with_reducible refine r_op ?_ | with_reducible refine r_c ?_ | with_reducible refine r_var rfl ?_ | with_reducible refine r_var (by assumption) ?_ | with_reducible refine r_I0 ?_ | with_reducible refine r_un ?_ | with_reducible refine r_U ?_ | with_reducible refine r_make ?_ | with_reducible refine r_makeS ?_ | with_reducible refine r_ifE ?_ | with_reducible refine r_cm ?_ | with_reducible refine r_mkV rfl ?_ | with_reducible refine r_sub ?_
  | with_reducible refine r_nil ?_ | with_reducible refine r_cons ?_ | with_reducible refine r_cb ?_ | with_reducible refine r_sl ?_ | with_reducible refine r_noP ?_ | with_reducible refine r_part ?_ | with_reducible refine r_isI ?_ | with_reducible refine r_lst ?_ | with_reducible refine r_tup ?_ | with_reducible refine r_call ?_ | with_reducible refine r_callS ?_ | with_reducible refine r_sFldU ?_ | with_reducible refine r_chain ?_ | with_reducible refine r_enum ?_ | with_reducible refine r_zip ?_ | with_reducible refine r_rng3 ?_ | with_reducible refine r_gtup ?_ | with_reducible refine r_methU ?_
  | with_reducible refine r_test ?_ | with_reducible refine r_B ?_ | with_reducible refine r_and ?_ | with_reducible refine r_or ?_ | with_reducible refine r_not ?_ | with_reducible refine r_andV ?_ | with_reducible refine r_orV ?_ | with_reducible refine r_notV ?_ | with_reducible refine r_bl ?_ | with_reducible refine r_yes ?_ | with_reducible refine r_int ?_ | with_reducible refine r_is0 ?_ | with_reducible refine r_is1 ?_ | with_reducible refine iteT ?_ | with_reducible refine iteF ?_ | with_reducible refine ite_nF ?_ | with_reducible refine ite_nT ?_
  | with_reducible refine r_mod (by decide) ?_ | with_reducible refine r_div (by decide) (by decide) ?_ | with_reducible refine r_mulR (by decide) (by decide) ?_ | with_reducible refine r_mulL (by decide) (by decide) ?_ | with_reducible refine r_pow (by decide) (by decide) (by decide) ?_))
theorem ifs_cut {c : TT} {a b : TS} {D : Ends} {σ : L2.St} {H : Hp} (Pv : L2.St → Hp → Prop) (h1 : ∀ N : L2.St → Hp → Prop, (∀ σ' H', Pv σ' H' → N σ' H') → tIfS c a b { D with nx := N } σ H) (h2 : ∀ σ' H', Pv σ' H' → D.nx σ' H') : tIfS c a b D σ H := h1 D.nx h2
/-! ### the number that a word says -/
open _root_.TL
/-- what _law_number tells -/
def NumR (a : Str) (v : V) : Prop := (amtB a = true ∧ v = .int (numV a)) ∨ (amtB a = false ∧ (v = .non ∨ ((tl a)[0]? = some 45 ∧ ∃ i, v = .int i)))
def spNumb : Sp := fun vs H Q _ => ∃ a : Str, vs = [.str a] ∧ (tl a).length ≤ 5100 ∧ ∀ v, NumR a v → Q v H
abbrev slNumb : Stmt := top 26
theorem neg_amt {a : Str} (h : (tl a)[0]? = some 45) : amtB a = false := by
  cases q : amtB a with
  | false => rfl
  | true =>
    unfold amtB at q
    simp only [Bool.and_eq_true, decide_eq_true_eq, List.all_eq_true] at q
    have := q.1.2 45 (List.mem_of_getElem? h)
    exact absurd this (by decide)
theorem amt_iff {a : Str} : amtB a = true ↔ 1 ≤ (tl a).length ∧ (tl a).length ≤ 60 ∧ (∀ c, c ∈ tl a → c ∈ digL) ∧ (a = "0" ∨ (tl a)[0]? ≠ some 48) := by
  unfold amtB
  simp only [Bool.and_eq_true, Bool.or_eq_true, decide_eq_true_eq, Bool.not_eq_true', decide_eq_false_iff_not, List.all_eq_true]
  exact ⟨fun h => ⟨h.1.1.1, h.1.1.2, h.1.2, h.2⟩, fun h => ⟨⟨⟨h.1, h.2.1⟩, h.2.2.1⟩, h.2.2.2⟩⟩
theorem not_amt {a : Str} (h : ¬ (1 ≤ (tl a).length ∧ (tl a).length ≤ 60 ∧ (∀ c, c ∈ tl a → c ∈ digL) ∧ (a = "0" ∨ (tl a)[0]? ≠ some 48))) : amtB a = false := by
  cases q : amtB a with
  | false => rfl
  | true => exact absurd (amt_iff.mp q) h
theorem tl_cut01 (x : Str) : tl (cutS x none (some 1)) = (tl x).take 1 := by
  unfold cutS
  rw [tl_mk]
  show List.take (HT.sIx x.length x.length (some ((1 : Nat) : Int)) - HT.sIx x.length 0 none) ((tl x).drop (HT.sIx x.length 0 none)) = _
  rw [HT.sIx_nat]
  show List.take (min 1 x.length - 0) ((tl x).drop 0) = _
  rw [List.drop_zero, Nat.sub_zero, len_tl]
  rcases Nat.le_total 1 (tl x).length with h | h
  · rw [Nat.min_eq_left h]
  · rw [Nat.min_eq_right h, List.take_length, List.take_of_length_le h]
theorem cut_minus (a : Str) : decide ((V.str (cutS a none (some 1)) : V) = V.str "-") = decide ((tl a)[0]? = some 45) := by
  refine decide_eq_decide.mpr ⟨fun z => ?_, fun z => ?_⟩
  · have := congrArg tl (V.str.inj z)
    rw [tl_cut01, show tl ("-" : Str) = [45] by decide +kernel] at this
    rw [show (tl a)[0]? = ((tl a).take 1)[0]? by rw [List.getElem?_take_of_lt (by decide)], this]; rfl
  · congr 1
    refine ext_tl ?_
    rw [tl_cut01, show tl ("-" : Str) = [45] by decide +kernel]
    cases q : tl a with
    | nil => rw [q] at z; cases z
    | cons c r =>
      rw [q] at z
      have z : some c = some 45 := z
      rw [Option.some.inj z]; rfl
section
variable {P : Program} {w : World} {K : PySem.W.Frag} {mg : Str → Option Value} {base : Heap} {f : Addr} {fd : FuncData}
theorem sclNumb : FnScope ["_law_word", "_law_digits", "_law_sign_here"] ["_law_word"] (defScope slNumb) := ⟨rfl, rfl, rfl, by decide +kernel, rfl, by decide +kernel, by decide +kernel⟩
theorem ok_numb (F : Fun K "_law_number" "_law_number" slNumb f fd) (T : Bt mg) : FnOk P w K mg base CX0 1 f fd ["_law_word"] spNumb := by
  refine F.ok sclNumb (fun vs H Q E h => ?_) (fun cdv A' outer s H vs Q E hr h => ?_)
  · obtain ⟨a, rfl, _⟩ := h
    rfl
  · obtain ⟨a, rfl, la, k⟩ := h
    refine ⟨_, (pss_cons (ps_set (i := 1) sclNumb.nd rfl (Or.inl rfl) (pv 0))
  (pss_cons (ps_if (pt_cmpR op_eq (pe_slice sl_str (pv 0) po_none (po_some pe_int)) pe_str (nomark _)) (pss_one (ps_set (i := 1) sclNumb.nd rfl (Or.inl rfl) (pe_slice sl_str (pv 0) (po_some pe_int) po_none))) pss_nil)
  (pss_cons (ps_if (PW.pt (pw_or (pt_cmpR op_eq (pv 1) pe_str (nomark _)) (pw_or1 (pt_cmpR op_gt (pe_callB cl_lenS (by rfl) T.len (by decide +kernel) (pa_cons (pv 1) pa_nil)) pe_int (nomark _))))) (pss_one (ps_ret pe_non)) pss_nil)
  (pss_cons (ps_for PassesOwn.never rfl (pi_str (pv 1)) (pg_name (i := 2) sclNumb.nd rfl (Or.inl rfl)) (pss_one (ps_if (pt_cmpR op_niG (pv 2) pe_str (by rfl)) (pss_one (ps_ret pe_non)) pss_nil)))
  (pss_cons (ps_if (PW.pt (pw_and (pt_cmpR op_eq (pe_ix ix_str (pv 1) pe_int (fun _ _ => rfl)) pe_str (nomark _)) (pw_and1 (pt_cmpR op_ne (pv 0) pe_str (nomark _))))) (pss_one (ps_ret pe_non)) pss_nil)
  (pss_one (ps_ret (pe_callTy cl_intS (by rfl) T.int (by decide +kernel) (pa_cons (pv 0) pa_nil))))))))), ?_⟩
    have hs := sizes la (by decide)
    have non : amtB a = false → Q .non H := fun e => k _ (.inr ⟨e, .inl rfl⟩)
    with_reducible refine r_seq ?_
    refine r_asg ?_
    refine r_var rfl ?_
    refine r_to ?_
    dsimp only
    with_reducible refine r_seq ?_
    refine ifs_cut (fun σ' H' => ∃ d : Str, σ' = [some (.str a), some (.str d), none] ∧ H' = H ∧ (((tl a)[0]? ≠ some 45 ∧ d = a) ∨ ((tl a)[0]? = some 45 ∧ tl a = 45 :: tl d))) ?_ ?_
    · intro N hN
      walk_at "rd"
      refine ⟨a, rfl, hs, ?_⟩
      walk_at "rd"
      refine r_eq rfl ?_
      rw [cut_minus]
      refine ⟨_, rfl, ?_⟩
      by_cases c : (tl a)[0]? = some 45
      · refine ifT (decide_eq_true c) ?_
        walk_at "rd"
        refine ⟨a, rfl, hs, ?_⟩
        have l1 : 1 ≤ (tl a).length := by
          cases q : tl a with
          | nil => rw [q] at c; cases c
          | cons _ _ => simp
        refine hN _ _ ⟨_, rfl, rfl, .inr ⟨c, ?_⟩⟩
        rw [tl_cut1 a l1]
        cases q : tl a with
        | nil => rw [q] at c; cases c
        | cons x y =>
          rw [q] at c
          have c : some x = some 45 := c
          rw [Option.some.inj c]; rfl
      · refine ifF (decide_eq_false c) ?_
        exact hN _ _ ⟨a, rfl, rfl, .inl ⟨c, rfl⟩⟩
    · rintro σ' H' ⟨d, rfl, rfl, sh⟩
      have ld : (tl d).length ≤ 5100 := by
        rcases sh with ⟨_, e⟩ | ⟨_, e⟩
        · rw [e]; exact la
        · have := congrArg List.length e
          rw [List.length_cons] at this
          omega
      walk_at "rd"
      have bad : amtB d = false → amtB a = false := fun e => by
        rcases sh with ⟨_, q⟩ | ⟨q, _⟩
        · rw [← q]; exact e
        · exact neg_amt q
      have hsd := sizes ld (by decide)
      refine r_eq rfl ?_
      refine ⟨_, rfl, ?_⟩
      by_cases c0 : d = ""
      · refine ifT (decide_eq_true (by rw [c0])) ?_
        refine ifT rfl ?_
        walk_at "rd"
        exact non (bad (by rw [c0]; decide +kernel))
      refine ifF (decide_eq_false fun z => c0 (V.str.inj z)) ?_
      have l1 : 1 ≤ (tl d).length := by
        cases q : tl d with
        | nil => exact absurd (ext_tl (by rw [q]; rfl)) c0
        | cons _ _ => simp
      walk_at "rd"
      refine ⟨d, rfl, hsd, ?_⟩
      rw [len_tl]
      walk_at "rd"
      refine ite_dec (fun c1 => ?_) (fun c1 => ?_)
      · walk_at "rd"
        exact non (bad (not_amt fun z => by have := z.2.1; omega))
      have l60 : (tl d).length ≤ 60 := by omega
      walk_at "rd"
      refine r_iStr ?_
      walk_at "rd"
      refine ⟨d, rfl, for_it walk_str (fun i σ H2 => ∃ v2, σ = [some (.str a), some (.str d), v2] ∧ H2 = H' ∧ ∀ c, c ∈ (tl d).take i → c ∈ digL) ⟨none, rfl, rfl, fun c h => by rw [List.take_zero] at h; cases h⟩ (fun _ _ _ _ _ => trivial) ?_ ?_⟩
      · rintro i y σ H2 H3 hi ⟨v2, rfl, rfl, dg⟩ ⟨rfl, c, ec, rfl⟩
        have ec' : (tl d)[i]? = some c := by rw [← ec]; exact (Array.getElem?_toList ..)
        walk_at "rd"
        refine ⟨c, "0123456789", rfl, rfl, ?_⟩
        rw [show ("0123456789" : Str).cps.toList = digL from dig_tl]
        refine ⟨_, rfl, ?_⟩
        by_cases cd : c ∈ digL
        · refine ifF (by rw [decide_eq_true cd]; rfl) ?_
          walk_at "rd"
          refine ⟨_, rfl, rfl, fun x hx => ?_⟩
          rw [List.take_add_one, ec'] at hx
          rcases List.mem_append.mp hx with hx | hx
          · exact dg x hx
          · rw [List.mem_singleton.mp hx]; exact cd
        · refine ifT (by rw [decide_eq_false cd]; rfl) ?_
          walk_at "rd"
          exact non (bad (not_amt fun z => cd (z.2.2.1 c (List.mem_of_getElem? ec'))))
      · rintro σ H2 ⟨v2, rfl, rfl, dg⟩
        have dg : ∀ c, c ∈ tl d → c ∈ digL := fun c hc => dg c (by
          have sz : d.cps.size = (tl d).length := len_tl d
          rw [sz, List.take_length]; exact hc)
        obtain ⟨c, ec⟩ : ∃ c, (tl d)[0]? = some c := ⟨_, List.getElem?_eq_getElem (by omega)⟩
        have num : (tl d)[0]? ≠ some 48 ∨ a = "0" → ∃ i, PySem.intText? a = some i ∧ NumR a (.int i) := fun h => by
          rcases sh with ⟨n45, q⟩ | ⟨q, q2⟩
          · have am : amtB a = true := amt_iff.mpr (by rw [← q]; exact ⟨l1, l60, dg, by rw [q] at h ⊢; exact h.symm⟩)
            obtain ⟨n, it, _, _, nv, _⟩ := amt_num am
            exact ⟨n, it, .inl ⟨am, by rw [nv]⟩⟩
          · have ad : NumText.AllDigits (tl d) := fun c hc => by
              have := dg c hc
              unfold digL at this
              simp only [List.mem_cons, List.not_mem_nil, or_false] at this
              omega
            have it := PySem.intText_neg (x := a) (cs := tl d) q2 ad (fun z => by rw [z] at l1; exact absurd l1 (by decide)) (by rw [len_tl, q2, List.length_cons]; omega)
            exact ⟨_, it, .inr ⟨neg_amt q, .inr ⟨q, _, rfl⟩⟩⟩
        have l640 : a.length ≤ 640 := by
          rw [len_tl]
          rcases sh with ⟨_, q⟩ | ⟨_, q2⟩
          · rw [← q]; omega
          · rw [q2, List.length_cons]; omega
        walk_at "rd"
        refine ⟨d, 0, c, rfl, rfl, hsd, atI_nat (j := 0) ec, ?_⟩
        walk_at "rd"
        refine r_eq rfl ?_
        rw [show ("0" : Str) = ⟨#[48]⟩ by decide +kernel, one_eq]
        refine ⟨_, rfl, ?_⟩
        have e0 : ("0" : Str) = ⟨#[48]⟩ := by decide +kernel
        by_cases c48 : c = 48
        · refine ifT (decide_eq_true c48) ?_
          walk_at "rd"
          refine r_ne rfl ?_
          refine ⟨_, rfl, ?_⟩
          by_cases a0 : a = "0"
          · refine ifF (by rw [a0, e0, decide_eq_true rfl]; rfl) ?_
            obtain ⟨i, it, nr⟩ := num (.inr a0)
            walk_at "rd"
            exact ⟨a, i, rfl, it, l640, k _ nr⟩
          · refine ifT (by rw [← e0, decide_eq_false fun z => a0 (V.str.inj z)]; rfl) ?_
            walk_at "rd"
            refine non ?_
            rcases sh with ⟨_, q⟩ | ⟨q, _⟩
            · refine not_amt fun z => ?_
              rcases z.2.2.2 with z | z
              · exact a0 z
              · rw [← q, ec, c48] at z
                exact z rfl
            · exact neg_amt q
        · refine ifF (decide_eq_false c48) ?_
          refine ifF rfl ?_
          obtain ⟨i, it, nr⟩ := num (.inl (by rw [ec]; intro z; exact c48 (Option.some.inj z)))
          walk_at "rd"
          exact ⟨a, i, rfl, it, l640, k _ nr⟩
end
end Pk
set_option Elab.async false
set_option linter.all false
set_option maxRecDepth 100000
set_option maxHeartbeats 4000000
namespace Pk
open PySem L2
local macro_rules | `(tactic| walk_at "rd") => `(tactic| repeat (first
  | with_reducible refine r_seq ?_ | with_reducible refine r_nxt ?_ | with_reducible refine r_asg ?_ | with_reducible refine r_to ?_ | with_reducible refine r_ret ?_ | with_reducible refine r_for ?_ | with_reducible refine r_lc ?_ | with_reducible refine r_lc2 ?_ | with_reducible refine r_rng1 ?_ | with_reducible refine r_list ?_ | with_reducible refine r_tupI ?_ | with_reducible refine r_drop ?_ | with_reducible refine r_ifs ?_
  | with_reducible refine r_op ?_ | with_reducible refine r_c ?_ | with_reducible refine r_var rfl ?_ | with_reducible refine r_var (by assumption) ?_ | with_reducible refine r_I0 ?_ | with_reducible refine r_un ?_ | with_reducible refine r_U ?_ | with_reducible refine r_make ?_ | with_reducible refine r_makeS ?_ | with_reducible refine r_ifE ?_ | with_reducible refine r_cm ?_ | with_reducible refine r_mkV rfl ?_ | with_reducible refine r_sub ?_
  | with_reducible refine r_nil ?_ | with_reducible refine r_cons ?_ | with_reducible refine r_cb ?_ | with_reducible refine r_sl ?_ | with_reducible refine r_noP ?_ | with_reducible refine r_part ?_ | with_reducible refine r_isI ?_ | with_reducible refine r_lst ?_ | with_reducible refine r_tup ?_ | with_reducible refine r_call ?_ | with_reducible refine r_callS ?_ | with_reducible refine r_sFldU ?_ | with_reducible refine r_chain ?_ | with_reducible refine r_enum ?_ | with_reducible refine r_zip ?_ | with_reducible refine r_rng3 ?_ | with_reducible refine r_gtup ?_ | with_reducible refine r_methU ?_
  | with_reducible refine r_test ?_ | with_reducible refine r_B ?_ | with_reducible refine r_and ?_ | with_reducible refine r_or ?_ | with_reducible refine r_not ?_ | with_reducible refine r_andV ?_ | with_reducible refine r_orV ?_ | with_reducible refine r_notV ?_ | with_reducible refine r_bl ?_ | with_reducible refine r_yes ?_ | with_reducible refine r_int ?_ | with_reducible refine r_is0 ?_ | with_reducible refine r_is1 ?_ | with_reducible refine iteT ?_ | with_reducible refine iteF ?_ | with_reducible refine ite_nF ?_ | with_reducible refine ite_nT ?_
  | with_reducible refine r_mod (by decide) ?_ | with_reducible refine r_div (by decide) (by decide) ?_ | with_reducible refine r_mulR (by decide) (by decide) ?_ | with_reducible refine r_mulL (by decide) (by decide) ?_ | with_reducible refine r_pow (by decide) (by decide) (by decide) ?_))
/-! ### what a text of amounts must say -/
open _root_.TL
def spLReadA (K : PySem.W.Frag) : Sp := fun vs H Q _ => ∃ a : Str, vs = [.str a] ∧ (tl a).length ≤ 5100 ∧ (Txt.split a " ").length ≤ 5101 ∧ ∀ (v : V) (H' : Hp) (o : OutA), Same H H' → ReadA (Txt.split a " ") o → Dp K H' v o.d → Q v H'
abbrev slLReadA : Stmt := top 30
abbrev nmLReadA : List Str := ["_law_text", "_law_sides", "_law_words", "_law_k", "_law_word", "_law_number_here"]
/-- the sides as they stand -/
structure SdA (H H' : Hp) (S a0 rr : Addr) (st : List (List Int)) : Prop where
  sS : H S = none
  s0 : H a0 = none
  ne : a0 ≠ S
  sd : (∃ ms, st = [ms] ∧ H' S = some (.lst [.ref a0]) ∧ H' a0 = some (.lst (ms.map V.int))) ∨
    ∃ b0 ms ns, st = [ms, ns] ∧ H' S = some (.lst [.ref a0, .ref b0]) ∧ H' a0 = some (.lst (ms.map V.int)) ∧ H' b0 = some (.lst (ns.map V.int)) ∧ H b0 = none ∧ b0 ≠ S ∧ b0 ≠ a0 ∧ b0 ≠ rr
theorem SdA.same {H H' H2 : Hp} {S a0 rr : Addr} {st : List (List Int)} (h : SdA H H' S a0 rr st) (s : Same H' H2) : SdA H H2 S a0 rr st := ⟨h.sS, h.s0, h.ne, by
  rcases h.sd with ⟨ms, e, h1, h2⟩ | ⟨b0, ms, ns, e, h1, h2, h3, r⟩
  · exact .inl ⟨ms, e, s _ _ h1, s _ _ h2⟩
  · exact .inr ⟨b0, ms, ns, e, s _ _ h1, s _ _ h2, s _ _ h3, r⟩⟩
section
variable {P : Program} {w : World} {K : PySem.W.Frag} {mg : Str → Option Value} {base : Heap} {f : Addr} {fd : FuncData}
theorem sclLReadA : FnScope nmLReadA ["_law_text"] (defScope slLReadA) := ⟨rfl, rfl, rfl, by decide +kernel, rfl, by decide +kernel, by decide +kernel⟩
theorem ok_lReadA (F : Fun K "_law_read" "_law_read" slLReadA f fd) (T : Bt mg) (DN : Df P w K mg base CX0 "_law_number" 1 ["_law_word"] spNumb) : FnOk P w K mg base CX0 2 f fd ["_law_text"] (spLReadA K) := by
  refine F.ok sclLReadA (fun vs H Q E h => ?_) (fun cdv A' outer s H vs Q E hr h => ?_)
  · obtain ⟨a, rfl, _⟩ := h
    rfl
  · obtain ⟨a, rfl, la, l901, k⟩ := h
    refine ⟨_, (pss_cons (ps_set (i := 1) sclLReadA.nd rfl (Or.inl rfl) (pe_lst (pa_cons (pe_lst pa_nil) pa_nil)))
  (pss_cons (ps_set (i := 2) sclLReadA.nd rfl (Or.inl rfl) (pe_split (pv 0) pe_str))
  (pss_cons (ps_for PassesOwn.never rfl (pi_enum (by rfl) T.enumerate (pa_cons (pv 2) pa_nil)) (pg_tup (by rfl) (pgs_cons (pg_name (i := 3) sclLReadA.nd rfl (Or.inl rfl)) (pgs_cons (pg_name (i := 4) sclLReadA.nd rfl (Or.inl rfl)) pgs_nil))) (pss_cons (ps_set (i := 5) sclLReadA.nd rfl (Or.inl rfl) (pe_df DN hr (by decide) (pa_cons (pv 4) pa_nil)))
  (pss_one (ps_if (PW.pt (pw_and (pt_cmpR op_eq (pv 4) pe_str (nomark _)) (pw_and1 (pt_cmpR op_eq (pe_callB cl_len (by rfl) T.len (by decide +kernel) (pa_cons (pv 1) pa_nil)) pe_int (nomark _))))) (pss_one (ps_expr (pe_bm PySem.F.plainAttrs_list PySem.F.slot_list_append PySem.F.type_list_append mt_append (pv 1) (pa_cons (pe_lst pa_nil) pa_nil)))) (pss_one (ps_if (PW.pt (pw_or (pt_cmpR op_is0 (pv 5) pe_non (nomark _)) (pw_or1 (pt_cmpR op_eq (pe_ix ix_str (pv 4) pe_int (fun _ _ => rfl)) pe_str (nomark _))))) (pss_one (ps_ret (pe_tup (pa_cons pe_str (pa_cons pe_int (pa_cons (pv 3) pa_nil)))))) (pss_one (ps_expr (pe_bm PySem.F.plainAttrs_list PySem.F.slot_list_append PySem.F.type_list_append mt_append (pe_ix ix_list (pv 1) (pe_un un_neg pe_int) (fun _ _ => rfl)) (pa_cons (pv 5) pa_nil))))))))))
  (pss_cons (ps_if (pt_cmpR op_eq (pe_callB cl_len (by rfl) T.len (by decide +kernel) (pa_cons (pv 1) pa_nil)) pe_int (nomark _)) (pss_one (ps_ret (pe_tup (pa_cons pe_str (pa_cons pe_int (pa_cons (pe_callB cl_len (by rfl) T.len (by decide +kernel) (pa_cons (pv 2) pa_nil)) pa_nil)))))) pss_nil)
  (pss_cons (ps_if (PW.pt (pw_or (pt_cmpR op_eq (pe_callB cl_len (by rfl) T.len (by decide +kernel) (pa_cons (pe_ix ix_list (pv 1) pe_int (fun _ _ => rfl)) pa_nil)) pe_int (nomark _)) (pw_or1 (pt_cmpR op_gt (pe_callB cl_len (by rfl) T.len (by decide +kernel) (pa_cons (pe_ix ix_list (pv 1) pe_int (fun _ _ => rfl)) pa_nil)) pe_int (nomark _))))) (pss_one (ps_ret (pe_tup (pa_cons pe_str (pa_cons pe_str (pa_cons (pe_un un_neg pe_int) pa_nil)))))) pss_nil)
  (pss_cons (ps_if (PW.pt (pw_or (pt_cmpR op_eq (pe_callB cl_len (by rfl) T.len (by decide +kernel) (pa_cons (pe_ix ix_list (pv 1) pe_int (fun _ _ => rfl)) pa_nil)) pe_int (nomark _)) (pw_or1 (pt_cmpR op_gt (pe_callB cl_len (by rfl) T.len (by decide +kernel) (pa_cons (pe_ix ix_list (pv 1) pe_int (fun _ _ => rfl)) pa_nil)) pe_int (nomark _))))) (pss_one (ps_ret (pe_tup (pa_cons pe_str (pa_cons pe_str (pa_cons (pe_un un_neg pe_int) pa_nil)))))) pss_nil)
  (pss_one (ps_ret (pe_tup (pa_cons pe_str (pa_cons (pv 1) pa_nil))))))))))), ?_⟩
    walk_at "rd"
    refine ⟨Nat.zero_le _, fun a0 n0 => ?_⟩
    have t0 := Same.up (o := .lst []) (Same.refl H) n0
    have h00 := @upd_same H a0 (.lst [])
    generalize upd H a0 (.lst []) = H1 at t0 h00 ⊢
    walk_at "rd"
    refine ⟨by show 1 ≤ sizeLine; decide, fun S nS => ?_⟩
    have t1 := Same.up (o := .lst [V.ref a0]) (Same.refl H1) nS
    have hS := @upd_same H1 S (.lst [V.ref a0])
    have a0S : a0 ≠ S := fun z => by rw [← z, h00] at nS; cases nS
    generalize upd H1 S (.lst [V.ref a0]) = H2 at t1 hS ⊢
    have sS0 := t0.free nS
    walk_at "rd"
    refine r_tM1 ?_
    walk_at "rd"
    refine ⟨⟨_, rfl⟩, ?_⟩
    walk_at "rd"
    refine ⟨a, " ", rfl, rfl, by decide +kernel, by rw [len_tl]; exact Nat.le_trans (show (tl a).length + 2 ≤ 5102 by omega) (by decide), fun r nr => ?_⟩
    have wb := (split_bd a (y := " ") (by rw [tl_sp]; decide) (by decide +kernel)).2
    generalize Txt.split a " " = ws at l901 wb k ⊢
    have t2 := Same.up (o := .lst (ws.map V.str)) (Same.refl H2) nr
    have hr1 := @upd_same H2 r (.lst (ws.map V.str))
    have rS : r ≠ S := fun z => by rw [z, hS] at nr; cases nr
    have ra0 : r ≠ a0 := fun z => by rw [z, t1 _ _ h00] at nr; cases nr
    generalize upd H2 r (.lst (ws.map V.str)) = H3 at t2 hr1 ⊢
    have s3 := t0.trans (t1.trans t2)
    have sd3 : SdA H H3 S a0 r [[]] := ⟨sS0, n0, a0S, .inl ⟨[], rfl, t2 _ _ hS, (t1.trans t2) _ _ h00⟩⟩
    have at_ : ∀ {i : Nat} {y : V}, (ws.map V.str)[i]? = some y → ∃ x, ws[i]? = some x ∧ y = V.str x ∧ (tl x).length ≤ 5100 := fun {i y} e => by
      rw [List.getElem?_map] at e
      obtain ⟨x, ex, rfl⟩ := Option.map_eq_some_iff.mp e
      exact ⟨x, ex, rfl, Nat.le_trans (wb x (List.mem_of_getElem? ex)) la⟩
    walk_at "rd"
    refine ⟨r, _, rfl, SqL.of hr1, for_it walk_enum (fun i σ H' => ∃ (v3 v4 v5 : Option V) (st : List (List Int)), σ = [some (.str a), some (.ref S), some (.ref r), v3, v4, v5] ∧ Same H H' ∧ H' r = some (.lst (ws.map V.str)) ∧ SdA H H' S a0 r st ∧ runA (ws.take i) = some st) ⟨none, none, none, [[]], rfl, s3, hr1, sd3, by rw [List.take_zero]; rfl⟩ (fun i σ H' _ z => by obtain ⟨_, _, _, _, _, _, z, _⟩ := z; exact SqL.of z) ?_ ?_⟩
    · rintro i y σ H4 H5 hi ⟨v3, v4, v5, st, rfl, s4, hr4, sd4, rst⟩ ⟨tt, i', y', rfl, htt, rfl, e1, e2⟩
      cases (Option.some.inj e1)
      obtain ⟨x, ex, rfl, bx⟩ := at_ e2
      have hi : i < ws.length := (List.getElem?_eq_some_iff.mp ex).1
      have t5 := Same.up (o := .tup [V.int (i : Int), V.str x]) (Same.refl H4) htt
      refine r_gtup ⟨tt, _, rfl, SqT.of upd_same, rfl, _, _, rfl, ?_⟩
      generalize upd H4 tt (.tup [V.int (i : Int), V.str x]) = H5 at t5 ⊢
      have s5 := s4.trans t5
      have hr5 := t5 _ _ hr4
      have sd5 := sd4.same t5
      have step := runA_step ex
      rw [rst] at step
      have shp := runA_shape ws i st (by omega) rst
      have two : ∃ a b, st = [a] ∨ st = [a, b] := by
        rcases shp with ⟨e, _⟩ | ⟨A, B, _, e, _⟩
        · exact ⟨_, [], .inl e⟩
        · exact ⟨_, _, .inr e⟩
      have hsx := sizes bx (by decide)
      have bad : stepA (some st) x = none → ∀ (t : Addr), H5 t = none → Q (.ref t) (upd H5 t (.tup [V.str "text", V.int 0, V.int (i : Int)])) := fun b t nt =>
        k _ _ (.txt 0 (i : Int)) (s5.trans (Same.up (Same.refl _) nt)) (.txt i x st rst ex b) (.tup (SqT.of upd_same) (.cons (.str _) (.cons (.int _) (.cons (.int _) .nil))))
      walk_at "rd"
      refine ⟨_, _, rfl, ?_⟩
      walk_at "rd"
      refine ⟨rfl, ?_⟩
      walk_at "rd"
      refine ⟨x, rfl, bx, fun v nv => ?_⟩
      walk_at "rd"
      refine r_eq rfl ?_
      refine ⟨_, rfl, ?_⟩
      by_cases cb : x = "|"
      · refine ifT (decide_eq_true (by rw [cb])) ?_
        have nb : amtB x = false := by rw [cb]; exact bar_no
        have vn : v = .non := by
          rcases nv with ⟨q, _⟩ | ⟨_, q | ⟨q, _⟩⟩
          · rw [nb] at q; cases q
          · exact q
          · rw [cb] at q
            exact absurd q (by decide +kernel)
        subst vn
        rcases sd5.sd with ⟨ms, est, hS5, ha5⟩ | ⟨b0, ms, ns, est, hS5, ha5, hb5, nb0, bS, ba, br⟩
        · walk_at "rd"
          refine r_lenL (SqL.of hS5) ?_
          walk_at "rd"
          refine r_eq rfl ?_
          refine ⟨_, rfl, ifT (decide_eq_true (show (V.int (([V.ref a0] : List V).length : Int) : V) = V.int 1 from rfl)) ?_⟩
          walk_at "rd"
          refine r_bm ?_
          walk_at "rd"
          refine ⟨.inl ⟨rfl, _, SqL.of hS5⟩, ?_⟩
          walk_at "rd"
          refine ⟨Nat.zero_le _, fun b0 nb0 => ?_⟩
          have t6 := Same.up (o := .lst []) (Same.refl H5) nb0
          have hb6 := @upd_same H5 b0 (.lst [])
          have bS : b0 ≠ S := fun z => by rw [z, hS5] at nb0; cases nb0
          have ba : b0 ≠ a0 := fun z => by rw [z, ha5] at nb0; cases nb0
          generalize upd H5 b0 (.lst []) = H6 at t6 hb6 ⊢
          walk_at "rd"
          refine ⟨S, _, _, rfl, rfl, t6 _ _ hS5, by show 1 < sizeLine; decide, ?_⟩
          walk_at "rd"
          refine ⟨_, _, _, [ms, []], rfl, fun c o e => ?_, ?_, ⟨sS0, n0, a0S, .inr ⟨b0, ms, [], rfl, upd_same, ?_, ?_, s5.free nb0, bS, ba, fun z => by rw [z, hr5] at nb0; cases nb0⟩⟩, ?_⟩
          · rw [upd_ne (fun z => by rw [z, sS0] at e; cases e)]
            exact t6 _ _ (s5 _ _ e)
          · rw [upd_ne rS]; exact t6 _ _ hr5
          · rw [upd_ne a0S]; exact t6 _ _ ha5
          · rw [upd_ne bS]; exact hb6
          · rw [step, est]
            exact (if_neg (by rw [nb]; decide)).trans (if_pos cb)
        · walk_at "rd"
          refine r_lenL (SqL.of hS5) ?_
          walk_at "rd"
          refine r_eq rfl ?_
          refine ⟨_, rfl, ifF (decide_eq_false fun z => absurd (V.int.inj z) (by show ¬ ((2 : Nat) : Int) = 1; decide)) ?_⟩
          walk_at "rd"
          refine ifT (decide_eq_true rfl) ?_
          refine ifT rfl ?_
          walk_at "rd"
          exact ⟨by show 3 ≤ sizeLine; decide, bad (stepA_bad nb (.inr est))⟩
      · refine ifF (decide_eq_false fun z => cb (V.str.inj z)) ?_
        refine ifF rfl ?_
        obtain ⟨sa, sb, two⟩ := two
        cases nx : amtB x with
        | false =>
          have stb := stepA_bad nx (two.imp (fun e => ⟨e, cb⟩) fun e => e)
          rcases nv with ⟨q, _⟩ | ⟨_, q | ⟨q, z, rfl⟩⟩
          · rw [nx] at q; cases q
          · subst q
            walk_at "rd"
            refine ifT (decide_eq_true rfl) ?_
            refine ifT rfl ?_
            walk_at "rd"
            exact ⟨by show 3 ≤ sizeLine; decide, bad stb⟩
          · walk_at "rd"
            refine ifF (decide_eq_false fun q => by cases q) ?_
            walk_at "rd"
            refine ⟨x, 0, 45, rfl, rfl, hsx, atI_nat (j := 0) q, ?_⟩
            walk_at "rd"
            refine r_eq rfl ?_
            rw [show ("-" : Str) = ⟨#[45]⟩ by decide +kernel, one_eq]
            refine ⟨_, rfl, ifT (decide_eq_true rfl) ?_⟩
            walk_at "rd"
            exact ⟨by show 3 ≤ sizeLine; decide, bad stb⟩
        | true =>
          rcases nv with ⟨_, q⟩ | ⟨q, _⟩
          · subst q
            walk_at "rd"
            refine ifF (decide_eq_false fun q => by cases q) ?_
            have am := amt_iff.mp nx
            obtain ⟨c, ec⟩ : ∃ c, (tl x)[0]? = some c := ⟨_, List.getElem?_eq_getElem (by omega)⟩
            have c45 : c ≠ 45 := fun z => by
              have := am.2.2.1 c (List.mem_of_getElem? ec)
              rw [z] at this
              exact absurd this (by decide)
            walk_at "rd"
            refine ⟨x, 0, c, rfl, rfl, hsx, atI_nat (j := 0) ec, ?_⟩
            walk_at "rd"
            refine r_eq rfl ?_
            rw [show ("-" : Str) = ⟨#[45]⟩ by decide +kernel, one_eq]
            refine ⟨_, rfl, ifF (decide_eq_false c45) ?_⟩
            have lenb : ∀ m, m ∈ st → m.length ≤ 5101 := fun m hm => by
              rcases shp with ⟨e, _⟩ | ⟨A, B, eA, e, _⟩
              · rw [e] at hm
                rw [List.mem_singleton.mp hm, List.length_map, List.length_take]
                omega
              · have := congrArg List.length eA
                rw [List.length_take, List.length_append, List.length_cons] at this
                rw [e] at hm
                rcases List.mem_cons.mp hm with rfl | hm
                · rw [List.length_map]; omega
                · rw [List.mem_singleton.mp hm, List.length_map]; omega
            rcases sd5.sd with ⟨ms, est, hS5, ha5⟩ | ⟨b0, ms, ns, est, hS5, ha5, hb5, nb0, bS, ba, br⟩
            · have lm := lenb ms (by rw [est]; exact List.mem_singleton.mpr rfl)
              walk_at "rd"
              refine r_bm ?_
              walk_at "rd"
              refine r_ixL (SqL.of hS5) (v := .ref a0) rfl ?_
              refine ⟨.inl ⟨rfl, _, SqL.of ha5⟩, ?_⟩
              walk_at "rd"
              refine ⟨a0, _, _, rfl, rfl, ha5, by rw [List.length_map]; exact Nat.lt_of_lt_of_le (show ms.length < 5102 by omega) (by decide), ?_⟩
              walk_at "rd"
              refine ⟨_, _, _, [ms ++ [numV x]], rfl, fun c o e => ?_, ?_, ⟨sS0, n0, a0S, .inl ⟨_, rfl, ?_, ?_⟩⟩, ?_⟩
              · rw [upd_ne (fun z => by rw [z, n0] at e; cases e)]
                exact s5 _ _ e
              · rw [upd_ne ra0]; exact hr5
              · rw [upd_ne (Ne.symm a0S)]; exact hS5
              · rw [upd_same, List.map_append]; rfl
              · rw [step, est]
                exact if_pos nx
            · have lm := lenb ns (by rw [est]; exact List.mem_cons_of_mem _ (List.mem_singleton.mpr rfl))
              walk_at "rd"
              refine r_bm ?_
              walk_at "rd"
              refine r_ixL (SqL.of hS5) (v := .ref b0) rfl ?_
              refine ⟨.inl ⟨rfl, _, SqL.of hb5⟩, ?_⟩
              walk_at "rd"
              refine ⟨b0, _, _, rfl, rfl, hb5, by rw [List.length_map]; exact Nat.lt_of_lt_of_le (show ns.length < 5102 by omega) (by decide), ?_⟩
              walk_at "rd"
              refine ⟨_, _, _, [ms, ns ++ [numV x]], rfl, fun c o e => ?_, ?_, ⟨sS0, n0, a0S, .inr ⟨b0, ms, _, rfl, ?_, ?_, ?_, nb0, bS, ba, br⟩⟩, ?_⟩
              · rw [upd_ne (fun z => by rw [z, nb0] at e; cases e)]
                exact s5 _ _ e
              · rw [upd_ne (Ne.symm br)]; exact hr5
              · rw [upd_ne (Ne.symm bS)]; exact hS5
              · rw [upd_ne (Ne.symm ba)]; exact ha5
              · rw [upd_same, List.map_append]; rfl
              · rw [step, est]
                exact if_pos nx
          · rw [nx] at q; cases q
    · rintro σ H4 ⟨v3, v4, v5, st, rfl, s4, hr4, sd4, rst⟩
      have wl2 : (ws.map V.str).length = ws.length := List.length_map ..
      rw [wl2, List.take_length] at rst
      rcases sd4.sd with ⟨ms, est, hS4, ha4⟩ | ⟨b0, ms, ns, est, hS4, ha4, hb4, nb0, bS, ba, br⟩
      · walk_at "rd"
        refine r_lenL (SqL.of hS4) ?_
        walk_at "rd"
        refine r_eq rfl ?_
        refine ⟨_, rfl, ifT (decide_eq_true (show (V.int (([V.ref a0] : List V).length : Int) : V) = V.int 1 from rfl)) ?_⟩
        walk_at "rd"
        refine r_lenL (SqL.of hr4) ?_
        rw [wl2]
        walk_at "rd"
        refine ⟨by show 3 ≤ sizeLine; decide, fun t nt => ?_⟩
        exact k _ _ (.txt 0 (ws.length : Int)) (s4.trans (Same.up (Same.refl _) nt)) (.one ms (rst.trans (congrArg some est))) (.tup (SqT.of upd_same) (.cons (.str _) (.cons (.int _) (.cons (.int _) .nil))))
      · have rd := ReadA.two ms ns (rst.trans (congrArg some est))
        unfold amO at rd
        walk_at "rd"
        refine r_lenL (SqL.of hS4) ?_
        walk_at "rd"
        refine r_eq rfl ?_
        refine ⟨_, rfl, ifF (decide_eq_false fun z => absurd (V.int.inj z) (by show ¬ ((2 : Nat) : Int) = 1; decide)) ?_⟩
        walk_at "rd"
        refine r_ixL (SqL.of hS4) (v := .ref a0) rfl ?_
        walk_at "rd"
        refine r_lenL (SqL.of ha4) ?_
        rw [List.length_map]
        walk_at "rd"
        refine r_eq rfl ?_
        refine ⟨_, rfl, ?_⟩
        have out1 : badN ms = true → ∀ t, H4 t = none → Q (.ref t) (upd H4 t (.tup [V.str "amounts", V.str "stocks", V.int (-1)])) := fun b t nt => by
          rw [if_pos b] at rd
          exact k _ _ (.am "stocks") (s4.trans (Same.up (Same.refl _) nt)) rd (.tup (SqT.of upd_same) (.cons (.str _) (.cons (.str _) (.cons (.int _) .nil))))
        by_cases z1 : ms.length = 0
        · refine ifT (decide_eq_true (by rw [z1]; rfl)) ?_
          refine ifT rfl ?_
          walk_at "rd"
          exact ⟨by show 3 ≤ sizeLine; decide, out1 (by unfold badN; rw [decide_eq_true z1]; rfl)⟩
        refine ifF (decide_eq_false fun z => z1 (by have := V.int.inj z; omega)) ?_
        walk_at "rd"
        refine r_ixL (SqL.of hS4) (v := .ref a0) rfl ?_
        walk_at "rd"
        refine r_lenL (SqL.of ha4) ?_
        rw [List.length_map]
        walk_at "rd"
        refine ite_dec (fun c1 => ?_) (fun c1 => ?_)
        · walk_at "rd"
          exact ⟨by show 3 ≤ sizeLine; decide, out1 (by unfold badN; rw [decide_eq_true (show 8 < ms.length by omega), Bool.or_true])⟩
        rw [if_neg (show badN ms ≠ true by unfold badN; rw [decide_eq_false z1, decide_eq_false (show ¬ 8 < ms.length by omega)]; decide)] at rd
        clear out1
        walk_at "rd"
        refine r_ixL (SqL.of hS4) (v := .ref b0) rfl ?_
        walk_at "rd"
        refine r_lenL (SqL.of hb4) ?_
        rw [List.length_map]
        walk_at "rd"
        refine r_eq rfl ?_
        refine ⟨_, rfl, ?_⟩
        have out2 : badN ns = true → ∀ t, H4 t = none → Q (.ref t) (upd H4 t (.tup [V.str "amounts", V.str "wishes", V.int (-1)])) := fun b t nt => by
          rw [if_pos b] at rd
          exact k _ _ (.am "wishes") (s4.trans (Same.up (Same.refl _) nt)) rd (.tup (SqT.of upd_same) (.cons (.str _) (.cons (.str _) (.cons (.int _) .nil))))
        by_cases z2 : ns.length = 0
        · refine ifT (decide_eq_true (by rw [z2]; rfl)) ?_
          refine ifT rfl ?_
          walk_at "rd"
          exact ⟨by show 3 ≤ sizeLine; decide, out2 (by unfold badN; rw [decide_eq_true z2]; rfl)⟩
        refine ifF (decide_eq_false fun z => z2 (by have := V.int.inj z; omega)) ?_
        walk_at "rd"
        refine r_ixL (SqL.of hS4) (v := .ref b0) rfl ?_
        walk_at "rd"
        refine r_lenL (SqL.of hb4) ?_
        rw [List.length_map]
        walk_at "rd"
        refine ite_dec (fun c2 => ?_) (fun c2 => ?_)
        · walk_at "rd"
          exact ⟨by show 3 ≤ sizeLine; decide, out2 (by unfold badN; rw [decide_eq_true (show 8 < ns.length by omega), Bool.or_true])⟩
        rw [if_neg (show badN ns ≠ true by unfold badN; rw [decide_eq_false z2, decide_eq_false (show ¬ 8 < ns.length by omega)]; decide)] at rd
        clear out2
        walk_at "rd"
        refine ⟨by show 2 ≤ sizeLine; decide, fun t nt => ?_⟩
        have st_ := Same.up (o := .tup [V.str "read", V.ref S]) (Same.refl H4) nt
        exact k _ _ (.ok ms ns) (s4.trans st_) rd (.tup (SqT.of upd_same) (.cons (.str _) (.cons (.lst (SqL.of (st_ _ _ hS4)) (.cons (.lst (SqL.of (st_ _ _ ha4)) (dp_ints ms)) (.cons (.lst (SqL.of (st_ _ _ hb4)) (dp_ints ns)) .nil))) .nil)))
end
end Pk
set_option Elab.async false
set_option linter.all false
set_option maxRecDepth 100000
set_option maxHeartbeats 4000000
namespace Pk
open PySem L2
local macro_rules | `(tactic| walk_at "rd") => `(tactic| repeat (first
  | with_reducible refine r_seq ?_ | with_reducible refine r_nxt ?_ | with_reducible refine r_asg ?_ | with_reducible refine r_to ?_ | with_reducible refine r_ret ?_ | with_reducible refine r_for ?_ | with_reducible refine r_lc ?_ | with_reducible refine r_lc2 ?_ | with_reducible refine r_rng1 ?_ | with_reducible refine r_list ?_ | with_reducible refine r_tupI ?_ | with_reducible refine r_drop ?_ | with_reducible refine r_ifs ?_
  | with_reducible refine r_op ?_ | with_reducible refine r_c ?_ | with_reducible refine r_var rfl ?_ | with_reducible refine r_var (by assumption) ?_ | with_reducible refine r_I0 ?_ | with_reducible refine r_un ?_ | with_reducible refine r_U ?_ | with_reducible refine r_make ?_ | with_reducible refine r_makeS ?_ | with_reducible refine r_ifE ?_ | with_reducible refine r_cm ?_ | with_reducible refine r_mkV rfl ?_ | with_reducible refine r_sub ?_
  | with_reducible refine r_nil ?_ | with_reducible refine r_cons ?_ | with_reducible refine r_cb ?_ | with_reducible refine r_sl ?_ | with_reducible refine r_noP ?_ | with_reducible refine r_part ?_ | with_reducible refine r_isI ?_ | with_reducible refine r_lst ?_ | with_reducible refine r_tup ?_ | with_reducible refine r_call ?_ | with_reducible refine r_callS ?_ | with_reducible refine r_sFldU ?_ | with_reducible refine r_chain ?_ | with_reducible refine r_enum ?_ | with_reducible refine r_zip ?_ | with_reducible refine r_rng3 ?_ | with_reducible refine r_gtup ?_ | with_reducible refine r_methU ?_
  | with_reducible refine r_test ?_ | with_reducible refine r_B ?_ | with_reducible refine r_and ?_ | with_reducible refine r_or ?_ | with_reducible refine r_not ?_ | with_reducible refine r_andV ?_ | with_reducible refine r_orV ?_ | with_reducible refine r_notV ?_ | with_reducible refine r_bl ?_ | with_reducible refine r_yes ?_ | with_reducible refine r_int ?_ | with_reducible refine r_is0 ?_ | with_reducible refine r_is1 ?_ | with_reducible refine iteT ?_ | with_reducible refine iteF ?_ | with_reducible refine ite_nF ?_ | with_reducible refine ite_nT ?_
  | with_reducible refine r_mod (by decide) ?_ | with_reducible refine r_div (by decide) (by decide) ?_ | with_reducible refine r_mulR (by decide) (by decide) ?_ | with_reducible refine r_mulL (by decide) (by decide) ?_ | with_reducible refine r_pow (by decide) (by decide) (by decide) ?_))
open _root_.TL
theorem spl_ne (S : List Nat) : ∀ (l : List Nat) (k : Nat) (acc : List Nat), spl S k acc l ≠ []
  | [], 0, acc => by simp [spl]
  | [], k + 1, acc => by simp [spl]
  | c :: r, 0, acc => by
    unfold spl
    split
    · simp
    · exact spl_ne S r 0 _
  | c :: r, k + 1, acc => by unfold spl; exact spl_ne S r k acc
theorem joinL_cons {S p : List Nat} {ps : List (List Nat)} (h : ps ≠ []) : joinL S (p :: ps) = p ++ (S ++ joinL S ps) := by
  cases ps with
  | nil => exact absurd rfl h
  | cons q r => rfl
theorem joinL_spl (s : Nat) : ∀ (l acc : List Nat), joinL [s] (spl [s] 0 acc l) = acc ++ l
  | [], acc => by simp [spl, joinL]
  | c :: r, acc => by
    unfold spl
    by_cases h : pre [s] (c :: r) = true
    · rw [if_pos h]
      have e : c = s := by
        simp [pre] at h
        exact h
      show joinL [s] (acc :: spl [s] 0 [] r) = _
      rw [joinL_cons (spl_ne _ _ _ _), joinL_spl s r [], e]
      rfl
    · rw [if_neg h, joinL_spl s r (acc ++ [c])]
      simp
theorem join_split (a : Str) : Txt.join " " (Txt.split a " ") = a := by
  refine ext_tl ?_
  rw [join_eq, tl_join, split_spl a " " (by rw [tl_sp]; decide) (kind_ok (by decide +kernel)), tl_sp, joinL_spl]
  rfl
/-! ### what is answered, and that it agrees -/
open _root_.TL
theorem OutA.deep (o : OutA) (h : ∀ ms ns, o = .ok ms ns → ms.length ≤ 8 ∧ ns.length ≤ 8) : Deep 3 o.d := by
  cases o with
  | txt l k => exact .tup (fun d hd => by
      simp only [List.mem_cons, List.not_mem_nil, or_false] at hd
      rcases hd with rfl | rfl | rfl
      · exact .str _
      · exact .int _
      · exact .int _) (by simp)
  | am z => exact .tup (fun d hd => by
      simp only [List.mem_cons, List.not_mem_nil, or_false] at hd
      rcases hd with rfl | rfl | rfl
      · exact .str _
      · exact .str _
      · exact .int _) (by simp)
  | ok ms ns =>
    obtain ⟨l1, l2⟩ := h ms ns rfl
    have one : ∀ xs : List Int, xs.length ≤ 8 → Deep 1 (intsD xs) := fun xs l => .lst (fun d hd => by
      obtain ⟨z, _, rfl⟩ := List.mem_map.mp hd
      exact .int _) (by rw [List.length_map]; omega)
    exact .tup (fun d hd => by
      simp only [List.mem_cons, List.not_mem_nil, or_false] at hd
      rcases hd with rfl | rfl
      · exact .str _
      · refine .lst (fun d hd => ?_) (by simp)
        simp only [List.mem_cons, List.not_mem_nil, or_false] at hd
        rcases hd with rfl | rfl
        · exact one ms l1
        · exact one ns l2) (by simp)
theorem badN_no {ms : List Int} (h : badN ms ≠ true) : ms.length ≤ 8 := by
  unfold badN at h
  refine Nat.le_of_not_lt fun z => h ?_
  rw [decide_eq_true z, Bool.or_true]
theorem ReadA.inv {ws : List Str} {o : OutA} (h : ReadA ws o) : ∀ ms ns, o = .ok ms ns → runA ws = some [ms, ns] ∧ ms.length ≤ 8 ∧ ns.length ≤ 8 := fun ms ns e => by
  cases h with
  | txt k w st h' e' b => cases e
  | one a h' => cases e
  | two a b h' =>
    unfold amO at e
    by_cases c : badN a = true
    · rw [if_pos c] at e; cases e
    · rw [if_neg c] at e
      by_cases d : badN b = true
      · rw [if_pos d] at e; cases e
      · rw [if_neg d] at e
        cases e
        exact ⟨h', badN_no c, badN_no d⟩
theorem amb_of {A : List Str} (g : ∀ w, w ∈ A → amtB w = true) : AmB (A.map numV) ∧ (A.map numV).map numW = A := by
  refine ⟨fun m hm => ?_, ?_⟩
  · obtain ⟨w, hw, rfl⟩ := List.mem_map.mp hm
    obtain ⟨n, _, _, b, e, _⟩ := amt_num (g w hw)
    have c : ((10 ^ 60 : Nat) : Int) = (10 : Int) ^ 60 := by decide +kernel
    rw [e, ← c]
    omega
  · rw [List.map_map]
    conv => rhs; rw [← List.map_id A]
    refine List.map_congr_left fun w hw => ?_
    obtain ⟨n, _, nw, _, e, _⟩ := amt_num (g w hw)
    show numW (numV w) = w
    rw [e, nw]
/-- amounts that a text says, shown, are the text -/
theorem joinA_back {a : Str} {ms ns : List Int} (h : ReadA (Txt.split a " ") (.ok ms ns)) : joinA ms ns = a ∧ AmB ms ∧ AmB ns ∧ ms.length ≤ 8 ∧ ns.length ≤ 8 := by
  obtain ⟨r, l1, l2⟩ := h.inv ms ns rfl
  have shp := runA_shape (Txt.split a " ") (Txt.split a " ").length [ms, ns] (Nat.le_refl _) (by rw [List.take_length]; exact r)
  rw [List.take_length] at shp
  rcases shp with ⟨e, _⟩ | ⟨A, B, eA, e, gA, gB⟩
  · have := congrArg List.length e
    exact absurd this (by show ¬ (2 : Nat) = 1; decide)
  · obtain ⟨em, en⟩ := List.cons.inj e
    have en := (List.cons.inj en).1
    subst em en
    refine ⟨?_, (amb_of gA).1, (amb_of gB).1, l1, l2⟩
    unfold joinA
    rw [(amb_of gA).2, (amb_of gB).2, ← eA]
    exact join_split a
def spLAnsA (K : PySem.W.Frag) : Sp := fun vs H Q _ => ∃ v : V, vs = [v] ∧
  ((∃ a, v = .str a ∧ (tl a).length ≤ 5100 ∧ ∀ o, ReadA (Txt.split a " ") o → ∀ (r : V) (H' : Hp), Same H H' → Dp K H' r o.d → Q r H') ∨
   (NotS K H v ∧ ∀ (r : V) (H' : Hp), Same H H' → Dp K H' r (OutA.d (.txt (-1) (-1))) → Q r H'))
def spLAgrA : Sp := fun vs H Q _ => ∃ a : Str, vs = [.str a] ∧ (tl a).length ≤ 5100 ∧ ∀ H' : Hp, Same H H' → Q (.bl true) H'
theorem split_5101 {a : Str} (h : (tl a).length ≤ 5100) : (Txt.split a " ").length ≤ 5101 := by
  have := (split_bd a (y := " ") (by rw [tl_sp]; decide) (by decide +kernel)).1
  omega
abbrev slLAnsA : Stmt := top 31
abbrev slLAgrA : Stmt := top 32
section
variable {P : Program} {w : World} {K : PySem.W.Frag} {mg : Str → Option Value} {base : Heap} {CA CX CAE f : Addr} {fd : FuncData}
theorem sclLAnsA : FnScope ["_law_text", "_law_amounts", "_law_told", "e"] ["_law_text"] (defScope slLAnsA) := ⟨rfl, rfl, rfl, by decide +kernel, rfl, by decide +kernel, by decide +kernel⟩
theorem ok_lAnsA {fS fW : Addr} {fdS fdW : FuncData} (F : Fun K "_law_answer" "_law_answer" slLAnsA f fd) (T : Bt mg) (A : AmC K CA) (mS : Meth K CA "stocks" fS) (oS : FnOk P w K mg base CX0 1 fS fdS ["self"] (spGet CA fun ms _ => ms)) (bS : Binds K fdS ["self"] [])
    (mW : Meth K CA "wishes" fW) (oW : FnOk P w K mg base CX0 1 fW fdW ["self"] (spGet CA fun _ ns => ns)) (bW : Binds K fdW ["self"] [])
    (DR : Df P w K mg base (L2.CX P w) "read_amounts" 10 ["text"] (spReadA K CA CX CAE)) (EX : De P w K mg base "InvalidText" 3 (spErr2 K 1 CX "line" "word") CX) (EA : De P w K mg base "InvalidAmounts" 3 (spErr2 K 1 CAE "word" "at") CAE)
    (x1 : PySem.W.exmOne K (.ref CAE) (.ref CX) = some false) (fl : PySem.W.findIn K (.ref CX) "line" = some none) (fw : PySem.W.findIn K (.ref CX) "word" = some none) (fo : PySem.W.findIn K (.ref CAE) "at" = some none) (fp : PySem.W.findIn K (.ref CAE) "word" = some none) :
    FnOk P w K mg base CX0 11 f fd ["_law_text"] (spLAnsA K) := by
  obtain ⟨fI, EX⟩ := EX
  obtain ⟨fJ, EA⟩ := EA
  refine F.ok sclLAnsA (fun vs H Q E h => ?_) (fun cdv A' outer s H vs Q E hr h => ?_)
  · obtain ⟨v, rfl, _⟩ := h
    rfl
  · obtain ⟨v, rfl, h⟩ := h
    have hr1 := hr.mono (show 1 ≤ 10 by decide)
    refine ⟨_, (pss_cons (ps_try_asMany (Wout := fun _ _ _ _ => False)
    (tb := fun W => tSeq (tAsg (tCallS (spReadA K CA CX CAE) (WE W) (tCons (tVar 0) tNil)) (gName 1)) (tAsg (tTup (tCons (tC (.str "read")) (tCons (tLst (tCons (tMeth CA "stocks" (spGet CA fun ms _ => ms) [] E0 (tVar 1) tNil) (tCons (tMeth CA "wishes" (spGet CA fun _ ns => ns) [] E0 (tVar 1) tNil) tNil))) tNil))) (gName 2)))
    (l := [(.ref CX, 3, fun a cls d => tAsg (tTup (tCons (tC (.str "text")) (tCons (tXf a cls d CX "line" (tVar 3)) (tCons (tXf a cls d CX "word" (tVar 3)) tNil)))) (gName 2)), (.ref CAE, 3, fun a cls d => tAsg (tTup (tCons (tC (.str "amounts")) (tCons (tXf a cls d CAE "word" (tVar 3)) (tCons (tXf a cls d CAE "at" (tVar 3)) tNil)))) (gName 2))])
    rfl rfl sclLAnsA.nd takes0
    (fun W pn xe tk _ => (pss_cons (ps_set (i := 1) sclLAnsA.nd rfl (Or.inl rfl) (pe_dfS tk DR hr (by decide) (pa_cons (pv 0) pa_nil)))
      (pss_one (ps_set (i := 2) sclLAnsA.nd rfl (Or.inl rfl) (pe_tup (pa_cons pe_str (pa_cons (pe_lst (pa_cons (pe_meth0 (pv 1) A.cls mS oS hr1 bS .nil pass0) (pa_cons (pe_meth0 (pv 1) A.cls mW oW hr1 bW .nil pass0) pa_nil))) pa_nil)))))))
    (.cons ⟨rfl, by decide, Or.inl EX.at_⟩ rfl rfl (fun a oe cls d pn hz hf => (pss_one (ps_set (i := 2) sclLAnsA.nd rfl (Or.inl rfl) (pe_tup (pa_cons pe_str (pa_cons (pe_xf EX.xf fl hz hf (pv 3)) (pa_cons (pe_xf EX.xf fw hz hf (pv 3)) pa_nil))))))) (.cons ⟨rfl, by decide, Or.inl EA.at_⟩ rfl rfl (fun a oe cls d pn hz hf => (pss_one (ps_set (i := 2) sclLAnsA.nd rfl (Or.inl rfl) (pe_tup (pa_cons pe_str (pa_cons (pe_xf EA.xf fp hz hf (pv 3)) (pa_cons (pe_xf EA.xf fo hz hf (pv 3)) pa_nil))))))) .nil)))
  (pss_one (ps_ret (pv 2)))), ?_⟩
    walk_at "rd"
    rcases h with ⟨a, rfl, la, k⟩ | ⟨ns, k⟩
    · refine ⟨_, rfl, .inl ⟨a, rfl, la, split_5101 la, fun l kk rw_ dd H' s1 h1 h2 => ?_, fun z rw_ dd H' s1 h1 h2 => ?_, fun ms ns rw_ gm gn y dy p q H' s1 X => ?_⟩⟩
      · refine ⟨true, EX.xm, fun _ a0 _ => ?_, fun q => Bool.noConfusion q⟩
        refine r_asg ?_
        walk_at "rd"
        refine ⟨_, rfl, rfl, rfl, dd, _, _, rfl, h2, look2 _ _ _ _ (by decide), ?_⟩
        refine r_cons ?_
        walk_at "rd"
        refine ⟨_, rfl, rfl, rfl, dd, _, _, rfl, h2, look2' _ _ _ _, ?_⟩
        walk_at "rd"
        refine ⟨by show 3 ≤ sizeLine; decide, fun t nt => ?_⟩
        have st := Same.up (o := .tup [V.str "text", V.int l, V.int kk]) (Same.refl H') nt
        walk_at "rd"
        dsimp only [goneAt]
        walk_at "rd"
        exact k _ rw_ _ _ (s1.trans st) (.tup (SqT.of upd_same) (.cons (.str _) (.cons (.int _) (.cons (.int _) .nil))))
      · refine ⟨false, x1, fun q => Bool.noConfusion q, fun _ => ⟨true, EA.xm, fun _ a0 _ => ?_, fun q => Bool.noConfusion q⟩⟩
        refine r_asg ?_
        walk_at "rd"
        refine ⟨_, rfl, rfl, rfl, dd, _, _, rfl, h2, look2 _ _ _ _ (by decide), ?_⟩
        refine r_cons ?_
        walk_at "rd"
        refine ⟨_, rfl, rfl, rfl, dd, _, _, rfl, h2, look2' _ _ _ _, ?_⟩
        walk_at "rd"
        refine ⟨by show 3 ≤ sizeLine; decide, fun t nt => ?_⟩
        have st := Same.up (o := .tup [V.str "amounts", V.str z, V.int (-1)]) (Same.refl H') nt
        walk_at "rd"
        dsimp only [goneAt]
        walk_at "rd"
        exact k _ rw_ _ _ (s1.trans st) (.tup (SqT.of upd_same) (.cons (.str _) (.cons (.str _) (.cons (.int _) .nil))))
      · walk_at "rd"
        refine ⟨y, dy, _, rfl, X.o, two_no (by decide +kernel) (by decide +kernel), ?_⟩
        walk_at "rd"
        refine ⟨y, dy, p, q, ms, ns, rfl, X, fun r1 n1 => ?_⟩
        have t1 := Same.up (o := .lst (ms.map V.int)) (Same.refl H') n1
        have h1 := @upd_same H' r1 (.lst (ms.map V.int))
        generalize upd H' r1 (.lst (ms.map V.int)) = H2 at t1 h1 ⊢
        walk_at "rd"
        refine ⟨y, dy, _, rfl, t1 _ _ X.o, two_no (by decide +kernel) (by decide +kernel), ?_⟩
        walk_at "rd"
        refine ⟨y, dy, p, q, ms, ns, rfl, X.same t1, fun r2 n2 => ?_⟩
        have t2 := Same.up (o := .lst (ns.map V.int)) (Same.refl H2) n2
        have h2 := @upd_same H2 r2 (.lst (ns.map V.int))
        generalize upd H2 r2 (.lst (ns.map V.int)) = H3 at t2 h2 ⊢
        walk_at "rd"
        refine ⟨by show 2 ≤ sizeLine; decide, fun r3 n3 => ?_⟩
        have t3 := Same.up (o := .lst [V.ref r1, V.ref r2]) (Same.refl H3) n3
        have h3 := @upd_same H3 r3 (.lst [V.ref r1, V.ref r2])
        generalize upd H3 r3 (.lst [V.ref r1, V.ref r2]) = H4 at t3 h3 ⊢
        walk_at "rd"
        refine ⟨by show 2 ≤ sizeLine; decide, fun t nt => ?_⟩
        have st := Same.up (o := .tup [V.str "read", V.ref r3]) (Same.refl H4) nt
        walk_at "rd"
        exact k _ rw_ _ _ (s1.trans (t1.trans (t2.trans (t3.trans st)))) (.tup (SqT.of upd_same) (.cons (.str _) (.cons (.lst (SqL.of (st _ _ h3)) (.cons (.lst (SqL.of ((t2.trans (t3.trans st)) _ _ h1)) (dp_ints ms)) (.cons (.lst (SqL.of ((t3.trans st) _ _ h2)) (dp_ints ns)) .nil))) .nil)))
    · refine ⟨v, rfl, .inr ⟨ns, fun dd H' s1 h1 h2 => ?_⟩⟩
      refine ⟨true, EX.xm, fun _ a0 _ => ?_, fun q => Bool.noConfusion q⟩
      refine r_asg ?_
      walk_at "rd"
      refine ⟨_, rfl, rfl, rfl, dd, _, _, rfl, h2, look2 _ _ _ _ (by decide), ?_⟩
      refine r_cons ?_
      walk_at "rd"
      refine ⟨_, rfl, rfl, rfl, dd, _, _, rfl, h2, look2' _ _ _ _, ?_⟩
      walk_at "rd"
      refine ⟨by show 3 ≤ sizeLine; decide, fun t nt => ?_⟩
      have st := Same.up (o := .tup [V.str "text", V.int (-1), V.int (-1)]) (Same.refl H') nt
      walk_at "rd"
      dsimp only [goneAt]
      walk_at "rd"
      exact k _ _ (s1.trans st) (.tup (SqT.of upd_same) (.cons (.str _) (.cons (.int _) (.cons (.int _) .nil))))
theorem sclLAgrA : FnScope ["_law_text", "_law_due"] ["_law_text"] (defScope slLAgrA) := ⟨rfl, rfl, rfl, by decide +kernel, rfl, by decide +kernel, by decide +kernel⟩
theorem ok_lAgrA (F : Fun K "_law_agrees" "_law_agrees" slLAgrA f fd) (DL : Df P w K mg base CX0 "_law_read" 2 ["_law_text"] (spLReadA K)) (DA : Df P w K mg base CX0 "_law_answer" 11 ["_law_text"] (spLAnsA K)) (DS : Df P w K mg base CX0 "_law_same" 4 ["_law_actual", "_law_due"] (spSame2 K 3))
    (DR : Df P w K mg base (L2.CX P w) "read_amounts" 10 ["text"] (spReadA K CA CX CAE)) (DW : Df P w K mg base CX0 "show_amounts" 3 ["amounts"] (spShowA CA)) :
    FnOk P w K mg base CX0 12 f fd ["_law_text"] spLAgrA := by
  refine F.ok sclLAgrA (fun vs H Q E h => ?_) (fun cdv A' outer s H vs Q E hr h => ?_)
  · obtain ⟨a, rfl, _⟩ := h
    rfl
  · obtain ⟨a, rfl, la, k⟩ := h
    refine ⟨_, (pss_cons (ps_set (i := 1) sclLAgrA.nd rfl (Or.inl rfl) (pe_df DL hr (by decide) (pa_cons (pv 0) pa_nil)))
  (pss_cons (ps_if (pt_not (pt_val (pe_df DS hr (by decide) (pa_cons (pe_df DA hr (by decide) (pa_cons (pv 0) pa_nil)) (pa_cons (pv 1) pa_nil))))) (pss_one (ps_ret pe_bl)) pss_nil)
  (pss_one (ps_ret (pe_or (pe_cmpR op_ne (pe_ix ix_tup (pv 1) pe_int (fun _ _ => rfl)) pe_str (nomark _)) (pe_one (pe_cmpR op_eq (pe_df DW hr (by decide) (pa_cons (pe_dfL DR hr (by decide) (pa_cons (pv 0) pa_nil)) pa_nil)) (pv 0) (nomark _)))))))), ?_⟩
    walk_at "rd"
    refine ⟨a, rfl, la, split_5101 la, fun v H1 o s1 rw1 d1 => ?_⟩
    walk_at "rd"
    refine ⟨_, rfl, .inl ⟨a, rfl, la, fun o2 rw2 r H2 s2 d2 => ?_⟩⟩
    obtain rfl := rw1.uniq rw2
    walk_at "rd"
    refine ⟨_, _, _, rfl, d2, Dp.later s2 d1, o.deep (fun ms ns e => (rw1.inv ms ns e).2), fun H3 s3 => ?_⟩
    refine ⟨_, rfl, ifF rfl ?_⟩
    walk_at "rd"
    have d3 := Dp.later (s2.trans s3) d1
    cases o with
    | txt l kk =>
      cases d3 with
      | @tup t xs _ hX hA =>
        cases hA with
        | cons h0 hr0 =>
          cases h0
          refine r_ixT hX (atI_nat (j := 0) rfl) ?_
          walk_at "rd"
          refine r_ne rfl ?_
          refine ⟨_, rfl, ifT (by decide +kernel) ?_⟩
          exact k _ (s1.trans (s2.trans s3))
    | am z =>
      cases d3 with
      | @tup t xs _ hX hA =>
        cases hA with
        | cons h0 hr0 =>
          cases h0
          refine r_ixT hX (atI_nat (j := 0) rfl) ?_
          walk_at "rd"
          refine r_ne rfl ?_
          refine ⟨_, rfl, ifT (by decide +kernel) ?_⟩
          exact k _ (s1.trans (s2.trans s3))
    | ok ms ns =>
      cases d3 with
      | @tup t xs _ hX hA =>
        cases hA with
        | cons h0 hr0 =>
          cases h0
          refine r_ixT hX (atI_nat (j := 0) rfl) ?_
          walk_at "rd"
          refine r_ne rfl ?_
          refine ⟨_, rfl, ifF (by decide +kernel) ?_⟩
          walk_at "rd"
          refine ⟨_, rfl, .inl ⟨a, rfl, la, split_5101 la, fun l kk rw3 => ?_, fun z rw3 => ?_, fun ys zs rw3 gm gn y dy p q H4 s4 X => ?_⟩⟩
          · have := rw1.uniq rw3
            cases this
          · have := rw1.uniq rw3
            cases this
          · have e := rw1.uniq rw3
            cases e
            obtain ⟨ea, am, an, lm, ln⟩ := joinA_back rw1
            walk_at "rd"
            refine ⟨y, dy, p, q, ms, ns, rfl, X, am, an, lm, ln, fun H5 s5 => ?_⟩
            walk_at "rd"
            refine r_eq rfl ?_
            rw [ea, decide_eq_true rfl]
            exact k _ (s1.trans (s2.trans (s3.trans (s4.trans s5))))
end
end Pk
set_option Elab.async false
set_option linter.all false
set_option maxRecDepth 100000
set_option maxHeartbeats 4000000
namespace Pk
open PySem L2
local macro_rules | `(tactic| walk_at "rd") => `(tactic| repeat (first
  | with_reducible refine r_seq ?_ | with_reducible refine r_nxt ?_ | with_reducible refine r_asg ?_ | with_reducible refine r_to ?_ | with_reducible refine r_ret ?_ | with_reducible refine r_for ?_ | with_reducible refine r_lc ?_ | with_reducible refine r_lc2 ?_ | with_reducible refine r_rng1 ?_ | with_reducible refine r_list ?_ | with_reducible refine r_tupI ?_ | with_reducible refine r_drop ?_ | with_reducible refine r_ifs ?_
  | with_reducible refine r_op ?_ | with_reducible refine r_c ?_ | with_reducible refine r_var rfl ?_ | with_reducible refine r_var (by assumption) ?_ | with_reducible refine r_I0 ?_ | with_reducible refine r_un ?_ | with_reducible refine r_U ?_ | with_reducible refine r_make ?_ | with_reducible refine r_makeS ?_ | with_reducible refine r_ifE ?_ | with_reducible refine r_cm ?_ | with_reducible refine r_mkV rfl ?_ | with_reducible refine r_sub ?_
  | with_reducible refine r_nil ?_ | with_reducible refine r_cons ?_ | with_reducible refine r_cb ?_ | with_reducible refine r_sl ?_ | with_reducible refine r_noP ?_ | with_reducible refine r_part ?_ | with_reducible refine r_isI ?_ | with_reducible refine r_lst ?_ | with_reducible refine r_tup ?_ | with_reducible refine r_call ?_ | with_reducible refine r_callS ?_ | with_reducible refine r_sFldU ?_ | with_reducible refine r_chain ?_ | with_reducible refine r_enum ?_ | with_reducible refine r_zip ?_ | with_reducible refine r_rng3 ?_ | with_reducible refine r_gtup ?_ | with_reducible refine r_methU ?_
  | with_reducible refine r_test ?_ | with_reducible refine r_B ?_ | with_reducible refine r_and ?_ | with_reducible refine r_or ?_ | with_reducible refine r_not ?_ | with_reducible refine r_andV ?_ | with_reducible refine r_orV ?_ | with_reducible refine r_notV ?_ | with_reducible refine r_bl ?_ | with_reducible refine r_yes ?_ | with_reducible refine r_int ?_ | with_reducible refine r_is0 ?_ | with_reducible refine r_is1 ?_ | with_reducible refine iteT ?_ | with_reducible refine iteF ?_ | with_reducible refine ite_nF ?_ | with_reducible refine ite_nT ?_
  | with_reducible refine r_mod (by decide) ?_ | with_reducible refine r_div (by decide) (by decide) ?_ | with_reducible refine r_mulR (by decide) (by decide) ?_ | with_reducible refine r_mulL (by decide) (by decide) ?_ | with_reducible refine r_pow (by decide) (by decide) (by decide) ?_))
open _root_.TL
theorem cut_le (z : Str) (lo hi : Option Int) : (tl (cutS z lo hi)).length ≤ (tl z).length := by
  unfold cutS
  rw [tl_mk]
  show (List.take _ (List.drop _ (tl z))).length ≤ _
  rw [List.length_take, List.length_drop]
  omega
def spSign : Sp := fun vs H Q _ => ∃ n : Int, vs = [.int n] ∧ ∀ c : Nat, Q (.str ⟨#[c]⟩) H
def spPut : Sp := fun vs H Q _ => ∃ (a b : Str) (i : Int), vs = [.str a, .int i, .str b] ∧ (tl a).length ≤ 1400 ∧ (tl b).length ≤ 1 ∧ ∀ x : Str, (tl x).length ≤ 5100 → Q (.str x) H
def spTaken : Sp := fun vs H Q _ => ∃ (a : Str) (i : Int), vs = [.str a, .int i] ∧ (tl a).length ≤ 1400 ∧ ∀ x : Str, (tl x).length ≤ 5100 → Q (.str x) H
abbrev slSign : Stmt := top 27
abbrev slPut : Stmt := top 28
abbrev slTaken : Stmt := top 29
theorem at_ex {z : Str} {i : Int} (h0 : 0 ≤ i) (h1 : i < z.length) : ∃ c, atI z.cps.toList i = some c := by
  obtain ⟨n, rfl⟩ : ∃ n : Nat, i = (n : Int) := ⟨i.toNat, by omega⟩
  have hl : n < (tl z).length := by rw [← len_tl]; omega
  exact ⟨_, atI_nat (List.getElem?_eq_getElem hl)⟩
theorem two_len (a b : Str) : a.length + b.length = (tl a).length + (tl b).length := by rw [len_tl, len_tl]
section
variable {P : Program} {w : World} {K : PySem.W.Frag} {mg : Str → Option Value} {base : Heap} {f : Addr} {fd : FuncData}
theorem sclSign : FnScope ["_law_number_here", "_law_signs"] ["_law_number_here"] (defScope slSign) := ⟨rfl, rfl, rfl, by decide +kernel, rfl, by decide +kernel, by decide +kernel⟩
theorem ok_sign (F : Fun K "_law_sign" "_law_sign" slSign f fd) (T : Bt mg) : FnOk P w K mg base CX0 1 f fd ["_law_number_here"] spSign := by
  refine F.ok sclSign (fun vs H Q E h => ?_) (fun cdv A' outer s H vs Q E hr h => ?_)
  · obtain ⟨n, rfl, _⟩ := h
    rfl
  · obtain ⟨n, rfl, k⟩ := h
    refine ⟨_, (pss_cons (ps_set (i := 1) sclSign.nd rfl (Or.inl rfl) pe_str)
  (pss_cons (ps_set (i := 1) sclSign.nd rfl (Or.inl rfl) (pe_op op_addG (pv 1) pe_str))
  (pss_one (ps_ret (pe_ix ix_str (pv 1) (pe_op op_mod (pv 0) (pe_callB cl_lenS (by rfl) T.len (by decide +kernel) (pa_cons (pv 1) pa_nil))) (fun _ _ => rfl)))))), ?_⟩
    walk_at "rd"
    refine ⟨_, _, rfl, rfl, by decide +kernel, ?_⟩
    walk_at "rd"
    refine ⟨_, rfl, by decide +kernel, ?_⟩
    have l95 : (0 : Int) < ((" !\"#$&'()*+,-./0123456789:;<=>?@ABCDEFGHIJKLMNOPQRSTUVWXYZ[\\]^_" ++ "`abcdefghijklmnopqrstuvwxyz{|}~\n\t" : Str).length : Int) := by decide +kernel
    refine r_mod l95 ?_
    obtain ⟨c, hc⟩ := at_ex (z := (" !\"#$&'()*+,-./0123456789:;<=>?@ABCDEFGHIJKLMNOPQRSTUVWXYZ[\\]^_" ++ "`abcdefghijklmnopqrstuvwxyz{|}~\n\t" : Str)) (Int.emod_nonneg n (Int.ne_of_gt l95)) (Int.emod_lt_of_pos n l95)
    exact ⟨_, _, c, rfl, rfl, by decide +kernel, hc, k c⟩
theorem sclPut : FnScope ["_law_text", "_law_at", "_law_sign_here"] ["_law_text", "_law_at", "_law_sign_here"] (defScope slPut) := ⟨rfl, rfl, rfl, by decide +kernel, rfl, by decide +kernel, by decide +kernel⟩
theorem ok_put (F : Fun K "_law_put_in" "_law_put_in" slPut f fd) : FnOk P w K mg base CX0 1 f fd ["_law_text", "_law_at", "_law_sign_here"] spPut := by
  refine F.ok sclPut (fun vs H Q E h => ?_) (fun cdv A' outer s H vs Q E hr h => ?_)
  · obtain ⟨a, b, i, rfl, _⟩ := h
    rfl
  · obtain ⟨a, b, i, rfl, la, lb, k⟩ := h
    refine ⟨_, (pss_one (ps_ret (pe_op op_addG (pe_op op_addG (pe_slice sl_str (pv 0) po_none (po_some (pv 1))) (pv 2)) (pe_slice sl_str (pv 0) (po_some (pv 1)) po_none)))), ?_⟩
    walk_at "rd"
    have c1 := cut_le a none (some i)
    have c2 := cut_le a (some i) none
    refine ⟨a, rfl, sizes la (by decide), ?_⟩
    walk_at "rd"
    refine ⟨_, _, rfl, rfl, by rw [two_len]; exact Nat.le_trans (show _ ≤ 5100 by omega) (by decide), ?_⟩
    walk_at "rd"
    refine ⟨a, rfl, sizes la (by decide), ?_⟩
    have le : (tl (cutS a none (some i) ++ b)).length ≤ 1401 := by rw [tl_append, List.length_append]; omega
    refine ⟨_, _, rfl, rfl, by rw [two_len]; exact Nat.le_trans (show _ ≤ 5100 by omega) (by decide), ?_⟩
    exact k _ (by rw [tl_append, List.length_append]; omega)
theorem sclTaken : FnScope ["_law_text", "_law_at"] ["_law_text", "_law_at"] (defScope slTaken) := ⟨rfl, rfl, rfl, by decide +kernel, rfl, by decide +kernel, by decide +kernel⟩
theorem ok_taken (F : Fun K "_law_taken_out" "_law_taken_out" slTaken f fd) : FnOk P w K mg base CX0 1 f fd ["_law_text", "_law_at"] spTaken := by
  refine F.ok sclTaken (fun vs H Q E h => ?_) (fun cdv A' outer s H vs Q E hr h => ?_)
  · obtain ⟨a, i, rfl, _⟩ := h
    rfl
  · obtain ⟨a, i, rfl, la, k⟩ := h
    refine ⟨_, (pss_one (ps_ret (pe_op op_addG (pe_slice sl_str (pv 0) po_none (po_some (pv 1))) (pe_slice sl_str (pv 0) (po_some (pe_op op_add (pv 1) pe_int)) po_none)))), ?_⟩
    walk_at "rd"
    have c1 := cut_le a none (some i)
    have c2 := cut_le a (some (i + 1)) none
    refine ⟨a, rfl, sizes la (by decide), ?_⟩
    walk_at "rd"
    refine ⟨a, rfl, sizes la (by decide), ?_⟩
    refine ⟨_, _, rfl, rfl, by rw [two_len]; exact Nat.le_trans (show _ ≤ 5100 by omega) (by decide), ?_⟩
    exact k _ (by rw [tl_append, List.length_append]; omega)
end
/-! ### a text of amounts, changed a little -/
open _root_.TL
theorem joinL_sum (s : Nat) : ∀ ps : List (List Nat), ps ≠ [] → (joinL [s] ps).length + 1 = (ps.map List.length).sum + ps.length
  | [], h => absurd rfl h
  | [p], _ => by simp [joinL]
  | p :: q :: r, _ => by
    have := joinL_sum s (q :: r) (by simp)
    rw [joinL_cons (by simp), List.length_append, List.length_append, List.map_cons, List.sum_cons]
    have l1 : [s].length = 1 := rfl
    have l2 : (p :: q :: r).length = (q :: r).length + 1 := rfl
    omega
theorem split_sum (a : Str) : ((Txt.split a " ").map fun w => (tl w).length).sum + (Txt.split a " ").length = (tl a).length + 1 := by
  have e := split_spl a " " (by rw [tl_sp]; decide) (kind_ok (by decide +kernel))
  have h := joinL_sum 32 ((Txt.split a " ").map tl) (by rw [e]; exact spl_ne _ _ _ _)
  rw [List.map_map, List.length_map, show joinL [32] ((Txt.split a " ").map tl) = tl a by rw [e, tl_sp, joinL_spl]; rfl] at h
  exact h.symm
def spChangedA (K : PySem.W.Frag) : Sp := fun vs H Q _ => ∃ (a : Str) (d : Addr) (x y z : Int), vs = [.str a, .ref d] ∧ (tl a).length ≤ 1400 ∧ SqL K H d [.int x, .int y, .int z] ∧ 0 ≤ x ∧ 0 ≤ y ∧ 0 ≤ z ∧
  ∀ (b : Str) (H' : Hp), Same H H' → (tl b).length ≤ 5100 → Q (.str b) H'
abbrev slChangedA : Stmt := top 33
abbrev nmChangedA : List Str := ["_law_text", "_law_drawn", "_law_odd", "_law_at", "_law_words", "_law_place"]
def oddA : List Str := ["|", "", "-1", "-0", "007", "+3", repS 49 61, repS 57 60, "0", "||", "a", "-"]
theorem oddA_len : ∀ w, w ∈ oddA → (tl w).length ≤ 61 := by decide +kernel
section
variable {P : Program} {w : World} {K : PySem.W.Frag} {mg : Str → Option Value} {base : Heap} {f : Addr} {fd : FuncData}
theorem sclChangedA : FnScope nmChangedA ["_law_text", "_law_drawn"] (defScope slChangedA) := ⟨rfl, rfl, rfl, by decide +kernel, rfl, by decide +kernel, by decide +kernel⟩
theorem ok_changedA (F : Fun K "_law_changed" "_law_changed" slChangedA f fd) (T : Bt mg) (DS : Df P w K mg base CX0 "_law_sign" 1 ["_law_number_here"] spSign) (DP : Df P w K mg base CX0 "_law_put_in" 1 ["_law_text", "_law_at", "_law_sign_here"] spPut) (DT : Df P w K mg base CX0 "_law_taken_out" 1 ["_law_text", "_law_at"] spTaken) : FnOk P w K mg base CX0 2 f fd ["_law_text", "_law_drawn"] (spChangedA K) := by
  refine F.ok sclChangedA (fun vs H Q E h => ?_) (fun cdv A' outer s H vs Q E hr h => ?_)
  · obtain ⟨a, d, x, y, z, rfl, _⟩ := h
    rfl
  · obtain ⟨a, d, x, y, z, rfl, la, hd, x0, y0, z0, k⟩ := h
    refine ⟨_, (pss_cons (ps_set (i := 2) sclChangedA.nd rfl (Or.inl rfl) (pe_lst (pa_cons pe_str (pa_cons pe_str (pa_cons pe_str (pa_cons pe_str (pa_cons pe_str (pa_cons pe_str (pa_cons (pe_op op_mulS pe_str pe_int) (pa_cons (pe_op op_mulS pe_str pe_int) (pa_cons pe_str (pa_cons pe_str (pa_cons pe_str (pa_cons pe_str pa_nil))))))))))))))
  (pss_cons (ps_set (i := 3) sclChangedA.nd rfl (Or.inl rfl) (pe_op op_mod (pe_ix ix_list (pv 1) pe_int (fun _ _ => rfl)) (pe_op op_add (pe_callB cl_lenS (by rfl) T.len (by decide +kernel) (pa_cons (pv 0) pa_nil)) pe_int)))
  (pss_cons (ps_if (pt_cmpR op_eq (pe_ix ix_list (pv 1) pe_int (fun _ _ => rfl)) pe_int (nomark _)) (pss_one (ps_ret (pe_df DT hr (by decide) (pa_cons (pv 0) (pa_cons (pv 3) pa_nil))))) pss_nil)
  (pss_cons (ps_if (pt_cmpR op_eq (pe_ix ix_list (pv 1) pe_int (fun _ _ => rfl)) pe_int (nomark _)) (pss_cons (ps_set (i := 4) sclChangedA.nd rfl (Or.inl rfl) (pe_split (pv 0) pe_str))
  (pss_cons (ps_set (i := 5) sclChangedA.nd rfl (Or.inl rfl) (pe_op op_mod (pe_ix ix_list (pv 1) pe_int (fun _ _ => rfl)) (pe_op op_add (pe_callB cl_len (by rfl) T.len (by decide +kernel) (pa_cons (pv 4) pa_nil)) pe_int)))
  (pss_one (ps_ret (pe_join pe_str (pe_op op_cat (pe_op op_cat (pe_slice sl_list (pv 4) po_none (po_some (pv 5))) (pe_lst (pa_cons (pe_ix ix_list (pv 2) (pe_op op_mod (pe_ix ix_list (pv 1) pe_int (fun _ _ => rfl)) pe_int) (fun _ _ => rfl)) pa_nil))) (pe_slice sl_list (pv 4) (po_some (pv 5)) po_none))))))) pss_nil)
  (pss_one (ps_ret (pe_df DP hr (by decide) (pa_cons (pv 0) (pa_cons (pv 3) (pa_cons (pe_df DS hr (by decide) (pa_cons (pe_ix ix_list (pv 1) pe_int (fun _ _ => rfl)) pa_nil)) pa_nil)))))))))), ?_⟩
    have a0 : atI [V.int x, V.int y, V.int z] 0 = some (V.int x) := rfl
    have a1 : atI [V.int x, V.int y, V.int z] 1 = some (V.int y) := rfl
    have a2 : atI [V.int x, V.int y, V.int z] 2 = some (V.int z) := rfl
    have hs := sizes la (by decide)
    have e1 : ("1" : Str) = ⟨#[49]⟩ := by decide +kernel
    have e9 : ("9" : Str) = ⟨#[57]⟩ := by decide +kernel
    walk_at "rd"
    refine ⟨49, 61, by rw [e1], rfl, by decide, by decide, ?_⟩
    walk_at "rd"
    refine ⟨57, 60, by rw [e9], rfl, by decide, by decide, ?_⟩
    walk_at "rd"
    refine ⟨by show 12 ≤ sizeLine; decide, fun o no => ?_⟩
    have so := Same.up (o := .lst (oddA.map V.str)) (Same.refl H) no
    have ho := @upd_same H o (.lst (oddA.map V.str))
    rw [show upd H o (.lst [V.str "|", V.str "", V.str "-1", V.str "-0", V.str "007", V.str "+3", V.str (repS 49 61), V.str (repS 57 60), V.str "0", V.str "||", V.str "a", V.str "-"]) = upd H o (.lst (oddA.map V.str)) from rfl]
    generalize upd H o (.lst (oddA.map V.str)) = H0 at so ho ⊢
    have hd := so.seq hd
    walk_at "rd"
    refine r_ixL hd a0 ?_
    walk_at "rd"
    refine ⟨_, rfl, hs, ?_⟩
    walk_at "rd"
    refine r_mod (by omega) ?_
    walk_at "rd"
    refine r_ixL hd a2 ?_
    walk_at "rd"
    refine r_eq rfl ?_
    walk_at "rd"
    refine ite_dec (fun c => ?_) (fun c => ?_)
    · walk_at "rd"
      exact ⟨a, _, rfl, la, fun b hb => k b _ so hb⟩
    · walk_at "rd"
      refine r_ixL hd a2 ?_
      walk_at "rd"
      refine r_eq rfl ?_
      walk_at "rd"
      refine ite_dec (fun c => ?_) (fun c => ?_)
      · walk_at "rd"
        refine r_tM1 ?_
        walk_at "rd"
        refine ⟨⟨_, rfl⟩, ?_⟩
        walk_at "rd"
        refine ⟨a, " ", rfl, rfl, by decide +kernel, by rw [len_tl]; exact Nat.le_trans (show (tl a).length + 2 ≤ 5102 by omega) (by decide), fun r nr => ?_⟩
        have sums := split_sum a
        have wb := (split_bd a (y := " ") (by rw [tl_sp]; decide) (by decide +kernel)).2
        generalize Txt.split a " " = ws at sums wb ⊢
        have t1 := Same.up (o := .lst (ws.map V.str)) (Same.refl H0) nr
        have hr1 := @upd_same H0 r (.lst (ws.map V.str))
        generalize upd H0 r (.lst (ws.map V.str)) = H1 at t1 hr1 ⊢
        have s1 := so.trans t1
        have lw : (ws.map V.str).length = ws.length := List.length_map ..
        walk_at "rd"
        refine r_ixL (t1.seq hd) a0 ?_
        walk_at "rd"
        refine r_lenL (SqL.of hr1) ?_
        rw [lw]
        walk_at "rd"
        refine r_mod (by omega) ?_
        have p0 := Int.emod_nonneg x (show (ws.length : Int) + 1 ≠ 0 by omega)
        have p1 := Int.emod_lt_of_pos x (show (0 : Int) < (ws.length : Int) + 1 by omega)
        obtain ⟨pl, epl⟩ : ∃ pl : Nat, x % ((ws.length : Int) + 1) = (pl : Int) := ⟨(x % ((ws.length : Int) + 1)).toNat, by omega⟩
        rw [epl] at p1 ⊢
        have ple : pl ≤ ws.length := by omega
        walk_at "rd"
        refine r_tM1 ?_
        walk_at "rd"
        refine ⟨⟨_, rfl⟩, ?_⟩
        walk_at "rd"
        refine ⟨r, _, rfl, SqL.of hr1, fun p1 np1 => ?_⟩
        rw [cutAt (by omega), ← List.map_take]
        have t2 := Same.up (o := .lst ((ws.take pl).map V.str)) (Same.refl H1) np1
        have hp1 := @upd_same H1 p1 (.lst ((ws.take pl).map V.str))
        generalize upd H1 p1 (.lst ((ws.take pl).map V.str)) = H2 at t2 hp1 ⊢
        walk_at "rd"
        refine r_ixL ((t1.trans t2).seq hd) a1 ?_
        walk_at "rd"
        have j0 := Int.emod_nonneg y (show (12 : Int) ≠ 0 by decide)
        have j1 := Int.emod_lt_of_pos y (show (0 : Int) < 12 by decide)
        obtain ⟨j, ej⟩ : ∃ j : Nat, y % 12 = (j : Int) := ⟨(y % 12).toNat, by omega⟩
        rw [ej] at j1 ⊢
        have jl : j < oddA.length := by show j < 12; omega
        refine r_ixL (SqL.of ((t1.trans t2) _ _ ho)) (atI_nat (v := .str oddA[j]) (by rw [List.getElem?_map, List.getElem?_eq_getElem jl]; rfl)) ?_
        have lo := oddA_len _ (List.getElem_mem jl)
        generalize oddA[j] = od at lo ⊢
        walk_at "rd"
        refine ⟨by show 1 ≤ sizeLine; decide, fun p2 np2 => ?_⟩
        have t3 := Same.up (o := .lst [V.str od]) (Same.refl H2) np2
        have hp2 := @upd_same H2 p2 (.lst [V.str od])
        generalize upd H2 p2 (.lst [V.str od]) = H3 at t3 hp2 ⊢
        refine r_cat (t3 _ _ hp1) hp2 (by simp only [List.length_map, List.length_take, List.length_cons, List.length_nil]; exact Nat.le_trans (show min pl ws.length + 1 ≤ 5000 by omega) (by decide)) fun p3 np3 => ?_
        have t4 := Same.up (o := .lst ((ws.take pl).map V.str ++ [V.str od])) (Same.refl H3) np3
        have hp3 := @upd_same H3 p3 (.lst ((ws.take pl).map V.str ++ [V.str od]))
        generalize upd H3 p3 (.lst ((ws.take pl).map V.str ++ [V.str od])) = H4 at t4 hp3 ⊢
        have t14 := t2.trans (t3.trans t4)
        walk_at "rd"
        refine ⟨r, _, rfl, SqL.of (t14 _ _ hr1), fun p4 np4 => ?_⟩
        rw [cutDrop (by omega), ← List.map_drop]
        have t5 := Same.up (o := .lst ((ws.drop pl).map V.str)) (Same.refl H4) np4
        have hp4 := @upd_same H4 p4 (.lst ((ws.drop pl).map V.str))
        generalize upd H4 p4 (.lst ((ws.drop pl).map V.str)) = H5 at t5 hp4 ⊢
        refine r_cat (t5 _ _ hp3) hp4 (by simp only [List.length_append, List.length_map, List.length_take, List.length_drop, List.length_cons, List.length_nil]; exact Nat.le_trans (show min pl ws.length + 1 + (ws.length - pl) ≤ 5000 by omega) (by decide)) fun p5 np5 => ?_
        rw [show ((ws.take pl).map V.str ++ [V.str od]) ++ (ws.drop pl).map V.str = ((ws.take pl ++ [od]) ++ ws.drop pl).map V.str by simp only [List.map_append]; rfl]
        obtain ⟨us, eus⟩ : ∃ us, us = (ws.take pl ++ [od]) ++ ws.drop pl := ⟨_, rfl⟩
        have ul : us.length = ws.length + 1 := by rw [eus]; simp only [List.length_append, List.length_take, List.length_drop, List.length_cons, List.length_nil]; omega
        have usum : (us.map fun w => (tl w).length).sum = (ws.map fun w => (tl w).length).sum + (tl od).length := by
          have e := congrArg (fun l => (l.map fun w : Str => (tl w).length).sum) (List.take_append_drop pl ws)
          simp only [List.map_append, List.sum_append] at e
          rw [eus]
          simp only [List.map_append, List.sum_append, List.map_cons, List.map_nil, List.sum_cons, List.sum_nil]
          omega
        rw [← eus]
        refine ⟨" ", p5, us, rfl, rfl, .inl (SqL.of upd_same), ?_, ?_⟩
        · have l1 : (" " : Str).length = 1 := by decide +kernel
          rw [l1, show (us.map fun x => x.length) = us.map fun w => (tl w).length from List.map_congr_left fun w _ => len_tl w, usum]
          omega
        · refine k _ _ (s1.trans (t14.trans (t5.trans (Same.up (Same.refl _) np5)))) ?_
          rw [join_eq, tl_join, tl_sp]
          have := joinL_sum 32 (us.map tl) (by rw [ne_eq, List.map_eq_nil_iff]; intro z; rw [z] at ul; cases ul)
          rw [List.map_map, List.length_map] at this
          have e : (us.map (List.length ∘ tl)).sum = (us.map fun w => (tl w).length).sum := rfl
          rw [e, usum, ul] at this
          omega
      · walk_at "rd"
        refine r_ixL hd a1 ?_
        walk_at "rd"
        refine ⟨y, rfl, fun c1 => ?_⟩
        walk_at "rd"
        exact ⟨a, _, _, rfl, la, by show 1 ≤ 1; decide, fun b hb => k b _ so hb⟩
end
end Pk
set_option Elab.async false
set_option linter.all false
set_option maxRecDepth 100000
set_option maxHeartbeats 4000000
namespace Pk
open PySem L2
local macro_rules | `(tactic| walk_at "rd") => `(tactic| repeat (first
  | with_reducible refine r_seq ?_ | with_reducible refine r_nxt ?_ | with_reducible refine r_asg ?_ | with_reducible refine r_to ?_ | with_reducible refine r_ret ?_ | with_reducible refine r_for ?_ | with_reducible refine r_lc ?_ | with_reducible refine r_lc2 ?_ | with_reducible refine r_rng1 ?_ | with_reducible refine r_list ?_ | with_reducible refine r_tupI ?_ | with_reducible refine r_drop ?_ | with_reducible refine r_ifs ?_
  | with_reducible refine r_op ?_ | with_reducible refine r_c ?_ | with_reducible refine r_var rfl ?_ | with_reducible refine r_var (by assumption) ?_ | with_reducible refine r_I0 ?_ | with_reducible refine r_un ?_ | with_reducible refine r_U ?_ | with_reducible refine r_make ?_ | with_reducible refine r_makeS ?_ | with_reducible refine r_ifE ?_ | with_reducible refine r_cm ?_ | with_reducible refine r_mkV rfl ?_ | with_reducible refine r_sub ?_
  | with_reducible refine r_nil ?_ | with_reducible refine r_cons ?_ | with_reducible refine r_cb ?_ | with_reducible refine r_sl ?_ | with_reducible refine r_noP ?_ | with_reducible refine r_part ?_ | with_reducible refine r_isI ?_ | with_reducible refine r_lst ?_ | with_reducible refine r_tup ?_ | with_reducible refine r_call ?_ | with_reducible refine r_callS ?_ | with_reducible refine r_sFldU ?_ | with_reducible refine r_chain ?_ | with_reducible refine r_enum ?_ | with_reducible refine r_zip ?_ | with_reducible refine r_rng3 ?_ | with_reducible refine r_gtup ?_ | with_reducible refine r_methU ?_
  | with_reducible refine r_test ?_ | with_reducible refine r_B ?_ | with_reducible refine r_and ?_ | with_reducible refine r_or ?_ | with_reducible refine r_not ?_ | with_reducible refine r_andV ?_ | with_reducible refine r_orV ?_ | with_reducible refine r_notV ?_ | with_reducible refine r_bl ?_ | with_reducible refine r_yes ?_ | with_reducible refine r_int ?_ | with_reducible refine r_is0 ?_ | with_reducible refine r_is1 ?_ | with_reducible refine iteT ?_ | with_reducible refine iteF ?_ | with_reducible refine ite_nF ?_ | with_reducible refine ite_nT ?_
  | with_reducible refine r_mod (by decide) ?_ | with_reducible refine r_div (by decide) (by decide) ?_ | with_reducible refine r_mulR (by decide) (by decide) ?_ | with_reducible refine r_mulL (by decide) (by decide) ?_ | with_reducible refine r_pow (by decide) (by decide) (by decide) ?_))
/-! ### the law, from its end -/
open _root_.TL
def spLaw (K : PySem.W.Frag) : Sp := fun vs H Q _ => ∃ (l : Addr) (ns : List Int), vs = [.ref l] ∧ SqL K H l (ns.map V.int) ∧ ns.length ≤ 63 ∧ ∀ H' : Hp, Q (.bl true) H'
abbrev slaw : Stmt := top 35
abbrev nmLaw : List Str := ["_law_script", "_law_head", "_law_size", "_law_drawn", "_law_stocks", "_law_wishes", "_law_due", "_law_amounts", "_law_texts", "_law_text", "_law_wrong", "_law_spot"]
theorem sclaw : FnScope nmLaw ["_law_script"] (defScope slaw) := ⟨rfl, rfl, rfl, by decide +kernel, rfl, by decide +kernel, by decide +kernel⟩
abbrev xLaw (P : Program) (w : World) (K : PySem.W.Frag) (mg : Str → Option Value) (base : Heap) (f : Addr) (cdv : Value) (A : Around) (outer : List Env) (s : Shared) (H0 : Hp) (E : XK) : Cx := (cxOf CX0 P w K mg base nmLaw "law" (defScope slaw) f cdv A outer s H0 E).nox
structure LD (P : Program) (w : World) (K : PySem.W.Frag) (mg : Str → Option Value) (base : Heap) (CA CX CAE : Addr) : Prop where
  lDraws : Df P w K mg base CX0 "_law_draws" 2 ["_law_script", "_law_spot", "_law_sizes"] (spDraws K)
  lSame : Df P w K mg base CX0 "_law_same" 4 ["_law_actual", "_law_due"] (spSame2 K 3)
  lAgr : Df P w K mg base CX0 "_law_agrees" 12 ["_law_text"] spLAgrA
  lAns : Df P w K mg base CX0 "_law_answer" 11 ["_law_text"] (spLAnsA K)
  lChg : Df P w K mg base CX0 "_law_changed" 2 ["_law_text", "_law_drawn"] (spChangedA K)
  lJoin : Df P w K mg base CX0 "_law_joined" 3 ["_law_stocks", "_law_wishes"] spJoined
  show_ : Df P w K mg base CX0 "show_amounts" 3 ["amounts"] (spShowA CA)
  read : Df P w K mg base (L2.CX P w) "read_amounts" 10 ["text"] (spReadA K CA CX CAE)
  made : Dk P w K mg base (L2.CX P w) "Amounts" 8 ["self", "stocks", "wishes"] (spAmG K CA CAE) CA
  O : OwnC K CA
  eq : ∃ f fd, Meth K CA "__eq__" f ∧ FnOk P w K mg base CX0 1 f fd ["self", "other"] (spAmEq CA) ∧ Binds K fd ["self", "other"] []
  ne : PySem.W.findIn K (.ref CA) "__ne__" = some (some (.builtin "object.__ne__"))
  mr : PySem.W.mroIn K CA (.type "object") = some true
theorem r_rng2 {ta : TA} {σ : L2.St} {H : Hp} {R : It → Hp → Prop} (h : ta σ H fun vs H1 => ∃ i j : Int, vs = [.int i, .int j] ∧ (-(2 ^ 62) ≤ i ∧ i < 2 ^ 62 ∧ -(2 ^ 62) ≤ j ∧ j < 2 ^ 62) ∧ R (Itr i (j - i).toNat) H1) : iRng2 ta σ H R := h
theorem len3 {l : List Int} {x y z : Int} (h : l.length = 3) (e0 : l[0]? = some x) (e1 : l[1]? = some y) (e2 : l[2]? = some z) : l = [x, y, z] := by
  match l, h with
  | [a, b, c], _ =>
    cases Option.some.inj e0
    cases Option.some.inj e1
    cases Option.some.inj e2
    rfl
theorem cut42 (xs : List V) (n : Nat) : (cutV xs none (some (n : Int))).length ≤ n := by
  unfold cutV
  rw [HT.sIx_nat]
  show (List.take (min n xs.length - 0) (List.drop 0 xs)).length ≤ n
  rw [List.length_take]
  omega
section
variable {P : Program} {w : World} {K : PySem.W.Frag} {mg : Str → Option Value} {base : Heap} {CA CX CAE : Addr} {f : Addr} {fd : FuncData} {cdv : Value} {A : Around} {outer : List Env} {s : Shared} {H0 : Hp} {E : XK}
theorem seg13 (hr : Room 39 (xLaw P w K mg base f cdv A outer s H0 E).A) (T : Bt mg) (D : LD P w K mg base CA CX CAE) : ∃ u : TS, PSs (xLaw P w K mg base f cdv A outer s H0 E) ((defBody slaw).drop 13) u ∧
    ∀ {l : Addr} {sc : List Int} {a : Str} (En : Ends) (H : Hp) (v1 v2 v3 v4 v5 v7 v8 v9 v10 v11 : Option V), SqL K H l (sc.map V.int) → (tl a).length ≤ 1400 → (∀ H', En.rt (.bl true) H') →
      u En [some (.ref l), v1, v2, v3, v4, v5, some (.str a), v7, v8, v9, v10, v11] H := by
  refine ⟨_, (pss_cons (ps_for PassesOwn.never rfl (pi_range2 rfl T.range (pa_cons pe_int (pa_cons (pe_callB (call_max2 rfl) (by rfl) T.max (by decide +kernel) (pa_cons pe_int (pa_cons (pe_callB cl_len (by rfl) T.len (by decide +kernel) (pa_cons (pe_slice sl_list (pv 0) po_none (po_some pe_int)) pa_nil)) pa_nil))) pa_nil))) (pg_name (i := 11) sclaw.nd rfl (Or.inl rfl)) (pss_one (ps_if (pt_not (pt_val (pe_df D.lAgr hr (by decide) (pa_cons (pe_df D.lChg hr (by decide) (pa_cons (pv 6) (pa_cons (pe_df D.lDraws hr (by decide) (pa_cons (pv 0) (pa_cons (pv 11) (pa_cons (pe_lst (pa_cons (pe_op op_pow pe_int pe_int) (pa_cons pe_int (pa_cons pe_int pa_nil)))) pa_nil)))) pa_nil))) pa_nil)))) (pss_one (ps_ret pe_bl)) pss_nil)))
  (pss_one (ps_ret pe_bl))), ?_⟩
  intro l sc a En H v1 v2 v3 v4 v5 v7 v8 v9 v10 v11 hl la k
  walk_at "rd"
  refine r_rng2 ?_
  walk_at "rd"
  refine ⟨l, sc.map V.int, rfl, hl, fun q nq => ?_⟩
  obtain ⟨xs42, e42⟩ : ∃ xs42, xs42 = cutV (sc.map V.int) none (some (42 : Int)) := ⟨_, rfl⟩
  have l42 : xs42.length ≤ 42 := by rw [e42]; exact cut42 _ 42
  rw [← e42]
  have s1 := Same.up (o := .lst xs42) (Same.refl H) nq
  have hq1 := @upd_same H q (.lst xs42)
  generalize upd H q (.lst xs42) = H1 at s1 hq1 ⊢
  walk_at "rd"
  refine r_lenL (SqL.of hq1) ?_
  walk_at "rd"
  refine ⟨9, _, rfl, ?_⟩
  refine ⟨2, _, rfl, ⟨by decide, by decide, by split <;> omega, by split <;> omega⟩, for_it walk_range (fun m σ H' => ∃ v11, σ = [some (.ref l), v1, v2, v3, v4, v5, some (.str a), v7, v8, v9, v10, v11] ∧ Same H H') ⟨_, rfl, s1⟩ (fun _ _ _ _ _ => trivial) ?_ ?_⟩
  · rintro m y σ H20 H2 hm ⟨v11, rfl, s2⟩ ⟨rfl, rfl⟩
    have e0 : (2 : Int) + (m : Int) = ((2 + m : Nat) : Int) := by omega
    simp only [e0]
    walk_at "rd"
    have e5 : (10 : Int) ^ (5 : Int).toNat = 100000 := by decide +kernel
    rw [e5]
    refine ⟨by show 3 ≤ sizeLine; decide, fun q3 n3 => ?_⟩
    have s3' := Same.up (o := .lst [V.int 100000, V.int 96, V.int 4]) (Same.refl H2) n3
    have hq3 : upd H2 q3 (.lst [V.int 100000, V.int 96, V.int 4]) q3 = some (.lst (([100000, 96, 4] : List Int).map V.int)) := upd_same
    generalize upd H2 q3 (.lst [V.int 100000, V.int 96, V.int 4]) = H3 at s3' hq3 ⊢
    have s3 := s2.trans s3'
    have pos : ∀ z, z ∈ ([100000, 96, 4] : List Int) → 0 < z := by decide
    have szz : ∀ z, z ∈ ([100000, 96, 4] : List Int) → Szd z := fun z hz => ⟨pos z hz, by
      have : ∀ z, z ∈ ([100000, 96, 4] : List Int) → z.natAbs.log2 < 9000 := by decide +kernel
      exact this z hz⟩
    walk_at "rd"
    refine ⟨l, q3, sc, _, 2 + m, rfl, s3.seq hl, hq3, szz, by decide, fun dr H4 s4' ndr hdr => ?_⟩
    have s4 := s3.trans s4'
    obtain ⟨x, ex, x0, _⟩ := drawsF_get (ns := sc) (sp := 2 + m) pos (i := 0) rfl
    obtain ⟨y, ey, y0, _⟩ := drawsF_get (ns := sc) (sp := 2 + m) pos (i := 1) rfl
    obtain ⟨z, ez, z0, _⟩ := drawsF_get (ns := sc) (sp := 2 + m) pos (i := 2) rfl
    rw [len3 (by rw [drawsF_len]; rfl) ex ey ez] at hdr
    walk_at "rd"
    refine ⟨a, dr, x, y, z, rfl, la, SqL.of hdr, x0, y0, z0, fun b H5 s5' lb => ?_⟩
    have s5 := s4.trans s5'
    walk_at "rd"
    refine ⟨b, rfl, lb, fun H6 s6 => ?_⟩
    refine ⟨_, rfl, ifF rfl ?_⟩
    walk_at "rd"
    exact ⟨_, rfl, s5.trans s6⟩
  · rintro σ H2 ⟨v11, rfl, s2⟩
    walk_at "rd"
    exact k H2
theorem seg11 (hr : Room 39 (xLaw P w K mg base f cdv A outer s H0 E).A) (T : Bt mg) (D : LD P w K mg base CA CX CAE) : ∃ u : TS, PSs (xLaw P w K mg base f cdv A outer s H0 E) ((defBody slaw).drop 11) u ∧
    ∀ {l q8 : Addr} {sc : List Int} {a : Str} {os : List Str} (En : Ends) (H : Hp) (v1 v2 v3 v4 v5 v7 v9 v10 v11 : Option V), SqL K H l (sc.map V.int) → (tl a).length ≤ 1400 → H q8 = some (.lst (os.map V.str)) → (∀ w, w ∈ os → (tl w).length ≤ 5100) → (∀ H', En.rt (.bl true) H') →
      u En [some (.ref l), v1, v2, v3, v4, v5, some (.str a), v7, some (.ref q8), v9, v10, v11] H := by
  obtain ⟨u13, d13, h13⟩ := seg13 (f := f) (cdv := cdv) (outer := outer) (s := s) (H0 := H0) (E := E) hr T D
  refine ⟨_, (pss_cons (ps_for PassesOwn.never rfl (pi_list (pv 8)) (pg_name (i := 9) sclaw.nd rfl (Or.inl rfl)) (pss_one (ps_if (pt_not (pt_val (pe_df D.lAgr hr (by decide) (pa_cons (pv 9) pa_nil)))) (pss_one (ps_ret pe_bl)) pss_nil)))
  (pss_cons (ps_for PassesOwn.never rfl (pi_list (pe_lst (pa_cons pe_non (pa_cons pe_int (pa_cons pe_bl (pa_cons (pe_lst (pa_cons (pe_lst (pa_cons pe_int pa_nil)) (pa_cons (pe_lst (pa_cons pe_int pa_nil)) pa_nil))) (pa_cons (pe_tup (pa_cons pe_int (pa_cons pe_int pa_nil))) (pa_cons pe_dnewK (pa_cons (pe_disp (pps_cons pe_str pe_int pps_nil) (by rfl) (by rfl) (fun z => by cases z) (by decide)) pa_nil))))))))) (pg_name (i := 10) sclaw.nd rfl (Or.inl rfl)) (pss_one (ps_if (pt_not (pt_val (pe_df D.lSame hr (by decide) (pa_cons (pe_df D.lAns hr (by decide) (pa_cons (pv 10) pa_nil)) (pa_cons (pe_tup (pa_cons pe_str (pa_cons (pe_un un_neg pe_int) (pa_cons (pe_un un_neg pe_int) pa_nil)))) pa_nil))))) (pss_one (ps_ret pe_bl)) pss_nil))) d13)), ?_⟩
  intro l q8 sc a os En H v1 v2 v3 v4 v5 v7 v9 v10 v11 hl la ho ob k
  walk_at "rd"
  refine ⟨q8, rfl, ⟨_, SqL.of ho⟩, for_it walk_list (fun m σ H' => ∃ v9, σ = [some (.ref l), v1, v2, v3, v4, v5, some (.str a), v7, some (.ref q8), v9, v10, v11] ∧ Same H H') ⟨_, rfl, Same.refl H⟩ (fun m σ H' _ z => by obtain ⟨_, _, z⟩ := z; exact SqL.of (z _ _ ho)) ?_ ?_⟩
  · rintro m y σ H3 H4 hm ⟨v9, rfl, s3⟩ ⟨rfl, ey⟩
    rw [List.getElem?_map] at ey
    obtain ⟨x, ex, rfl⟩ := Option.map_eq_some_iff.mp ey
    walk_at "rd"
    refine ⟨x, rfl, ob x (List.mem_of_getElem? ex), fun H5 s5 => ?_⟩
    refine ⟨_, rfl, ifF rfl ?_⟩
    walk_at "rd"
    exact ⟨_, rfl, s3.trans s5⟩
  · rintro σ H3 ⟨v9, rfl, s23⟩
    walk_at "rd"
    refine ⟨by show 1 ≤ sizeLine; decide, fun e8 ne8 => ?_⟩
    have u1 := Same.up (o := .lst [V.int 1]) (Same.refl H3) ne8
    generalize upd H3 e8 (.lst [V.int 1]) = F1 at u1 ⊢
    walk_at "rd"
    refine ⟨by show 1 ≤ sizeLine; decide, fun e9 ne9 => ?_⟩
    have u2 := Same.up (o := .lst [V.int 2]) (Same.refl F1) ne9
    generalize upd F1 e9 (.lst [V.int 2]) = F2 at u2 ⊢
    walk_at "rd"
    refine ⟨by show 2 ≤ sizeLine; decide, fun e1 ne1 => ?_⟩
    have w1 := Same.up (o := .lst [V.ref e8, V.ref e9]) (Same.refl F2) ne1
    have he1 := @upd_same F2 e1 (.lst [V.ref e8, V.ref e9])
    generalize upd F2 e1 (.lst [V.ref e8, V.ref e9]) = G1 at w1 he1 ⊢
    walk_at "rd"
    refine ⟨by show 2 ≤ sizeLine; decide, fun e2 ne2 => ?_⟩
    have w2 := Same.up (o := .tup [V.int 1, V.int 2]) (Same.refl G1) ne2
    have he2 := @upd_same G1 e2 (.tup [V.int 1, V.int 2])
    generalize upd G1 e2 (.tup [V.int 1, V.int 2]) = G2 at w2 he2 ⊢
    walk_at "rd"
    intro e3 ne3
    have w3 := Same.up (o := .dK []) (Same.refl G2) ne3
    have he3 := @upd_same G2 e3 (.dK [])
    generalize upd G2 e3 (.dK []) = G3 at w3 he3 ⊢
    walk_at "rd"
    intro e4 ne4
    show _ ∧ _
    refine ⟨upd_same, [(.inr "1", .int 2)], rfl, by show 1 ≤ 15; decide, ?_⟩
    have w4 : Same G3 (upd (upd G3 e4 (.dK [])) e4 (.dK (mergeK [] [(.inr "1", .int 2)]))) := Same.upOff (Same.up (Same.refl G3) ne4) ne4
    have he4 := @upd_same (upd G3 e4 (.dK [])) e4 (.dK (mergeK [] [(.inr "1", .int 2)]))
    generalize upd (upd G3 e4 (.dK [])) e4 (.dK (mergeK [] [(.inr "1", .int 2)])) = G4 at w4 he4 ⊢
    walk_at "rd"
    refine ⟨by show 7 ≤ sizeLine; decide, fun e5 ne5 => ?_⟩
    obtain ⟨vs, evs⟩ : ∃ vs : List V, vs = [V.non, V.int 0, V.bl true, V.ref e1, V.ref e2, V.ref e3, V.ref e4] := ⟨_, rfl⟩
    rw [← evs]
    have w5 := Same.up (o := .lst vs) (Same.refl G4) ne5
    have he5 := @upd_same G4 e5 (.lst vs)
    generalize upd G4 e5 (.lst vs) = G5 at w5 he5 ⊢
    have s35 : Same H G5 := s23.trans (u1.trans (u2.trans (w1.trans (w2.trans (w3.trans (w4.trans w5))))))
    have nots : ∀ (H' : Hp), Same G5 H' → ∀ v, v ∈ vs → NotS K H' v := fun H' w6 v hv => by
      rw [evs] at hv
      simp only [List.mem_cons, List.not_mem_nil, or_false] at hv
      rcases hv with rfl | rfl | rfl | rfl | rfl | rfl | rfl
      · exact ⟨"NoneType", .base .non, by decide +kernel⟩
      · exact ⟨"int", .base (.int _), by decide +kernel⟩
      · exact ⟨"bool", .base (.bl _), by decide +kernel⟩
      · exact ⟨"list", .base (.lst ((w2.trans (w3.trans (w4.trans (w5.trans w6)))) _ _ he1)), by decide +kernel⟩
      · exact ⟨"tuple", .base (.tup ((w3.trans (w4.trans (w5.trans w6))) _ _ he2)), by decide +kernel⟩
      · exact ⟨"dict", .base (.dK ((w4.trans (w5.trans w6)) _ _ he3)), by decide +kernel⟩
      · exact ⟨"dict", .base (.dK ((w5.trans w6) _ _ he4)), by decide +kernel⟩
    clear evs
    refine ⟨e5, rfl, ⟨_, SqL.of he5⟩, for_it walk_list (fun m σ H' => ∃ v10, σ = [some (.ref l), v1, v2, v3, v4, v5, some (.str a), v7, some (.ref q8), v9, v10, v11] ∧ Same G5 H') ⟨_, rfl, Same.refl G5⟩ (fun m σ H' _ z => by obtain ⟨_, _, z⟩ := z; exact SqL.of (z _ _ he5)) ?_ ?_⟩
    · rintro m y σ H4 H5 hm ⟨v10, rfl, s4⟩ ⟨rfl, ey⟩
      have ny := nots _ s4 y (List.mem_of_getElem? ey)
      walk_at "rd"
      refine ⟨y, rfl, .inr ⟨ny, fun r H6 s6 d6 => ?_⟩⟩
      walk_at "rd"
      refine ⟨by show 3 ≤ sizeLine; decide, fun t nt => ?_⟩
      have st := Same.up (o := .tup [V.str "text", V.int (-1), V.int (-1)]) (Same.refl H6) nt
      refine ⟨_, _, _, rfl, Dp.later st d6, .tup (SqT.of upd_same) (.cons (.str _) (.cons (.int _) (.cons (.int _) .nil))), OutA.deep (.txt (-1) (-1)) (fun ms ns z => by cases z), fun H7 s7 => ?_⟩
      refine ⟨_, rfl, ifF rfl ?_⟩
      walk_at "rd"
      exact ⟨_, rfl, s4.trans (s6.trans (st.trans s7))⟩
    · rintro σ H4 ⟨v10, rfl, s4⟩
      have s5 := s35.trans s4
      exact h13 En H4 _ _ _ _ _ _ _ _ _ _ (s5.seq hl) la k
end
end Pk
set_option Elab.async false
set_option linter.all false
set_option maxRecDepth 100000
set_option maxHeartbeats 4000000
namespace Pk
open PySem L2
local macro_rules | `(tactic| walk_at "rd") => `(tactic| repeat (first
  | with_reducible refine r_seq ?_ | with_reducible refine r_nxt ?_ | with_reducible refine r_asg ?_ | with_reducible refine r_to ?_ | with_reducible refine r_ret ?_ | with_reducible refine r_for ?_ | with_reducible refine r_lc ?_ | with_reducible refine r_lc2 ?_ | with_reducible refine r_rng1 ?_ | with_reducible refine r_list ?_ | with_reducible refine r_tupI ?_ | with_reducible refine r_drop ?_ | with_reducible refine r_ifs ?_
  | with_reducible refine r_op ?_ | with_reducible refine r_c ?_ | with_reducible refine r_var rfl ?_ | with_reducible refine r_var (by assumption) ?_ | with_reducible refine r_I0 ?_ | with_reducible refine r_un ?_ | with_reducible refine r_U ?_ | with_reducible refine r_make ?_ | with_reducible refine r_makeS ?_ | with_reducible refine r_ifE ?_ | with_reducible refine r_cm ?_ | with_reducible refine r_mkV rfl ?_ | with_reducible refine r_sub ?_
  | with_reducible refine r_nil ?_ | with_reducible refine r_cons ?_ | with_reducible refine r_cb ?_ | with_reducible refine r_sl ?_ | with_reducible refine r_noP ?_ | with_reducible refine r_part ?_ | with_reducible refine r_isI ?_ | with_reducible refine r_lst ?_ | with_reducible refine r_tup ?_ | with_reducible refine r_call ?_ | with_reducible refine r_callS ?_ | with_reducible refine r_sFldU ?_ | with_reducible refine r_chain ?_ | with_reducible refine r_enum ?_ | with_reducible refine r_zip ?_ | with_reducible refine r_rng3 ?_ | with_reducible refine r_gtup ?_ | with_reducible refine r_methU ?_
  | with_reducible refine r_test ?_ | with_reducible refine r_B ?_ | with_reducible refine r_and ?_ | with_reducible refine r_or ?_ | with_reducible refine r_not ?_ | with_reducible refine r_andV ?_ | with_reducible refine r_orV ?_ | with_reducible refine r_notV ?_ | with_reducible refine r_bl ?_ | with_reducible refine r_yes ?_ | with_reducible refine r_int ?_ | with_reducible refine r_is0 ?_ | with_reducible refine r_is1 ?_ | with_reducible refine iteT ?_ | with_reducible refine iteF ?_ | with_reducible refine ite_nF ?_ | with_reducible refine ite_nT ?_
  | with_reducible refine r_mod (by decide) ?_ | with_reducible refine r_div (by decide) (by decide) ?_ | with_reducible refine r_mulR (by decide) (by decide) ?_ | with_reducible refine r_mulL (by decide) (by decide) ?_ | with_reducible refine r_pow (by decide) (by decide) (by decide) ?_))
open _root_.TL
theorem amt_of {v : Int} (h : 0 ≤ v ∧ v < 10 ^ 60) : amtB (numW v) = true ∧ numV (numW v) = v := by
  obtain ⟨n, rfl⟩ : ∃ n : Nat, v = (n : Int) := ⟨v.toNat, by omega⟩
  have c : ((10 ^ 60 : Nat) : Int) = (10 : Int) ^ 60 := by decide +kernel
  have b : n < 10 ^ 60 := by
    have := h.2
    rw [← c] at this
    omega
  refine ⟨numL_amt (tl_nn n) b, ?_⟩
  unfold numV
  rw [numW_text (i := (n : Int)) ⟨by omega, h.2⟩]; rfl
theorem run_one {ms : List Int} (h : AmB ms) : ∀ a : List Int, (ms.map numW).foldl stepA (some [a]) = some [a ++ ms] := by
  induction ms with
  | nil => intro a; rw [List.append_nil]; rfl
  | cons v ms ih =>
    intro a
    obtain ⟨h1, h2⟩ := amt_of (h v (List.mem_cons_self ..))
    show (ms.map numW).foldl stepA (stepA (some [a]) (numW v)) = _
    rw [show stepA (some [a]) (numW v) = some [a ++ [numV (numW v)]] from if_pos h1, h2, ih (fun m hm => h m (List.mem_cons_of_mem _ hm)), List.append_assoc]; rfl
theorem run_two {ms : List Int} (h : AmB ms) (c : List Int) : ∀ a : List Int, (ms.map numW).foldl stepA (some [c, a]) = some [c, a ++ ms] := by
  induction ms with
  | nil => intro a; rw [List.append_nil]; rfl
  | cons v ms ih =>
    intro a
    obtain ⟨h1, h2⟩ := amt_of (h v (List.mem_cons_self ..))
    show (ms.map numW).foldl stepA (stepA (some [c, a]) (numW v)) = _
    rw [show stepA (some [c, a]) (numW v) = some [c, a ++ [numV (numW v)]] from if_pos h1, h2, ih (fun m hm => h m (List.mem_cons_of_mem _ hm)), List.append_assoc]; rfl
theorem joinA_words {ms ns : List Int} (a : AmB ms) (b : AmB ns) : Txt.split (joinA ms ns) " " = ms.map numW ++ ("|" : Str) :: ns.map numW := by
  unfold joinA
  have free : ∀ {xs : List Int}, AmB xs → ∀ w, w ∈ xs.map numW → 32 ∉ tl w := fun {xs} g w h => by
    obtain ⟨v, hv, rfl⟩ := List.mem_map.mp h
    have := prW_free (s := 32) (by decide) (some v)
    exact this
  refine split_join (s := 32) (S := []) tl_sp (by decide +kernel) (by simp) fun p hp => ?_
  rcases List.mem_append.mp hp with h | h
  · exact free a p h
  · rcases List.mem_cons.mp h with rfl | h
    · decide +kernel
    · exact free b p h
theorem joinA_read {ms ns : List Int} (a : AmB ms) (b : AmB ns) (ga : Gd ms) (gb : Gd ns) : ReadA (Txt.split (joinA ms ns) " ") (.ok ms ns) := by
  have run : runA (Txt.split (joinA ms ns) " ") = some [ms, ns] := by
    rw [joinA_words a b]
    unfold runA
    rw [List.foldl_append, run_one a, List.foldl_cons, List.nil_append]
    have st : stepA (some [ms]) ("|" : Str) = some [ms, []] := by
      show (if amtB ("|" : Str) = true then some [ms ++ [numV ("|" : Str)]] else if ("|" : Str) = ("|" : Str) then some [ms, []] else none) = _
      rw [if_neg (by rw [bar_no]; decide), if_pos rfl]
    rw [st, run_two b ms, List.nil_append]
  have no : ∀ {xs : List Int}, Gd xs → badN xs ≠ true := fun {xs} g => by
    unfold badN
    rw [decide_eq_false (show ¬ xs.length = 0 by have := g.1; omega), decide_eq_false (show ¬ 8 < xs.length by have := g.2.1; omega)]; decide
  have := ReadA.two ms ns run
  unfold amO at this
  rw [if_neg (no ga), if_neg (no gb)] at this
  exact this
theorem cutMid {vs : List V} {i j : Nat} (h : i ≤ j) (hj : j ≤ vs.length) : cutV vs (some (i : Int)) (some (j : Int)) = (vs.drop i).take (j - i) := by
  unfold cutV
  rw [HT.sIx_nat, HT.sIx_nat, Nat.min_eq_left (show i ≤ vs.length by omega), Nat.min_eq_left hj]
def oa1 : List Str := ["", "|", " | ", "1", "1 2", "1|2"]
def oa2 : List Str := ["1 | 2 ", " 1 | 2", "1  | 2", "1 | 2 | 3", "| 1", "1 |", "1 | -2", "1 | x"]
def oa3 : List Str := ["x", "x | |", "1 2 3 4 5 6 7 8 9 | 1", "1 | 2\n", "1\n| 2"]
theorem oa_len : ∀ w, w ∈ oa1 ++ oa2 ++ oa3 → (tl w).length ≤ 5100 := by decide +kernel
theorem cutTakeI {xs : List Int} {i : Nat} (h : i ≤ xs.length) : cutV (xs.map V.int) none (some (i : Int)) = (xs.take i).map V.int := by
  rw [cutAt (by rw [List.length_map]; exact h), List.map_take]
theorem cutMidI {xs : List Int} {i j : Nat} (h : i ≤ j) (hj : j ≤ xs.length) : cutV (xs.map V.int) (some (i : Int)) (some (j : Int)) = ((xs.drop i).take (j - i)).map V.int := by
  rw [cutMid h (by rw [List.length_map]; exact hj), List.map_take, List.map_drop]
theorem AmB.sub {xs ys : List Int} (h : AmB xs) (s : ∀ m, m ∈ ys → m ∈ xs) : AmB ys := fun m hm => h m (s m hm)
section
variable {P : Program} {w : World} {K : PySem.W.Frag} {mg : Str → Option Value} {base : Heap} {CA CX CAE : Addr} {f : Addr} {fd : FuncData} {cdv : Value} {A : Around} {outer : List Env} {s : Shared} {H0 : Hp} {E : XK}
theorem seg4 (hr : Room 39 (xLaw P w K mg base f cdv A outer s H0 E).A) (T : Bt mg) (D : LD P w K mg base CA CX CAE) : ∃ u : TS, PSs (xLaw P w K mg base f cdv A outer s H0 E) ((defBody slaw).drop 3) u ∧
    ∀ {l h d : Addr} {sc ds xs : List Int} {n0 n1 n3 n4 : Nat} (En : Ends) (H : Hp) (v2 : Option V), SqL K H l (sc.map V.int) → H h = some (.lst (ds.map V.int)) → H d = some (.lst (xs.map V.int)) → xs.length = 20 → AmB xs → ds[0]? = some (n0 : Int) → ds[1]? = some (n1 : Int) → ds[3]? = some (n3 : Int) → ds[4]? = some (n4 : Int) → n0 < 8 → n1 < 8 → n3 < 11 → n4 < 11 → (∀ H', En.rt (.bl true) H') →
      u En [some (.ref l), some (.ref h), v2, some (.ref d), none, none, none, none, none, none, none, none] H := by
  obtain ⟨u11, d11, h11⟩ := seg11 (f := f) (cdv := cdv) (outer := outer) (s := s) (H0 := H0) (E := E) hr T D
  obtain ⟨fE, fdE, mE, oE, bE⟩ := D.eq
  have hr2 := hr.mono (show 2 ≤ 39 by decide)
  refine ⟨_, (pss_cons (ps_set (i := 4) sclaw.nd rfl (Or.inl rfl) (pe_slice sl_list (pv 3) po_none (po_some (pe_op op_add pe_int (pe_ix ix_list (pv 1) pe_int (fun _ _ => rfl))))))
  (pss_cons (ps_set (i := 5) sclaw.nd rfl (Or.inl rfl) (pe_slice sl_list (pv 3) (po_some pe_int) (po_some (pe_op op_add pe_int (pe_ix ix_list (pv 1) pe_int (fun _ _ => rfl))))))
  (pss_cons (ps_set (i := 6) sclaw.nd rfl (Or.inl rfl) (pe_df D.lJoin hr (by decide) (pa_cons (pv 4) (pa_cons (pv 5) pa_nil))))
  (pss_cons (ps_set (i := 7) sclaw.nd rfl (Or.inl rfl) (pe_dkL D.made hr (by decide) (pa_cons (pe_callTy cl_lst (by rfl) T.list (by decide +kernel) (pa_cons (pv 4) pa_nil)) (pa_cons (pe_callTy cl_lst (by rfl) T.list (by decide +kernel) (pa_cons (pv 5) pa_nil)) pa_nil))))
  (pss_cons (ps_if (PW.pt (pw_or (pt_not (pt_val (pe_df D.lSame hr (by decide) (pa_cons (pe_df D.show_ hr (by decide) (pa_cons (pv 7) pa_nil)) (pa_cons (pv 6) pa_nil))))) (pw_or1 (pt_neOwn (E := fun _ => E0) ⟨fE, fdE, _, mE, oE, bE⟩ D.ne D.mr hr2 (passN pass0) (pe_dfL D.read hr (by decide) (pa_cons (pv 6) pa_nil)) (pv 7) (nomark _))))) (pss_one (ps_ret pe_bl)) pss_nil)
  (pss_cons (ps_set (i := 8) sclaw.nd rfl (Or.inl rfl) (pe_lst (pa_cons (pe_df D.lJoin hr (by decide) (pa_cons (pe_slice sl_list (pv 3) po_none (po_some (pe_ix ix_list (pv 1) pe_int (fun _ _ => rfl)))) (pa_cons (pe_slice sl_list (pv 3) (po_some pe_int) (po_some (pe_op op_add pe_int (pe_ix ix_list (pv 1) pe_int (fun _ _ => rfl))))) pa_nil))) (pa_cons pe_str (pa_cons pe_str (pa_cons pe_str (pa_cons pe_str (pa_cons pe_str (pa_cons pe_str pa_nil)))))))))
  (pss_cons (ps_set (i := 8) sclaw.nd rfl (Or.inl rfl) (pe_op op_cat (pv 8) (pe_lst (pa_cons pe_str (pa_cons pe_str (pa_cons pe_str (pa_cons pe_str (pa_cons pe_str (pa_cons pe_str (pa_cons pe_str (pa_cons pe_str pa_nil)))))))))))
  (pss_cons (ps_set (i := 8) sclaw.nd rfl (Or.inl rfl) (pe_op op_cat (pv 8) (pe_lst (pa_cons pe_str (pa_cons pe_str (pa_cons pe_str (pa_cons pe_str (pa_cons pe_str (pa_cons (pe_op op_addG pe_str (pe_op op_mulS pe_str pe_int)) pa_nil)))))))))
  d11)))))))), ?_⟩
  intro l h d sc ds xs n0 n1 n3 n4 En H v2 hl hh hd xl xb e0 e1 e3 e4 n08 n18 n311 n411 k
  have at_ : ∀ {i : Nat} {v : Int}, ds[i]? = some v → (ds.map V.int)[i]? = some (V.int v) := fun e => by rw [List.getElem?_map, e]; rfl
  walk_at "rd"
  refine r_ixL (SqL.of hh) (atI_nat (j := 0) (at_ e0)) ?_
  walk_at "rd"
  refine ⟨d, _, rfl, SqL.of hd, fun p4 np4 => ?_⟩
  rw [show (1 : Int) + (n0 : Int) = ((1 + n0 : Nat) : Int) by omega, cutTakeI (by omega)]
  obtain ⟨ms, ems⟩ : ∃ ms, ms = xs.take (1 + n0) := ⟨_, rfl⟩
  have lms : ms.length = 1 + n0 := by rw [ems, List.length_take]; omega
  have bms : AmB ms := xb.sub fun m hm => by rw [ems] at hm; exact List.mem_of_mem_take hm
  rw [← ems]
  have t1 := Same.up (o := .lst (ms.map V.int)) (Same.refl H) np4
  have h4 := @upd_same H p4 (.lst (ms.map V.int))
  generalize upd H p4 (.lst (ms.map V.int)) = H1 at t1 h4 ⊢
  walk_at "rd"
  refine r_ixL (SqL.of (t1 _ _ hh)) (atI_nat (j := 1) (at_ e1)) ?_
  walk_at "rd"
  refine ⟨d, _, rfl, SqL.of (t1 _ _ hd), fun p5 np5 => ?_⟩
  rw [show (11 : Int) + (n1 : Int) = ((11 + n1 : Nat) : Int) by omega, show (10 : Int) = ((10 : Nat) : Int) from rfl, cutMidI (by omega) (by omega)]
  obtain ⟨ns, ens⟩ : ∃ ns, ns = (xs.drop 10).take (11 + n1 - 10) := ⟨_, rfl⟩
  have lns : ns.length = 1 + n1 := by rw [ens, List.length_take, List.length_drop]; omega
  have bns : AmB ns := xb.sub fun m hm => by rw [ens] at hm; exact List.mem_of_mem_drop (List.mem_of_mem_take hm)
  rw [← ens]
  have t2 := Same.up (o := .lst (ns.map V.int)) (Same.refl H1) np5
  have h5 := @upd_same H1 p5 (.lst (ns.map V.int))
  generalize upd H1 p5 (.lst (ns.map V.int)) = H2 at t2 h5 ⊢
  have s2 := t1.trans t2
  have h42 := t2 _ _ h4
  have gm : Gd ms := ⟨by omega, by omega, fun m hm => (bms m hm).1⟩
  have gn : Gd ns := ⟨by omega, by omega, fun m hm => (bns m hm).1⟩
  walk_at "rd"
  refine ⟨p4, p5, ms, ns, rfl, h42, h5, bms, bns, by omega, by omega, fun H3 t3 => ?_⟩
  have rdA := joinA_read bms bns gm gn
  have la := joinA_len bms bns (by omega) (by omega)
  obtain ⟨a, ea⟩ : ∃ a, a = joinA ms ns := ⟨_, rfl⟩
  rw [← ea] at rdA la ⊢
  have s3 := s2.trans t3
  walk_at "rd"
  refine r_lstOf (SqL.of (t3 _ _ h42)) fun r1 nr1 => ?_
  have t4 := Same.up (o := .lst (ms.map V.int)) (Same.refl H3) nr1
  have hr1 := @upd_same H3 r1 (.lst (ms.map V.int))
  generalize upd H3 r1 (.lst (ms.map V.int)) = H4 at t4 hr1 ⊢
  walk_at "rd"
  refine r_lstOf (SqL.of ((t3.trans t4) _ _ h5)) fun r2 nr2 => ?_
  have t5 := Same.up (o := .lst (ns.map V.int)) (Same.refl H4) nr2
  have hr2' := @upd_same H4 r2 (.lst (ns.map V.int))
  generalize upd H4 r2 (.lst (ns.map V.int)) = H5 at t5 hr2' ⊢
  have s5 := s3.trans (t4.trans t5)
  walk_at "rd"
  intro x dx nx ndx ne2
  have sm : Same H5 (upd (upd H5 dx (.own x)) x (.ins CA dx [])) := fun c o e => by
    rw [upd_ne (fun z => by rw [z, nx] at e; cases e), upd_ne (fun z => by rw [z, ndx] at e; cases e)]
    exact e
  show spAmG K CA CAE [V.ref x, V.ref r1, V.ref r2] _ _ _
  refine ⟨x, dx, _, _, intsD ms, intsD ns, rfl, upd_same, by rw [upd_ne ne2, upd_same], ne2, .lst (SqL.of (sm _ _ (t5 _ _ hr1))) (dp_ints _), .lst (SqL.of (sm _ _ hr2')) (dp_ints _), fun ms' ns' em en _ _ H6 px qx npx nqx pqx X fr => ?_, fun z kk bk => ?_⟩
  · obtain rfl := ints_inj (PyData.list.inj em)
    obtain rfl := ints_inj (PyData.list.inj en)
    refine ⟨rfl, ?_⟩
    have s6 : Same H5 H6 := fun c o e => fr c o (fun z => by rw [z, nx] at e; cases e) (sm _ _ e)
    have s06 := s5.trans s6
    walk_at "rd"
    refine ⟨x, dx, px, qx, _, _, rfl, X, bms, bns, by omega, by omega, fun H7 t7 => ?_⟩
    walk_at "rd"
    refine ⟨_, _, .str a, rfl, by rw [ea]; exact .str _, .str _, .str _, fun H8 t8 => ?_⟩
    refine ⟨_, rfl, ifF rfl ?_⟩
    have s8 := s06.trans (t7.trans t8)
    walk_at "rd"
    refine r_op2 ?_
    walk_at "rd"
    refine ⟨_, rfl, .inl ⟨a, rfl, by omega, split_5101 (by omega), fun l kk rw3 => ?_, fun z rw3 => ?_, fun ys zs rw3 _ _ y dy py qy H9 t9 Y => ?_⟩⟩
    · have := rdA.uniq rw3
      cases this
    · have := rdA.uniq rw3
      cases this
    have e := rdA.uniq rw3
    cases e
    have X9 := X.same (t7.trans (t8.trans t9))
    walk_at "rd"
    refine r_ownNe Y.o (.inl ⟨_, _, _, rfl, X9.o⟩) ⟨y, dy, py, qy, x, dx, px, qx, _, _, _, _, rfl, Y, X9, _, rfl, ?_⟩
    refine ⟨_, rfl, ifF (by simp) ?_⟩
    have s9 := s8.trans t9
    walk_at "rd"
    have hh9 := s9 _ _ hh
    have hd9 := s9 _ _ hd
    refine r_ixL (SqL.of hh9) (atI_nat (j := 3) (at_ e3)) ?_
    walk_at "rd"
    refine ⟨d, _, rfl, SqL.of hd9, fun p6 np6 => ?_⟩
    rw [cutTakeI (show n3 ≤ xs.length by omega)]
    obtain ⟨m2, em2⟩ : ∃ m2, m2 = xs.take n3 := ⟨_, rfl⟩
    have lm2 : m2.length ≤ 10 := by rw [em2, List.length_take]; omega
    have bm2 : AmB m2 := xb.sub fun m hm => by rw [em2] at hm; exact List.mem_of_mem_take hm
    rw [← em2]
    have ta := Same.up (o := .lst (m2.map V.int)) (Same.refl H9) np6
    have h6 := @upd_same H9 p6 (.lst (m2.map V.int))
    generalize upd H9 p6 (.lst (m2.map V.int)) = HA at ta h6 ⊢
    walk_at "rd"
    refine r_ixL (SqL.of (ta _ _ hh9)) (atI_nat (j := 4) (at_ e4)) ?_
    walk_at "rd"
    refine ⟨d, _, rfl, SqL.of (ta _ _ hd9), fun p7 np7 => ?_⟩
    rw [show ((10 : Nat) : Int) + (n4 : Int) = ((10 + n4 : Nat) : Int) by omega, cutMidI (by omega) (by omega)]
    obtain ⟨n2, en2⟩ : ∃ n2, n2 = (xs.drop 10).take (10 + n4 - 10) := ⟨_, rfl⟩
    have ln2 : n2.length ≤ 10 := by rw [en2, List.length_take, List.length_drop]; omega
    have bn2 : AmB n2 := xb.sub fun m hm => by rw [en2] at hm; exact List.mem_of_mem_drop (List.mem_of_mem_take hm)
    rw [← en2]
    have tb := Same.up (o := .lst (n2.map V.int)) (Same.refl HA) np7
    have h7 := @upd_same HA p7 (.lst (n2.map V.int))
    generalize upd HA p7 (.lst (n2.map V.int)) = HB at tb h7 ⊢
    walk_at "rd"
    refine ⟨p6, p7, m2, n2, rfl, tb _ _ h6, h7, bm2, bn2, lm2, ln2, fun HC tc => ?_⟩
    have lt := joinA_len bm2 bn2 lm2 ln2
    generalize joinA m2 n2 = tx at lt ⊢
    have sC := s9.trans (ta.trans (tb.trans tc))
    walk_at "rd"
    refine ⟨by show 7 ≤ sizeLine; decide, fun b1 nb1 => ?_⟩
    have w1 := Same.up (o := .lst ((tx :: oa1).map V.str)) (Same.refl HC) nb1
    have hb1 := @upd_same HC b1 (.lst ((tx :: oa1).map V.str))
    rw [show upd HC b1 (.lst [V.str tx, V.str "", V.str "|", V.str " | ", V.str "1", V.str "1 2", V.str "1|2"]) = upd HC b1 (.lst ((tx :: oa1).map V.str)) from rfl]
    generalize upd HC b1 (.lst ((tx :: oa1).map V.str)) = HD at w1 hb1 ⊢
    walk_at "rd"
    refine ⟨by show 8 ≤ sizeLine; decide, fun b2 nb2 => ?_⟩
    have w2 := Same.up (o := .lst (oa2.map V.str)) (Same.refl HD) nb2
    have hb2 := @upd_same HD b2 (.lst (oa2.map V.str))
    rw [show upd HD b2 (.lst [V.str "1 | 2 ", V.str " 1 | 2", V.str "1  | 2", V.str "1 | 2 | 3", V.str "| 1", V.str "1 |", V.str "1 | -2", V.str "1 | x"]) = upd HD b2 (.lst (oa2.map V.str)) from rfl]
    generalize upd HD b2 (.lst (oa2.map V.str)) = HE at w2 hb2 ⊢
    refine r_cat (w2 _ _ hb1) hb2 (by show 7 + 8 ≤ sizeLine; decide) fun b3 nb3 => ?_
    rw [← List.map_append]
    have w3 := Same.up (o := .lst ((tx :: oa1 ++ oa2).map V.str)) (Same.refl HE) nb3
    have hb3 := @upd_same HE b3 (.lst ((tx :: oa1 ++ oa2).map V.str))
    generalize upd HE b3 (.lst ((tx :: oa1 ++ oa2).map V.str)) = HF at w3 hb3 ⊢
    walk_at "rd"
    refine ⟨55, 5000, by rw [show ("7" : Str) = ⟨#[55]⟩ by decide +kernel], rfl, by decide, by decide, ?_⟩
    have l7 : (tl (("3 | " : Str) ++ repS 55 5000)).length ≤ 5100 := by
      rw [tl_append, List.length_append, tl_rep, List.length_replicate, show (tl ("3 | " : Str)).length = 4 by decide +kernel]; decide
    refine ⟨_, _, rfl, rfl, by rw [two_len, tl_rep, List.length_replicate, show (tl ("3 | " : Str)).length = 4 by decide +kernel]; show 4 + 5000 ≤ sizeLine; decide, ?_⟩
    generalize (("3 | " : Str) ++ repS 55 5000) = t7 at l7 ⊢
    walk_at "rd"
    refine ⟨by show 6 ≤ sizeLine; decide, fun b4 nb4 => ?_⟩
    have w4 := Same.up (o := .lst ((oa3 ++ [t7]).map V.str)) (Same.refl HF) nb4
    have hb4 := @upd_same HF b4 (.lst ((oa3 ++ [t7]).map V.str))
    rw [show upd HF b4 (.lst [V.str "x", V.str "x | |", V.str "1 2 3 4 5 6 7 8 9 | 1", V.str "1 | 2\n", V.str "1\n| 2", V.str t7]) = upd HF b4 (.lst ((oa3 ++ [t7]).map V.str)) from rfl]
    generalize upd HF b4 (.lst ((oa3 ++ [t7]).map V.str)) = HG at w4 hb4 ⊢
    refine r_cat (w4 _ _ hb3) hb4 (by show 15 + 6 ≤ sizeLine; decide) fun b5 nb5 => ?_
    rw [← List.map_append]
    have w5 := Same.up (o := .lst ((tx :: oa1 ++ oa2 ++ (oa3 ++ [t7])).map V.str)) (Same.refl HG) nb5
    have hb5 := @upd_same HG b5 (.lst ((tx :: oa1 ++ oa2 ++ (oa3 ++ [t7])).map V.str))
    generalize upd HG b5 (.lst ((tx :: oa1 ++ oa2 ++ (oa3 ++ [t7])).map V.str)) = HI at w5 hb5 ⊢
    have sI := sC.trans (w1.trans (w2.trans (w3.trans (w4.trans w5))))
    refine h11 En HI _ _ _ _ _ _ _ _ _ (sI.seq hl) (by omega) hb5 (fun w hw => ?_) k
    have cs : w = tx ∨ w ∈ oa1 ++ oa2 ++ oa3 ∨ w = t7 := by
      simp only [List.mem_append, List.mem_cons, List.not_mem_nil, or_false] at hw ⊢
      rcases hw with ((h | h) | h) | h | h
      · exact .inl h
      · exact .inr (.inl (.inl (.inl h)))
      · exact .inr (.inl (.inl (.inr h)))
      · exact .inr (.inl (.inr h))
      · exact .inr (.inr h)
    rcases cs with rfl | h | rfl
    · omega
    · exact oa_len w h
    · exact l7
  · have : badA (intsD ms) (intsD ns) = none := by
      unfold badA
      rw [badL_good gm, badL_good gn]; rfl
    rw [this] at bk
    cases bk
end
end Pk
set_option Elab.async false
set_option linter.all false
set_option maxRecDepth 100000
set_option maxHeartbeats 4000000
namespace Pk
open PySem L2
local macro_rules | `(tactic| walk_at "rd") => `(tactic| repeat (first
  | with_reducible refine r_seq ?_ | with_reducible refine r_nxt ?_ | with_reducible refine r_asg ?_ | with_reducible refine r_to ?_ | with_reducible refine r_ret ?_ | with_reducible refine r_for ?_ | with_reducible refine r_lc ?_ | with_reducible refine r_lc2 ?_ | with_reducible refine r_rng1 ?_ | with_reducible refine r_list ?_ | with_reducible refine r_tupI ?_ | with_reducible refine r_drop ?_ | with_reducible refine r_ifs ?_
  | with_reducible refine r_op ?_ | with_reducible refine r_c ?_ | with_reducible refine r_var rfl ?_ | with_reducible refine r_var (by assumption) ?_ | with_reducible refine r_I0 ?_ | with_reducible refine r_un ?_ | with_reducible refine r_U ?_ | with_reducible refine r_make ?_ | with_reducible refine r_makeS ?_ | with_reducible refine r_ifE ?_ | with_reducible refine r_cm ?_ | with_reducible refine r_mkV rfl ?_ | with_reducible refine r_sub ?_
  | with_reducible refine r_nil ?_ | with_reducible refine r_cons ?_ | with_reducible refine r_cb ?_ | with_reducible refine r_sl ?_ | with_reducible refine r_noP ?_ | with_reducible refine r_part ?_ | with_reducible refine r_isI ?_ | with_reducible refine r_lst ?_ | with_reducible refine r_tup ?_ | with_reducible refine r_call ?_ | with_reducible refine r_callS ?_ | with_reducible refine r_sFldU ?_ | with_reducible refine r_chain ?_ | with_reducible refine r_enum ?_ | with_reducible refine r_zip ?_ | with_reducible refine r_rng3 ?_ | with_reducible refine r_gtup ?_ | with_reducible refine r_methU ?_
  | with_reducible refine r_test ?_ | with_reducible refine r_B ?_ | with_reducible refine r_and ?_ | with_reducible refine r_or ?_ | with_reducible refine r_not ?_ | with_reducible refine r_andV ?_ | with_reducible refine r_orV ?_ | with_reducible refine r_notV ?_ | with_reducible refine r_bl ?_ | with_reducible refine r_yes ?_ | with_reducible refine r_int ?_ | with_reducible refine r_is0 ?_ | with_reducible refine r_is1 ?_ | with_reducible refine iteT ?_ | with_reducible refine iteF ?_ | with_reducible refine ite_nF ?_ | with_reducible refine ite_nT ?_
  | with_reducible refine r_mod (by decide) ?_ | with_reducible refine r_div (by decide) (by decide) ?_ | with_reducible refine r_mulR (by decide) (by decide) ?_ | with_reducible refine r_mulL (by decide) (by decide) ?_ | with_reducible refine r_pow (by decide) (by decide) (by decide) ?_))
open _root_.TL
theorem rep_one (n : Nat) (v : V) : (List.replicate n [v]).flatten = List.replicate n v := by
  induction n with
  | zero => rfl
  | succ n ih => rw [List.replicate_succ, List.flatten_cons, ih, List.replicate_succ]; rfl
theorem szdP {z : Int} (h : 0 < z) (h2 : z ≤ 10 ^ 60) : Szd z := ⟨h, by
  rw [Nat.log2_lt (by omega)]
  have c : ((10 ^ 60 : Nat) : Int) = (10 : Int) ^ 60 := by decide +kernel
  exact Nat.lt_of_le_of_lt (show z.natAbs ≤ 10 ^ 60 by omega) (by decide +kernel)⟩
section
variable {P : Program} {w : World} {K : PySem.W.Frag} {mg : Str → Option Value} {base : Heap} {CA CX CAE : Addr} {f : Addr} {fd : FuncData}
theorem ok_law (F : Fun K "law" "law" slaw f fd) (D : LD P w K mg base CA CX CAE) (T : Bt mg) : FnOk P w K mg base CX0 40 f fd ["_law_script"] (spLaw K) := by
  refine F.ok sclaw (fun vs H Q E h => ?_) (fun cdv A outer s H vs Q E hr h => ?_)
  · obtain ⟨l, ns, rfl, _⟩ := h
    rfl
  · obtain ⟨l, sc, rfl, hl, h63, kE⟩ := h
    obtain ⟨u4, d4, h4⟩ := seg4 (f := f) (cdv := cdv) (outer := outer) (s := s) (H0 := H) (E := E) hr T D
    refine ⟨_, (pss_cons (ps_set (i := 1) sclaw.nd rfl (Or.inl rfl) (pe_df D.lDraws hr (by decide) (pa_cons (pv 0) (pa_cons pe_int (pa_cons (pe_lst (pa_cons pe_int (pa_cons pe_int (pa_cons pe_int (pa_cons pe_int (pa_cons pe_int pa_nil)))))) pa_nil)))))
  (pss_cons (ps_set (i := 2) sclaw.nd rfl (Or.inl rfl) (pe_ix ix_list (pe_lst (pa_cons pe_int (pa_cons pe_int (pa_cons (pe_op op_pow pe_int pe_int) pa_nil)))) (pe_ix ix_list (pv 1) pe_int (fun _ _ => rfl)) (fun _ _ => rfl)))
  (pss_cons (ps_set (i := 3) sclaw.nd rfl (Or.inl rfl) (pe_df D.lDraws hr (by decide) (pa_cons (pv 0) (pa_cons pe_int (pa_cons (pe_op op_rep (pe_lst (pa_cons (pv 2) pa_nil)) pe_int) pa_nil)))))
  d4))), ?_⟩
    walk_at "rd"
    refine ⟨by show 5 ≤ sizeLine; decide, fun q1 n1 => ?_⟩
    have t1 := Same.up (o := .lst (([8, 8, 3, 11, 11] : List Int).map V.int)) (Same.refl H) n1
    have hq1 := @upd_same H q1 (.lst (([8, 8, 3, 11, 11] : List Int).map V.int))
    rw [show upd H q1 (.lst [V.int 8, V.int 8, V.int 3, V.int 11, V.int 11]) = upd H q1 (.lst (([8, 8, 3, 11, 11] : List Int).map V.int)) from rfl]
    generalize upd H q1 (.lst (([8, 8, 3, 11, 11] : List Int).map V.int)) = H1 at t1 hq1 ⊢
    have zb : ∀ z, z ∈ ([8, 8, 3, 11, 11] : List Int) → 0 < z ∧ z ≤ 11 := by decide
    have szz : ∀ z, z ∈ ([8, 8, 3, 11, 11] : List Int) → Szd z := fun z hz => szdP (zb z hz).1 (Int.le_trans (zb z hz).2 (by decide +kernel))
    walk_at "rd"
    refine ⟨l, q1, sc, _, 0, rfl, t1.seq hl, hq1, szz, by decide, fun h H2 t2 nh hh => ?_⟩
    have pos : ∀ z, z ∈ ([8, 8, 3, 11, 11] : List Int) → 0 < z := fun z hz => (zb z hz).1
    obtain ⟨d0, e0, a0, b0⟩ := drawsF_get (ns := sc) (sp := 0) pos (i := 0) rfl
    obtain ⟨d1, e1, a1, b1⟩ := drawsF_get (ns := sc) (sp := 0) pos (i := 1) rfl
    obtain ⟨d2, e2, a2, b2⟩ := drawsF_get (ns := sc) (sp := 0) pos (i := 2) rfl
    obtain ⟨d3, e3, a3, b3⟩ := drawsF_get (ns := sc) (sp := 0) pos (i := 3) rfl
    obtain ⟨d4', e4, a4, b4⟩ := drawsF_get (ns := sc) (sp := 0) pos (i := 4) rfl
    obtain ⟨ds, eds⟩ : ∃ ds, ds = drawsF sc 0 [8, 8, 3, 11, 11] := ⟨_, rfl⟩
    rw [← eds] at hh e0 e1 e2 e3 e4
    have s2 := t1.trans t2
    walk_at "rd"
    obtain ⟨B60, eB⟩ : ∃ B60 : Int, B60 = 10 ^ (60 : Int).toNat := ⟨_, rfl⟩
    rw [← eB]
    refine ⟨by show 3 ≤ sizeLine; decide, fun q2 n2 => ?_⟩
    have t3 := Same.up (o := .lst [V.int 3, V.int 1000, V.int B60]) (Same.refl H2) n2
    have hq2 := @upd_same H2 q2 (.lst [V.int 3, V.int 1000, V.int B60])
    generalize upd H2 q2 (.lst [V.int 3, V.int 1000, V.int B60]) = H3 at t3 hq2 ⊢
    walk_at "rd"
    refine r_ixL (SqL.of (t3 _ _ hh)) (atI_nat (j := 2) (v := V.int d2) (by rw [List.getElem?_map, e2]; rfl)) ?_
    obtain ⟨sz, esz, z0, z1⟩ : ∃ sz : Int, atI [V.int 3, V.int 1000, V.int B60] d2 = some (.int sz) ∧ 0 < sz ∧ sz ≤ 10 ^ 60 := by
      obtain ⟨k2, rfl⟩ : ∃ k : Nat, d2 = (k : Int) := ⟨d2.toNat, by omega⟩
      match k2, (show k2 < 3 by omega) with
      | 0, _ => exact ⟨3, atI_nat rfl, by decide, by decide +kernel⟩
      | 1, _ => exact ⟨1000, atI_nat rfl, by decide, by decide +kernel⟩
      | 2, _ => exact ⟨B60, atI_nat rfl, by rw [eB]; decide +kernel, by rw [eB]; decide +kernel⟩
    refine r_ixL (SqL.of hq2) esz ?_
    walk_at "rd"
    refine ⟨by show 1 ≤ sizeLine; decide, fun q3 n3 => ?_⟩
    have t4 := Same.up (o := .lst [V.int sz]) (Same.refl H3) n3
    have hq3 := @upd_same H3 q3 (.lst [V.int sz])
    generalize upd H3 q3 (.lst [V.int sz]) = H4 at t4 hq3 ⊢
    walk_at "rd"
    refine ⟨q3, 20, [V.int sz], rfl, rfl, hq3, by decide, by decide, (by show 1 * 20 ≤ sizeLine; decide), fun q4 n4 => ?_⟩
    rw [rep_one, show List.replicate (20 : Int).toNat (V.int sz) = (List.replicate 20 sz).map V.int by rw [List.map_replicate]; rfl]
    obtain ⟨zs, ezs⟩ : ∃ zs, zs = List.replicate 20 sz := ⟨_, rfl⟩
    have zl : zs.length = 20 := by rw [ezs, List.length_replicate]
    have zz : ∀ z, z ∈ zs → z = sz := fun z hz => by rw [ezs] at hz; exact List.eq_of_mem_replicate hz
    rw [← ezs]
    have t5 := Same.up (o := .lst (zs.map V.int)) (Same.refl H4) n4
    have hq4 := @upd_same H4 q4 (.lst (zs.map V.int))
    generalize upd H4 q4 (.lst (zs.map V.int)) = H5 at t5 hq4 ⊢
    have s5 := s2.trans (t3.trans (t4.trans t5))
    walk_at "rd"
    refine ⟨l, q4, sc, zs, 1, rfl, s5.seq hl, hq4, fun z hz => by rw [zz z hz]; exact szdP z0 z1, by omega, fun d H6 t6 nd hd => ?_⟩
    have xb : AmB (drawsF sc 1 zs) := fun m hm => by
      obtain ⟨i, hi, em⟩ := List.mem_iff_getElem.mp hm
      have hi2 : i < zs.length := by rw [drawsF_len] at hi; exact hi
      obtain ⟨v, ev, v0, v1⟩ := drawsF_get (ns := sc) (sp := 1) (fun z hz => by rw [zz z hz]; exact z0) (List.getElem?_eq_getElem hi2)
      rw [List.getElem?_eq_getElem hi, em] at ev
      cases Option.some.inj ev
      rw [zz _ (List.getElem_mem hi2)] at v1
      exact ⟨v0, Int.lt_of_lt_of_le v1 z1⟩
    obtain ⟨m0, rfl⟩ : ∃ k : Nat, d0 = (k : Int) := ⟨d0.toNat, by omega⟩
    obtain ⟨m1, rfl⟩ : ∃ k : Nat, d1 = (k : Int) := ⟨d1.toNat, by omega⟩
    obtain ⟨m3, rfl⟩ : ∃ k : Nat, d3 = (k : Int) := ⟨d3.toNat, by omega⟩
    obtain ⟨m4, rfl⟩ : ∃ k : Nat, d4' = (k : Int) := ⟨d4'.toNat, by omega⟩
    walk_at "rd"
    exact h4 _ H6 _ ((s5.trans t6).seq hl) ((t3.trans (t4.trans (t5.trans t6))) _ _ hh) hd (by rw [drawsF_len, zl]) xb e0 e1 e3 e4 (by omega) (by omega) (by omega) (by omega) kE
end
end Pk
set_option Elab.async false
set_option linter.all false
set_option maxRecDepth 100000
set_option maxHeartbeats 4000000
namespace Pk
open PySem L2
local macro_rules | `(tactic| walk_at "rd") => `(tactic| repeat (first
  | with_reducible refine r_seq ?_ | with_reducible refine r_nxt ?_ | with_reducible refine r_asg ?_ | with_reducible refine r_to ?_ | with_reducible refine r_ret ?_ | with_reducible refine r_for ?_ | with_reducible refine r_lc ?_ | with_reducible refine r_lc2 ?_ | with_reducible refine r_rng1 ?_ | with_reducible refine r_list ?_ | with_reducible refine r_tupI ?_ | with_reducible refine r_drop ?_ | with_reducible refine r_ifs ?_
  | with_reducible refine r_op ?_ | with_reducible refine r_c ?_ | with_reducible refine r_var rfl ?_ | with_reducible refine r_var (by assumption) ?_ | with_reducible refine r_I0 ?_ | with_reducible refine r_un ?_ | with_reducible refine r_U ?_ | with_reducible refine r_make ?_ | with_reducible refine r_makeS ?_ | with_reducible refine r_ifE ?_ | with_reducible refine r_cm ?_ | with_reducible refine r_mkV rfl ?_ | with_reducible refine r_sub ?_
  | with_reducible refine r_nil ?_ | with_reducible refine r_cons ?_ | with_reducible refine r_cb ?_ | with_reducible refine r_sl ?_ | with_reducible refine r_noP ?_ | with_reducible refine r_part ?_ | with_reducible refine r_isI ?_ | with_reducible refine r_lst ?_ | with_reducible refine r_tup ?_ | with_reducible refine r_call ?_ | with_reducible refine r_callS ?_ | with_reducible refine r_sFldU ?_ | with_reducible refine r_chain ?_ | with_reducible refine r_enum ?_ | with_reducible refine r_zip ?_ | with_reducible refine r_rng3 ?_ | with_reducible refine r_gtup ?_ | with_reducible refine r_methU ?_
  | with_reducible refine r_test ?_ | with_reducible refine r_B ?_ | with_reducible refine r_and ?_ | with_reducible refine r_or ?_ | with_reducible refine r_not ?_ | with_reducible refine r_andV ?_ | with_reducible refine r_orV ?_ | with_reducible refine r_notV ?_ | with_reducible refine r_bl ?_ | with_reducible refine r_yes ?_ | with_reducible refine r_int ?_ | with_reducible refine r_is0 ?_ | with_reducible refine r_is1 ?_ | with_reducible refine iteT ?_ | with_reducible refine iteF ?_ | with_reducible refine ite_nF ?_ | with_reducible refine ite_nT ?_
  | with_reducible refine r_mod (by decide) ?_ | with_reducible refine r_div (by decide) (by decide) ?_ | with_reducible refine r_mulR (by decide) (by decide) ?_ | with_reducible refine r_mulL (by decide) (by decide) ?_ | with_reducible refine r_pow (by decide) (by decide) (by decide) ?_))
section
variable {P : Program} {w : World} {K : PySem.W.Frag} {mg : Str → Option Value} {base : Heap} {C fI cc fc : Addr} {fdc : FuncData}
abbrev slIA : Stmt := inCls 4 0
abbrev nfIA (cc c : Addr) : NdefX.NF := { name := "__init__", qual := "InvalidAmounts.__init__", params := defArgs slIA, body := defBody slIA, scope := defScope slIA, cl := [(("__class__" : Str), cc)], c := c }
theorem ok_IA {c : Addr} {n : Nat} (T : ErrC K C) (J : InitFn P K C fI cc (nfIA cc c)) (B : Bt mg) (G : FnOk P w K mg base CX0 (n + 1) fc fdc ["value"] (spCopy K n)) (mc : mg "own_copy" = some (.ref fc)) (kc : PySem.W.keepIn K (.ref fc) = true)
    (bc : Binds K fdc ["value"] []) (free : PySem.W.findIn K (.ref C) "word" = some none) (free2 : PySem.W.findIn K (.ref C) "at" = some none) : ErrOk P w K mg base (n + 2) C fI (spErr2 K n C "word" "at") := by
  exact err_two (F := nfIA cc c) T J B.super G mc kc bc (NdefX.nscope_by (by show NdefX.nscB _ _ _ (defScope slIA) = true; decide +kernel)) rfl rfl rfl free free2 (fun _ _ _ _ _ us hl => match us, hl with | [_, _, _], _ => rfl) (fun env => rfl) (by decide) (by decide) (by decide) (by decide)
end

section
variable {P : Program} {w : World} {K : PySem.W.Frag} {mg : Str → Option Value} {base : Heap} {C fI cc fc : Addr} {fdc : FuncData}
abbrev slIX : Stmt := inCls 6 0
abbrev nfIX (cc c : Addr) : NdefX.NF := { name := "__init__", qual := "InvalidText.__init__", params := defArgs slIX, body := defBody slIX, scope := defScope slIX, cl := [(("__class__" : Str), cc)], c := c }
theorem ok_IX {c : Addr} {n : Nat} (T : ErrC K C) (J : InitFn P K C fI cc (nfIX cc c)) (B : Bt mg) (G : FnOk P w K mg base CX0 (n + 1) fc fdc ["value"] (spCopy K n)) (mc : mg "own_copy" = some (.ref fc)) (kc : PySem.W.keepIn K (.ref fc) = true)
    (bc : Binds K fdc ["value"] []) (free : PySem.W.findIn K (.ref C) "line" = some none) (free2 : PySem.W.findIn K (.ref C) "word" = some none) : ErrOk P w K mg base (n + 2) C fI (spErr2 K n C "line" "word") := by
  exact err_two (F := nfIX cc c) T J B.super G mc kc bc (NdefX.nscope_by (by show NdefX.nscB _ _ _ (defScope slIX) = true; decide +kernel)) rfl rfl rfl free free2 (fun _ _ _ _ _ us hl => match us, hl with | [_, _, _], _ => rfl) (fun env => rfl) (by decide) (by decide) (by decide) (by decide)
end

theorem vals_app {vs zs : List V} {us ws : List Value} (r : Vals vs us) (z : Vals zs ws) : Vals (vs ++ zs) (us ++ ws) := by
  induction r with
  | nil => exact z
  | cons a _ ih => exact .cons a ih
theorem kin_of {K : PySem.W.Frag} {a : Addr} {od : Option Addr} {its : Array Value} {n : Nat} {sl : Array (Option Value)} {xs : List V} (l : K.lookup a = some ⟨.type "tuple", od, .seq its n, sl⟩) (z : its.size ≤ 1000) (v : Vals xs its.toList) : ∀ H, SqT K H a xs :=
  fun H => .inr ⟨_, its, n, l, rfl, rfl, Nat.le_trans z (by decide), v⟩
theorem err_other {K : PySem.W.Frag} {S T : Addr} (h1 : PySem.W.subIn K (.ref T) (.type "BaseException") = some true) (h2 : PySem.W.isClsIn K T = true) (h3 : PySem.W.typeIn K (.ref T) = some (.type "type"))
    (h4 : PySem.W.subIn K (.ref S) (.ref T) = some false) : PySem.W.exmOne K (.ref S) (.ref T) = some false := by
  have h5 : (PySem.W.clsIn K T).isSome = true := h2
  unfold PySem.W.exmOne PySem.W.kitCls
  simp only [h1, h3, h4, h5]
  rfl
open PySem.W
theorem all_mk {l : PySem.W.OpenLaw} {w : World} {K : PySem.W.Frag} {h : Heap} {mg : Str → Option Value} {fa : Addr} (X : K.In h) (G : h.Ns mainGlobals mg) (hfa : mg "law" = some (.ref fa)) {CEA fIEA ccEA cEA CEX fIEX ccEX cEX CA : Addr}
    (bt : BtIn K)
    (top : (l.prog.main.scope.names.lookup ("super" : Str)).isSome = false)
    (d_own : DefAt K "own_copy" sCopy)
    (e_EA : ErrAt1 l.prog K "InvalidAmounts" "InvalidAmounts.__init__" slIA CEA fIEA ccEA cEA)
    (fr_EA_word : PySem.W.findIn K (.ref CEA) "word" = some none)
    (fr_EA_at : PySem.W.findIn K (.ref CEA) "at" = some none)
    (e_EX : ErrAt1 l.prog K "InvalidText" "InvalidText.__init__" slIX CEX fIEX ccEX cEX)
    (fr_EX_line : PySem.W.findIn K (.ref CEX) "line" = some none)
    (fr_EX_word : PySem.W.findIn K (.ref CEX) "word" = some none)
    (sx1 : PySem.W.subIn K (.ref CEA) (.ref CEX) = some false)
    (d_DI : DefAt K "is_integer" slIsInt)
    {tk_aL : Tok}
    (a_aL : PySem.W.nsIn K mainGlobals "MOST_LINES" = some (some (.int 8 tk_aL)))
    {tk_aD : Tok}
    (a_aD : PySem.W.nsIn K mainGlobals "MOST_DIGITS" = some (some (.int 60 tk_aD)))
    {tk_aG : Tok}
    (a_aG : PySem.W.nsIn K mainGlobals "DIGITS" = some (some (.str "0123456789" tk_aG)))
    {tk_aB : Tok}
    (a_aB : PySem.W.nsIn K mainGlobals "BETWEEN" = some (some (.str "|" tk_aB)))
    (b_all : PySem.W.nsIn K mainGlobals "all" = some none)
    (d_DCh : DefAt K "check_line_amounts" slChk)
    (a_CA : PySem.W.nsIn K mainGlobals "Amounts" = some (some (.ref CA)))
    (me_i : MethAt K CA "__init__" "Amounts.__init__" slAmI)
    (me_s : MethAt K CA "stocks" "Amounts.stocks" slStocks)
    (me_w : MethAt K CA "wishes" "Amounts.wishes" slWishes)
    (me_e : MethAt K CA "__eq__" "Amounts.__eq__" slEq)
    (O_CA : OwnC K CA)
    (mk_CA : PySem.W.makesIn K CA = true)
    (kc_CA : PySem.W.keepIn K (.ref CA) = true)
    (no_CA_held : PySem.W.findIn K (.ref CA) "held" = some none)
    (no_CA_wished : PySem.W.findIn K (.ref CA) "wished" = some none)
    (neA : PySem.W.findIn K (.ref CA) "__ne__" = some (some (.builtin "object.__ne__")))
    (d_DSh : DefAt K "show_amounts" slShowA)
    (d_DCT : DefAt K "check_text" slChkX)
    (d_DAW : DefAt K "is_amount_word" slAmtW)
    (d_DRd : DefAt K "read_amounts" slReadA)
    (d_L1 : DefAt K "_law_cell" slCell2)
    (d_L2x : DefAt K "_law_mixed" slMix2)
    (d_L3 : DefAt K "_law_draws" slDraws)
    (d_L4 : DefAt K "_law_same" slSame)
    (d_LN : DefAt K "_law_number" slNumb)
    (d_LS : DefAt K "_law_sign" slSign)
    (d_LP : DefAt K "_law_put_in" slPut)
    (d_LT : DefAt K "_law_taken_out" slTaken)
    (d_LR : DefAt K "_law_read" slLReadA)
    (d_LA : DefAt K "_law_answer" slLAnsA)
    (d_LG : DefAt K "_law_agrees" slLAgrA)
    (d_LC : DefAt K "_law_changed" slChangedA)
    (d_LJ : DefAt K "_law_joined" slJoined)
    (d_law : DefAt K "law" slaw) :
    ∃ fd : FuncData, (∀ (s : Shared) (u : Value), BindsTo s fd ⟨[u], []⟩ [("_law_script", u)]) ∧ ∀ base : Heap, K.In base → base.Ns mainGlobals mg → FnOk l.prog w K mg base CX0 40 fa fd ["_law_script"] (spLaw K) := by
  have T := bt.bt X G
  obtain ⟨f1, fd1, F1, m1⟩ := d_own.fn X G
  obtain ⟨f_DI, fd_DI, F_DI, m_DI⟩ := d_DI.fn X G
  obtain ⟨f_DCh, fd_DCh, F_DCh, m_DCh⟩ := d_DCh.fn X G
  obtain ⟨g_i, gd_i, G_i, n_i⟩ := me_i.fn
  obtain ⟨g_s, gd_s, G_s, n_s⟩ := me_s.fn
  obtain ⟨g_w, gd_w, G_w, n_w⟩ := me_w.fn
  obtain ⟨g_e, gd_e, G_e, n_e⟩ := me_e.fn
  obtain ⟨f_DSh, fd_DSh, F_DSh, m_DSh⟩ := d_DSh.fn X G
  obtain ⟨f_DCT, fd_DCT, F_DCT, m_DCT⟩ := d_DCT.fn X G
  obtain ⟨f_DAW, fd_DAW, F_DAW, m_DAW⟩ := d_DAW.fn X G
  obtain ⟨f_DRd, fd_DRd, F_DRd, m_DRd⟩ := d_DRd.fn X G
  obtain ⟨f_L1, fd_L1, F_L1, m_L1⟩ := d_L1.fn X G
  obtain ⟨f_L2x, fd_L2x, F_L2x, m_L2x⟩ := d_L2x.fn X G
  obtain ⟨f_L3, fd_L3, F_L3, m_L3⟩ := d_L3.fn X G
  obtain ⟨f_L4, fd_L4, F_L4, m_L4⟩ := d_L4.fn X G
  obtain ⟨f_LN, fd_LN, F_LN, m_LN⟩ := d_LN.fn X G
  obtain ⟨f_LS, fd_LS, F_LS, m_LS⟩ := d_LS.fn X G
  obtain ⟨f_LP, fd_LP, F_LP, m_LP⟩ := d_LP.fn X G
  obtain ⟨f_LT, fd_LT, F_LT, m_LT⟩ := d_LT.fn X G
  obtain ⟨f_LR, fd_LR, F_LR, m_LR⟩ := d_LR.fn X G
  obtain ⟨f_LA, fd_LA, F_LA, m_LA⟩ := d_LA.fn X G
  obtain ⟨f_LG, fd_LG, F_LG, m_LG⟩ := d_LG.fn X G
  obtain ⟨f_LC, fd_LC, F_LC, m_LC⟩ := d_LC.fn X G
  obtain ⟨f_LJ, fd_LJ, F_LJ, m_LJ⟩ := d_LJ.fn X G
  obtain ⟨f_law, fd_law, F_law, m_law⟩ := d_law.fn X G
  cases hfa.symm.trans m_law
  have b_law : ∀ (s : Shared) (u : Value), BindsTo s fd_law ⟨[u], []⟩ [("_law_script", u)] := fun s u => by
    obtain ⟨oc, od, kV, doc, pm, an, cdv, ct, osl, rfl, lk, hcd⟩ := F_law.ex
    exact .of_eq rfl
  refine ⟨fd_law, b_law, fun base _ _ => ?_⟩
  have mk1 : ∀ {fd x st f ps sp n}, Fun K x x st f fd → mg x = some (.ref f) → Binds K fd ps [] → FnOk l.prog w K mg base CX0 n f fd ps sp → Df l.prog w K mg base CX0 x n ps sp := fun F m b o => ⟨_, _, m, F.kp, b, o⟩
  have mkL : ∀ {fd x st f ps sp n}, Fun K x x st f fd → mg x = some (.ref f) → Binds K fd ps [] → FnOk l.prog w K mg base (L2.CX l.prog w) n f fd ps sp → Df l.prog w K mg base (L2.CX l.prog w) x n ps sp := fun F m b o => ⟨_, _, m, F.kp, b, o⟩
  have B1 : Binds K fd1 ["value"] [] := F1.binds fun _ _ _ _ _ _ us hl => match us, hl with | [_], _ => rfl
  have G1 := ok_copy (P := l.prog) (w := w) (base := base) F1 T m1 1
  have EA : De l.prog w K mg base "InvalidAmounts" 3 (spErr2 K 1 CEA "word" "at") CEA := e_EA.de X G (ok_IA e_EA.errC (e_EA.init top ⟨_, rfl⟩) T G1 m1 F1.kp B1 fr_EA_word fr_EA_at)
  have EX : De l.prog w K mg base "InvalidText" 3 (spErr2 K 1 CEX "line" "word") CEX := e_EX.de X G (ok_IX e_EX.errC (e_EX.init top ⟨_, rfl⟩) T G1 m1 F1.kp B1 fr_EX_line fr_EX_word)
  have x1 := err_other e_EX.exB e_EX.isC e_EX.ty sx1
  have DI := mk1 F_DI m_DI (ps := ["value"]) (F_DI.binds fun _ _ _ _ _ _ us hl => match us, hl with | [_], _ => rfl) (ok_isInt F_DI T)
  have aL := PySem.W.mg_of X G a_aL
  have aD := PySem.W.mg_of X G a_aD
  have aG := PySem.W.mg_of X G a_aG
  have aB := PySem.W.mg_of X G a_aB
  have tall := PySem.W.mg_none_of X G b_all
  have DCh := mkL F_DCh m_DCh (ps := ["word", "numbers"]) (F_DCh.binds fun _ _ _ _ _ _ us hl => match us, hl with | [_, _], _ => rfl) (ok_chkA F_DCh T aL DI EA)
  have b_i : Binds K gd_i ["self", "stocks", "wishes"] [] := G_i.binds fun _ _ _ _ _ _ us hl => match us, hl with | [_, _, _], _ => rfl
  have b_s : Binds K gd_s ["self"] [] := G_s.binds fun _ _ _ _ _ _ us hl => match us, hl with | [_], _ => rfl
  have b_w : Binds K gd_w ["self"] [] := G_w.binds fun _ _ _ _ _ _ us hl => match us, hl with | [_], _ => rfl
  have b_e : Binds K gd_e ["self", "other"] [] := G_e.binds fun _ _ _ _ _ _ us hl => match us, hl with | [_, _], _ => rfl
  have g_CA := PySem.W.mg_of X G a_CA
  have A : AmC K CA := ⟨O_CA.cl, no_CA_held, no_CA_wished⟩
  have oS := ok_stocks (P := l.prog) (w := w) (mg := mg) (base := base) G_s T A
  have oW := ok_wishes (P := l.prog) (w := w) (mg := mg) (base := base) G_w T A
  have oE := ok_amEq (P := l.prog) (w := w) (mg := mg) (base := base) G_e T A O_CA g_CA
  have DAm : Dk l.prog w K mg base (L2.CX l.prog w) "Amounts" 8 ["self", "stocks", "wishes"] (spAmG K CA CEA) CA := ⟨_, _, g_CA, ⟨mk_CA, n_i.at_, n_i.fn, kc_CA⟩, b_i, ok_amG G_i T A DCh⟩

  have DSh := mk1 F_DSh m_DSh (ps := ["amounts"]) (F_DSh.binds fun _ _ _ _ _ _ us hl => match us, hl with | [_], _ => rfl) (ok_showA F_DSh T aB A n_s oS b_s n_w oW b_w)
  have DCT := mkL F_DCT m_DCT (ps := ["text"]) (F_DCT.binds fun _ _ _ _ _ _ us hl => match us, hl with | [_], _ => rfl) (ok_chkX F_DCT T EX)
  have DAW := mk1 F_DAW m_DAW (ps := ["word"]) (F_DAW.binds fun _ _ _ _ _ _ us hl => match us, hl with | [_], _ => rfl) (ok_amtW F_DAW T tall aD aG)
  have DRd := mkL F_DRd m_DRd (ps := ["text"]) (F_DRd.binds fun _ _ _ _ _ _ us hl => match us, hl with | [_], _ => rfl) (ok_readA F_DRd T aB DCT DAW EX DAm)
  have L1 := mk1 F_L1 m_L1 (ps := ["_law_script", "_law_k"]) (F_L1.binds fun _ _ _ _ _ _ us hl => match us, hl with | [_, _], _ => rfl) (ok_cell2 F_L1 T)
  have L2x := mk1 F_L2x m_L2x (ps := ["_law_cell_here", "_law_k"]) (F_L2x.binds fun _ _ _ _ _ _ us hl => match us, hl with | [_, _], _ => rfl) (ok_mix2 F_L2x T)
  have L3 := mk1 F_L3 m_L3 (ps := ["_law_script", "_law_spot", "_law_sizes"]) (F_L3.binds fun _ _ _ _ _ _ us hl => match us, hl with | [_, _, _], _ => rfl) (ok_draws F_L3 T L1 L2x)
  have L4 := mk1 F_L4 m_L4 (ps := ["_law_actual", "_law_due"]) (F_L4.binds fun _ _ _ _ _ _ us hl => match us, hl with | [_, _], _ => rfl) (ok_same2 F_L4 T m_L4 3)
  have LN := mk1 F_LN m_LN (ps := ["_law_word"]) (F_LN.binds fun _ _ _ _ _ _ us hl => match us, hl with | [_], _ => rfl) (ok_numb F_LN T)
  have LS := mk1 F_LS m_LS (ps := ["_law_number_here"]) (F_LS.binds fun _ _ _ _ _ _ us hl => match us, hl with | [_], _ => rfl) (ok_sign F_LS T)
  have LP := mk1 F_LP m_LP (ps := ["_law_text", "_law_at", "_law_sign_here"]) (F_LP.binds fun _ _ _ _ _ _ us hl => match us, hl with | [_, _, _], _ => rfl) (ok_put F_LP)
  have LT := mk1 F_LT m_LT (ps := ["_law_text", "_law_at"]) (F_LT.binds fun _ _ _ _ _ _ us hl => match us, hl with | [_, _], _ => rfl) (ok_taken F_LT)
  have LR := mk1 F_LR m_LR (ps := ["_law_text"]) (F_LR.binds fun _ _ _ _ _ _ us hl => match us, hl with | [_], _ => rfl) (ok_lReadA F_LR T LN)
  have LA := mk1 F_LA m_LA (ps := ["_law_text"]) (F_LA.binds fun _ _ _ _ _ _ us hl => match us, hl with | [_], _ => rfl) (ok_lAnsA F_LA T A n_s oS b_s n_w oW b_w DRd EX EA x1 fr_EX_line fr_EX_word fr_EA_at fr_EA_word)
  have LG := mk1 F_LG m_LG (ps := ["_law_text"]) (F_LG.binds fun _ _ _ _ _ _ us hl => match us, hl with | [_], _ => rfl) (ok_lAgrA F_LG LR LA L4 DRd DSh)
  have LC := mk1 F_LC m_LC (ps := ["_law_text", "_law_drawn"]) (F_LC.binds fun _ _ _ _ _ _ us hl => match us, hl with | [_, _], _ => rfl) (ok_changedA F_LC T LS LP LT)
  have LJ := mk1 F_LJ m_LJ (ps := ["_law_stocks", "_law_wishes"]) (F_LJ.binds fun _ _ _ _ _ _ us hl => match us, hl with | [_, _], _ => rfl) (ok_joined F_LJ T)
  exact ok_law (CX := CEX) (CAE := CEA) F_law ⟨L3, L4, LG, LA, LC, LJ, DSh, DRd, DAm, O_CA, ⟨_, _, n_e, oE, b_e⟩, neA, O_CA.hm⟩ T
end Pk
set_option Elab.async false
set_option linter.all false
set_option maxRecDepth 100000
set_option maxHeartbeats 0
namespace Pk
open PySem L2 PySem.Spec PyProof.Rows PySem.W
theorem hkFacts {w : World} {K : PySem.W.Frag} {h : Heap} {mg : Str → Option Value} {fa : Addr} (X : K.In h) (G : h.Ns mainGlobals mg) (hfa : mg "law" = some (.ref fa)) (c : obsP hkFn hkEx K = valP hkFn) :
    ∃ fd : FuncData, (∀ (s : Shared) (u : Value), BindsTo s fd ⟨[u], []⟩ [("_law_script", u)]) ∧ ∀ base : Heap, K.In base → base.Ns mainGlobals mg → FnOk PySem.Challenge.rw_pairorder_k77_texts_of_amounts.prog w K mg base CX0 40 fa fd ["_law_script"] (spLaw K) := by
  have hx := saysP_ex c
  have hy := hx
  obtain ⟨x0, hy⟩ := bb hy
  obtain ⟨x1, hy⟩ := bb hy
  obtain ⟨x2, hy⟩ := bb hy
  obtain ⟨x3, hy⟩ := bb hy
  obtain ⟨x4, hy⟩ := bb hy
  obtain ⟨x5, hy⟩ := bb hy
  obtain ⟨x6, hy⟩ := bb hy
  obtain ⟨x7, hy⟩ := bb hy
  obtain ⟨x8, hy⟩ := bb hy
  obtain ⟨x9, hy⟩ := bb hy
  obtain ⟨x10, hy⟩ := bb hy
  obtain ⟨x11, hy⟩ := bb hy
  obtain ⟨x12, hy⟩ := bb hy
  obtain ⟨x13, hy⟩ := bb hy
  obtain ⟨x14, hy⟩ := bb hy
  obtain ⟨x15, hy⟩ := bb hy
  obtain ⟨x16, hy⟩ := bb hy
  obtain ⟨x17, hy⟩ := bb hy
  obtain ⟨x18, hy⟩ := bb hy
  obtain ⟨x19, hy⟩ := bb hy
  obtain ⟨x20, hy⟩ := bb hy
  obtain ⟨x21, hy⟩ := bb hy
  obtain ⟨x22, hy⟩ := bb hy
  obtain ⟨x23, hy⟩ := bb hy
  obtain ⟨x24, hy⟩ := bb hy
  obtain ⟨x25, hy⟩ := bb hy
  obtain ⟨x26, hy⟩ := bb hy
  obtain ⟨x27, hy⟩ := bb hy
  obtain ⟨x28, hy⟩ := bb hy
  obtain ⟨x29, hy⟩ := bb hy
  obtain ⟨x30, hy⟩ := bb hy
  obtain ⟨x31, hy⟩ := bb hy
  obtain ⟨x32, hy⟩ := bb hy
  obtain ⟨x33, hy⟩ := bb hy
  obtain ⟨x34, hy⟩ := bb hy
  obtain ⟨x35, hy⟩ := bb hy
  obtain ⟨x36, hy⟩ := bb hy
  obtain ⟨x37, hy⟩ := bb hy
  obtain ⟨x38, hy⟩ := bb hy
  obtain ⟨x39, hy⟩ := bb hy
  obtain ⟨x40, hy⟩ := bb hy
  obtain ⟨x41, hy⟩ := bb hy
  obtain ⟨x42, hy⟩ := bb hy
  obtain ⟨x43, hy⟩ := bb hy
  obtain ⟨x44, hy⟩ := bb hy
  obtain ⟨tk_aL, y_a_aL⟩ := hk_int x10
  obtain ⟨tk_aD, y_a_aD⟩ := hk_int x11
  obtain ⟨tk_aG, y_a_aG⟩ := hk_str x12
  obtain ⟨tk_aB, y_a_aB⟩ := hk_str x13
  exact all_mk (l := PySem.Challenge.rw_pairorder_k77_texts_of_amounts) X G hfa (bt := hk_bt x0) (top := rfl) (d_own := hk_def (saysP_fn c 0 rfl) x1) (e_EA := hk_err (saysP_fn c 1 rfl) x2) (fr_EA_word := eqB_ok x3) (fr_EA_at := eqB_ok x4) (e_EX := hk_err (saysP_fn c 2 rfl) x5) (fr_EX_line := eqB_ok x6) (fr_EX_word := eqB_ok x7) (sx1 := of_decide_eq_true x8) (d_DI := hk_def (saysP_fn c 3 rfl) x9) (a_aL := y_a_aL) (a_aD := y_a_aD) (a_aG := y_a_aG) (a_aB := y_a_aB) (b_all := eqB_ok x14) (d_DCh := hk_def (saysP_fn c 4 rfl) x15) (a_CA := chG_ok x16) (me_i := hk_meth (saysP_fn c 5 rfl) x17) (me_s := hk_meth (saysP_fn c 6 rfl) x18) (me_w := hk_meth (saysP_fn c 7 rfl) x19) (me_e := hk_meth (saysP_fn c 8 rfl) x20) (O_CA := hk_own x21) (mk_CA := x22) (kc_CA := x23) (no_CA_held := eqB_ok x24) (no_CA_wished := eqB_ok x25) (neA := eqB_ok x26) (d_DSh := hk_def (saysP_fn c 9 rfl) x27) (d_DCT := hk_def (saysP_fn c 10 rfl) x28) (d_DAW := hk_def (saysP_fn c 11 rfl) x29) (d_DRd := hk_def (saysP_fn c 12 rfl) x30) (d_L1 := hk_def (saysP_fn c 13 rfl) x31) (d_L2x := hk_def (saysP_fn c 14 rfl) x32) (d_L3 := hk_def (saysP_fn c 15 rfl) x33) (d_L4 := hk_def (saysP_fn c 16 rfl) x34) (d_LN := hk_def (saysP_fn c 17 rfl) x35) (d_LS := hk_def (saysP_fn c 18 rfl) x36) (d_LP := hk_def (saysP_fn c 19 rfl) x37) (d_LT := hk_def (saysP_fn c 20 rfl) x38) (d_LR := hk_def (saysP_fn c 21 rfl) x39) (d_LA := hk_def (saysP_fn c 22 rfl) x40) (d_LG := hk_def (saysP_fn c 23 rfl) x41) (d_LC := hk_def (saysP_fn c 24 rfl) x42) (d_LJ := hk_def (saysP_fn c 25 rfl) x43) (d_law := hk_def (saysP_fn c 26 rfl) x44)
end Pk
open PySem PySem.W PySem.Calls PyProof.Rows in
theorem PySem.Challenge.cw_pairorder_k77_texts_of_amounts_holds : PySem.Challenge.rw_pairorder_k77_texts_of_amounts.Holds := by
  w_on
  refine Pk.hkLaw fun said => ?_
  refine HandSHeadRun.head_any (r := OpenLaw.row PySem.Challenge.rw_pairorder_k77_texts_of_amounts) (q := view (OpenLaw.row PySem.Challenge.rw_pairorder_k77_texts_of_amounts).prog [35]) (H := Pk.hkH) (ob := Pk.hkOb) (M := 12000) (loose := Pk.hkNames) (d := HandSHeadRun.topDef (OpenLaw.row PySem.Challenge.rw_pairorder_k77_texts_of_amounts).prog 35) (kwd := []) Pk.hkOb_eq
    (by kernel_rfl) (fun s => by kernel_rfl) Pk.hkRun (by kernel_rfl) (by kernel_rfl) (by kernel_rfl) (by rfl) (by first | assumption | decide +kernel) (by decide +kernel) Pk.hkBare ?hw ?hc
  case hw => w_witness2
  case hc =>
    refine L2.walk_ofE (l := PySem.Challenge.rw_pairorder_k77_texts_of_amounts) (n := 63) (k := 40) (x := "_law_script") (CX := L2.CX0) rfl (by decide) (by kernel_rfl) ⟨rfl, by decide, by decide⟩ ?F (fun _ _ _ _ z => z)
    intro w mg fa h Y G hmg0
    obtain ⟨K, KX, c⟩ := Y
    have hmg : mg ("law" : PySem.Str) = some (.ref fa) := by
      have e : (HandSHeadRun.topDef (OpenLaw.row PySem.Challenge.rw_pairorder_k77_texts_of_amounts).prog 35).name = ("law" : PySem.Str) := by kernel_rfl
      rw [← e]
      exact hmg0
    obtain ⟨fd, hb, hF⟩ := Pk.hkFacts (w := w) KX G hmg c
    exact ⟨K, fd, Pk.spLaw K, KX, hb, fun H a ns hl _ hS => ⟨a, ns, rfl, hS, hl, fun _ => rfl⟩, hF⟩
