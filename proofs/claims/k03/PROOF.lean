import PyProof.Rows.All
import Wide.All
import OpenK.AllK
import Wide.FinOn
import HandS.ForMost
import HandS.IsInst
import HandS.WideBits
import HandS.Wide
import HandS.Defaults
import HandS.TupMul
import PySem.Challenge.RW_thankways_k03_names_of_any_kind
set_option Elab.async false
set_option linter.all false
set_option maxRecDepth 100000
set_option maxHeartbeats 4000000
/-! The steps of a reading, one lemma a construct, and the heaps of a law with a pool. -/
namespace Ver
open PySem PySem.Spec PyProof.Rows L2

/-! ### heaps: all is kept but what stands at the one place -/
/-- all that was tracked is kept, but at p -/
def Kp (p : Addr) (H H' : Hp) : Prop := ∀ a o, a ≠ p → H a = some o → H' a = some o
/-- all is kept -/
def Ex (H H' : Hp) : Prop := ∀ a o, H a = some o → H' a = some o
theorem Ex.refl (H : Hp) : Ex H H := fun _ _ h => h
theorem Ex.trans {H H1 H2 : Hp} (a : Ex H H1) (b : Ex H1 H2) : Ex H H2 := fun x o h => b x o (a x o h)
theorem Ex.new {H : Hp} {p : Addr} {o : HO} (h : H p = none) : Ex H (upd H p o) := fun a u e => by
  rw [upd_ne (ne_of_none e h)]
  exact e
theorem Ex.kp {p : Addr} {H H' : Hp} (e : Ex H H') : Kp p H H' := fun a o _ h => e a o h
theorem Kp.refl (p : Addr) (H : Hp) : Kp p H H := fun _ _ _ h => h
theorem Kp.trans {p : Addr} {H H1 H2 : Hp} (a : Kp p H H1) (b : Kp p H1 H2) : Kp p H H2 := fun x o n h => b x o n (a x o n h)
theorem Kp.set {p : Addr} {H : Hp} {o : HO} : Kp p H (upd H p o) := fun a u n e => by
  rw [upd_ne n]
  exact e
theorem Kp.new {p q : Addr} {H : Hp} {o : HO} (h : H q = none) : Kp p H (upd H q o) := (Ex.new h).kp
/-- a thing that H does not know may change -/
theorem Ex.mut {H H' : Hp} {p : Addr} {o : HO} (e : Ex H H') (h : H p = none) : Ex H (upd H' p o) := fun a u ha => by
  rw [upd_ne (ne_of_none ha h)]
  exact e a u ha
theorem Kp.mut {q : Addr} {H H' : Hp} {p : Addr} {o : HO} (e : Kp q H H') (h : H p = none) : Kp q H (upd H' p o) := fun a u n ha => by
  rw [upd_ne (ne_of_none ha h)]
  exact e a u n ha
theorem Ex.free {H H' : Hp} {p : Addr} (e : Ex H H') (h : H' p = none) : H p = none := by
  cases h1 : H p with
  | none => rfl
  | some o =>
    rw [e p o h1] at h
    cases h
theorem Kp.free {q : Addr} {H H' : Hp} {p : Addr} (e : Kp q H H') (n : p ≠ q) (h : H' p = none) : H p = none := by
  cases h1 : H p with
  | none => rfl
  | some o =>
    rw [e p o n h1] at h
    cases h
theorem Kp.back {p : Addr} {H H1 H2 : Hp} (e : Ex H H1) (k : Kp p H1 H2) (n : H p = none) : Ex H H2 := fun a o h => k a o (ne_of_none h n) (e a o h)
theorem Ex.get {H H' : Hp} {a : Addr} {o : HO} (e : Ex H H') (h : H a = some o) : H' a = some o := e a o h
theorem Kp.get {p : Addr} {H H' : Hp} {a : Addr} {o : HO} (e : Kp p H H') (n : a ≠ p) (h : H a = some o) : H' a = some o := e a o n h
theorem Ex.rd {H H' : Hp} {a : Addr} {u : HO} (e : Ex H H') (h : Rd H a u) : Rd H' a u := by
  rcases h with h | ⟨o, h⟩
  · exact Or.inl (e a _ h)
  · exact Or.inr ⟨o, e a _ h⟩
theorem Ex.sq {K : PySem.W.Frag} {H H' : Hp} {a : Addr} {xs : List V} (e : Ex H H') (h : SqL K H a xs) : SqL K H' a xs := by
  rcases h with h | h
  · exact Or.inl (e.rd h)
  · exact Or.inr h
theorem Ex.st {K : PySem.W.Frag} {H H' : Hp} {a : Addr} {xs : List V} (e : Ex H H') (h : SqT K H a xs) : SqT K H' a xs := by
  rcases h with h | h
  · exact Or.inl (e.rd h)
  · exact Or.inr h
theorem sz6 {n : Nat} (h : n ≤ 100000) : n ≤ sizeLine := Nat.le_trans h (by decide)
theorem sz6' {n : Nat} (h : n ≤ 100000) : n < sizeLine := Nat.lt_of_le_of_lt h (by decide)

/-- a new object: what is wanted of its place and of the heap with it -/
def Al (Q : VK) (o : HO) (H : Hp) : Prop := ∀ p, H p = none → Q (.ref p) (upd H p o)
theorem alI {Q : VK} {o : HO} {H : Hp} (h : ∀ p H', H p = none → Ex H H' → H' p = some o → Q (.ref p) H') : Al Q o H := fun p hp => h p _ hp (Ex.new hp) upd_same

/-! ### the steps -/
section
variable {K : PySem.W.Frag} {σ : L2.St} {H : Hp} {Q : VK} {QT : Bool → Hp → Prop} {QA : List V → Hp → Prop} {QO : Option Int → Hp → Prop} {ta tb tc te : TE} {tt tu : TT} {v x y : V} {r r' : R2} {D : Ends} {ts us : TS} {g : TG} {tA tR : TA}
theorem wVar {i : Nat} (h : σ[i]? = some (some v)) (k : Q v H) : tVar i σ H Q := ⟨v, h, k⟩
theorem wC (k : Q v H) : tC v σ H Q := k
theorem wOp (k : ta σ H fun x H1 => tb σ H1 fun y H2 => r x y H2 Q) : tOp r ta tb σ H Q := k
theorem wUn {r : V → Hp → VK → Prop} (k : ta σ H fun x H1 => r x H1 Q) : tUn r ta σ H Q := k
theorem wCB {r : List V → Hp → VK → Prop} (k : tA σ H fun vs H1 => r vs H1 Q) : tCB r tA σ H Q := k
theorem wNil (k : QA [] H) : tNil σ H QA := k
theorem wCons (k : ta σ H fun x H1 => tR σ H1 fun xs H2 => QA (x :: xs) H2) : tCons ta tR σ H QA := k
theorem wCall {sp : Sp} {dvs : List V} {E : XK} (k : tA σ H fun vs H1 => sp (vs ++ dvs) H1 Q E) : tCall sp dvs E tA σ H Q := k
theorem wTest (k : te σ H fun x H' => ∃ k, x = .bl k ∧ QT k H') : tTest te σ H QT := k
theorem wB (k : te σ H fun x H' => ∃ k, x = .bl k ∧ QT k H') : tB te σ H QT := k
theorem wAnd (k : tt σ H fun c H1 => if c = true then tu σ H1 QT else QT false H1) : tAnd tt tu σ H QT := k
theorem wOr (k : tt σ H fun c H1 => if c = true then QT true H1 else tu σ H1 QT) : tOr tt tu σ H QT := k
theorem wNot (k : tt σ H fun c H1 => QT (!c) H1) : tNot tt σ H QT := k
theorem wAndV (k : ta σ H fun x H1 => ∃ c, x = .bl c ∧ if c = true then tb σ H1 Q else Q (.bl false) H1) : tAndV ta tb σ H Q := k
theorem wOrV (k : ta σ H fun x H1 => ∃ c, x = .bl c ∧ if c = true then Q (.bl true) H1 else tb σ H1 Q) : tOrV ta tb σ H Q := k
theorem wNotV (k : ta σ H fun x H1 => ∃ c, x = .bl c ∧ Q (.bl (!c)) H1) : tNotV ta σ H Q := k
theorem wIf (k : tt σ H fun c H1 => if c = true then ta σ H1 Q else tb σ H1 Q) : tIf tt ta tb σ H Q := k
theorem wChain (k : ta σ H fun x H1 => tb σ H1 fun y H2 => r x y H2 fun z H3 => ∃ k, z = .bl k ∧ (if k = true then tc σ H3 fun w' H4 => r' y w' H4 Q else Q (.bl false) H3)) : tChain r r' ta tb tc σ H Q := k
theorem wTup (k : tA σ H fun xs H1 => xs.length ≤ sizeLine ∧ Al Q (.tup xs) H1) : tTup tA σ H Q := k
theorem wLst (k : tA σ H fun xs H1 => xs.length ≤ sizeLine ∧ Al Q (.lst xs) H1) : tLst tA σ H Q := k
theorem wDnew (k : Al Q (.dK []) H) : tDNewK σ H Q := k
theorem wSl {r : V → Option Int → Option Int → Hp → VK → Prop} {tl th : TO} (k : te σ H fun x H1 => tl σ H1 fun l H2 => th σ H2 fun u H3 => r x l u H3 Q) : tSl r te tl th σ H Q := k
theorem wPart (k : te σ H fun x H1 => ∃ i, x = .int i ∧ QO (some i) H1) : tPart te σ H QO := k
theorem wNoPart (k : QO none H) : tNoPart σ H QO := k
theorem wBM {T : String} {r : V → List V → Hp → VK → Prop} (k : ta σ H fun x H1 => tyV K T x H1 ∧ tA σ H1 fun xs H2 => r x xs H2 Q) : tBM K T r ta tA σ H Q := k
theorem wBM0 {T : String} {r : V → List V → Hp → VK → Prop} (k : ta σ H fun x H1 => tyV K T x H1 ∧ r x [] H1 Q) : tBM0 K T r ta σ H Q := k
theorem wM0 {r : V → List V → Hp → VK → Prop} (k : ta σ H fun x H1 => (∃ a, x = .str a) ∧ r x [] H1 Q) : tM0 r ta σ H Q := k
theorem wM1 {r : V → List V → Hp → VK → Prop} (k : ta σ H fun x H1 => (∃ a, x = .str a) ∧ tb σ H1 fun y H2 => r x [y] H2 Q) : tM1 r ta tb σ H Q := k
-- statements
theorem wSeq (k : ts { D with nx := us D } σ H) : tSeq ts us D σ H := k
theorem wAsg (k : te σ H fun x H1 => g x σ H1 D.nx) : tAsg te g D σ H := k
theorem wRet (k : te σ H D.rt) : tRet te D σ H := k
theorem wDrop (k : te σ H fun _ H1 => D.nx σ H1) : tDrop te D σ H := k
theorem wIfS (k : tt σ H fun b H1 => if b = true then ts D σ H1 else us D σ H1) : tIfS tt ts us D σ H := k
theorem wNext (k : D.nx σ H) : tNext D σ H := k
theorem wPar {i j : Nat} (k : tA σ H fun vs H1 => ∃ v w, vs = [v, w] ∧ D.nx ((σ.set i (some v)).set j (some w)) H1) : tPar i j tA D σ H := k
variable {QS : L2.St → Hp → Prop} {QH : Hp → Prop}
theorem wName {i : Nat} (k : QS (σ.set i (some v)) H) : gName i v σ H QS := k
theorem wSub {to ti : TE} {t : TSet} (k : to σ H fun o H1 => ti σ H1 fun i H2 => t o i v H2 fun H3 => QS σ H3) : gSub to ti t v σ H QS := k
theorem wGTup {n : Nat} {t : TGs} {a : Addr} {xs : List V} (h : SqT K H a xs) (hl : xs.length = n) (k : t xs σ H QS) : gTup K n t (.ref a) σ H QS := ⟨a, xs, rfl, h, hl, k⟩
theorem wGCons {t : TG} {u : TGs} {vs : List V} (k : t v σ H fun σ' H' => u vs σ' H' QS) : gCons t u (v :: vs) σ H QS := ⟨v, vs, rfl, k⟩
theorem wGNil (k : QS σ H) : gNil [] σ H QS := ⟨rfl, k⟩
-- operations
theorem wI0 {f : Int → Int → V} {i j : Int} (k : Q (f i j) H) : rI0 f (.int i) (.int j) H Q := ⟨i, j, rfl, rfl, k⟩
theorem wI {C : Int → Int → Prop} {f : Int → Int → V} {i j : Int} (c : C i j) (k : Q (f i j) H) : rI C f (.int i) (.int j) H Q := ⟨i, j, rfl, rfl, c, k⟩
theorem wU {f : Int → V} {i : Int} (k : Q (f i) H) : rU f (.int i) H Q := ⟨i, rfl, k⟩
theorem wEq (h : scal x y = true) (k : Q (.bl (decide (x = y))) H) : rEq x y H Q := ⟨h, k⟩
theorem wNe (h : scal x y = true) (k : Q (.bl (!decide (x = y))) H) : rNe x y H Q := ⟨h, k⟩
theorem wIxL {p : Addr} {xs : List V} {i : Int} (h : SqL K H p xs) (ha : atI xs i = some v) (k : Q v H) : rIxL K (.ref p) (.int i) H Q := ⟨p, xs, i, v, rfl, rfl, h, ha, k⟩
theorem wIxT {p : Addr} {xs : List V} {i : Int} (h : SqT K H p xs) (ha : atI xs i = some v) (k : Q v H) : rIxT K (.ref p) (.int i) H Q := ⟨p, xs, i, v, rfl, rfl, h, ha, k⟩
theorem wIxS {z : Str} {i : Int} {c : Nat} (h : z.length ≤ sizeLine) (ha : atI z.cps.toList i = some c) (k : Q (.str ⟨#[c]⟩) H) : rIxS (.str z) (.int i) H Q := ⟨z, i, c, rfl, rfl, h, ha, k⟩
theorem wSetL {p : Addr} {xs : List V} {k : Int} {j : Nat} (h : H p = some (.lst xs)) (hj : ixN xs.length k = some j) (q : QH (upd H p (.lst (xs.set j v)))) : rSetL (.ref p) (.int k) v H QH := ⟨p, xs, k, j, rfl, rfl, h, hj, q⟩
theorem wSlL {a : Addr} {xs : List V} {lo hi : Option Int} (h : SqL K H a xs) (k : Al Q (.lst (cutV xs lo hi)) H) : rSlL K (.ref a) lo hi H Q := ⟨a, xs, rfl, h, k⟩
theorem wSlS {z : Str} {lo hi : Option Int} (h : z.length ≤ sizeLine) (k : Q (.str (cutS z lo hi)) H) : rSlS (.str z) lo hi H Q := ⟨z, rfl, h, k⟩
theorem wAppend {l : Addr} {xs : List V} {y : V} (h : H l = some (.lst xs)) (hl : xs.length ≤ 100000) (k : Q .non (upd H l (.lst (xs ++ [y])))) : rAppend (.ref l) [y] H Q := ⟨l, xs, y, rfl, rfl, h, sz6' hl, k⟩
theorem wAppendI {H0 : Hp} {l : Addr} {xs : List V} {y : V} (h : H l = some (.lst xs)) (hl : xs.length ≤ 100000) (n : H0 l = none) (e : Ex H0 H) (k : ∀ H', Ex H0 H' → Kp l H H' → H' l = some (.lst (xs ++ [y])) → Q .non H') : rAppend (.ref l) [y] H Q :=
  ⟨l, xs, y, rfl, rfl, h, sz6' hl, k _ (e.mut n) Kp.set upd_same⟩
theorem anTyL {l : Addr} {xs : List V} {P : Prop} (h : H l = some (.lst xs)) (k : P) : tyV K "list" (.ref l) H ∧ P := ⟨.inl ⟨rfl, xs, SqL.of h⟩, k⟩
theorem wCat {a b : Addr} {xs ys : List V} (h1 : H a = some (.lst xs)) (h2 : H b = some (.lst ys)) (hl : xs.length + ys.length ≤ sizeLine) (k : Al Q (.lst (xs ++ ys)) H) : rCat (.ref a) (.ref b) H Q := ⟨a, b, xs, ys, rfl, rfl, h1, h2, hl, k⟩
theorem wLenL {a : Addr} {xs : List V} {P : Nat → Prop} (h : SqL K H a xs) (k : P xs.length) : ∃ x n, [V.ref a] = [x] ∧ LenV K x H n ∧ P n := ⟨_, _, rfl, .inl ⟨_, h, rfl⟩, k⟩
theorem wLenT {a : Addr} {xs : List V} {P : Nat → Prop} (h : SqT K H a xs) (k : P xs.length) : ∃ x n, [V.ref a] = [x] ∧ LenV K x H n ∧ P n := ⟨_, _, rfl, .inr ⟨_, h, rfl⟩, k⟩
theorem wLenS {z : Str} {P : Nat → Prop} (h : z.length ≤ sizeLine) (k : P z.length) : ∃ x n, [V.str z] = [x] ∧ LenV K x H n ∧ P n := ⟨_, _, rfl, ⟨h, rfl⟩, k⟩
theorem exI1 {i : Int} {P : Int → Prop} (k : P i) : ∃ j, [V.int i] = [V.int j] ∧ P j := ⟨i, rfl, k⟩
theorem exI2 {i j : Int} {P : Int → Int → Prop} (k : P i j) : ∃ a b, [V.int i, V.int j] = [V.int a, V.int b] ∧ P a b := ⟨i, j, rfl, k⟩
theorem wAll {a : Addr} {bs : List Bool} (h : SqL K H a (bs.map V.bl)) (k : Q (.bl (bs.all id)) H) : rAll K [.ref a] H Q := ⟨a, bs, rfl, h, k⟩
theorem wAny {a : Addr} {bs : List Bool} (h : SqL K H a (bs.map V.bl)) (k : Q (.bl (bs.any id)) H) : rAny K [.ref a] H Q := ⟨a, bs, rfl, h, k⟩
theorem exBl {b : Bool} {P : Bool → Prop} (h : P b) : ∃ k, V.bl b = V.bl k ∧ P k := ⟨b, rfl, h⟩
theorem exInt {i : Int} {P : Int → Prop} (h : P i) : ∃ k, V.int i = V.int k ∧ P k := ⟨i, rfl, h⟩
theorem exStr {z : Str} {P : Str → Prop} (h : P z) : ∃ k, V.str z = V.str k ∧ P k := ⟨z, rfl, h⟩
theorem exSS {a b : Str} {P : Str → Str → Prop} (h : P a b) : ∃ i j, V.str a = V.str i ∧ V.str b = V.str j ∧ P i j := ⟨a, b, rfl, rfl, h⟩
theorem exCS {c : Nat} {b : Str} {P : Nat → Str → Prop} (h : P c b) : ∃ i j, V.str ⟨#[c]⟩ = V.str ⟨#[i]⟩ ∧ V.str b = V.str j ∧ P i j := ⟨c, b, rfl, rfl, h⟩
theorem anSum {a b : Nat} {P : Prop} (h : a + b ≤ sizeLine) (k : P) : a + b ≤ sizeLine ∧ P := ⟨h, k⟩
theorem anStr {z : Str} {P : Prop} (h : P) : (∃ a, V.str z = V.str a) ∧ P := ⟨⟨z, rfl⟩, h⟩
theorem anSz {n : Nat} {P : Prop} (h : n ≤ 100000) (k : P) : n ≤ sizeLine ∧ P := ⟨sz6 h, k⟩
theorem exTwo {v w : V} {P : V → V → Prop} (h : P v w) : ∃ a b, [v, w] = [a, b] ∧ P a b := ⟨v, w, rfl, h⟩
end
/-- a chain's comparison of two ints, of texts -/
theorem wLeS {i j : Str} {H : Hp} {Q : VK} (k : Q (.bl (!decide (j.cps.toList < i.cps.toList))) H) : (fun x y H Q => ∃ i j, x = V.str i ∧ y = V.str j ∧ Q (.bl (!decide (j.cps.toList < i.cps.toList))) H : R2) (.str i) (.str j) H Q := ⟨i, j, rfl, rfl, k⟩

/-! ### small rules of our own -/
/-- a text so many times -/
def rMulS : R2 := fun x y H Q => ∃ (z : Str) (n : Nat), x = .str z ∧ y = .int n ∧ 1 < n ∧ n ≤ 100 ∧ 0 < z.length ∧ z.length ≤ 1000 ∧ ∀ u : Str, u.cps.toList = (List.replicate n z.cps.toList).flatten → Q (.str u) H
theorem fold_cps (z : Str) : ∀ (n : Nat) (a : Array Nat), ((List.replicate n z.cps).foldl (· ++ ·) a).toList = a.toList ++ (List.replicate n z.cps.toList).flatten
  | 0, a => by simp
  | n + 1, a => by
    rw [List.replicate_succ, List.foldl_cons, fold_cps z n, List.replicate_succ, List.flatten_cons, Array.toList_append, List.append_assoc]
theorem op_mulS {X : Cx} : OpR X (binaryOp .Mult) rMulS := by
  intro pins s σ H x y v u Q I rx ry h
  obtain ⟨z, n, rfl, rfl, h1, h2, h3, h4, q⟩ := h
  obtain ⟨t, rfl⟩ := rx
  obtain ⟨t', rfl⟩ := ry
  have e1 : ¬ ((n : Int) < 1) := by omega
  have e2 : ((n : Int) == 1 || z.length == 0) = false := by
    rw [Bool.or_eq_false_iff]
    exact ⟨beq_eq_false_iff_ne.mpr (by omega), beq_eq_false_iff_ne.mpr (by omega)⟩
  have e3 : z.length * n ≤ 1000 * 100 := Nat.mul_le_mul h4 h2
  refine PySem.P.mul_str ?_ (fun _ _ => ?_) (fun _ _ => ?_) ?_
  · rw [decide_eq_false (by omega), decide_eq_false (by omega)]; rfl
  · have e4 : (92233720368547758 : Int) ≤ (2 ^ 63 - 1) / (n : Int) := by
      refine Int.le_ediv_of_mul_le (by omega) ?_
      have : (92233720368547758 : Int) * n ≤ 92233720368547758 * 100 := Int.mul_le_mul_of_nonneg_left (by omega) (by decide)
      omega
    omega
  · show decide (z.length * ((n : Int)).toNat > sizeLine) = false
    rw [Int.toNat_natCast]
    exact decide_eq_false (by have := sz6 (n := z.length * n) (by omega); omega)
  · rw [if_neg e1, e2]
    rw [if_neg (by decide)]
    have e5 : ((List.replicate ((n : Int)).toNat z.cps).foldl (· ++ ·) #[]).toList = (List.replicate n z.cps.toList).flatten := by
      rw [fold_cps, Int.toNat_natCast]
      simp
    refine ⟨?_, ?_⟩
    · have e6 : ((List.replicate ((n : Int)).toNat z.cps).foldl (· ++ ·) #[]).size = n * z.length := by
        rw [← Array.length_toList, e5, List.length_flatten, List.map_replicate, List.sum_replicate_nat]
        rfl
      refine Nat.le_trans (Nat.le_of_eq e6) (sz6 ?_)
      rw [Nat.mul_comm]
      exact e3
    · exact ⟨.str _, H, I.tok _, ⟨_, rfl⟩, q _ e5⟩
section
variable {X : Cx} {CX : CXT} {k n : Nat} {f : Addr} {fd : FuncData} {ps ks : List Str} {sp : Sp} {E : XK} {x : Str} {p pos : Pos} {e : Expr} {es : List Expr} {kws : List Keyword} {t tk : TA} {g : List Value → List Value → List Value} {gV : List V → List V → List V}
/-- f(k = v, ..), by names alone -/
theorem pe_callN0 (F : FnOk X.prog X.w X.K X.mg X.base CX k f fd ps sp) (hr : Room k X.A) (hg : Gl X x) (hm : X.mg x = some (.ref f)) (hk : PySem.W.keepIn X.K (.ref f) = true) (hb : KBn X.K fd ps 0 ks g gV) (hx : Passes CX X E)
    (hkw : PK X kws tk) (hall : (backToKw pos (keywordEach kws X.env)).all (·.1.isSome) = true := by rfl) (hks : (backToKw pos (keywordEach kws X.env)).filterMap (·.1) = ks := by rfl)
    (hdb : (x == ("__debug__" : Str)) = false := by decide)
    (hpl : ((backTo pos (starEach [] X.env)).any (·.1) || (backToKw pos (keywordEach kws X.env)).any (·.1.isNone)) = false := by rfl) :
    PE X (.Call (.Name x p) [] kws pos) (tCallN 0 ks.length sp gV E tNil tk) := by
  refine ⟨fun pins s σ H Q I h => ?_⟩
  refine wpAny_Call_Name_kw (ld_glob I hg hm ?_ hdb)
  refine PySem.W.callWith_KW0 (h₀ := X.base) I.ok.mod.kin hk hall ?_ hpl
  have h : tk σ H fun zs H2 => ([] : List V).length = 0 ∧ zs.length = ks.length ∧ sp (gV [] zs) H2 Q E := h
  refine thn (hkw.run pos pins s σ H _ I h) fun ws s2 ⟨zs, H2, I2, rz, l1, l2, q2⟩ => ⟨I2.kIn, ?_⟩
  rw [hks]
  exact run_fnN (us := []) F hr hb hx I2 .nil rz l1 l2 q2
theorem wCallN {n m : Nat} {σ : L2.St} {H : Hp} {Q : VK} (k : t σ H fun vs H1 => tk σ H1 fun zs H2 => vs.length = n ∧ zs.length = m ∧ sp (gV vs zs) H2 Q E) : tCallN n m sp gV E t tk σ H Q := k
end
/-! ### isinstance -/
/-- a value's type by its name -/
inductive Ty (K : PySem.W.Frag) (H : Hp) : V → String → Prop where
  | non : Ty K H .non "NoneType"
  | bl (x : Bool) : Ty K H (.bl x) "bool"
  | int (i : Int) : Ty K H (.int i) "int"
  | str (x : Str) : Ty K H (.str x) "str"
  | lst {a : Addr} {xs : List V} (e : H a = some (.lst xs)) : Ty K H (.ref a) "list"
  | tup {a : Addr} {xs : List V} (e : H a = some (.tup xs)) : Ty K H (.ref a) "tuple"
  | dK {a : Addr} {kvs : List (Key × V)} (e : H a = some (.dK kvs)) : Ty K H (.ref a) "dict"
  | kT {a : Addr} {o : Obj} (e : K.lookup a = some o) (c : o.cls = .type "tuple") : Ty K H (.ref a) "tuple"
theorem Ty.x {K : PySem.W.Frag} {H : Hp} {v : V} {n : String} (h : Ty K H v n) : TyX K H v (.type n) := by
  cases h with
  | non => exact .base .non
  | bl x => exact .base (.bl x)
  | int x => exact .base (.int x)
  | str x => exact .base (.str x)
  | lst e => exact .base (.lst e)
  | tup e => exact .base (.tup e)
  | dK e => exact .base (.dK e)
  | kT e c => exact .kTuple e c
theorem Ty.ex {K : PySem.W.Frag} {H H' : Hp} {v : V} {n : String} (x : Ex H H') (h : Ty K H v n) : Ty K H' v n := by
  cases h with
  | non => exact .non
  | bl x => exact .bl x
  | int x => exact .int x
  | str x => exact .str x
  | lst e => exact .lst (x _ _ e)
  | tup e => exact .tup (x _ _ e)
  | dK e => exact .dK (x _ _ e)
  | kT e c => exact .kT e c
theorem wIsi {K : PySem.W.Frag} {H : Hp} {Q : VK} {v : V} {n T : String} {b : Bool} (h : Ty K H v n) (hb : kitB n T = some b) (k : Q (.bl b) H) : rIsi K [v, .ty T] H Q :=
  ⟨v, .ty T, .type n, .type T, b, rfl, .ty T, h.x, kit_ty hb, k⟩


theorem iteNT {A B : Prop} (h : B) : if (!true) = true then A else B := h
theorem iteNF {A B : Prop} (h : A) : if (!false) = true then A else B := h
def isStr : V → Bool
  | .str _ => true
  | _ => false
theorem Ty.str_is {K : PySem.W.Frag} {H : Hp} {v : V} {n : String} (h : Ty K H v n) : kitB n "str" = some (isStr v) := by
  have e1 : kitB "NoneType" "str" = some false := by decide +kernel
  have e2 : kitB "bool" "str" = some false := by decide +kernel
  have e3 : kitB "int" "str" = some false := by decide +kernel
  have e4 : kitB "str" "str" = some true := by decide +kernel
  have e5 : kitB "list" "str" = some false := by decide +kernel
  have e6 : kitB "tuple" "str" = some false := by decide +kernel
  have e7 : kitB "dict" "str" = some false := by decide +kernel
  cases h <;> first | exact e1 | exact e2 | exact e3 | exact e4 | exact e5 | exact e6 | exact e7
theorem wIsiS {K : PySem.W.Frag} {H : Hp} {Q : VK} {z : Str} (k : Q (.bl true) H) : rIsi K [.str z, .ty "str"] H Q := wIsi (.str z) (by decide +kernel) k
theorem wIsiB {K : PySem.W.Frag} {H : Hp} {Q : VK} {b : Bool} (k : Q (.bl true) H) : rIsi K [.bl b, .ty "bool"] H Q := wIsi (.bl b) (by decide +kernel) k

/-- a thing whose kind is known, a text not too long -/
structure Thing (K : PySem.W.Frag) (H : Hp) (v : V) : Prop where
  ty : ∃ n, Ty K H v n
  sz : ∀ z, v = .str z → z.length ≤ 1000
theorem Thing.ex {K : PySem.W.Frag} {H H' : Hp} {v : V} (e : Ex H H') (t : Thing K H v) : Thing K H' v := ⟨let ⟨n, h⟩ := t.ty; ⟨n, h.ex e⟩, t.sz⟩
section
variable {K : PySem.W.Frag}
theorem Thing.s {z : Str} {H : Hp} (h : z.length ≤ 1000) : Thing K H (.str z) := ⟨⟨_, .str z⟩, fun y e => by cases e; exact h⟩
theorem Thing.i {i : Int} {H : Hp} : Thing K H (.int i) := ⟨⟨_, .int i⟩, fun y e => by cases e⟩
theorem Thing.b {b : Bool} {H : Hp} : Thing K H (.bl b) := ⟨⟨_, .bl b⟩, fun y e => by cases e⟩
theorem Thing.n {H : Hp} : Thing K H .non := ⟨⟨_, .non⟩, fun y e => by cases e⟩
theorem Thing.t {H : Hp} {a : Addr} {xs : List V} (h : H a = some (.tup xs)) : Thing K H (.ref a) := ⟨⟨_, .tup h⟩, fun y e => by cases e⟩
theorem Thing.l {H : Hp} {a : Addr} {xs : List V} (h : H a = some (.lst xs)) : Thing K H (.ref a) := ⟨⟨_, .lst h⟩, fun y e => by cases e⟩
theorem Thing.d {H : Hp} {a : Addr} {kvs : List (Key × V)} (h : H a = some (.dK kvs)) : Thing K H (.ref a) := ⟨⟨_, .dK h⟩, fun y e => by cases e⟩
end

/-! ### loops and comprehensions -/
/-- what a comprehension's reading asks behind its source -/
abbrev LcG (J : It) (g : TG) (tt : TT) (te : TE) (vs : List Nat) (σ : L2.St) (H1 : Hp) (Q : VK) (D : Addr) : Prop :=
  ∃ W : Nat → Nat → Hp → Prop, (∃ m, W 0 m (upd H1 D (.lst []))) ∧ ∀ i m H, W i m H →
    (J.stop i H ∧ Q (.ref D) H) ∨ (J.go i H ∧ ∃ Nx : Hp → Prop, (∀ H', Nx H' → ∃ m', m' < m ∧ W (i + 1) m' H') ∧ ∀ x H', J.yld i H x H' → g x (wipe σ vs) H' fun σ2 H2 => wipe σ2 vs = wipe σ vs ∧ tt σ2 H2 fun b H3 =>
      if b = true then te σ2 H3 fun y H4 => ∃ acc, H4 D = some (.lst acc) ∧ acc.length < sizeLine ∧ Nx (upd H4 D (.lst (acc ++ [y]))) else Nx H3)
abbrev ForG (J : It) (g : TG) (tb : TS) (D : Ends) (σ : L2.St) (H1 : Hp) : Prop :=
  ∃ W : Nat → Nat → L2.St → Hp → Prop, (∃ m, W 0 m σ H1) ∧ ∀ i m σ H, W i m σ H →
    (J.stop i H ∧ D.nx σ H) ∨ (J.go i H ∧ ∃ N : L2.St → Hp → Prop, (∀ σ' H', N σ' H' → ∃ m', m' < m ∧ W (i + 1) m' σ' H') ∧ ∀ x H', J.yld i H x H' → g x σ H' fun σ2 H2 => tb { D with nx := N, ct := N, bk := D.nx } σ2 H2)
section
variable {K : PySem.W.Frag} {wi : TI} {g : TG} {tt : TT} {te tl : TE} {tb : TS} {vs : List Nat} {σ : L2.St} {H H1 : Hp} {Q : VK} {E : Ends} {D : Addr} {ta : TA}
theorem wLc (k : wi σ H fun J H1 => ∀ D, H1 D = none → LcG J g tt te vs σ H1 Q D) : tLc wi g tt te vs σ H Q := k
theorem wFor (k : wi σ H fun J H1 => ForG J g tb E σ H1) : tFor wi g tb E σ H := k
variable {R : It → Hp → Prop}
theorem wIList (k : tl σ H fun x H1 => ∃ a, x = .ref a ∧ (∃ xs, SqL K H1 a xs) ∧ R (Itl K a) H1) : iList K tl σ H R := k
theorem wITup (k : tl σ H fun x H1 => ∃ a, x = .ref a ∧ (∃ xs, SqT K H1 a xs) ∧ R (Itt K a) H1) : iTup K tl σ H R := k
theorem wIStr (k : tl σ H fun x H1 => ∃ z, x = .str z ∧ R (Its z) H1) : iStr tl σ H R := k
theorem wIRng1 (k : ta σ H fun vs H1 => ∃ j : Int, vs = [.int j] ∧ -(2 ^ 62) ≤ j ∧ j < 2 ^ 62 ∧ R (Itr 0 j.toNat) H1) : iRng1 ta σ H R := k
theorem exSq {p : Addr} {xs : List V} {P : Addr → Prop} (h : SqL K H p xs) (k : P p) : ∃ a, V.ref p = V.ref a ∧ (∃ xs, SqL K H a xs) ∧ P a := ⟨p, rfl, ⟨xs, h⟩, k⟩
theorem exSt {p : Addr} {xs : List V} {P : Addr → Prop} (h : SqT K H p xs) (k : P p) : ∃ a, V.ref p = V.ref a ∧ (∃ xs, SqT K H a xs) ∧ P a := ⟨p, rfl, ⟨xs, h⟩, k⟩
theorem exRng {n : Int} {P : Int → Prop} (h0 : -1000000 ≤ n) (h1 : n ≤ 1000000) (k : P n) : ∃ j : Int, [V.int n] = [V.int j] ∧ -(2 ^ 62) ≤ j ∧ j < 2 ^ 62 ∧ P j := ⟨n, rfl, by omega, by omega, k⟩

/-- over a text -/
theorem lc_str {z : Str} {Qd : Hp → Prop} (Pv : Nat → Hp → Prop) (h0 : Pv 0 (upd H1 D (.lst [])))
    (hs : ∀ i c H, z.cps[i]? = some c → Pv i H → g (.str ⟨#[c]⟩) (wipe σ vs) H fun σ2 H2 => wipe σ2 vs = wipe σ vs ∧ tt σ2 H2 fun b H3 =>
      if b = true then te σ2 H3 fun y H4 => ∃ acc, H4 D = some (.lst acc) ∧ acc.length < sizeLine ∧ Pv (i + 1) (upd H4 D (.lst (acc ++ [y]))) else Pv (i + 1) H3) (hd : ∀ H, Pv z.cps.size H → Qd H) :
    ∃ W : Nat → Nat → Hp → Prop, (∃ m, W 0 m (upd H1 D (.lst []))) ∧ ∀ i m H, W i m H →
      ((Its z).stop i H ∧ Qd H) ∨ ((Its z).go i H ∧ ∃ Nx : Hp → Prop, (∀ H', Nx H' → ∃ m', m' < m ∧ W (i + 1) m' H') ∧ ∀ x H', (Its z).yld i H x H' → g x (wipe σ vs) H' fun σ2 H2 => wipe σ2 vs = wipe σ vs ∧ tt σ2 H2 fun b H3 =>
        if b = true then te σ2 H3 fun y H4 => ∃ acc, H4 D = some (.lst acc) ∧ acc.length < sizeLine ∧ Nx (upd H4 D (.lst (acc ++ [y]))) else Nx H3) := by
  refine ⟨fun i m H => m = z.cps.size - i ∧ i ≤ z.cps.size ∧ Pv i H, ⟨z.cps.size, by simp, Nat.zero_le _, h0⟩, ?_⟩
  rintro i m H ⟨rfl, hi, p⟩
  by_cases hlt : i < z.cps.size
  · refine .inr ⟨hlt, Pv (i + 1), fun H' p' => ⟨z.cps.size - (i + 1), by omega, rfl, hlt, p'⟩, fun x H' y => ?_⟩
    obtain ⟨e, c, hc, rfl⟩ := y
    subst e
    exact hs i c _ hc p
  · have e : i = z.cps.size := by omega
    subst e
    exact .inl ⟨Nat.le_refl _, hd H p⟩
/-- the list that a comprehension has made so far: i items, each as R says, the heap as I says -/
structure LcP (I : Hp → Prop) (R : Nat → V → Hp → Prop) (D : Addr) (i : Nat) (H : Hp) : Prop where
  inv : I H
  made : ∃ acc, H D = some (.lst acc) ∧ acc.length = i ∧ ∀ j y, acc[j]? = some y → R j y H
theorem LcP.start {I : Hp → Prop} {R : Nat → V → Hp → Prop} (h : I (upd H1 D (.lst []))) : LcP I R D 0 (upd H1 D (.lst [])) := ⟨h, [], upd_same, rfl, fun j y e => by simp at e⟩
theorem LcP.next {I : Hp → Prop} {R : Nat → V → Hp → Prop} {i : Nat} {y : V} {acc : List V} (hD : H1 D = some (.lst acc)) (hl : acc.length = i) (hi : I (upd H1 D (.lst (acc ++ [y])))) (hR : ∀ j z, acc[j]? = some z → R j z (upd H1 D (.lst (acc ++ [y])))) (hy : R i y (upd H1 D (.lst (acc ++ [y])))) :
    LcP I R D (i + 1) (upd H1 D (.lst (acc ++ [y]))) := by
  refine ⟨hi, acc ++ [y], upd_same, by simp [hl], fun j z e => ?_⟩
  by_cases hj : j < acc.length
  · rw [List.getElem?_append_left hj] at e
    exact hR j z e
  · rw [List.getElem?_append_right (by omega)] at e
    have h0 : j - acc.length = 0 := by
      cases q : j - acc.length with
      | zero => rfl
      | succ n => rw [q] at e; simp at e
    rw [h0] at e
    have e1 : y = z := by simpa using e
    have e2 : j = i := by omega
    rw [← e1, e2]
    exact hy
theorem lcStr {z : Str} {slot : Nat} (I : Hp → Prop) (R : Nat → V → Hp → Prop) (hz : z.cps.size ≤ 100000) (hw : ∀ c, wipe ((wipe σ vs).set slot (some c)) vs = wipe σ vs) (h0 : I (upd H1 D (.lst [])))
    (hs : ∀ i c, z.cps[i]? = some c → ∀ H acc, I H → H D = some (.lst acc) → acc.length = i → (∀ j y, acc[j]? = some y → R j y H) →
      te ((wipe σ vs).set slot (some (.str ⟨#[c]⟩))) H fun y H' => ∃ acc', H' D = some (.lst acc') ∧ acc'.length < sizeLine ∧ LcP I R D (i + 1) (upd H' D (.lst (acc' ++ [y]))))
    (k : ∀ H ys, I H → H D = some (.lst ys) → ys.length = z.cps.size → (∀ j y, ys[j]? = some y → R j y H) → Q (.ref D) H) : LcG (Its z) (gName slot) tYes te vs σ H1 Q D := by
  refine lc_str (LcP I R D) (.start h0) (fun i c H hc P => ?_) (fun H P => ?_)
  · obtain ⟨hI, acc, hD, hl, hR⟩ := P
    exact ⟨hw _, hs i c hc H acc hI hD hl hR⟩
  · obtain ⟨hI, acc, hD, hl, hR⟩ := P
    exact k H acc hI hD hl hR
theorem lcList {a : Addr} {xs : List V} {slot : Nat} (I : Hp → Prop) (R : Nat → V → Hp → Prop) (hw : ∀ c, wipe ((wipe σ vs).set slot (some c)) vs = wipe σ vs) (h0 : I (upd H1 D (.lst []))) (hS : ∀ H, I H → SqL K H a xs)
    (hs : ∀ i x, xs[i]? = some x → ∀ H acc, I H → H D = some (.lst acc) → acc.length = i → (∀ j y, acc[j]? = some y → R j y H) →
      te ((wipe σ vs).set slot (some x)) H fun y H' => ∃ acc', H' D = some (.lst acc') ∧ acc'.length < sizeLine ∧ LcP I R D (i + 1) (upd H' D (.lst (acc' ++ [y]))))
    (k : ∀ H ys, I H → H D = some (.lst ys) → ys.length = xs.length → (∀ j y, ys[j]? = some y → R j y H) → Q (.ref D) H) : LcG (Itl K a) (gName slot) tYes te vs σ H1 Q D := by
  refine lc_list (K := K) (a := a) (xs := xs) (LcP I R D) (.start h0) (fun i H _ P => hS H P.inv) (fun i x H hx P => ?_) (fun H P => ?_)
  · obtain ⟨hI, acc, hD, hl, hR⟩ := P
    exact ⟨hw _, hs i x hx H acc hI hD hl hR⟩
  · obtain ⟨hI, acc, hD, hl, hR⟩ := P
    exact k H acc hI hD hl hR
theorem lcTup {a : Addr} {xs : List V} {slot : Nat} (I : Hp → Prop) (R : Nat → V → Hp → Prop) (hw : ∀ c, wipe ((wipe σ vs).set slot (some c)) vs = wipe σ vs) (h0 : I (upd H1 D (.lst []))) (hS : ∀ H, I H → SqT K H a xs)
    (hs : ∀ i x, xs[i]? = some x → ∀ H acc, I H → H D = some (.lst acc) → acc.length = i → (∀ j y, acc[j]? = some y → R j y H) →
      te ((wipe σ vs).set slot (some x)) H fun y H' => ∃ acc', H' D = some (.lst acc') ∧ acc'.length < sizeLine ∧ LcP I R D (i + 1) (upd H' D (.lst (acc' ++ [y]))))
    (k : ∀ H ys, I H → H D = some (.lst ys) → ys.length = xs.length → (∀ j y, ys[j]? = some y → R j y H) → Q (.ref D) H) : LcG (Itt K a) (gName slot) tYes te vs σ H1 Q D := by
  refine lc_tup (K := K) (a := a) (xs := xs) (LcP I R D) (.start h0) (fun i H _ P => hS H P.inv) (fun i x H hx P => ?_) (fun H P => ?_)
  · obtain ⟨hI, acc, hD, hl, hR⟩ := P
    exact ⟨hw _, hs i x hx H acc hI hD hl hR⟩
  · obtain ⟨hI, acc, hD, hl, hR⟩ := P
    exact k H acc hI hD hl hR
theorem lcRng {n : Nat} {slot : Nat} (I : Hp → Prop) (R : Nat → V → Hp → Prop) (hw : ∀ c, wipe ((wipe σ vs).set slot (some c)) vs = wipe σ vs) (h0 : I (upd H1 D (.lst [])))
    (hs : ∀ i, i < n → ∀ H acc, I H → H D = some (.lst acc) → acc.length = i → (∀ j y, acc[j]? = some y → R j y H) →
      te ((wipe σ vs).set slot (some (.int (0 + i)))) H fun y H' => ∃ acc', H' D = some (.lst acc') ∧ acc'.length < sizeLine ∧ LcP I R D (i + 1) (upd H' D (.lst (acc' ++ [y]))))
    (k : ∀ H ys, I H → H D = some (.lst ys) → ys.length = n → (∀ j y, ys[j]? = some y → R j y H) → Q (.ref D) H) : LcG (Itr 0 n) (gName slot) tYes te vs σ H1 Q D := by
  refine lc_range (lo := 0) (n := n) (LcP I R D) (.start h0) (fun i H hx P => ?_) (fun H P => ?_)
  · obtain ⟨hI, acc, hD, hl, hR⟩ := P
    exact ⟨hw _, hs i hx H acc hI hD hl hR⟩
  · obtain ⟨hI, acc, hD, hl, hR⟩ := P
    exact k H acc hI hD hl hR
theorem lcAdd {I : Hp → Prop} {R : Nat → V → Hp → Prop} {i : Nat} {y : V} {acc : List V} (hD : H1 D = some (.lst acc)) (hl : acc.length = i) (hi : i ≤ 100000) (hI : I (upd H1 D (.lst (acc ++ [y])))) (hR : ∀ j z, acc[j]? = some z → R j z (upd H1 D (.lst (acc ++ [y])))) (hy : R i y (upd H1 D (.lst (acc ++ [y])))) :
    ∃ acc', H1 D = some (.lst acc') ∧ acc'.length < sizeLine ∧ LcP I R D (i + 1) (upd H1 D (.lst (acc' ++ [y]))) := ⟨acc, hD, sz6' (by omega), .next hD hl hI hR hy⟩
end

theorem at_ex {α : Type} {xs : List α} {i : Int} (h0 : 0 ≤ i) (h1 : i < xs.length) : ∃ v, atI xs i = some v ∧ v ∈ xs := by
  have h : i.toNat < xs.length := by omega
  refine ⟨xs[i.toNat], ?_, List.getElem_mem h⟩
  have e : ((i.toNat : Nat) : Int) = i := by omega
  have q := atI_nat (xs := xs) (j := i.toNat) (List.getElem?_eq_getElem h)
  rw [e] at q
  exact q
theorem join_cps : ∀ ys : List Str, (Str.join ⟨#[]⟩ ys).cps.toList = (ys.map fun y => y.cps.toList).flatten
  | [] => rfl
  | [x] => by
    show x.cps.toList = _
    simp
  | x :: y :: r => by
    show ((x.cps ++ #[]) ++ (Str.join ⟨#[]⟩ (y :: r)).cps).toList = _
    rw [Array.toList_append, join_cps (y :: r)]
    simp
/-- texts of one sign, joined -/
theorem join_ones {ys : List V} {P : Nat → Prop} (h : ∀ (j : Nat) y, ys[j]? = some y → ∃ c, P c ∧ y = .str ⟨#[c]⟩) : ∃ cs : List Nat, cs.length = ys.length ∧ (∀ c ∈ cs, P c) ∧ ys = (cs.map fun c => (⟨#[c]⟩ : Str)).map V.str := by
  induction ys with
  | nil => exact ⟨[], rfl, List.forall_mem_nil _, rfl⟩
  | cons y r ih =>
    obtain ⟨c, hc, rfl⟩ := h 0 y rfl
    obtain ⟨cs, h1, h2, h3⟩ := ih fun j z e => h (j + 1) z e
    refine ⟨c :: cs, congrArg Nat.succ h1, fun d hd => ?_, ?_⟩
    · rcases List.mem_cons.mp hd with e | hd
      · rw [e]; exact hc
      · exact h2 d hd
    · rw [h3]
      rfl
theorem ones_cps (cs : List Nat) : (Str.join ⟨#[]⟩ (cs.map fun c => (⟨#[c]⟩ : Str))).cps.toList = cs := by
  rw [join_cps]
  induction cs with
  | nil => rfl
  | cons c r ih =>
    simp only [List.map_cons, List.flatten_cons] at ih ⊢
    rw [ih]
    rfl
theorem ones_sum (cs : List Nat) : ((cs.map fun c => (⟨#[c]⟩ : Str)).map (·.length)).sum = cs.length := by
  induction cs with
  | nil => rfl
  | cons c r ih =>
    simp only [List.map_cons, List.sum_cons] at ih ⊢
    rw [ih]
    show 1 + r.length = r.length + 1
    omega
theorem app_len (x y : Str) : (x ++ y).length = x.length + y.length := by
  show (x.cps ++ y.cps).size = x.cps.size + y.cps.size
  exact Array.size_append
theorem rep_len {u z : Str} {n : Nat} (h : u.cps.toList = (List.replicate n z.cps.toList).flatten) : u.length = n * z.length := by
  show u.cps.size = n * z.cps.size
  rw [← Array.length_toList, h, List.length_flatten, List.map_replicate, List.sum_replicate_nat, Array.length_toList]
end Ver
namespace Ver
open PySem PySem.Spec PyProof.Rows L2
def top (i : Nat) : Stmt := PySem.Challenge.pw_thankways_k03_names_of_any_kind.main.body.getD i (.Pass ⟨0, 0, 0, 0⟩)
abbrev s_is_name : Stmt := top 3
abbrev s_Lcell : Stmt := top 5
abbrev s_Lpool : Stmt := top 6
abbrev s_Ltake : Stmt := top 7
abbrev s_Lis_name : Stmt := top 8
abbrev s_Ltexts : Stmt := top 9
abbrev s_Lright : Stmt := top 10
abbrev s_law : Stmt := top 11
theorem sc_is_name : FnScope ["thing", "sign"] ["thing"] (defScope s_is_name) := ⟨rfl, rfl, rfl, by decide +kernel, rfl, by decide +kernel, by decide +kernel⟩
theorem sc_Lcell : FnScope ["_law_script", "_law_k", "_law_state", "_law_cell_here"] ["_law_script", "_law_k"] (defScope s_Lcell) := ⟨rfl, rfl, rfl, by decide +kernel, rfl, by decide +kernel, by decide +kernel⟩
theorem sc_Lpool : FnScope ["_law_cell_here", "_law_digits"] ["_law_cell_here"] (defScope s_Lpool) := ⟨rfl, rfl, rfl, by decide +kernel, rfl, by decide +kernel, by decide +kernel⟩
theorem sc_Ltake : FnScope ["_law_pool_here", "_law_many", "_law_state", "_law_digit"] ["_law_pool_here", "_law_many"] (defScope s_Ltake) := ⟨rfl, rfl, rfl, by decide +kernel, rfl, by decide +kernel, by decide +kernel⟩
theorem sc_Lis_name : FnScope ["_law_matter", "_law_sign"] ["_law_matter"] (defScope s_Lis_name) := ⟨rfl, rfl, rfl, by decide +kernel, rfl, by decide +kernel, by decide +kernel⟩
theorem sc_Ltexts : FnScope ["_law_pool_here", "_law_letters", "_law_name", "_law_at", "_law_sign", "_law_some", "_law_k"] ["_law_pool_here"] (defScope s_Ltexts) := ⟨rfl, rfl, rfl, by decide +kernel, rfl, by decide +kernel, by decide +kernel⟩
theorem sc_Lright : FnScope ["_law_matter", "_law_due", "_law_told"] ["_law_matter"] (defScope s_Lright) := ⟨rfl, rfl, rfl, by decide +kernel, rfl, by decide +kernel, by decide +kernel⟩
theorem sc_law : FnScope ["_law_script", "_law_odd", "_law_k", "_law_pool_here", "_law_matter"] ["_law_script"] (defScope s_law) := ⟨rfl, rfl, rfl, by decide +kernel, rfl, by decide +kernel, by decide +kernel⟩
structure Adr where
  f_is_name : Addr
  d_is_name : FuncData
  f_Lcell : Addr
  d_Lcell : FuncData
  f_Lpool : Addr
  d_Lpool : FuncData
  f_Ltake : Addr
  d_Ltake : FuncData
  f_Lis_name : Addr
  d_Lis_name : FuncData
  f_Ltexts : Addr
  d_Ltexts : FuncData
  f_Lright : Addr
  d_Lright : FuncData
  t_CHEST : Tok
  t_MOST_LETTERS : Tok
/-- what the top has left -/
structure Tx (K : PySem.W.Frag) (mg : Str → Option Value) (A : Adr) : Prop where
  c_CHEST : mg "CHEST" = some (.str "chest" A.t_CHEST)
  c_MOST_LETTERS : mg "MOST_LETTERS" = some (.int 8 A.t_MOST_LETTERS)
  m_abs : mg "abs" = none
  m_all : mg "all" = none
  m_bool : mg "bool" = none
  m_divmod : mg "divmod" = none
  m_isinstance : mg "isinstance" = none
  m_len : mg "len" = none
  m_max : mg "max" = none
  m_min : mg "min" = none
  m_range : mg "range" = none
  m_str : mg "str" = none
  F_is_name : Fun K "is_name" "is_name" s_is_name A.f_is_name A.d_is_name
  g_is_name : mg "is_name" = some (.ref A.f_is_name)
  b_is_name : Binds K A.d_is_name ["thing"] []
  F_Lcell : Fun K "_law_cell" "_law_cell" s_Lcell A.f_Lcell A.d_Lcell
  g_Lcell : mg "_law_cell" = some (.ref A.f_Lcell)
  b_Lcell : Binds K A.d_Lcell ["_law_script", "_law_k"] []
  F_Lpool : Fun K "_law_pool" "_law_pool" s_Lpool A.f_Lpool A.d_Lpool
  g_Lpool : mg "_law_pool" = some (.ref A.f_Lpool)
  b_Lpool : Binds K A.d_Lpool ["_law_cell_here"] []
  F_Ltake : Fun K "_law_take" "_law_take" s_Ltake A.f_Ltake A.d_Ltake
  g_Ltake : mg "_law_take" = some (.ref A.f_Ltake)
  b_Ltake : Binds K A.d_Ltake ["_law_pool_here", "_law_many"] []
  F_Lis_name : Fun K "_law_is_name" "_law_is_name" s_Lis_name A.f_Lis_name A.d_Lis_name
  g_Lis_name : mg "_law_is_name" = some (.ref A.f_Lis_name)
  b_Lis_name : Binds K A.d_Lis_name ["_law_matter"] []
  F_Ltexts : Fun K "_law_texts" "_law_texts" s_Ltexts A.f_Ltexts A.d_Ltexts
  g_Ltexts : mg "_law_texts" = some (.ref A.f_Ltexts)
  b_Ltexts : Binds K A.d_Ltexts ["_law_pool_here"] []
  F_Lright : Fun K "_law_right" "_law_right" s_Lright A.f_Lright A.d_Lright
  g_Lright : mg "_law_right" = some (.ref A.f_Lright)
  b_Lright : Binds K A.d_Lright ["_law_matter"] []
  kb0_is_name_thing : KBn K A.d_is_name ["thing"] 0 ["thing"] (fun _ zs => zs) (fun _ zs => zs)
local macro_rules | `(tactic| walk_at "w") => `(tactic| first
  | with_reducible refine wSeq ?_
  | with_reducible refine wAsg ?_
  | with_reducible refine wOp ?_
  | with_reducible refine wVar (by with_unfolding_all exact rfl) ?_
  | with_reducible refine wC ?_
  | with_reducible refine wRet ?_
  | with_reducible refine wIfS ?_
  | with_reducible refine wI0 ?_
  | with_reducible refine wCons ?_
  | with_reducible refine wNil ?_
  | with_reducible refine wCB ?_
  | with_reducible refine wCall ?_
  | with_reducible refine wCallN ?_
  | with_reducible refine wTest ?_
  | with_reducible refine wB ?_
  | with_reducible refine exBl ?_
  | with_reducible refine exInt ?_
  | with_reducible refine exI1 ?_
  | with_reducible refine exI2 ?_
  | with_reducible refine exStr ?_
  | with_reducible refine wSlS (by with_unfolding_all walk_at "sl") ?_
  | with_reducible refine anSum (by with_unfolding_all walk_at "sl") ?_
  | with_reducible refine exSS ?_
  | with_reducible refine exCS ?_
  | with_reducible refine wLc ?_
  | with_reducible refine wFor ?_
  | with_reducible refine wIList ?_
  | with_reducible refine wITup ?_
  | with_reducible refine wIStr ?_
  | with_reducible refine wIRng1 ?_
  | with_reducible refine anSz (by with_unfolding_all exact Nat.le_of_ble_eq_true rfl) ?_
  | with_reducible refine anStr ?_
  | with_reducible refine wName ?_
  | with_reducible refine iteT ?_
  | with_reducible refine iteF ?_
  | with_reducible refine iteNT ?_
  | with_reducible refine iteNF ?_
  | with_reducible refine wIsiS ?_
  | with_reducible refine wIsiB ?_
  | with_reducible refine wAnd ?_
  | with_reducible refine wOr ?_
  | with_reducible refine wNot ?_
  | with_reducible refine wAndV ?_
  | with_reducible refine wOrV ?_
  | with_reducible refine wNotV ?_
  | with_reducible refine wIf ?_
  | with_reducible refine wChain ?_
  | with_reducible refine wTup ?_
  | with_reducible refine wLst ?_
  | with_reducible refine wSl ?_
  | with_reducible refine wDnew ?_
  | with_reducible refine wPart ?_
  | with_reducible refine wNoPart ?_
  | with_reducible refine wBM ?_
  | with_reducible refine wBM0 ?_
  | with_reducible refine wM0 ?_
  | with_reducible refine wM1 ?_
  | with_reducible refine wUn ?_
  | with_reducible refine wU ?_
  | with_reducible refine wDrop ?_
  | with_reducible refine wNext ?_
  | with_reducible refine wPar ?_
  | with_reducible refine exTwo ?_
  | with_reducible refine wSub ?_
  | with_reducible refine wGCons ?_
  | with_reducible refine wGNil ?_
  | ((with_reducible refine wEq ?h1 ?_); (case h1 => exact rfl))
  | ((with_reducible refine wNe ?h1 ?_); (case h1 => exact rfl))
  | with_reducible refine wIxL (SqL.of (by with_unfolding_all assumption)) (by with_unfolding_all exact rfl) ?_
  | with_reducible refine wIxL (SqL.of upd_same) (by with_unfolding_all exact rfl) ?_
  | with_reducible refine wSetL upd_same (by with_unfolding_all exact rfl) ?_
  | with_reducible refine wSetL (by with_unfolding_all assumption) (by with_unfolding_all exact rfl) ?_
  | ((with_reducible refine wI ?h1 ?_); (case h1 => walk_at "wc"))
  | dsimp only [])
local macro_rules | `(tactic| walk_at "ww") => `(tactic| repeat (walk_at "w"))
local macro_rules | `(tactic| walk_at "wc") => `(tactic| first
  | exact .inl ⟨by omega, by omega⟩
  | exact .inr ⟨by omega, by omega⟩
  | exact ⟨by omega, by omega⟩
  | exact ⟨by decide, by decide⟩
  | exact ⟨by decide, by decide, by decide⟩
  | (show (0 : Int) < _; omega)
  | (show _ ≠ (0 : Int); omega))
local macro_rules | `(tactic| walk_at "sl") => `(tactic| (refine sz6 ?_; (try simp only [app_len]); omega))
local macro_rules | `(tactic| walk_at "lk") => `(tactic| first | assumption | exact Ex.get (by assumption) (by walk_at "lk"))
local macro_rules | `(tactic| walk_at "things") => `(tactic| ((repeat' (first | exact List.forall_mem_nil _ | refine List.forall_mem_append.mpr ⟨?_, ?_⟩ | refine List.forall_mem_cons.mpr ⟨?_, ?_⟩)) <;> first
  | exact Thing.n | exact Thing.b | exact Thing.i | exact Thing.s (by decide +kernel) | exact Thing.t (by walk_at "lk") | exact Thing.l (by walk_at "lk") | exact Thing.d (by walk_at "lk")))
section
variable {P : Program} {w : World} {K : PySem.W.Frag} {mg : Str → Option Value} {base : Heap} {A : Adr}
/-- a pool: a state, digits, how many were taken -/
def Pool (H : Hp) (p : Addr) : Prop := ∃ s g n : Int, H p = some (.lst [.int s, .int g, .int n]) ∧ 0 ≤ s ∧ s < 2147483423 ∧ 0 ≤ g
theorem Pool.ne {H : Hp} {p q : Addr} (h : Pool H p) (hq : H q = none) : q ≠ p := fun e => by
  obtain ⟨_, _, _, h, _⟩ := h
  rw [← e, hq] at h
  cases h
theorem Pool.upd {H : Hp} {p q : Addr} {o : HO} (h : Pool H p) (n : q ≠ p) : Pool (upd H q o) p := by
  obtain ⟨s, g, m, h, r⟩ := h
  exact ⟨s, g, m, (upd_ne n.symm).trans h, r⟩
theorem Pool.ex {H H' : Hp} {p : Addr} (h : Pool H p) (e : Ex H H') : Pool H' p := by
  obtain ⟨s, g, m, h, r⟩ := h
  exact ⟨s, g, m, e _ _ h, r⟩
def spTake : Sp := fun vs H Q _ => ∃ (p : Addr) (m : Int), vs = [.ref p, .int m] ∧ Pool H p ∧ 0 < m ∧ m < 1073741824 ∧ ∀ d H', 0 ≤ d → d < m → Kp p H H' → Pool H' p → Q (.int d) H'
def spPool : Sp := fun vs H Q _ => ∃ c : Int, vs = [.int c] ∧ ∀ p H', H p = none → Ex H H' → Pool H' p → Q (.ref p) H'
def spCell (K : PySem.W.Frag) : Sp := fun vs H Q _ => ∃ (a : Addr) (ns : List Int) (k : Int), vs = [.ref a, .int k] ∧ SqL K H a (ns.map V.int) ∧ ns.length ≤ 63 ∧ 0 ≤ k ∧ k ≤ 63 ∧ ∀ c H', Ex H H' → Q (.int c) H'
theorem ok_Ltake (T : Tx K mg A) : FnOk P w K mg base CX0 1 A.f_Ltake A.d_Ltake ["_law_pool_here", "_law_many"] spTake := by
  refine T.F_Ltake.ok sc_Ltake (fun vs H Q E h => ?_) (fun cdv A' outer s H vs Q E hr h => ?_)
  · obtain ⟨p, m, rfl, _⟩ := h
    rfl
  · obtain ⟨p, m, rfl, ⟨s, g, n, hp, hs0, hs1, hg⟩, hm0, hm1, k⟩ := h
    refine ⟨_, (pss_cons (ps_asg (pe_op op_add (pe_ix ix_list (pv 0) pe_int (fun _ _ => rfl)) pe_int) (pg_sub (pv 0) pe_int set_list))
    (pss_cons (ps_set (i := 2) sc_Ltake.nd rfl (Or.inl rfl) (pe_ix ix_list (pv 0) pe_int (fun _ _ => rfl)))
    (pss_cons (ps_asg (pe_op op_mod (pe_op op_add (pe_op op_mul (pv 2) (pe_op op_add (pe_op op_mod (pv 2) pe_int) pe_int)) (pe_op op_mul pe_int (pe_ix ix_list (pv 0) pe_int (fun _ _ => rfl)))) pe_int) (pg_sub (pv 0) pe_int set_list))
    (pss_cons (ps_if (pt_cmpR op_gt (pe_ix ix_list (pv 0) pe_int (fun _ _ => rfl)) pe_int (nomark _))
    (pss_cons (ps_asg (pe_callB call_divmod (by rfl) T.m_divmod (by decide +kernel) (pa_cons (pe_ix ix_list (pv 0) pe_int (fun _ _ => rfl)) (pa_cons (pv 1) pa_nil))) (pg_tup rfl (pgs_cons (pg_sub (pv 0) pe_int set_list) (pgs_cons (pg_name (i := 3) sc_Ltake.nd rfl (Or.inl rfl)) pgs_nil))))
      (pss_one (ps_ret (pv 3))))
    pss_nil)
    (pss_one (ps_ret (pe_op op_mod (pe_op op_fdiv (pe_ix ix_list (pv 0) pe_int (fun _ _ => rfl)) pe_int) (pv 1)))))))), ?_⟩
    walk_at "ww"
    have q1 : ∀ x : Int, 0 ≤ x % 2147483423 ∧ x % 2147483423 < 2147483423 := fun x => by omega
    have keep : ∀ (o : HO) (H1 : Hp), Kp p H H1 → Kp p H (upd H1 p o) := fun o H1 e => e.trans Kp.set
    refine ite2 (fun c => ?_) (fun c => ?_)
    · walk_at "ww"
      refine ⟨⟨hm0, hm1⟩, fun t nt => ?_⟩
      have ntp : p ≠ t := fun e => by
        rw [← e, upd_same] at nt
        cases nt
      refine wGTup (SqT.of upd_same) rfl ?_
      walk_at "ww"
      refine wSetL ((upd_ne ntp).trans upd_same) rfl ?_
      walk_at "ww"
      refine k _ _ (Int.emod_nonneg _ (by omega)) (Int.emod_lt_of_pos _ hm0) ?_ ⟨_, _, _, upd_same, (q1 _).1, (q1 _).2, Int.ediv_nonneg hg (by omega)⟩
      refine Kp.trans (Kp.trans (keep _ _ Kp.set) (Kp.new nt)) Kp.set
    · walk_at "ww"
      exact k _ _ (Int.emod_nonneg _ (by omega)) (Int.emod_lt_of_pos _ hm0) (keep _ _ Kp.set) ⟨_, _, _, upd_same, (q1 _).1, (q1 _).2, hg⟩
theorem ok_Lpool (T : Tx K mg A) : FnOk P w K mg base CX0 1 A.f_Lpool A.d_Lpool ["_law_cell_here"] spPool := by
  refine T.F_Lpool.ok sc_Lpool (fun vs H Q E h => ?_) (fun cdv A' outer s H vs Q E hr h => ?_)
  · obtain ⟨c, rfl, _⟩ := h
    rfl
  · obtain ⟨c, rfl, k⟩ := h
    refine ⟨_, (pss_cons (ps_set (i := 1) sc_Lpool.nd rfl (Or.inl rfl) pe_int)
    (pss_cons (ps_if (PW.pt (pw_or (pt_cmpR op_lt (pv 0) pe_int (nomark _)) (pw_or1 (pt_cmpR op_ge (pv 0) (pe_op op_pow pe_int pe_int) (nomark _)))))
    (pss_one (ps_set (i := 1) sc_Lpool.nd rfl (Or.inl rfl) (pe_callB call_abs (by rfl) T.m_abs (by decide +kernel) (pa_cons (pv 0) pa_nil))))
    pss_nil)
    (pss_one (ps_ret (pe_lst (pa_cons (pe_op op_mod (pv 0) pe_int) (pa_cons (pv 1) (pa_cons pe_int pa_nil)))))))), ?_⟩
    have fin : ∀ g : Int, 0 ≤ g → ∀ p, H p = none → Q (.ref p) (upd H p (.lst [.int (c % 2147483423), .int g, .int 0])) := fun g hg p hp =>
      k p _ hp (Ex.new hp) ⟨_, _, _, upd_same, by omega, by omega, hg⟩
    walk_at "ww"
    refine ite2 (fun c1 => ?_) (fun c1 => ?_)
    · walk_at "ww"
      exact fun p hp => fin _ (by split <;> omega) p hp
    · walk_at "ww"
      refine ite2 (fun c2 => ?_) (fun c2 => ?_)
      · walk_at "ww"
        exact fun p hp => fin _ (by split <;> omega) p hp
      · walk_at "ww"
        exact fun p hp => fin _ (by omega) p hp
theorem ok_Lcell (T : Tx K mg A) : FnOk P w K mg base CX0 1 A.f_Lcell A.d_Lcell ["_law_script", "_law_k"] (spCell K) := by
  refine T.F_Lcell.ok sc_Lcell (fun vs H Q E h => ?_) (fun cdv A' outer s H vs Q E hr h => ?_)
  · obtain ⟨a, ns, c, rfl, _⟩ := h
    rfl
  · obtain ⟨a, ns, c, rfl, hS, hlen, h0, h63, k⟩ := h
    refine ⟨_, (pss_cons (ps_if (pt_cmpR op_lt (pv 1) (pe_callB call_len (by rfl) T.m_len (by decide +kernel) (pa_cons (pv 0) pa_nil)) (nomark _))
    (pss_one (ps_ret (pe_ix ix_list (pv 0) (pv 1) (fun _ _ => rfl))))
    pss_nil)
    (pss_cons (ps_set (i := 2) sc_Lcell.nd rfl (Or.inl rfl) (pe_op op_mod (pe_op op_mul pe_int (pe_op op_add (pe_op op_add (pe_op op_mul (pv 1) (pv 1)) (pe_op op_mul pe_int (pv 1))) pe_int)) pe_int))
    (pss_cons (ps_for PassesOwn.never rfl (pi_list (pe_slice sl_list (pv 0) po_none (po_some pe_int))) (pg_name (i := 3) sc_Lcell.nd rfl (Or.inl rfl))
    (pss_one (ps_set (i := 2) sc_Lcell.nd rfl (Or.inl rfl) (pe_op op_mod (pe_op op_add (pe_op op_mul (pv 2) pe_int) (pv 3)) pe_int))))
    (pss_one (ps_ret (pv 2)))))), ?_⟩
    walk_at "ww"
    refine wLenL hS ?_
    walk_at "ww"
    refine ite2 (fun c1 => ?_) (fun c1 => ?_)
    · walk_at "ww"
      have h1 : c.toNat < ns.length := by
        have := of_decide_eq_true c1
        rw [List.length_map] at this
        omega
      refine wIxL hS (at_of (j := c.toNat) (by omega) (by rw [List.getElem?_map, List.getElem?_eq_getElem h1]; rfl)) ?_
      exact k _ _ (Ex.refl H)
    · walk_at "ww"
      refine wSlL hS fun l hl => ?_
      walk_at "ww"
      refine exSq (SqL.of upd_same) ?_
      have el : cutV (ns.map V.int) none (some 3) = (ns.take 3).map V.int := by
        unfold cutV
        rw [HT.sIx_none, show HT.sIx (ns.map V.int).length (ns.map V.int).length (some 3) = min 3 (ns.map V.int).length from HT.sIx_nat _ _ 3, List.map_take]
        simp
      rw [el]
      refine for_list (K := K) (a := l) (xs := (ns.take 3).map V.int) (fun i σ H2 => ∃ (s : Int) (v : Option V), σ = [some (.ref a), some (.int c), some (.int s), v] ∧ 0 ≤ s ∧ s < 2147483423 ∧ Ex (upd H l (.lst ((ns.take 3).map V.int))) H2)
        ⟨_, none, rfl, by omega, by omega, Ex.refl _⟩ (fun i σ H2 _ ⟨_, _, _, _, _, e⟩ => SqL.of (e _ _ upd_same)) ?_ ?_
      · rintro i y σ H2 hi ⟨s, v, rfl, hs0, hs1, e⟩
        obtain ⟨z, rfl⟩ : ∃ z, y = V.int z := by
          rw [List.getElem?_map] at hi
          obtain ⟨z, _, hz⟩ := Option.map_eq_some_iff.mp hi
          exact ⟨z, hz.symm⟩
        walk_at "ww"
        exact ⟨_, _, rfl, by omega, by omega, e⟩
      · rintro σ H2 ⟨s, v, rfl, hs0, hs1, e⟩
        walk_at "ww"
        exact k _ _ ((Ex.new hl).trans e)
def nameS (z : Str) : Bool := decide (1 ≤ z.length) && decide (z.length ≤ 8) && !decide (z = ("chest" : Str)) && z.cps.toList.all fun c => decide (97 ≤ c ∧ c ≤ 122)
def nameV : V → Bool
  | .str z => nameS z
  | _ => false
def spName (K : PySem.W.Frag) : Sp := fun vs H Q _ => ∃ v, vs = [v] ∧ Thing K H v ∧ ∀ H', Ex H H' → Q (.bl (nameV v)) H'
theorem map_bl {ys : List V} {z : Str} {f : Nat → Bool} (hl : ys.length = z.cps.size) (h : ∀ (j : Nat) y, ys[j]? = some y → ∃ c, z.cps[j]? = some c ∧ y = .bl (f c)) : ys = (z.cps.toList.map f).map V.bl := by
  refine List.ext_getElem? fun j => ?_
  cases e : ys[j]? with
  | none =>
    rw [List.getElem?_eq_none_iff] at e
    rw [List.map_map, List.getElem?_map, List.getElem?_eq_none (by rw [Array.length_toList]; omega)]
    rfl
  | some y =>
    obtain ⟨c, hc, rfl⟩ := h j y e
    rw [List.map_map, List.getElem?_map, Array.getElem?_toList, hc]
    rfl
theorem lt_one (a c : Nat) : decide (([c] : List Nat) < [a]) = decide (c < a) := by
  by_cases h : c < a
  · rw [decide_eq_true h, decide_eq_true]
    exact List.Lex.rel h
  · rw [decide_eq_false h, decide_eq_false]
    intro q
    cases q with
    | rel q => exact h q
    | cons q => cases q
theorem name_chest {z : Str} (h : decide (V.str z = V.str ("chest" : Str)) = true) : nameV (.str z) = false := by
  have e : z = ("chest" : Str) := V.str.inj (of_decide_eq_true h)
  show nameS z = false
  unfold nameS
  rw [decide_eq_true e]
  simp
theorem name_long {z : Str} (h : ¬ z.length ≤ 8) : nameV (.str z) = false := by
  show nameS z = false
  unfold nameS
  rw [decide_eq_false h]
  simp
theorem name_short {z : Str} (h : ¬ 1 ≤ z.length) : nameV (.str z) = false := by
  show nameS z = false
  unfold nameS
  rw [decide_eq_false h]
  simp
theorem name_all {z : Str} (h1 : 1 ≤ z.length) (h2 : z.length ≤ 8) (h3 : ¬ decide (V.str z = V.str ("chest" : Str)) = true) : nameV (.str z) = z.cps.toList.all fun c => decide (97 ≤ c ∧ c ≤ 122) := by
  have h4 : ¬ z = ("chest" : Str) := fun e => h3 (decide_eq_true (by rw [e]))
  show nameS z = _
  unfold nameS
  rw [decide_eq_true h1, decide_eq_true h2, decide_eq_false h4]
  simp
theorem ok_is_name (T : Tx K mg A) : FnOk P w K mg base CX0 1 A.f_is_name A.d_is_name ["thing"] (spName K) := by
  refine T.F_is_name.ok sc_is_name (fun vs H Q E h => ?_) (fun cdv A' outer s H vs Q E hr h => ?_)
  · obtain ⟨v, rfl, _⟩ := h
    rfl
  · obtain ⟨v, rfl, ⟨⟨n, ty⟩, sz⟩, k⟩ := h
    refine ⟨_, (pss_cons (ps_if (PW.pt (pw_or (pt_not (pt_val (pe_callB call_isi (by rfl) T.m_isinstance (by decide +kernel) (pa_cons (pv 0) (pa_cons (pe_bltn (v := .ty "str") (by rfl) T.m_str (by decide +kernel) rfl) pa_nil))))) (pw_or1 (pt_cmpR op_eq (pv 0) (pe_glob (v := .str "chest") rfl T.c_CHEST ⟨_, rfl⟩) (nomark _)))))
    (pss_one (ps_ret pe_bl))
    pss_nil)
    (pss_cons (ps_if (pt_not (pt_chain op_le op_le pe_int (pe_callB call_len (by rfl) T.m_len (by decide +kernel) (pa_cons (pv 0) pa_nil)) (pe_glob (v := .int 8) rfl T.c_MOST_LETTERS ⟨_, rfl⟩)))
    (pss_one (ps_ret pe_bl))
    pss_nil)
    (pss_one (ps_ret (pe_callB (cr_all rfl) (by rfl) T.m_all (by decide +kernel) (pa_cons (pe_lc rfl sc_is_name.nd (pi_str (pv 0)) (blkOk_by (own := [("sign", 1)]) (N := ["thing", "sign"]) (sc := defScope s_is_name) (by decide +kernel)) (fun _ _ _ _ _ => (pg_name (i := 1) sc_is_name.nd rfl (Or.inl rfl))) (fun _ _ _ _ _ => pts_nil) (fun _ _ _ _ _ => (pe_chain op_le_str op_le_str pe_str (pv 1) pe_str))) pa_nil)))))), ?_⟩
    walk_at "ww"
    by_cases hv : isStr v = true
    · obtain ⟨z, rfl⟩ : ∃ z, v = .str z := by
        cases v <;> first | exact ⟨_, rfl⟩ | cases hv
      have hz : z.length ≤ sizeLine := sz6 (by have := sz z rfl; omega)
      walk_at "ww"
      refine ite2 (fun c1 => ?_) (fun c1 => ?_)
      · walk_at "ww"
        rw [show false = nameV (.str z) from (name_chest c1).symm]
        exact k H (Ex.refl H)
      · walk_at "ww"
        refine wLenS hz ?_
        walk_at "ww"
        refine ite2 (fun c2 => ?_) (fun c2 => ?_)
        · walk_at "ww"
          refine ite2 (fun c3 => ?_) (fun c3 => ?_)
          · walk_at "ww"
            rw [show false = nameV (.str z) from (name_long (by simp at c3; omega)).symm]
            exact k H (Ex.refl H)
          · walk_at "ww"
            intro D hD
            refine lcStr (fun H' => Ex H H') (fun i y _ => ∃ c, z.cps[i]? = some c ∧ y = .bl (decide (97 ≤ c ∧ c ≤ 122))) (by have := sz z rfl; show z.length ≤ _; omega) (fun _ => rfl) (Ex.new hD) (fun i c hc H' acc e hD' hl hR => ?_) (fun H' ys e hD' hl hR => ?_)
            · have hi : i ≤ 100000 := by
                have h1 := (Array.getElem?_eq_some_iff.mp hc).1
                have h2 : z.cps.size ≤ 1000 := sz z rfl
                omega
              have ea : (("a" : Str)).cps.toList = [97] := by decide +kernel
              have ez : (("z" : Str)).cps.toList = [122] := by decide +kernel
              walk_at "ww"
              rw [ea, lt_one]
              refine ite2 (fun d1 => ?_) (fun d1 => ?_)
              · walk_at "ww"
                refine lcAdd hD' hl hi (e.mut hD) hR ⟨c, hc, ?_⟩
                rw [ez]
                show V.bl (!decide (([122] : List Nat) < [c])) = _
                rw [lt_one]
                simp only [Bool.not_eq_true', decide_eq_false_iff_not] at d1
                congr 1
                rw [Bool.eq_iff_iff]
                simp
                omega
              · refine lcAdd hD' hl hi (e.mut hD) hR ⟨c, hc, ?_⟩
                simp only [Bool.not_eq_true', decide_eq_false_iff_not, Classical.not_not] at d1
                rw [decide_eq_false (by omega)]
            · have em := map_bl hl hR
              subst em
              refine wAll (SqL.of hD') ?_
              rw [name_all (by have := of_decide_eq_true c2; omega) (by simp at c3; omega) c1] at k
              rw [List.all_map] at *
              exact k H' e
        · walk_at "ww"
          rw [show false = nameV (.str z) from (name_short (by simp at c2; omega)).symm]
          exact k H (Ex.refl H)
    · have hf : isStr v = false := by simpa using hv
      refine wIsi ty (ty.str_is.trans (by rw [hf])) ?_
      walk_at "ww"
      have e : nameV v = false := by
        cases v <;> first | rfl | cases hf
      rw [← e]
      exact k H (Ex.refl H)
theorem letters_in (c : Nat) : decide (c ∈ (("abcdefghijklmnopqrstuvwxyz" : Str)).cps.toList) = decide (97 ≤ c ∧ c ≤ 122) := by
  have e : (("abcdefghijklmnopqrstuvwxyz" : Str)).cps.toList = (List.range 26).map (· + 97) := by decide +kernel
  rw [e, Bool.eq_iff_iff]
  simp only [decide_eq_true_eq, List.mem_map, List.mem_range]
  constructor
  · rintro ⟨a, h, rfl⟩
    omega
  · intro h
    exact ⟨c - 97, by omega, by omega⟩
theorem ok_Lis_name (T : Tx K mg A) : FnOk P w K mg base CX0 1 A.f_Lis_name A.d_Lis_name ["_law_matter"] (spName K) := by
  refine T.F_Lis_name.ok sc_Lis_name (fun vs H Q E h => ?_) (fun cdv A' outer s H vs Q E hr h => ?_)
  · obtain ⟨v, rfl, _⟩ := h
    rfl
  · obtain ⟨v, rfl, ⟨⟨n, ty⟩, sz⟩, k⟩ := h
    refine ⟨_, (pss_cons (ps_if (PW.pt (pw_or (pt_not (pt_val (pe_callB call_isi (by rfl) T.m_isinstance (by decide +kernel) (pa_cons (pv 0) (pa_cons (pe_bltn (v := .ty "str") (by rfl) T.m_str (by decide +kernel) rfl) pa_nil))))) (pw_or (pt_not (pt_chain op_lt op_lt pe_int (pe_callB call_len (by rfl) T.m_len (by decide +kernel) (pa_cons (pv 0) pa_nil)) pe_int)) (pw_or1 (pt_cmpR op_eq (pv 0) pe_str (nomark _))))))
    (pss_one (ps_ret pe_bl))
    pss_nil)
    (pss_one (ps_ret (pe_callB (cr_all rfl) (by rfl) T.m_all (by decide +kernel) (pa_cons (pe_lc rfl sc_Lis_name.nd (pi_str (pv 0)) (blkOk_by (own := [("_law_sign", 1)]) (N := ["_law_matter", "_law_sign"]) (sc := defScope s_Lis_name) (by decide +kernel)) (fun _ _ _ _ _ => (pg_name (i := 1) sc_Lis_name.nd rfl (Or.inl rfl))) (fun _ _ _ _ _ => pts_nil) (fun _ _ _ _ _ => (pe_cmpR op_in_sign (pv 1) pe_str (by rfl)))) pa_nil))))), ?_⟩
    walk_at "ww"
    by_cases hv : isStr v = true
    · obtain ⟨z, rfl⟩ : ∃ z, v = .str z := by
        cases v <;> first | exact ⟨_, rfl⟩ | cases hv
      have hz : z.length ≤ sizeLine := sz6 (by have := sz z rfl; omega)
      walk_at "ww"
      refine wLenS hz ?_
      walk_at "ww"
      refine ite2 (fun c2 => ?_) (fun c2 => ?_)
      · walk_at "ww"
        refine ite2 (fun c3 => ?_) (fun c3 => ?_)
        · walk_at "ww"
          rw [show false = nameV (.str z) from (name_long (by simp at c3; omega)).symm]
          exact k H (Ex.refl H)
        · walk_at "ww"
          refine ite2 (fun c1 => ?_) (fun c1 => ?_)
          · walk_at "ww"
            rw [show false = nameV (.str z) from (name_chest c1).symm]
            exact k H (Ex.refl H)
          · walk_at "ww"
            intro D hD
            refine lcStr (fun H' => Ex H H') (fun i y _ => ∃ c, z.cps[i]? = some c ∧ y = .bl (decide (97 ≤ c ∧ c ≤ 122))) (by have := sz z rfl; show z.length ≤ _; omega) (fun _ => rfl) (Ex.new hD) (fun i c hc H' acc e hD' hl hR => ?_) (fun H' ys e hD' hl hR => ?_)
            · have hi : i ≤ 100000 := by
                have h1 := (Array.getElem?_eq_some_iff.mp hc).1
                have h2 : z.cps.size ≤ 1000 := sz z rfl
                omega
              walk_at "ww"
              rw [letters_in]
              exact lcAdd hD' hl hi (e.mut hD) hR ⟨c, hc, rfl⟩
            · have em := map_bl hl hR
              subst em
              refine wAll (SqL.of hD') ?_
              rw [name_all (by simp at c2; omega) (by simp at c3; omega) c1] at k
              rw [List.all_map] at *
              exact k H' e
      · walk_at "ww"
        rw [show false = nameV (.str z) from (name_short (by simp at c2; omega)).symm]
        exact k H (Ex.refl H)
    · have hf : isStr v = false := by simpa using hv
      refine wIsi ty (ty.str_is.trans (by rw [hf])) ?_
      walk_at "ww"
      have e : nameV v = false := by
        cases v <;> first | rfl | cases hf
      rw [← e]
      exact k H (Ex.refl H)
/-- _law_right: a thing of any kind, True -/
def spRight (K : PySem.W.Frag) : Sp := fun vs H Q _ => ∃ v, vs = [v] ∧ Thing K H v ∧ ∀ H', Ex H H' → Q (.bl true) H'
theorem ok_Lright (T : Tx K mg A) : FnOk P w K mg base CX0 2 A.f_Lright A.d_Lright ["_law_matter"] (spRight K) := by
  refine T.F_Lright.ok sc_Lright (fun vs H Q E h => ?_) (fun cdv A' outer s H vs Q E hr h => ?_)
  · obtain ⟨v, rfl, _⟩ := h
    rfl
  · obtain ⟨v, rfl, th, k⟩ := h
    refine ⟨_, (pss_cons (ps_set (i := 1) sc_Lright.nd rfl (Or.inl rfl) (pe_call (ok_Lis_name T) (hr.mono (by decide)) (by rfl) T.g_Lis_name T.F_Lis_name.kp T.b_Lis_name .nil pass0 (pa_cons (pv 0) pa_nil)))
    (pss_cons (ps_for PassesOwn.never rfl (pi_list (pe_lst (pa_cons (pe_call (ok_is_name T) (hr.mono (by decide)) (by rfl) T.g_is_name T.F_is_name.kp T.b_is_name .nil pass0 (pa_cons (pv 0) pa_nil)) (pa_cons (pe_callN0 (ok_is_name T) (hr.mono (by decide)) (by rfl) T.g_is_name T.F_is_name.kp T.kb0_is_name_thing pass0 (pk_cons (pv 0) pk_nil)) (pa_cons (pe_call (ok_is_name T) (hr.mono (by decide)) (by rfl) T.g_is_name T.F_is_name.kp T.b_is_name .nil pass0 (pa_cons (pv 0) pa_nil)) pa_nil))))) (pg_name (i := 2) sc_Lright.nd rfl (Or.inl rfl))
    (pss_one (ps_if (PW.pt (pw_or (pt_not (pt_val (pe_callB call_isi (by rfl) T.m_isinstance (by decide +kernel) (pa_cons (pv 2) (pa_cons (pe_bltn (v := .ty "bool") (by rfl) T.m_bool (by decide +kernel) rfl) pa_nil))))) (pw_or1 (pt_cmpR op_ne (pv 2) (pv 1) (nomark _)))))
      (pss_one (ps_ret pe_bl))
      pss_nil)))
    (pss_one (ps_ret pe_bl)))), ?_⟩
    walk_at "ww"
    refine ⟨v, rfl, th, fun H1 e1 => ?_⟩
    walk_at "ww"
    refine ⟨v, rfl, th.ex e1, fun H2 e2 => ?_⟩
    walk_at "ww"
    refine ⟨rfl, rfl, v, rfl, (th.ex e1).ex e2, fun H3 e3 => ?_⟩
    walk_at "ww"
    refine ⟨v, rfl, ((th.ex e1).ex e2).ex e3, fun H4 e4 => ?_⟩
    walk_at "ww"
    intro l hl
    walk_at "ww"
    refine exSq (SqL.of upd_same) ?_
    refine for_list (K := K) (a := l) (xs := [V.bl (nameV v), V.bl (nameV v), V.bl (nameV v)]) (fun i σ H' => ∃ t, σ = [some v, some (.bl (nameV v)), t] ∧ Ex (upd H4 l (.lst [V.bl (nameV v), V.bl (nameV v), V.bl (nameV v)])) H')
      ⟨none, rfl, Ex.refl _⟩ (fun i σ H' _ ⟨_, _, e⟩ => SqL.of (e _ _ upd_same)) ?_ ?_
    · rintro i y σ H' hi ⟨t, rfl, e⟩
      obtain rfl : y = V.bl (nameV v) := by
        match i, hi with
        | 0, h => exact (Option.some.inj h).symm
        | 1, h => exact (Option.some.inj h).symm
        | 2, h => exact (Option.some.inj h).symm
      walk_at "ww"
      rw [decide_eq_true rfl]
      walk_at "ww"
      exact ⟨_, rfl, e⟩
    · rintro σ H' ⟨t, rfl, e⟩
      walk_at "ww"
      exact k _ ((((e1.trans e2).trans e3).trans e4).trans ((Ex.new hl).trans e))
def spTexts : Sp := fun vs H Q _ => ∃ p : Addr, vs = [.ref p] ∧ Pool H p ∧ ∀ l xs H', Kp p H H' → Pool H' p → H l = none → H' l = some (.lst xs) → xs.length ≤ 100 → (∀ x ∈ xs, ∃ z, x = .str z ∧ z.length ≤ 1000) → Q (.ref l) H'
theorem ok_Ltexts (T : Tx K mg A) : FnOk P w K mg base CX0 2 A.f_Ltexts A.d_Ltexts ["_law_pool_here"] spTexts := by
  refine T.F_Ltexts.ok sc_Ltexts (fun vs H Q E h => ?_) (fun cdv A' outer s H vs Q E hr h => ?_)
  · obtain ⟨p, rfl, _⟩ := h
    rfl
  · obtain ⟨p, rfl, hP, k⟩ := h
    refine ⟨_, (pss_cons (ps_set (i := 1) sc_Ltexts.nd rfl (Or.inr rfl) pe_str)
    (pss_cons (ps_set (i := 2) sc_Ltexts.nd rfl (Or.inl rfl) (pe_join pe_str (pe_lc rfl sc_Ltexts.nd (pi_range1 (by rfl) T.m_range (pa_cons (pe_op op_add pe_int (pe_call (ok_Ltake T) (hr.mono (by decide)) (by rfl) T.g_Ltake T.F_Ltake.kp T.b_Ltake .nil pass0 (pa_cons (pv 0) (pa_cons pe_int pa_nil)))) pa_nil)) (blkOk_by (own := [("_law_k", 6)]) (N := ["_law_pool_here", "_law_letters", "_law_name", "_law_at", "_law_sign", "_law_some", "_law_k"]) (sc := defScope s_Ltexts) (by decide +kernel)) (fun _ _ _ _ _ => (pg_name (i := 6) sc_Ltexts.nd rfl (Or.inl rfl))) (fun _ _ _ _ _ => pts_nil) (fun _ _ _ _ _ => (pe_ix ix_str (pv 1) (pe_call (ok_Ltake T) (hr.mono (by decide)) (by rfl) T.g_Ltake T.F_Ltake.kp T.b_Ltake .nil pass0 (pa_cons (pv 0) (pa_cons pe_int pa_nil))) (fun _ _ => rfl))))))
    (pss_cons (ps_set (i := 3) sc_Ltexts.nd rfl (Or.inl rfl) (pe_call (ok_Ltake T) (hr.mono (by decide)) (by rfl) T.g_Ltake T.F_Ltake.kp T.b_Ltake .nil pass0 (pa_cons (pv 0) (pa_cons (pe_op op_add (pe_callB call_len (by rfl) T.m_len (by decide +kernel) (pa_cons (pv 2) pa_nil)) pe_int) pa_nil))))
    (pss_cons (ps_set (i := 4) sc_Ltexts.nd rfl (Or.inl rfl) (pe_ix ix_str pe_str (pe_call (ok_Ltake T) (hr.mono (by decide)) (by rfl) T.g_Ltake T.F_Ltake.kp T.b_Ltake .nil pass0 (pa_cons (pv 0) (pa_cons pe_int pa_nil))) (fun _ _ => rfl)))
    (pss_cons (ps_set (i := 5) sc_Ltexts.nd rfl (Or.inl rfl) (pe_lst (pa_cons (pv 2) (pa_cons (pe_op op_add_str (pe_op op_add_str (pe_slice sl_str (pv 2) po_none (po_some (pv 3))) (pv 4)) (pe_slice sl_str (pv 2) (po_some (pv 3)) po_none)) (pa_cons (pe_op op_add_str (pe_op op_add_str (pe_slice sl_str (pv 2) po_none (po_some (pv 3))) (pv 4)) (pe_slice sl_str (pv 2) (po_some (pe_op op_add (pv 3) pe_int)) po_none)) (pa_cons (pe_op op_add_str (pe_slice sl_str (pv 2) po_none (po_some (pv 3))) (pe_slice sl_str (pv 2) (po_some (pe_op op_add (pv 3) pe_int)) po_none)) pa_nil))))))
    (pss_cons (ps_set (i := 5) sc_Ltexts.nd rfl (Or.inl rfl) (pe_op op_cat (pv 5) (pe_lst (pa_cons (pe_upper (pv 2)) (pa_cons (pe_op op_add_str (pv 2) (pv 2)) (pa_cons (pe_slice sl_str (pv 2) po_none (po_some (pv 3))) (pa_cons (pe_slice sl_str (pe_op op_mulS (pv 2) pe_int) po_none (po_some pe_int)) (pa_cons (pe_slice sl_str (pe_op op_mulS (pv 2) pe_int) po_none (po_some pe_int)) (pa_cons (pe_op op_add_str (pv 2) pe_str) pa_nil)))))))))
    (pss_one (ps_ret (pe_op op_cat (pv 5) (pe_lst (pa_cons (pe_op op_add_str (pe_slice sl_str (pv 2) po_none (po_some (pv 3))) pe_str) pa_nil))))))))))), ?_⟩
    have e0 : (("" : Str)) = ⟨#[]⟩ := by decide +kernel
    walk_at "ww"
    refine ⟨p, 8, rfl, hP, by omega, by omega, fun d H1 d0 d1 e1 hP1 => ?_⟩
    walk_at "ww"
    refine ⟨by omega, by omega, ?_⟩
    intro D hD
    have nDp : D ≠ p := hP1.ne hD
    have letL : (("abcdefghijklmnopqrstuvwxyz" : Str)).cps.toList.length = 26 := by decide +kernel
    have letS : (("abcdefghijklmnopqrstuvwxyz" : Str)).length ≤ sizeLine := by decide +kernel
    have sgL : (("AZ059 -_.|\n:q" : Str)).cps.toList.length = 13 := by decide +kernel
    have sgS : (("AZ059 -_.|\n:q" : Str)).length ≤ sizeLine := by decide +kernel
    refine lcRng (fun H' => Kp p H1 H' ∧ Pool H' p) (fun i y _ => ∃ c, True ∧ y = .str ⟨#[c]⟩) (fun _ => rfl) ⟨Kp.new hD, hP1.upd nDp⟩ (fun i hi H' acc hI hD' hl hR => ?_) (fun H' ys hI hD' hl hR => ?_)
    · walk_at "ww"
      refine ⟨p, 26, rfl, hI.2, by omega, by omega, fun d2 H2 d20 d21 e2 hP2 => ?_⟩
      obtain ⟨c, hc, _⟩ := at_ex (xs := (("abcdefghijklmnopqrstuvwxyz" : Str)).cps.toList) d20 (by rw [letL]; omega)
      refine wIxS letS hc ?_
      exact lcAdd (e2 _ _ nDp hD') hl (by omega) ⟨(hI.1.trans e2).mut hD, hP2.upd nDp⟩ hR ⟨c, trivial, rfl⟩
    · walk_at "ww"
      obtain ⟨cs, c1, _, rfl⟩ := join_ones (P := fun _ => True) hR
      refine ⟨_, D, _, rfl, rfl, .inl (SqL.of hD'), ?_, ?_⟩
      · rw [ones_sum, e0]
        have : ((⟨#[]⟩ : Str)).length = 0 := rfl
        rw [this]
        omega
      have hnm : (Txt.join ("" : Str) (cs.map fun c => (⟨#[c]⟩ : Str))).length = cs.length := by
        rw [e0, TL.join_eq]
        show (Str.join ⟨#[]⟩ _).cps.size = _
        rw [← Array.length_toList, ones_cps]
      generalize Txt.join ("" : Str) (cs.map fun c => (⟨#[c]⟩ : Str)) = nm at hnm ⊢
      have n1 : 1 ≤ nm.length := by omega
      have n8 : nm.length ≤ 8 := by omega
      walk_at "ww"
      refine wLenS (sz6 (by omega)) ?_
      walk_at "ww"
      refine ⟨p, nm.length + 1, rfl, hI.2, by omega, by omega, fun at_ H2 a0 a1 e2 hP2 => ?_⟩
      walk_at "ww"
      refine ⟨p, 13, rfl, hP2, by omega, by omega, fun d2 H3 d20 d21 e3 hP3 => ?_⟩
      obtain ⟨sg, hsg, _⟩ := at_ex (xs := (("AZ059 -_.|\n:q" : Str)).cps.toList) d20 (by rw [sgL]; omega)
      refine wIxS sgS hsg ?_
      have q1 := cutS_length nm none (some at_)
      have q2 := cutS_length nm (some at_) none
      have q3 := cutS_length nm (some (at_ + 1)) none
      have q4 : ((⟨#[sg]⟩ : Str)).length = 1 := rfl
      walk_at "ww"
      intro l hl
      have spS : ((" " : Str)).length = 1 := by decide +kernel
      have chS : (("chest" : Str)).length = 5 := by decide +kernel
      have nlp : l ≠ p := hP3.ne hl
      generalize hxs : [V.str nm, V.str (cutS nm none (some at_) ++ ⟨#[sg]⟩ ++ cutS nm (some at_) none), V.str (cutS nm none (some at_) ++ ⟨#[sg]⟩ ++ cutS nm (some (at_ + 1)) none), V.str (cutS nm none (some at_) ++ cutS nm (some (at_ + 1)) none)] = xs
      have hx4 : xs.length = 4 := by rw [← hxs]; rfl
      have hxb : ∀ x ∈ xs, ∃ z, x = V.str z ∧ z.length ≤ 1000 := by
        rw [← hxs]
        intro x hx
        simp only [List.mem_cons, List.not_mem_nil, or_false] at hx
        rcases hx with rfl | rfl | rfl | rfl <;> exact ⟨_, rfl, by (try simp only [app_len]); omega⟩
      walk_at "ww"
      refine ⟨rfl, by omega, ?_⟩
      walk_at "ww"
      refine ⟨nm, 8, rfl, rfl, by omega, by omega, by omega, by omega, fun u8 hu8 => ?_⟩
      have u8l := rep_len hu8
      have u8c := cutS_length u8 none (some 8)
      walk_at "ww"
      refine ⟨nm, 9, rfl, rfl, by omega, by omega, by omega, by omega, fun u9 hu9 => ?_⟩
      have u9l := rep_len hu9
      have u9c := cutS_length u9 none (some 9)
      have up := PyProof.Rows.len_upper nm
      walk_at "ww"
      intro l2 hl2
      have nl2 : l ≠ l2 := fun e => by
        rw [← e, upd_same] at hl2
        cases hl2
      have hl2' : H3 l2 = none := (Ex.new hl).free hl2
      generalize hys : [V.str (Txt.upper nm), V.str (nm ++ nm), V.str (cutS nm none (some at_)), V.str (cutS u8 none (some 8)), V.str (cutS u9 none (some 9)), V.str (nm ++ (" " : Str))] = ys
      have hy6 : ys.length = 6 := by rw [← hys]; rfl
      have hyb : ∀ x ∈ ys, ∃ z, x = V.str z ∧ z.length ≤ 1000 := by
        rw [← hys]
        intro x hx
        simp only [List.mem_cons, List.not_mem_nil, or_false] at hx
        rcases hx with rfl | rfl | rfl | rfl | rfl | rfl <;> exact ⟨_, rfl, by (try simp only [app_len]); omega⟩
      refine wCat ((upd_ne nl2).trans upd_same) upd_same (sz6 (by omega)) fun l3 hl3 => ?_
      have e3x : Ex H3 (upd (upd H3 l (.lst xs)) l2 (.lst ys)) := (Ex.new hl).trans (Ex.new hl2)
      have hl3' : H3 l3 = none := e3x.free hl3
      walk_at "ww"
      intro l4 hl4
      have nl4 : l3 ≠ l4 := fun e => by
        rw [← e, upd_same] at hl4
        cases hl4
      have e4x : Ex H3 (upd (upd (upd H3 l (.lst xs)) l2 (.lst ys)) l3 (.lst (xs ++ ys))) := e3x.trans (Ex.new hl3)
      refine wCat ((upd_ne nl4).trans upd_same) upd_same (sz6 (by simp only [List.length_append, List.length_cons, List.length_nil]; omega)) fun l5 hl5 => ?_
      have e5x := e4x.trans (Ex.new (o := .lst [V.str (cutS nm none (some at_) ++ ("chest" : Str))]) hl4)
      have hl5' : H3 l5 = none := e5x.free hl5
      have nl5 : l5 ≠ p := hP3.ne hl5'
      have kH : Kp p H H3 := ((e1.trans hI.1).trans e2).trans e3
      refine k l5 _ _ (kH.trans (e5x.trans (Ex.new hl5)).kp) (hP3.ex (e5x.trans (Ex.new hl5))) (kH.free nl5 hl5') upd_same ?_ ?_
      · simp only [List.length_append, List.length_cons, List.length_nil]
        omega
      · intro x hx
        rcases List.mem_append.mp hx with hx | hx
        · rcases List.mem_append.mp hx with hx | hx
          · exact hxb x hx
          · exact hyb x hx
        · simp only [List.mem_cons, List.not_mem_nil, or_false] at hx
          rw [hx]
          exact ⟨_, rfl, by simp only [app_len]; omega⟩
def spLaw (K : PySem.W.Frag) : Sp := fun vs H Q _ => ∃ (a : Addr) (ns : List Int), vs = [.ref a] ∧ SqL K H a (ns.map V.int) ∧ ns.length ≤ 63 ∧ ∀ H', Q (.bl true) H'
theorem all_true {ys : List V} (h : ∀ (j : Nat) y, ys[j]? = some y → y = .bl true) : ∃ bs : List Bool, ys = bs.map V.bl ∧ bs.all id = true := by
  refine ⟨ys.map fun _ => true, ?_, by simp⟩
  rw [List.map_map]
  refine List.ext_getElem? fun j => ?_
  rw [List.getElem?_map]
  cases e : ys[j]? with
  | none => rfl
  | some y => rw [h j y e]; rfl
theorem ok_law (T : Tx K mg A) {f : Addr} {fd : FuncData} (F : Fun K "law" "law" s_law f fd) : FnOk P w K mg base CX0 3 f fd ["_law_script"] (spLaw K) := by
  refine F.ok sc_law (fun vs H Q E h => ?_) (fun cdv A' outer s H vs Q E hr h => ?_)
  · obtain ⟨a, ns, rfl, _⟩ := h
    rfl
  · obtain ⟨a, ns, rfl, hS, hlen, k⟩ := h
    refine ⟨_, (pss_cons (ps_set (i := 1) sc_law.nd rfl (Or.inl rfl) (pe_lst (pa_cons pe_str (pa_cons pe_str (pa_cons pe_str (pa_cons pe_str (pa_cons pe_str (pa_cons pe_str (pa_cons pe_str (pa_cons pe_str (pa_cons pe_str (pa_cons pe_str (pa_cons pe_str pa_nil)))))))))))))
    (pss_cons (ps_set (i := 1) sc_law.nd rfl (Or.inl rfl) (pe_op op_cat (pv 1) (pe_lst (pa_cons pe_str (pa_cons pe_str (pa_cons pe_str (pa_cons pe_str (pa_cons pe_str (pa_cons pe_str (pa_cons pe_non (pa_cons pe_bl (pa_cons pe_bl (pa_cons pe_int (pa_cons pe_int (pa_cons (pe_tup pa_nil) (pa_cons (pe_tup (pa_cons pe_str pa_nil)) (pa_cons (pe_lst (pa_cons pe_str pa_nil)) (pa_cons pe_dnewK (pa_cons (pe_tup (pa_cons (pe_lst pa_nil) pa_nil)) pa_nil)))))))))))))))))))
    (pss_cons (ps_expr (pe_bm PySem.F.plainAttrs_list PySem.F.slot_list_append PySem.F.type_list_append mt_append (pv 1) (pa_cons (pe_lst (pa_cons pe_str (pa_cons pe_str pa_nil))) pa_nil)))
    (pss_cons (ps_if (PW.pt (pw_or (pt_cmpR op_ne (pe_glob (v := .str "chest") rfl T.c_CHEST ⟨_, rfl⟩) pe_str (nomark _)) (pw_or1 (pt_not (pt_val (pe_callB (cr_all rfl) (by rfl) T.m_all (by decide +kernel) (pa_cons (pe_lc rfl sc_law.nd (pi_list (pe_op op_cat (pv 1) (pe_lst (pa_cons pe_str (pa_cons pe_str pa_nil))))) (blkOk_by (own := [("_law_matter", 4)]) (N := ["_law_script", "_law_odd", "_law_k", "_law_pool_here", "_law_matter"]) (sc := defScope s_law) (by decide +kernel)) (fun _ _ _ _ _ => (pg_name (i := 4) sc_law.nd rfl (Or.inl rfl))) (fun _ _ _ _ _ => pts_nil) (fun _ _ _ _ _ => (pe_call (ok_Lright T) (hr.mono (by decide)) (by rfl) T.g_Lright T.F_Lright.kp T.b_Lright .nil pass0 (pa_cons (pv 4) pa_nil)))) pa_nil)))))))
    (pss_one (ps_ret pe_bl))
    pss_nil)
    (pss_cons (ps_for PassesOwn.never rfl (pi_range1 (by rfl) T.m_range (pa_cons (pe_callB (call_max2 rfl) (by rfl) T.m_max (by decide +kernel) (pa_cons pe_int (pa_cons (pe_callB (call_min2 rfl) (by rfl) T.m_min (by decide +kernel) (pa_cons (pe_callB call_len (by rfl) T.m_len (by decide +kernel) (pa_cons (pv 0) pa_nil)) (pa_cons pe_int pa_nil))) pa_nil))) pa_nil)) (pg_name (i := 2) sc_law.nd rfl (Or.inl rfl))
    (pss_cons (ps_set (i := 3) sc_law.nd rfl (Or.inl rfl) (pe_call (ok_Lpool T) (hr.mono (by decide)) (by rfl) T.g_Lpool T.F_Lpool.kp T.b_Lpool .nil pass0 (pa_cons (pe_call (ok_Lcell T) (hr.mono (by decide)) (by rfl) T.g_Lcell T.F_Lcell.kp T.b_Lcell .nil pass0 (pa_cons (pv 0) (pa_cons (pv 2) pa_nil))) pa_nil)))
      (pss_one (ps_for PassesOwn.never rfl (pi_list (pe_call (ok_Ltexts T) (hr.mono (by decide)) (by rfl) T.g_Ltexts T.F_Ltexts.kp T.b_Ltexts .nil pass0 (pa_cons (pv 3) pa_nil))) (pg_name (i := 4) sc_law.nd rfl (Or.inl rfl))
      (pss_one (ps_if (PW.pt (pw_or (pt_not (pt_val (pe_call (ok_Lright T) (hr.mono (by decide)) (by rfl) T.g_Lright T.F_Lright.kp T.b_Lright .nil pass0 (pa_cons (pv 4) pa_nil)))) (pw_or (pt_not (pt_val (pe_call (ok_Lright T) (hr.mono (by decide)) (by rfl) T.g_Lright T.F_Lright.kp T.b_Lright .nil pass0 (pa_cons (pe_tup (pa_cons (pv 4) pa_nil)) pa_nil)))) (pw_or1 (pt_not (pt_val (pe_call (ok_Lright T) (hr.mono (by decide)) (by rfl) T.g_Lright T.F_Lright.kp T.b_Lright .nil pass0 (pa_cons (pe_lst (pa_cons (pv 4) pa_nil)) pa_nil))))))))
        (pss_one (ps_ret pe_bl))
        pss_nil))))))
    (pss_one (ps_ret pe_bl))))))), ?_⟩
    walk_at "ww"
    refine alI fun l1 H1 n1 e1 f1 => ?_
    walk_at "ww"
    refine alI fun t1 H2 n2 e2 f2 => ?_
    walk_at "ww"
    refine alI fun t2 H3 n3 e3 f3 => ?_
    walk_at "ww"
    refine alI fun t3 H4 n4 e4 f4 => ?_
    walk_at "ww"
    refine alI fun t4 H5 n5 e5 f5 => ?_
    walk_at "ww"
    refine alI fun t5 H6 n6 e6 f6 => ?_
    walk_at "ww"
    refine alI fun t6 H7 n7 e7 f7 => ?_
    walk_at "ww"
    refine alI fun l2 H8 n8 e8 f8 => ?_
    walk_at "ww"
    refine wCat (by walk_at "lk") f8 (by with_unfolding_all exact Nat.le_of_ble_eq_true rfl) ?_
    refine alI fun l3 H9 n9 e9 f9 => ?_
    walk_at "ww"
    refine anTyL f9 ?_
    walk_at "ww"
    refine alI fun l4 H10 n10 e10 f10 => ?_
    walk_at "ww"
    have n34 : l4 ≠ l3 := fun e => by
      rw [e, f9] at n10
      cases n10
    refine wAppendI (e10 _ _ f9) (by with_unfolding_all exact Nat.le_of_ble_eq_true rfl) n9 (e9.trans e10) fun H11 e11 k11 f11 => ?_
    have g4 := k11 _ _ n34 f10
    walk_at "ww"
    rw [decide_eq_true rfl]
    walk_at "ww"
    refine alI fun l5 H12 n12 e12 f12 => ?_
    walk_at "ww"
    refine wCat (by walk_at "lk") f12 (by with_unfolding_all exact Nat.le_of_ble_eq_true rfl) ?_
    refine alI fun l6 H13 n13 e13 f13 => ?_
    walk_at "ww"
    refine exSq (SqL.of f13) ?_
    intro D hD
    have th : ∀ x ∈ _, Thing K H13 x := (show ∀ x ∈ ((([V.str "chest", V.str "ches", V.str "chests", V.str "Chest", V.str "hest", V.str "cchest", V.str "chest ", V.str "chess", V.str "achest", V.str "abcdefgh", V.str "abcdefghi"] ++
      [V.str "", V.str " ", V.str "a", V.str "z", V.str "come", V.str "now", V.non, V.bl true, V.bl false, V.int 0, V.int 7, V.ref t1, V.ref t2, V.ref t3, V.ref t4, V.ref t6]) ++ [V.ref l4]) ++ [V.str "a1", V.str "ann ben"]), Thing K H13 x by walk_at "things")
    refine lcList (fun H' => Ex H13 H') (fun i y _ => y = .bl true) (fun _ => rfl) (Ex.new hD) (fun H' e => SqL.of (e _ _ f13)) (fun i x hx H' acc e hD' hl hR => ?_) (fun H' ys e hD' hl hR => ?_)
    · have hi : i ≤ 100000 := by
        have h1 := (List.getElem?_eq_some_iff.mp hx).1
        simp only [List.length_append, List.length_cons, List.length_nil] at h1
        omega
      walk_at "ww"
      refine ⟨x, rfl, (th x (List.mem_of_getElem? hx)).ex e, fun H'' e' => ?_⟩
      exact lcAdd (e' _ _ hD') hl hi ((e.trans e').mut hD) hR rfl
    · obtain ⟨bs, rfl, hb⟩ := all_true hR
      walk_at "ww"
      refine wAll (SqL.of hD') ?_
      rw [hb]
      walk_at "ww"
      refine wLenL ((((((((((((((e1.trans e2).trans e3).trans e4).trans e5).trans e6).trans e7).trans e8).trans e11).trans e12).trans e13)).trans e)).sq hS) ?_
      have EA : Ex H H' := ((((((((((((e1.trans e2).trans e3).trans e4).trans e5).trans e6).trans e7).trans e8).trans e11).trans e12).trans e13)).trans e)
      walk_at "ww"
      obtain ⟨N, hN1, hN2, hN⟩ : ∃ N : Int, 2 ≤ N ∧ N ≤ 8 ∧ (if (if 8 < ((ns.map V.int).length : Int) then (8 : Int) else ((ns.map V.int).length : Int)) > 2 then (if 8 < ((ns.map V.int).length : Int) then (8 : Int) else ((ns.map V.int).length : Int)) else 2) = N := by
        refine ⟨_, ?_, ?_, rfl⟩ <;> (split <;> split <;> omega)
      rw [hN]
      refine ⟨by omega, by omega, ?_⟩
      refine for_range (lo := 0) (n := N.toNat) (fun i σ H2 => ∃ v1 v2 v3 v4, σ = [some (.ref a), v1, v2, v3, v4] ∧ Ex H H2) ⟨_, _, _, _, rfl, EA⟩ ?_ ?_
      · rintro i σ H2 hi ⟨v1, v2, v3, v4, rfl, e2x⟩
        walk_at "ww"
        refine ⟨a, ns, 0 + i, rfl, e2x.sq hS, hlen, by omega, by omega, fun c H3 e3 => ?_⟩
        walk_at "ww"
        refine ⟨c, rfl, fun p H4 np e4 hP => ?_⟩
        walk_at "ww"
        refine ⟨p, rfl, hP, fun l xs H5 k5 hP5 nl fl hxl hxs => ?_⟩
        walk_at "ww"
        refine exSq (SqL.of fl) ?_
        have E5 : Ex H H5 := Kp.back ((e2x.trans e3).trans e4) k5 ((e2x.trans e3).free np)
        refine for_list (K := K) (a := l) (xs := xs) (fun j σ H6 => ∃ v1 v2 v3 v4, σ = [some (.ref a), v1, v2, v3, v4] ∧ Ex H5 H6) ⟨_, _, _, _, rfl, Ex.refl _⟩ (fun j σ H6 _ ⟨_, _, _, _, _, e⟩ => SqL.of (e _ _ fl)) ?_ ?_
        · rintro j y σ H6 hj ⟨v1, v2, v3, v4, rfl, e6⟩
          obtain ⟨z, rfl, hz⟩ := hxs y (List.mem_of_getElem? hj)
          walk_at "ww"
          refine ⟨_, rfl, Thing.s hz, fun H7 e7 => ?_⟩
          walk_at "ww"
          refine alI fun t7 H8 n8 e8 f8 => ?_
          walk_at "ww"
          refine ⟨_, rfl, Thing.t f8, fun H9 e9 => ?_⟩
          walk_at "ww"
          refine alI fun t9 H10 n10 e10 f10 => ?_
          walk_at "ww"
          refine ⟨_, rfl, Thing.l f10, fun H11 e11 => ?_⟩
          walk_at "ww"
          exact ⟨_, _, _, _, rfl, ((((e6.trans e7).trans e8).trans e9).trans e10).trans e11⟩
        · rintro σ H6 ⟨v1, v2, v3, v4, rfl, e6⟩
          exact ⟨_, _, _, _, rfl, E5.trans e6⟩
      · rintro σ H2 ⟨v1, v2, v3, v4, rfl, e2x⟩
        walk_at "ww"
        exact k H2
end
theorem all_mk {l : PySem.W.OpenLaw} {w : World} {K : PySem.W.Frag} {h : Heap} {mg : Str → Option Value} {fa f_is_name f_Lcell f_Lpool f_Ltake f_Lis_name f_Ltexts f_Lright f_law : Addr} (X : K.In h) (G : h.Ns mainGlobals mg) (hfa : mg "law" = some (.ref fa))
    {od_is_name an_is_name od_Lcell an_Lcell od_Lpool an_Lpool od_Ltake an_Ltake od_Lis_name an_Lis_name od_Ltexts an_Ltexts od_Lright an_Lright od_law an_law : Option Addr} {sl_is_name sl_Lcell sl_Lpool sl_Ltake sl_Lis_name sl_Ltexts sl_Lright sl_law : Array (Option Value)} {oc_is_name kV_is_name dc_is_name pm_is_name cd_is_name ct_is_name oc_Lcell kV_Lcell dc_Lcell pm_Lcell cd_Lcell ct_Lcell oc_Lpool kV_Lpool dc_Lpool pm_Lpool cd_Lpool ct_Lpool oc_Ltake kV_Ltake dc_Ltake pm_Ltake cd_Ltake ct_Ltake oc_Lis_name kV_Lis_name dc_Lis_name pm_Lis_name cd_Lis_name ct_Lis_name oc_Ltexts kV_Ltexts dc_Ltexts pm_Ltexts cd_Ltexts ct_Ltexts oc_Lright kV_Lright dc_Lright pm_Lright cd_Lright ct_Lright oc_law kV_law dc_law pm_law cd_law ct_law : Value}
    {t_CHEST t_MOST_LETTERS : Tok}
    (a_is_name : PySem.W.nsIn K mainGlobals "is_name" = some (some (.ref f_is_name))) (l_is_name : K.lookup f_is_name = some ⟨oc_is_name, od_is_name, .func (PySem.W.fnOf "is_name" "is_name" (defArgs s_is_name) (defBody s_is_name) (defScope s_is_name) .none kV_is_name dc_is_name pm_is_name an_is_name cd_is_name ct_is_name), sl_is_name⟩) (c_is_name : PySem.W.codeIn K cd_is_name "is_name" = true) (k_is_name : PySem.W.keepIn K (.ref f_is_name) = true)
    (a_Lcell : PySem.W.nsIn K mainGlobals "_law_cell" = some (some (.ref f_Lcell))) (l_Lcell : K.lookup f_Lcell = some ⟨oc_Lcell, od_Lcell, .func (PySem.W.fnOf "_law_cell" "_law_cell" (defArgs s_Lcell) (defBody s_Lcell) (defScope s_Lcell) .none kV_Lcell dc_Lcell pm_Lcell an_Lcell cd_Lcell ct_Lcell), sl_Lcell⟩) (c_Lcell : PySem.W.codeIn K cd_Lcell "_law_cell" = true) (k_Lcell : PySem.W.keepIn K (.ref f_Lcell) = true)
    (a_Lpool : PySem.W.nsIn K mainGlobals "_law_pool" = some (some (.ref f_Lpool))) (l_Lpool : K.lookup f_Lpool = some ⟨oc_Lpool, od_Lpool, .func (PySem.W.fnOf "_law_pool" "_law_pool" (defArgs s_Lpool) (defBody s_Lpool) (defScope s_Lpool) .none kV_Lpool dc_Lpool pm_Lpool an_Lpool cd_Lpool ct_Lpool), sl_Lpool⟩) (c_Lpool : PySem.W.codeIn K cd_Lpool "_law_pool" = true) (k_Lpool : PySem.W.keepIn K (.ref f_Lpool) = true)
    (a_Ltake : PySem.W.nsIn K mainGlobals "_law_take" = some (some (.ref f_Ltake))) (l_Ltake : K.lookup f_Ltake = some ⟨oc_Ltake, od_Ltake, .func (PySem.W.fnOf "_law_take" "_law_take" (defArgs s_Ltake) (defBody s_Ltake) (defScope s_Ltake) .none kV_Ltake dc_Ltake pm_Ltake an_Ltake cd_Ltake ct_Ltake), sl_Ltake⟩) (c_Ltake : PySem.W.codeIn K cd_Ltake "_law_take" = true) (k_Ltake : PySem.W.keepIn K (.ref f_Ltake) = true)
    (a_Lis_name : PySem.W.nsIn K mainGlobals "_law_is_name" = some (some (.ref f_Lis_name))) (l_Lis_name : K.lookup f_Lis_name = some ⟨oc_Lis_name, od_Lis_name, .func (PySem.W.fnOf "_law_is_name" "_law_is_name" (defArgs s_Lis_name) (defBody s_Lis_name) (defScope s_Lis_name) .none kV_Lis_name dc_Lis_name pm_Lis_name an_Lis_name cd_Lis_name ct_Lis_name), sl_Lis_name⟩) (c_Lis_name : PySem.W.codeIn K cd_Lis_name "_law_is_name" = true) (k_Lis_name : PySem.W.keepIn K (.ref f_Lis_name) = true)
    (a_Ltexts : PySem.W.nsIn K mainGlobals "_law_texts" = some (some (.ref f_Ltexts))) (l_Ltexts : K.lookup f_Ltexts = some ⟨oc_Ltexts, od_Ltexts, .func (PySem.W.fnOf "_law_texts" "_law_texts" (defArgs s_Ltexts) (defBody s_Ltexts) (defScope s_Ltexts) .none kV_Ltexts dc_Ltexts pm_Ltexts an_Ltexts cd_Ltexts ct_Ltexts), sl_Ltexts⟩) (c_Ltexts : PySem.W.codeIn K cd_Ltexts "_law_texts" = true) (k_Ltexts : PySem.W.keepIn K (.ref f_Ltexts) = true)
    (a_Lright : PySem.W.nsIn K mainGlobals "_law_right" = some (some (.ref f_Lright))) (l_Lright : K.lookup f_Lright = some ⟨oc_Lright, od_Lright, .func (PySem.W.fnOf "_law_right" "_law_right" (defArgs s_Lright) (defBody s_Lright) (defScope s_Lright) .none kV_Lright dc_Lright pm_Lright an_Lright cd_Lright ct_Lright), sl_Lright⟩) (c_Lright : PySem.W.codeIn K cd_Lright "_law_right" = true) (k_Lright : PySem.W.keepIn K (.ref f_Lright) = true)
    (a_law : PySem.W.nsIn K mainGlobals "law" = some (some (.ref f_law))) (l_law : K.lookup f_law = some ⟨oc_law, od_law, .func (PySem.W.fnOf "law" "law" (defArgs s_law) (defBody s_law) (defScope s_law) .none kV_law dc_law pm_law an_law cd_law ct_law), sl_law⟩) (c_law : PySem.W.codeIn K cd_law "law" = true) (k_law : PySem.W.keepIn K (.ref f_law) = true)
    (v_CHEST : PySem.W.nsIn K mainGlobals "CHEST" = some (some (.str "chest" t_CHEST)))
    (v_MOST_LETTERS : PySem.W.nsIn K mainGlobals "MOST_LETTERS" = some (some (.int 8 t_MOST_LETTERS)))
    (z_abs : PySem.W.nsIn K mainGlobals "abs" = some none)
    (z_all : PySem.W.nsIn K mainGlobals "all" = some none)
    (z_bool : PySem.W.nsIn K mainGlobals "bool" = some none)
    (z_divmod : PySem.W.nsIn K mainGlobals "divmod" = some none)
    (z_isinstance : PySem.W.nsIn K mainGlobals "isinstance" = some none)
    (z_len : PySem.W.nsIn K mainGlobals "len" = some none)
    (z_max : PySem.W.nsIn K mainGlobals "max" = some none)
    (z_min : PySem.W.nsIn K mainGlobals "min" = some none)
    (z_range : PySem.W.nsIn K mainGlobals "range" = some none)
    (z_str : PySem.W.nsIn K mainGlobals "str" = some none)
    : ∃ fd : FuncData, (∀ (s : Shared) (v : Value), BindsTo s fd ⟨[v], []⟩ [("_law_script", v)]) ∧ ∀ base : Heap, K.In base → base.Ns mainGlobals mg → FnOk l.prog w K mg base CX0 3 fa fd ["_law_script"] (spLaw K) := by
  have e := hfa.symm.trans (PySem.W.mg_of X G a_law)
  cases e
  have F_is_name := fun_mk (st := s_is_name) l_is_name c_is_name k_is_name
  have F_Lcell := fun_mk (st := s_Lcell) l_Lcell c_Lcell k_Lcell
  have F_Lpool := fun_mk (st := s_Lpool) l_Lpool c_Lpool k_Lpool
  have F_Ltake := fun_mk (st := s_Ltake) l_Ltake c_Ltake k_Ltake
  have F_Lis_name := fun_mk (st := s_Lis_name) l_Lis_name c_Lis_name k_Lis_name
  have F_Ltexts := fun_mk (st := s_Ltexts) l_Ltexts c_Ltexts k_Ltexts
  have F_Lright := fun_mk (st := s_Lright) l_Lright c_Lright k_Lright
  have F_law := fun_mk (st := s_law) l_law c_law k_law
  have T : Tx K mg ⟨f_is_name, _, f_Lcell, _, f_Lpool, _, f_Ltake, _, f_Lis_name, _, f_Ltexts, _, f_Lright, _, t_CHEST, t_MOST_LETTERS⟩ := {
    c_CHEST := PySem.W.mg_of X G v_CHEST
    c_MOST_LETTERS := PySem.W.mg_of X G v_MOST_LETTERS
    m_abs := PySem.W.mg_none_of X G z_abs
    m_all := PySem.W.mg_none_of X G z_all
    m_bool := PySem.W.mg_none_of X G z_bool
    m_divmod := PySem.W.mg_none_of X G z_divmod
    m_isinstance := PySem.W.mg_none_of X G z_isinstance
    m_len := PySem.W.mg_none_of X G z_len
    m_max := PySem.W.mg_none_of X G z_max
    m_min := PySem.W.mg_none_of X G z_min
    m_range := PySem.W.mg_none_of X G z_range
    m_str := PySem.W.mg_none_of X G z_str
    F_is_name := F_is_name
    g_is_name := PySem.W.mg_of X G a_is_name
    b_is_name := F_is_name.binds (ps := ["thing"]) fun _ _ _ _ _ _ us hl => match us, hl with | [_], _ => rfl
    F_Lcell := F_Lcell
    g_Lcell := PySem.W.mg_of X G a_Lcell
    b_Lcell := F_Lcell.binds (ps := ["_law_script", "_law_k"]) fun _ _ _ _ _ _ us hl => match us, hl with | [_, _], _ => rfl
    F_Lpool := F_Lpool
    g_Lpool := PySem.W.mg_of X G a_Lpool
    b_Lpool := F_Lpool.binds (ps := ["_law_cell_here"]) fun _ _ _ _ _ _ us hl => match us, hl with | [_], _ => rfl
    F_Ltake := F_Ltake
    g_Ltake := PySem.W.mg_of X G a_Ltake
    b_Ltake := F_Ltake.binds (ps := ["_law_pool_here", "_law_many"]) fun _ _ _ _ _ _ us hl => match us, hl with | [_, _], _ => rfl
    F_Lis_name := F_Lis_name
    g_Lis_name := PySem.W.mg_of X G a_Lis_name
    b_Lis_name := F_Lis_name.binds (ps := ["_law_matter"]) fun _ _ _ _ _ _ us hl => match us, hl with | [_], _ => rfl
    F_Ltexts := F_Ltexts
    g_Ltexts := PySem.W.mg_of X G a_Ltexts
    b_Ltexts := F_Ltexts.binds (ps := ["_law_pool_here"]) fun _ _ _ _ _ _ us hl => match us, hl with | [_], _ => rfl
    F_Lright := F_Lright
    g_Lright := PySem.W.mg_of X G a_Lright
    b_Lright := F_Lright.binds (ps := ["_law_matter"]) fun _ _ _ _ _ _ us hl => match us, hl with | [_], _ => rfl
    kb0_is_name_thing := ⟨fun s us ws _ l1 l2 => match us, ws, l1, l2 with | [], [_], _, _ => .of_eq rfl, fun _ r => r⟩
  }
  exact ⟨PySem.W.fnOf "law" "law" (defArgs s_law) (defBody s_law) (defScope s_law) .none kV_law dc_law pm_law an_law cd_law ct_law, fun s v => .of_eq rfl, fun base _ _ => ok_law T F_law⟩
theorem walk {l : PySem.W.OpenLaw} {q : Program} {loose : List Str} {XP : (Str → Option Value) → Heap → Prop} {YP : World → Heap → Prop} {d : DefRec} {K : Params → PySem.W.Frag} (hn : l.most = some 63) (hdf : d.params.defaults = [])
    (hY : ∀ (w : World) (h : Heap), YP w h → (K w.params).In h)
    (F : ∀ (w : World) (mg : Str → Option Value) (fa : Addr) (h : Heap), (K w.params).In h → h.Ns mainGlobals mg → mg d.name = some (.ref fa) →
      ∃ fd : FuncData, (∀ (s : Shared) (u : Value), BindsTo s fd ⟨[u], []⟩ [("_law_script", u)]) ∧ ∀ base : Heap, (K w.params).In base → base.Ns mainGlobals mg → FnOk l.prog w (K w.params) mg base CX0 3 fa fd ["_law_script"] (spLaw (K w.params))) :
    PySem.W.WalkO q loose XP YP l.row.toRowW d [] (fun f vs => PySem.call f vs) :=
  L2.walk_of (n := 63) (k := 3) (x := "_law_script") (CX := fun _ => CX0) (sp := fun w => spLaw (K w.params)) hn (by decide) hdf ⟨rfl, by decide, by decide⟩ hY F (fun _ _ a ns hl _ hS => ⟨a, ns, rfl, hS, hl, fun _ => rfl⟩) fun _ _ _ _ _ z => z
end Ver
open PySem PySem.W PyProof.Rows in
set_option maxRecDepth 100000 in
set_option maxHeartbeats 0 in
theorem PySem.Challenge.cw_thankways_k03_names_of_any_kind_holds : PySem.Challenge.rw_thankways_k03_names_of_any_kind.Holds := by
  w_on; o_law; k_head; (case hw => w_witness2)
  k_fill
  refine Ver.walk (l := PySem.Challenge.rw_thankways_k03_names_of_any_kind) rfl rfl (fun w h Y => PySem.W.kIn_of Y) ?F
  case F =>
    intro w mg fa h KX G hmg
    refine' Ver.all_mk KX G hmg ?a_is_name ?l_is_name ?c_is_name ?k_is_name ?a_Lcell ?l_Lcell ?c_Lcell ?k_Lcell ?a_Lpool ?l_Lpool ?c_Lpool ?k_Lpool ?a_Ltake ?l_Ltake ?c_Ltake ?k_Ltake ?a_Lis_name ?l_Lis_name ?c_Lis_name ?k_Lis_name ?a_Ltexts ?l_Ltexts ?c_Ltexts ?k_Ltexts ?a_Lright ?l_Lright ?c_Lright ?k_Lright ?a_law ?l_law ?c_law ?k_law ?v_CHEST ?v_MOST_LETTERS ?z_abs ?z_all ?z_bool ?z_divmod ?z_isinstance ?z_len ?z_max ?z_min ?z_range ?z_str
    (case a_is_name => k_is)
    (case l_is_name => k_is)
    (case c_is_name => k_is)
    (case k_is_name => k_is)
    (case a_Lcell => k_is)
    (case l_Lcell => k_is)
    (case c_Lcell => k_is)
    (case k_Lcell => k_is)
    (case a_Lpool => k_is)
    (case l_Lpool => k_is)
    (case c_Lpool => k_is)
    (case k_Lpool => k_is)
    (case a_Ltake => k_is)
    (case l_Ltake => k_is)
    (case c_Ltake => k_is)
    (case k_Ltake => k_is)
    (case a_Lis_name => k_is)
    (case l_Lis_name => k_is)
    (case c_Lis_name => k_is)
    (case k_Lis_name => k_is)
    (case a_Ltexts => k_is)
    (case l_Ltexts => k_is)
    (case c_Ltexts => k_is)
    (case k_Ltexts => k_is)
    (case a_Lright => k_is)
    (case l_Lright => k_is)
    (case c_Lright => k_is)
    (case k_Lright => k_is)
    (case a_law => k_is)
    (case l_law => k_is)
    (case c_law => k_is)
    (case k_law => k_is)
    (case v_CHEST => k_is)
    (case v_MOST_LETTERS => k_is)
    (case z_abs => k_is)
    (case z_all => k_is)
    (case z_bool => k_is)
    (case z_divmod => k_is)
    (case z_isinstance => k_is)
    (case z_len => k_is)
    (case z_max => k_is)
    (case z_min => k_is)
    (case z_range => k_is)
    (case z_str => k_is)
