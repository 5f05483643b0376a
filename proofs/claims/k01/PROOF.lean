import PyProof.Rows.All
import Wide.All
import OpenK.AllK
import Wide.FinOn
import HandS.ForMost
import HandS.IsInst
import HandS.WideBits
import HandS.Wide
import HandS.Defaults
import HandS.TupMul
import HandS.Flow
import HandS.Codes
import HandS.Style
import HandS.TupAny
import PySem.Challenge.RW_thankways_k01_fractions_reckoned
set_option Elab.async false
set_option linter.all false
set_option maxRecDepth 100000
set_option maxHeartbeats 4000000
/-! Fractions in lowest terms: plain mathematics. -/
namespace Fr
def IsFr (p q : Int) : Prop := 1 ≤ q ∧ p.gcd q = 1
def frD (t b : Int) : Int := if b < 0 then -((t.gcd b : Nat) : Int) else ((t.gcd b : Nat) : Int)
def frT (t b : Int) : Int := t.fdiv (frD t b)
def frB (t b : Int) : Int := b.fdiv (frD t b)
theorem gcd_pos {t b : Int} (h : b ≠ 0) : 0 < t.gcd b := by
  rcases Nat.eq_zero_or_pos (t.gcd b) with e | e
  · have := (Int.gcd_eq_zero_iff.mp e).2
    exact absurd this h
  · exact e
theorem split {t b : Int} (h : b ≠ 0) : ∃ t' b' : Int, t = (t.gcd b : Int) * t' ∧ b = (t.gcd b : Int) * b' ∧ t'.gcd b' = 1 := by
  have g0 := gcd_pos (t := t) h
  obtain ⟨t', ht⟩ := Int.gcd_dvd_left t b
  obtain ⟨b', hb⟩ := Int.gcd_dvd_right t b
  refine ⟨t', b', ht, hb, ?_⟩
  have e : t.gcd b = ((t.gcd b : Nat) : Int).natAbs * t'.gcd b' := by
    rw [← Int.gcd_mul_left, ← ht, ← hb]
  rw [Int.natAbs_natCast] at e
  have : t.gcd b * 1 = t.gcd b * t'.gcd b' := by omega
  exact (Nat.eq_of_mul_eq_mul_left g0 this).symm
theorem fr_parts {t b : Int} (h : b ≠ 0) : ∃ k : Int, k ≠ 0 ∧ t = k * frT t b ∧ b = k * frB t b ∧ 1 ≤ frB t b ∧ (frT t b).gcd (frB t b) = 1 ∧ k = frD t b := by
  obtain ⟨t', b', ht, hb, hg⟩ := split (t := t) h
  have g0 := gcd_pos (t := t) h
  generalize hG : t.gcd b = g at *
  have hgz : (g : Int) ≠ 0 := by omega
  by_cases hn : b < 0
  · have eD : frD t b = -(g : Int) := by unfold frD; rw [if_pos hn, hG]
    have e1 : frT t b = -t' := by
      unfold frT
      rw [eD]
      exact Int.fdiv_eq_of_eq_mul_right (by omega) (by rw [ht]; grind)
    have e2 : frB t b = -b' := by
      unfold frB
      rw [eD]
      exact Int.fdiv_eq_of_eq_mul_right (by omega) (by rw [hb]; grind)
    refine ⟨-(g : Int), by omega, by rw [e1]; grind, by rw [e2]; grind, ?_, ?_, eD.symm⟩
    · rw [e2]
      have : b' < 0 := by
        rcases Int.lt_or_le b' 0 with q | q
        · exact q
        · have : 0 ≤ (g : Int) * b' := Int.mul_nonneg (by omega) q
          omega
      omega
    · rw [e1, e2, Int.gcd_neg, Int.neg_gcd]
      exact hg
  · have eD : frD t b = (g : Int) := by unfold frD; rw [if_neg hn, hG]
    have e1 : frT t b = t' := by
      unfold frT
      rw [eD]
      exact Int.fdiv_eq_of_eq_mul_right (by omega) ht
    have e2 : frB t b = b' := by
      unfold frB
      rw [eD]
      exact Int.fdiv_eq_of_eq_mul_right (by omega) hb
    refine ⟨(g : Int), by omega, by rw [e1]; exact ht, by rw [e2]; exact hb, ?_, by rw [e1, e2]; exact hg, eD.symm⟩
    rw [e2]
    rcases Int.lt_or_le 0 b' with q | q
    · omega
    · have : (g : Int) * b' ≤ 0 := Int.mul_nonpos_of_nonneg_of_nonpos (by omega) q
      omega
theorem fr_is {t b : Int} (h : b ≠ 0) : IsFr (frT t b) (frB t b) := by
  obtain ⟨k, _, _, _, h1, h2, _⟩ := fr_parts (t := t) h
  exact ⟨h1, h2⟩
theorem fr_cross {t b : Int} (h : b ≠ 0) : frT t b * b = t * frB t b := by
  obtain ⟨k, _, ht, hb, _, _, _⟩ := fr_parts (t := t) h
  generalize frT t b = x at *
  generalize frB t b = y at *
  subst ht
  subst hb
  grind
theorem fr_unique {p q r s : Int} (h1 : IsFr p q) (h2 : IsFr r s) (e : p * s = r * q) : p = r ∧ q = s := by
  obtain ⟨q1, g1⟩ := h1
  obtain ⟨s1, g2⟩ := h2
  have d1 : q.natAbs ∣ s.natAbs := by
    have : q.natAbs ∣ p.natAbs * s.natAbs := by
      rw [← Int.natAbs_mul, e, Int.natAbs_mul]
      exact Nat.dvd_mul_left _ _
    exact Nat.Coprime.dvd_of_dvd_mul_left (show Nat.gcd q.natAbs p.natAbs = 1 by rw [Nat.gcd_comm]; exact g1) this
  have d2 : s.natAbs ∣ q.natAbs := by
    have : s.natAbs ∣ r.natAbs * q.natAbs := by
      rw [← Int.natAbs_mul, ← e, Int.natAbs_mul]
      exact Nat.dvd_mul_left _ _
    exact Nat.Coprime.dvd_of_dvd_mul_left (show Nat.gcd s.natAbs r.natAbs = 1 by rw [Nat.gcd_comm]; exact g2) this
  have es : q = s := by
    have := Nat.dvd_antisymm d1 d2
    omega
  subst es
  exact ⟨Int.eq_of_mul_eq_mul_right (by omega) e, rfl⟩
theorem fr_eq {t b p q : Int} (h : b ≠ 0) (h1 : IsFr p q) (e : t * q = p * b) : frT t b = p ∧ frB t b = q := by
  refine fr_unique (fr_is h) h1 ?_
  have c := fr_cross (t := t) h
  refine Int.eq_of_mul_eq_mul_right h ?_
  generalize frT t b = x at *
  generalize frB t b = y at *
  grind
theorem natAbs_fdiv_le {t b : Int} (h : b ≠ 0) : (frT t b).natAbs ≤ t.natAbs ∧ (frB t b).natAbs ≤ b.natAbs := by
  obtain ⟨k, hk, ht, hb, _, _, _⟩ := fr_parts (t := t) h
  have k1 : 1 ≤ k.natAbs := by omega
  constructor
  · have : t.natAbs = k.natAbs * (frT t b).natAbs := by rw [← Int.natAbs_mul, ← ht]
    rw [this]
    exact Nat.le_mul_of_pos_left _ k1
  · have : b.natAbs = k.natAbs * (frB t b).natAbs := by rw [← Int.natAbs_mul, ← hb]
    rw [this]
    exact Nat.le_mul_of_pos_left _ k1
theorem frD_ne {t b : Int} (h : b ≠ 0) : frD t b ≠ 0 := by
  obtain ⟨k, hk, _, _, _, _, e⟩ := fr_parts (t := t) h
  rw [← e]
  exact hk
theorem frD_le {t b : Int} (h : b ≠ 0) : (frD t b).natAbs ≤ b.natAbs := by
  obtain ⟨k, hk, ht, hb, h1, _, e⟩ := fr_parts (t := t) h
  rw [← e]
  have : b.natAbs = k.natAbs * (frB t b).natAbs := by rw [← Int.natAbs_mul, ← hb]
  rw [this]
  exact Nat.le_mul_of_pos_right _ (by omega)
/-- one turn of the reckoning of the greatest divisor -/
theorem gcd_turn (a : Int) {b : Int} (h : b ≠ 0) : b.gcd (a.fmod b) = a.gcd b := by
  rw [Int.fmod_def, Int.gcd_sub_mul_left_right, Int.gcd_comm]
theorem fmod_less (a : Int) {b : Int} (h : b ≠ 0) : (a.fmod b).natAbs < b.natAbs := by
  rcases Int.lt_or_lt_of_ne h with n | p
  · have e : a.fmod b = -((-a).fmod (-b)) := by
      have := Int.neg_fmod_neg a b
      omega
    have e2 : (-a).fmod (-b) = (-a) % (-b) := Int.fmod_eq_emod_of_nonneg _ (by omega)
    have h1 := Int.emod_nonneg (-a) (show -b ≠ 0 by omega)
    have h2 := Int.emod_lt_of_pos (-a) (show 0 < -b by omega)
    omega
  · have e2 : a.fmod b = a % b := Int.fmod_eq_emod_of_nonneg _ (by omega)
    have h1 := Int.emod_nonneg a h
    have h2 := Int.emod_lt_of_pos a p
    omega
theorem pos_ne {q s : Int} (h1 : 1 ≤ q) (h2 : 1 ≤ s) : q * s ≠ 0 := by
  have : 0 < q * s := Int.mul_pos (by omega) (by omega)
  omega
theorem minus_plus {p q r s : Int} (h1 : IsFr p q) (h2 : IsFr r s) : frT (frT (p * s + r * q) (q * s) * s - r * frB (p * s + r * q) (q * s)) (frB (p * s + r * q) (q * s) * s) = p ∧
    frB (frT (p * s + r * q) (q * s) * s - r * frB (p * s + r * q) (q * s)) (frB (p * s + r * q) (q * s) * s) = q := by
  have hz := pos_ne h1.1 h2.1
  have c := fr_cross (t := p * s + r * q) hz
  have i := fr_is (t := p * s + r * q) hz
  generalize frT (p * s + r * q) (q * s) = x at *
  generalize frB (p * s + r * q) (q * s) = y at *
  exact fr_eq (pos_ne i.1 h2.1) h1 (by grind)
theorem plus_minus {p q r s : Int} (h1 : IsFr p q) (h2 : IsFr r s) : frT (frT (p * s - r * q) (q * s) * s + r * frB (p * s - r * q) (q * s)) (frB (p * s - r * q) (q * s) * s) = p ∧
    frB (frT (p * s - r * q) (q * s) * s + r * frB (p * s - r * q) (q * s)) (frB (p * s - r * q) (q * s) * s) = q := by
  have hz := pos_ne h1.1 h2.1
  have c := fr_cross (t := p * s - r * q) hz
  have i := fr_is (t := p * s - r * q) hz
  generalize frT (p * s - r * q) (q * s) = x at *
  generalize frB (p * s - r * q) (q * s) = y at *
  exact fr_eq (pos_ne i.1 h2.1) h1 (by grind)
theorem over_times {p q r s : Int} (h1 : IsFr p q) (h2 : IsFr r s) (hr : r ≠ 0) : frT (frT (p * r) (q * s) * s) (frB (p * r) (q * s) * r) = p ∧ frB (frT (p * r) (q * s) * s) (frB (p * r) (q * s) * r) = q := by
  have hz := pos_ne h1.1 h2.1
  have c := fr_cross (t := p * r) hz
  have i := fr_is (t := p * r) hz
  generalize frT (p * r) (q * s) = x at *
  generalize frB (p * r) (q * s) = y at *
  exact fr_eq (Int.mul_ne_zero (by have := i.1; omega) hr) h1 (by grind)
theorem times_over {p q r s : Int} (h1 : IsFr p q) (h2 : IsFr r s) (hr : r ≠ 0) : frT (frT (p * s) (q * r) * r) (frB (p * s) (q * r) * s) = p ∧ frB (frT (p * s) (q * r) * r) (frB (p * s) (q * r) * s) = q := by
  have hz : q * r ≠ 0 := Int.mul_ne_zero (by have := h1.1; omega) hr
  have c := fr_cross (t := p * s) hz
  have i := fr_is (t := p * s) hz
  generalize frT (p * s) (q * r) = x at *
  generalize frB (p * s) (q * r) = y at *
  exact fr_eq (pos_ne i.1 h2.1) h1 (by grind)
end Fr
/-! The steps of a reading, one lemma a construct, and the heaps of a law with a pool. -/
namespace Ver
open PySem PySem.Spec PyProof.Rows L2

/-! ### heaps: all is kept but what stands at the one place -/
/-- all that was tracked is kept, but at p -/
def Kp (p : Addr) (H H' : Hp) : Prop := ∀ a o, a ≠ p → H a = some o → H' a = some o
/-- all is kept -/
def Ex (H H' : Hp) : Prop := ∀ a o, H a = some o → H' a = some o
theorem Ex.refl (H : Hp) : Ex H H := fun _ _ h => h
theorem Ex.trans {H H1 H2 : Hp} (a : Ex H H1) (b : Ex H1 H2) : Ex H H2 := fun x o h => b x o (a x o h)
theorem Ex.new {H : Hp} {p : Addr} {o : HO} (h : H p = none) : Ex H (upd H p o) := fun a u e => by
  rw [upd_ne (ne_of_none e h)]
  exact e
theorem Ex.kp {p : Addr} {H H' : Hp} (e : Ex H H') : Kp p H H' := fun a o _ h => e a o h
theorem Kp.refl (p : Addr) (H : Hp) : Kp p H H := fun _ _ _ h => h
theorem Kp.trans {p : Addr} {H H1 H2 : Hp} (a : Kp p H H1) (b : Kp p H1 H2) : Kp p H H2 := fun x o n h => b x o n (a x o n h)
theorem Kp.set {p : Addr} {H : Hp} {o : HO} : Kp p H (upd H p o) := fun a u n e => by
  rw [upd_ne n]
  exact e
theorem Kp.new {p q : Addr} {H : Hp} {o : HO} (h : H q = none) : Kp p H (upd H q o) := (Ex.new h).kp
/-- a thing that H does not know may change -/
theorem Ex.mut {H H' : Hp} {p : Addr} {o : HO} (e : Ex H H') (h : H p = none) : Ex H (upd H' p o) := fun a u ha => by
  rw [upd_ne (ne_of_none ha h)]
  exact e a u ha
theorem Kp.mut {q : Addr} {H H' : Hp} {p : Addr} {o : HO} (e : Kp q H H') (h : H p = none) : Kp q H (upd H' p o) := fun a u n ha => by
  rw [upd_ne (ne_of_none ha h)]
  exact e a u n ha
theorem Ex.free {H H' : Hp} {p : Addr} (e : Ex H H') (h : H' p = none) : H p = none := by
  cases h1 : H p with
  | none => rfl
  | some o =>
    rw [e p o h1] at h
    cases h
theorem Kp.free {q : Addr} {H H' : Hp} {p : Addr} (e : Kp q H H') (n : p ≠ q) (h : H' p = none) : H p = none := by
  cases h1 : H p with
  | none => rfl
  | some o =>
    rw [e p o n h1] at h
    cases h
theorem Kp.back {p : Addr} {H H1 H2 : Hp} (e : Ex H H1) (k : Kp p H1 H2) (n : H p = none) : Ex H H2 := fun a o h => k a o (ne_of_none h n) (e a o h)
theorem Ex.get {H H' : Hp} {a : Addr} {o : HO} (e : Ex H H') (h : H a = some o) : H' a = some o := e a o h
theorem Kp.get {p : Addr} {H H' : Hp} {a : Addr} {o : HO} (e : Kp p H H') (n : a ≠ p) (h : H a = some o) : H' a = some o := e a o n h
theorem Ex.rd {H H' : Hp} {a : Addr} {u : HO} (e : Ex H H') (h : Rd H a u) : Rd H' a u := by
  rcases h with h | ⟨o, h⟩
  · exact Or.inl (e a _ h)
  · exact Or.inr ⟨o, e a _ h⟩
theorem Ex.sq {K : PySem.W.Frag} {H H' : Hp} {a : Addr} {xs : List V} (e : Ex H H') (h : SqL K H a xs) : SqL K H' a xs := by
  rcases h with h | h
  · exact Or.inl (e.rd h)
  · exact Or.inr h
theorem Ex.st {K : PySem.W.Frag} {H H' : Hp} {a : Addr} {xs : List V} (e : Ex H H') (h : SqT K H a xs) : SqT K H' a xs := by
  rcases h with h | h
  · exact Or.inl (e.rd h)
  · exact Or.inr h
theorem sz6 {n : Nat} (h : n ≤ 100000) : n ≤ sizeLine := Nat.le_trans h (by decide)
theorem sz6' {n : Nat} (h : n ≤ 100000) : n < sizeLine := Nat.lt_of_le_of_lt h (by decide)

/-- a new object: what is wanted of its place and of the heap with it -/
def Al (Q : VK) (o : HO) (H : Hp) : Prop := ∀ p, H p = none → Q (.ref p) (upd H p o)
theorem alI {Q : VK} {o : HO} {H : Hp} (h : ∀ p H', H p = none → Ex H H' → H' p = some o → Q (.ref p) H') : Al Q o H := fun p hp => h p _ hp (Ex.new hp) upd_same

/-! ### the steps -/
section
variable {K : PySem.W.Frag} {σ : L2.St} {H : Hp} {Q : VK} {QT : Bool → Hp → Prop} {QA : List V → Hp → Prop} {QO : Option Int → Hp → Prop} {ta tb tc te : TE} {tt tu : TT} {v x y : V} {r r' : R2} {D : Ends} {ts us : TS} {g : TG} {tA tR : TA}
theorem wVar {i : Nat} (h : σ[i]? = some (some v)) (k : Q v H) : tVar i σ H Q := ⟨v, h, k⟩
theorem wC (k : Q v H) : tC v σ H Q := k
theorem wOp (k : ta σ H fun x H1 => tb σ H1 fun y H2 => r x y H2 Q) : tOp r ta tb σ H Q := k
theorem wUn {r : V → Hp → VK → Prop} (k : ta σ H fun x H1 => r x H1 Q) : tUn r ta σ H Q := k
theorem wCB {r : List V → Hp → VK → Prop} (k : tA σ H fun vs H1 => r vs H1 Q) : tCB r tA σ H Q := k
theorem wNil (k : QA [] H) : tNil σ H QA := k
theorem wCons (k : ta σ H fun x H1 => tR σ H1 fun xs H2 => QA (x :: xs) H2) : tCons ta tR σ H QA := k
theorem wCall {sp : Sp} {dvs : List V} {E : XK} (k : tA σ H fun vs H1 => sp (vs ++ dvs) H1 Q E) : tCall sp dvs E tA σ H Q := k
theorem wTest (k : te σ H fun x H' => ∃ k, x = .bl k ∧ QT k H') : tTest te σ H QT := k
theorem wB (k : te σ H fun x H' => ∃ k, x = .bl k ∧ QT k H') : tB te σ H QT := k
theorem wAnd (k : tt σ H fun c H1 => if c = true then tu σ H1 QT else QT false H1) : tAnd tt tu σ H QT := k
theorem wOr (k : tt σ H fun c H1 => if c = true then QT true H1 else tu σ H1 QT) : tOr tt tu σ H QT := k
theorem wNot (k : tt σ H fun c H1 => QT (!c) H1) : tNot tt σ H QT := k
theorem wAndV (k : ta σ H fun x H1 => ∃ c, x = .bl c ∧ if c = true then tb σ H1 Q else Q (.bl false) H1) : tAndV ta tb σ H Q := k
theorem wOrV (k : ta σ H fun x H1 => ∃ c, x = .bl c ∧ if c = true then Q (.bl true) H1 else tb σ H1 Q) : tOrV ta tb σ H Q := k
theorem wNotV (k : ta σ H fun x H1 => ∃ c, x = .bl c ∧ Q (.bl (!c)) H1) : tNotV ta σ H Q := k
theorem wIf (k : tt σ H fun c H1 => if c = true then ta σ H1 Q else tb σ H1 Q) : tIf tt ta tb σ H Q := k
theorem wChain (k : ta σ H fun x H1 => tb σ H1 fun y H2 => r x y H2 fun z H3 => ∃ k, z = .bl k ∧ (if k = true then tc σ H3 fun w' H4 => r' y w' H4 Q else Q (.bl false) H3)) : tChain r r' ta tb tc σ H Q := k
theorem wTup (k : tA σ H fun xs H1 => xs.length ≤ sizeLine ∧ Al Q (.tup xs) H1) : tTup tA σ H Q := k
theorem wLst (k : tA σ H fun xs H1 => xs.length ≤ sizeLine ∧ Al Q (.lst xs) H1) : tLst tA σ H Q := k
theorem wDnew (k : Al Q (.dK []) H) : tDNewK σ H Q := k
theorem wSl {r : V → Option Int → Option Int → Hp → VK → Prop} {tl th : TO} (k : te σ H fun x H1 => tl σ H1 fun l H2 => th σ H2 fun u H3 => r x l u H3 Q) : tSl r te tl th σ H Q := k
theorem wPart (k : te σ H fun x H1 => ∃ i, x = .int i ∧ QO (some i) H1) : tPart te σ H QO := k
theorem wNoPart (k : QO none H) : tNoPart σ H QO := k
theorem wBM {T : String} {r : V → List V → Hp → VK → Prop} (k : ta σ H fun x H1 => tyV K T x H1 ∧ tA σ H1 fun xs H2 => r x xs H2 Q) : tBM K T r ta tA σ H Q := k
theorem wBM0 {T : String} {r : V → List V → Hp → VK → Prop} (k : ta σ H fun x H1 => tyV K T x H1 ∧ r x [] H1 Q) : tBM0 K T r ta σ H Q := k
theorem wM0 {r : V → List V → Hp → VK → Prop} (k : ta σ H fun x H1 => (∃ a, x = .str a) ∧ r x [] H1 Q) : tM0 r ta σ H Q := k
theorem wM1 {r : V → List V → Hp → VK → Prop} (k : ta σ H fun x H1 => (∃ a, x = .str a) ∧ tb σ H1 fun y H2 => r x [y] H2 Q) : tM1 r ta tb σ H Q := k
-- statements
theorem wSeq (k : ts { D with nx := us D } σ H) : tSeq ts us D σ H := k
theorem wAsg (k : te σ H fun x H1 => g x σ H1 D.nx) : tAsg te g D σ H := k
theorem wRet (k : te σ H D.rt) : tRet te D σ H := k
theorem wDrop (k : te σ H fun _ H1 => D.nx σ H1) : tDrop te D σ H := k
theorem wIfS (k : tt σ H fun b H1 => if b = true then ts D σ H1 else us D σ H1) : tIfS tt ts us D σ H := k
theorem wNext (k : D.nx σ H) : tNext D σ H := k
theorem wPar {i j : Nat} (k : tA σ H fun vs H1 => ∃ v w, vs = [v, w] ∧ D.nx ((σ.set i (some v)).set j (some w)) H1) : tPar i j tA D σ H := k
variable {QS : L2.St → Hp → Prop} {QH : Hp → Prop}
theorem wName {i : Nat} (k : QS (σ.set i (some v)) H) : gName i v σ H QS := k
theorem wSub {to ti : TE} {t : TSet} (k : to σ H fun o H1 => ti σ H1 fun i H2 => t o i v H2 fun H3 => QS σ H3) : gSub to ti t v σ H QS := k
theorem wGTup {n : Nat} {t : TGs} {a : Addr} {xs : List V} (h : SqT K H a xs) (hl : xs.length = n) (k : t xs σ H QS) : gTup K n t (.ref a) σ H QS := ⟨a, xs, rfl, h, hl, k⟩
theorem wGCons {t : TG} {u : TGs} {vs : List V} (k : t v σ H fun σ' H' => u vs σ' H' QS) : gCons t u (v :: vs) σ H QS := ⟨v, vs, rfl, k⟩
theorem wGNil (k : QS σ H) : gNil [] σ H QS := ⟨rfl, k⟩
-- operations
theorem wI0 {f : Int → Int → V} {i j : Int} (k : Q (f i j) H) : rI0 f (.int i) (.int j) H Q := ⟨i, j, rfl, rfl, k⟩
theorem wI {C : Int → Int → Prop} {f : Int → Int → V} {i j : Int} (c : C i j) (k : Q (f i j) H) : rI C f (.int i) (.int j) H Q := ⟨i, j, rfl, rfl, c, k⟩
theorem wU {f : Int → V} {i : Int} (k : Q (f i) H) : rU f (.int i) H Q := ⟨i, rfl, k⟩
theorem wEq (h : scal x y = true) (k : Q (.bl (decide (x = y))) H) : rEq x y H Q := ⟨h, k⟩
theorem wNe (h : scal x y = true) (k : Q (.bl (!decide (x = y))) H) : rNe x y H Q := ⟨h, k⟩
theorem wIxL {p : Addr} {xs : List V} {i : Int} (h : SqL K H p xs) (ha : atI xs i = some v) (k : Q v H) : rIxL K (.ref p) (.int i) H Q := ⟨p, xs, i, v, rfl, rfl, h, ha, k⟩
theorem wIxT {p : Addr} {xs : List V} {i : Int} (h : SqT K H p xs) (ha : atI xs i = some v) (k : Q v H) : rIxT K (.ref p) (.int i) H Q := ⟨p, xs, i, v, rfl, rfl, h, ha, k⟩
theorem wIxS {z : Str} {i : Int} {c : Nat} (h : z.length ≤ sizeLine) (ha : atI z.cps.toList i = some c) (k : Q (.str ⟨#[c]⟩) H) : rIxS (.str z) (.int i) H Q := ⟨z, i, c, rfl, rfl, h, ha, k⟩
theorem wSetL {p : Addr} {xs : List V} {k : Int} {j : Nat} (h : H p = some (.lst xs)) (hj : ixN xs.length k = some j) (q : QH (upd H p (.lst (xs.set j v)))) : rSetL (.ref p) (.int k) v H QH := ⟨p, xs, k, j, rfl, rfl, h, hj, q⟩
theorem wSlL {a : Addr} {xs : List V} {lo hi : Option Int} (h : SqL K H a xs) (k : Al Q (.lst (cutV xs lo hi)) H) : rSlL K (.ref a) lo hi H Q := ⟨a, xs, rfl, h, k⟩
theorem wSlS {z : Str} {lo hi : Option Int} (h : z.length ≤ sizeLine) (k : Q (.str (cutS z lo hi)) H) : rSlS (.str z) lo hi H Q := ⟨z, rfl, h, k⟩
theorem wAppend {l : Addr} {xs : List V} {y : V} (h : H l = some (.lst xs)) (hl : xs.length ≤ 100000) (k : Q .non (upd H l (.lst (xs ++ [y])))) : rAppend (.ref l) [y] H Q := ⟨l, xs, y, rfl, rfl, h, sz6' hl, k⟩
theorem wAppendI {H0 : Hp} {l : Addr} {xs : List V} {y : V} (h : H l = some (.lst xs)) (hl : xs.length ≤ 100000) (n : H0 l = none) (e : Ex H0 H) (k : ∀ H', Ex H0 H' → Kp l H H' → H' l = some (.lst (xs ++ [y])) → Q .non H') : rAppend (.ref l) [y] H Q :=
  ⟨l, xs, y, rfl, rfl, h, sz6' hl, k _ (e.mut n) Kp.set upd_same⟩
theorem anTyL {l : Addr} {xs : List V} {P : Prop} (h : H l = some (.lst xs)) (k : P) : tyV K "list" (.ref l) H ∧ P := ⟨.inl ⟨rfl, xs, SqL.of h⟩, k⟩
theorem wCat {a b : Addr} {xs ys : List V} (h1 : H a = some (.lst xs)) (h2 : H b = some (.lst ys)) (hl : xs.length + ys.length ≤ sizeLine) (k : Al Q (.lst (xs ++ ys)) H) : rCat (.ref a) (.ref b) H Q := ⟨a, b, xs, ys, rfl, rfl, h1, h2, hl, k⟩
theorem wLenL {a : Addr} {xs : List V} {P : Nat → Prop} (h : SqL K H a xs) (k : P xs.length) : ∃ x n, [V.ref a] = [x] ∧ LenV K x H n ∧ P n := ⟨_, _, rfl, .inl ⟨_, h, rfl⟩, k⟩
theorem wLenT {a : Addr} {xs : List V} {P : Nat → Prop} (h : SqT K H a xs) (k : P xs.length) : ∃ x n, [V.ref a] = [x] ∧ LenV K x H n ∧ P n := ⟨_, _, rfl, .inr ⟨_, h, rfl⟩, k⟩
theorem wLenS {z : Str} {P : Nat → Prop} (h : z.length ≤ sizeLine) (k : P z.length) : ∃ x n, [V.str z] = [x] ∧ LenV K x H n ∧ P n := ⟨_, _, rfl, ⟨h, rfl⟩, k⟩
theorem exI1 {i : Int} {P : Int → Prop} (k : P i) : ∃ j, [V.int i] = [V.int j] ∧ P j := ⟨i, rfl, k⟩
theorem exI2 {i j : Int} {P : Int → Int → Prop} (k : P i j) : ∃ a b, [V.int i, V.int j] = [V.int a, V.int b] ∧ P a b := ⟨i, j, rfl, k⟩
theorem wAll {a : Addr} {bs : List Bool} (h : SqL K H a (bs.map V.bl)) (k : Q (.bl (bs.all id)) H) : rAll K [.ref a] H Q := ⟨a, bs, rfl, h, k⟩
theorem wAny {a : Addr} {bs : List Bool} (h : SqL K H a (bs.map V.bl)) (k : Q (.bl (bs.any id)) H) : rAny K [.ref a] H Q := ⟨a, bs, rfl, h, k⟩
theorem exBl {b : Bool} {P : Bool → Prop} (h : P b) : ∃ k, V.bl b = V.bl k ∧ P k := ⟨b, rfl, h⟩
theorem exInt {i : Int} {P : Int → Prop} (h : P i) : ∃ k, V.int i = V.int k ∧ P k := ⟨i, rfl, h⟩
theorem exStr {z : Str} {P : Str → Prop} (h : P z) : ∃ k, V.str z = V.str k ∧ P k := ⟨z, rfl, h⟩
theorem exSS {a b : Str} {P : Str → Str → Prop} (h : P a b) : ∃ i j, V.str a = V.str i ∧ V.str b = V.str j ∧ P i j := ⟨a, b, rfl, rfl, h⟩
theorem exCS {c : Nat} {b : Str} {P : Nat → Str → Prop} (h : P c b) : ∃ i j, V.str ⟨#[c]⟩ = V.str ⟨#[i]⟩ ∧ V.str b = V.str j ∧ P i j := ⟨c, b, rfl, rfl, h⟩
theorem anSum {a b : Nat} {P : Prop} (h : a + b ≤ sizeLine) (k : P) : a + b ≤ sizeLine ∧ P := ⟨h, k⟩
theorem anStr {z : Str} {P : Prop} (h : P) : (∃ a, V.str z = V.str a) ∧ P := ⟨⟨z, rfl⟩, h⟩
theorem anSz {n : Nat} {P : Prop} (h : n ≤ 100000) (k : P) : n ≤ sizeLine ∧ P := ⟨sz6 h, k⟩
theorem exTwo {v w : V} {P : V → V → Prop} (h : P v w) : ∃ a b, [v, w] = [a, b] ∧ P a b := ⟨v, w, rfl, h⟩
end
/-- a chain's comparison of two ints, of texts -/
theorem wLeS {i j : Str} {H : Hp} {Q : VK} (k : Q (.bl (!decide (j.cps.toList < i.cps.toList))) H) : (fun x y H Q => ∃ i j, x = V.str i ∧ y = V.str j ∧ Q (.bl (!decide (j.cps.toList < i.cps.toList))) H : R2) (.str i) (.str j) H Q := ⟨i, j, rfl, rfl, k⟩

/-! ### small rules of our own -/
/-- a text so many times -/
def rMulS : R2 := fun x y H Q => ∃ (z : Str) (n : Nat), x = .str z ∧ y = .int n ∧ 1 < n ∧ n ≤ 100 ∧ 0 < z.length ∧ z.length ≤ 1000 ∧ ∀ u : Str, u.cps.toList = (List.replicate n z.cps.toList).flatten → Q (.str u) H
theorem fold_cps (z : Str) : ∀ (n : Nat) (a : Array Nat), ((List.replicate n z.cps).foldl (· ++ ·) a).toList = a.toList ++ (List.replicate n z.cps.toList).flatten
  | 0, a => by simp
  | n + 1, a => by
    rw [List.replicate_succ, List.foldl_cons, fold_cps z n, List.replicate_succ, List.flatten_cons, Array.toList_append, List.append_assoc]
theorem op_mulS {X : Cx} : OpR X (binaryOp .Mult) rMulS := by
  intro pins s σ H x y v u Q I rx ry h
  obtain ⟨z, n, rfl, rfl, h1, h2, h3, h4, q⟩ := h
  obtain ⟨t, rfl⟩ := rx
  obtain ⟨t', rfl⟩ := ry
  have e1 : ¬ ((n : Int) < 1) := by omega
  have e2 : ((n : Int) == 1 || z.length == 0) = false := by
    rw [Bool.or_eq_false_iff]
    exact ⟨beq_eq_false_iff_ne.mpr (by omega), beq_eq_false_iff_ne.mpr (by omega)⟩
  have e3 : z.length * n ≤ 1000 * 100 := Nat.mul_le_mul h4 h2
  refine PySem.P.mul_str ?_ (fun _ _ => ?_) (fun _ _ => ?_) ?_
  · rw [decide_eq_false (by omega), decide_eq_false (by omega)]; rfl
  · have e4 : (92233720368547758 : Int) ≤ (2 ^ 63 - 1) / (n : Int) := by
      refine Int.le_ediv_of_mul_le (by omega) ?_
      have : (92233720368547758 : Int) * n ≤ 92233720368547758 * 100 := Int.mul_le_mul_of_nonneg_left (by omega) (by decide)
      omega
    omega
  · show decide (z.length * ((n : Int)).toNat > sizeLine) = false
    rw [Int.toNat_natCast]
    exact decide_eq_false (by have := sz6 (n := z.length * n) (by omega); omega)
  · rw [if_neg e1, e2]
    rw [if_neg (by decide)]
    have e5 : ((List.replicate ((n : Int)).toNat z.cps).foldl (· ++ ·) #[]).toList = (List.replicate n z.cps.toList).flatten := by
      rw [fold_cps, Int.toNat_natCast]
      simp
    refine ⟨?_, ?_⟩
    · have e6 : ((List.replicate ((n : Int)).toNat z.cps).foldl (· ++ ·) #[]).size = n * z.length := by
        rw [← Array.length_toList, e5, List.length_flatten, List.map_replicate, List.sum_replicate_nat]
        rfl
      refine Nat.le_trans (Nat.le_of_eq e6) (sz6 ?_)
      rw [Nat.mul_comm]
      exact e3
    · exact ⟨.str _, H, I.tok _, ⟨_, rfl⟩, q _ e5⟩
/-- // by any number that is not too great -/
def CDivZ (_ j : Int) : Prop := j ≠ 0 ∧ j.natAbs.log2 < 9000
theorem op_fdivZ {X : Cx} : OpR X (binaryOp .FloorDiv) (rI CDivZ fun i j => .int (i.fdiv j)) := opI fun _ _ _ _ _ _ _ hc q => floordiv_int hc.1 q (.inl (PyProof.noPylong_of_log2 hc.2))
theorem divz {i j : Int} {n : Nat} (h : j ≠ 0) (hb : j.natAbs < 2 ^ n) (h0 : 0 < n) (h9 : n ≤ 9000) : CDivZ i j := ⟨h, Nat.lt_of_lt_of_le (PySem.Flt.log2_lt_of h0 hb) h9⟩
theorem wWhile {c : TT} {tb : TS} {D : Ends} {σ : L2.St} {H : Hp} (k : ∃ W : Nat → L2.St → Hp → Prop, (∃ m, W m σ H) ∧ ∀ m σ H, W m σ H →
    c σ H fun b H1 => if b = true then ∃ N : L2.St → Hp → Prop, (∀ σ' H', N σ' H' → ∃ m', m' < m ∧ W m' σ' H') ∧ tb { D with nx := N, ct := N, bk := D.nx } σ H1 else D.nx σ H1) : tWhile c tb D σ H := k
theorem wOrT {K : PySem.W.Frag} {ta tb : TE} {σ : L2.St} {H : Hp} {Q : VK} (k : ta σ H fun x H1 => ∃ k, TruV K x H1 k ∧ if k = true then Q x H1 else tb σ H1 Q) : tOrT K ta tb σ H Q := k
theorem wCut {t u : TS} {D : Ends} {σ : L2.St} {H : Hp} (Mid : L2.St → Hp → Prop) (h : t { D with nx := Mid } σ H) (k : ∀ σ' H', Mid σ' H' → u D σ' H') : C8.tCut t u D σ H := ⟨Mid, h, k⟩
/-- == of things at any depth, by their data -/
theorem wNeD {K : PySem.W.Frag} {H : Hp} {Q : VK} {x y : V} {d e : PyData} (h1 : Dp K H x d) (h2 : Dp K H y e) (s1 : SeqAt.shaped d = true) (s2 : SeqAt.shaped e = true) (k : Q (.bl (!PyData.eqv d e)) H) : rNeD K x y H Q := ⟨d, e, h1, h2, s1, s2, k⟩
theorem wEqD {K : PySem.W.Frag} {H : Hp} {Q : VK} {x y : V} {d e : PyData} (h1 : Dp K H x d) (h2 : Dp K H y e) (s1 : SeqAt.shaped d = true) (s2 : SeqAt.shaped e = true) (k : Q (.bl (PyData.eqv d e)) H) : rEqD K x y H Q := ⟨d, e, h1, h2, s1, s2, k⟩
theorem dpPair {K : PySem.W.Frag} {H : Hp} {a : Addr} {p q : Int} (h : H a = some (.tup [.int p, .int q])) : Dp K H (.ref a) (.tuple [.int p, .int q]) := .tup (SqT.of h) (.cons (.int p) (.cons (.int q) .nil))
theorem eqvPair (p q : Int) : PyData.eqv (.tuple [.int p, .int q]) (.tuple [.int p, .int q]) = true := by
  rw [SeqAt.eqv_refl]
  rfl
/-! ### the library's rules with the written part named (in a comprehension's block it must not hang on the block) -/
section
variable {X : Cx} {K : PySem.W.Frag}
theorem ix_listV (h : X.K = K) : IxR X (rIxL K) := h ▸ ix_list
theorem ix_tupV (h : X.K = K) : IxR X (rIxT K) := h ▸ ix_tup
theorem sl_listV (h : X.K = K) : SlR X (rSlL K) := h ▸ sl_list
theorem sl_tupV (h : X.K = K) : SlR X (rSlA K) := h ▸ sl_tupA
theorem call_isiV (h : X.K = K) : CallR X (.builtin "isinstance") (rIsi K) := h ▸ call_isi
theorem call_lenV (h : X.K = K) : CallR X (.builtin "len") (fun xs H Q => ∃ x n, xs = [x] ∧ LenV K x H n ∧ Q (.int n) H) := h ▸ call_len
theorem cr_allV (h : X.K = K) (hc : X.calm = true) : CallR X (.builtin "all") (rAll K) := h ▸ cr_all hc
theorem cr_anyV (h : X.K = K) (hc : X.calm = true) : CallR X (.builtin "any") (rAny K) := h ▸ cr_any hc
theorem op_in_seqV (h : X.K = K) : OpR X (compareOp .In) (rIn K false) := h ▸ op_in_seq
theorem op_notIn_seqV (h : X.K = K) : OpR X (compareOp .NotIn) (rIn K true) := h ▸ op_notIn_seq
theorem op_eqDV (h : X.K = K) (hu : X.A.units + 64 < cLine) : OpR X (compareOp .Eq) (rEqD K) := h ▸ op_eqD hu
theorem op_neDV (h : X.K = K) (hu : X.A.units + 64 < cLine) : OpR X (compareOp .NotEq) (rNeD K) := h ▸ op_neD hu
theorem op_catTV (h : X.K = K) : OpR X (binaryOp .Add) (rCatA K) := h ▸ op_catA
theorem op_repTV (h : X.K = K) : OpR X (binaryOp .Mult) (rRepT K) := h ▸ op_repT
theorem pi_listV {tg l : Expr} {tl : TE} (h : X.K = K) (hl : PE X l tl) : PI X tg l (iList K tl) := h ▸ pi_list hl
theorem pi_tupV {tg l : Expr} {tl : TE} (h : X.K = K) (hl : PE X l tl) : PI X tg l (iTup K tl) := h ▸ pi_tup hl
theorem pg_tupV {es : List Expr} {k n : Nat} {t : TGs} {pos : Pos} (hK : X.K = K) (hc : X.calm = true) (h : PGs X es t)
    (hn : (assignEach es X.env).length = n) (hst : (assignEach es X.env).findIdx? (·.1) = none := by rfl) : PG X (.Tuple es k pos) (gTup K n t) := hK ▸ pg_tup hc h hn hst
end
section
variable {X : Cx} {CX : CXT} {k n : Nat} {f : Addr} {fd : FuncData} {ps ks : List Str} {sp : Sp} {E : XK} {x : Str} {p pos : Pos} {e : Expr} {es : List Expr} {kws : List Keyword} {t tk : TA} {g : List Value → List Value → List Value} {gV : List V → List V → List V}
/-- f(k = v, ..), by names alone -/
theorem pe_callN0 (F : FnOk X.prog X.w X.K X.mg X.base CX k f fd ps sp) (hr : Room k X.A) (hg : Gl X x) (hm : X.mg x = some (.ref f)) (hk : PySem.W.keepIn X.K (.ref f) = true) (hb : KBn X.K fd ps 0 ks g gV) (hx : Passes CX X E)
    (hkw : PK X kws tk) (hall : (backToKw pos (keywordEach kws X.env)).all (·.1.isSome) = true := by rfl) (hks : (backToKw pos (keywordEach kws X.env)).filterMap (·.1) = ks := by rfl)
    (hdb : (x == ("__debug__" : Str)) = false := by decide)
    (hpl : ((backTo pos (starEach [] X.env)).any (·.1) || (backToKw pos (keywordEach kws X.env)).any (·.1.isNone)) = false := by rfl) :
    PE X (.Call (.Name x p) [] kws pos) (tCallN 0 ks.length sp gV E tNil tk) := by
  refine ⟨fun pins s σ H Q I h => ?_⟩
  refine wpAny_Call_Name_kw (ld_glob I hg hm ?_ hdb)
  refine PySem.W.callWith_KW0 (h₀ := X.base) I.ok.mod.kin hk hall ?_ hpl
  have h : tk σ H fun zs H2 => ([] : List V).length = 0 ∧ zs.length = ks.length ∧ sp (gV [] zs) H2 Q E := h
  refine thn (hkw.run pos pins s σ H _ I h) fun ws s2 ⟨zs, H2, I2, rz, l1, l2, q2⟩ => ⟨I2.kIn, ?_⟩
  rw [hks]
  exact run_fnN (us := []) F hr hb hx I2 .nil rz l1 l2 q2
theorem wCallN {n m : Nat} {σ : L2.St} {H : Hp} {Q : VK} (k : t σ H fun vs H1 => tk σ H1 fun zs H2 => vs.length = n ∧ zs.length = m ∧ sp (gV vs zs) H2 Q E) : tCallN n m sp gV E t tk σ H Q := k
end
/-- the values named in another turn: by the parameters' order -/
def pick {α : Type} (ks : List Nat) (zs : List α) : List α := ks.filterMap fun k => zs[k]?
theorem pick_rel {zs : List V} {ws : List Value} (r : Vals zs ws) : ∀ ks : List Nat, Vals (pick ks zs) (pick ks ws)
  | [] => .nil
  | k :: ks => by
    unfold pick
    cases e : zs[k]? with
    | none =>
      rw [List.filterMap_cons_none e, List.filterMap_cons_none (r.none_of e)]
      exact pick_rel r ks
    | some x =>
      obtain ⟨u, hu, ru⟩ := r.get e
      rw [List.filterMap_cons_some e, List.filterMap_cons_some hu]
      exact .cons ru (pick_rel r ks)
/-- a call by names of a def with defaults (none of them by name alone) -/
theorem kbnD {K : PySem.W.Frag} {x qual : Str} {params : Arguments} {body : List Stmt} {scope : Scope} {dvs : List V} {f : Addr} {fd : FuncData} {ps : List Str} (F : FunD K x qual params body scope dvs [] f fd) (n : Nat) (ks : List Str)
    (g : {α : Type} → List α → List α → List α → List α) (hd : dvs ≠ []) (hrel : ∀ {vs ds zs : List V} {us its ws : List Value}, Vals vs us → Vals ds its → Vals zs ws → Vals (g vs ds zs) (g us its ws))
    (h : ∀ (T : Addr) (kV doc pm : Value) (an : Option Addr) (cdv ct : Value) (us its ws : List Value), us.length = n → its.length = dvs.length → ws.length = ks.length →
      ∃ k, bindArgs (PySem.W.fnOf x qual params body scope (.ref T) kV doc pm an cdv ct) ⟨us, ks.zip ws⟩ = seqItems? (.ref T) >>= k ∧ k (some its.toArray) = pure (ps.zip (g us its ws))) :
    ∃ its : List Value, KBn K fd ps n ks (fun us ws => g us its ws) (fun vs zs => g vs dvs zs) := by
  obtain ⟨oc, od, dV, kV, doc, pm, an, cdv, ct, osl, rfl, lk, hcd, hD, hK⟩ := F.ex
  rcases hD with ⟨e, _⟩ | ⟨_, T, o, its, m, rfl, lT, oT, rT⟩
  · exact absurd e hd
  · refine ⟨its, fun s us ws X l1 l2 => ?_, fun r1 r2 => hrel r1 rT r2⟩
    obtain ⟨k, e1, e2⟩ := h T kV doc pm an cdv ct us its ws l1 rT.length.symm l2
    refine BindsTo.of_looks fun M => ?_
    rw [e1]
    exact looks_items X lT oT (.of_pure e2)
/-- all of its parameters by place -/
theorem bndD {K : PySem.W.Frag} {x qual : Str} {params : Arguments} {body : List Stmt} {scope : Scope} {dvs : List V} {f : Addr} {fd : FuncData} {ps : List Str} (F : FunD K x qual params body scope dvs [] f fd) (hd : dvs ≠ [])
    (h : ∀ (T : Addr) (kV doc pm : Value) (an : Option Addr) (cdv ct : Value) (us its : List Value), us.length = ps.length → its.length = dvs.length →
      ∃ k, bindArgs (PySem.W.fnOf x qual params body scope (.ref T) kV doc pm an cdv ct) ⟨us, []⟩ = seqItems? (.ref T) >>= k ∧ k (some its.toArray) = pure (ps.zip (us ++ its.drop dvs.length))) : Binds K fd ps [] := by
  obtain ⟨ds, r, b⟩ := F.binds1 ps.length dvs.length hd (by omega) h
  rw [List.drop_length] at r
  cases r
  exact b
/-! ### isinstance -/
/-- a value's type by its name -/
inductive Ty (K : PySem.W.Frag) (H : Hp) : V → String → Prop where
  | non : Ty K H .non "NoneType"
  | bl (x : Bool) : Ty K H (.bl x) "bool"
  | int (i : Int) : Ty K H (.int i) "int"
  | str (x : Str) : Ty K H (.str x) "str"
  | lst {a : Addr} {xs : List V} (e : H a = some (.lst xs)) : Ty K H (.ref a) "list"
  | tup {a : Addr} {xs : List V} (e : H a = some (.tup xs)) : Ty K H (.ref a) "tuple"
  | dK {a : Addr} {kvs : List (Key × V)} (e : H a = some (.dK kvs)) : Ty K H (.ref a) "dict"
  | kT {a : Addr} {o : Obj} (e : K.lookup a = some o) (c : o.cls = .type "tuple") : Ty K H (.ref a) "tuple"
theorem Ty.x {K : PySem.W.Frag} {H : Hp} {v : V} {n : String} (h : Ty K H v n) : TyX K H v (.type n) := by
  cases h with
  | non => exact .base .non
  | bl x => exact .base (.bl x)
  | int x => exact .base (.int x)
  | str x => exact .base (.str x)
  | lst e => exact .base (.lst e)
  | tup e => exact .base (.tup e)
  | dK e => exact .base (.dK e)
  | kT e c => exact .kTuple e c
theorem Ty.ex {K : PySem.W.Frag} {H H' : Hp} {v : V} {n : String} (x : Ex H H') (h : Ty K H v n) : Ty K H' v n := by
  cases h with
  | non => exact .non
  | bl x => exact .bl x
  | int x => exact .int x
  | str x => exact .str x
  | lst e => exact .lst (x _ _ e)
  | tup e => exact .tup (x _ _ e)
  | dK e => exact .dK (x _ _ e)
  | kT e c => exact .kT e c
theorem wIsi {K : PySem.W.Frag} {H : Hp} {Q : VK} {v : V} {n T : String} {b : Bool} (h : Ty K H v n) (hb : kitB n T = some b) (k : Q (.bl b) H) : rIsi K [v, .ty T] H Q :=
  ⟨v, .ty T, .type n, .type T, b, rfl, .ty T, h.x, kit_ty hb, k⟩


theorem iteNT {A B : Prop} (h : B) : if (!true) = true then A else B := h
theorem iteNF {A B : Prop} (h : A) : if (!false) = true then A else B := h
def isStr : V → Bool
  | .str _ => true
  | _ => false
theorem Ty.str_is {K : PySem.W.Frag} {H : Hp} {v : V} {n : String} (h : Ty K H v n) : kitB n "str" = some (isStr v) := by
  have e1 : kitB "NoneType" "str" = some false := by decide +kernel
  have e2 : kitB "bool" "str" = some false := by decide +kernel
  have e3 : kitB "int" "str" = some false := by decide +kernel
  have e4 : kitB "str" "str" = some true := by decide +kernel
  have e5 : kitB "list" "str" = some false := by decide +kernel
  have e6 : kitB "tuple" "str" = some false := by decide +kernel
  have e7 : kitB "dict" "str" = some false := by decide +kernel
  cases h <;> first | exact e1 | exact e2 | exact e3 | exact e4 | exact e5 | exact e6 | exact e7
theorem wIsiS {K : PySem.W.Frag} {H : Hp} {Q : VK} {z : Str} (k : Q (.bl true) H) : rIsi K [.str z, .ty "str"] H Q := wIsi (.str z) (by decide +kernel) k
theorem wIsiB {K : PySem.W.Frag} {H : Hp} {Q : VK} {b : Bool} (k : Q (.bl true) H) : rIsi K [.bl b, .ty "bool"] H Q := wIsi (.bl b) (by decide +kernel) k

/-- a thing whose kind is known, a text not too long -/
structure Thing (K : PySem.W.Frag) (H : Hp) (v : V) : Prop where
  ty : ∃ n, Ty K H v n
  sz : ∀ z, v = .str z → z.length ≤ 1000
theorem Thing.ex {K : PySem.W.Frag} {H H' : Hp} {v : V} (e : Ex H H') (t : Thing K H v) : Thing K H' v := ⟨let ⟨n, h⟩ := t.ty; ⟨n, h.ex e⟩, t.sz⟩
section
variable {K : PySem.W.Frag}
theorem Thing.s {z : Str} {H : Hp} (h : z.length ≤ 1000) : Thing K H (.str z) := ⟨⟨_, .str z⟩, fun y e => by cases e; exact h⟩
theorem Thing.i {i : Int} {H : Hp} : Thing K H (.int i) := ⟨⟨_, .int i⟩, fun y e => by cases e⟩
theorem Thing.b {b : Bool} {H : Hp} : Thing K H (.bl b) := ⟨⟨_, .bl b⟩, fun y e => by cases e⟩
theorem Thing.n {H : Hp} : Thing K H .non := ⟨⟨_, .non⟩, fun y e => by cases e⟩
theorem Thing.t {H : Hp} {a : Addr} {xs : List V} (h : H a = some (.tup xs)) : Thing K H (.ref a) := ⟨⟨_, .tup h⟩, fun y e => by cases e⟩
theorem Thing.l {H : Hp} {a : Addr} {xs : List V} (h : H a = some (.lst xs)) : Thing K H (.ref a) := ⟨⟨_, .lst h⟩, fun y e => by cases e⟩
theorem Thing.d {H : Hp} {a : Addr} {kvs : List (Key × V)} (h : H a = some (.dK kvs)) : Thing K H (.ref a) := ⟨⟨_, .dK h⟩, fun y e => by cases e⟩
end

/-! ### loops and comprehensions -/
/-- what a comprehension's reading asks behind its source -/
abbrev LcG (J : It) (g : TG) (tt : TT) (te : TE) (vs : List Nat) (σ : L2.St) (H1 : Hp) (Q : VK) (D : Addr) : Prop :=
  ∃ W : Nat → Nat → Hp → Prop, (∃ m, W 0 m (upd H1 D (.lst []))) ∧ ∀ i m H, W i m H →
    (J.stop i H ∧ Q (.ref D) H) ∨ (J.go i H ∧ ∃ Nx : Hp → Prop, (∀ H', Nx H' → ∃ m', m' < m ∧ W (i + 1) m' H') ∧ ∀ x H', J.yld i H x H' → g x (wipe σ vs) H' fun σ2 H2 => wipe σ2 vs = wipe σ vs ∧ tt σ2 H2 fun b H3 =>
      if b = true then te σ2 H3 fun y H4 => ∃ acc, H4 D = some (.lst acc) ∧ acc.length < sizeLine ∧ Nx (upd H4 D (.lst (acc ++ [y]))) else Nx H3)
abbrev ForG (J : It) (g : TG) (tb : TS) (D : Ends) (σ : L2.St) (H1 : Hp) : Prop :=
  ∃ W : Nat → Nat → L2.St → Hp → Prop, (∃ m, W 0 m σ H1) ∧ ∀ i m σ H, W i m σ H →
    (J.stop i H ∧ D.nx σ H) ∨ (J.go i H ∧ ∃ N : L2.St → Hp → Prop, (∀ σ' H', N σ' H' → ∃ m', m' < m ∧ W (i + 1) m' σ' H') ∧ ∀ x H', J.yld i H x H' → g x σ H' fun σ2 H2 => tb { D with nx := N, ct := N, bk := D.nx } σ2 H2)
section
variable {K : PySem.W.Frag} {wi : TI} {g : TG} {tt : TT} {te tl : TE} {tb : TS} {vs : List Nat} {σ : L2.St} {H H1 : Hp} {Q : VK} {E : Ends} {D : Addr} {ta : TA}
theorem wLc (k : wi σ H fun J H1 => ∀ D, H1 D = none → LcG J g tt te vs σ H1 Q D) : tLc wi g tt te vs σ H Q := k
theorem wFor (k : wi σ H fun J H1 => ForG J g tb E σ H1) : tFor wi g tb E σ H := k
variable {R : It → Hp → Prop}
theorem wIList (k : tl σ H fun x H1 => ∃ a, x = .ref a ∧ (∃ xs, SqL K H1 a xs) ∧ R (Itl K a) H1) : iList K tl σ H R := k
theorem wITup (k : tl σ H fun x H1 => ∃ a, x = .ref a ∧ (∃ xs, SqT K H1 a xs) ∧ R (Itt K a) H1) : iTup K tl σ H R := k
theorem wIStr (k : tl σ H fun x H1 => ∃ z, x = .str z ∧ R (Its z) H1) : iStr tl σ H R := k
theorem wIRng1 (k : ta σ H fun vs H1 => ∃ j : Int, vs = [.int j] ∧ -(2 ^ 62) ≤ j ∧ j < 2 ^ 62 ∧ R (Itr 0 j.toNat) H1) : iRng1 ta σ H R := k
theorem exSq {p : Addr} {xs : List V} {P : Addr → Prop} (h : SqL K H p xs) (k : P p) : ∃ a, V.ref p = V.ref a ∧ (∃ xs, SqL K H a xs) ∧ P a := ⟨p, rfl, ⟨xs, h⟩, k⟩
theorem exSt {p : Addr} {xs : List V} {P : Addr → Prop} (h : SqT K H p xs) (k : P p) : ∃ a, V.ref p = V.ref a ∧ (∃ xs, SqT K H a xs) ∧ P a := ⟨p, rfl, ⟨xs, h⟩, k⟩
theorem exRng {n : Int} {P : Int → Prop} (h0 : -1000000 ≤ n) (h1 : n ≤ 1000000) (k : P n) : ∃ j : Int, [V.int n] = [V.int j] ∧ -(2 ^ 62) ≤ j ∧ j < 2 ^ 62 ∧ P j := ⟨n, rfl, by omega, by omega, k⟩

/-- over a text -/
theorem lc_str {z : Str} {Qd : Hp → Prop} (Pv : Nat → Hp → Prop) (h0 : Pv 0 (upd H1 D (.lst [])))
    (hs : ∀ i c H, z.cps[i]? = some c → Pv i H → g (.str ⟨#[c]⟩) (wipe σ vs) H fun σ2 H2 => wipe σ2 vs = wipe σ vs ∧ tt σ2 H2 fun b H3 =>
      if b = true then te σ2 H3 fun y H4 => ∃ acc, H4 D = some (.lst acc) ∧ acc.length < sizeLine ∧ Pv (i + 1) (upd H4 D (.lst (acc ++ [y]))) else Pv (i + 1) H3) (hd : ∀ H, Pv z.cps.size H → Qd H) :
    ∃ W : Nat → Nat → Hp → Prop, (∃ m, W 0 m (upd H1 D (.lst []))) ∧ ∀ i m H, W i m H →
      ((Its z).stop i H ∧ Qd H) ∨ ((Its z).go i H ∧ ∃ Nx : Hp → Prop, (∀ H', Nx H' → ∃ m', m' < m ∧ W (i + 1) m' H') ∧ ∀ x H', (Its z).yld i H x H' → g x (wipe σ vs) H' fun σ2 H2 => wipe σ2 vs = wipe σ vs ∧ tt σ2 H2 fun b H3 =>
        if b = true then te σ2 H3 fun y H4 => ∃ acc, H4 D = some (.lst acc) ∧ acc.length < sizeLine ∧ Nx (upd H4 D (.lst (acc ++ [y]))) else Nx H3) := by
  refine ⟨fun i m H => m = z.cps.size - i ∧ i ≤ z.cps.size ∧ Pv i H, ⟨z.cps.size, by simp, Nat.zero_le _, h0⟩, ?_⟩
  rintro i m H ⟨rfl, hi, p⟩
  by_cases hlt : i < z.cps.size
  · refine .inr ⟨hlt, Pv (i + 1), fun H' p' => ⟨z.cps.size - (i + 1), by omega, rfl, hlt, p'⟩, fun x H' y => ?_⟩
    obtain ⟨e, c, hc, rfl⟩ := y
    subst e
    exact hs i c _ hc p
  · have e : i = z.cps.size := by omega
    subst e
    exact .inl ⟨Nat.le_refl _, hd H p⟩
/-- the list that a comprehension has made so far: i items, each as R says, the heap as I says -/
structure LcP (I : Hp → Prop) (R : Nat → V → Hp → Prop) (D : Addr) (i : Nat) (H : Hp) : Prop where
  inv : I H
  made : ∃ acc, H D = some (.lst acc) ∧ acc.length = i ∧ ∀ j y, acc[j]? = some y → R j y H
theorem LcP.start {I : Hp → Prop} {R : Nat → V → Hp → Prop} (h : I (upd H1 D (.lst []))) : LcP I R D 0 (upd H1 D (.lst [])) := ⟨h, [], upd_same, rfl, fun j y e => by simp at e⟩
theorem LcP.next {I : Hp → Prop} {R : Nat → V → Hp → Prop} {i : Nat} {y : V} {acc : List V} (hD : H1 D = some (.lst acc)) (hl : acc.length = i) (hi : I (upd H1 D (.lst (acc ++ [y])))) (hR : ∀ j z, acc[j]? = some z → R j z (upd H1 D (.lst (acc ++ [y])))) (hy : R i y (upd H1 D (.lst (acc ++ [y])))) :
    LcP I R D (i + 1) (upd H1 D (.lst (acc ++ [y]))) := by
  refine ⟨hi, acc ++ [y], upd_same, by simp [hl], fun j z e => ?_⟩
  by_cases hj : j < acc.length
  · rw [List.getElem?_append_left hj] at e
    exact hR j z e
  · rw [List.getElem?_append_right (by omega)] at e
    have h0 : j - acc.length = 0 := by
      cases q : j - acc.length with
      | zero => rfl
      | succ n => rw [q] at e; simp at e
    rw [h0] at e
    have e1 : y = z := by simpa using e
    have e2 : j = i := by omega
    rw [← e1, e2]
    exact hy
theorem lcStr {z : Str} {slot : Nat} (I : Hp → Prop) (R : Nat → V → Hp → Prop) (hz : z.cps.size ≤ 100000) (hw : ∀ c, wipe ((wipe σ vs).set slot (some c)) vs = wipe σ vs) (h0 : I (upd H1 D (.lst [])))
    (hs : ∀ i c, z.cps[i]? = some c → ∀ H acc, I H → H D = some (.lst acc) → acc.length = i → (∀ j y, acc[j]? = some y → R j y H) →
      te ((wipe σ vs).set slot (some (.str ⟨#[c]⟩))) H fun y H' => ∃ acc', H' D = some (.lst acc') ∧ acc'.length < sizeLine ∧ LcP I R D (i + 1) (upd H' D (.lst (acc' ++ [y]))))
    (k : ∀ H ys, I H → H D = some (.lst ys) → ys.length = z.cps.size → (∀ j y, ys[j]? = some y → R j y H) → Q (.ref D) H) : LcG (Its z) (gName slot) tYes te vs σ H1 Q D := by
  refine lc_str (LcP I R D) (.start h0) (fun i c H hc P => ?_) (fun H P => ?_)
  · obtain ⟨hI, acc, hD, hl, hR⟩ := P
    exact ⟨hw _, hs i c hc H acc hI hD hl hR⟩
  · obtain ⟨hI, acc, hD, hl, hR⟩ := P
    exact k H acc hI hD hl hR
theorem lcList {a : Addr} {xs : List V} {slot : Nat} (I : Hp → Prop) (R : Nat → V → Hp → Prop) (hw : ∀ c, wipe ((wipe σ vs).set slot (some c)) vs = wipe σ vs) (h0 : I (upd H1 D (.lst []))) (hS : ∀ H, I H → SqL K H a xs)
    (hs : ∀ i x, xs[i]? = some x → ∀ H acc, I H → H D = some (.lst acc) → acc.length = i → (∀ j y, acc[j]? = some y → R j y H) →
      te ((wipe σ vs).set slot (some x)) H fun y H' => ∃ acc', H' D = some (.lst acc') ∧ acc'.length < sizeLine ∧ LcP I R D (i + 1) (upd H' D (.lst (acc' ++ [y]))))
    (k : ∀ H ys, I H → H D = some (.lst ys) → ys.length = xs.length → (∀ j y, ys[j]? = some y → R j y H) → Q (.ref D) H) : LcG (Itl K a) (gName slot) tYes te vs σ H1 Q D := by
  refine lc_list (K := K) (a := a) (xs := xs) (LcP I R D) (.start h0) (fun i H _ P => hS H P.inv) (fun i x H hx P => ?_) (fun H P => ?_)
  · obtain ⟨hI, acc, hD, hl, hR⟩ := P
    exact ⟨hw _, hs i x hx H acc hI hD hl hR⟩
  · obtain ⟨hI, acc, hD, hl, hR⟩ := P
    exact k H acc hI hD hl hR
theorem lcListG {a : Addr} {xs : List V} (I : Hp → Prop) (R : Nat → V → Hp → Prop) (h0 : I (upd H1 D (.lst []))) (hS : ∀ H, I H → SqL K H a xs)
    (hs : ∀ i x, xs[i]? = some x → ∀ H acc, I H → H D = some (.lst acc) → acc.length = i → (∀ j y, acc[j]? = some y → R j y H) →
      g x (wipe σ vs) H fun σ2 H2 => wipe σ2 vs = wipe σ vs ∧ te σ2 H2 fun y H' => ∃ acc', H' D = some (.lst acc') ∧ acc'.length < sizeLine ∧ LcP I R D (i + 1) (upd H' D (.lst (acc' ++ [y]))))
    (k : ∀ H ys, I H → H D = some (.lst ys) → ys.length = xs.length → (∀ j y, ys[j]? = some y → R j y H) → Q (.ref D) H) : LcG (Itl K a) g tYes te vs σ H1 Q D := by
  refine lc_list (K := K) (a := a) (xs := xs) (LcP I R D) (.start h0) (fun i H _ P => hS H P.inv) (fun i x H hx P => ?_) (fun H P => ?_)
  · obtain ⟨hI, acc, hD, hl, hR⟩ := P
    exact hs i x hx H acc hI hD hl hR
  · obtain ⟨hI, acc, hD, hl, hR⟩ := P
    exact k H acc hI hD hl hR
theorem lcTup {a : Addr} {xs : List V} {slot : Nat} (I : Hp → Prop) (R : Nat → V → Hp → Prop) (hw : ∀ c, wipe ((wipe σ vs).set slot (some c)) vs = wipe σ vs) (h0 : I (upd H1 D (.lst []))) (hS : ∀ H, I H → SqT K H a xs)
    (hs : ∀ i x, xs[i]? = some x → ∀ H acc, I H → H D = some (.lst acc) → acc.length = i → (∀ j y, acc[j]? = some y → R j y H) →
      te ((wipe σ vs).set slot (some x)) H fun y H' => ∃ acc', H' D = some (.lst acc') ∧ acc'.length < sizeLine ∧ LcP I R D (i + 1) (upd H' D (.lst (acc' ++ [y]))))
    (k : ∀ H ys, I H → H D = some (.lst ys) → ys.length = xs.length → (∀ j y, ys[j]? = some y → R j y H) → Q (.ref D) H) : LcG (Itt K a) (gName slot) tYes te vs σ H1 Q D := by
  refine lc_tup (K := K) (a := a) (xs := xs) (LcP I R D) (.start h0) (fun i H _ P => hS H P.inv) (fun i x H hx P => ?_) (fun H P => ?_)
  · obtain ⟨hI, acc, hD, hl, hR⟩ := P
    exact ⟨hw _, hs i x hx H acc hI hD hl hR⟩
  · obtain ⟨hI, acc, hD, hl, hR⟩ := P
    exact k H acc hI hD hl hR
theorem lcRng {n : Nat} {slot : Nat} (I : Hp → Prop) (R : Nat → V → Hp → Prop) (hw : ∀ c, wipe ((wipe σ vs).set slot (some c)) vs = wipe σ vs) (h0 : I (upd H1 D (.lst [])))
    (hs : ∀ i, i < n → ∀ H acc, I H → H D = some (.lst acc) → acc.length = i → (∀ j y, acc[j]? = some y → R j y H) →
      te ((wipe σ vs).set slot (some (.int (0 + i)))) H fun y H' => ∃ acc', H' D = some (.lst acc') ∧ acc'.length < sizeLine ∧ LcP I R D (i + 1) (upd H' D (.lst (acc' ++ [y]))))
    (k : ∀ H ys, I H → H D = some (.lst ys) → ys.length = n → (∀ j y, ys[j]? = some y → R j y H) → Q (.ref D) H) : LcG (Itr 0 n) (gName slot) tYes te vs σ H1 Q D := by
  refine lc_range (lo := 0) (n := n) (LcP I R D) (.start h0) (fun i H hx P => ?_) (fun H P => ?_)
  · obtain ⟨hI, acc, hD, hl, hR⟩ := P
    exact ⟨hw _, hs i hx H acc hI hD hl hR⟩
  · obtain ⟨hI, acc, hD, hl, hR⟩ := P
    exact k H acc hI hD hl hR
theorem lcAdd {I : Hp → Prop} {R : Nat → V → Hp → Prop} {i : Nat} {y : V} {acc : List V} (hD : H1 D = some (.lst acc)) (hl : acc.length = i) (hi : i ≤ 100000) (hI : I (upd H1 D (.lst (acc ++ [y])))) (hR : ∀ j z, acc[j]? = some z → R j z (upd H1 D (.lst (acc ++ [y])))) (hy : R i y (upd H1 D (.lst (acc ++ [y])))) :
    ∃ acc', H1 D = some (.lst acc') ∧ acc'.length < sizeLine ∧ LcP I R D (i + 1) (upd H1 D (.lst (acc' ++ [y]))) := ⟨acc, hD, sz6' (by omega), .next hD hl hI hR hy⟩
end

theorem at_ex {α : Type} {xs : List α} {i : Int} (h0 : 0 ≤ i) (h1 : i < xs.length) : ∃ v, atI xs i = some v ∧ v ∈ xs := by
  have h : i.toNat < xs.length := by omega
  refine ⟨xs[i.toNat], ?_, List.getElem_mem h⟩
  have e : ((i.toNat : Nat) : Int) = i := by omega
  have q := atI_nat (xs := xs) (j := i.toNat) (List.getElem?_eq_getElem h)
  rw [e] at q
  exact q
theorem join_cps : ∀ ys : List Str, (Str.join ⟨#[]⟩ ys).cps.toList = (ys.map fun y => y.cps.toList).flatten
  | [] => rfl
  | [x] => by
    show x.cps.toList = _
    simp
  | x :: y :: r => by
    show ((x.cps ++ #[]) ++ (Str.join ⟨#[]⟩ (y :: r)).cps).toList = _
    rw [Array.toList_append, join_cps (y :: r)]
    simp
/-- texts of one sign, joined -/
theorem join_ones {ys : List V} {P : Nat → Prop} (h : ∀ (j : Nat) y, ys[j]? = some y → ∃ c, P c ∧ y = .str ⟨#[c]⟩) : ∃ cs : List Nat, cs.length = ys.length ∧ (∀ c ∈ cs, P c) ∧ ys = (cs.map fun c => (⟨#[c]⟩ : Str)).map V.str := by
  induction ys with
  | nil => exact ⟨[], rfl, List.forall_mem_nil _, rfl⟩
  | cons y r ih =>
    obtain ⟨c, hc, rfl⟩ := h 0 y rfl
    obtain ⟨cs, h1, h2, h3⟩ := ih fun j z e => h (j + 1) z e
    refine ⟨c :: cs, congrArg Nat.succ h1, fun d hd => ?_, ?_⟩
    · rcases List.mem_cons.mp hd with e | hd
      · rw [e]; exact hc
      · exact h2 d hd
    · rw [h3]
      rfl
theorem ones_cps (cs : List Nat) : (Str.join ⟨#[]⟩ (cs.map fun c => (⟨#[c]⟩ : Str))).cps.toList = cs := by
  rw [join_cps]
  induction cs with
  | nil => rfl
  | cons c r ih =>
    simp only [List.map_cons, List.flatten_cons] at ih ⊢
    rw [ih]
    rfl
theorem ones_sum (cs : List Nat) : ((cs.map fun c => (⟨#[c]⟩ : Str)).map (·.length)).sum = cs.length := by
  induction cs with
  | nil => rfl
  | cons c r ih =>
    simp only [List.map_cons, List.sum_cons] at ih ⊢
    rw [ih]
    show 1 + r.length = r.length + 1
    omega
theorem app_len (x y : Str) : (x ++ y).length = x.length + y.length := by
  show (x.cps ++ y.cps).size = x.cps.size + y.cps.size
  exact Array.size_append
theorem rep_len {u z : Str} {n : Nat} (h : u.cps.toList = (List.replicate n z.cps.toList).flatten) : u.length = n * z.length := by
  show u.cps.size = n * z.cps.size
  rw [← Array.length_toList, h, List.length_flatten, List.map_replicate, List.sum_replicate_nat, Array.length_toList]
theorem all_true {ys : List V} (h : ∀ (j : Nat) y, ys[j]? = some y → y = .bl true) : ∃ bs : List Bool, ys = bs.map V.bl ∧ bs.all id = true := by
  refine ⟨ys.map fun _ => true, ?_, by simp⟩
  rw [List.map_map]
  refine List.ext_getElem? fun j => ?_
  rw [List.getElem?_map]
  cases e : ys[j]? with
  | none => rfl
  | some y => rw [h j y e]; rfl
end Ver
namespace Ver
open PySem PySem.Spec PyProof.Rows L2
def top (i : Nat) : Stmt := PySem.Challenge.pw_thankways_k01_fractions_reckoned.main.body.getD i (.Pass ⟨0, 0, 0, 0⟩)
abbrev s_is_whole : Stmt := top 4
abbrev s_greatest_divisor : Stmt := top 5
abbrev s_is_fraction : Stmt := top 6
abbrev s_lowest : Stmt := top 7
abbrev s_check_two : Stmt := top 8
abbrev s_fraction : Stmt := top 9
abbrev s_plus : Stmt := top 10
abbrev s_minus : Stmt := top 11
abbrev s_times : Stmt := top 12
abbrev s_over : Stmt := top 13
abbrev s_below : Stmt := top 14
abbrev s_is_less : Stmt := top 15
abbrev s_Lcell : Stmt := top 17
abbrev s_Lpool : Stmt := top 18
abbrev s_Ltake : Stmt := top 19
abbrev s_Llow : Stmt := top 20
abbrev s_Lnumber : Stmt := top 21
abbrev s_Lis : Stmt := top 22
abbrev s_Lmade_right : Stmt := top 23
abbrev s_Lreckoned_right : Stmt := top 24
abbrev s_law : Stmt := top 25
theorem sc_is_whole : FnScope ["thing"] ["thing"] (defScope s_is_whole) := ⟨rfl, rfl, rfl, by decide +kernel, rfl, by decide +kernel, by decide +kernel⟩
theorem sc_greatest_divisor : FnScope ["one", "other"] ["one", "other"] (defScope s_greatest_divisor) := ⟨rfl, rfl, rfl, by decide +kernel, rfl, by decide +kernel, by decide +kernel⟩
theorem sc_is_fraction : FnScope ["thing", "top", "bottom"] ["thing"] (defScope s_is_fraction) := ⟨rfl, rfl, rfl, by decide +kernel, rfl, by decide +kernel, by decide +kernel⟩
theorem sc_lowest : FnScope ["top", "bottom", "divisor"] ["top", "bottom"] (defScope s_lowest) := ⟨rfl, rfl, rfl, by decide +kernel, rfl, by decide +kernel, by decide +kernel⟩
theorem sc_check_two : FnScope ["one", "other"] ["one", "other"] (defScope s_check_two) := ⟨rfl, rfl, rfl, by decide +kernel, rfl, by decide +kernel, by decide +kernel⟩
theorem sc_fraction : FnScope ["top", "bottom"] ["top", "bottom"] (defScope s_fraction) := ⟨rfl, rfl, rfl, by decide +kernel, rfl, by decide +kernel, by decide +kernel⟩
theorem sc_plus : FnScope ["one", "other"] ["one", "other"] (defScope s_plus) := ⟨rfl, rfl, rfl, by decide +kernel, rfl, by decide +kernel, by decide +kernel⟩
theorem sc_minus : FnScope ["one", "other"] ["one", "other"] (defScope s_minus) := ⟨rfl, rfl, rfl, by decide +kernel, rfl, by decide +kernel, by decide +kernel⟩
theorem sc_times : FnScope ["one", "other"] ["one", "other"] (defScope s_times) := ⟨rfl, rfl, rfl, by decide +kernel, rfl, by decide +kernel, by decide +kernel⟩
theorem sc_over : FnScope ["one", "other"] ["one", "other"] (defScope s_over) := ⟨rfl, rfl, rfl, by decide +kernel, rfl, by decide +kernel, by decide +kernel⟩
theorem sc_below : FnScope ["one", "other"] ["one", "other"] (defScope s_below) := ⟨rfl, rfl, rfl, by decide +kernel, rfl, by decide +kernel, by decide +kernel⟩
theorem sc_is_less : FnScope ["one", "other"] ["one", "other"] (defScope s_is_less) := ⟨rfl, rfl, rfl, by decide +kernel, rfl, by decide +kernel, by decide +kernel⟩
theorem sc_Lcell : FnScope ["_law_script", "_law_k", "_law_state", "_law_cell_here"] ["_law_script", "_law_k"] (defScope s_Lcell) := ⟨rfl, rfl, rfl, by decide +kernel, rfl, by decide +kernel, by decide +kernel⟩
theorem sc_Lpool : FnScope ["_law_cell_here", "_law_digits"] ["_law_cell_here"] (defScope s_Lpool) := ⟨rfl, rfl, rfl, by decide +kernel, rfl, by decide +kernel, by decide +kernel⟩
theorem sc_Ltake : FnScope ["_law_pool_here", "_law_many", "_law_state", "_law_digit"] ["_law_pool_here", "_law_many"] (defScope s_Ltake) := ⟨rfl, rfl, rfl, by decide +kernel, rfl, by decide +kernel, by decide +kernel⟩
theorem sc_Llow : FnScope ["_law_upper", "_law_lower", "_law_here", "_law_there"] ["_law_upper", "_law_lower"] (defScope s_Llow) := ⟨rfl, rfl, rfl, by decide +kernel, rfl, by decide +kernel, by decide +kernel⟩
theorem sc_Lnumber : FnScope ["_law_pool_here", "_law_mode", "_law_found", "_law_turn"] ["_law_pool_here"] (defScope s_Lnumber) := ⟨rfl, rfl, rfl, by decide +kernel, rfl, by decide +kernel, by decide +kernel⟩
theorem sc_Lis : FnScope ["_law_told", "_law_upper", "_law_lower", "_law_part"] ["_law_told", "_law_upper", "_law_lower"] (defScope s_Lis) := ⟨rfl, rfl, rfl, by decide +kernel, rfl, by decide +kernel, by decide +kernel⟩
theorem sc_Lmade_right : FnScope ["_law_upper", "_law_lower", "_law_some", "_law_told"] ["_law_upper", "_law_lower"] (defScope s_Lmade_right) := ⟨rfl, rfl, rfl, by decide +kernel, rfl, by decide +kernel, by decide +kernel⟩
theorem sc_Lreckoned_right : FnScope ["_law_here", "_law_there", "_law_upper", "_law_lower", "_law_more", "_law_under", "_law_dues", "_law_due", "_law_told", "_law_beneath", "_law_truth"] ["_law_here", "_law_there"] (defScope s_Lreckoned_right) := ⟨rfl, rfl, rfl, by decide +kernel, rfl, by decide +kernel, by decide +kernel⟩
theorem sc_law : FnScope ["_law_script", "_law_k", "_law_pool_here", "_law_some", "_law_rows", "_law_here", "_law_near", "_law_turn", "_law_there"] ["_law_script"] (defScope s_law) := ⟨rfl, rfl, rfl, by decide +kernel, rfl, by decide +kernel, by decide +kernel⟩
structure Adr where
  f_is_whole : Addr
  d_is_whole : FuncData
  f_greatest_divisor : Addr
  d_greatest_divisor : FuncData
  f_is_fraction : Addr
  d_is_fraction : FuncData
  f_lowest : Addr
  d_lowest : FuncData
  f_check_two : Addr
  d_check_two : FuncData
  f_fraction : Addr
  d_fraction : FuncData
  f_plus : Addr
  d_plus : FuncData
  f_minus : Addr
  d_minus : FuncData
  f_times : Addr
  d_times : FuncData
  f_over : Addr
  d_over : FuncData
  f_below : Addr
  d_below : FuncData
  f_is_less : Addr
  d_is_less : FuncData
  f_Lcell : Addr
  d_Lcell : FuncData
  f_Lpool : Addr
  d_Lpool : FuncData
  f_Ltake : Addr
  d_Ltake : FuncData
  f_Llow : Addr
  d_Llow : FuncData
  f_Lnumber : Addr
  d_Lnumber : FuncData
  f_Lis : Addr
  d_Lis : FuncData
  f_Lmade_right : Addr
  d_Lmade_right : FuncData
  f_Lreckoned_right : Addr
  d_Lreckoned_right : FuncData
/-- what the top has left -/
structure Tx (K : PySem.W.Frag) (mg : Str → Option Value) (A : Adr) : Prop where
  m_abs : mg "abs" = none
  m_all : mg "all" = none
  m_bool : mg "bool" = none
  m_divmod : mg "divmod" = none
  m_int : mg "int" = none
  m_isinstance : mg "isinstance" = none
  m_len : mg "len" = none
  m_max : mg "max" = none
  m_min : mg "min" = none
  m_range : mg "range" = none
  m_tuple : mg "tuple" = none
  F_is_whole : Fun K "is_whole" "is_whole" s_is_whole A.f_is_whole A.d_is_whole
  g_is_whole : mg "is_whole" = some (.ref A.f_is_whole)
  b_is_whole : Binds K A.d_is_whole ["thing"] []
  F_greatest_divisor : Fun K "greatest_divisor" "greatest_divisor" s_greatest_divisor A.f_greatest_divisor A.d_greatest_divisor
  g_greatest_divisor : mg "greatest_divisor" = some (.ref A.f_greatest_divisor)
  b_greatest_divisor : Binds K A.d_greatest_divisor ["one", "other"] []
  F_is_fraction : Fun K "is_fraction" "is_fraction" s_is_fraction A.f_is_fraction A.d_is_fraction
  g_is_fraction : mg "is_fraction" = some (.ref A.f_is_fraction)
  b_is_fraction : Binds K A.d_is_fraction ["thing"] []
  F_lowest : Fun K "lowest" "lowest" s_lowest A.f_lowest A.d_lowest
  g_lowest : mg "lowest" = some (.ref A.f_lowest)
  b_lowest : Binds K A.d_lowest ["top", "bottom"] []
  F_check_two : Fun K "check_two" "check_two" s_check_two A.f_check_two A.d_check_two
  g_check_two : mg "check_two" = some (.ref A.f_check_two)
  b_check_two : Binds K A.d_check_two ["one", "other"] []
  F_fraction : FunD K "fraction" "fraction" (defArgs s_fraction) (defBody s_fraction) (defScope s_fraction) [.int 1] [] A.f_fraction A.d_fraction
  g_fraction : mg "fraction" = some (.ref A.f_fraction)
  b_fraction : Binds K A.d_fraction ["top", "bottom"] []
  F_plus : Fun K "plus" "plus" s_plus A.f_plus A.d_plus
  g_plus : mg "plus" = some (.ref A.f_plus)
  b_plus : Binds K A.d_plus ["one", "other"] []
  F_minus : Fun K "minus" "minus" s_minus A.f_minus A.d_minus
  g_minus : mg "minus" = some (.ref A.f_minus)
  b_minus : Binds K A.d_minus ["one", "other"] []
  F_times : Fun K "times" "times" s_times A.f_times A.d_times
  g_times : mg "times" = some (.ref A.f_times)
  b_times : Binds K A.d_times ["one", "other"] []
  F_over : Fun K "over" "over" s_over A.f_over A.d_over
  g_over : mg "over" = some (.ref A.f_over)
  b_over : Binds K A.d_over ["one", "other"] []
  F_below : Fun K "below" "below" s_below A.f_below A.d_below
  g_below : mg "below" = some (.ref A.f_below)
  b_below : Binds K A.d_below ["one", "other"] []
  F_is_less : Fun K "is_less" "is_less" s_is_less A.f_is_less A.d_is_less
  g_is_less : mg "is_less" = some (.ref A.f_is_less)
  b_is_less : Binds K A.d_is_less ["one", "other"] []
  F_Lcell : Fun K "_law_cell" "_law_cell" s_Lcell A.f_Lcell A.d_Lcell
  g_Lcell : mg "_law_cell" = some (.ref A.f_Lcell)
  b_Lcell : Binds K A.d_Lcell ["_law_script", "_law_k"] []
  F_Lpool : Fun K "_law_pool" "_law_pool" s_Lpool A.f_Lpool A.d_Lpool
  g_Lpool : mg "_law_pool" = some (.ref A.f_Lpool)
  b_Lpool : Binds K A.d_Lpool ["_law_cell_here"] []
  F_Ltake : Fun K "_law_take" "_law_take" s_Ltake A.f_Ltake A.d_Ltake
  g_Ltake : mg "_law_take" = some (.ref A.f_Ltake)
  b_Ltake : Binds K A.d_Ltake ["_law_pool_here", "_law_many"] []
  F_Llow : Fun K "_law_low" "_law_low" s_Llow A.f_Llow A.d_Llow
  g_Llow : mg "_law_low" = some (.ref A.f_Llow)
  b_Llow : Binds K A.d_Llow ["_law_upper", "_law_lower"] []
  F_Lnumber : Fun K "_law_number" "_law_number" s_Lnumber A.f_Lnumber A.d_Lnumber
  g_Lnumber : mg "_law_number" = some (.ref A.f_Lnumber)
  b_Lnumber : Binds K A.d_Lnumber ["_law_pool_here"] []
  F_Lis : Fun K "_law_is" "_law_is" s_Lis A.f_Lis A.d_Lis
  g_Lis : mg "_law_is" = some (.ref A.f_Lis)
  b_Lis : Binds K A.d_Lis ["_law_told", "_law_upper", "_law_lower"] []
  F_Lmade_right : Fun K "_law_made_right" "_law_made_right" s_Lmade_right A.f_Lmade_right A.d_Lmade_right
  g_Lmade_right : mg "_law_made_right" = some (.ref A.f_Lmade_right)
  b_Lmade_right : Binds K A.d_Lmade_right ["_law_upper", "_law_lower"] []
  F_Lreckoned_right : Fun K "_law_reckoned_right" "_law_reckoned_right" s_Lreckoned_right A.f_Lreckoned_right A.d_Lreckoned_right
  g_Lreckoned_right : mg "_law_reckoned_right" = some (.ref A.f_Lreckoned_right)
  b_Lreckoned_right : Binds K A.d_Lreckoned_right ["_law_here", "_law_there"] []
  db1_fraction : ∃ ds, Vals [.int 1] ds ∧ Binds K A.d_fraction ["top", "bottom"] ds
  kd0_fraction_top : ∃ g, KBn K A.d_fraction ["top", "bottom"] 0 ["top"] g (fun _ zs => zs ++ [.int 1])
  kb0_fraction_bottom_top : KBn K A.d_fraction ["top", "bottom"] 0 ["bottom", "top"] (fun _ zs => pick [1, 0] zs) (fun _ zs => pick [1, 0] zs)
  kb0_below_other_one : KBn K A.d_below ["one", "other"] 0 ["other", "one"] (fun _ zs => pick [1, 0] zs) (fun _ zs => pick [1, 0] zs)
  kb0_over_other_one : KBn K A.d_over ["one", "other"] 0 ["other", "one"] (fun _ zs => pick [1, 0] zs) (fun _ zs => pick [1, 0] zs)
  kb0_times_other_one : KBn K A.d_times ["one", "other"] 0 ["other", "one"] (fun _ zs => pick [1, 0] zs) (fun _ zs => pick [1, 0] zs)
  kb0_minus_other_one : KBn K A.d_minus ["one", "other"] 0 ["other", "one"] (fun _ zs => pick [1, 0] zs) (fun _ zs => pick [1, 0] zs)
  kb0_plus_other_one : KBn K A.d_plus ["one", "other"] 0 ["other", "one"] (fun _ zs => pick [1, 0] zs) (fun _ zs => pick [1, 0] zs)
local macro_rules | `(tactic| walk_at "w") => `(tactic| first
  | with_reducible refine wSeq ?_
  | with_reducible refine wAsg ?_
  | with_reducible refine wOp ?_
  | with_reducible refine wVar (by with_unfolding_all exact rfl) ?_
  | with_reducible refine wC ?_
  | with_reducible refine wRet ?_
  | with_reducible refine wIfS ?_
  | with_reducible refine wI0 ?_
  | with_reducible refine wCons ?_
  | with_reducible refine wNil ?_
  | with_reducible refine wCB ?_
  | with_reducible refine wCall ?_
  | with_reducible refine wCallN ?_
  | with_reducible refine wTest ?_
  | with_reducible refine wB ?_
  | with_reducible refine exBl ?_
  | with_reducible refine exInt ?_
  | with_reducible refine exI1 ?_
  | with_reducible refine exI2 ?_
  | with_reducible refine exStr ?_
  | with_reducible refine wSlS (by with_unfolding_all walk_at "sl") ?_
  | with_reducible refine anSum (by with_unfolding_all walk_at "sl") ?_
  | with_reducible refine exSS ?_
  | with_reducible refine exCS ?_
  | with_reducible refine wLc ?_
  | with_reducible refine wFor ?_
  | with_reducible refine wWhile ?_
  | with_reducible refine wOrT ?_
  | with_reducible refine wIList ?_
  | with_reducible refine wITup ?_
  | with_reducible refine wIStr ?_
  | with_reducible refine wIRng1 ?_
  | with_reducible refine anSz (by with_unfolding_all exact Nat.le_of_ble_eq_true rfl) ?_
  | with_reducible refine anStr ?_
  | with_reducible refine wName ?_
  | with_reducible refine iteT ?_
  | with_reducible refine iteF ?_
  | with_reducible refine iteNT ?_
  | with_reducible refine iteNF ?_
  | with_reducible refine wIsiS ?_
  | with_reducible refine wIsiB ?_
  | with_reducible refine wAnd ?_
  | with_reducible refine wOr ?_
  | with_reducible refine wNot ?_
  | with_reducible refine wAndV ?_
  | with_reducible refine wOrV ?_
  | with_reducible refine wNotV ?_
  | with_reducible refine wIf ?_
  | with_reducible refine wChain ?_
  | with_reducible refine wTup ?_
  | with_reducible refine wLst ?_
  | with_reducible refine wSl ?_
  | with_reducible refine wDnew ?_
  | with_reducible refine wPart ?_
  | with_reducible refine wNoPart ?_
  | with_reducible refine wBM ?_
  | with_reducible refine wBM0 ?_
  | with_reducible refine wM0 ?_
  | with_reducible refine wM1 ?_
  | with_reducible refine wUn ?_
  | with_reducible refine wU ?_
  | with_reducible refine wDrop ?_
  | with_reducible refine wNext ?_
  | with_reducible refine wPar ?_
  | with_reducible refine exTwo ?_
  | with_reducible refine wSub ?_
  | with_reducible refine wGCons ?_
  | with_reducible refine wGNil ?_
  | ((with_reducible refine wEq ?h1 ?_); (case h1 => exact rfl))
  | ((with_reducible refine wNe ?h1 ?_); (case h1 => exact rfl))
  | with_reducible refine wIxL (SqL.of (by with_unfolding_all assumption)) (by with_unfolding_all exact rfl) ?_
  | with_reducible refine wIxT (SqT.of (by with_unfolding_all assumption)) (by with_unfolding_all exact rfl) ?_
  | with_reducible refine wIxL (SqL.of upd_same) (by with_unfolding_all exact rfl) ?_
  | with_reducible refine wSetL upd_same (by with_unfolding_all exact rfl) ?_
  | with_reducible refine wSetL (by with_unfolding_all assumption) (by with_unfolding_all exact rfl) ?_
  | ((with_reducible refine wI ?h1 ?_); (case h1 => walk_at "wc"))
  | with_reducible refine iteNS (by with_unfolding_all exact rfl) ?_
  | dsimp only [])
local macro_rules | `(tactic| walk_at "ww") => `(tactic| repeat (walk_at "w"))
local macro_rules | `(tactic| walk_at "wc") => `(tactic| first
  | exact wide_mul (by assumption) (by assumption) (by omega) (by omega) (by omega)
  | exact .inl ⟨by omega, by omega⟩
  | exact .inr ⟨by omega, by omega⟩
  | exact ⟨by omega, by omega⟩
  | exact ⟨by decide, by decide⟩
  | exact ⟨by decide, by decide, by decide⟩
  | (show (0 : Int) < _; omega)
  | (show _ ≠ (0 : Int); omega))
local macro_rules | `(tactic| walk_at "sl") => `(tactic| (refine sz6 ?_; (try simp only [app_len]); omega))
local macro_rules | `(tactic| walk_at "lk") => `(tactic| first | assumption | exact Ex.get (by assumption) (by walk_at "lk"))
local macro_rules | `(tactic| walk_at "things") => `(tactic| ((repeat' (first | exact List.forall_mem_nil _ | refine List.forall_mem_append.mpr ⟨?_, ?_⟩ | refine List.forall_mem_cons.mpr ⟨?_, ?_⟩)) <;> first
  | exact Thing.n | exact Thing.b | exact Thing.i | exact Thing.s (by decide +kernel) | exact Thing.t (by walk_at "lk") | exact Thing.l (by walk_at "lk") | exact Thing.d (by walk_at "lk")))
section
variable {P : Program} {w : World} {K : PySem.W.Frag} {mg : Str → Option Value} {base : Heap} {A : Adr}
/-- a pool: a state, digits, how many were taken -/
def Pool (H : Hp) (p : Addr) : Prop := ∃ s g n : Int, H p = some (.lst [.int s, .int g, .int n]) ∧ 0 ≤ s ∧ s < 2147483423 ∧ 0 ≤ g
theorem Pool.ne {H : Hp} {p q : Addr} (h : Pool H p) (hq : H q = none) : q ≠ p := fun e => by
  obtain ⟨_, _, _, h, _⟩ := h
  rw [← e, hq] at h
  cases h
theorem Pool.upd {H : Hp} {p q : Addr} {o : HO} (h : Pool H p) (n : q ≠ p) : Pool (upd H q o) p := by
  obtain ⟨s, g, m, h, r⟩ := h
  exact ⟨s, g, m, (upd_ne n.symm).trans h, r⟩
theorem Pool.ex {H H' : Hp} {p : Addr} (h : Pool H p) (e : Ex H H') : Pool H' p := by
  obtain ⟨s, g, m, h, r⟩ := h
  exact ⟨s, g, m, e _ _ h, r⟩
/-- a number to draw by -/
def Sm (m : Int) : Prop := 0 < m ∧ m.natAbs.log2 < 9000
theorem Sm.of {m : Int} (h : 0 < m) (h1 : m < 1073741824) : Sm m := by
  refine ⟨h, ?_⟩
  have : m.natAbs.log2 < 30 := (Nat.log2_lt (by omega)).mpr (by omega)
  omega
def spTake : Sp := fun vs H Q _ => ∃ (p : Addr) (m : Int), vs = [.ref p, .int m] ∧ Pool H p ∧ Sm m ∧ ∀ d H', 0 ≤ d → d < m → Kp p H H' → Pool H' p → Q (.int d) H'
def spPool : Sp := fun vs H Q _ => ∃ c : Int, vs = [.int c] ∧ ∀ p H', H p = none → Ex H H' → Pool H' p → Q (.ref p) H'
def spCell (K : PySem.W.Frag) : Sp := fun vs H Q _ => ∃ (a : Addr) (ns : List Int) (k : Int), vs = [.ref a, .int k] ∧ SqL K H a (ns.map V.int) ∧ ns.length ≤ 63 ∧ 0 ≤ k ∧ k ≤ 63 ∧ ∀ c H', Ex H H' → Q (.int c) H'
theorem ok_Ltake (T : Tx K mg A) : FnOk P w K mg base CX0 1 A.f_Ltake A.d_Ltake ["_law_pool_here", "_law_many"] spTake := by
  refine T.F_Ltake.ok sc_Ltake (fun vs H Q E h => ?_) (fun cdv A' outer s H vs Q E hr h => ?_)
  · obtain ⟨p, m, rfl, _⟩ := h
    rfl
  · obtain ⟨p, m, rfl, ⟨s, g, n, hp, hs0, hs1, hg⟩, ⟨hm0, hm1⟩, k⟩ := h
    refine ⟨_, (pss_cons (ps_asg (pe_op op_add (pe_ix (ix_listV (K := K) rfl) (pv 0) pe_int (fun _ _ => rfl)) pe_int) (pg_sub (pv 0) pe_int set_list))
    (pss_cons (ps_set (i := 2) sc_Ltake.nd rfl (Or.inl rfl) (pe_ix (ix_listV (K := K) rfl) (pv 0) pe_int (fun _ _ => rfl)))
    (pss_cons (ps_asg (pe_op op_mod (pe_op op_add (pe_op op_mul (pv 2) (pe_op op_add (pe_op op_mod (pv 2) pe_int) pe_int)) (pe_op op_mul pe_int (pe_ix (ix_listV (K := K) rfl) (pv 0) pe_int (fun _ _ => rfl)))) pe_int) (pg_sub (pv 0) pe_int set_list))
    (pss_cons (ps_if (pt_cmpR op_gt (pe_ix (ix_listV (K := K) rfl) (pv 0) pe_int (fun _ _ => rfl)) pe_int (nomark _))
    (pss_cons (ps_asg (pe_callB call_divmodW (by rfl) T.m_divmod (by decide +kernel) (pa_cons (pe_ix (ix_listV (K := K) rfl) (pv 0) pe_int (fun _ _ => rfl)) (pa_cons (pv 1) pa_nil))) (pg_tupV (K := K) (n := 2) rfl rfl (pgs_cons (pg_sub (pv 0) pe_int set_list) (pgs_cons (pg_name (i := 3) sc_Ltake.nd rfl (Or.inl rfl)) pgs_nil)) rfl))
      (pss_one (ps_ret (pv 3))))
    pss_nil)
    (pss_one (ps_ret (pe_op op_mod (pe_op op_fdiv (pe_ix (ix_listV (K := K) rfl) (pv 0) pe_int (fun _ _ => rfl)) pe_int) (pv 1)))))))), ?_⟩
    walk_at "ww"
    have q1 : ∀ x : Int, 0 ≤ x % 2147483423 ∧ x % 2147483423 < 2147483423 := fun x => by omega
    have keep : ∀ (o : HO) (H1 : Hp), Kp p H H1 → Kp p H (upd H1 p o) := fun o H1 e => e.trans Kp.set
    refine ite2 (fun c => ?_) (fun c => ?_)
    · walk_at "ww"
      refine ⟨⟨hm0, PyProof.noPylong_of_log2 hm1⟩, fun t nt => ?_⟩
      have ntp : p ≠ t := fun e => by
        rw [← e, upd_same] at nt
        cases nt
      refine wGTup (SqT.of upd_same) rfl ?_
      walk_at "ww"
      refine wSetL ((upd_ne ntp).trans upd_same) rfl ?_
      walk_at "ww"
      refine k _ _ (Int.emod_nonneg _ (by omega)) (Int.emod_lt_of_pos _ hm0) ?_ ⟨_, _, _, upd_same, (q1 _).1, (q1 _).2, Int.ediv_nonneg hg (by omega)⟩
      refine Kp.trans (Kp.trans (keep _ _ Kp.set) (Kp.new nt)) Kp.set
    · walk_at "ww"
      exact k _ _ (Int.emod_nonneg _ (by omega)) (Int.emod_lt_of_pos _ hm0) (keep _ _ Kp.set) ⟨_, _, _, upd_same, (q1 _).1, (q1 _).2, hg⟩
theorem ok_Lpool (T : Tx K mg A) : FnOk P w K mg base CX0 1 A.f_Lpool A.d_Lpool ["_law_cell_here"] spPool := by
  refine T.F_Lpool.ok sc_Lpool (fun vs H Q E h => ?_) (fun cdv A' outer s H vs Q E hr h => ?_)
  · obtain ⟨c, rfl, _⟩ := h
    rfl
  · obtain ⟨c, rfl, k⟩ := h
    refine ⟨_, (pss_cons (ps_set (i := 1) sc_Lpool.nd rfl (Or.inl rfl) pe_int)
    (pss_cons (ps_if (PW.pt (pw_or (pt_cmpR op_lt (pv 0) pe_int (nomark _)) (pw_or1 (pt_cmpR op_ge (pv 0) (pe_op op_pow pe_int pe_int) (nomark _)))))
    (pss_one (ps_set (i := 1) sc_Lpool.nd rfl (Or.inl rfl) (pe_callB call_abs (by rfl) T.m_abs (by decide +kernel) (pa_cons (pv 0) pa_nil))))
    pss_nil)
    (pss_one (ps_ret (pe_lst (pa_cons (pe_op op_mod (pv 0) pe_int) (pa_cons (pv 1) (pa_cons pe_int pa_nil)))))))), ?_⟩
    have fin : ∀ g : Int, 0 ≤ g → ∀ p, H p = none → Q (.ref p) (upd H p (.lst [.int (c % 2147483423), .int g, .int 0])) := fun g hg p hp =>
      k p _ hp (Ex.new hp) ⟨_, _, _, upd_same, by omega, by omega, hg⟩
    walk_at "ww"
    refine ite2 (fun c1 => ?_) (fun c1 => ?_)
    · walk_at "ww"
      exact fun p hp => fin _ (by split <;> omega) p hp
    · walk_at "ww"
      refine ite2 (fun c2 => ?_) (fun c2 => ?_)
      · walk_at "ww"
        exact fun p hp => fin _ (by split <;> omega) p hp
      · walk_at "ww"
        exact fun p hp => fin _ (by omega) p hp
theorem ok_Lcell (T : Tx K mg A) : FnOk P w K mg base CX0 1 A.f_Lcell A.d_Lcell ["_law_script", "_law_k"] (spCell K) := by
  refine T.F_Lcell.ok sc_Lcell (fun vs H Q E h => ?_) (fun cdv A' outer s H vs Q E hr h => ?_)
  · obtain ⟨a, ns, c, rfl, _⟩ := h
    rfl
  · obtain ⟨a, ns, c, rfl, hS, hlen, h0, h63, k⟩ := h
    refine ⟨_, (pss_cons (ps_if (pt_cmpR op_lt (pv 1) (pe_callB (call_lenV (K := K) rfl) (by rfl) T.m_len (by decide +kernel) (pa_cons (pv 0) pa_nil)) (nomark _))
    (pss_one (ps_ret (pe_ix (ix_listV (K := K) rfl) (pv 0) (pv 1) (fun _ _ => rfl))))
    pss_nil)
    (pss_cons (ps_set (i := 2) sc_Lcell.nd rfl (Or.inl rfl) (pe_op op_mod (pe_op op_mul pe_int (pe_op op_add (pe_op op_add (pe_op op_mul (pv 1) (pv 1)) (pe_op op_mul pe_int (pv 1))) pe_int)) pe_int))
    (pss_cons (ps_for PassesOwn.never rfl (pi_listV (K := K) rfl (pe_slice (sl_listV (K := K) rfl) (pv 0) po_none (po_some pe_int))) (pg_name (i := 3) sc_Lcell.nd rfl (Or.inl rfl))
    (pss_one (ps_set (i := 2) sc_Lcell.nd rfl (Or.inl rfl) (pe_op op_mod (pe_op op_add (pe_op op_mul (pv 2) pe_int) (pv 3)) pe_int))))
    (pss_one (ps_ret (pv 2)))))), ?_⟩
    walk_at "ww"
    refine wLenL hS ?_
    walk_at "ww"
    refine ite2 (fun c1 => ?_) (fun c1 => ?_)
    · walk_at "ww"
      have h1 : c.toNat < ns.length := by
        have := of_decide_eq_true c1
        rw [List.length_map] at this
        omega
      refine wIxL hS (at_of (j := c.toNat) (by omega) (by rw [List.getElem?_map, List.getElem?_eq_getElem h1]; rfl)) ?_
      exact k _ _ (Ex.refl H)
    · walk_at "ww"
      refine wSlL hS fun l hl => ?_
      walk_at "ww"
      refine exSq (SqL.of upd_same) ?_
      have el : cutV (ns.map V.int) none (some 3) = (ns.take 3).map V.int := by
        unfold cutV
        rw [HT.sIx_none, show HT.sIx (ns.map V.int).length (ns.map V.int).length (some 3) = min 3 (ns.map V.int).length from HT.sIx_nat _ _ 3, List.map_take]
        simp
      rw [el]
      refine for_list (K := K) (a := l) (xs := (ns.take 3).map V.int) (fun i σ H2 => ∃ (s : Int) (v : Option V), σ = [some (.ref a), some (.int c), some (.int s), v] ∧ 0 ≤ s ∧ s < 2147483423 ∧ Ex (upd H l (.lst ((ns.take 3).map V.int))) H2)
        ⟨_, none, rfl, by omega, by omega, Ex.refl _⟩ (fun i σ H2 _ ⟨_, _, _, _, _, e⟩ => SqL.of (e _ _ upd_same)) ?_ ?_
      · rintro i y σ H2 hi ⟨s, v, rfl, hs0, hs1, e⟩
        obtain ⟨z, rfl⟩ : ∃ z, y = V.int z := by
          rw [List.getElem?_map] at hi
          obtain ⟨z, _, hz⟩ := Option.map_eq_some_iff.mp hi
          exact ⟨z, hz.symm⟩
        walk_at "ww"
        exact ⟨_, _, rfl, by omega, by omega, e⟩
      · rintro σ H2 ⟨s, v, rfl, hs0, hs1, e⟩
        walk_at "ww"
        exact k _ _ ((Ex.new hl).trans e)
/-! the program's fractions -/
def isIntV : V → Bool
  | .int _ => true
  | _ => false
def spWhole (K : PySem.W.Frag) : Sp := fun vs H Q _ => ∃ v n, vs = [v] ∧ Ty K H v n ∧ Q (.bl (isIntV v)) H
theorem ok_is_whole (T : Tx K mg A) : FnOk P w K mg base CX0 1 A.f_is_whole A.d_is_whole ["thing"] (spWhole K) := by
  refine T.F_is_whole.ok sc_is_whole (fun vs H Q E h => ?_) (fun cdv A' outer s H vs Q E hr h => ?_)
  · obtain ⟨v, n, rfl, _⟩ := h
    rfl
  · obtain ⟨v, n, rfl, ty, k⟩ := h
    refine ⟨_, (pss_one (ps_ret (pe_and (pe_callB (call_isiV (K := K) rfl) (by rfl) T.m_isinstance (by decide +kernel) (pa_cons (pv 0) (pa_cons (pe_bltn (v := .ty "int") (by rfl) T.m_int (by decide +kernel) rfl) pa_nil))) (pe_one (pe_not (pe_callB (call_isiV (K := K) rfl) (by rfl) T.m_isinstance (by decide +kernel) (pa_cons (pv 0) (pa_cons (pe_bltn (v := .ty "bool") (by rfl) T.m_bool (by decide +kernel) rfl) pa_nil)))))))), ?_⟩
    walk_at "ww"
    have e1 : kitB "NoneType" "int" = some false := by decide +kernel
    have e2 : kitB "bool" "int" = some true := by decide +kernel
    have e3 : kitB "int" "int" = some true := by decide +kernel
    have e4 : kitB "str" "int" = some false := by decide +kernel
    have e5 : kitB "list" "int" = some false := by decide +kernel
    have e6 : kitB "tuple" "int" = some false := by decide +kernel
    have e7 : kitB "dict" "int" = some false := by decide +kernel
    have b2 : kitB "bool" "bool" = some true := by decide +kernel
    have b3 : kitB "int" "bool" = some false := by decide +kernel
    cases ty with
    | non => refine wIsi .non e1 ?_; walk_at "ww"; exact k
    | str z => refine wIsi (.str z) e4 ?_; walk_at "ww"; exact k
    | lst h => refine wIsi (.lst h) e5 ?_; walk_at "ww"; exact k
    | tup h => refine wIsi (.tup h) e6 ?_; walk_at "ww"; exact k
    | dK h => refine wIsi (.dK h) e7 ?_; walk_at "ww"; exact k
    | kT h c => refine wIsi (.kT h c) e6 ?_; walk_at "ww"; exact k
    | bl b =>
      refine wIsi (.bl b) e2 ?_
      walk_at "ww"
      exact k
    | int i =>
      refine wIsi (.int i) e3 ?_
      walk_at "ww"
      refine wIsi (.int i) b3 ?_
      walk_at "ww"
      exact k
def spGd : Sp := fun vs H Q _ => ∃ a b : Int, vs = [.int a, .int b] ∧ Q (.int (a.gcd b : Nat)) H
theorem ok_greatest_divisor (T : Tx K mg A) : FnOk P w K mg base CX0 1 A.f_greatest_divisor A.d_greatest_divisor ["one", "other"] spGd := by
  refine T.F_greatest_divisor.ok sc_greatest_divisor (fun vs H Q E h => ?_) (fun cdv A' outer s H vs Q E hr h => ?_)
  · obtain ⟨a, b, rfl, _⟩ := h
    rfl
  · obtain ⟨a, b, rfl, k⟩ := h
    refine ⟨_, (pss_cons (ps_while PassesOwn.never (pt_cmpR op_ne (pv 1) pe_int (nomark _))
    (pss_one (ps_par (i := 0) (j := 1) (by rfl) sc_greatest_divisor.nd rfl rfl (by decide) rfl rfl (pa_cons (pv 1) (pa_cons (pe_op op_modN (pv 0) (pv 1)) pa_nil)) (by rfl))))
    (pss_one (ps_ret (pe_callB call_abs (by rfl) T.m_abs (by decide +kernel) (pa_cons (pv 0) pa_nil))))), ?_⟩
    walk_at "ww"
    refine ⟨fun m σ H' => ∃ x y : Int, σ = [some (.int x), some (.int y)] ∧ H' = H ∧ x.gcd y = a.gcd b ∧ y.natAbs = m, ⟨_, a, b, rfl, rfl, rfl, rfl⟩, ?_⟩
    rintro m σ H' ⟨x, y, rfl, rfl, hg, hm⟩
    walk_at "ww"
    refine ite2 (fun c => ?_) (fun c => ?_)
    · have hy : y ≠ 0 := fun e => by simp [e] at c
      refine ⟨fun σ' H'' => ∃ x' y' : Int, σ' = [some (.int x'), some (.int y')] ∧ H'' = H' ∧ x'.gcd y' = a.gcd b ∧ y'.natAbs < m, fun σ' H'' ⟨x', y', e1, e2, e3, e4⟩ => ⟨_, e4, x', y', e1, e2, e3, rfl⟩, ?_⟩
      walk_at "ww"
      exact ⟨_, _, rfl, rfl, (Fr.gcd_turn x hy).trans hg, by have := Fr.fmod_less x hy; omega⟩
    · have hy : y = 0 := by simpa using c
      walk_at "ww"
      have e : (if x < 0 then -x else x) = ((a.gcd b : Nat) : Int) := by
        rw [hy, Int.gcd_zero_right] at hg
        rw [← hg]
        split <;> omega
      rw [e]
      exact k
/-- a pair of two numbers in lowest terms, neither of more than n bits -/
structure FrAt (H : Hp) (a : Addr) (p q : Int) (n : Nat) : Prop where
  at_ : H a = some (.tup [.int p, .int q])
  is_ : Fr.IsFr p q
  bp : p.natAbs < 2 ^ n
  bq : q.natAbs < 2 ^ n
theorem FrAt.ex {H H' : Hp} {a : Addr} {p q : Int} {n : Nat} (h : FrAt H a p q n) (e : Ex H H') : FrAt H' a p q n := ⟨e _ _ h.at_, h.is_, h.bp, h.bq⟩
theorem FrAt.more {H : Hp} {a : Addr} {p q : Int} {n m : Nat} (h : FrAt H a p q n) (e : n ≤ m) : FrAt H a p q m :=
  ⟨h.at_, h.is_, Nat.lt_of_lt_of_le h.bp (Nat.pow_le_pow_right (by omega) e), Nat.lt_of_lt_of_le h.bq (Nat.pow_le_pow_right (by omega) e)⟩
def spIsFr : Sp := fun vs H Q _ => ∃ (a : Addr) (p q : Int) (n : Nat), vs = [.ref a] ∧ FrAt H a p q n ∧ Q (.bl true) H
theorem ok_is_fraction (T : Tx K mg A) : FnOk P w K mg base CX0 2 A.f_is_fraction A.d_is_fraction ["thing"] spIsFr := by
  refine T.F_is_fraction.ok sc_is_fraction (fun vs H Q E h => ?_) (fun cdv A' outer s H vs Q E hr h => ?_)
  · obtain ⟨a, p, q, n, rfl, _⟩ := h
    rfl
  · obtain ⟨a, p, q, n, rfl, h, k⟩ := h
    refine ⟨_, (pss_cons (ps_if (PW.pt (pw_or (pt_not (pt_val (pe_callB (call_isiV (K := K) rfl) (by rfl) T.m_isinstance (by decide +kernel) (pa_cons (pv 0) (pa_cons (pe_bltn (v := .ty "tuple") (by rfl) T.m_tuple (by decide +kernel) rfl) pa_nil))))) (pw_or1 (pt_cmpR op_ne (pe_callB (call_lenV (K := K) rfl) (by rfl) T.m_len (by decide +kernel) (pa_cons (pv 0) pa_nil)) pe_int (nomark _)))))
    (pss_one (ps_ret pe_bl))
    pss_nil)
    (pss_cons (ps_asg (pv 0) (pg_tupV (K := K) (n := 2) rfl rfl (pgs_cons (pg_name (i := 1) sc_is_fraction.nd rfl (Or.inl rfl)) (pgs_cons (pg_name (i := 2) sc_is_fraction.nd rfl (Or.inl rfl)) pgs_nil)) rfl))
    (pss_cons (ps_if (PW.pt (pw_or (pt_not (pt_val (pe_call (ok_is_whole T) (hr.mono (by decide)) (by rfl) T.g_is_whole T.F_is_whole.kp T.b_is_whole .nil pass0 (pa_cons (pv 1) pa_nil)))) (pw_or1 (pt_not (pt_val (pe_call (ok_is_whole T) (hr.mono (by decide)) (by rfl) T.g_is_whole T.F_is_whole.kp T.b_is_whole .nil pass0 (pa_cons (pv 2) pa_nil)))))))
    (pss_one (ps_ret pe_bl))
    pss_nil)
    (pss_one (ps_ret (pe_and (pe_cmpR op_ge (pv 2) pe_int (nomark _)) (pe_one (pe_cmpR op_eq (pe_call (ok_greatest_divisor T) (hr.mono (by decide)) (by rfl) T.g_greatest_divisor T.F_greatest_divisor.kp T.b_greatest_divisor .nil pass0 (pa_cons (pv 1) (pa_cons (pv 2) pa_nil))) pe_int (nomark _))))))))), ?_⟩
    walk_at "ww"
    refine wIsi (.tup h.at_) (b := true) (by decide +kernel) ?_
    walk_at "ww"
    refine wLenT (SqT.of h.at_) ?_
    walk_at "ww"
    refine wGTup (SqT.of h.at_) rfl ?_
    walk_at "ww"
    refine ⟨_, _, rfl, .int p, ?_⟩
    simp only [isIntV]
    walk_at "ww"
    refine ⟨_, _, rfl, .int q, ?_⟩
    simp only [isIntV]
    walk_at "ww"
    rw [decide_eq_true (show (1 : Int) ≤ q from h.is_.1)]
    walk_at "ww"
    refine ⟨p, q, rfl, ?_⟩
    walk_at "ww"
    have e : decide (V.int ((1 : Nat) : Int) = V.int 1) = true := decide_eq_true rfl
    rw [h.is_.2, e]
    exact k
def spLow : Sp := fun vs H Q _ => ∃ (t b : Int) (n : Nat), vs = [.int t, .int b] ∧ b ≠ 0 ∧ b.natAbs < 2 ^ n ∧ 1 ≤ n ∧ n ≤ 9000 ∧ ∀ p H', H p = none → Ex H H' → H' p = some (.tup [.int (Fr.frT t b), .int (Fr.frB t b)]) → Q (.ref p) H'
theorem ok_lowest (T : Tx K mg A) : FnOk P w K mg base CX0 2 A.f_lowest A.d_lowest ["top", "bottom"] spLow := by
  refine T.F_lowest.ok sc_lowest (fun vs H Q E h => ?_) (fun cdv A' outer s H vs Q E hr h => ?_)
  · obtain ⟨t, b, n, rfl, _⟩ := h
    rfl
  · obtain ⟨t, b, n, rfl, hb, bb, n1, n9, k⟩ := h
    refine ⟨_, (pss_cons (ps_set (i := 2) sc_lowest.nd rfl (Or.inl rfl) (pe_call (ok_greatest_divisor T) (hr.mono (by decide)) (by rfl) T.g_greatest_divisor T.F_greatest_divisor.kp T.b_greatest_divisor .nil pass0 (pa_cons (pv 0) (pa_cons (pv 1) pa_nil))))
    (pss_cons (ps_if (pt_cmpR op_lt (pv 1) pe_int (nomark _))
    (pss_one (ps_set (i := 2) sc_lowest.nd rfl (Or.inl rfl) (pe_un un_neg (pv 2))))
    pss_nil)
    (pss_one (ps_ret (pe_tup (pa_cons (pe_op op_fdivZ (pv 0) (pv 2)) (pa_cons (pe_op op_fdivZ (pv 1) (pv 2)) pa_nil))))))), ?_⟩
    have dz : ∀ i : Int, CDivZ i (Fr.frD t b) := fun i => divz (Fr.frD_ne hb) (Nat.lt_of_le_of_lt (Fr.frD_le hb) bb) n1 n9
    walk_at "ww"
    refine ⟨t, b, rfl, ?_⟩
    walk_at "ww"
    refine ite2 (fun c => ?_) (fun c => ?_)
    · have eD : -((t.gcd b : Nat) : Int) = Fr.frD t b := by unfold Fr.frD; rw [if_pos (of_decide_eq_true c)]
      walk_at "ww"
      rw [eD]
      refine wI (dz _) ?_
      walk_at "ww"
      refine wI (dz _) ?_
      walk_at "ww"
      exact alI fun p H' n e f => k p H' n e f
    · have eD : ((t.gcd b : Nat) : Int) = Fr.frD t b := by unfold Fr.frD; rw [if_neg (fun z => c (decide_eq_true z))]
      walk_at "ww"
      rw [eD]
      refine wI (dz _) ?_
      walk_at "ww"
      refine wI (dz _) ?_
      walk_at "ww"
      exact alI fun p H' n e f => k p H' n e f
def spCheck : Sp := fun vs H Q _ => ∃ (a c : Addr) (p q r s : Int) (n : Nat), vs = [.ref a, .ref c] ∧ FrAt H a p q n ∧ FrAt H c r s n ∧ Q .non H
theorem ok_check_two (T : Tx K mg A) : FnOk P w K mg base CX0 3 A.f_check_two A.d_check_two ["one", "other"] spCheck := by
  refine T.F_check_two.ok sc_check_two (fun vs H Q E h => ?_) (fun cdv A' outer s H vs Q E hr h => ?_)
  · obtain ⟨a, c, p, q, r, s, n, rfl, _⟩ := h
    rfl
  · obtain ⟨a, c, p, q, r, s, n, rfl, h1, h2, k⟩ := h
    refine ⟨_, (pss_cons (ps_if (pt_not (pt_val (pe_call (ok_is_fraction T) (hr.mono (by decide)) (by rfl) T.g_is_fraction T.F_is_fraction.kp T.b_is_fraction .nil pass0 (pa_cons (pv 0) pa_nil))))
    (pss_one ps_never)
    pss_nil)
    (pss_one (ps_if (pt_not (pt_val (pe_call (ok_is_fraction T) (hr.mono (by decide)) (by rfl) T.g_is_fraction T.F_is_fraction.kp T.b_is_fraction .nil pass0 (pa_cons (pv 1) pa_nil))))
    (pss_one ps_never)
    pss_nil))), ?_⟩
    walk_at "ww"
    refine ⟨a, p, q, n, rfl, h1, ?_⟩
    walk_at "ww"
    refine ⟨c, r, s, n, rfl, h2, ?_⟩
    walk_at "ww"
    exact k
theorem frAt_of {H : Hp} {x : Addr} {t b : Int} {m : Nat} (h : H x = some (.tup [.int (Fr.frT t b), .int (Fr.frB t b)])) (hb : b ≠ 0) (ht : t.natAbs < 2 ^ m) (hb2 : b.natAbs < 2 ^ m) : FrAt H x (Fr.frT t b) (Fr.frB t b) m :=
  ⟨h, Fr.fr_is hb, Nat.lt_of_le_of_lt (Fr.natAbs_fdiv_le hb).1 ht, Nat.lt_of_le_of_lt (Fr.natAbs_fdiv_le hb).2 hb2⟩
theorem mulB {i j : Int} {n : Nat} (a : i.natAbs < 2 ^ n) (b : j.natAbs < 2 ^ n) : (i * j).natAbs < 2 ^ (2 * n + 1) := by
  have h := wide_lt a b
  refine Nat.lt_of_lt_of_le h (Nat.pow_le_pow_right (by omega) (by omega))
theorem addB {i j k l : Int} {n : Nat} (a : i.natAbs < 2 ^ n) (b : j.natAbs < 2 ^ n) (c : k.natAbs < 2 ^ n) (d : l.natAbs < 2 ^ n) : (i * j + k * l).natAbs < 2 ^ (2 * n + 1) ∧ (i * j - k * l).natAbs < 2 ^ (2 * n + 1) := by
  have h1 := wide_lt a b
  have h2 := wide_lt c d
  have e : 2 ^ (2 * n + 1) = 2 ^ (n + n) + 2 ^ (n + n) := by
    rw [show 2 * n + 1 = (n + n) + 1 by omega, Nat.pow_succ]
    omega
  omega
theorem nz {q s : Int} (h1 : 1 ≤ q) (h2 : 1 ≤ s) : q * s ≠ 0 := by
  have : 0 < q * s := Int.mul_pos (by omega) (by omega)
  omega
/-- two fractions in, t by b out -/
def spTwo (ok : Int → Prop) (ft fb : Int → Int → Int → Int → Int) : Sp := fun vs H Q _ => ∃ (a c : Addr) (p q r s : Int) (n : Nat), vs = [.ref a, .ref c] ∧ FrAt H a p q n ∧ FrAt H c r s n ∧ 1 ≤ n ∧ n ≤ 2000 ∧ ok r ∧
  ∀ x H', H x = none → Ex H H' → FrAt H' x (Fr.frT (ft p q r s) (fb p q r s)) (Fr.frB (ft p q r s) (fb p q r s)) (2 * n + 1) → Q (.ref x) H'
abbrev spPlus := spTwo (fun _ => True) (fun p q r s => p * s + r * q) (fun _ q _ s => q * s)
abbrev spMinus := spTwo (fun _ => True) (fun p q r s => p * s - r * q) (fun _ q _ s => q * s)
abbrev spTimes := spTwo (fun _ => True) (fun p _ r _ => p * r) (fun _ q _ s => q * s)
abbrev spOver := spTwo (fun r => r ≠ 0) (fun p _ _ s => p * s) (fun _ q r _ => q * r)
theorem ok_plus (T : Tx K mg A) : FnOk P w K mg base CX0 4 A.f_plus A.d_plus ["one", "other"] spPlus := by
  refine T.F_plus.ok sc_plus (fun vs H Q E h => ?_) (fun cdv A' outer s H vs Q E hr h => ?_)
  · obtain ⟨a, c, p, q, r, s, n, rfl, _⟩ := h
    rfl
  · obtain ⟨a, c, p, q, r, s, n, rfl, h1, h2, n1, n2, hok, k⟩ := h
    refine ⟨_, (pss_cons (ps_expr (pe_call (ok_check_two T) (hr.mono (by decide)) (by rfl) T.g_check_two T.F_check_two.kp T.b_check_two .nil pass0 (pa_cons (pv 0) (pa_cons (pv 1) pa_nil))))
    (pss_one (ps_ret (pe_call (ok_lowest T) (hr.mono (by decide)) (by rfl) T.g_lowest T.F_lowest.kp T.b_lowest .nil pass0 (pa_cons (pe_op op_add (pe_op op_mulW (pe_ix (ix_tupV (K := K) rfl) (pv 0) pe_int (fun _ _ => rfl)) (pe_ix (ix_tupV (K := K) rfl) (pv 1) pe_int (fun _ _ => rfl))) (pe_op op_mulW (pe_ix (ix_tupV (K := K) rfl) (pv 1) pe_int (fun _ _ => rfl)) (pe_ix (ix_tupV (K := K) rfl) (pv 0) pe_int (fun _ _ => rfl)))) (pa_cons (pe_op op_mulW (pe_ix (ix_tupV (K := K) rfl) (pv 0) pe_int (fun _ _ => rfl)) (pe_ix (ix_tupV (K := K) rfl) (pv 1) pe_int (fun _ _ => rfl))) pa_nil)))))), ?_⟩
    obtain ⟨g1, i1, bp, bq⟩ := id h1
    obtain ⟨g2, i2, br, bs⟩ := id h2
    walk_at "ww"
    refine ⟨a, c, p, q, r, s, n, rfl, h1, h2, ?_⟩
    walk_at "ww"
    refine ⟨_, _, 2 * n + 1, rfl, nz i1.1 i2.1, mulB bq bs, by omega, by omega, fun x H' e e' f => ?_⟩
    exact k x H' e e' (frAt_of f (nz i1.1 i2.1) (addB bp bs br bq).1 (mulB bq bs))
theorem ok_minus (T : Tx K mg A) : FnOk P w K mg base CX0 4 A.f_minus A.d_minus ["one", "other"] spMinus := by
  refine T.F_minus.ok sc_minus (fun vs H Q E h => ?_) (fun cdv A' outer s H vs Q E hr h => ?_)
  · obtain ⟨a, c, p, q, r, s, n, rfl, _⟩ := h
    rfl
  · obtain ⟨a, c, p, q, r, s, n, rfl, h1, h2, n1, n2, hok, k⟩ := h
    refine ⟨_, (pss_cons (ps_expr (pe_call (ok_check_two T) (hr.mono (by decide)) (by rfl) T.g_check_two T.F_check_two.kp T.b_check_two .nil pass0 (pa_cons (pv 0) (pa_cons (pv 1) pa_nil))))
    (pss_one (ps_ret (pe_call (ok_lowest T) (hr.mono (by decide)) (by rfl) T.g_lowest T.F_lowest.kp T.b_lowest .nil pass0 (pa_cons (pe_op op_sub (pe_op op_mulW (pe_ix (ix_tupV (K := K) rfl) (pv 0) pe_int (fun _ _ => rfl)) (pe_ix (ix_tupV (K := K) rfl) (pv 1) pe_int (fun _ _ => rfl))) (pe_op op_mulW (pe_ix (ix_tupV (K := K) rfl) (pv 1) pe_int (fun _ _ => rfl)) (pe_ix (ix_tupV (K := K) rfl) (pv 0) pe_int (fun _ _ => rfl)))) (pa_cons (pe_op op_mulW (pe_ix (ix_tupV (K := K) rfl) (pv 0) pe_int (fun _ _ => rfl)) (pe_ix (ix_tupV (K := K) rfl) (pv 1) pe_int (fun _ _ => rfl))) pa_nil)))))), ?_⟩
    obtain ⟨g1, i1, bp, bq⟩ := id h1
    obtain ⟨g2, i2, br, bs⟩ := id h2
    walk_at "ww"
    refine ⟨a, c, p, q, r, s, n, rfl, h1, h2, ?_⟩
    walk_at "ww"
    refine ⟨_, _, 2 * n + 1, rfl, nz i1.1 i2.1, mulB bq bs, by omega, by omega, fun x H' e e' f => ?_⟩
    exact k x H' e e' (frAt_of f (nz i1.1 i2.1) (addB bp bs br bq).2 (mulB bq bs))
theorem ok_times (T : Tx K mg A) : FnOk P w K mg base CX0 4 A.f_times A.d_times ["one", "other"] spTimes := by
  refine T.F_times.ok sc_times (fun vs H Q E h => ?_) (fun cdv A' outer s H vs Q E hr h => ?_)
  · obtain ⟨a, c, p, q, r, s, n, rfl, _⟩ := h
    rfl
  · obtain ⟨a, c, p, q, r, s, n, rfl, h1, h2, n1, n2, hok, k⟩ := h
    refine ⟨_, (pss_cons (ps_expr (pe_call (ok_check_two T) (hr.mono (by decide)) (by rfl) T.g_check_two T.F_check_two.kp T.b_check_two .nil pass0 (pa_cons (pv 0) (pa_cons (pv 1) pa_nil))))
    (pss_one (ps_ret (pe_call (ok_lowest T) (hr.mono (by decide)) (by rfl) T.g_lowest T.F_lowest.kp T.b_lowest .nil pass0 (pa_cons (pe_op op_mulW (pe_ix (ix_tupV (K := K) rfl) (pv 0) pe_int (fun _ _ => rfl)) (pe_ix (ix_tupV (K := K) rfl) (pv 1) pe_int (fun _ _ => rfl))) (pa_cons (pe_op op_mulW (pe_ix (ix_tupV (K := K) rfl) (pv 0) pe_int (fun _ _ => rfl)) (pe_ix (ix_tupV (K := K) rfl) (pv 1) pe_int (fun _ _ => rfl))) pa_nil)))))), ?_⟩
    obtain ⟨g1, i1, bp, bq⟩ := id h1
    obtain ⟨g2, i2, br, bs⟩ := id h2
    walk_at "ww"
    refine ⟨a, c, p, q, r, s, n, rfl, h1, h2, ?_⟩
    walk_at "ww"
    refine ⟨_, _, 2 * n + 1, rfl, nz i1.1 i2.1, mulB bq bs, by omega, by omega, fun x H' e e' f => ?_⟩
    exact k x H' e e' (frAt_of f (nz i1.1 i2.1) (mulB bp br) (mulB bq bs))
theorem ok_over (T : Tx K mg A) : FnOk P w K mg base CX0 4 A.f_over A.d_over ["one", "other"] spOver := by
  refine T.F_over.ok sc_over (fun vs H Q E h => ?_) (fun cdv A' outer s H vs Q E hr h => ?_)
  · obtain ⟨a, c, p, q, r, s, n, rfl, _⟩ := h
    rfl
  · obtain ⟨a, c, p, q, r, s, n, rfl, h1, h2, n1, n2, hok, k⟩ := h
    refine ⟨_, (pss_cons (ps_expr (pe_call (ok_check_two T) (hr.mono (by decide)) (by rfl) T.g_check_two T.F_check_two.kp T.b_check_two .nil pass0 (pa_cons (pv 0) (pa_cons (pv 1) pa_nil))))
    (pss_cons (ps_if (pt_cmpR op_eq (pe_ix (ix_tupV (K := K) rfl) (pv 1) pe_int (fun _ _ => rfl)) pe_int (nomark _))
    (pss_one ps_never)
    pss_nil)
    (pss_one (ps_ret (pe_call (ok_lowest T) (hr.mono (by decide)) (by rfl) T.g_lowest T.F_lowest.kp T.b_lowest .nil pass0 (pa_cons (pe_op op_mulW (pe_ix (ix_tupV (K := K) rfl) (pv 0) pe_int (fun _ _ => rfl)) (pe_ix (ix_tupV (K := K) rfl) (pv 1) pe_int (fun _ _ => rfl))) (pa_cons (pe_op op_mulW (pe_ix (ix_tupV (K := K) rfl) (pv 0) pe_int (fun _ _ => rfl)) (pe_ix (ix_tupV (K := K) rfl) (pv 1) pe_int (fun _ _ => rfl))) pa_nil))))))), ?_⟩
    obtain ⟨g1, i1, bp, bq⟩ := id h1
    obtain ⟨g2, i2, br, bs⟩ := id h2
    walk_at "ww"
    refine ⟨a, c, p, q, r, s, n, rfl, h1, h2, ?_⟩
    walk_at "ww"
    have hr0 : (decide (V.int r = V.int 0)) = false := decide_eq_false (fun z => hok (V.int.inj z))
    rw [hr0]
    walk_at "ww"
    have hz : q * r ≠ 0 := Int.mul_ne_zero (by have := i1.1; omega) hok
    refine ⟨_, _, 2 * n + 1, rfl, hz, mulB bq br, by omega, by omega, fun x H' e e' f => ?_⟩
    exact k x H' e e' (frAt_of f hz (mulB bp bs) (mulB bq br))
def spBelow : Sp := fun vs H Q _ => ∃ (a c : Addr) (p q r s : Int) (n : Nat), vs = [.ref a, .ref c] ∧ FrAt H a p q n ∧ FrAt H c r s n ∧ 1 ≤ n ∧ n ≤ 2000 ∧ Q (.bl (decide (p * s < r * q))) H
theorem ok_is_less (T : Tx K mg A) : FnOk P w K mg base CX0 1 A.f_is_less A.d_is_less ["one", "other"] spBelow := by
  refine T.F_is_less.ok sc_is_less (fun vs H Q E h => ?_) (fun cdv A' outer s H vs Q E hr h => ?_)
  · obtain ⟨a, c, p, q, r, s, n, rfl, _⟩ := h
    rfl
  · obtain ⟨a, c, p, q, r, s, n, rfl, h1, h2, n1, n2, k⟩ := h
    refine ⟨_, (pss_one (ps_ret (pe_cmpR op_lt (pe_op op_mulW (pe_ix (ix_tupV (K := K) rfl) (pv 0) pe_int (fun _ _ => rfl)) (pe_ix (ix_tupV (K := K) rfl) (pv 1) pe_int (fun _ _ => rfl))) (pe_op op_mulW (pe_ix (ix_tupV (K := K) rfl) (pv 1) pe_int (fun _ _ => rfl)) (pe_ix (ix_tupV (K := K) rfl) (pv 0) pe_int (fun _ _ => rfl))) (nomark _)))), ?_⟩
    obtain ⟨g1, i1, bp, bq⟩ := id h1
    obtain ⟨g2, i2, br, bs⟩ := id h2
    walk_at "ww"
    exact k
theorem ok_below (T : Tx K mg A) : FnOk P w K mg base CX0 4 A.f_below A.d_below ["one", "other"] spBelow := by
  refine T.F_below.ok sc_below (fun vs H Q E h => ?_) (fun cdv A' outer s H vs Q E hr h => ?_)
  · obtain ⟨a, c, p, q, r, s, n, rfl, _⟩ := h
    rfl
  · obtain ⟨a, c, p, q, r, s, n, rfl, h1, h2, n1, n2, k⟩ := h
    refine ⟨_, (pss_cons (ps_expr (pe_call (ok_check_two T) (hr.mono (by decide)) (by rfl) T.g_check_two T.F_check_two.kp T.b_check_two .nil pass0 (pa_cons (pv 0) (pa_cons (pv 1) pa_nil))))
    (pss_one (ps_ret (pe_call (ok_is_less T) (hr.mono (by decide)) (by rfl) T.g_is_less T.F_is_less.kp T.b_is_less .nil pass0 (pa_cons (pv 0) (pa_cons (pv 1) pa_nil)))))), ?_⟩
    walk_at "ww"
    refine ⟨a, c, p, q, r, s, n, rfl, h1, h2, ?_⟩
    walk_at "ww"
    exact ⟨a, c, p, q, r, s, n, rfl, h1, h2, n1, n2, k⟩
def spFraction : Sp := fun vs H Q _ => ∃ (t b : Int) (n : Nat), vs = [.int t, .int b] ∧ b ≠ 0 ∧ t.natAbs < 2 ^ n ∧ b.natAbs < 2 ^ n ∧ 1 ≤ n ∧ n ≤ 4000 ∧ ∀ x H', H x = none → Ex H H' → FrAt H' x (Fr.frT t b) (Fr.frB t b) n → Q (.ref x) H'
theorem ok_fraction (T : Tx K mg A) : FnOk P w K mg base CX0 3 A.f_fraction A.d_fraction ["top", "bottom"] spFraction := by
  refine T.F_fraction.ok sc_fraction (fun vs H Q E h => ?_) (fun cdv A' outer s H vs Q E hr h => ?_)
  · obtain ⟨t, b, n, rfl, _⟩ := h
    rfl
  · obtain ⟨t, b, n, rfl, hb, bt, bb, n1, n2, k⟩ := h
    refine ⟨_, (pss_cons (ps_if (pt_not (pt_val (pe_call (ok_is_whole T) (hr.mono (by decide)) (by rfl) T.g_is_whole T.F_is_whole.kp T.b_is_whole .nil pass0 (pa_cons (pv 0) pa_nil))))
    (pss_one ps_never)
    pss_nil)
    (pss_cons (ps_if (PW.pt (pw_or (pt_not (pt_val (pe_call (ok_is_whole T) (hr.mono (by decide)) (by rfl) T.g_is_whole T.F_is_whole.kp T.b_is_whole .nil pass0 (pa_cons (pv 1) pa_nil)))) (pw_or1 (pt_cmpR op_eq (pv 1) pe_int (nomark _)))))
    (pss_one ps_never)
    pss_nil)
    (pss_one (ps_ret (pe_call (ok_lowest T) (hr.mono (by decide)) (by rfl) T.g_lowest T.F_lowest.kp T.b_lowest .nil pass0 (pa_cons (pv 0) (pa_cons (pv 1) pa_nil))))))), ?_⟩
    walk_at "ww"
    refine ⟨_, _, rfl, .int t, ?_⟩
    simp only [isIntV]
    walk_at "ww"
    refine ⟨_, _, rfl, .int b, ?_⟩
    simp only [isIntV]
    walk_at "ww"
    have hb0 : (decide (V.int b = V.int 0)) = false := decide_eq_false (fun z => hb (V.int.inj z))
    rw [hb0]
    walk_at "ww"
    refine ⟨t, b, n, rfl, hb, bb, n1, by omega, fun x H' e e' f => ?_⟩
    exact k x H' e e' (frAt_of f hb bt bb)
def spLlow : Sp := fun vs H Q _ => ∃ (p q : Int) (n : Nat), vs = [.int p, .int q] ∧ Fr.IsFr p q ∧ ∀ x H', H x = none → Ex H H' → H' x = some (.tup [.int p, .int q]) → Q (.ref x) H'
theorem ok_Llow (T : Tx K mg A) : FnOk P w K mg base CX0 1 A.f_Llow A.d_Llow ["_law_upper", "_law_lower"] spLlow := by
  refine T.F_Llow.ok sc_Llow (fun vs H Q E h => ?_) (fun cdv A' outer s H vs Q E hr h => ?_)
  · obtain ⟨p, q, n, rfl, _⟩ := h
    rfl
  · obtain ⟨p, q, n, rfl, hf, k⟩ := h
    refine ⟨_, (pss_cons (ps_par (i := 2) (j := 3) (by rfl) sc_Llow.nd rfl rfl (by decide) rfl rfl (pa_cons (pe_callB call_abs (by rfl) T.m_abs (by decide +kernel) (pa_cons (pv 0) pa_nil)) (pa_cons (pv 1) pa_nil)) (by rfl))
    (pss_cons (ps_while PassesOwn.never (pt_cmpR op_gt (pv 3) pe_int (nomark _))
    (pss_one (ps_par (i := 2) (j := 3) (by rfl) sc_Llow.nd rfl rfl (by decide) rfl rfl (pa_cons (pv 3) (pa_cons (pe_op op_mod (pv 2) (pv 3)) pa_nil)) (by rfl))))
    (pss_one (ps_ret (pe_tup (pa_cons (pe_op op_fdivZ (pv 0) (pv 2)) (pa_cons (pe_op op_fdivZ (pv 1) (pv 2)) pa_nil))))))), ?_⟩
    walk_at "ww"
    refine ⟨fun m σ H' => ∃ x y : Int, σ = [some (.int p), some (.int q), some (.int x), some (.int y)] ∧ H' = H ∧ x.gcd y = 1 ∧ 0 ≤ x ∧ 0 ≤ y ∧ y.natAbs = m, ⟨_, _, q, rfl, rfl, ?_, ?_, ?_, rfl⟩, ?_⟩
    · have e : (if p < 0 then -p else p).gcd q = p.gcd q := by
        split
        · exact Int.neg_gcd
        · rfl
      rw [e]
      exact hf.2
    · split <;> omega
    · have := hf.1
      omega
    rintro m σ H' ⟨x, y, rfl, rfl, hg, hx, hy, hm⟩
    walk_at "ww"
    refine ite2 (fun c => ?_) (fun c => ?_)
    · have hy0 : 0 < y := of_decide_eq_true c
      refine ⟨fun σ' H'' => ∃ x' y' : Int, σ' = [some (.int p), some (.int q), some (.int x'), some (.int y')] ∧ H'' = H' ∧ x'.gcd y' = 1 ∧ 0 ≤ x' ∧ 0 ≤ y' ∧ y'.natAbs < m, fun σ' H'' ⟨x', y', e1, e2, e3, e4, e5, e6⟩ => ⟨_, e6, x', y', e1, e2, e3, e4, e5, rfl⟩, ?_⟩
      walk_at "ww"
      have h1 := Int.emod_nonneg x (show y ≠ 0 by omega)
      have h2 := Int.emod_lt_of_pos x hy0
      refine ⟨y, x % y, rfl, rfl, ?_, by omega, h1, by omega⟩
      rw [← Int.fmod_eq_emod_of_nonneg x (by omega)]
      exact (Fr.gcd_turn x (by omega)).trans hg
    · have hy0 : y = 0 := by
        have : ¬ 0 < y := fun z => c (decide_eq_true z)
        omega
      have hx1 : x = 1 := by
        rw [hy0, Int.gcd_zero_right] at hg
        omega
      subst hx1
      walk_at "ww"
      rw [Int.fdiv_one, Int.fdiv_one]
      exact alI fun x H'' e1 e2 f => k x H'' e1 e2 f
def spNumber : Sp := fun vs H Q _ => ∃ p : Addr, vs = [.ref p] ∧ Pool H p ∧ ∀ z H', z.natAbs < 2 ^ 210 → Kp p H H' → Pool H' p → Q (.int z) H'
theorem ok_Lnumber (T : Tx K mg A) : FnOk P w K mg base CX0 2 A.f_Lnumber A.d_Lnumber ["_law_pool_here"] spNumber := by
  refine T.F_Lnumber.ok sc_Lnumber (fun vs H Q E h => ?_) (fun cdv A' outer s H vs Q E hr h => ?_)
  · obtain ⟨p, rfl, _⟩ := h
    rfl
  · obtain ⟨p, rfl, hP, k⟩ := h
    refine ⟨_, (pss_cons (ps_par (i := 1) (j := 2) (by rfl) sc_Lnumber.nd rfl rfl (by decide) rfl rfl (pa_cons (pe_call (ok_Ltake T) (hr.mono (by decide)) (by rfl) T.g_Ltake T.F_Ltake.kp T.b_Ltake .nil pass0 (pa_cons (pv 0) (pa_cons pe_int pa_nil))) (pa_cons pe_int pa_nil)) (by rfl))
    (C8.pss_cut (ps_if (pt_cmpR op_eq (pv 1) pe_int (nomark _))
    (pss_one (ps_set (i := 2) sc_Lnumber.nd rfl (Or.inl rfl) (pe_call (ok_Ltake T) (hr.mono (by decide)) (by rfl) T.g_Ltake T.F_Ltake.kp T.b_Ltake .nil pass0 (pa_cons (pv 0) (pa_cons pe_int pa_nil)))))
    (pss_one (ps_if (pt_cmpR op_lt (pv 1) pe_int (nomark _))
      (pss_one (ps_set (i := 2) sc_Lnumber.nd rfl (Or.inl rfl) (pe_call (ok_Ltake T) (hr.mono (by decide)) (by rfl) T.g_Ltake T.F_Ltake.kp T.b_Ltake .nil pass0 (pa_cons (pv 0) (pa_cons pe_int pa_nil)))))
      (pss_one (ps_if (pt_cmpR op_eq (pv 1) pe_int (nomark _))
        (pss_one (ps_for PassesOwn.never rfl (pi_range1 (by rfl) T.m_range (pa_cons (pe_call (ok_Ltake T) (hr.mono (by decide)) (by rfl) T.g_Ltake T.F_Ltake.kp T.b_Ltake .nil pass0 (pa_cons (pv 0) (pa_cons pe_int pa_nil))) pa_nil)) (pg_name (i := 3) sc_Lnumber.nd rfl (Or.inl rfl))
          (pss_one (ps_set (i := 2) sc_Lnumber.nd rfl (Or.inl rfl) (pe_op op_mul (pv 2) (pe_ix (ix_listV (K := K) rfl) (pe_lst (pa_cons pe_int (pa_cons pe_int (pa_cons pe_int (pa_cons pe_int (pa_cons pe_int (pa_cons pe_int (pa_cons pe_int (pa_cons pe_int (pa_cons pe_int pa_nil)))))))))) (pe_call (ok_Ltake T) (hr.mono (by decide)) (by rfl) T.g_Ltake T.F_Ltake.kp T.b_Ltake .nil pass0 (pa_cons (pv 0) (pa_cons pe_int pa_nil))) (fun _ _ => rfl)))))))
        (pss_one (ps_set (i := 2) sc_Lnumber.nd rfl (Or.inl rfl) (pe_op op_add (pe_op op_mulW (pe_call (ok_Ltake T) (hr.mono (by decide)) (by rfl) T.g_Ltake T.F_Ltake.kp T.b_Ltake .nil pass0 (pa_cons (pv 0) (pa_cons (pe_op op_pow pe_int pe_int) pa_nil))) (pe_op op_pow pe_int pe_int)) (pe_call (ok_Ltake T) (hr.mono (by decide)) (by rfl) T.g_Ltake T.F_Ltake.kp T.b_Ltake .nil pass0 (pa_cons (pv 0) (pa_cons (pe_op op_pow pe_int pe_int) pa_nil)))))))))))
    (pss_one (ps_ret (pe_op op_mul (pv 2) (pe_ix (ix_listV (K := K) rfl) (pe_lst (pa_cons pe_int (pa_cons (pe_un un_neg pe_int) pa_nil))) (pe_call (ok_Ltake T) (hr.mono (by decide)) (by rfl) T.g_Ltake T.F_Ltake.kp T.b_Ltake .nil pass0 (pa_cons (pv 0) (pa_cons pe_int pa_nil))) (fun _ _ => rfl))))))), ?_⟩
    walk_at "ww"
    refine ⟨p, 5, rfl, hP, Sm.of (by omega) (by omega), fun md H1 m0 m1 k1 hP1 => ?_⟩
    walk_at "ww"
    refine wCut (fun σ H' => ∃ z tv, σ = [some (.ref p), some (.int md), some (.int z), tv] ∧ z.natAbs < 2 ^ 200 ∧ Kp p H1 H' ∧ Pool H' p) ?_ ?_
    · have small : ∀ d : Int, 0 ≤ d → d < 1000 → d.natAbs < 2 ^ 200 := fun d h0 h1 => Nat.lt_of_lt_of_le (show d.natAbs < 2 ^ 10 by omega) (Nat.pow_le_pow_right (by omega) (by omega))
      walk_at "ww"
      refine ite2 (fun c1 => ?_) (fun c1 => ?_)
      · walk_at "ww"
        refine ⟨p, 4, rfl, hP1, Sm.of (by omega) (by omega), fun d H2 d0 d1 k2 hP2 => ?_⟩
        walk_at "ww"
        exact ⟨d, _, rfl, small d d0 (by omega), k2, hP2⟩
      · walk_at "ww"
        refine ite2 (fun c2 => ?_) (fun c2 => ?_)
        · walk_at "ww"
          refine ⟨p, 200, rfl, hP1, Sm.of (by omega) (by omega), fun d H2 d0 d1 k2 hP2 => ?_⟩
          walk_at "ww"
          exact ⟨d, _, rfl, small d d0 (by omega), k2, hP2⟩
        · walk_at "ww"
          refine ite2 (fun c3 => ?_) (fun c3 => ?_)
          · walk_at "ww"
            refine ⟨p, 16, rfl, hP1, Sm.of (by omega) (by omega), fun d H2 d0 d1 k2 hP2 => ?_⟩
            walk_at "ww"
            refine ⟨by omega, by omega, ?_⟩
            refine for_range (lo := 0) (n := d.toNat) (fun i σ H' => ∃ z tv, σ = [some (.ref p), some (.int md), some (.int z), tv] ∧ z.natAbs < 2 ^ (7 * i + 1) ∧ Kp p H1 H' ∧ Pool H' p) ⟨1, none, rfl, by decide, k2, hP2⟩ ?_ ?_
            · rintro i σ H3 hi ⟨z, tv, rfl, hz, k3, hP3⟩
              walk_at "ww"
              refine alI fun l H4 n4 e4 f4 => ?_
              walk_at "ww"
              refine ⟨p, 9, rfl, hP3.ex e4, Sm.of (by omega) (by omega), fun c H5 c0 c9 k5 hP5 => ?_⟩
              obtain ⟨v, hv, hm⟩ := at_ex (xs := [V.int 2, V.int 3, V.int 4, V.int 5, V.int 6, V.int 10, V.int 12, V.int 60, V.int 97]) c0 (by show c < 9; omega)
              refine wIxL (SqL.of (k5 _ _ (hP3.ne n4) f4)) hv ?_
              obtain ⟨y, rfl, y0, y1⟩ : ∃ y : Int, v = .int y ∧ 0 ≤ y ∧ y ≤ 97 := by
                simp only [List.mem_cons, List.not_mem_nil, or_false] at hm
                rcases hm with rfl | rfl | rfl | rfl | rfl | rfl | rfl | rfl | rfl <;> exact ⟨_, rfl, by omega, by omega⟩
              walk_at "ww"
              refine ⟨_, _, rfl, ?_, (k3.trans e4.kp).trans k5, hP5⟩
              have hy : y.natAbs < 2 ^ 7 := by omega
              have := wide_lt hz hy
              rw [show 7 * (i + 1) + 1 = 7 * i + 1 + 7 by omega]
              exact this
            · rintro σ H3 ⟨z, tv, rfl, hz, k3, hP3⟩
              exact ⟨z, _, rfl, Nat.lt_of_lt_of_le hz (Nat.pow_le_pow_right (by omega) (by omega)), k3, hP3⟩
          · walk_at "ww"
            have e29 : (10 : Int) ^ Int.toNat 29 = 100000000000000000000000000000 := by decide +kernel
            have e30 : (10 : Int) ^ Int.toNat 30 = 1000000000000000000000000000000 := by decide +kernel
            rw [e30]
            refine ⟨p, _, rfl, hP1, ⟨by decide, by decide +kernel⟩, fun d H2 d0 d1 k2 hP2 => ?_⟩
            walk_at "ww"
            rw [e29]
            have n100 : (2 : Nat) ^ 100 = 1267650600228229401496703205376 := by decide +kernel
            have hd : d.natAbs < 2 ^ 100 := by rw [n100]; omega
            have h29 : (100000000000000000000000000000 : Int).natAbs < 2 ^ 100 := by decide +kernel
            refine wI (wide_mul hd h29 (by omega) (by omega) (by omega)) ?_
            walk_at "ww"
            rw [e29]
            refine ⟨p, _, rfl, hP2, ⟨by decide, by decide +kernel⟩, fun d2 H3 d20 d21 k3 hP3 => ?_⟩
            walk_at "ww"
            have n200 : (1000000000000000000000000000000000000000000000000000000000000 : Nat) ≤ 2 ^ 200 := by decide +kernel
            exact ⟨_, _, rfl, Nat.lt_of_lt_of_le (show (d * 100000000000000000000000000000 + d2).natAbs < 1000000000000000000000000000000000000000000000000000000000000 by omega) n200, k2.trans k3, hP3⟩
    · rintro σ H2 ⟨z, tv, rfl, hz, k2, hP2⟩
      walk_at "ww"
      refine alI fun l H4 n4 e4 f4 => ?_
      walk_at "ww"
      refine ⟨p, 2, rfl, hP2.ex e4, Sm.of (by omega) (by omega), fun c H5 c0 c9 k5 hP5 => ?_⟩
      obtain ⟨v, hv, hm⟩ := at_ex (xs := [V.int 1, V.int (-1)]) c0 (by show c < 2; omega)
      refine wIxL (SqL.of (k5 _ _ (hP2.ne n4) f4)) hv ?_
      obtain ⟨y, rfl, y0, y1⟩ : ∃ y : Int, v = .int y ∧ -1 ≤ y ∧ y ≤ 1 := by
        simp only [List.mem_cons, List.not_mem_nil, or_false] at hm
        rcases hm with rfl | rfl <;> exact ⟨_, rfl, by omega, by omega⟩
      walk_at "ww"
      refine k _ _ ?_ (((k1.trans k2).trans e4.kp).trans k5) hP5
      have hy : y.natAbs < 2 ^ 10 := by omega
      exact wide_lt hz hy
def spLis : Sp := fun vs H Q _ => ∃ (a : Addr) (p q u l : Int) (n : Nat), vs = [.ref a, .int u, .int l] ∧ FrAt H a p q n ∧ u.natAbs < 2 ^ n ∧ l.natAbs < 2 ^ n ∧ 1 ≤ n ∧ n ≤ 5000 ∧ p * l = u * q ∧ ∀ H', Ex H H' → Q (.bl true) H'
theorem ok_Lis (T : Tx K mg A) : FnOk P w K mg base CX0 2 A.f_Lis A.d_Lis ["_law_told", "_law_upper", "_law_lower"] spLis := by
  refine T.F_Lis.ok sc_Lis (fun vs H Q E h => ?_) (fun cdv A' outer s H vs Q E hr h => ?_)
  · obtain ⟨a, p, q, u, l, n, rfl, _⟩ := h
    rfl
  · obtain ⟨a, p, q, u, l, n, rfl, hf, bu, bl, n1, n2, hc, k⟩ := h
    refine ⟨_, (pss_cons (ps_if (PW.pt (pw_or (pt_not (pt_val (pe_callB (call_isiV (K := K) rfl) (by rfl) T.m_isinstance (by decide +kernel) (pa_cons (pv 0) (pa_cons (pe_bltn (v := .ty "tuple") (by rfl) T.m_tuple (by decide +kernel) rfl) pa_nil))))) (pw_or1 (pt_cmpR op_ne (pe_callB (call_lenV (K := K) rfl) (by rfl) T.m_len (by decide +kernel) (pa_cons (pv 0) pa_nil)) pe_int (nomark _)))))
    (pss_one (ps_ret pe_bl))
    pss_nil)
    (pss_cons (ps_for PassesOwn.never rfl (pi_tupV (K := K) rfl (pv 0)) (pg_name (i := 3) sc_Lis.nd rfl (Or.inl rfl))
    (pss_one (ps_if (PW.pt (pw_or (pt_not (pt_val (pe_callB (call_isiV (K := K) rfl) (by rfl) T.m_isinstance (by decide +kernel) (pa_cons (pv 3) (pa_cons (pe_bltn (v := .ty "int") (by rfl) T.m_int (by decide +kernel) rfl) pa_nil))))) (pw_or1 (pt_val (pe_callB (call_isiV (K := K) rfl) (by rfl) T.m_isinstance (by decide +kernel) (pa_cons (pv 3) (pa_cons (pe_bltn (v := .ty "bool") (by rfl) T.m_bool (by decide +kernel) rfl) pa_nil)))))))
      (pss_one (ps_ret pe_bl))
      pss_nil)))
    (pss_cons (ps_if (PW.pt (pw_or (pt_cmpR op_lt (pe_ix (ix_tupV (K := K) rfl) (pv 0) pe_int (fun _ _ => rfl)) pe_int (nomark _)) (pw_or1 (pt_cmpR (op_neDV (K := K) rfl hr.units) (pe_call (ok_Llow T) (hr.mono (by decide)) (by rfl) T.g_Llow T.F_Llow.kp T.b_Llow .nil pass0 (pa_cons (pe_ix (ix_tupV (K := K) rfl) (pv 0) pe_int (fun _ _ => rfl)) (pa_cons (pe_ix (ix_tupV (K := K) rfl) (pv 0) pe_int (fun _ _ => rfl)) pa_nil))) (pv 0) (nomark _)))))
    (pss_one (ps_ret pe_bl))
    pss_nil)
    (pss_one (ps_ret (pe_cmpR op_eq (pe_op op_mulW (pe_ix (ix_tupV (K := K) rfl) (pv 0) pe_int (fun _ _ => rfl)) (pv 2)) (pe_op op_mulW (pv 1) (pe_ix (ix_tupV (K := K) rfl) (pv 0) pe_int (fun _ _ => rfl))) (nomark _))))))), ?_⟩
    obtain ⟨g1, i1, bp, bq⟩ := id hf
    walk_at "ww"
    refine wIsi (.tup g1) (b := true) (by decide +kernel) ?_
    walk_at "ww"
    refine wLenT (SqT.of g1) ?_
    walk_at "ww"
    refine exSt (SqT.of g1) ?_
    refine for_tup (K := K) (a := a) (xs := [V.int p, V.int q]) (fun i σ H' => ∃ v, σ = [some (.ref a), some (.int u), some (.int l), v] ∧ H' = H) ⟨none, rfl, rfl⟩ (fun i σ H' _ ⟨_, _, e⟩ => by rw [e]; exact SqT.of g1) ?_ ?_
    · rintro i y σ H' hi ⟨v, rfl, rfl⟩
      obtain ⟨z, rfl⟩ : ∃ z, y = V.int z := by
        match i, hi with
        | 0, h => exact ⟨p, (Option.some.inj h).symm⟩
        | 1, h => exact ⟨q, (Option.some.inj h).symm⟩
      walk_at "ww"
      refine wIsi (.int z) (b := true) (by decide +kernel) ?_
      walk_at "ww"
      refine wIsi (.int z) (b := false) (by decide +kernel) ?_
      walk_at "ww"
      exact ⟨_, rfl, rfl⟩
    · rintro σ H' ⟨v, rfl, rfl⟩
      walk_at "ww"
      rw [decide_eq_false (show ¬ q < (1 : Int) by have := i1.1; omega)]
      walk_at "ww"
      refine ⟨p, q, n, rfl, i1, fun x H1 e0 e1 f1 => ?_⟩
      have g2 := e1 _ _ g1
      walk_at "ww"
      refine wNeD (dpPair f1) (dpPair g2) rfl rfl ?_
      have ev : PyData.eqv (.tuple [.int p, .int q]) (.tuple [.int p, .int q]) = true := by
        rw [SeqAt.eqv_refl]
        rfl
      rw [ev]
      walk_at "ww"
      rw [hc, decide_eq_true rfl]
      exact k _ e1
def spLmade : Sp := fun vs H Q _ => ∃ (u l : Int) (n : Nat), vs = [.int u, .int l] ∧ l ≠ 0 ∧ u.natAbs < 2 ^ n ∧ l.natAbs < 2 ^ n ∧ 1 ≤ n ∧ n ≤ 4000 ∧ ∀ H', Ex H H' → Q (.bl true) H'
theorem ok_Lmade_right (T : Tx K mg A) : FnOk P w K mg base CX0 4 A.f_Lmade_right A.d_Lmade_right ["_law_upper", "_law_lower"] spLmade := by
  obtain ⟨ds, dv1_fraction, db1_fraction⟩ := T.db1_fraction
  obtain ⟨gk, kd0_fraction_top⟩ := T.kd0_fraction_top
  refine T.F_Lmade_right.ok sc_Lmade_right (fun vs H Q E h => ?_) (fun cdv A' outer s H vs Q E hr h => ?_)
  · obtain ⟨u, l, n, rfl, _⟩ := h
    rfl
  · obtain ⟨u, l, n, rfl, hl, bu, bl, n1, n2, k⟩ := h
    refine ⟨_, (pss_cons (ps_set (i := 2) sc_Lmade_right.nd rfl (Or.inl rfl) (pe_lst (pa_cons (pe_call (ok_fraction T) (hr.mono (by decide)) (by rfl) T.g_fraction T.F_fraction.kp T.b_fraction .nil pass0 (pa_cons (pv 0) (pa_cons (pv 1) pa_nil))) (pa_cons (pe_callN0 (ok_fraction T) (hr.mono (by decide)) (by rfl) T.g_fraction T.F_fraction.kp T.kb0_fraction_bottom_top pass0 (pk_cons (pv 1) (pk_cons (pv 0) pk_nil))) (pa_cons (pe_call (ok_fraction T) (hr.mono (by decide)) (by rfl) T.g_fraction T.F_fraction.kp T.b_fraction .nil pass0 (pa_cons (pv 0) (pa_cons (pv 1) pa_nil))) pa_nil)))))
    (pss_cons (ps_if (pt_not (pt_val (pe_callB (cr_allV (K := K) rfl rfl) (by rfl) T.m_all (by decide +kernel) (pa_cons (pe_lc rfl sc_Lmade_right.nd (g := gName 3) (pi_listV (K := K) rfl (pv 2)) (blkOk_by (own := [("_law_told", 3)]) (N := ["_law_upper", "_law_lower", "_law_some", "_law_told"]) (sc := defScope s_Lmade_right) (by decide +kernel)) (fun _ _ _ _ _ => (pg_name (i := 3) sc_Lmade_right.nd rfl (Or.inl rfl))) (fun _ _ _ _ _ => pts_nil) (fun _ _ _ _ _ => (pe_call (ok_Lis T) (hr.mono (by decide)) (by rfl) T.g_Lis T.F_Lis.kp T.b_Lis .nil pass0 (pa_cons (pv 3) (pa_cons (pv 0) (pa_cons (pv 1) pa_nil)))))) pa_nil))))
    (pss_one (ps_ret pe_bl))
    pss_nil)
    (pss_cons (ps_set (i := 2) sc_Lmade_right.nd rfl (Or.inl rfl) (pe_lst (pa_cons (pe_call (ok_fraction T) (hr.mono (by decide)) (by rfl) T.g_fraction T.F_fraction.kp db1_fraction dv1_fraction pass0 (pa_cons (pv 0) pa_nil)) (pa_cons (pe_callN0 (ok_fraction T) (hr.mono (by decide)) (by rfl) T.g_fraction T.F_fraction.kp kd0_fraction_top pass0 (pk_cons (pv 0) pk_nil)) (pa_cons (pe_call (ok_fraction T) (hr.mono (by decide)) (by rfl) T.g_fraction T.F_fraction.kp T.b_fraction .nil pass0 (pa_cons (pv 0) (pa_cons pe_int pa_nil))) pa_nil)))))
    (pss_one (ps_ret (pe_callB (cr_allV (K := K) rfl rfl) (by rfl) T.m_all (by decide +kernel) (pa_cons (pe_lc rfl sc_Lmade_right.nd (g := gName 3) (pi_listV (K := K) rfl (pv 2)) (blkOk_by (own := [("_law_told", 3)]) (N := ["_law_upper", "_law_lower", "_law_some", "_law_told"]) (sc := defScope s_Lmade_right) (by decide +kernel)) (fun _ _ _ _ _ => (pg_name (i := 3) sc_Lmade_right.nd rfl (Or.inl rfl))) (fun _ _ _ _ _ => pts_nil) (fun _ _ _ _ _ => (pe_call (ok_Lis T) (hr.mono (by decide)) (by rfl) T.g_Lis T.F_Lis.kp T.b_Lis .nil pass0 (pa_cons (pv 3) (pa_cons (pv 0) (pa_cons pe_int pa_nil)))))) pa_nil))))))), ?_⟩
    have fr : ∀ t b : Int, b ≠ 0 → Fr.frT t b * b = t * Fr.frB t b := fun t b hb => Fr.fr_cross hb
    have b1 : (1 : Int).natAbs < 2 ^ n := Nat.lt_of_lt_of_le (show (1 : Int).natAbs < 2 ^ 1 by decide) (Nat.pow_le_pow_right (by omega) n1)
    walk_at "ww"
    refine ⟨u, l, n, rfl, hl, bu, bl, n1, n2, fun x1 H1 e1 E1 f1 => ?_⟩
    walk_at "ww"
    refine ⟨rfl, rfl, u, l, n, rfl, hl, bu, bl, n1, n2, fun x2 H2 e2 E2 f2 => ?_⟩
    walk_at "ww"
    refine ⟨u, l, n, rfl, hl, bu, bl, n1, n2, fun x3 H3 e3 E3 f3 => ?_⟩
    walk_at "ww"
    refine alI fun l4 H4 e4 E4 f4 => ?_
    walk_at "ww"
    refine exSq (SqL.of f4) ?_
    intro D hD
    have f1' := f1.ex ((E2.trans E3).trans E4)
    have f2' := f2.ex (E3.trans E4)
    have f3' := f3.ex E4
    have fa : ∀ y ∈ [V.ref x1, V.ref x2, V.ref x3], ∃ x, y = V.ref x ∧ FrAt H4 x (Fr.frT u l) (Fr.frB u l) n := by
      intro y hy
      simp only [List.mem_cons, List.not_mem_nil, or_false] at hy
      rcases hy with rfl | rfl | rfl
      · exact ⟨_, rfl, f1'⟩
      · exact ⟨_, rfl, f2'⟩
      · exact ⟨_, rfl, f3'⟩
    refine lcList (fun H' => Ex H4 H') (fun i y _ => y = .bl true) (fun _ => rfl) (Ex.new hD) (fun H' e => SqL.of (e _ _ f4)) (fun i x hx H' acc e hD' hla hR => ?_) (fun H' ys e hD' hla hR => ?_)
    · have hi : i ≤ 100000 := by
        have h1 := (List.getElem?_eq_some_iff.mp hx).1
        simp only [List.length_cons, List.length_nil] at h1
        omega
      obtain ⟨x', rfl, fx⟩ := fa x (List.mem_of_getElem? hx)
      walk_at "ww"
      refine ⟨x', _, _, u, l, n, rfl, fx.ex e, bu, bl, n1, by omega, fr u l hl, fun H'' e' => ?_⟩
      exact lcAdd (e' _ _ hD') hla hi ((e.trans e').mut hD) hR rfl
    · obtain ⟨bs, rfl, hb⟩ := all_true hR
      walk_at "ww"
      refine wAll (SqL.of hD') ?_
      rw [hb]
      walk_at "ww"
      refine ⟨u, 1, n, rfl, by decide, bu, b1, n1, n2, fun y1 H5 e5 E5 f5 => ?_⟩
      walk_at "ww"
      refine ⟨rfl, rfl, u, 1, n, rfl, by decide, bu, b1, n1, n2, fun y2 H6 e6 E6 f6 => ?_⟩
      walk_at "ww"
      refine ⟨u, 1, n, rfl, by decide, bu, b1, n1, n2, fun y3 H7 e7 E7 f7 => ?_⟩
      walk_at "ww"
      refine alI fun l8 H8 e8 E8 f8 => ?_
      walk_at "ww"
      refine exSq (SqL.of f8) ?_
      intro D2 hD2
      have f5' := f5.ex ((E6.trans E7).trans E8)
      have f6' := f6.ex (E7.trans E8)
      have f7' := f7.ex E8
      have fa2 : ∀ y ∈ [V.ref y1, V.ref y2, V.ref y3], ∃ x, y = V.ref x ∧ FrAt H8 x (Fr.frT u 1) (Fr.frB u 1) n := by
        intro y hy
        simp only [List.mem_cons, List.not_mem_nil, or_false] at hy
        rcases hy with rfl | rfl | rfl
        · exact ⟨_, rfl, f5'⟩
        · exact ⟨_, rfl, f6'⟩
        · exact ⟨_, rfl, f7'⟩
      refine lcList (fun H' => Ex H8 H') (fun i y _ => y = .bl true) (fun _ => rfl) (Ex.new hD2) (fun H' e => SqL.of (e _ _ f8)) (fun i x hx H' acc e hD' hla hR => ?_) (fun H9 ys e9 hD' hla hR => ?_)
      · have hi : i ≤ 100000 := by
          have h1 := (List.getElem?_eq_some_iff.mp hx).1
          simp only [List.length_cons, List.length_nil] at h1
          omega
        obtain ⟨x', rfl, fx⟩ := fa2 x (List.mem_of_getElem? hx)
        walk_at "ww"
        refine ⟨x', _, _, u, 1, n, rfl, fx.ex e, bu, b1, n1, by omega, fr u 1 (by decide), fun H'' e' => ?_⟩
        exact lcAdd (e' _ _ hD') hla hi ((e.trans e').mut hD2) hR rfl
      · obtain ⟨bs, rfl, hb⟩ := all_true hR
        refine wAll (SqL.of hD') ?_
        rw [hb]
        exact k _ (((((((((E1.trans E2).trans E3).trans E4).trans e).trans E5).trans E6).trans E7).trans E8).trans e9)
/-- one due: a fraction told, and what it should be by crosswise -/
def Due (m : Nat) (H : Hp) (y : V) : Prop := ∃ (t x : Addr) (P Q d b : Int), y = .ref t ∧ H t = some (.tup [.ref x, .int d, .int b]) ∧ FrAt H x P Q m ∧ d.natAbs < 2 ^ m ∧ b.natAbs < 2 ^ m ∧ P * b = d * Q
theorem Due.ex {m : Nat} {H H' : Hp} {y : V} (h : Due m H y) (e : Ex H H') : Due m H' y := by
  obtain ⟨t, x, P, Q, d, b, rfl, ht, hx, r⟩ := h
  exact ⟨t, x, P, Q, d, b, rfl, e _ _ ht, hx.ex e, r⟩
theorem Due.kp {m : Nat} {H H' : Hp} {y : V} {l : Addr} {ys : List V} (h : Due m H y) (hl : H l = some (.lst ys)) (e : Kp l H H') : Due m H' y := by
  obtain ⟨t, x, P, Q, d, b, rfl, ht, hx, r⟩ := h
  have n1 : t ≠ l := ne_of ht hl (by intro z; cases z)
  have n2 : x ≠ l := ne_of hx.at_ hl (by intro z; cases z)
  exact ⟨t, x, P, Q, d, b, rfl, e _ _ n1 ht, ⟨e _ _ n2 hx.at_, hx.is_, hx.bp, hx.bq⟩, r⟩
structure Dues (m : Nat) (H : Hp) (l : Addr) (ys : List V) : Prop where
  at_ : H l = some (.lst ys)
  all : ∀ y ∈ ys, Due m H y
  few : ys.length ≤ 50
theorem Dues.ex {m : Nat} {H H' : Hp} {l : Addr} {ys : List V} (h : Dues m H l ys) (e : Ex H H') : Dues m H' l ys := ⟨e _ _ h.at_, fun y hy => (h.all y hy).ex e, h.few⟩
theorem wAppD {m : Nat} {H0 H : Hp} {l : Addr} {ys : List V} {y : V} {Q : VK} (n : H0 l = none) (e : Ex H0 H) (D : Dues m H l ys) (it : Due m H y) (hl : ys.length ≤ 40)
    (k : ∀ H', Ex H0 H' → Dues m H' l (ys ++ [y]) → Q .non H') : rAppend (.ref l) [y] H Q := by
  refine wAppendI D.at_ (by omega) n e fun H' e' k' f' => k H' e' ⟨f', fun z hz => ?_, by simp only [List.length_append, List.length_cons, List.length_nil]; omega⟩
  rcases List.mem_append.mp hz with hz | hz
  · exact (D.all z hz).kp D.at_ k'
  · simp only [List.mem_cons, List.not_mem_nil, or_false] at hz
    rw [hz]
    exact it.kp D.at_ k'
theorem mkDue {m : Nat} {H : Hp} {t x : Addr} {T B : Int} (ht : H t = some (.tup [.ref x, .int T, .int B])) (hf : FrAt H x (Fr.frT T B) (Fr.frB T B) m) (bT : T.natAbs < 2 ^ m) (bB : B.natAbs < 2 ^ m) (hb : B ≠ 0) : Due m H (.ref t) :=
  ⟨t, x, _, _, T, B, rfl, ht, hf, bT, bB, Fr.fr_cross hb⟩
def spReck : Sp := fun vs H Q _ => ∃ (a c : Addr) (p q r s : Int) (n : Nat), vs = [.ref a, .ref c] ∧ FrAt H a p q n ∧ FrAt H c r s n ∧ 1 ≤ n ∧ n ≤ 450 ∧ ∀ H', Ex H H' → Q (.bl true) H'
theorem ok_Lreckoned_right (T : Tx K mg A) : FnOk P w K mg base CX0 5 A.f_Lreckoned_right A.d_Lreckoned_right ["_law_here", "_law_there"] spReck := by
  refine T.F_Lreckoned_right.ok sc_Lreckoned_right (fun vs H Q E h => ?_) (fun cdv A' outer s H vs Q E hr h => ?_)
  · obtain ⟨a, c, p, q, r, s, n, rfl, _⟩ := h
    rfl
  · obtain ⟨a, c, p, q, r, s, n, rfl, h1, h2, n1, n2, k⟩ := h
    refine ⟨_, (pss_cons (ps_asg (pe_tup (pa_cons (pv 0) (pa_cons (pv 1) pa_nil))) (pg_tupV (K := K) (n := 2) rfl rfl (pgs_cons (pg_tupV (K := K) (n := 2) rfl rfl (pgs_cons (pg_name (i := 2) sc_Lreckoned_right.nd rfl (Or.inl rfl)) (pgs_cons (pg_name (i := 3) sc_Lreckoned_right.nd rfl (Or.inl rfl)) pgs_nil)) rfl) (pgs_cons (pg_tupV (K := K) (n := 2) rfl rfl (pgs_cons (pg_name (i := 4) sc_Lreckoned_right.nd rfl (Or.inl rfl)) (pgs_cons (pg_name (i := 5) sc_Lreckoned_right.nd rfl (Or.inl rfl)) pgs_nil)) rfl) pgs_nil)) rfl))
    (pss_cons (ps_set (i := 6) sc_Lreckoned_right.nd rfl (Or.inl rfl) (pe_lst (pa_cons (pe_tup (pa_cons (pe_call (ok_plus T) (hr.mono (by decide)) (by rfl) T.g_plus T.F_plus.kp T.b_plus .nil pass0 (pa_cons (pv 0) (pa_cons (pv 1) pa_nil))) (pa_cons (pe_op op_add (pe_op op_mulW (pv 2) (pv 5)) (pe_op op_mulW (pv 4) (pv 3))) (pa_cons (pe_op op_mulW (pv 3) (pv 5)) pa_nil)))) pa_nil)))
    (pss_cons (ps_expr (pe_bm PySem.F.plainAttrs_list PySem.F.slot_list_append PySem.F.type_list_append mt_append (pv 6) (pa_cons (pe_tup (pa_cons (pe_callN0 (ok_plus T) (hr.mono (by decide)) (by rfl) T.g_plus T.F_plus.kp T.kb0_plus_other_one pass0 (pk_cons (pv 1) (pk_cons (pv 0) pk_nil))) (pa_cons (pe_op op_add (pe_op op_mulW (pv 2) (pv 5)) (pe_op op_mulW (pv 4) (pv 3))) (pa_cons (pe_op op_mulW (pv 3) (pv 5)) pa_nil)))) pa_nil)))
    (pss_cons (ps_expr (pe_bm PySem.F.plainAttrs_list PySem.F.slot_list_append PySem.F.type_list_append mt_append (pv 6) (pa_cons (pe_tup (pa_cons (pe_call (ok_minus T) (hr.mono (by decide)) (by rfl) T.g_minus T.F_minus.kp T.b_minus .nil pass0 (pa_cons (pv 0) (pa_cons (pv 1) pa_nil))) (pa_cons (pe_op op_sub (pe_op op_mulW (pv 2) (pv 5)) (pe_op op_mulW (pv 4) (pv 3))) (pa_cons (pe_op op_mulW (pv 3) (pv 5)) pa_nil)))) pa_nil)))
    (pss_cons (ps_expr (pe_bm PySem.F.plainAttrs_list PySem.F.slot_list_append PySem.F.type_list_append mt_append (pv 6) (pa_cons (pe_tup (pa_cons (pe_callN0 (ok_minus T) (hr.mono (by decide)) (by rfl) T.g_minus T.F_minus.kp T.kb0_minus_other_one pass0 (pk_cons (pv 1) (pk_cons (pv 0) pk_nil))) (pa_cons (pe_op op_sub (pe_op op_mulW (pv 2) (pv 5)) (pe_op op_mulW (pv 4) (pv 3))) (pa_cons (pe_op op_mulW (pv 3) (pv 5)) pa_nil)))) pa_nil)))
    (pss_cons (ps_expr (pe_bm PySem.F.plainAttrs_list PySem.F.slot_list_append PySem.F.type_list_append mt_append (pv 6) (pa_cons (pe_tup (pa_cons (pe_call (ok_times T) (hr.mono (by decide)) (by rfl) T.g_times T.F_times.kp T.b_times .nil pass0 (pa_cons (pv 0) (pa_cons (pv 1) pa_nil))) (pa_cons (pe_op op_mulW (pv 2) (pv 4)) (pa_cons (pe_op op_mulW (pv 3) (pv 5)) pa_nil)))) pa_nil)))
    (pss_cons (ps_expr (pe_bm PySem.F.plainAttrs_list PySem.F.slot_list_append PySem.F.type_list_append mt_append (pv 6) (pa_cons (pe_tup (pa_cons (pe_callN0 (ok_times T) (hr.mono (by decide)) (by rfl) T.g_times T.F_times.kp T.kb0_times_other_one pass0 (pk_cons (pv 1) (pk_cons (pv 0) pk_nil))) (pa_cons (pe_op op_mulW (pv 2) (pv 4)) (pa_cons (pe_op op_mulW (pv 3) (pv 5)) pa_nil)))) pa_nil)))
    (C8.pss_cut (ps_if (pt_cmpR op_ne (pv 4) pe_int (nomark _))
    (pss_cons (ps_expr (pe_bm PySem.F.plainAttrs_list PySem.F.slot_list_append PySem.F.type_list_append mt_append (pv 6) (pa_cons (pe_tup (pa_cons (pe_call (ok_over T) (hr.mono (by decide)) (by rfl) T.g_over T.F_over.kp T.b_over .nil pass0 (pa_cons (pv 0) (pa_cons (pv 1) pa_nil))) (pa_cons (pe_op op_mulW (pv 2) (pv 5)) (pa_cons (pe_op op_mulW (pv 3) (pv 4)) pa_nil)))) pa_nil)))
      (pss_one (ps_expr (pe_bm PySem.F.plainAttrs_list PySem.F.slot_list_append PySem.F.type_list_append mt_append (pv 6) (pa_cons (pe_tup (pa_cons (pe_callN0 (ok_over T) (hr.mono (by decide)) (by rfl) T.g_over T.F_over.kp T.kb0_over_other_one pass0 (pk_cons (pv 1) (pk_cons (pv 0) pk_nil))) (pa_cons (pe_op op_mulW (pv 2) (pv 5)) (pa_cons (pe_op op_mulW (pv 3) (pv 4)) pa_nil)))) pa_nil)))))
    pss_nil)
    (pss_cons (ps_if (pt_not (pt_val (pe_callB (cr_allV (K := K) rfl rfl) (by rfl) T.m_all (by decide +kernel) (pa_cons (pe_lc rfl sc_Lreckoned_right.nd (g := gTup K 3 (gCons (gName 8) (gCons (gName 7) (gCons (gName 9) (gNil))))) (pi_listV (K := K) rfl (pv 6)) (blkOk_by (own := [("_law_told", 8), ("_law_due", 7), ("_law_beneath", 9)]) (N := ["_law_here", "_law_there", "_law_upper", "_law_lower", "_law_more", "_law_under", "_law_dues", "_law_due", "_law_told", "_law_beneath", "_law_truth"]) (sc := defScope s_Lreckoned_right) (by decide +kernel)) (fun _ _ _ _ _ => (pg_tupV (K := K) (n := 3) rfl rfl (pgs_cons (pg_name (i := 8) sc_Lreckoned_right.nd rfl (Or.inl rfl)) (pgs_cons (pg_name (i := 7) sc_Lreckoned_right.nd rfl (Or.inl rfl)) (pgs_cons (pg_name (i := 9) sc_Lreckoned_right.nd rfl (Or.inl rfl)) pgs_nil))) rfl)) (fun _ _ _ _ _ => pts_nil) (fun _ _ _ _ _ => (pe_call (ok_Lis T) (hr.mono (by decide)) (by rfl) T.g_Lis T.F_Lis.kp T.b_Lis .nil pass0 (pa_cons (pv 8) (pa_cons (pv 7) (pa_cons (pv 9) pa_nil)))))) pa_nil))))
    (pss_one (ps_ret pe_bl))
    pss_nil)
    (pss_cons (ps_if (PW.pt (pw_or (pt_cmpR (op_neDV (K := K) rfl hr.units) (pe_call (ok_minus T) (hr.mono (by decide)) (by rfl) T.g_minus T.F_minus.kp T.b_minus .nil pass0 (pa_cons (pe_call (ok_plus T) (hr.mono (by decide)) (by rfl) T.g_plus T.F_plus.kp T.b_plus .nil pass0 (pa_cons (pv 0) (pa_cons (pv 1) pa_nil))) (pa_cons (pv 1) pa_nil))) (pv 0) (nomark _)) (pw_or1 (pt_cmpR (op_neDV (K := K) rfl hr.units) (pe_call (ok_plus T) (hr.mono (by decide)) (by rfl) T.g_plus T.F_plus.kp T.b_plus .nil pass0 (pa_cons (pe_call (ok_minus T) (hr.mono (by decide)) (by rfl) T.g_minus T.F_minus.kp T.b_minus .nil pass0 (pa_cons (pv 0) (pa_cons (pv 1) pa_nil))) (pa_cons (pv 1) pa_nil))) (pv 0) (nomark _)))))
    (pss_one (ps_ret pe_bl))
    pss_nil)
    (C8.pss_cut (ps_if (PW.pt (pw_and (pt_cmpR op_ne (pv 4) pe_int (nomark _)) (pw_and1 (pt_cmpR (op_neDV (K := K) rfl hr.units) (pe_call (ok_over T) (hr.mono (by decide)) (by rfl) T.g_over T.F_over.kp T.b_over .nil pass0 (pa_cons (pe_call (ok_times T) (hr.mono (by decide)) (by rfl) T.g_times T.F_times.kp T.b_times .nil pass0 (pa_cons (pv 0) (pa_cons (pv 1) pa_nil))) (pa_cons (pv 1) pa_nil))) (pv 0) (nomark _)))))
    (pss_one (ps_ret pe_bl))
    pss_nil)
    (C8.pss_cut (ps_if (PW.pt (pw_and (pt_cmpR op_ne (pv 4) pe_int (nomark _)) (pw_and1 (pt_cmpR (op_neDV (K := K) rfl hr.units) (pe_call (ok_times T) (hr.mono (by decide)) (by rfl) T.g_times T.F_times.kp T.b_times .nil pass0 (pa_cons (pe_call (ok_over T) (hr.mono (by decide)) (by rfl) T.g_over T.F_over.kp T.b_over .nil pass0 (pa_cons (pv 0) (pa_cons (pv 1) pa_nil))) (pa_cons (pv 1) pa_nil))) (pv 0) (nomark _)))))
    (pss_one (ps_ret pe_bl))
    pss_nil)
    (pss_cons (ps_set (i := 7) sc_Lreckoned_right.nd rfl (Or.inr rfl) (pe_cmpR op_lt (pe_op op_mulW (pv 2) (pv 5)) (pe_op op_mulW (pv 4) (pv 3)) (nomark _)))
    (pss_cons (ps_set (i := 8) sc_Lreckoned_right.nd rfl (Or.inl rfl) (pe_lst (pa_cons (pe_call (ok_below T) (hr.mono (by decide)) (by rfl) T.g_below T.F_below.kp T.b_below .nil pass0 (pa_cons (pv 0) (pa_cons (pv 1) pa_nil))) (pa_cons (pe_callN0 (ok_below T) (hr.mono (by decide)) (by rfl) T.g_below T.F_below.kp T.kb0_below_other_one pass0 (pk_cons (pv 1) (pk_cons (pv 0) pk_nil))) (pa_cons (pe_call (ok_below T) (hr.mono (by decide)) (by rfl) T.g_below T.F_below.kp T.b_below .nil pass0 (pa_cons (pv 0) (pa_cons (pv 1) pa_nil))) pa_nil)))))
    (pss_one (ps_ret (pe_callB (cr_allV (K := K) rfl rfl) (by rfl) T.m_all (by decide +kernel) (pa_cons (pe_lc rfl sc_Lreckoned_right.nd (g := gName 10) (pi_listV (K := K) rfl (pv 8)) (blkOk_by (own := [("_law_truth", 10)]) (N := ["_law_here", "_law_there", "_law_upper", "_law_lower", "_law_more", "_law_under", "_law_dues", "_law_due", "_law_told", "_law_beneath", "_law_truth"]) (sc := defScope s_Lreckoned_right) (by decide +kernel)) (fun _ _ _ _ _ => (pg_name (i := 10) sc_Lreckoned_right.nd rfl (Or.inl rfl))) (fun _ _ _ _ _ => pts_nil) (fun _ _ _ _ _ => (pe_and (pe_callB (call_isiV (K := K) rfl) (by rfl) T.m_isinstance (by decide +kernel) (pa_cons (pv 10) (pa_cons (pe_bltn (v := .ty "bool") (by rfl) T.m_bool (by decide +kernel) rfl) pa_nil))) (pe_one (pe_cmpR op_eq (pv 10) (pv 7) (nomark _)))))) pa_nil)))))))))))))))))), ?_⟩
    obtain ⟨g1, i1, bp, bq⟩ := id h1
    obtain ⟨g2, i2, br, bs⟩ := id h2
    walk_at "ww"
    refine alI fun t0 H1 m1 E1 f1 => ?_
    walk_at "ww"
    refine wGTup (SqT.of f1) rfl ?_
    walk_at "ww"
    refine wGTup (SqT.of (E1 _ _ g1)) rfl ?_
    walk_at "ww"
    refine wGTup (SqT.of (E1 _ _ g2)) rfl ?_
    walk_at "ww"
    refine ⟨a, c, p, q, r, s, n, rfl, h1.ex E1, h2.ex E1, n1, by omega, trivial, fun x2 H2 m2 E2 f2 => ?_⟩
    walk_at "ww"
    refine alI fun t3 H3 m3 E3 f3 => ?_
    walk_at "ww"
    refine alI fun l4 H5 n4 E5 f4 => ?_
    have hA : FrAt H3 a p q n := ((h1.ex E1).ex E2).ex E3
    have hC : FrAt H3 c r s n := ((h2.ex E1).ex E2).ex E3
    have D5 : Dues (2 * n + 1) H5 l4 [V.ref t3] := ⟨f4, fun y hy => by
      simp only [List.mem_cons, List.not_mem_nil, or_false] at hy
      rw [hy]
      exact mkDue (E5 _ _ f3) ((f2.ex E3).ex E5) (addB bp bs br bq).1 (mulB bq bs) (nz i1.1 i2.1), by with_unfolding_all exact Nat.le_of_ble_eq_true rfl⟩
    walk_at "ww"
    refine anTyL D5.at_ ?_
    walk_at "ww"
    refine ⟨rfl, rfl, a, c, p, q, r, s, n, rfl, hA.ex E5, hC.ex E5, n1, by omega, trivial, fun x5 G5 m5 e5 f5 => ?_⟩
    walk_at "ww"
    refine alI fun t5 J5 mm5 ee5 ff5 => ?_
    walk_at "ww"
    refine wAppD n4 ((E5.trans e5).trans ee5) ((D5.ex e5).ex ee5) (mkDue ff5 (f5.ex ee5) (addB bp bs br bq).1 (mulB bq bs) (nz i1.1 i2.1)) (by with_unfolding_all exact Nat.le_of_ble_eq_true rfl) fun H6 E6 D6 => ?_
    walk_at "ww"
    refine anTyL D6.at_ ?_
    walk_at "ww"
    refine ⟨a, c, p, q, r, s, n, rfl, hA.ex E6, hC.ex E6, n1, by omega, trivial, fun x6 G6 m6 e6 f6 => ?_⟩
    walk_at "ww"
    refine alI fun t6 J6 mm6 ee6 ff6 => ?_
    walk_at "ww"
    refine wAppD n4 ((E6.trans e6).trans ee6) ((D6.ex e6).ex ee6) (mkDue ff6 (f6.ex ee6) (addB bp bs br bq).2 (mulB bq bs) (nz i1.1 i2.1)) (by with_unfolding_all exact Nat.le_of_ble_eq_true rfl) fun H7 E7 D7 => ?_
    walk_at "ww"
    refine anTyL D7.at_ ?_
    walk_at "ww"
    refine ⟨rfl, rfl, a, c, p, q, r, s, n, rfl, hA.ex E7, hC.ex E7, n1, by omega, trivial, fun x7 G7 m7 e7 f7 => ?_⟩
    walk_at "ww"
    refine alI fun t7 J7 mm7 ee7 ff7 => ?_
    walk_at "ww"
    refine wAppD n4 ((E7.trans e7).trans ee7) ((D7.ex e7).ex ee7) (mkDue ff7 (f7.ex ee7) (addB bp bs br bq).2 (mulB bq bs) (nz i1.1 i2.1)) (by with_unfolding_all exact Nat.le_of_ble_eq_true rfl) fun H8 E8 D8 => ?_
    walk_at "ww"
    refine anTyL D8.at_ ?_
    walk_at "ww"
    refine ⟨a, c, p, q, r, s, n, rfl, hA.ex E8, hC.ex E8, n1, by omega, trivial, fun x8 G8 m8 e8 f8 => ?_⟩
    walk_at "ww"
    refine alI fun t8 J8 mm8 ee8 ff8 => ?_
    walk_at "ww"
    refine wAppD n4 ((E8.trans e8).trans ee8) ((D8.ex e8).ex ee8) (mkDue ff8 (f8.ex ee8) (mulB bp br) (mulB bq bs) (nz i1.1 i2.1)) (by with_unfolding_all exact Nat.le_of_ble_eq_true rfl) fun H9 E9 D9 => ?_
    walk_at "ww"
    refine anTyL D9.at_ ?_
    walk_at "ww"
    refine ⟨rfl, rfl, a, c, p, q, r, s, n, rfl, hA.ex E9, hC.ex E9, n1, by omega, trivial, fun x9 G9 m9 e9 f9 => ?_⟩
    walk_at "ww"
    refine alI fun t9 J9 mm9 ee9 ff9 => ?_
    walk_at "ww"
    refine wAppD n4 ((E9.trans e9).trans ee9) ((D9.ex e9).ex ee9) (mkDue ff9 (f9.ex ee9) (mulB bp br) (mulB bq bs) (nz i1.1 i2.1)) (by with_unfolding_all exact Nat.le_of_ble_eq_true rfl) fun H10 E10 D10 => ?_
    walk_at "ww"
    refine wCut (fun σ H' => ∃ ys, σ = [some (.ref a), some (.ref c), some (.int p), some (.int q), some (.int r), some (.int s), some (.ref l4), none, none, none, none] ∧ Ex H3 H' ∧ Dues (2 * n + 1) H' l4 ys) ?_ ?_
    · walk_at "ww"
      refine ite2 (fun c0 => ?_) (fun c0 => ?_)
      · have hr0 : r ≠ 0 := fun e => by simp [e] at c0
        have hz : q * r ≠ 0 := Int.mul_ne_zero (by have := i1.1; omega) hr0
        walk_at "ww"
        refine anTyL D10.at_ ?_
        walk_at "ww"
        refine ⟨a, c, p, q, r, s, n, rfl, hA.ex E10, hC.ex E10, n1, by omega, hr0, fun x10 G10 m10 e10 f10 => ?_⟩
        walk_at "ww"
        refine alI fun t10 J10 mm10 ee10 ff10 => ?_
        walk_at "ww"
        refine wAppD n4 ((E10.trans e10).trans ee10) ((D10.ex e10).ex ee10) (mkDue ff10 (f10.ex ee10) (mulB bp bs) (mulB bq br) hz) (by with_unfolding_all exact Nat.le_of_ble_eq_true rfl) fun H11 E11 D11 => ?_
        walk_at "ww"
        refine anTyL D11.at_ ?_
        walk_at "ww"
        refine ⟨rfl, rfl, a, c, p, q, r, s, n, rfl, hA.ex E11, hC.ex E11, n1, by omega, hr0, fun x11 G11 m11 e11 f11 => ?_⟩
        walk_at "ww"
        refine alI fun t11 J11 mm11 ee11 ff11 => ?_
        walk_at "ww"
        refine wAppD n4 ((E11.trans e11).trans ee11) ((D11.ex e11).ex ee11) (mkDue ff11 (f11.ex ee11) (mulB bp bs) (mulB bq br) hz) (by with_unfolding_all exact Nat.le_of_ble_eq_true rfl) fun H12 E12 D12 => ?_
        walk_at "ww"
        exact ⟨_, rfl, E12, D12⟩
      · walk_at "ww"
        exact ⟨_, rfl, E10, D10⟩
    rintro σ H20 ⟨ys, rfl, E20, D20⟩
    walk_at "ww"
    refine exSq (SqL.of D20.at_) ?_
    intro D hD
    refine lcListG (fun H' => Ex H20 H') (fun i y _ => y = .bl true) (Ex.new hD) (fun H' e => SqL.of (e _ _ D20.at_)) (fun i x hx H' acc e hD' hla hR => ?_) (fun H21 zs E21 hD' hla hR => ?_)
    · have hi : i ≤ 100000 := by
        have h1 := (List.getElem?_eq_some_iff.mp hx).1
        have := D20.few
        omega
      obtain ⟨t, x', P', Q', d', b', rfl, ht, hfx, bd, bbx, hcr⟩ := (D20.all x (List.mem_of_getElem? hx)).ex e
      refine wGTup (SqT.of ht) rfl ?_
      walk_at "ww"
      refine ⟨rfl, ?_⟩
      walk_at "ww"
      refine ⟨x', P', Q', d', b', 2 * n + 1, rfl, hfx, bd, bbx, by omega, by omega, hcr, fun H'' e' => ?_⟩
      exact lcAdd (e' _ _ hD') hla hi ((e.trans e').mut hD) hR rfl
    obtain ⟨bs', rfl, hb⟩ := all_true hR
    walk_at "ww"
    refine wAll (SqL.of hD') ?_
    rw [hb]
    have hA1 := (hA.ex E20).ex E21
    have hC1 := (hC.ex E20).ex E21
    walk_at "ww"
    refine ⟨a, c, p, q, r, s, n, rfl, hA1, hC1, n1, by omega, trivial, fun x1 Ha1 ma1 Ea1 fa1 => ?_⟩
    walk_at "ww"
    refine ⟨x1, c, _, _, r, s, 2 * n + 1, rfl, fa1, ((hC1).ex Ea1).more (by omega), by omega, by omega, trivial, fun x2 Ha2 ma2 Ea2 fa2 => ?_⟩
    have fq2 : FrAt Ha2 x2 p q (2 * (2 * n + 1) + 1) := by
      have h := fa2
      dsimp only at h
      rw [(Fr.minus_plus i1 i2).1, (Fr.minus_plus i1 i2).2] at h
      exact h
    walk_at "ww"
    refine wNeD (dpPair fq2.at_) (dpPair (((hA1).ex Ea1).ex Ea2).at_) rfl rfl ?_
    rw [eqvPair]
    walk_at "ww"
    have hA2 := (hA1.ex Ea1).ex Ea2
    have hC2 := (hC1.ex Ea1).ex Ea2
    refine ⟨a, c, p, q, r, s, n, rfl, hA2, hC2, n1, by omega, trivial, fun x3 Ha3 ma3 Ea3 fa3 => ?_⟩
    walk_at "ww"
    refine ⟨x3, c, _, _, r, s, 2 * n + 1, rfl, fa3, ((hC2).ex Ea3).more (by omega), by omega, by omega, trivial, fun x4 Ha4 ma4 Ea4 fa4 => ?_⟩
    have fq4 : FrAt Ha4 x4 p q (2 * (2 * n + 1) + 1) := by
      have h := fa4
      dsimp only at h
      rw [(Fr.plus_minus i1 i2).1, (Fr.plus_minus i1 i2).2] at h
      exact h
    walk_at "ww"
    refine wNeD (dpPair fq4.at_) (dpPair (((hA2).ex Ea3).ex Ea4).at_) rfl rfl ?_
    rw [eqvPair]
    walk_at "ww"
    have hA3 := (hA2.ex Ea3).ex Ea4
    have hC3 := (hC2.ex Ea3).ex Ea4
    refine wCut (fun σ H' => σ = [some (.ref a), some (.ref c), some (.int p), some (.int q), some (.int r), some (.int s), some (.ref l4), none, none, none, none] ∧ Ex Ha4 H') ?_ ?_
    · walk_at "ww"
      refine ite2 (fun c0 => ?_) (fun c0 => ?_)
      · have hr0 : r ≠ 0 := fun e => by simp [e] at c0
        walk_at "ww"
        refine ⟨a, c, p, q, r, s, n, rfl, hA3, hC3, n1, by omega, trivial, fun x5 Ha5 ma5 Ea5 fa5 => ?_⟩
        walk_at "ww"
        refine ⟨x5, c, _, _, r, s, 2 * n + 1, rfl, fa5, ((hC3).ex Ea5).more (by omega), by omega, by omega, hr0, fun x6 Ha6 ma6 Ea6 fa6 => ?_⟩
        have fq6 : FrAt Ha6 x6 p q (2 * (2 * n + 1) + 1) := by
          have h := fa6
          dsimp only at h
          rw [(Fr.over_times i1 i2 hr0).1, (Fr.over_times i1 i2 hr0).2] at h
          exact h
        walk_at "ww"
        refine wNeD (dpPair fq6.at_) (dpPair (((hA3).ex Ea5).ex Ea6).at_) rfl rfl ?_
        rw [eqvPair]
        walk_at "ww"
        exact ⟨rfl, Ea5.trans Ea6⟩
      · walk_at "ww"
        exact ⟨rfl, Ex.refl _⟩
    rintro σ H30 ⟨rfl, E30⟩
    have hA4 := hA3.ex E30
    have hC4 := hC3.ex E30
    walk_at "ww"
    refine wCut (fun σ H' => σ = [some (.ref a), some (.ref c), some (.int p), some (.int q), some (.int r), some (.int s), some (.ref l4), none, none, none, none] ∧ Ex H30 H') ?_ ?_
    · walk_at "ww"
      refine ite2 (fun c0 => ?_) (fun c0 => ?_)
      · have hr0 : r ≠ 0 := fun e => by simp [e] at c0
        walk_at "ww"
        refine ⟨a, c, p, q, r, s, n, rfl, hA4, hC4, n1, by omega, hr0, fun x7 Ha7 ma7 Ea7 fa7 => ?_⟩
        walk_at "ww"
        refine ⟨x7, c, _, _, r, s, 2 * n + 1, rfl, fa7, ((hC4).ex Ea7).more (by omega), by omega, by omega, trivial, fun x8 Ha8 ma8 Ea8 fa8 => ?_⟩
        have fq8 : FrAt Ha8 x8 p q (2 * (2 * n + 1) + 1) := by
          have h := fa8
          dsimp only at h
          rw [(Fr.times_over i1 i2 hr0).1, (Fr.times_over i1 i2 hr0).2] at h
          exact h
        walk_at "ww"
        refine wNeD (dpPair fq8.at_) (dpPair (((hA4).ex Ea7).ex Ea8).at_) rfl rfl ?_
        rw [eqvPair]
        walk_at "ww"
        exact ⟨rfl, Ea7.trans Ea8⟩
      · walk_at "ww"
        exact ⟨rfl, Ex.refl _⟩
    rintro σ H31 ⟨rfl, E31⟩
    have hA5 := hA4.ex E31
    have hC5 := hC4.ex E31
    walk_at "ww"
    refine ⟨a, c, p, q, r, s, n, rfl, hA5, hC5, n1, by omega, ?_⟩
    walk_at "ww"
    refine ⟨rfl, rfl, a, c, p, q, r, s, n, rfl, hA5, hC5, n1, by omega, ?_⟩
    walk_at "ww"
    refine ⟨a, c, p, q, r, s, n, rfl, hA5, hC5, n1, by omega, ?_⟩
    walk_at "ww"
    refine alI fun l9 H32 n32 E32 f32 => ?_
    walk_at "ww"
    refine exSq (SqL.of f32) ?_
    intro D2 hD2
    refine lcList (fun H' => Ex H32 H') (fun i y _ => y = .bl true) (fun _ => rfl) (Ex.new hD2) (fun H' e => SqL.of (e _ _ f32)) (fun i x hx H' acc e hD'' hla hR2 => ?_) (fun H33 ws E33 hD'' hla hR2 => ?_)
    · have hi : i ≤ 100000 := by
        have h1 := (List.getElem?_eq_some_iff.mp hx).1
        simp only [List.length_cons, List.length_nil] at h1
        omega
      obtain rfl : x = V.bl (decide (p * s < r * q)) := by
        have hm := List.mem_of_getElem? hx
        simp only [List.mem_cons, List.not_mem_nil, or_false] at hm
        rcases hm with h | h | h <;> exact h
      walk_at "ww"
      rw [decide_eq_true rfl]
      exact lcAdd hD'' hla hi (e.mut hD2) hR2 rfl
    obtain ⟨bs2, rfl, hb2⟩ := all_true hR2
    refine wAll (SqL.of hD'') ?_
    rw [hb2]
    have EH : Ex H H3 := (E1.trans E2).trans E3
    exact k _ (((((((((((EH.trans E20).trans E21).trans Ea1).trans Ea2).trans Ea3).trans Ea4).trans E30).trans E31)).trans E32).trans E33)
def spLaw (K : PySem.W.Frag) : Sp := fun vs H Q _ => ∃ (a : Addr) (ns : List Int), vs = [.ref a] ∧ SqL K H a (ns.map V.int) ∧ ns.length ≤ 63 ∧ ∀ H', Q (.bl true) H'
theorem ok_law (T : Tx K mg A) {f : Addr} {fd : FuncData} (F : Fun K "law" "law" s_law f fd) : FnOk P w K mg base CX0 6 f fd ["_law_script"] (spLaw K) := by
  refine F.ok sc_law (fun vs H Q E h => ?_) (fun cdv A' outer s H vs Q E hr h => ?_)
  · obtain ⟨a, ns, rfl, _⟩ := h
    rfl
  · obtain ⟨a, ns, rfl, hS, hlen, k⟩ := h
    refine ⟨_, (pss_cons (ps_for PassesOwn.never rfl (pi_range1 (by rfl) T.m_range (pa_cons (pe_callB (call_max2 rfl) (by rfl) T.m_max (by decide +kernel) (pa_cons pe_int (pa_cons (pe_callB (call_min2 rfl) (by rfl) T.m_min (by decide +kernel) (pa_cons (pe_callB (call_lenV (K := K) rfl) (by rfl) T.m_len (by decide +kernel) (pa_cons (pv 0) pa_nil)) (pa_cons pe_int pa_nil))) pa_nil))) pa_nil)) (pg_name (i := 1) sc_law.nd rfl (Or.inl rfl))
    (pss_cons (ps_set (i := 2) sc_law.nd rfl (Or.inr rfl) (pe_call (ok_Lpool T) (hr.mono (by decide)) (by rfl) T.g_Lpool T.F_Lpool.kp T.b_Lpool .nil pass0 (pa_cons (pe_call (ok_Lcell T) (hr.mono (by decide)) (by rfl) T.g_Lcell T.F_Lcell.kp T.b_Lcell .nil pass0 (pa_cons (pv 0) (pa_cons (pv 1) pa_nil))) pa_nil)))
      (pss_cons (ps_setLc (i := 3) rfl sc_law.nd rfl rfl (sw_true rfl rfl rfl (by decide +kernel)) (g := gName 7) (pi_range1 (by rfl) T.m_range (pa_cons pe_int pa_nil)) (blkOk_by (own := [("_law_turn", 7)]) (N := ["_law_script", "_law_k", "_law_pool_here", "_law_some", "_law_rows", "_law_here", "_law_near", "_law_turn", "_law_there"]) (sc := defScope s_law) (by decide +kernel)) (fun _ _ _ _ _ => (pg_name (i := 7) sc_law.nd rfl (Or.inl rfl))) (fun _ _ _ _ _ => pts_nil) (fun _ _ _ _ _ => (pe_call (ok_Lnumber T) (hr.mono (by decide)) (by rfl) T.g_Lnumber T.F_Lnumber.kp T.b_Lnumber .nil pass0 (pa_cons (pv 2) pa_nil))))
      (C8.pss_cut (ps_set (i := 3) sc_law.nd rfl (Or.inl rfl) (pe_lst (pa_cons (pe_ix (ix_listV (K := K) rfl) (pv 3) pe_int (fun _ _ => rfl)) (pa_cons (pe_orT (pe_ix (ix_listV (K := K) rfl) (pv 3) pe_int (fun _ _ => rfl)) (pe_one pe_int)) (pa_cons (pe_ix (ix_listV (K := K) rfl) (pv 3) pe_int (fun _ _ => rfl)) (pa_cons (pe_orT (pe_ix (ix_listV (K := K) rfl) (pv 3) pe_int (fun _ _ => rfl)) (pe_one pe_int)) pa_nil))))))
      (pss_cons (ps_if (PW.pt (pw_or (pt_not (pt_val (pe_call (ok_Lmade_right T) (hr.mono (by decide)) (by rfl) T.g_Lmade_right T.F_Lmade_right.kp T.b_Lmade_right .nil pass0 (pa_cons (pe_ix (ix_listV (K := K) rfl) (pv 3) pe_int (fun _ _ => rfl)) (pa_cons (pe_ix (ix_listV (K := K) rfl) (pv 3) pe_int (fun _ _ => rfl)) pa_nil))))) (pw_or1 (pt_not (pt_val (pe_call (ok_Lmade_right T) (hr.mono (by decide)) (by rfl) T.g_Lmade_right T.F_Lmade_right.kp T.b_Lmade_right .nil pass0 (pa_cons (pe_ix (ix_listV (K := K) rfl) (pv 3) pe_int (fun _ _ => rfl)) (pa_cons (pe_ix (ix_listV (K := K) rfl) (pv 3) pe_int (fun _ _ => rfl)) pa_nil))))))))
      (pss_one (ps_ret pe_bl))
      pss_nil)
      (pss_cons (ps_set (i := 4) sc_law.nd rfl (Or.inl rfl) (pe_lst (pa_cons (pe_call (ok_fraction T) (hr.mono (by decide)) (by rfl) T.g_fraction T.F_fraction.kp T.b_fraction .nil pass0 (pa_cons (pe_ix (ix_listV (K := K) rfl) (pv 3) pe_int (fun _ _ => rfl)) (pa_cons (pe_ix (ix_listV (K := K) rfl) (pv 3) pe_int (fun _ _ => rfl)) pa_nil))) (pa_cons (pe_call (ok_fraction T) (hr.mono (by decide)) (by rfl) T.g_fraction T.F_fraction.kp T.b_fraction .nil pass0 (pa_cons (pe_ix (ix_listV (K := K) rfl) (pv 3) pe_int (fun _ _ => rfl)) (pa_cons (pe_ix (ix_listV (K := K) rfl) (pv 3) pe_int (fun _ _ => rfl)) pa_nil))) (pa_cons (pe_tup (pa_cons pe_int (pa_cons pe_int pa_nil))) (pa_cons (pe_tup (pa_cons pe_int (pa_cons pe_int pa_nil))) pa_nil))))))
      (pss_one (ps_for PassesOwn.never rfl (pi_listV (K := K) rfl (pv 4)) (pg_name (i := 5) sc_law.nd rfl (Or.inr rfl))
      (pss_cons (ps_if (pt_not (pt_val (pe_callB (cr_allV (K := K) rfl rfl) (by rfl) T.m_all (by decide +kernel) (pa_cons (pe_lc rfl sc_law.nd (g := gName 8) (pi_listV (K := K) rfl (pv 4)) (blkOk_by (own := [("_law_there", 8)]) (N := ["_law_script", "_law_k", "_law_pool_here", "_law_some", "_law_rows", "_law_here", "_law_near", "_law_turn", "_law_there"]) (sc := defScope s_law) (by decide +kernel)) (fun _ _ _ _ _ => (pg_name (i := 8) sc_law.nd rfl (Or.inl rfl))) (fun _ _ _ _ _ => pts_nil) (fun _ _ _ _ _ => (pe_call (ok_Lreckoned_right T) (hr.mono (by decide)) (by rfl) T.g_Lreckoned_right T.F_Lreckoned_right.kp T.b_Lreckoned_right .nil pass0 (pa_cons (pv 5) (pa_cons (pv 8) pa_nil))))) pa_nil))))
        (pss_one (ps_ret pe_bl))
        pss_nil)
        (pss_cons (ps_set (i := 6) sc_law.nd rfl (Or.inl rfl) (pe_call (ok_plus T) (hr.mono (by decide)) (by rfl) T.g_plus T.F_plus.kp T.b_plus .nil pass0 (pa_cons (pv 5) (pa_cons (pe_tup (pa_cons pe_int (pa_cons (pe_op op_pow pe_int pe_int) pa_nil))) pa_nil))))
        (pss_one (ps_if (PW.pt (pw_or (pt_not (pt_val (pe_call (ok_Lreckoned_right T) (hr.mono (by decide)) (by rfl) T.g_Lreckoned_right T.F_Lreckoned_right.kp T.b_Lreckoned_right .nil pass0 (pa_cons (pv 5) (pa_cons (pv 6) pa_nil))))) (pw_or1 (pt_not (pt_val (pe_call (ok_Lreckoned_right T) (hr.mono (by decide)) (by rfl) T.g_Lreckoned_right T.F_Lreckoned_right.kp T.b_Lreckoned_right .nil pass0 (pa_cons (pv 6) (pa_cons (pv 5) pa_nil))))))))
        (pss_one (ps_ret pe_bl))
        pss_nil))))))))))))
    (pss_one (ps_ret pe_bl))), ?_⟩
    walk_at "ww"
    refine wLenL hS ?_
    walk_at "ww"
    obtain ⟨N, hN1, hN2, hN⟩ : ∃ N : Int, 1 ≤ N ∧ N ≤ 8 ∧ (if (if 8 < ((ns.map V.int).length : Int) then (8 : Int) else ((ns.map V.int).length : Int)) > 1 then (if 8 < ((ns.map V.int).length : Int) then (8 : Int) else ((ns.map V.int).length : Int)) else 1) = N := by
      refine ⟨_, ?_, ?_, rfl⟩ <;> (split <;> split <;> omega)
    rw [hN]
    refine ⟨by omega, by omega, ?_⟩
    refine for_range (lo := 0) (n := N.toNat) (fun i σ H2 => ∃ v1 v2 v3 v4 v5 v6 v7 v8, σ = [some (.ref a), v1, v2, v3, v4, v5, v6, v7, v8] ∧ Ex H H2) ⟨_, _, _, _, _, _, _, _, rfl, Ex.refl _⟩ ?_ ?_
    · rintro i σ H2 hi ⟨v1, v2, v3, v4, v5, v6, v7, v8, rfl, e2x⟩
      walk_at "ww"
      refine ⟨a, ns, 0 + i, rfl, e2x.sq hS, hlen, by omega, by omega, fun c H3 e3 => ?_⟩
      walk_at "ww"
      refine ⟨c, rfl, fun p H4 np e4 hP => ?_⟩
      walk_at "ww"
      refine ⟨by omega, by omega, ?_⟩
      intro D hD
      have nDp : D ≠ p := hP.ne hD
      have E4 : Ex H H4 := (e2x.trans e3).trans e4
      have np0 : H p = none := (e2x.trans e3).free np
      refine lcRng (n := 4) (fun H' => Kp p H4 H' ∧ Pool H' p) (fun i y _ => ∃ z, y = .int z ∧ z.natAbs < 2 ^ 210) (fun _ => rfl) ⟨Kp.new hD, hP.upd nDp⟩ (fun i hi H' acc hI hD' hl hR => ?_) (fun H5 ys hI hD' hl hR => ?_)
      · walk_at "ww"
        refine ⟨p, rfl, hI.2, fun z H'' hz k' hP' => ?_⟩
        exact lcAdd (k' _ _ nDp hD') hl (by omega) ⟨(hI.1.trans k').mut hD, hP'.upd nDp⟩ hR ⟨z, rfl, hz⟩
      have E5 : Ex H H5 := Kp.back E4 hI.1 np0
      obtain ⟨z0, z1, z2, z3, rfl, b0, b1, b2, b3⟩ : ∃ z0 z1 z2 z3 : Int, ys = [.int z0, .int z1, .int z2, .int z3] ∧ z0.natAbs < 2 ^ 210 ∧ z1.natAbs < 2 ^ 210 ∧ z2.natAbs < 2 ^ 210 ∧ z3.natAbs < 2 ^ 210 := by
        match ys, hl, hR with
        | [y0, y1, y2, y3], _, hR =>
          obtain ⟨z0, rfl, b0⟩ := hR 0 _ rfl
          obtain ⟨z1, rfl, b1⟩ := hR 1 _ rfl
          obtain ⟨z2, rfl, b2⟩ := hR 2 _ rfl
          obtain ⟨z3, rfl, b3⟩ := hR 3 _ rfl
          exact ⟨z0, z1, z2, z3, rfl, b0, b1, b2, b3⟩
      walk_at "ww"
      have one : (1 : Int).natAbs < 2 ^ 210 := by decide +kernel
      refine wCut (fun σ H' => ∃ (l : Addr) (t1 t3 : Int), σ = [some (.ref a), some (.int (0 + i)), some (.ref p), some (.ref l), v4, v5, v6, v7, v8] ∧ H' l = some (.lst [.int z0, .int t1, .int z2, .int t3]) ∧ t1 ≠ 0 ∧ t3 ≠ 0 ∧ t1.natAbs < 2 ^ 210 ∧ t3.natAbs < 2 ^ 210 ∧ Ex H5 H') ?_ ?_
      · walk_at "ww"
        refine ⟨z1 != 0, rfl, ?_⟩
        refine ite2 (fun c1 => ?_) (fun c1 => ?_)
        · have h1 : z1 ≠ 0 := by simpa using c1
          walk_at "ww"
          refine ⟨z3 != 0, rfl, ?_⟩
          refine ite2 (fun c3 => ?_) (fun c3 => ?_)
          · have h3 : z3 ≠ 0 := by simpa using c3
            walk_at "ww"
            exact alI fun l H6 n6 e6 f6 => ⟨l, z1, z3, rfl, f6, h1, h3, b1, b3, e6⟩
          · walk_at "ww"
            exact alI fun l H6 n6 e6 f6 => ⟨l, z1, 1, rfl, f6, h1, by decide, b1, one, e6⟩
        · walk_at "ww"
          refine ⟨z3 != 0, rfl, ?_⟩
          refine ite2 (fun c3 => ?_) (fun c3 => ?_)
          · have h3 : z3 ≠ 0 := by simpa using c3
            walk_at "ww"
            exact alI fun l H6 n6 e6 f6 => ⟨l, 1, z3, rfl, f6, by decide, h3, one, b3, e6⟩
          · walk_at "ww"
            exact alI fun l H6 n6 e6 f6 => ⟨l, 1, 1, rfl, f6, by decide, by decide, one, one, e6⟩
      rintro σ H6 ⟨l, t1, t3, rfl, f6, h1, h3, bt1, bt3, e6⟩
      walk_at "ww"
      refine ⟨z0, t1, 210, rfl, h1, b0, bt1, by omega, by omega, fun H7 e7 => ?_⟩
      have f7 := e7 _ _ f6
      walk_at "ww"
      refine ⟨z2, t3, 210, rfl, h3, b2, bt3, by omega, by omega, fun H8 e8 => ?_⟩
      have f8 := e8 _ _ f7
      walk_at "ww"
      refine ⟨z0, t1, 210, rfl, h1, b0, bt1, by omega, by omega, fun x9 H9 n9 e9 f9 => ?_⟩
      have f8' := e9 _ _ f8
      walk_at "ww"
      refine ⟨z2, t3, 210, rfl, h3, b2, bt3, by omega, by omega, fun x10 H10 n10 e10 f10 => ?_⟩
      walk_at "ww"
      refine alI fun x11 H11 n11 e11 f11 => ?_
      walk_at "ww"
      refine alI fun x12 H12 n12 e12 f12 => ?_
      walk_at "ww"
      refine alI fun l13 H13 n13 e13 f13 => ?_
      have nil1 : (0 : Int).natAbs < 2 ^ 210 := by decide +kernel
      have fr01 : Fr.IsFr 0 1 := ⟨by decide, by decide⟩
      have fr11 : Fr.IsFr 1 1 := ⟨by decide, by decide⟩
      have rows : ∀ y ∈ [V.ref x9, V.ref x10, V.ref x11, V.ref x12], ∃ x P' Q', y = V.ref x ∧ FrAt H13 x P' Q' 210 := by
        intro y hy
        simp only [List.mem_cons, List.not_mem_nil, or_false] at hy
        rcases hy with rfl | rfl | rfl | rfl
        · exact ⟨_, _, _, rfl, (((f9.ex e10).ex e11).ex e12).ex e13⟩
        · exact ⟨_, _, _, rfl, ((f10.ex e11).ex e12).ex e13⟩
        · exact ⟨_, _, _, rfl, e13 _ _ (e12 _ _ f11), fr01, nil1, one⟩
        · exact ⟨_, _, _, rfl, e13 _ _ f12, fr11, one, one⟩
      walk_at "ww"
      refine exSq (SqL.of f13) ?_
      have E13 : Ex H H13 := (((((((E5.trans e6).trans e7).trans e8).trans e9).trans e10).trans e11).trans e12).trans e13
      refine for_list (K := K) (a := l13) (xs := [V.ref x9, V.ref x10, V.ref x11, V.ref x12]) (fun j σ H' => ∃ w5 w6 w7 w8, σ = [some (.ref a), some (.int (0 + i)), some (.ref p), some (.ref l), some (.ref l13), w5, w6, w7, w8] ∧ Ex H13 H')
        ⟨_, _, _, _, rfl, Ex.refl _⟩ (fun j σ H' _ ⟨_, _, _, _, _, e⟩ => SqL.of (e _ _ f13)) ?_ ?_
      · rintro j y σ H14 hj ⟨w5, w6, w7, w8, rfl, e14⟩
        obtain ⟨x, P', Q', rfl, hx⟩ := rows y (List.mem_of_getElem? hj)
        walk_at "ww"
        refine exSq (SqL.of (e14 _ _ f13)) ?_
        intro D2 hD2
        refine lcList (fun H' => Ex H14 H') (fun i y _ => y = .bl true) (fun _ => rfl) (Ex.new hD2) (fun H' e => SqL.of (e _ _ (e14 _ _ f13))) (fun i' x' hx' H' acc e hD' hla hR => ?_) (fun H15 ws e15 hD' hla hR => ?_)
        · have hi : i' ≤ 100000 := by
            have h1 := (List.getElem?_eq_some_iff.mp hx').1
            simp only [List.length_cons, List.length_nil] at h1
            omega
          obtain ⟨x2, P2, Q2, rfl, hx2⟩ := rows x' (List.mem_of_getElem? hx')
          walk_at "ww"
          refine ⟨x, x2, _, _, _, _, 210, rfl, (hx.ex e14).ex e, (hx2.ex e14).ex e, by omega, by omega, fun H'' e' => ?_⟩
          exact lcAdd (e' _ _ hD') hla hi ((e.trans e').mut hD2) hR rfl
        obtain ⟨bs, rfl, hb⟩ := all_true hR
        walk_at "ww"
        refine wAll (SqL.of hD') ?_
        rw [hb]
        walk_at "ww"
        refine alI fun x16 H16 n16 e16 f16 => ?_
        have ten : (10 : Int) ^ Int.toNat 40 = 10000000000000000000000000000000000000000 := by decide +kernel
        have h16 : FrAt H16 x16 1 ((10 : Int) ^ Int.toNat 40) 210 := ⟨f16, ⟨by rw [ten]; decide, by rw [ten]; decide +kernel⟩, one, by rw [ten]; decide +kernel⟩
        have hx16 := ((hx.ex e14).ex e15).ex e16
        walk_at "ww"
        refine ⟨x, x16, _, _, _, _, 210, rfl, hx16, h16, by omega, by omega, trivial, fun x17 H17 n17 e17 f17 => ?_⟩
        walk_at "ww"
        refine ⟨x, x17, _, _, _, _, 421, rfl, (hx16.ex e17).more (by omega), f17, by omega, by omega, fun H18 e18 => ?_⟩
        walk_at "ww"
        refine ⟨x17, x, _, _, _, _, 421, rfl, f17.ex e18, ((hx16.ex e17).ex e18).more (by omega), by omega, by omega, fun H19 e19 => ?_⟩
        walk_at "ww"
        exact ⟨_, _, _, _, rfl, ((((e14.trans e15).trans e16).trans e17).trans e18).trans e19⟩
      · rintro σ H14 ⟨w5, w6, w7, w8, rfl, e14⟩
        exact ⟨_, _, _, _, _, _, _, _, rfl, E13.trans e14⟩
    · rintro σ H2 ⟨v1, v2, v3, v4, v5, v6, v7, v8, rfl, e2x⟩
      walk_at "ww"
      exact k H2
end
theorem all_mk {l : PySem.W.OpenLaw} {w : World} {K : PySem.W.Frag} {h : Heap} {mg : Str → Option Value} {fa f_is_whole f_greatest_divisor f_is_fraction f_lowest f_check_two f_fraction f_plus f_minus f_times f_over f_below f_is_less f_Lcell f_Lpool f_Ltake f_Llow f_Lnumber f_Lis f_Lmade_right f_Lreckoned_right f_law : Addr} (X : K.In h) (G : h.Ns mainGlobals mg) (hfa : mg "law" = some (.ref fa))
    {od_is_whole an_is_whole od_greatest_divisor an_greatest_divisor od_is_fraction an_is_fraction od_lowest an_lowest od_check_two an_check_two od_fraction an_fraction od_plus an_plus od_minus an_minus od_times an_times od_over an_over od_below an_below od_is_less an_is_less od_Lcell an_Lcell od_Lpool an_Lpool od_Ltake an_Ltake od_Llow an_Llow od_Lnumber an_Lnumber od_Lis an_Lis od_Lmade_right an_Lmade_right od_Lreckoned_right an_Lreckoned_right od_law an_law : Option Addr} {sl_is_whole sl_greatest_divisor sl_is_fraction sl_lowest sl_check_two sl_fraction sl_plus sl_minus sl_times sl_over sl_below sl_is_less sl_Lcell sl_Lpool sl_Ltake sl_Llow sl_Lnumber sl_Lis sl_Lmade_right sl_Lreckoned_right sl_law : Array (Option Value)} {oc_is_whole kV_is_whole dc_is_whole pm_is_whole cd_is_whole ct_is_whole oc_greatest_divisor kV_greatest_divisor dc_greatest_divisor pm_greatest_divisor cd_greatest_divisor ct_greatest_divisor oc_is_fraction kV_is_fraction dc_is_fraction pm_is_fraction cd_is_fraction ct_is_fraction oc_lowest kV_lowest dc_lowest pm_lowest cd_lowest ct_lowest oc_check_two kV_check_two dc_check_two pm_check_two cd_check_two ct_check_two oc_fraction kV_fraction dc_fraction pm_fraction cd_fraction ct_fraction oc_plus kV_plus dc_plus pm_plus cd_plus ct_plus oc_minus kV_minus dc_minus pm_minus cd_minus ct_minus oc_times kV_times dc_times pm_times cd_times ct_times oc_over kV_over dc_over pm_over cd_over ct_over oc_below kV_below dc_below pm_below cd_below ct_below oc_is_less kV_is_less dc_is_less pm_is_less cd_is_less ct_is_less oc_Lcell kV_Lcell dc_Lcell pm_Lcell cd_Lcell ct_Lcell oc_Lpool kV_Lpool dc_Lpool pm_Lpool cd_Lpool ct_Lpool oc_Ltake kV_Ltake dc_Ltake pm_Ltake cd_Ltake ct_Ltake oc_Llow kV_Llow dc_Llow pm_Llow cd_Llow ct_Llow oc_Lnumber kV_Lnumber dc_Lnumber pm_Lnumber cd_Lnumber ct_Lnumber oc_Lis kV_Lis dc_Lis pm_Lis cd_Lis ct_Lis oc_Lmade_right kV_Lmade_right dc_Lmade_right pm_Lmade_right cd_Lmade_right ct_Lmade_right oc_Lreckoned_right kV_Lreckoned_right dc_Lreckoned_right pm_Lreckoned_right cd_Lreckoned_right ct_Lreckoned_right oc_law kV_law dc_law pm_law cd_law ct_law : Value}
    {D_fraction : Addr} {tk_fraction : Tok} {ocD_fraction : Value} {odD_fraction : Option Addr} {nD_fraction : Nat} {slD_fraction : Array (Option Value)}
    (a_is_whole : PySem.W.nsIn K mainGlobals "is_whole" = some (some (.ref f_is_whole))) (l_is_whole : K.lookup f_is_whole = some ⟨oc_is_whole, od_is_whole, .func (PySem.W.fnOf "is_whole" "is_whole" (defArgs s_is_whole) (defBody s_is_whole) (defScope s_is_whole) .none kV_is_whole dc_is_whole pm_is_whole an_is_whole cd_is_whole ct_is_whole), sl_is_whole⟩) (c_is_whole : PySem.W.codeIn K cd_is_whole "is_whole" = true) (k_is_whole : PySem.W.keepIn K (.ref f_is_whole) = true)
    (a_greatest_divisor : PySem.W.nsIn K mainGlobals "greatest_divisor" = some (some (.ref f_greatest_divisor))) (l_greatest_divisor : K.lookup f_greatest_divisor = some ⟨oc_greatest_divisor, od_greatest_divisor, .func (PySem.W.fnOf "greatest_divisor" "greatest_divisor" (defArgs s_greatest_divisor) (defBody s_greatest_divisor) (defScope s_greatest_divisor) .none kV_greatest_divisor dc_greatest_divisor pm_greatest_divisor an_greatest_divisor cd_greatest_divisor ct_greatest_divisor), sl_greatest_divisor⟩) (c_greatest_divisor : PySem.W.codeIn K cd_greatest_divisor "greatest_divisor" = true) (k_greatest_divisor : PySem.W.keepIn K (.ref f_greatest_divisor) = true)
    (a_is_fraction : PySem.W.nsIn K mainGlobals "is_fraction" = some (some (.ref f_is_fraction))) (l_is_fraction : K.lookup f_is_fraction = some ⟨oc_is_fraction, od_is_fraction, .func (PySem.W.fnOf "is_fraction" "is_fraction" (defArgs s_is_fraction) (defBody s_is_fraction) (defScope s_is_fraction) .none kV_is_fraction dc_is_fraction pm_is_fraction an_is_fraction cd_is_fraction ct_is_fraction), sl_is_fraction⟩) (c_is_fraction : PySem.W.codeIn K cd_is_fraction "is_fraction" = true) (k_is_fraction : PySem.W.keepIn K (.ref f_is_fraction) = true)
    (a_lowest : PySem.W.nsIn K mainGlobals "lowest" = some (some (.ref f_lowest))) (l_lowest : K.lookup f_lowest = some ⟨oc_lowest, od_lowest, .func (PySem.W.fnOf "lowest" "lowest" (defArgs s_lowest) (defBody s_lowest) (defScope s_lowest) .none kV_lowest dc_lowest pm_lowest an_lowest cd_lowest ct_lowest), sl_lowest⟩) (c_lowest : PySem.W.codeIn K cd_lowest "lowest" = true) (k_lowest : PySem.W.keepIn K (.ref f_lowest) = true)
    (a_check_two : PySem.W.nsIn K mainGlobals "check_two" = some (some (.ref f_check_two))) (l_check_two : K.lookup f_check_two = some ⟨oc_check_two, od_check_two, .func (PySem.W.fnOf "check_two" "check_two" (defArgs s_check_two) (defBody s_check_two) (defScope s_check_two) .none kV_check_two dc_check_two pm_check_two an_check_two cd_check_two ct_check_two), sl_check_two⟩) (c_check_two : PySem.W.codeIn K cd_check_two "check_two" = true) (k_check_two : PySem.W.keepIn K (.ref f_check_two) = true)
    (a_fraction : PySem.W.nsIn K mainGlobals "fraction" = some (some (.ref f_fraction))) (l_fraction : K.lookup f_fraction = some ⟨oc_fraction, od_fraction, .func (PySem.W.fnOf "fraction" "fraction" (defArgs s_fraction) (defBody s_fraction) (defScope s_fraction) (.ref D_fraction) kV_fraction dc_fraction pm_fraction an_fraction cd_fraction ct_fraction), sl_fraction⟩) (c_fraction : PySem.W.codeIn K cd_fraction "fraction" = true) (k_fraction : PySem.W.keepIn K (.ref f_fraction) = true)
    (t_fraction : K.lookup D_fraction = some ⟨ocD_fraction, odD_fraction, .seq #[.int 1 tk_fraction] nD_fraction, slD_fraction⟩)
    (a_plus : PySem.W.nsIn K mainGlobals "plus" = some (some (.ref f_plus))) (l_plus : K.lookup f_plus = some ⟨oc_plus, od_plus, .func (PySem.W.fnOf "plus" "plus" (defArgs s_plus) (defBody s_plus) (defScope s_plus) .none kV_plus dc_plus pm_plus an_plus cd_plus ct_plus), sl_plus⟩) (c_plus : PySem.W.codeIn K cd_plus "plus" = true) (k_plus : PySem.W.keepIn K (.ref f_plus) = true)
    (a_minus : PySem.W.nsIn K mainGlobals "minus" = some (some (.ref f_minus))) (l_minus : K.lookup f_minus = some ⟨oc_minus, od_minus, .func (PySem.W.fnOf "minus" "minus" (defArgs s_minus) (defBody s_minus) (defScope s_minus) .none kV_minus dc_minus pm_minus an_minus cd_minus ct_minus), sl_minus⟩) (c_minus : PySem.W.codeIn K cd_minus "minus" = true) (k_minus : PySem.W.keepIn K (.ref f_minus) = true)
    (a_times : PySem.W.nsIn K mainGlobals "times" = some (some (.ref f_times))) (l_times : K.lookup f_times = some ⟨oc_times, od_times, .func (PySem.W.fnOf "times" "times" (defArgs s_times) (defBody s_times) (defScope s_times) .none kV_times dc_times pm_times an_times cd_times ct_times), sl_times⟩) (c_times : PySem.W.codeIn K cd_times "times" = true) (k_times : PySem.W.keepIn K (.ref f_times) = true)
    (a_over : PySem.W.nsIn K mainGlobals "over" = some (some (.ref f_over))) (l_over : K.lookup f_over = some ⟨oc_over, od_over, .func (PySem.W.fnOf "over" "over" (defArgs s_over) (defBody s_over) (defScope s_over) .none kV_over dc_over pm_over an_over cd_over ct_over), sl_over⟩) (c_over : PySem.W.codeIn K cd_over "over" = true) (k_over : PySem.W.keepIn K (.ref f_over) = true)
    (a_below : PySem.W.nsIn K mainGlobals "below" = some (some (.ref f_below))) (l_below : K.lookup f_below = some ⟨oc_below, od_below, .func (PySem.W.fnOf "below" "below" (defArgs s_below) (defBody s_below) (defScope s_below) .none kV_below dc_below pm_below an_below cd_below ct_below), sl_below⟩) (c_below : PySem.W.codeIn K cd_below "below" = true) (k_below : PySem.W.keepIn K (.ref f_below) = true)
    (a_is_less : PySem.W.nsIn K mainGlobals "is_less" = some (some (.ref f_is_less))) (l_is_less : K.lookup f_is_less = some ⟨oc_is_less, od_is_less, .func (PySem.W.fnOf "is_less" "is_less" (defArgs s_is_less) (defBody s_is_less) (defScope s_is_less) .none kV_is_less dc_is_less pm_is_less an_is_less cd_is_less ct_is_less), sl_is_less⟩) (c_is_less : PySem.W.codeIn K cd_is_less "is_less" = true) (k_is_less : PySem.W.keepIn K (.ref f_is_less) = true)
    (a_Lcell : PySem.W.nsIn K mainGlobals "_law_cell" = some (some (.ref f_Lcell))) (l_Lcell : K.lookup f_Lcell = some ⟨oc_Lcell, od_Lcell, .func (PySem.W.fnOf "_law_cell" "_law_cell" (defArgs s_Lcell) (defBody s_Lcell) (defScope s_Lcell) .none kV_Lcell dc_Lcell pm_Lcell an_Lcell cd_Lcell ct_Lcell), sl_Lcell⟩) (c_Lcell : PySem.W.codeIn K cd_Lcell "_law_cell" = true) (k_Lcell : PySem.W.keepIn K (.ref f_Lcell) = true)
    (a_Lpool : PySem.W.nsIn K mainGlobals "_law_pool" = some (some (.ref f_Lpool))) (l_Lpool : K.lookup f_Lpool = some ⟨oc_Lpool, od_Lpool, .func (PySem.W.fnOf "_law_pool" "_law_pool" (defArgs s_Lpool) (defBody s_Lpool) (defScope s_Lpool) .none kV_Lpool dc_Lpool pm_Lpool an_Lpool cd_Lpool ct_Lpool), sl_Lpool⟩) (c_Lpool : PySem.W.codeIn K cd_Lpool "_law_pool" = true) (k_Lpool : PySem.W.keepIn K (.ref f_Lpool) = true)
    (a_Ltake : PySem.W.nsIn K mainGlobals "_law_take" = some (some (.ref f_Ltake))) (l_Ltake : K.lookup f_Ltake = some ⟨oc_Ltake, od_Ltake, .func (PySem.W.fnOf "_law_take" "_law_take" (defArgs s_Ltake) (defBody s_Ltake) (defScope s_Ltake) .none kV_Ltake dc_Ltake pm_Ltake an_Ltake cd_Ltake ct_Ltake), sl_Ltake⟩) (c_Ltake : PySem.W.codeIn K cd_Ltake "_law_take" = true) (k_Ltake : PySem.W.keepIn K (.ref f_Ltake) = true)
    (a_Llow : PySem.W.nsIn K mainGlobals "_law_low" = some (some (.ref f_Llow))) (l_Llow : K.lookup f_Llow = some ⟨oc_Llow, od_Llow, .func (PySem.W.fnOf "_law_low" "_law_low" (defArgs s_Llow) (defBody s_Llow) (defScope s_Llow) .none kV_Llow dc_Llow pm_Llow an_Llow cd_Llow ct_Llow), sl_Llow⟩) (c_Llow : PySem.W.codeIn K cd_Llow "_law_low" = true) (k_Llow : PySem.W.keepIn K (.ref f_Llow) = true)
    (a_Lnumber : PySem.W.nsIn K mainGlobals "_law_number" = some (some (.ref f_Lnumber))) (l_Lnumber : K.lookup f_Lnumber = some ⟨oc_Lnumber, od_Lnumber, .func (PySem.W.fnOf "_law_number" "_law_number" (defArgs s_Lnumber) (defBody s_Lnumber) (defScope s_Lnumber) .none kV_Lnumber dc_Lnumber pm_Lnumber an_Lnumber cd_Lnumber ct_Lnumber), sl_Lnumber⟩) (c_Lnumber : PySem.W.codeIn K cd_Lnumber "_law_number" = true) (k_Lnumber : PySem.W.keepIn K (.ref f_Lnumber) = true)
    (a_Lis : PySem.W.nsIn K mainGlobals "_law_is" = some (some (.ref f_Lis))) (l_Lis : K.lookup f_Lis = some ⟨oc_Lis, od_Lis, .func (PySem.W.fnOf "_law_is" "_law_is" (defArgs s_Lis) (defBody s_Lis) (defScope s_Lis) .none kV_Lis dc_Lis pm_Lis an_Lis cd_Lis ct_Lis), sl_Lis⟩) (c_Lis : PySem.W.codeIn K cd_Lis "_law_is" = true) (k_Lis : PySem.W.keepIn K (.ref f_Lis) = true)
    (a_Lmade_right : PySem.W.nsIn K mainGlobals "_law_made_right" = some (some (.ref f_Lmade_right))) (l_Lmade_right : K.lookup f_Lmade_right = some ⟨oc_Lmade_right, od_Lmade_right, .func (PySem.W.fnOf "_law_made_right" "_law_made_right" (defArgs s_Lmade_right) (defBody s_Lmade_right) (defScope s_Lmade_right) .none kV_Lmade_right dc_Lmade_right pm_Lmade_right an_Lmade_right cd_Lmade_right ct_Lmade_right), sl_Lmade_right⟩) (c_Lmade_right : PySem.W.codeIn K cd_Lmade_right "_law_made_right" = true) (k_Lmade_right : PySem.W.keepIn K (.ref f_Lmade_right) = true)
    (a_Lreckoned_right : PySem.W.nsIn K mainGlobals "_law_reckoned_right" = some (some (.ref f_Lreckoned_right))) (l_Lreckoned_right : K.lookup f_Lreckoned_right = some ⟨oc_Lreckoned_right, od_Lreckoned_right, .func (PySem.W.fnOf "_law_reckoned_right" "_law_reckoned_right" (defArgs s_Lreckoned_right) (defBody s_Lreckoned_right) (defScope s_Lreckoned_right) .none kV_Lreckoned_right dc_Lreckoned_right pm_Lreckoned_right an_Lreckoned_right cd_Lreckoned_right ct_Lreckoned_right), sl_Lreckoned_right⟩) (c_Lreckoned_right : PySem.W.codeIn K cd_Lreckoned_right "_law_reckoned_right" = true) (k_Lreckoned_right : PySem.W.keepIn K (.ref f_Lreckoned_right) = true)
    (a_law : PySem.W.nsIn K mainGlobals "law" = some (some (.ref f_law))) (l_law : K.lookup f_law = some ⟨oc_law, od_law, .func (PySem.W.fnOf "law" "law" (defArgs s_law) (defBody s_law) (defScope s_law) .none kV_law dc_law pm_law an_law cd_law ct_law), sl_law⟩) (c_law : PySem.W.codeIn K cd_law "law" = true) (k_law : PySem.W.keepIn K (.ref f_law) = true)
    (z_abs : PySem.W.nsIn K mainGlobals "abs" = some none)
    (z_all : PySem.W.nsIn K mainGlobals "all" = some none)
    (z_bool : PySem.W.nsIn K mainGlobals "bool" = some none)
    (z_divmod : PySem.W.nsIn K mainGlobals "divmod" = some none)
    (z_int : PySem.W.nsIn K mainGlobals "int" = some none)
    (z_isinstance : PySem.W.nsIn K mainGlobals "isinstance" = some none)
    (z_len : PySem.W.nsIn K mainGlobals "len" = some none)
    (z_max : PySem.W.nsIn K mainGlobals "max" = some none)
    (z_min : PySem.W.nsIn K mainGlobals "min" = some none)
    (z_range : PySem.W.nsIn K mainGlobals "range" = some none)
    (z_tuple : PySem.W.nsIn K mainGlobals "tuple" = some none)
    : ∃ fd : FuncData, (∀ (s : Shared) (v : Value), BindsTo s fd ⟨[v], []⟩ [("_law_script", v)]) ∧ ∀ base : Heap, K.In base → base.Ns mainGlobals mg → FnOk l.prog w K mg base CX0 6 fa fd ["_law_script"] (spLaw K) := by
  have e := hfa.symm.trans (PySem.W.mg_of X G a_law)
  cases e
  have F_is_whole := fun_mk (st := s_is_whole) l_is_whole c_is_whole k_is_whole
  have F_greatest_divisor := fun_mk (st := s_greatest_divisor) l_greatest_divisor c_greatest_divisor k_greatest_divisor
  have F_is_fraction := fun_mk (st := s_is_fraction) l_is_fraction c_is_fraction k_is_fraction
  have F_lowest := fun_mk (st := s_lowest) l_lowest c_lowest k_lowest
  have F_check_two := fun_mk (st := s_check_two) l_check_two c_check_two k_check_two
  have F_fraction : FunD K "fraction" "fraction" (defArgs s_fraction) (defBody s_fraction) (defScope s_fraction) [.int 1] [] f_fraction _ := ⟨⟨_, _, _, _, _, _, _, _, _, _, rfl, l_fraction, c_fraction, .inr ⟨by simp, D_fraction, _, [.int 1 tk_fraction], nD_fraction, rfl, t_fraction, rfl, .cons ⟨_, rfl⟩ .nil⟩, .inl rfl⟩, k_fraction⟩
  have F_plus := fun_mk (st := s_plus) l_plus c_plus k_plus
  have F_minus := fun_mk (st := s_minus) l_minus c_minus k_minus
  have F_times := fun_mk (st := s_times) l_times c_times k_times
  have F_over := fun_mk (st := s_over) l_over c_over k_over
  have F_below := fun_mk (st := s_below) l_below c_below k_below
  have F_is_less := fun_mk (st := s_is_less) l_is_less c_is_less k_is_less
  have F_Lcell := fun_mk (st := s_Lcell) l_Lcell c_Lcell k_Lcell
  have F_Lpool := fun_mk (st := s_Lpool) l_Lpool c_Lpool k_Lpool
  have F_Ltake := fun_mk (st := s_Ltake) l_Ltake c_Ltake k_Ltake
  have F_Llow := fun_mk (st := s_Llow) l_Llow c_Llow k_Llow
  have F_Lnumber := fun_mk (st := s_Lnumber) l_Lnumber c_Lnumber k_Lnumber
  have F_Lis := fun_mk (st := s_Lis) l_Lis c_Lis k_Lis
  have F_Lmade_right := fun_mk (st := s_Lmade_right) l_Lmade_right c_Lmade_right k_Lmade_right
  have F_Lreckoned_right := fun_mk (st := s_Lreckoned_right) l_Lreckoned_right c_Lreckoned_right k_Lreckoned_right
  have F_law := fun_mk (st := s_law) l_law c_law k_law
  have T : Tx K mg ⟨f_is_whole, _, f_greatest_divisor, _, f_is_fraction, _, f_lowest, _, f_check_two, _, f_fraction, _, f_plus, _, f_minus, _, f_times, _, f_over, _, f_below, _, f_is_less, _, f_Lcell, _, f_Lpool, _, f_Ltake, _, f_Llow, _, f_Lnumber, _, f_Lis, _, f_Lmade_right, _, f_Lreckoned_right, _⟩ := {
    m_abs := PySem.W.mg_none_of X G z_abs
    m_all := PySem.W.mg_none_of X G z_all
    m_bool := PySem.W.mg_none_of X G z_bool
    m_divmod := PySem.W.mg_none_of X G z_divmod
    m_int := PySem.W.mg_none_of X G z_int
    m_isinstance := PySem.W.mg_none_of X G z_isinstance
    m_len := PySem.W.mg_none_of X G z_len
    m_max := PySem.W.mg_none_of X G z_max
    m_min := PySem.W.mg_none_of X G z_min
    m_range := PySem.W.mg_none_of X G z_range
    m_tuple := PySem.W.mg_none_of X G z_tuple
    F_is_whole := F_is_whole
    g_is_whole := PySem.W.mg_of X G a_is_whole
    b_is_whole := F_is_whole.binds (ps := ["thing"]) fun _ _ _ _ _ _ us hl => match us, hl with | [_], _ => rfl
    F_greatest_divisor := F_greatest_divisor
    g_greatest_divisor := PySem.W.mg_of X G a_greatest_divisor
    b_greatest_divisor := F_greatest_divisor.binds (ps := ["one", "other"]) fun _ _ _ _ _ _ us hl => match us, hl with | [_, _], _ => rfl
    F_is_fraction := F_is_fraction
    g_is_fraction := PySem.W.mg_of X G a_is_fraction
    b_is_fraction := F_is_fraction.binds (ps := ["thing"]) fun _ _ _ _ _ _ us hl => match us, hl with | [_], _ => rfl
    F_lowest := F_lowest
    g_lowest := PySem.W.mg_of X G a_lowest
    b_lowest := F_lowest.binds (ps := ["top", "bottom"]) fun _ _ _ _ _ _ us hl => match us, hl with | [_, _], _ => rfl
    F_check_two := F_check_two
    g_check_two := PySem.W.mg_of X G a_check_two
    b_check_two := F_check_two.binds (ps := ["one", "other"]) fun _ _ _ _ _ _ us hl => match us, hl with | [_, _], _ => rfl
    F_fraction := F_fraction
    g_fraction := PySem.W.mg_of X G a_fraction
    b_fraction := bndD F_fraction (by simp) fun _ _ _ _ _ _ _ us its hu hi => match us, its, hu, hi with | [_, _], [_], _, _ => ⟨_, rfl, rfl⟩
    db1_fraction := F_fraction.binds1 1 0 (by simp) rfl fun _ _ _ _ _ _ _ us its hu hi => match us, its, hu, hi with | [_], [_], _, _ => ⟨_, rfl, rfl⟩
    kd0_fraction_top := (kbnD F_fraction 0 ["top"] (fun _ ds zs => zs ++ ds) (by simp) (fun _ r r2 => r2.append r) fun _ _ _ _ _ _ _ us its ws h1 h2 h3 => match us, its, ws, h1, h2, h3 with | [], [_], [_], _, _, _ => ⟨_, rfl, rfl⟩).elim fun _ h => ⟨_, h⟩
    F_plus := F_plus
    g_plus := PySem.W.mg_of X G a_plus
    b_plus := F_plus.binds (ps := ["one", "other"]) fun _ _ _ _ _ _ us hl => match us, hl with | [_, _], _ => rfl
    F_minus := F_minus
    g_minus := PySem.W.mg_of X G a_minus
    b_minus := F_minus.binds (ps := ["one", "other"]) fun _ _ _ _ _ _ us hl => match us, hl with | [_, _], _ => rfl
    F_times := F_times
    g_times := PySem.W.mg_of X G a_times
    b_times := F_times.binds (ps := ["one", "other"]) fun _ _ _ _ _ _ us hl => match us, hl with | [_, _], _ => rfl
    F_over := F_over
    g_over := PySem.W.mg_of X G a_over
    b_over := F_over.binds (ps := ["one", "other"]) fun _ _ _ _ _ _ us hl => match us, hl with | [_, _], _ => rfl
    F_below := F_below
    g_below := PySem.W.mg_of X G a_below
    b_below := F_below.binds (ps := ["one", "other"]) fun _ _ _ _ _ _ us hl => match us, hl with | [_, _], _ => rfl
    F_is_less := F_is_less
    g_is_less := PySem.W.mg_of X G a_is_less
    b_is_less := F_is_less.binds (ps := ["one", "other"]) fun _ _ _ _ _ _ us hl => match us, hl with | [_, _], _ => rfl
    F_Lcell := F_Lcell
    g_Lcell := PySem.W.mg_of X G a_Lcell
    b_Lcell := F_Lcell.binds (ps := ["_law_script", "_law_k"]) fun _ _ _ _ _ _ us hl => match us, hl with | [_, _], _ => rfl
    F_Lpool := F_Lpool
    g_Lpool := PySem.W.mg_of X G a_Lpool
    b_Lpool := F_Lpool.binds (ps := ["_law_cell_here"]) fun _ _ _ _ _ _ us hl => match us, hl with | [_], _ => rfl
    F_Ltake := F_Ltake
    g_Ltake := PySem.W.mg_of X G a_Ltake
    b_Ltake := F_Ltake.binds (ps := ["_law_pool_here", "_law_many"]) fun _ _ _ _ _ _ us hl => match us, hl with | [_, _], _ => rfl
    F_Llow := F_Llow
    g_Llow := PySem.W.mg_of X G a_Llow
    b_Llow := F_Llow.binds (ps := ["_law_upper", "_law_lower"]) fun _ _ _ _ _ _ us hl => match us, hl with | [_, _], _ => rfl
    F_Lnumber := F_Lnumber
    g_Lnumber := PySem.W.mg_of X G a_Lnumber
    b_Lnumber := F_Lnumber.binds (ps := ["_law_pool_here"]) fun _ _ _ _ _ _ us hl => match us, hl with | [_], _ => rfl
    F_Lis := F_Lis
    g_Lis := PySem.W.mg_of X G a_Lis
    b_Lis := F_Lis.binds (ps := ["_law_told", "_law_upper", "_law_lower"]) fun _ _ _ _ _ _ us hl => match us, hl with | [_, _, _], _ => rfl
    F_Lmade_right := F_Lmade_right
    g_Lmade_right := PySem.W.mg_of X G a_Lmade_right
    b_Lmade_right := F_Lmade_right.binds (ps := ["_law_upper", "_law_lower"]) fun _ _ _ _ _ _ us hl => match us, hl with | [_, _], _ => rfl
    F_Lreckoned_right := F_Lreckoned_right
    g_Lreckoned_right := PySem.W.mg_of X G a_Lreckoned_right
    b_Lreckoned_right := F_Lreckoned_right.binds (ps := ["_law_here", "_law_there"]) fun _ _ _ _ _ _ us hl => match us, hl with | [_, _], _ => rfl
    kb0_fraction_bottom_top := by
      obtain ⟨_, h⟩ := kbnD (ps := ["top", "bottom"]) F_fraction 0 ["bottom", "top"] (fun _ _ zs => pick [1, 0] zs) (by simp) (fun _ _ r => pick_rel r [1, 0]) fun _ _ _ _ _ _ _ us its ws h1 h2 h3 => match us, its, ws, h1, h2, h3 with | [], [_], [_, _], _, _, _ => ⟨_, rfl, rfl⟩
      exact h
    kb0_below_other_one := ⟨fun s us ws _ l1 l2 => match us, ws, l1, l2 with | [], [_, _], _, _ => .of_eq rfl, fun _ r => pick_rel r [1, 0]⟩
    kb0_over_other_one := ⟨fun s us ws _ l1 l2 => match us, ws, l1, l2 with | [], [_, _], _, _ => .of_eq rfl, fun _ r => pick_rel r [1, 0]⟩
    kb0_times_other_one := ⟨fun s us ws _ l1 l2 => match us, ws, l1, l2 with | [], [_, _], _, _ => .of_eq rfl, fun _ r => pick_rel r [1, 0]⟩
    kb0_minus_other_one := ⟨fun s us ws _ l1 l2 => match us, ws, l1, l2 with | [], [_, _], _, _ => .of_eq rfl, fun _ r => pick_rel r [1, 0]⟩
    kb0_plus_other_one := ⟨fun s us ws _ l1 l2 => match us, ws, l1, l2 with | [], [_, _], _, _ => .of_eq rfl, fun _ r => pick_rel r [1, 0]⟩
  }
  exact ⟨PySem.W.fnOf "law" "law" (defArgs s_law) (defBody s_law) (defScope s_law) .none kV_law dc_law pm_law an_law cd_law ct_law, fun s v => .of_eq rfl, fun base _ _ => ok_law T F_law⟩
theorem walk {l : PySem.W.OpenLaw} {q : Program} {loose : List Str} {XP : (Str → Option Value) → Heap → Prop} {YP : World → Heap → Prop} {d : DefRec} {K : Params → PySem.W.Frag} (hn : l.most = some 63) (hdf : d.params.defaults = [])
    (hY : ∀ (w : World) (h : Heap), YP w h → (K w.params).In h)
    (F : ∀ (w : World) (mg : Str → Option Value) (fa : Addr) (h : Heap), (K w.params).In h → h.Ns mainGlobals mg → mg d.name = some (.ref fa) →
      ∃ fd : FuncData, (∀ (s : Shared) (u : Value), BindsTo s fd ⟨[u], []⟩ [("_law_script", u)]) ∧ ∀ base : Heap, (K w.params).In base → base.Ns mainGlobals mg → FnOk l.prog w (K w.params) mg base CX0 6 fa fd ["_law_script"] (spLaw (K w.params))) :
    PySem.W.WalkO q loose XP YP l.row.toRowW d [] (fun f vs => PySem.call f vs) :=
  L2.walk_of (n := 63) (k := 6) (x := "_law_script") (CX := fun _ => CX0) (sp := fun w => spLaw (K w.params)) hn (by decide) hdf ⟨rfl, by decide, by decide⟩ hY F (fun _ _ a ns hl _ hS => ⟨a, ns, rfl, hS, hl, fun _ => rfl⟩) fun _ _ _ _ _ z => z
end Ver
open PySem PySem.W PyProof.Rows in
set_option maxRecDepth 100000 in
set_option maxHeartbeats 0 in
theorem PySem.Challenge.cw_thankways_k01_fractions_reckoned_holds : PySem.Challenge.rw_thankways_k01_fractions_reckoned.Holds := by
  w_on; o_law; k_head; (case hw => w_witness2)
  k_fill
  refine Ver.walk (l := PySem.Challenge.rw_thankways_k01_fractions_reckoned) rfl rfl (fun w h Y => PySem.W.kIn_of Y) ?F
  case F =>
    intro w mg fa h KX G hmg
    refine' Ver.all_mk KX G hmg ?a_is_whole ?l_is_whole ?c_is_whole ?k_is_whole ?a_greatest_divisor ?l_greatest_divisor ?c_greatest_divisor ?k_greatest_divisor ?a_is_fraction ?l_is_fraction ?c_is_fraction ?k_is_fraction ?a_lowest ?l_lowest ?c_lowest ?k_lowest ?a_check_two ?l_check_two ?c_check_two ?k_check_two ?a_fraction ?l_fraction ?c_fraction ?k_fraction ?t_fraction ?a_plus ?l_plus ?c_plus ?k_plus ?a_minus ?l_minus ?c_minus ?k_minus ?a_times ?l_times ?c_times ?k_times ?a_over ?l_over ?c_over ?k_over ?a_below ?l_below ?c_below ?k_below ?a_is_less ?l_is_less ?c_is_less ?k_is_less ?a_Lcell ?l_Lcell ?c_Lcell ?k_Lcell ?a_Lpool ?l_Lpool ?c_Lpool ?k_Lpool ?a_Ltake ?l_Ltake ?c_Ltake ?k_Ltake ?a_Llow ?l_Llow ?c_Llow ?k_Llow ?a_Lnumber ?l_Lnumber ?c_Lnumber ?k_Lnumber ?a_Lis ?l_Lis ?c_Lis ?k_Lis ?a_Lmade_right ?l_Lmade_right ?c_Lmade_right ?k_Lmade_right ?a_Lreckoned_right ?l_Lreckoned_right ?c_Lreckoned_right ?k_Lreckoned_right ?a_law ?l_law ?c_law ?k_law ?z_abs ?z_all ?z_bool ?z_divmod ?z_int ?z_isinstance ?z_len ?z_max ?z_min ?z_range ?z_tuple
    (case a_is_whole => k_is)
    (case l_is_whole => k_is)
    (case c_is_whole => k_is)
    (case k_is_whole => k_is)
    (case a_greatest_divisor => k_is)
    (case l_greatest_divisor => k_is)
    (case c_greatest_divisor => k_is)
    (case k_greatest_divisor => k_is)
    (case a_is_fraction => k_is)
    (case l_is_fraction => k_is)
    (case c_is_fraction => k_is)
    (case k_is_fraction => k_is)
    (case a_lowest => k_is)
    (case l_lowest => k_is)
    (case c_lowest => k_is)
    (case k_lowest => k_is)
    (case a_check_two => k_is)
    (case l_check_two => k_is)
    (case c_check_two => k_is)
    (case k_check_two => k_is)
    (case a_fraction => k_is)
    (case l_fraction => k_is)
    (case c_fraction => k_is)
    (case k_fraction => k_is)
    (case t_fraction => k_is)
    (case a_plus => k_is)
    (case l_plus => k_is)
    (case c_plus => k_is)
    (case k_plus => k_is)
    (case a_minus => k_is)
    (case l_minus => k_is)
    (case c_minus => k_is)
    (case k_minus => k_is)
    (case a_times => k_is)
    (case l_times => k_is)
    (case c_times => k_is)
    (case k_times => k_is)
    (case a_over => k_is)
    (case l_over => k_is)
    (case c_over => k_is)
    (case k_over => k_is)
    (case a_below => k_is)
    (case l_below => k_is)
    (case c_below => k_is)
    (case k_below => k_is)
    (case a_is_less => k_is)
    (case l_is_less => k_is)
    (case c_is_less => k_is)
    (case k_is_less => k_is)
    (case a_Lcell => k_is)
    (case l_Lcell => k_is)
    (case c_Lcell => k_is)
    (case k_Lcell => k_is)
    (case a_Lpool => k_is)
    (case l_Lpool => k_is)
    (case c_Lpool => k_is)
    (case k_Lpool => k_is)
    (case a_Ltake => k_is)
    (case l_Ltake => k_is)
    (case c_Ltake => k_is)
    (case k_Ltake => k_is)
    (case a_Llow => k_is)
    (case l_Llow => k_is)
    (case c_Llow => k_is)
    (case k_Llow => k_is)
    (case a_Lnumber => k_is)
    (case l_Lnumber => k_is)
    (case c_Lnumber => k_is)
    (case k_Lnumber => k_is)
    (case a_Lis => k_is)
    (case l_Lis => k_is)
    (case c_Lis => k_is)
    (case k_Lis => k_is)
    (case a_Lmade_right => k_is)
    (case l_Lmade_right => k_is)
    (case c_Lmade_right => k_is)
    (case k_Lmade_right => k_is)
    (case a_Lreckoned_right => k_is)
    (case l_Lreckoned_right => k_is)
    (case c_Lreckoned_right => k_is)
    (case k_Lreckoned_right => k_is)
    (case a_law => k_is)
    (case l_law => k_is)
    (case c_law => k_is)
    (case k_law => k_is)
    (case z_abs => k_is)
    (case z_all => k_is)
    (case z_bool => k_is)
    (case z_divmod => k_is)
    (case z_int => k_is)
    (case z_isinstance => k_is)
    (case z_len => k_is)
    (case z_max => k_is)
    (case z_min => k_is)
    (case z_range => k_is)
    (case z_tuple => k_is)
