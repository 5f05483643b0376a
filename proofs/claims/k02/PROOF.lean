import PyProof.Rows.All
import Wide.All
import OpenK.AllK
import Wide.FinOn
import HandS.ForMost
import HandS.IsInst
import HandS.WideBits
import HandS.Wide
import HandS.Defaults
import HandS.TupMul
import HandS.Flow
import HandS.Codes
import HandS.Style
import HandS.TupAny
import HandS.Zip
import KE.GoesZip
import KE.GoesMore
import KE.KRevSl
import KE.DataEq
import KE.LtData
import KE.SortData
import KE.KExcSuper
import KE.RegKSuper
import HandS.Exc
import HandS.ExcInit
import HandS.ExcIs
import HandS.ExcField
import HandS.ExcOwn
import HandS.HotCalls
import HandS.WordsExc
import KE.KExcIs
import PySem.Challenge.RW_thankways_k02_numbers_refused
set_option Elab.async false
set_option linter.all false
set_option maxRecDepth 100000
set_option maxHeartbeats 4000000
/-! Fractions in lowest terms: plain mathematics. -/
namespace Fr
def IsFr (p q : Int) : Prop := 1 ≤ q ∧ p.gcd q = 1
def frD (t b : Int) : Int := if b < 0 then -((t.gcd b : Nat) : Int) else ((t.gcd b : Nat) : Int)
def frT (t b : Int) : Int := t.fdiv (frD t b)
def frB (t b : Int) : Int := b.fdiv (frD t b)
theorem gcd_pos {t b : Int} (h : b ≠ 0) : 0 < t.gcd b := by
  rcases Nat.eq_zero_or_pos (t.gcd b) with e | e
  · have := (Int.gcd_eq_zero_iff.mp e).2
    exact absurd this h
  · exact e
theorem split {t b : Int} (h : b ≠ 0) : ∃ t' b' : Int, t = (t.gcd b : Int) * t' ∧ b = (t.gcd b : Int) * b' ∧ t'.gcd b' = 1 := by
  have g0 := gcd_pos (t := t) h
  obtain ⟨t', ht⟩ := Int.gcd_dvd_left t b
  obtain ⟨b', hb⟩ := Int.gcd_dvd_right t b
  refine ⟨t', b', ht, hb, ?_⟩
  have e : t.gcd b = ((t.gcd b : Nat) : Int).natAbs * t'.gcd b' := by
    rw [← Int.gcd_mul_left, ← ht, ← hb]
  rw [Int.natAbs_natCast] at e
  have : t.gcd b * 1 = t.gcd b * t'.gcd b' := by omega
  exact (Nat.eq_of_mul_eq_mul_left g0 this).symm
theorem fr_parts {t b : Int} (h : b ≠ 0) : ∃ k : Int, k ≠ 0 ∧ t = k * frT t b ∧ b = k * frB t b ∧ 1 ≤ frB t b ∧ (frT t b).gcd (frB t b) = 1 ∧ k = frD t b := by
  obtain ⟨t', b', ht, hb, hg⟩ := split (t := t) h
  have g0 := gcd_pos (t := t) h
  generalize hG : t.gcd b = g at *
  have hgz : (g : Int) ≠ 0 := by omega
  by_cases hn : b < 0
  · have eD : frD t b = -(g : Int) := by unfold frD; rw [if_pos hn, hG]
    have e1 : frT t b = -t' := by
      unfold frT
      rw [eD]
      exact Int.fdiv_eq_of_eq_mul_right (by omega) (by rw [ht]; grind)
    have e2 : frB t b = -b' := by
      unfold frB
      rw [eD]
      exact Int.fdiv_eq_of_eq_mul_right (by omega) (by rw [hb]; grind)
    refine ⟨-(g : Int), by omega, by rw [e1]; grind, by rw [e2]; grind, ?_, ?_, eD.symm⟩
    · rw [e2]
      have : b' < 0 := by
        rcases Int.lt_or_le b' 0 with q | q
        · exact q
        · have : 0 ≤ (g : Int) * b' := Int.mul_nonneg (by omega) q
          omega
      omega
    · rw [e1, e2, Int.gcd_neg, Int.neg_gcd]
      exact hg
  · have eD : frD t b = (g : Int) := by unfold frD; rw [if_neg hn, hG]
    have e1 : frT t b = t' := by
      unfold frT
      rw [eD]
      exact Int.fdiv_eq_of_eq_mul_right (by omega) ht
    have e2 : frB t b = b' := by
      unfold frB
      rw [eD]
      exact Int.fdiv_eq_of_eq_mul_right (by omega) hb
    refine ⟨(g : Int), by omega, by rw [e1]; exact ht, by rw [e2]; exact hb, ?_, by rw [e1, e2]; exact hg, eD.symm⟩
    rw [e2]
    rcases Int.lt_or_le 0 b' with q | q
    · omega
    · have : (g : Int) * b' ≤ 0 := Int.mul_nonpos_of_nonneg_of_nonpos (by omega) q
      omega
theorem fr_is {t b : Int} (h : b ≠ 0) : IsFr (frT t b) (frB t b) := by
  obtain ⟨k, _, _, _, h1, h2, _⟩ := fr_parts (t := t) h
  exact ⟨h1, h2⟩
theorem fr_cross {t b : Int} (h : b ≠ 0) : frT t b * b = t * frB t b := by
  obtain ⟨k, _, ht, hb, _, _, _⟩ := fr_parts (t := t) h
  generalize frT t b = x at *
  generalize frB t b = y at *
  subst ht
  subst hb
  grind
theorem fr_unique {p q r s : Int} (h1 : IsFr p q) (h2 : IsFr r s) (e : p * s = r * q) : p = r ∧ q = s := by
  obtain ⟨q1, g1⟩ := h1
  obtain ⟨s1, g2⟩ := h2
  have d1 : q.natAbs ∣ s.natAbs := by
    have : q.natAbs ∣ p.natAbs * s.natAbs := by
      rw [← Int.natAbs_mul, e, Int.natAbs_mul]
      exact Nat.dvd_mul_left _ _
    exact Nat.Coprime.dvd_of_dvd_mul_left (show Nat.gcd q.natAbs p.natAbs = 1 by rw [Nat.gcd_comm]; exact g1) this
  have d2 : s.natAbs ∣ q.natAbs := by
    have : s.natAbs ∣ r.natAbs * q.natAbs := by
      rw [← Int.natAbs_mul, ← e, Int.natAbs_mul]
      exact Nat.dvd_mul_left _ _
    exact Nat.Coprime.dvd_of_dvd_mul_left (show Nat.gcd s.natAbs r.natAbs = 1 by rw [Nat.gcd_comm]; exact g2) this
  have es : q = s := by
    have := Nat.dvd_antisymm d1 d2
    omega
  subst es
  exact ⟨Int.eq_of_mul_eq_mul_right (by omega) e, rfl⟩
theorem fr_eq {t b p q : Int} (h : b ≠ 0) (h1 : IsFr p q) (e : t * q = p * b) : frT t b = p ∧ frB t b = q := by
  refine fr_unique (fr_is h) h1 ?_
  have c := fr_cross (t := t) h
  refine Int.eq_of_mul_eq_mul_right h ?_
  generalize frT t b = x at *
  generalize frB t b = y at *
  grind
theorem natAbs_fdiv_le {t b : Int} (h : b ≠ 0) : (frT t b).natAbs ≤ t.natAbs ∧ (frB t b).natAbs ≤ b.natAbs := by
  obtain ⟨k, hk, ht, hb, _, _, _⟩ := fr_parts (t := t) h
  have k1 : 1 ≤ k.natAbs := by omega
  constructor
  · have : t.natAbs = k.natAbs * (frT t b).natAbs := by rw [← Int.natAbs_mul, ← ht]
    rw [this]
    exact Nat.le_mul_of_pos_left _ k1
  · have : b.natAbs = k.natAbs * (frB t b).natAbs := by rw [← Int.natAbs_mul, ← hb]
    rw [this]
    exact Nat.le_mul_of_pos_left _ k1
theorem frD_ne {t b : Int} (h : b ≠ 0) : frD t b ≠ 0 := by
  obtain ⟨k, hk, _, _, _, _, e⟩ := fr_parts (t := t) h
  rw [← e]
  exact hk
theorem frD_le {t b : Int} (h : b ≠ 0) : (frD t b).natAbs ≤ b.natAbs := by
  obtain ⟨k, hk, ht, hb, h1, _, e⟩ := fr_parts (t := t) h
  rw [← e]
  have : b.natAbs = k.natAbs * (frB t b).natAbs := by rw [← Int.natAbs_mul, ← hb]
  rw [this]
  exact Nat.le_mul_of_pos_right _ (by omega)
/-- one turn of the reckoning of the greatest divisor -/
theorem gcd_turn (a : Int) {b : Int} (h : b ≠ 0) : b.gcd (a.fmod b) = a.gcd b := by
  rw [Int.fmod_def, Int.gcd_sub_mul_left_right, Int.gcd_comm]
theorem fmod_less (a : Int) {b : Int} (h : b ≠ 0) : (a.fmod b).natAbs < b.natAbs := by
  rcases Int.lt_or_lt_of_ne h with n | p
  · have e : a.fmod b = -((-a).fmod (-b)) := by
      have := Int.neg_fmod_neg a b
      omega
    have e2 : (-a).fmod (-b) = (-a) % (-b) := Int.fmod_eq_emod_of_nonneg _ (by omega)
    have h1 := Int.emod_nonneg (-a) (show -b ≠ 0 by omega)
    have h2 := Int.emod_lt_of_pos (-a) (show 0 < -b by omega)
    omega
  · have e2 : a.fmod b = a % b := Int.fmod_eq_emod_of_nonneg _ (by omega)
    have h1 := Int.emod_nonneg a h
    have h2 := Int.emod_lt_of_pos a p
    omega
theorem pos_ne {q s : Int} (h1 : 1 ≤ q) (h2 : 1 ≤ s) : q * s ≠ 0 := by
  have : 0 < q * s := Int.mul_pos (by omega) (by omega)
  omega
theorem minus_plus {p q r s : Int} (h1 : IsFr p q) (h2 : IsFr r s) : frT (frT (p * s + r * q) (q * s) * s - r * frB (p * s + r * q) (q * s)) (frB (p * s + r * q) (q * s) * s) = p ∧
    frB (frT (p * s + r * q) (q * s) * s - r * frB (p * s + r * q) (q * s)) (frB (p * s + r * q) (q * s) * s) = q := by
  have hz := pos_ne h1.1 h2.1
  have c := fr_cross (t := p * s + r * q) hz
  have i := fr_is (t := p * s + r * q) hz
  generalize frT (p * s + r * q) (q * s) = x at *
  generalize frB (p * s + r * q) (q * s) = y at *
  exact fr_eq (pos_ne i.1 h2.1) h1 (by grind)
theorem plus_minus {p q r s : Int} (h1 : IsFr p q) (h2 : IsFr r s) : frT (frT (p * s - r * q) (q * s) * s + r * frB (p * s - r * q) (q * s)) (frB (p * s - r * q) (q * s) * s) = p ∧
    frB (frT (p * s - r * q) (q * s) * s + r * frB (p * s - r * q) (q * s)) (frB (p * s - r * q) (q * s) * s) = q := by
  have hz := pos_ne h1.1 h2.1
  have c := fr_cross (t := p * s - r * q) hz
  have i := fr_is (t := p * s - r * q) hz
  generalize frT (p * s - r * q) (q * s) = x at *
  generalize frB (p * s - r * q) (q * s) = y at *
  exact fr_eq (pos_ne i.1 h2.1) h1 (by grind)
theorem over_times {p q r s : Int} (h1 : IsFr p q) (h2 : IsFr r s) (hr : r ≠ 0) : frT (frT (p * r) (q * s) * s) (frB (p * r) (q * s) * r) = p ∧ frB (frT (p * r) (q * s) * s) (frB (p * r) (q * s) * r) = q := by
  have hz := pos_ne h1.1 h2.1
  have c := fr_cross (t := p * r) hz
  have i := fr_is (t := p * r) hz
  generalize frT (p * r) (q * s) = x at *
  generalize frB (p * r) (q * s) = y at *
  exact fr_eq (Int.mul_ne_zero (by have := i.1; omega) hr) h1 (by grind)
theorem times_over {p q r s : Int} (h1 : IsFr p q) (h2 : IsFr r s) (hr : r ≠ 0) : frT (frT (p * s) (q * r) * r) (frB (p * s) (q * r) * s) = p ∧ frB (frT (p * s) (q * r) * r) (frB (p * s) (q * r) * s) = q := by
  have hz : q * r ≠ 0 := Int.mul_ne_zero (by have := h1.1; omega) hr
  have c := fr_cross (t := p * s) hz
  have i := fr_is (t := p * s) hz
  generalize frT (p * s) (q * r) = x at *
  generalize frB (p * s) (q * r) = y at *
  exact fr_eq (pos_ne i.1 h2.1) h1 (by grind)
end Fr
/-! zip of a tuple and a text, walked by a for or a comprehension. -/
namespace ZipS
open PySem PySem.Spec PyProof.Rows L2
/-- the items of the tuple at a beside the signs of x, each pair in a new tuple -/
def ItzS (K : PySem.W.Frag) (a : Addr) (x : Str) : It where
  go := fun i H => ∃ (xs : List V) (v : V) (c : Nat), SqT K H a xs ∧ xs[i]? = some v ∧ x.cps[i]? = some c
  yld := fun i H v H' => ∃ (T : Addr) (y : V) (c : Nat), v = .ref T ∧ H T = none ∧ H' = upd H T (.tup [y, .str ⟨#[c]⟩]) ∧ (∀ xs, SqT K H a xs → xs[i]? = some y) ∧ x.cps[i]? = some c
  stop := fun i H => ∃ xs : List V, SqT K H a xs ∧ i ≤ xs.length ∧ i ≤ x.cps.size ∧ (i = xs.length ∨ i = x.cps.size)
/-- how the cells of such a zip stand ahead of the turn i -/
def StS (a z TI TO i1 i2 : Addr) (x : Str) (t : Tok) (i : Nat) (h : Heap) : Prop :=
  IsZip h z TI TO .none ∧ IsTupOf2 h TI (.ref i1) (.ref i2) ∧ (∃ a1 a2, IsTupOf2 h TO a1 a2) ∧ h.IsTupleIter i1 a i ∧ h.IsStrIter i2 (strIterType x) x t i
theorem turn_zipS {P : Program} {w : World} {K : PySem.W.Frag} {elts : List Expr} {kk : Nat} {tpos : Pos} {a z TI TO i1 i2 : Addr} {x : Str} {t : Tok} (D : ZipSep2 z TI TO i1 i2 [i1, a] [i2]) (hne : a ≠ i1) :
    Turn P w K (.Tuple elts kk tpos) (ItzS K a x) [z, TI, TO, i1, i2] z (StS a z TI TO i1 i2 x t) where
  mem := List.mem_cons_self
  obj := by
    rintro i h ⟨hz, hTI, ⟨b1, b2, hTO⟩, ⟨o1, e1, _, d1⟩, ⟨o2, e2, _, d2⟩⟩ c hc
    simp only [List.mem_cons, List.not_mem_nil, or_false] at hc
    rcases hc with rfl | rfl | rfl | rfl | rfl
    · exact ⟨_, hz, fun v q => by cases q⟩
    · exact ⟨_, hTI, fun v q => by cases q⟩
    · exact ⟨_, hTO, fun v q => by cases q⟩
    · exact ⟨o1, e1, fun v q => by rw [d1] at q; cases q⟩
    · exact ⟨o2, e2, fun v q => by rw [d2] at q; cases q⟩
  keep := by
    rintro i h h' ⟨hz, hTI, ⟨b1, b2, hTO⟩, h1, ⟨o2, e2, c2, d2⟩⟩ k
    exact ⟨k z (by simp) _ hz, k TI (by simp) _ hTI, ⟨b1, b2, k TO (by simp) _ hTO⟩, h1.at fun o q => k i1 (by simp) o q, ⟨o2, k i2 (by simp) _ e2, c2, d2⟩⟩
  item := by
    intro X hP hw hK hc i pins s σ H E I hf st hg
    subst hP hw hK
    obtain ⟨hz, hTI, ⟨b1, b2, hTO⟩, h1, h2⟩ := st
    obtain ⟨xs, y, c, hq, hy, hcx⟩ := hg
    obtain ⟨its, rv, p, _⟩ := I.tuple hq
    have hh : X.A.in1.handled = none := I.ok.hd hc
    have l1 : i < its.toArray.size := by
      have := (List.getElem?_eq_some_iff.mp hy).1
      have := rv.length
      simp only [List.size_toArray]
      omega
    have l2 : i < x.cps.size := (Array.getElem?_eq_some_iff.mp hcx).1
    refine wpAny_pyNext_zipD2_item (A := X.A) D (Draws.tuple hh i1 a hne its.toArray) (Draws.text hh i2 x t) hz hTI hTO ⟨h1, (show s.heap.IsTuple a its.toArray from p)⟩ h2 l1 l2 fun x1 x2 h' tk p1 p2 z' TO' s1 s2 hT hsz hk => ?_
    obtain ⟨c', u', hc', rfl⟩ := p2
    have ec : c' = c := Option.some.inj (hc'.symm.trans hcx)
    subst ec
    obtain ⟨u, hu, ru⟩ := rv.get hy
    have eu : x1 = u := by
      have : its[i]? = some x1 := by simpa using p1
      exact Option.some.inj (this.symm.trans hu)
    subst eu
    refine ⟨_, rfl, ?_⟩
    refine wpAny_letOwnedTupleGo_zip (s := { s with heap := h', toks := tk }) z' fun h2' z2 sb => ?_
    have zlt : z < s.heap.objs.size := Heap.lt_size hz
    have T2 : h2'.get? s.heap.objs.size = some { cls := .type "tuple", data := .seq #[x1, .str ⟨#[c']⟩ u'] } := (sb.2 _ (Nat.ne_of_gt zlt)).trans hT
    have new : ObjOk X.prog X.w (upd H s.heap.objs.size (.tup [y, .str ⟨#[c']⟩])) h2' s.heap.objs.size (.tup [y, .str ⟨#[c']⟩]) :=
      ⟨by show 2 ≤ sizeLine; decide, [x1, .str ⟨#[c']⟩ u'], .cons ru (.cons ⟨u', rfl⟩ .nil), ⟨_, T2, rfl, _, rfl⟩⟩
    have kk' : ∀ b o, b ∉ [z, TI, TO, i1, i2] → s.heap.get? b = some o → h2'.get? b = some o := fun b o hb q => by
      simp only [List.mem_cons, List.not_mem_nil, or_false, not_or] at hb
      exact (sb.2 b hb.1).trans (hk b o hb.1 hb.2.2.1 hb.2.2.2.1 hb.2.2.2.2 q)
    have I1 : Inv X pins σ (upd H s.heap.objs.size (.tup [y, .str ⟨#[c']⟩])) { s with heap := h2', toks := tk } := I.turnedNew (t' := tk) kk' hf (Nat.le_refl _) new
    refine ⟨.ref s.heap.objs.size, _, I1, rfl, ⟨_, y, c', rfl, I.hok.fresh (Nat.le_refl _), rfl, fun l hl => by rw [I.tuple_inj hl hq]; exact hy, hcx⟩, ⟨z2, ?_, ⟨x1, .str ⟨#[c']⟩ u', ?_⟩, ?_, ?_⟩, fun b hb => ?_⟩
    · exact (sb.2 _ D.TIz).trans (hk _ _ D.TIz D.TITO D.TIi1 D.TIi2 hTI)
    · exact (sb.2 _ D.TOz).trans TO'
    · exact s1.1.at fun o q => (sb.2 _ D.zi1.symm).trans q
    · obtain ⟨o, e, c0, d⟩ := s2
      exact ⟨o, (sb.2 _ D.zi2.symm).trans e, c0, d⟩
    · have lt : b < s.heap.objs.size := by
        simp only [List.mem_cons, List.not_mem_nil, or_false] at hb
        obtain ⟨o1, e1, _⟩ := h1
        obtain ⟨o2, e2, _⟩ := h2
        rcases hb with rfl | rfl | rfl | rfl | rfl
        · exact zlt
        · exact Heap.lt_size hTI
        · exact Heap.lt_size hTO
        · exact Heap.lt_size e1
        · exact Heap.lt_size e2
      rw [upd_ne (Nat.ne_of_lt lt)]
      exact (hf b hb).1
  done := by
    intro X hP hw hK hc i pins s σ H E I hf st hg
    subst hP hw hK
    obtain ⟨hz, hTI, ⟨b1, b2, hTO⟩, h1, h2⟩ := st
    obtain ⟨xs, hq, le1, le2, hend⟩ := hg
    obtain ⟨its, rv, p, _⟩ := I.tuple hq
    have hh : X.A.in1.handled = none := I.ok.hd hc
    have el : its.toArray.size = xs.length := by
      have := rv.length
      simp only [List.size_toArray]
      omega
    refine wpAny_pyNext_zipD2_end (A := X.A) D (Draws.tuple hh i1 a hne its.toArray) (Draws.text hh i2 x t) hz hTI hTO ⟨h1, (show s.heap.IsTuple a its.toArray from p)⟩ h2 (by omega) le2 (by omega) fun h' tk hk => ?_
    refine ⟨rfl, I.turnedL (t' := tk) (ch := [z, TI, TO, i1, i2]) (fun b o hb q => ?_) hf⟩
    simp only [List.mem_cons, List.not_mem_nil, or_false, not_or] at hb
    exact hk b o hb.1 hb.2.2.1 hb.2.2.2.1 hb.2.2.2.2 q
  self := fun A i s Q E st h => wpAny_pyIter_zip st.1 h
def iZipS (K : PySem.W.Frag) (ta : TA) : TI := fun σ H R => ta σ H fun vs H1 => ∃ (a : Addr) (x : Str) (xs : List V), vs = [.ref a, .str x] ∧ SqT K H1 a xs ∧ R (ItzS K a x) H1
theorem sep_new {n a : Nat} (h : a < n) : ZipSep2 (n + 4) (n + 2) (n + 3) n (n + 1) [n, a] [n + 1] where
  TIz := fun e => by have e : n + 2 = n + 4 := e; omega
  TOz := fun e => by have e : n + 3 = n + 4 := e; omega
  TITO := fun e => by have e : n + 2 = n + 3 := e; omega
  TIi1 := fun e => by have e : n + 2 = n := e; omega
  mem1 := List.mem_cons_self
  zf1 := fun e => by
    rcases List.mem_cons.mp e with e | e
    · have e : n + 4 = n := e
      omega
    · have e : n + 4 = a := by simpa using e
      omega
  Tf1 := fun e => by
    rcases List.mem_cons.mp e with e | e
    · have e : n + 3 = n := e
      omega
    · have e : n + 3 = a := by simpa using e
      omega
  TIi2 := fun e => by have e : n + 2 = n + 1 := e; omega
  mem2 := List.mem_cons_self
  zf2 := fun e => by
    have e : n + 4 = n + 1 := by simpa using e
    omega
  Tf2 := fun e => by
    have e : n + 3 = n + 1 := by simpa using e
    omega
  sep1_2 := fun e => by
    have e : n = n + 1 := by simpa using e
    omega
  sep2_1 := fun e => by
    rcases List.mem_cons.mp e with e | e
    · have e : n + 1 = n := e
      omega
    · have e : n + 1 = a := by simpa using e
      omega
theorem pi_zipS {X : Cx} {K : PySem.W.Frag} {e e2 : Expr} {ta : TA} {p pos tpos : Pos} {elts : List Expr} {kk : Nat} (hK : X.K = K) (hg : Gl X "zip") (hm : X.mg "zip" = none) (ha : PA X [e, e2] ta)
    (hs : starEach [e, e2] X.env = (false, eval e X.env) :: starEach [e2] X.env := by rfl) (hpl : (backTo pos (starEach [e2] X.env)).any (·.1) = false := by rfl) :
    PI X (.Tuple elts kk tpos) (.Call (.Name "zip" p) [e, e2] [] pos) (iZipS K ta) := by
  subst hK
  refine ⟨fun pins s σ H R I h => ?_⟩
  refine Call_ (ld_blt I hg hm PyProof.Rows.boot_zip (PyProof.Rows.callWith_type1 (thn (ha.run pos pins s σ H _ I h) fun us s1 ⟨vs, H1, I1, r1, q1⟩ => ?_) hs hpl))
  obtain ⟨a, x, xs, rfl, hq, q⟩ := q1
  obtain ⟨u1, u2, rfl, ra, t, rfl⟩ := vals2 r1
  cases ra
  obtain ⟨its, rv, p1, _⟩ := I1.tuple hq
  have la : a < s1.heap.objs.size := let ⟨_, e, _⟩ := p1; Heap.lt_size e
  refine zip_begins2 (begins_tuple a its.toArray) (begins_text x t) (show s1.heap.IsTuple a its.toArray from p1) trivial fun h' hz hTI hTO g1 g2 hsz hk => wpAny_pyIter_zip hz ?_
  have I2 : Inv X pins σ H1 { s1 with heap := h' } := I1.kept (t' := s1.toks) hk
  have D := sep_new la
  refine ⟨s1.heap.objs.size + 4, [s1.heap.objs.size + 4, s1.heap.objs.size + 2, s1.heap.objs.size + 3, s1.heap.objs.size, s1.heap.objs.size + 1], _, _, H1, rfl, I2, turn_zipS D (Nat.ne_of_lt la), ⟨hz, hTI, ⟨_, _, hTO⟩, ⟨_, g1, rfl, rfl⟩, ⟨_, g2, rfl, rfl⟩⟩, fun b hb => ?_, q⟩
  have hle : s1.heap.objs.size ≤ b := by
    simp only [List.mem_cons, List.not_mem_nil, or_false] at hb
    rcases hb with rfl | rfl | rfl | rfl | rfl
    · exact Nat.le_add_right _ _
    · exact Nat.le_add_right _ _
    · exact Nat.le_add_right _ _
    · exact Nat.le_refl _
    · exact Nat.le_add_right _ _
  exact I1.fpOk hle (I1.hok.fresh hle)
/-- a loop over such a zip -/
theorem for_zipS {K : PySem.W.Frag} {a : Addr} {x : Str} {xs : List V} {g : TG} {tb : TS} {D : Ends} {σ : L2.St} {H : Hp} (n : Nat) (hn : n = min xs.length x.cps.size) (Pv : Nat → L2.St → Hp → Prop) (h0 : Pv 0 σ H) (hq : ∀ i σ H, Pv i σ H → SqT K H a xs)
    (hs : ∀ (i : Nat) (y : V) (c : Nat) (T : Addr) (σ : L2.St) (H : Hp), xs[i]? = some y → x.cps[i]? = some c → Pv i σ H → H T = none → g (.ref T) σ (upd H T (.tup [y, .str ⟨#[c]⟩])) fun σ2 H2 => tb { D with nx := Pv (i + 1), ct := Pv (i + 1), bk := D.nx } σ2 H2)
    (hd : ∀ σ H, Pv n σ H → D.nx σ H) :
    ∃ W : Nat → Nat → L2.St → Hp → Prop, (∃ m, W 0 m σ H) ∧ ∀ i m σ H, W i m σ H →
      ((ItzS K a x).stop i H ∧ D.nx σ H) ∨ ((ItzS K a x).go i H ∧ ∃ N : L2.St → Hp → Prop, (∀ σ' H', N σ' H' → ∃ m', m' < m ∧ W (i + 1) m' σ' H') ∧ ∀ v H', (ItzS K a x).yld i H v H' → g v σ H' fun σ2 H2 => tb { D with nx := N, ct := N, bk := D.nx } σ2 H2) := by
  refine ⟨fun i m σ H => m = n - i ∧ i ≤ n ∧ Pv i σ H, ⟨n, by simp, Nat.zero_le _, h0⟩, ?_⟩
  rintro i m σ H ⟨rfl, hi, P⟩
  have q := hq i σ H P
  by_cases hlt : i < n
  · have l1 : i < xs.length := by omega
    have l2 : i < x.cps.size := by omega
    refine .inr ⟨⟨xs, xs[i], x.cps[i], q, List.getElem?_eq_getElem l1, Array.getElem?_eq_getElem l2⟩, Pv (i + 1), fun σ' H' P' => ⟨n - (i + 1), by omega, rfl, hlt, P'⟩, ?_⟩
    rintro v H' ⟨T, y, c, rfl, nT, rfl, f, hc⟩
    exact hs i y c T σ H (f xs q) hc P nT
  · have e : i = n := by omega
    subst e
    exact .inl ⟨⟨xs, q, by omega, by omega, by omega⟩, hd σ H P⟩
end ZipS
/-! The steps of a reading, one lemma a construct, and the heaps of a law with a pool. -/
namespace Ver
open PySem PySem.Spec PyProof.Rows L2

/-! ### heaps: all is kept but what stands at the one place -/
/-- all that was tracked is kept, but at p -/
def Kp (p : Addr) (H H' : Hp) : Prop := ∀ a o, a ≠ p → H a = some o → H' a = some o
/-- all is kept -/
def Ex (H H' : Hp) : Prop := ∀ a o, H a = some o → H' a = some o
theorem Ex.refl (H : Hp) : Ex H H := fun _ _ h => h
theorem Ex.trans {H H1 H2 : Hp} (a : Ex H H1) (b : Ex H1 H2) : Ex H H2 := fun x o h => b x o (a x o h)
theorem Ex.new {H : Hp} {p : Addr} {o : HO} (h : H p = none) : Ex H (upd H p o) := fun a u e => by
  rw [upd_ne (ne_of_none e h)]
  exact e
theorem Ex.kp {p : Addr} {H H' : Hp} (e : Ex H H') : Kp p H H' := fun a o _ h => e a o h
theorem Kp.refl (p : Addr) (H : Hp) : Kp p H H := fun _ _ _ h => h
theorem Kp.trans {p : Addr} {H H1 H2 : Hp} (a : Kp p H H1) (b : Kp p H1 H2) : Kp p H H2 := fun x o n h => b x o n (a x o n h)
theorem Kp.set {p : Addr} {H : Hp} {o : HO} : Kp p H (upd H p o) := fun a u n e => by
  rw [upd_ne n]
  exact e
theorem Kp.new {p q : Addr} {H : Hp} {o : HO} (h : H q = none) : Kp p H (upd H q o) := (Ex.new h).kp
/-- a thing that H does not know may change -/
theorem Ex.mut {H H' : Hp} {p : Addr} {o : HO} (e : Ex H H') (h : H p = none) : Ex H (upd H' p o) := fun a u ha => by
  rw [upd_ne (ne_of_none ha h)]
  exact e a u ha
theorem Kp.mut {q : Addr} {H H' : Hp} {p : Addr} {o : HO} (e : Kp q H H') (h : H p = none) : Kp q H (upd H' p o) := fun a u n ha => by
  rw [upd_ne (ne_of_none ha h)]
  exact e a u n ha
theorem Ex.free {H H' : Hp} {p : Addr} (e : Ex H H') (h : H' p = none) : H p = none := by
  cases h1 : H p with
  | none => rfl
  | some o =>
    rw [e p o h1] at h
    cases h
theorem Kp.free {q : Addr} {H H' : Hp} {p : Addr} (e : Kp q H H') (n : p ≠ q) (h : H' p = none) : H p = none := by
  cases h1 : H p with
  | none => rfl
  | some o =>
    rw [e p o n h1] at h
    cases h
theorem Kp.back {p : Addr} {H H1 H2 : Hp} (e : Ex H H1) (k : Kp p H1 H2) (n : H p = none) : Ex H H2 := fun a o h => k a o (ne_of_none h n) (e a o h)
theorem Ex.get {H H' : Hp} {a : Addr} {o : HO} (e : Ex H H') (h : H a = some o) : H' a = some o := e a o h
theorem Kp.get {p : Addr} {H H' : Hp} {a : Addr} {o : HO} (e : Kp p H H') (n : a ≠ p) (h : H a = some o) : H' a = some o := e a o n h
theorem Ex.rd {H H' : Hp} {a : Addr} {u : HO} (e : Ex H H') (h : Rd H a u) : Rd H' a u := by
  rcases h with h | ⟨o, h⟩
  · exact Or.inl (e a _ h)
  · exact Or.inr ⟨o, e a _ h⟩
theorem Ex.sq {K : PySem.W.Frag} {H H' : Hp} {a : Addr} {xs : List V} (e : Ex H H') (h : SqL K H a xs) : SqL K H' a xs := by
  rcases h with h | h
  · exact Or.inl (e.rd h)
  · exact Or.inr h
theorem Ex.st {K : PySem.W.Frag} {H H' : Hp} {a : Addr} {xs : List V} (e : Ex H H') (h : SqT K H a xs) : SqT K H' a xs := by
  rcases h with h | h
  · exact Or.inl (e.rd h)
  · exact Or.inr h
theorem sz6 {n : Nat} (h : n ≤ 100000) : n ≤ sizeLine := Nat.le_trans h (by decide)
theorem sz6' {n : Nat} (h : n ≤ 100000) : n < sizeLine := Nat.lt_of_le_of_lt h (by decide)

/-- a new object: what is wanted of its place and of the heap with it -/
def Al (Q : VK) (o : HO) (H : Hp) : Prop := ∀ p, H p = none → Q (.ref p) (upd H p o)
theorem alI {Q : VK} {o : HO} {H : Hp} (h : ∀ p H', H p = none → Ex H H' → H' p = some o → Q (.ref p) H') : Al Q o H := fun p hp => h p _ hp (Ex.new hp) upd_same

/-! ### the steps -/
section
variable {K : PySem.W.Frag} {σ : L2.St} {H : Hp} {Q : VK} {QT : Bool → Hp → Prop} {QA : List V → Hp → Prop} {QO : Option Int → Hp → Prop} {ta tb tc te : TE} {tt tu : TT} {v x y : V} {r r' : R2} {D : Ends} {ts us : TS} {g : TG} {tA tR : TA}
theorem wVar {i : Nat} (h : σ[i]? = some (some v)) (k : Q v H) : tVar i σ H Q := ⟨v, h, k⟩
theorem wC (k : Q v H) : tC v σ H Q := k
theorem wOp (k : ta σ H fun x H1 => tb σ H1 fun y H2 => r x y H2 Q) : tOp r ta tb σ H Q := k
theorem wUn {r : V → Hp → VK → Prop} (k : ta σ H fun x H1 => r x H1 Q) : tUn r ta σ H Q := k
theorem wCB {r : List V → Hp → VK → Prop} (k : tA σ H fun vs H1 => r vs H1 Q) : tCB r tA σ H Q := k
theorem wNil (k : QA [] H) : tNil σ H QA := k
theorem wCons (k : ta σ H fun x H1 => tR σ H1 fun xs H2 => QA (x :: xs) H2) : tCons ta tR σ H QA := k
theorem wCall {sp : Sp} {dvs : List V} {E : XK} (k : tA σ H fun vs H1 => sp (vs ++ dvs) H1 Q E) : tCall sp dvs E tA σ H Q := k
theorem wTest (k : te σ H fun x H' => ∃ k, x = .bl k ∧ QT k H') : tTest te σ H QT := k
theorem wB (k : te σ H fun x H' => ∃ k, x = .bl k ∧ QT k H') : tB te σ H QT := k
theorem wAnd (k : tt σ H fun c H1 => if c = true then tu σ H1 QT else QT false H1) : tAnd tt tu σ H QT := k
theorem wOr (k : tt σ H fun c H1 => if c = true then QT true H1 else tu σ H1 QT) : tOr tt tu σ H QT := k
theorem wNot (k : tt σ H fun c H1 => QT (!c) H1) : tNot tt σ H QT := k
theorem wAndV (k : ta σ H fun x H1 => ∃ c, x = .bl c ∧ if c = true then tb σ H1 Q else Q (.bl false) H1) : tAndV ta tb σ H Q := k
theorem wOrV (k : ta σ H fun x H1 => ∃ c, x = .bl c ∧ if c = true then Q (.bl true) H1 else tb σ H1 Q) : tOrV ta tb σ H Q := k
theorem wNotV (k : ta σ H fun x H1 => ∃ c, x = .bl c ∧ Q (.bl (!c)) H1) : tNotV ta σ H Q := k
theorem wIf (k : tt σ H fun c H1 => if c = true then ta σ H1 Q else tb σ H1 Q) : tIf tt ta tb σ H Q := k
theorem wChain (k : ta σ H fun x H1 => tb σ H1 fun y H2 => r x y H2 fun z H3 => ∃ k, z = .bl k ∧ (if k = true then tc σ H3 fun w' H4 => r' y w' H4 Q else Q (.bl false) H3)) : tChain r r' ta tb tc σ H Q := k
theorem wTup (k : tA σ H fun xs H1 => xs.length ≤ sizeLine ∧ Al Q (.tup xs) H1) : tTup tA σ H Q := k
theorem wLst (k : tA σ H fun xs H1 => xs.length ≤ sizeLine ∧ Al Q (.lst xs) H1) : tLst tA σ H Q := k
theorem wDnew (k : Al Q (.dK []) H) : tDNewK σ H Q := k
theorem wSl {r : V → Option Int → Option Int → Hp → VK → Prop} {tl th : TO} (k : te σ H fun x H1 => tl σ H1 fun l H2 => th σ H2 fun u H3 => r x l u H3 Q) : tSl r te tl th σ H Q := k
theorem wPart (k : te σ H fun x H1 => ∃ i, x = .int i ∧ QO (some i) H1) : tPart te σ H QO := k
theorem wNoPart (k : QO none H) : tNoPart σ H QO := k
theorem wBM {T : String} {r : V → List V → Hp → VK → Prop} (k : ta σ H fun x H1 => tyV K T x H1 ∧ tA σ H1 fun xs H2 => r x xs H2 Q) : tBM K T r ta tA σ H Q := k
theorem wBM0 {T : String} {r : V → List V → Hp → VK → Prop} (k : ta σ H fun x H1 => tyV K T x H1 ∧ r x [] H1 Q) : tBM0 K T r ta σ H Q := k
theorem wM0 {r : V → List V → Hp → VK → Prop} (k : ta σ H fun x H1 => (∃ a, x = .str a) ∧ r x [] H1 Q) : tM0 r ta σ H Q := k
theorem wM1 {r : V → List V → Hp → VK → Prop} (k : ta σ H fun x H1 => (∃ a, x = .str a) ∧ tb σ H1 fun y H2 => r x [y] H2 Q) : tM1 r ta tb σ H Q := k
-- statements
theorem wSeq (k : ts { D with nx := us D } σ H) : tSeq ts us D σ H := k
theorem wAsg (k : te σ H fun x H1 => g x σ H1 D.nx) : tAsg te g D σ H := k
theorem wRet (k : te σ H D.rt) : tRet te D σ H := k
theorem wDrop (k : te σ H fun _ H1 => D.nx σ H1) : tDrop te D σ H := k
theorem wIfS (k : tt σ H fun b H1 => if b = true then ts D σ H1 else us D σ H1) : tIfS tt ts us D σ H := k
theorem wNext (k : D.nx σ H) : tNext D σ H := k
theorem wPar {i j : Nat} (k : tA σ H fun vs H1 => ∃ v w, vs = [v, w] ∧ D.nx ((σ.set i (some v)).set j (some w)) H1) : tPar i j tA D σ H := k
variable {QS : L2.St → Hp → Prop} {QH : Hp → Prop}
theorem wName {i : Nat} (k : QS (σ.set i (some v)) H) : gName i v σ H QS := k
theorem wSub {to ti : TE} {t : TSet} (k : to σ H fun o H1 => ti σ H1 fun i H2 => t o i v H2 fun H3 => QS σ H3) : gSub to ti t v σ H QS := k
theorem wGTup {n : Nat} {t : TGs} {a : Addr} {xs : List V} (h : SqT K H a xs) (hl : xs.length = n) (k : t xs σ H QS) : gTup K n t (.ref a) σ H QS := ⟨a, xs, rfl, h, hl, k⟩
theorem wGCons {t : TG} {u : TGs} {vs : List V} (k : t v σ H fun σ' H' => u vs σ' H' QS) : gCons t u (v :: vs) σ H QS := ⟨v, vs, rfl, k⟩
theorem wGNil (k : QS σ H) : gNil [] σ H QS := ⟨rfl, k⟩
-- operations
theorem wI0 {f : Int → Int → V} {i j : Int} (k : Q (f i j) H) : rI0 f (.int i) (.int j) H Q := ⟨i, j, rfl, rfl, k⟩
theorem wI {C : Int → Int → Prop} {f : Int → Int → V} {i j : Int} (c : C i j) (k : Q (f i j) H) : rI C f (.int i) (.int j) H Q := ⟨i, j, rfl, rfl, c, k⟩
theorem wU {f : Int → V} {i : Int} (k : Q (f i) H) : rU f (.int i) H Q := ⟨i, rfl, k⟩
theorem wEq (h : scal x y = true) (k : Q (.bl (decide (x = y))) H) : rEq x y H Q := ⟨h, k⟩
theorem wNe (h : scal x y = true) (k : Q (.bl (!decide (x = y))) H) : rNe x y H Q := ⟨h, k⟩
theorem wIxL {p : Addr} {xs : List V} {i : Int} (h : SqL K H p xs) (ha : atI xs i = some v) (k : Q v H) : rIxL K (.ref p) (.int i) H Q := ⟨p, xs, i, v, rfl, rfl, h, ha, k⟩
theorem wIxT {p : Addr} {xs : List V} {i : Int} (h : SqT K H p xs) (ha : atI xs i = some v) (k : Q v H) : rIxT K (.ref p) (.int i) H Q := ⟨p, xs, i, v, rfl, rfl, h, ha, k⟩
theorem wIxS {z : Str} {i : Int} {c : Nat} (h : z.length ≤ sizeLine) (ha : atI z.cps.toList i = some c) (k : Q (.str ⟨#[c]⟩) H) : rIxS (.str z) (.int i) H Q := ⟨z, i, c, rfl, rfl, h, ha, k⟩
theorem wSetL {p : Addr} {xs : List V} {k : Int} {j : Nat} (h : H p = some (.lst xs)) (hj : ixN xs.length k = some j) (q : QH (upd H p (.lst (xs.set j v)))) : rSetL (.ref p) (.int k) v H QH := ⟨p, xs, k, j, rfl, rfl, h, hj, q⟩
theorem wSlL {a : Addr} {xs : List V} {lo hi : Option Int} (h : SqL K H a xs) (k : Al Q (.lst (cutV xs lo hi)) H) : rSlL K (.ref a) lo hi H Q := ⟨a, xs, rfl, h, k⟩
theorem wSlS {z : Str} {lo hi : Option Int} (h : z.length ≤ sizeLine) (k : Q (.str (cutS z lo hi)) H) : rSlS (.str z) lo hi H Q := ⟨z, rfl, h, k⟩
theorem wAppend {l : Addr} {xs : List V} {y : V} (h : H l = some (.lst xs)) (hl : xs.length ≤ 100000) (k : Q .non (upd H l (.lst (xs ++ [y])))) : rAppend (.ref l) [y] H Q := ⟨l, xs, y, rfl, rfl, h, sz6' hl, k⟩
theorem wAppendI {H0 : Hp} {l : Addr} {xs : List V} {y : V} (h : H l = some (.lst xs)) (hl : xs.length ≤ 100000) (n : H0 l = none) (e : Ex H0 H) (k : ∀ H', Ex H0 H' → Kp l H H' → H' l = some (.lst (xs ++ [y])) → Q .non H') : rAppend (.ref l) [y] H Q :=
  ⟨l, xs, y, rfl, rfl, h, sz6' hl, k _ (e.mut n) Kp.set upd_same⟩
theorem anTyL {l : Addr} {xs : List V} {P : Prop} (h : H l = some (.lst xs)) (k : P) : tyV K "list" (.ref l) H ∧ P := ⟨.inl ⟨rfl, xs, SqL.of h⟩, k⟩
theorem wCat {a b : Addr} {xs ys : List V} (h1 : H a = some (.lst xs)) (h2 : H b = some (.lst ys)) (hl : xs.length + ys.length ≤ sizeLine) (k : Al Q (.lst (xs ++ ys)) H) : rCat (.ref a) (.ref b) H Q := ⟨a, b, xs, ys, rfl, rfl, h1, h2, hl, k⟩
theorem wLenL {a : Addr} {xs : List V} {P : Nat → Prop} (h : SqL K H a xs) (k : P xs.length) : ∃ x n, [V.ref a] = [x] ∧ LenV K x H n ∧ P n := ⟨_, _, rfl, .inl ⟨_, h, rfl⟩, k⟩
theorem wLenT {a : Addr} {xs : List V} {P : Nat → Prop} (h : SqT K H a xs) (k : P xs.length) : ∃ x n, [V.ref a] = [x] ∧ LenV K x H n ∧ P n := ⟨_, _, rfl, .inr ⟨_, h, rfl⟩, k⟩
theorem wLenS {z : Str} {P : Nat → Prop} (h : z.length ≤ sizeLine) (k : P z.length) : ∃ x n, [V.str z] = [x] ∧ LenV K x H n ∧ P n := ⟨_, _, rfl, ⟨h, rfl⟩, k⟩
theorem exI1 {i : Int} {P : Int → Prop} (k : P i) : ∃ j, [V.int i] = [V.int j] ∧ P j := ⟨i, rfl, k⟩
theorem exI2 {i j : Int} {P : Int → Int → Prop} (k : P i j) : ∃ a b, [V.int i, V.int j] = [V.int a, V.int b] ∧ P a b := ⟨i, j, rfl, k⟩
theorem wAll {a : Addr} {bs : List Bool} (h : SqL K H a (bs.map V.bl)) (k : Q (.bl (bs.all id)) H) : rAll K [.ref a] H Q := ⟨a, bs, rfl, h, k⟩
theorem wAny {a : Addr} {bs : List Bool} (h : SqL K H a (bs.map V.bl)) (k : Q (.bl (bs.any id)) H) : rAny K [.ref a] H Q := ⟨a, bs, rfl, h, k⟩
theorem exBl {b : Bool} {P : Bool → Prop} (h : P b) : ∃ k, V.bl b = V.bl k ∧ P k := ⟨b, rfl, h⟩
theorem exInt {i : Int} {P : Int → Prop} (h : P i) : ∃ k, V.int i = V.int k ∧ P k := ⟨i, rfl, h⟩
theorem exStr {z : Str} {P : Str → Prop} (h : P z) : ∃ k, V.str z = V.str k ∧ P k := ⟨z, rfl, h⟩
theorem exSS {a b : Str} {P : Str → Str → Prop} (h : P a b) : ∃ i j, V.str a = V.str i ∧ V.str b = V.str j ∧ P i j := ⟨a, b, rfl, rfl, h⟩
theorem exCS {c : Nat} {b : Str} {P : Nat → Str → Prop} (h : P c b) : ∃ i j, V.str ⟨#[c]⟩ = V.str ⟨#[i]⟩ ∧ V.str b = V.str j ∧ P i j := ⟨c, b, rfl, rfl, h⟩
theorem anSum {a b : Nat} {P : Prop} (h : a + b ≤ sizeLine) (k : P) : a + b ≤ sizeLine ∧ P := ⟨h, k⟩
theorem anStr {z : Str} {P : Prop} (h : P) : (∃ a, V.str z = V.str a) ∧ P := ⟨⟨z, rfl⟩, h⟩
theorem anSz {n : Nat} {P : Prop} (h : n ≤ 100000) (k : P) : n ≤ sizeLine ∧ P := ⟨sz6 h, k⟩
theorem exTwo {v w : V} {P : V → V → Prop} (h : P v w) : ∃ a b, [v, w] = [a, b] ∧ P a b := ⟨v, w, rfl, h⟩
end
/-- a chain's comparison of two ints, of texts -/
theorem wLeS {i j : Str} {H : Hp} {Q : VK} (k : Q (.bl (!decide (j.cps.toList < i.cps.toList))) H) : (fun x y H Q => ∃ i j, x = V.str i ∧ y = V.str j ∧ Q (.bl (!decide (j.cps.toList < i.cps.toList))) H : R2) (.str i) (.str j) H Q := ⟨i, j, rfl, rfl, k⟩

/-! ### small rules of our own -/
/-- a text so many times -/
def rMulS : R2 := fun x y H Q => ∃ (z : Str) (n : Nat), x = .str z ∧ y = .int n ∧ 1 < n ∧ n ≤ 100 ∧ 0 < z.length ∧ z.length ≤ 1000 ∧ ∀ u : Str, u.cps.toList = (List.replicate n z.cps.toList).flatten → Q (.str u) H
theorem fold_cps (z : Str) : ∀ (n : Nat) (a : Array Nat), ((List.replicate n z.cps).foldl (· ++ ·) a).toList = a.toList ++ (List.replicate n z.cps.toList).flatten
  | 0, a => by simp
  | n + 1, a => by
    rw [List.replicate_succ, List.foldl_cons, fold_cps z n, List.replicate_succ, List.flatten_cons, Array.toList_append, List.append_assoc]
theorem op_mulS {X : Cx} : OpR X (binaryOp .Mult) rMulS := by
  intro pins s σ H x y v u Q I rx ry h
  obtain ⟨z, n, rfl, rfl, h1, h2, h3, h4, q⟩ := h
  obtain ⟨t, rfl⟩ := rx
  obtain ⟨t', rfl⟩ := ry
  have e1 : ¬ ((n : Int) < 1) := by omega
  have e2 : ((n : Int) == 1 || z.length == 0) = false := by
    rw [Bool.or_eq_false_iff]
    exact ⟨beq_eq_false_iff_ne.mpr (by omega), beq_eq_false_iff_ne.mpr (by omega)⟩
  have e3 : z.length * n ≤ 1000 * 100 := Nat.mul_le_mul h4 h2
  refine PySem.P.mul_str ?_ (fun _ _ => ?_) (fun _ _ => ?_) ?_
  · rw [decide_eq_false (by omega), decide_eq_false (by omega)]; rfl
  · have e4 : (92233720368547758 : Int) ≤ (2 ^ 63 - 1) / (n : Int) := by
      refine Int.le_ediv_of_mul_le (by omega) ?_
      have : (92233720368547758 : Int) * n ≤ 92233720368547758 * 100 := Int.mul_le_mul_of_nonneg_left (by omega) (by decide)
      omega
    omega
  · show decide (z.length * ((n : Int)).toNat > sizeLine) = false
    rw [Int.toNat_natCast]
    exact decide_eq_false (by have := sz6 (n := z.length * n) (by omega); omega)
  · rw [if_neg e1, e2]
    rw [if_neg (by decide)]
    have e5 : ((List.replicate ((n : Int)).toNat z.cps).foldl (· ++ ·) #[]).toList = (List.replicate n z.cps.toList).flatten := by
      rw [fold_cps, Int.toNat_natCast]
      simp
    refine ⟨?_, ?_⟩
    · have e6 : ((List.replicate ((n : Int)).toNat z.cps).foldl (· ++ ·) #[]).size = n * z.length := by
        rw [← Array.length_toList, e5, List.length_flatten, List.map_replicate, List.sum_replicate_nat]
        rfl
      refine Nat.le_trans (Nat.le_of_eq e6) (sz6 ?_)
      rw [Nat.mul_comm]
      exact e3
    · exact ⟨.str _, H, I.tok _, ⟨_, rfl⟩, q _ e5⟩
/-- // by any number that is not too great -/
def CDivZ (_ j : Int) : Prop := j ≠ 0 ∧ j.natAbs.log2 < 9000
theorem op_fdivZ {X : Cx} : OpR X (binaryOp .FloorDiv) (rI CDivZ fun i j => .int (i.fdiv j)) := opI fun _ _ _ _ _ _ _ hc q => floordiv_int hc.1 q (.inl (PyProof.noPylong_of_log2 hc.2))
theorem divz {i j : Int} {n : Nat} (h : j ≠ 0) (hb : j.natAbs < 2 ^ n) (h0 : 0 < n) (h9 : n ≤ 9000) : CDivZ i j := ⟨h, Nat.lt_of_lt_of_le (PySem.Flt.log2_lt_of h0 hb) h9⟩
theorem wWhile {c : TT} {tb : TS} {D : Ends} {σ : L2.St} {H : Hp} (k : ∃ W : Nat → L2.St → Hp → Prop, (∃ m, W m σ H) ∧ ∀ m σ H, W m σ H →
    c σ H fun b H1 => if b = true then ∃ N : L2.St → Hp → Prop, (∀ σ' H', N σ' H' → ∃ m', m' < m ∧ W m' σ' H') ∧ tb { D with nx := N, ct := N, bk := D.nx } σ H1 else D.nx σ H1) : tWhile c tb D σ H := k
theorem wOrT {K : PySem.W.Frag} {ta tb : TE} {σ : L2.St} {H : Hp} {Q : VK} (k : ta σ H fun x H1 => ∃ k, TruV K x H1 k ∧ if k = true then Q x H1 else tb σ H1 Q) : tOrT K ta tb σ H Q := k
theorem wCut {t u : TS} {D : Ends} {σ : L2.St} {H : Hp} (Mid : L2.St → Hp → Prop) (h : t { D with nx := Mid } σ H) (k : ∀ σ' H', Mid σ' H' → u D σ' H') : C8.tCut t u D σ H := ⟨Mid, h, k⟩
/-- == of things at any depth, by their data -/
theorem wNeD {K : PySem.W.Frag} {H : Hp} {Q : VK} {x y : V} {d e : PyData} (h1 : Dp K H x d) (h2 : Dp K H y e) (s1 : SeqAt.shaped d = true) (s2 : SeqAt.shaped e = true) (k : Q (.bl (!PyData.eqv d e)) H) : rNeD K x y H Q := ⟨d, e, h1, h2, s1, s2, k⟩
theorem wEqD {K : PySem.W.Frag} {H : Hp} {Q : VK} {x y : V} {d e : PyData} (h1 : Dp K H x d) (h2 : Dp K H y e) (s1 : SeqAt.shaped d = true) (s2 : SeqAt.shaped e = true) (k : Q (.bl (PyData.eqv d e)) H) : rEqD K x y H Q := ⟨d, e, h1, h2, s1, s2, k⟩
theorem dpPair {K : PySem.W.Frag} {H : Hp} {a : Addr} {p q : Int} (h : H a = some (.tup [.int p, .int q])) : Dp K H (.ref a) (.tuple [.int p, .int q]) := .tup (SqT.of h) (.cons (.int p) (.cons (.int q) .nil))
theorem eqvPair (p q : Int) : PyData.eqv (.tuple [.int p, .int q]) (.tuple [.int p, .int q]) = true := by
  rw [SeqAt.eqv_refl]
  rfl
/-! ### the library's rules with the written part named (in a comprehension's block it must not hang on the block) -/
section
variable {X : Cx} {K : PySem.W.Frag}
theorem ix_listV (h : X.K = K) : IxR X (rIxL K) := h ▸ ix_list
theorem ix_tupV (h : X.K = K) : IxR X (rIxT K) := h ▸ ix_tup
theorem sl_listV (h : X.K = K) : SlR X (rSlL K) := h ▸ sl_list
theorem sl_tupV (h : X.K = K) : SlR X (rSlA K) := h ▸ sl_tupA
theorem call_isiV (h : X.K = K) : CallR X (.builtin "isinstance") (rIsi K) := h ▸ call_isi
theorem call_lenV (h : X.K = K) : CallR X (.builtin "len") (fun xs H Q => ∃ x n, xs = [x] ∧ LenV K x H n ∧ Q (.int n) H) := h ▸ call_len
theorem cr_allV (h : X.K = K) (hc : X.calm = true) : CallR X (.builtin "all") (rAll K) := h ▸ cr_all hc
theorem cr_anyV (h : X.K = K) (hc : X.calm = true) : CallR X (.builtin "any") (rAny K) := h ▸ cr_any hc
theorem op_in_seqV (h : X.K = K) : OpR X (compareOp .In) (rIn K false) := h ▸ op_in_seq
theorem op_notIn_seqV (h : X.K = K) : OpR X (compareOp .NotIn) (rIn K true) := h ▸ op_notIn_seq
theorem op_eqDV (h : X.K = K) (hu : X.A.units + 64 < cLine) : OpR X (compareOp .Eq) (rEqD K) := h ▸ op_eqD hu
theorem op_neDV (h : X.K = K) (hu : X.A.units + 64 < cLine) : OpR X (compareOp .NotEq) (rNeD K) := h ▸ op_neD hu
theorem op_catTV (h : X.K = K) : OpR X (binaryOp .Add) (rCatA K) := h ▸ op_catA
theorem op_repTV (h : X.K = K) : OpR X (binaryOp .Mult) (rRepT K) := h ▸ op_repT
theorem pi_listV {tg l : Expr} {tl : TE} (h : X.K = K) (hl : PE X l tl) : PI X tg l (iList K tl) := h ▸ pi_list hl
theorem pi_tupV {tg l : Expr} {tl : TE} (h : X.K = K) (hl : PE X l tl) : PI X tg l (iTup K tl) := h ▸ pi_tup hl
theorem pg_tupV {es : List Expr} {k n : Nat} {t : TGs} {pos : Pos} (hK : X.K = K) (hc : X.calm = true) (h : PGs X es t)
    (hn : (assignEach es X.env).length = n) (hst : (assignEach es X.env).findIdx? (·.1) = none := by rfl) : PG X (.Tuple es k pos) (gTup K n t) := hK ▸ pg_tup hc h hn hst
end
section
variable {X : Cx} {CX : CXT} {k n : Nat} {f : Addr} {fd : FuncData} {ps ks : List Str} {sp : Sp} {E : XK} {x : Str} {p pos : Pos} {e : Expr} {es : List Expr} {kws : List Keyword} {t tk : TA} {g : List Value → List Value → List Value} {gV : List V → List V → List V}
/-- f(k = v, ..), by names alone -/
theorem pe_callN0 (F : FnOk X.prog X.w X.K X.mg X.base CX k f fd ps sp) (hr : Room k X.A) (hg : Gl X x) (hm : X.mg x = some (.ref f)) (hk : PySem.W.keepIn X.K (.ref f) = true) (hb : KBn X.K fd ps 0 ks g gV) (hx : Passes CX X E)
    (hkw : PK X kws tk) (hall : (backToKw pos (keywordEach kws X.env)).all (·.1.isSome) = true := by rfl) (hks : (backToKw pos (keywordEach kws X.env)).filterMap (·.1) = ks := by rfl)
    (hdb : (x == ("__debug__" : Str)) = false := by decide)
    (hpl : ((backTo pos (starEach [] X.env)).any (·.1) || (backToKw pos (keywordEach kws X.env)).any (·.1.isNone)) = false := by rfl) :
    PE X (.Call (.Name x p) [] kws pos) (tCallN 0 ks.length sp gV E tNil tk) := by
  refine ⟨fun pins s σ H Q I h => ?_⟩
  refine wpAny_Call_Name_kw (ld_glob I hg hm ?_ hdb)
  refine PySem.W.callWith_KW0 (h₀ := X.base) I.ok.mod.kin hk hall ?_ hpl
  have h : tk σ H fun zs H2 => ([] : List V).length = 0 ∧ zs.length = ks.length ∧ sp (gV [] zs) H2 Q E := h
  refine thn (hkw.run pos pins s σ H _ I h) fun ws s2 ⟨zs, H2, I2, rz, l1, l2, q2⟩ => ⟨I2.kIn, ?_⟩
  rw [hks]
  exact run_fnN (us := []) F hr hb hx I2 .nil rz l1 l2 q2
theorem wCallN {n m : Nat} {σ : L2.St} {H : Hp} {Q : VK} (k : t σ H fun vs H1 => tk σ H1 fun zs H2 => vs.length = n ∧ zs.length = m ∧ sp (gV vs zs) H2 Q E) : tCallN n m sp gV E t tk σ H Q := k
end
/-- the values named in another turn: by the parameters' order -/
def pick {α : Type} (ks : List Nat) (zs : List α) : List α := ks.filterMap fun k => zs[k]?
theorem pick_rel {zs : List V} {ws : List Value} (r : Vals zs ws) : ∀ ks : List Nat, Vals (pick ks zs) (pick ks ws)
  | [] => .nil
  | k :: ks => by
    unfold pick
    cases e : zs[k]? with
    | none =>
      rw [List.filterMap_cons_none e, List.filterMap_cons_none (r.none_of e)]
      exact pick_rel r ks
    | some x =>
      obtain ⟨u, hu, ru⟩ := r.get e
      rw [List.filterMap_cons_some e, List.filterMap_cons_some hu]
      exact .cons ru (pick_rel r ks)
/-- a call by names of a def with defaults (none of them by name alone) -/
theorem kbnD {K : PySem.W.Frag} {x qual : Str} {params : Arguments} {body : List Stmt} {scope : Scope} {dvs : List V} {f : Addr} {fd : FuncData} {ps : List Str} (F : FunD K x qual params body scope dvs [] f fd) (n : Nat) (ks : List Str)
    (g : {α : Type} → List α → List α → List α → List α) (hd : dvs ≠ []) (hrel : ∀ {vs ds zs : List V} {us its ws : List Value}, Vals vs us → Vals ds its → Vals zs ws → Vals (g vs ds zs) (g us its ws))
    (h : ∀ (T : Addr) (kV doc pm : Value) (an : Option Addr) (cdv ct : Value) (us its ws : List Value), us.length = n → its.length = dvs.length → ws.length = ks.length →
      ∃ k, bindArgs (PySem.W.fnOf x qual params body scope (.ref T) kV doc pm an cdv ct) ⟨us, ks.zip ws⟩ = seqItems? (.ref T) >>= k ∧ k (some its.toArray) = pure (ps.zip (g us its ws))) :
    ∃ its : List Value, KBn K fd ps n ks (fun us ws => g us its ws) (fun vs zs => g vs dvs zs) := by
  obtain ⟨oc, od, dV, kV, doc, pm, an, cdv, ct, osl, rfl, lk, hcd, hD, hK⟩ := F.ex
  rcases hD with ⟨e, _⟩ | ⟨_, T, o, its, m, rfl, lT, oT, rT⟩
  · exact absurd e hd
  · refine ⟨its, fun s us ws X l1 l2 => ?_, fun r1 r2 => hrel r1 rT r2⟩
    obtain ⟨k, e1, e2⟩ := h T kV doc pm an cdv ct us its ws l1 rT.length.symm l2
    refine BindsTo.of_looks fun M => ?_
    rw [e1]
    exact looks_items X lT oT (.of_pure e2)
/-- all of its parameters by place -/
theorem bndD {K : PySem.W.Frag} {x qual : Str} {params : Arguments} {body : List Stmt} {scope : Scope} {dvs : List V} {f : Addr} {fd : FuncData} {ps : List Str} (F : FunD K x qual params body scope dvs [] f fd) (hd : dvs ≠ [])
    (h : ∀ (T : Addr) (kV doc pm : Value) (an : Option Addr) (cdv ct : Value) (us its : List Value), us.length = ps.length → its.length = dvs.length →
      ∃ k, bindArgs (PySem.W.fnOf x qual params body scope (.ref T) kV doc pm an cdv ct) ⟨us, []⟩ = seqItems? (.ref T) >>= k ∧ k (some its.toArray) = pure (ps.zip (us ++ its.drop dvs.length))) : Binds K fd ps [] := by
  obtain ⟨ds, r, b⟩ := F.binds1 ps.length dvs.length hd (by omega) h
  rw [List.drop_length] at r
  cases r
  exact b
/-! ### isinstance -/
/-- a value's type by its name -/
inductive Ty (K : PySem.W.Frag) (H : Hp) : V → String → Prop where
  | non : Ty K H .non "NoneType"
  | bl (x : Bool) : Ty K H (.bl x) "bool"
  | int (i : Int) : Ty K H (.int i) "int"
  | str (x : Str) : Ty K H (.str x) "str"
  | lst {a : Addr} {xs : List V} (e : H a = some (.lst xs)) : Ty K H (.ref a) "list"
  | tup {a : Addr} {xs : List V} (e : H a = some (.tup xs)) : Ty K H (.ref a) "tuple"
  | dK {a : Addr} {kvs : List (Key × V)} (e : H a = some (.dK kvs)) : Ty K H (.ref a) "dict"
  | kT {a : Addr} {o : Obj} (e : K.lookup a = some o) (c : o.cls = .type "tuple") : Ty K H (.ref a) "tuple"
theorem Ty.x {K : PySem.W.Frag} {H : Hp} {v : V} {n : String} (h : Ty K H v n) : TyX K H v (.type n) := by
  cases h with
  | non => exact .base .non
  | bl x => exact .base (.bl x)
  | int x => exact .base (.int x)
  | str x => exact .base (.str x)
  | lst e => exact .base (.lst e)
  | tup e => exact .base (.tup e)
  | dK e => exact .base (.dK e)
  | kT e c => exact .kTuple e c
theorem Ty.ex {K : PySem.W.Frag} {H H' : Hp} {v : V} {n : String} (x : Ex H H') (h : Ty K H v n) : Ty K H' v n := by
  cases h with
  | non => exact .non
  | bl x => exact .bl x
  | int x => exact .int x
  | str x => exact .str x
  | lst e => exact .lst (x _ _ e)
  | tup e => exact .tup (x _ _ e)
  | dK e => exact .dK (x _ _ e)
  | kT e c => exact .kT e c
theorem wIsi {K : PySem.W.Frag} {H : Hp} {Q : VK} {v : V} {n T : String} {b : Bool} (h : Ty K H v n) (hb : kitB n T = some b) (k : Q (.bl b) H) : rIsi K [v, .ty T] H Q :=
  ⟨v, .ty T, .type n, .type T, b, rfl, .ty T, h.x, kit_ty hb, k⟩


theorem iteNT {A B : Prop} (h : B) : if (!true) = true then A else B := h
theorem iteNF {A B : Prop} (h : A) : if (!false) = true then A else B := h
def isStr : V → Bool
  | .str _ => true
  | _ => false
theorem Ty.str_is {K : PySem.W.Frag} {H : Hp} {v : V} {n : String} (h : Ty K H v n) : kitB n "str" = some (isStr v) := by
  have e1 : kitB "NoneType" "str" = some false := by decide +kernel
  have e2 : kitB "bool" "str" = some false := by decide +kernel
  have e3 : kitB "int" "str" = some false := by decide +kernel
  have e4 : kitB "str" "str" = some true := by decide +kernel
  have e5 : kitB "list" "str" = some false := by decide +kernel
  have e6 : kitB "tuple" "str" = some false := by decide +kernel
  have e7 : kitB "dict" "str" = some false := by decide +kernel
  cases h <;> first | exact e1 | exact e2 | exact e3 | exact e4 | exact e5 | exact e6 | exact e7
theorem wIsiS {K : PySem.W.Frag} {H : Hp} {Q : VK} {z : Str} (k : Q (.bl true) H) : rIsi K [.str z, .ty "str"] H Q := wIsi (.str z) (by decide +kernel) k
theorem wIsiB {K : PySem.W.Frag} {H : Hp} {Q : VK} {b : Bool} (k : Q (.bl true) H) : rIsi K [.bl b, .ty "bool"] H Q := wIsi (.bl b) (by decide +kernel) k

/-- a thing whose kind is known, a text not too long -/
structure Thing (K : PySem.W.Frag) (H : Hp) (v : V) : Prop where
  ty : ∃ n, Ty K H v n
  sz : ∀ z, v = .str z → z.length ≤ 1000
theorem Thing.ex {K : PySem.W.Frag} {H H' : Hp} {v : V} (e : Ex H H') (t : Thing K H v) : Thing K H' v := ⟨let ⟨n, h⟩ := t.ty; ⟨n, h.ex e⟩, t.sz⟩
section
variable {K : PySem.W.Frag}
theorem Thing.s {z : Str} {H : Hp} (h : z.length ≤ 1000) : Thing K H (.str z) := ⟨⟨_, .str z⟩, fun y e => by cases e; exact h⟩
theorem Thing.i {i : Int} {H : Hp} : Thing K H (.int i) := ⟨⟨_, .int i⟩, fun y e => by cases e⟩
theorem Thing.b {b : Bool} {H : Hp} : Thing K H (.bl b) := ⟨⟨_, .bl b⟩, fun y e => by cases e⟩
theorem Thing.n {H : Hp} : Thing K H .non := ⟨⟨_, .non⟩, fun y e => by cases e⟩
theorem Thing.t {H : Hp} {a : Addr} {xs : List V} (h : H a = some (.tup xs)) : Thing K H (.ref a) := ⟨⟨_, .tup h⟩, fun y e => by cases e⟩
theorem Thing.l {H : Hp} {a : Addr} {xs : List V} (h : H a = some (.lst xs)) : Thing K H (.ref a) := ⟨⟨_, .lst h⟩, fun y e => by cases e⟩
theorem Thing.d {H : Hp} {a : Addr} {kvs : List (Key × V)} (h : H a = some (.dK kvs)) : Thing K H (.ref a) := ⟨⟨_, .dK h⟩, fun y e => by cases e⟩
end

/-! ### loops and comprehensions -/
/-- what a comprehension's reading asks behind its source -/
abbrev LcG (J : It) (g : TG) (tt : TT) (te : TE) (vs : List Nat) (σ : L2.St) (H1 : Hp) (Q : VK) (D : Addr) : Prop :=
  ∃ W : Nat → Nat → Hp → Prop, (∃ m, W 0 m (upd H1 D (.lst []))) ∧ ∀ i m H, W i m H →
    (J.stop i H ∧ Q (.ref D) H) ∨ (J.go i H ∧ ∃ Nx : Hp → Prop, (∀ H', Nx H' → ∃ m', m' < m ∧ W (i + 1) m' H') ∧ ∀ x H', J.yld i H x H' → g x (wipe σ vs) H' fun σ2 H2 => wipe σ2 vs = wipe σ vs ∧ tt σ2 H2 fun b H3 =>
      if b = true then te σ2 H3 fun y H4 => ∃ acc, H4 D = some (.lst acc) ∧ acc.length < sizeLine ∧ Nx (upd H4 D (.lst (acc ++ [y]))) else Nx H3)
abbrev ForG (J : It) (g : TG) (tb : TS) (D : Ends) (σ : L2.St) (H1 : Hp) : Prop :=
  ∃ W : Nat → Nat → L2.St → Hp → Prop, (∃ m, W 0 m σ H1) ∧ ∀ i m σ H, W i m σ H →
    (J.stop i H ∧ D.nx σ H) ∨ (J.go i H ∧ ∃ N : L2.St → Hp → Prop, (∀ σ' H', N σ' H' → ∃ m', m' < m ∧ W (i + 1) m' σ' H') ∧ ∀ x H', J.yld i H x H' → g x σ H' fun σ2 H2 => tb { D with nx := N, ct := N, bk := D.nx } σ2 H2)
section
variable {K : PySem.W.Frag} {wi : TI} {g : TG} {tt : TT} {te tl : TE} {tb : TS} {vs : List Nat} {σ : L2.St} {H H1 : Hp} {Q : VK} {E : Ends} {D : Addr} {ta : TA}
theorem wLc (k : wi σ H fun J H1 => ∀ D, H1 D = none → LcG J g tt te vs σ H1 Q D) : tLc wi g tt te vs σ H Q := k
theorem wFor (k : wi σ H fun J H1 => ForG J g tb E σ H1) : tFor wi g tb E σ H := k
variable {R : It → Hp → Prop}
theorem wIList (k : tl σ H fun x H1 => ∃ a, x = .ref a ∧ (∃ xs, SqL K H1 a xs) ∧ R (Itl K a) H1) : iList K tl σ H R := k
theorem wITup (k : tl σ H fun x H1 => ∃ a, x = .ref a ∧ (∃ xs, SqT K H1 a xs) ∧ R (Itt K a) H1) : iTup K tl σ H R := k
theorem wIStr (k : tl σ H fun x H1 => ∃ z, x = .str z ∧ R (Its z) H1) : iStr tl σ H R := k
theorem wIRng1 (k : ta σ H fun vs H1 => ∃ j : Int, vs = [.int j] ∧ -(2 ^ 62) ≤ j ∧ j < 2 ^ 62 ∧ R (Itr 0 j.toNat) H1) : iRng1 ta σ H R := k
theorem exSq {p : Addr} {xs : List V} {P : Addr → Prop} (h : SqL K H p xs) (k : P p) : ∃ a, V.ref p = V.ref a ∧ (∃ xs, SqL K H a xs) ∧ P a := ⟨p, rfl, ⟨xs, h⟩, k⟩
theorem exSt {p : Addr} {xs : List V} {P : Addr → Prop} (h : SqT K H p xs) (k : P p) : ∃ a, V.ref p = V.ref a ∧ (∃ xs, SqT K H a xs) ∧ P a := ⟨p, rfl, ⟨xs, h⟩, k⟩
theorem exRng {n : Int} {P : Int → Prop} (h0 : -1000000 ≤ n) (h1 : n ≤ 1000000) (k : P n) : ∃ j : Int, [V.int n] = [V.int j] ∧ -(2 ^ 62) ≤ j ∧ j < 2 ^ 62 ∧ P j := ⟨n, rfl, by omega, by omega, k⟩

/-- over a text -/
theorem lc_str {z : Str} {Qd : Hp → Prop} (Pv : Nat → Hp → Prop) (h0 : Pv 0 (upd H1 D (.lst [])))
    (hs : ∀ i c H, z.cps[i]? = some c → Pv i H → g (.str ⟨#[c]⟩) (wipe σ vs) H fun σ2 H2 => wipe σ2 vs = wipe σ vs ∧ tt σ2 H2 fun b H3 =>
      if b = true then te σ2 H3 fun y H4 => ∃ acc, H4 D = some (.lst acc) ∧ acc.length < sizeLine ∧ Pv (i + 1) (upd H4 D (.lst (acc ++ [y]))) else Pv (i + 1) H3) (hd : ∀ H, Pv z.cps.size H → Qd H) :
    ∃ W : Nat → Nat → Hp → Prop, (∃ m, W 0 m (upd H1 D (.lst []))) ∧ ∀ i m H, W i m H →
      ((Its z).stop i H ∧ Qd H) ∨ ((Its z).go i H ∧ ∃ Nx : Hp → Prop, (∀ H', Nx H' → ∃ m', m' < m ∧ W (i + 1) m' H') ∧ ∀ x H', (Its z).yld i H x H' → g x (wipe σ vs) H' fun σ2 H2 => wipe σ2 vs = wipe σ vs ∧ tt σ2 H2 fun b H3 =>
        if b = true then te σ2 H3 fun y H4 => ∃ acc, H4 D = some (.lst acc) ∧ acc.length < sizeLine ∧ Nx (upd H4 D (.lst (acc ++ [y]))) else Nx H3) := by
  refine ⟨fun i m H => m = z.cps.size - i ∧ i ≤ z.cps.size ∧ Pv i H, ⟨z.cps.size, by simp, Nat.zero_le _, h0⟩, ?_⟩
  rintro i m H ⟨rfl, hi, p⟩
  by_cases hlt : i < z.cps.size
  · refine .inr ⟨hlt, Pv (i + 1), fun H' p' => ⟨z.cps.size - (i + 1), by omega, rfl, hlt, p'⟩, fun x H' y => ?_⟩
    obtain ⟨e, c, hc, rfl⟩ := y
    subst e
    exact hs i c _ hc p
  · have e : i = z.cps.size := by omega
    subst e
    exact .inl ⟨Nat.le_refl _, hd H p⟩
/-- the list that a comprehension has made so far: i items, each as R says, the heap as I says -/
structure LcP (I : Hp → Prop) (R : Nat → V → Hp → Prop) (D : Addr) (i : Nat) (H : Hp) : Prop where
  inv : I H
  made : ∃ acc, H D = some (.lst acc) ∧ acc.length = i ∧ ∀ j y, acc[j]? = some y → R j y H
theorem LcP.start {I : Hp → Prop} {R : Nat → V → Hp → Prop} (h : I (upd H1 D (.lst []))) : LcP I R D 0 (upd H1 D (.lst [])) := ⟨h, [], upd_same, rfl, fun j y e => by simp at e⟩
theorem LcP.next {I : Hp → Prop} {R : Nat → V → Hp → Prop} {i : Nat} {y : V} {acc : List V} (hD : H1 D = some (.lst acc)) (hl : acc.length = i) (hi : I (upd H1 D (.lst (acc ++ [y])))) (hR : ∀ j z, acc[j]? = some z → R j z (upd H1 D (.lst (acc ++ [y])))) (hy : R i y (upd H1 D (.lst (acc ++ [y])))) :
    LcP I R D (i + 1) (upd H1 D (.lst (acc ++ [y]))) := by
  refine ⟨hi, acc ++ [y], upd_same, by simp [hl], fun j z e => ?_⟩
  by_cases hj : j < acc.length
  · rw [List.getElem?_append_left hj] at e
    exact hR j z e
  · rw [List.getElem?_append_right (by omega)] at e
    have h0 : j - acc.length = 0 := by
      cases q : j - acc.length with
      | zero => rfl
      | succ n => rw [q] at e; simp at e
    rw [h0] at e
    have e1 : y = z := by simpa using e
    have e2 : j = i := by omega
    rw [← e1, e2]
    exact hy
theorem lcStr {z : Str} {slot : Nat} (I : Hp → Prop) (R : Nat → V → Hp → Prop) (hz : z.cps.size ≤ 100000) (hw : ∀ c, wipe ((wipe σ vs).set slot (some c)) vs = wipe σ vs) (h0 : I (upd H1 D (.lst [])))
    (hs : ∀ i c, z.cps[i]? = some c → ∀ H acc, I H → H D = some (.lst acc) → acc.length = i → (∀ j y, acc[j]? = some y → R j y H) →
      te ((wipe σ vs).set slot (some (.str ⟨#[c]⟩))) H fun y H' => ∃ acc', H' D = some (.lst acc') ∧ acc'.length < sizeLine ∧ LcP I R D (i + 1) (upd H' D (.lst (acc' ++ [y]))))
    (k : ∀ H ys, I H → H D = some (.lst ys) → ys.length = z.cps.size → (∀ j y, ys[j]? = some y → R j y H) → Q (.ref D) H) : LcG (Its z) (gName slot) tYes te vs σ H1 Q D := by
  refine lc_str (LcP I R D) (.start h0) (fun i c H hc P => ?_) (fun H P => ?_)
  · obtain ⟨hI, acc, hD, hl, hR⟩ := P
    exact ⟨hw _, hs i c hc H acc hI hD hl hR⟩
  · obtain ⟨hI, acc, hD, hl, hR⟩ := P
    exact k H acc hI hD hl hR
theorem lcList {a : Addr} {xs : List V} {slot : Nat} (I : Hp → Prop) (R : Nat → V → Hp → Prop) (hw : ∀ c, wipe ((wipe σ vs).set slot (some c)) vs = wipe σ vs) (h0 : I (upd H1 D (.lst []))) (hS : ∀ H, I H → SqL K H a xs)
    (hs : ∀ i x, xs[i]? = some x → ∀ H acc, I H → H D = some (.lst acc) → acc.length = i → (∀ j y, acc[j]? = some y → R j y H) →
      te ((wipe σ vs).set slot (some x)) H fun y H' => ∃ acc', H' D = some (.lst acc') ∧ acc'.length < sizeLine ∧ LcP I R D (i + 1) (upd H' D (.lst (acc' ++ [y]))))
    (k : ∀ H ys, I H → H D = some (.lst ys) → ys.length = xs.length → (∀ j y, ys[j]? = some y → R j y H) → Q (.ref D) H) : LcG (Itl K a) (gName slot) tYes te vs σ H1 Q D := by
  refine lc_list (K := K) (a := a) (xs := xs) (LcP I R D) (.start h0) (fun i H _ P => hS H P.inv) (fun i x H hx P => ?_) (fun H P => ?_)
  · obtain ⟨hI, acc, hD, hl, hR⟩ := P
    exact ⟨hw _, hs i x hx H acc hI hD hl hR⟩
  · obtain ⟨hI, acc, hD, hl, hR⟩ := P
    exact k H acc hI hD hl hR
theorem lcListG {a : Addr} {xs : List V} (I : Hp → Prop) (R : Nat → V → Hp → Prop) (h0 : I (upd H1 D (.lst []))) (hS : ∀ H, I H → SqL K H a xs)
    (hs : ∀ i x, xs[i]? = some x → ∀ H acc, I H → H D = some (.lst acc) → acc.length = i → (∀ j y, acc[j]? = some y → R j y H) →
      g x (wipe σ vs) H fun σ2 H2 => wipe σ2 vs = wipe σ vs ∧ te σ2 H2 fun y H' => ∃ acc', H' D = some (.lst acc') ∧ acc'.length < sizeLine ∧ LcP I R D (i + 1) (upd H' D (.lst (acc' ++ [y]))))
    (k : ∀ H ys, I H → H D = some (.lst ys) → ys.length = xs.length → (∀ j y, ys[j]? = some y → R j y H) → Q (.ref D) H) : LcG (Itl K a) g tYes te vs σ H1 Q D := by
  refine lc_list (K := K) (a := a) (xs := xs) (LcP I R D) (.start h0) (fun i H _ P => hS H P.inv) (fun i x H hx P => ?_) (fun H P => ?_)
  · obtain ⟨hI, acc, hD, hl, hR⟩ := P
    exact hs i x hx H acc hI hD hl hR
  · obtain ⟨hI, acc, hD, hl, hR⟩ := P
    exact k H acc hI hD hl hR
theorem lcTup {a : Addr} {xs : List V} {slot : Nat} (I : Hp → Prop) (R : Nat → V → Hp → Prop) (hw : ∀ c, wipe ((wipe σ vs).set slot (some c)) vs = wipe σ vs) (h0 : I (upd H1 D (.lst []))) (hS : ∀ H, I H → SqT K H a xs)
    (hs : ∀ i x, xs[i]? = some x → ∀ H acc, I H → H D = some (.lst acc) → acc.length = i → (∀ j y, acc[j]? = some y → R j y H) →
      te ((wipe σ vs).set slot (some x)) H fun y H' => ∃ acc', H' D = some (.lst acc') ∧ acc'.length < sizeLine ∧ LcP I R D (i + 1) (upd H' D (.lst (acc' ++ [y]))))
    (k : ∀ H ys, I H → H D = some (.lst ys) → ys.length = xs.length → (∀ j y, ys[j]? = some y → R j y H) → Q (.ref D) H) : LcG (Itt K a) (gName slot) tYes te vs σ H1 Q D := by
  refine lc_tup (K := K) (a := a) (xs := xs) (LcP I R D) (.start h0) (fun i H _ P => hS H P.inv) (fun i x H hx P => ?_) (fun H P => ?_)
  · obtain ⟨hI, acc, hD, hl, hR⟩ := P
    exact ⟨hw _, hs i x hx H acc hI hD hl hR⟩
  · obtain ⟨hI, acc, hD, hl, hR⟩ := P
    exact k H acc hI hD hl hR
theorem lcRng {n : Nat} {slot : Nat} (I : Hp → Prop) (R : Nat → V → Hp → Prop) (hw : ∀ c, wipe ((wipe σ vs).set slot (some c)) vs = wipe σ vs) (h0 : I (upd H1 D (.lst [])))
    (hs : ∀ i, i < n → ∀ H acc, I H → H D = some (.lst acc) → acc.length = i → (∀ j y, acc[j]? = some y → R j y H) →
      te ((wipe σ vs).set slot (some (.int (0 + i)))) H fun y H' => ∃ acc', H' D = some (.lst acc') ∧ acc'.length < sizeLine ∧ LcP I R D (i + 1) (upd H' D (.lst (acc' ++ [y]))))
    (k : ∀ H ys, I H → H D = some (.lst ys) → ys.length = n → (∀ j y, ys[j]? = some y → R j y H) → Q (.ref D) H) : LcG (Itr 0 n) (gName slot) tYes te vs σ H1 Q D := by
  refine lc_range (lo := 0) (n := n) (LcP I R D) (.start h0) (fun i H hx P => ?_) (fun H P => ?_)
  · obtain ⟨hI, acc, hD, hl, hR⟩ := P
    exact ⟨hw _, hs i hx H acc hI hD hl hR⟩
  · obtain ⟨hI, acc, hD, hl, hR⟩ := P
    exact k H acc hI hD hl hR
theorem lcAdd {I : Hp → Prop} {R : Nat → V → Hp → Prop} {i : Nat} {y : V} {acc : List V} (hD : H1 D = some (.lst acc)) (hl : acc.length = i) (hi : i ≤ 100000) (hI : I (upd H1 D (.lst (acc ++ [y])))) (hR : ∀ j z, acc[j]? = some z → R j z (upd H1 D (.lst (acc ++ [y])))) (hy : R i y (upd H1 D (.lst (acc ++ [y])))) :
    ∃ acc', H1 D = some (.lst acc') ∧ acc'.length < sizeLine ∧ LcP I R D (i + 1) (upd H1 D (.lst (acc' ++ [y]))) := ⟨acc, hD, sz6' (by omega), .next hD hl hI hR hy⟩
end

theorem at_ex {α : Type} {xs : List α} {i : Int} (h0 : 0 ≤ i) (h1 : i < xs.length) : ∃ v, atI xs i = some v ∧ v ∈ xs := by
  have h : i.toNat < xs.length := by omega
  refine ⟨xs[i.toNat], ?_, List.getElem_mem h⟩
  have e : ((i.toNat : Nat) : Int) = i := by omega
  have q := atI_nat (xs := xs) (j := i.toNat) (List.getElem?_eq_getElem h)
  rw [e] at q
  exact q
theorem join_cps : ∀ ys : List Str, (Str.join ⟨#[]⟩ ys).cps.toList = (ys.map fun y => y.cps.toList).flatten
  | [] => rfl
  | [x] => by
    show x.cps.toList = _
    simp
  | x :: y :: r => by
    show ((x.cps ++ #[]) ++ (Str.join ⟨#[]⟩ (y :: r)).cps).toList = _
    rw [Array.toList_append, join_cps (y :: r)]
    simp
/-- texts of one sign, joined -/
theorem join_ones {ys : List V} {P : Nat → Prop} (h : ∀ (j : Nat) y, ys[j]? = some y → ∃ c, P c ∧ y = .str ⟨#[c]⟩) : ∃ cs : List Nat, cs.length = ys.length ∧ (∀ c ∈ cs, P c) ∧ ys = (cs.map fun c => (⟨#[c]⟩ : Str)).map V.str := by
  induction ys with
  | nil => exact ⟨[], rfl, List.forall_mem_nil _, rfl⟩
  | cons y r ih =>
    obtain ⟨c, hc, rfl⟩ := h 0 y rfl
    obtain ⟨cs, h1, h2, h3⟩ := ih fun j z e => h (j + 1) z e
    refine ⟨c :: cs, congrArg Nat.succ h1, fun d hd => ?_, ?_⟩
    · rcases List.mem_cons.mp hd with e | hd
      · rw [e]; exact hc
      · exact h2 d hd
    · rw [h3]
      rfl
theorem ones_cps (cs : List Nat) : (Str.join ⟨#[]⟩ (cs.map fun c => (⟨#[c]⟩ : Str))).cps.toList = cs := by
  rw [join_cps]
  induction cs with
  | nil => rfl
  | cons c r ih =>
    simp only [List.map_cons, List.flatten_cons] at ih ⊢
    rw [ih]
    rfl
theorem ones_sum (cs : List Nat) : ((cs.map fun c => (⟨#[c]⟩ : Str)).map (·.length)).sum = cs.length := by
  induction cs with
  | nil => rfl
  | cons c r ih =>
    simp only [List.map_cons, List.sum_cons] at ih ⊢
    rw [ih]
    show 1 + r.length = r.length + 1
    omega
theorem app_len (x y : Str) : (x ++ y).length = x.length + y.length := by
  show (x.cps ++ y.cps).size = x.cps.size + y.cps.size
  exact Array.size_append
theorem rep_len {u z : Str} {n : Nat} (h : u.cps.toList = (List.replicate n z.cps.toList).flatten) : u.length = n * z.length := by
  show u.cps.size = n * z.cps.size
  rw [← Array.length_toList, h, List.length_flatten, List.map_replicate, List.sum_replicate_nat, Array.length_toList]
theorem all_true {ys : List V} (h : ∀ (j : Nat) y, ys[j]? = some y → y = .bl true) : ∃ bs : List Bool, ys = bs.map V.bl ∧ bs.all id = true := by
  refine ⟨ys.map fun _ => true, ?_, by simp⟩
  rw [List.map_map]
  refine List.ext_getElem? fun j => ?_
  rw [List.getElem?_map]
  cases e : ys[j]? with
  | none => rfl
  | some y => rw [h j y e]; rfl
end Ver
/-! Rules for laws about deeds and books: a tuple beside the empty one, displays of dicts, zips. -/
namespace Ver
open PySem PySem.Spec PyProof.Rows L2
/-- t == (), t any tuple -/
def rEqE (K : PySem.W.Frag) : R2 := fun x y H Q => ∃ a b xs, x = .ref a ∧ y = .ref b ∧ SqT K H a xs ∧ SqT K H b [] ∧ Q (.bl (decide (xs = []))) H
theorem op_eqEV {X : Cx} {K : PySem.W.Frag} (hK : X.K = K) (hu : X.A.units + 64 < cLine) : OpR X (compareOp .Eq) (rEqE K) := by
  subst hK
  intro pins s σ H x y v u Q I rx ry h
  obtain ⟨a, b, xs, rfl, rfl, ha, hb, q⟩ := h
  cases rx
  cases ry
  obtain ⟨its, r1, p1, _⟩ := I.tuple ha
  obtain ⟨its2, r2, p2, _⟩ := I.tuple hb
  cases r2
  refine SeqAt.eq_tupleAt (e := fun _ => true) p1 p2 (by omega) (fun j _ h2 => absurd h2 (by simp)) ⟨.bl (decide (xs = [])), H, I, ?_, q⟩
  have hl := r1.length
  show Value.bool _ = Value.bool _
  congr 1
  cases xs with
  | nil =>
    cases r1
    rfl
  | cons z zs =>
    cases r1 with
    | cons _ _ => simp
theorem call_list_ofV {X : Cx} {K : PySem.W.Frag} (h : X.K = K) : CallR X (.type "list") (fun xs H Q => ∃ p ys, xs = [.ref p] ∧ (SqL K H p ys ∨ SqT K H p ys) ∧ ∀ l, H l = none → Q (.ref l) (upd H l (.lst ys))) := h ▸ call_list_of
theorem call_tuple_ofV {X : Cx} {K : PySem.W.Frag} (h : X.K = K) : CallR X (.type "tuple") (fun xs H Q => ∃ p ys, xs = [.ref p] ∧ ((SqL K H p ys ∧ ∀ l, H l = none → Q (.ref l) (upd H l (.tup ys))) ∨ (SqT K H p ys ∧ Q (.ref p) H))) := h ▸ call_tuple_of
section
variable {K : PySem.W.Frag} {σ : L2.St} {H : Hp} {Q : VK} {td ty te : TE} {trs : List (TE × TE)}
theorem wDGet (k : td σ H fun x H1 => ty σ H1 fun y H2 => ∃ a v, x = .ref a ∧ DGet H2 a y (some v) ∧ Q v H2) : tDGet td ty σ H Q := k
theorem wDIn (k : ty σ H fun y H1 => td σ H1 fun x H2 => ∃ a o, x = .ref a ∧ DGet H2 a y o ∧ Q (.bl o.isSome) H2) : tDIn ty td σ H Q := k
theorem wDNotIn (k : ty σ H fun y H1 => td σ H1 fun x H2 => ∃ a o, x = .ref a ∧ DGet H2 a y o ∧ Q (.bl (!o.isSome)) H2) : tDNotIn ty td σ H Q := k
theorem wPairs {P : List (V × V) → Hp → Prop} {tk tv : TE} (k : tk σ H fun x H1 => tv σ H1 fun y H2 => tPairs trs σ H2 fun ps H3 => P ((x, y) :: ps) H3) : tPairs ((tk, tv) :: trs) σ H P := k
theorem wPairs0 {P : List (V × V) → Hp → Prop} (k : P [] H) : tPairs [] σ H P := k
theorem wPar3 {i j l : Nat} {ta : TA} {D : Ends} (k : ta σ H fun vs H1 => ∃ u v w, vs = [u, v, w] ∧ D.nx (((σ.set i (some u)).set j (some v)).set l (some w)) H1) : tPar3 i j l ta D σ H := k
theorem exThree {u v w : V} {P : V → V → V → Prop} (h : P u v w) : ∃ a b c, [u, v, w] = [a, b, c] ∧ P a b c := ⟨u, v, w, rfl, h⟩
theorem wEqE {a b : Addr} {xs : List V} (h : SqT K H a xs) (h0 : SqT K H b []) (k : Q (.bl (decide (xs = []))) H) : rEqE K (.ref a) (.ref b) H Q := ⟨a, b, xs, rfl, rfl, h, h0, k⟩
end
theorem tuple_mul1 (l : Addr) (items : Array Value) (n : Nat) (dd : Option Addr) (sl : Array (Option Value)) (u : Tok) :
    Meets (Builtin.«tuple.__mul__» ⟨[.ref l, .int 1 u], []⟩) (fun _ R s => s.heap.get? l = some { cls := .type "tuple", dict := dd, data := .seq items n, slots := sl } ∧ R (.ok (.ret (Value.ref l))) s) :=
  .of_wp fun prog w A R s h => by
    obtain ⟨hp, g, d, tk, os⟩ := s
    obtain ⟨hl, h⟩ := h
    have f1 := AutoSeq1.idx_int
    wp_walk using wpAny_loadPart' hl
    exact ⟨_, rfl, h⟩
theorem tuple_mul0 (l : Addr) (items : Array Value) (n : Nat) (dd : Option Addr) (sl : Array (Option Value)) (x : Int) (u : Tok) (c0 : (decide (x < -(2 ^ 63)) || decide (x ≥ 2 ^ 63)) = false) (c1 : (items.isEmpty || x == 1) = false) (c2 : (decide (x ≤ 0) || items.isEmpty) = true) :
    Meets (Builtin.«tuple.__mul__» ⟨[.ref l, .int x u], []⟩) (fun _ R s => s.heap.get? l = some { cls := .type "tuple", dict := dd, data := .seq items n, slots := sl } ∧
      R (.ok (.ret (Value.ref s.heap.objs.size))) { s with heap := s.heap.push { cls := Value.type "tuple", data := Data.seq #[] }, toks := s.toks }) :=
  .of_wp fun prog w A R s h => by
    obtain ⟨hp, g, d, tk, os⟩ := s
    obtain ⟨hl, h⟩ := h
    have f1 := AutoSeq1.idx_int
    wp_walk using wpAny_loadPart' hl
    repeat (first
      | (refine wpAny_ite_false (decide_eq_false (by rw [c0]; exact Bool.false_ne_true)) ?_; wp_walk using wpAny_loadPart' hl)
      | (refine wpAny_ite_false (decide_eq_false (by rw [c1]; exact Bool.false_ne_true)) ?_; wp_walk using wpAny_loadPart' hl)
      | (refine wpAny_ite_true (decide_eq_true c2) ?_; wp_walk using wpAny_loadPart' hl))
    exact ⟨_, rfl, h⟩
/-- a tuple once, or not at all -/
def rRepT01 (K : PySem.W.Frag) : R2 := fun x y H Q => ∃ l k xs, x = .ref l ∧ y = .int k ∧ SqT K H l xs ∧ xs ≠ [] ∧ (k = 1 → Q (.ref l) H) ∧ (k = 0 → ∀ p, H p = none → Q (.ref p) (upd H p (.tup []))) ∧ (k = 0 ∨ k = 1)
theorem op_repT01V {X : Cx} {K : PySem.W.Frag} (hK : X.K = K) : OpR X (binaryOp .Mult) (rRepT01 K) := by
  subst hK
  intro pins s σ H x y v u Q I rx ry h
  obtain ⟨l, k, xs, rfl, rfl, hT, hne, q1, q0, hk⟩ := h
  cases rx
  obtain ⟨t, rfl⟩ := ry
  obtain ⟨its, r, ⟨⟨cls, dd, data, sl⟩, ho, hc, n, hd⟩, hs⟩ := I.tuple hT
  simp only at hc hd
  subst hc hd
  have hn : its.toArray.isEmpty = false := by
    cases r with
    | nil => exact absurd rfl hne
    | cons _ _ => rfl
  rcases hk with rfl | rfl
  · refine wpAny_binaryOp_repeat_ref (T := "tuple") (U := "int") (by decide) ⟨_, ho, rfl⟩ (fun s' => typeIs_int s' 0 t) noFill_tuple_mul F.fills_int_mul F.slot_int_rmul repeat_tuple F.slot_int_index.lookup
      (call_meets F.slot_int_rmul (typeIs_int s 0 t) F.entry_int_rmul (F.args_int_rmul_2 _ _) (int_rmul_tuple 0 t l its.toArray n dd sl)
        ⟨ho, rfl, ⟨_, ho, rfl⟩, call_meets F.slot_tuple_mul ⟨_, ho, rfl⟩ F.entry_tuple_mul (F.args_tuple_mul_2 _ _) (tuple_mul0 l its.toArray n dd sl 0 t (by decide) (by rw [hn]; rfl) (by rfl)) ⟨ho, ?_⟩⟩)
    exact ⟨.ref s.heap.objs.size, _, I.laid (t' := s.toks) (o := .tup []) (fun b ob q => Heap.get?_push_of_some _ q) (Nat.le_refl _) ⟨by show 0 ≤ sizeLine; decide, [], .nil, IsTup.new _ _⟩, rfl, q0 rfl _ (I.hok.fresh (Nat.le_refl _))⟩
  · refine wpAny_binaryOp_repeat_ref (T := "tuple") (U := "int") (by decide) ⟨_, ho, rfl⟩ (fun s' => typeIs_int s' 1 t) noFill_tuple_mul F.fills_int_mul F.slot_int_rmul repeat_tuple F.slot_int_index.lookup
      (call_meets F.slot_int_rmul (typeIs_int s 1 t) F.entry_int_rmul (F.args_int_rmul_2 _ _) (int_rmul_tuple 1 t l its.toArray n dd sl)
        ⟨ho, rfl, ⟨_, ho, rfl⟩, call_meets F.slot_tuple_mul ⟨_, ho, rfl⟩ F.entry_tuple_mul (F.args_tuple_mul_2 _ _) (tuple_mul1 l its.toArray n dd sl t) ⟨ho, ?_⟩⟩)
    exact ⟨.ref l, H, I, rfl, q1 rfl⟩
end Ver
/-! t[::-1] of a tuple. -/
namespace Ver
open PySem PySem.Spec PyProof.Rows L2
section
variable {prog : Program} {w : World} {A : Around} {E : Value → Shared → Prop} {s : Shared}
theorem back_places (n : Nat) : Builtin.Slice.slicePlaces ((n : Int) - 1) (-1) (-1) = n := by
  unfold Builtin.Slice.slicePlaces
  have no : ¬ ((-1 : Int) > 0) := by decide
  by_cases z : n = 0
  · subst z; decide
  · simp only [no, if_false]
    rw [if_pos (by omega), show (- -1 : Int) = 1 by decide, Int.ediv_one]
    omega
theorem back_adjust (n : Nat) : Builtin.Slice.sliceAdjust none none (-1) (n : Int) = ((n : Int) - 1, -1) := by
  unfold Builtin.Slice.sliceAdjust
  first
    | rfl
    | simp
theorem applied_back {sl : Addr} {vl vu vs : Value} {n : Nat} {Q : Int × Int × Nat → Shared → Prop} (sl_at : s.heap.IsSliceOf sl vl vu vs) (pl : IsPart vl none) (pu : IsPart vu none) (ps : IsPart vs (some (-1)))
    (k : Q ((n : Int) - 1, -1, n) s) : wpAny (model prog w) A (Builtin.Slice.sliceApplied (.ref sl) (pure (n : Int))) Q E s := by
  obtain ⟨o, h1, _, h3⟩ := sl_at
  unfold Builtin.Slice.sliceApplied Builtin.Slice.sliceFields
  refine wpAny_bind (wpAny_bind (wpAny_field h1 h3 (x := vl) rfl ?_))
  refine wpAny_bind (wpAny_field h1 h3 (x := vu) rfl ?_)
  refine wpAny_bind (wpAny_field h1 h3 (x := vs) rfl (wpAny_pure ?_))
  refine wpAny_bind (HT.slicePart_ ps ?_)
  show wpAny _ _ (if ((-1 : Int) == 0) = true then _ else _) _ _ s
  rw [if_neg (by decide)]
  refine wpAny_bind (HT.slicePart_ pl ?_)
  refine wpAny_bind (HT.slicePart_ pu (wpAny_bind (wpAny_pure ?_)))
  show wpAny _ _ (match Builtin.Slice.sliceAdjust none none (-1) (n : Int) with | (lo, hi) => pure (lo, (-1 : Int), Builtin.Slice.slicePlaces lo hi (-1))) _ _ s
  rw [back_adjust]
  show wpAny _ _ (pure ((n : Int) - 1, (-1 : Int), Builtin.Slice.slicePlaces ((n : Int) - 1) (-1) (-1))) _ _ s
  rw [back_places]
  exact wpAny_pure k
theorem pick_same {α β : Type} {f g : α → Option β} : ∀ {l : List α}, (∀ a ∈ l, f a = g a) → l.filterMap f = l.filterMap g
  | [], _ => rfl
  | a :: r, h => by
    rw [List.filterMap_cons, List.filterMap_cons, h a List.mem_cons_self, pick_same fun b hb => h b (List.mem_cons_of_mem _ hb)]
theorem back_pick (xs : Array Value) : ((List.range xs.size).filterMap fun (m : Nat) => xs[((xs.size : Int) - 1 + (m : Int) * -1).toNat]?) = xs.toList.reverse := by
  have h := PySem.W.krv_all xs
  rw [← h, ← List.filterMap_reverse, ← PySem.W.krv_range, List.filterMap_map]
  refine pick_same fun m hm => ?_
  have := List.mem_range.mp hm
  have e : ((xs.size : Int) - 1 + (m : Int) * -1).toNat = xs.size - 1 - m := by omega
  show xs[_]? = xs[_]?
  rw [e]
theorem getItem_back {t sl : Addr} {items : Array Value} {vl vu vs : Value} {Q : Value → Shared → Prop} (tup : IsTup s.heap t items) (sl_at : s.heap.IsSliceOf sl vl vu vs) (pl : IsPart vl none) (pu : IsPart vu none) (ps : IsPart vs (some (-1)))
    (k : Q (.ref s.heap.objs.size) { s with heap := s.heap.push { cls := .type "tuple", data := .seq items.toList.reverse.toArray } }) (size : items.size ≤ sizeLine) : wpAny (model prog w) A (getItem (.ref t) (.ref sl)) Q E s := by
  have fits : sizeOk (.seq items.toList.reverse.toArray) := by
    show items.toList.reverse.toArray.size ≤ sizeLine
    simpa using size
  have ty : s.TypeIs (.ref sl) "slice" := sl_at.elim fun o h => ⟨o, h.1, h.2.1⟩
  unfold getItem
  try with_reducible refine wpAny_holding ?_
  try refine wpAny_bind (wpAny_pure ?_)
  refine wpAny_bind (wpAny_sequenceKey tup.typeIs (by decide) ?_)
  have slot := PyProof.Rows.slot_tuple_getitem
  refine wpAny_bind (wpAny_callSpecial?_slot (name := Str.ofString "__getitem__") tup.typeIs slot ?_)
  refine wpAny_call_entry slot tup.typeIs entry_tuple_getitem ?_ (args_tuple_getitem _ _)
  show wpAny _ _ (Builtin.Tuple.tupleItemsOf (.ref t) >>= _) _ _ s
  refine wpAny_bind (tupleItemsOf_ tup (wpAny_bind (wpAny_typeOf ty ?_)))
  rw [if_pos (by decide)]
  refine wpAny_bind (applied_back sl_at pl pu ps ?_)
  have no : ¬ ((((items.size : Int) - 1) == 0 && (-1 : Int) == 1 && items.size == items.size) = true) := by simp
  show wpAny _ _ (if (((items.size : Int) - 1) == 0 && (-1 : Int) == 1 && items.size == items.size) = true then _ else _) _ _ s
  rw [if_neg no, back_pick]
  first
    | exact wpAny_bind (m := Builtin.Tuple.tupleExact _) (wpAny_newObj_type (wpAny_pure ⟨_, rfl, wpAny_pure k⟩) fits)
    | exact wpAny_bind (wpAny_bind (m := Builtin.Tuple.tupleExact _) (wpAny_newObj_type (wpAny_pure ⟨_, rfl, wpAny_pure k⟩) fits))
end
def tRevT (K : PySem.W.Frag) (te : TE) : TE := fun σ H Q => te σ H fun x H1 => ∃ a xs, x = .ref a ∧ SqT K H1 a xs ∧ ∀ p, H1 p = none → Q (.ref p) (upd H1 p (.tup xs.reverse))
theorem pe_revT {X : Cx} {K : PySem.W.Frag} {e : Expr} {te : TE} {k : Nat} {p1 p2 p3 pos : Pos} (hK : X.K = K) (he : PE X e te) : PE X (.Subscript e (.Slice none none (some (.UnaryOp .USub (.Constant (.int 1) k p1) p2)) p3) pos) (tRevT K te) := by
  subst hK
  constructor
  intro pins s σ H Q I want
  refine Subscript_ (thn (he.run pins s σ H _ I want) ?_)
  rintro v s1 ⟨x, H1, I1, r1, a, xs, rfl, at_, q⟩
  cases r1
  have step : PO X (some (.UnaryOp .USub (.Constant (.int 1) k p1) p2)) (tPart (tUn (rU fun i => .int (-i)) (tC (.int 1)))) := po_some (pe_un un_neg pe_int)
  refine wpAny_Slice (thn (po_none.run pins s1 σ H1 (fun o G => o = none ∧ G = H1) I1 ⟨rfl, rfl⟩) ?_)
  rintro vl s2 ⟨_, _, I2, pl, rfl, rfl⟩
  refine thn (po_none.run pins s2 σ _ (fun o G => o = none ∧ G = _) I2 ⟨rfl, rfl⟩) ?_
  rintro vu s3 ⟨_, _, I3, pu, rfl, rfl⟩
  refine thn (step.run pins s3 σ _ (fun o G => o = some (-1) ∧ G = _) I3 ⟨1, rfl, -1, rfl, rfl, rfl⟩) ?_
  rintro vs s4 ⟨_, G, I4, ps, rfl, rfl⟩
  have I5 := I4.kept (t' := s4.toks) (h' := s4.heap.push { cls := .type "slice", data := .fields #[vl, vu, vs] }) fun b o z => Heap.get?_push_of_some _ z
  obtain ⟨its, r, tup, size⟩ := I5.tuple at_
  have len := r.length
  refine tail_any (ops := [.ref a, .ref s4.heap.objs.size]) tup.typeIs (PyProof.Rows.slot_tuple_getitem.lookup) ?_ (by with_unfolding_all rfl)
  refine getItem_back tup (Heap.IsSliceOf.new _ vl vu vs) pl pu ps ?_ (by rw [List.size_toArray]; omega)
  refine ⟨.ref _, _, I5.laid (t' := s4.toks) (o := .tup xs.reverse) (fun b o z => Heap.get?_push_of_some _ z) (Nat.le_refl _) ?_, rfl, q _ (I5.hok.fresh (Nat.le_refl _))⟩
  exact ⟨by rw [List.length_reverse]; exact size, its.reverse, r.reverse, IsTup.new _ _⟩
end Ver
/-! What repr shows of nested things, and the defs that are run where no repr is under way. -/
namespace Ver
open PySem PySem.Spec PyProof.Rows L2

/-! ### what repr shows -/
mutual
/-- v is shown as d: l tells whether lists may stand in it (else dicts may), k bounds its depth, n the length of its text -/
inductive Rp (H : Hp) (l : Bool) : Nat → V → PyData → Nat → Prop
  | non {k} : Rp H l k .non .none 4
  | bl {k} (b : Bool) : Rp H l k (.bl b) (.bool b) 5
  | int {k} (i : Int) (h : i.natAbs < 10 ^ 300) : Rp H l k (.int i) (.int i) 301
  | str {k} (z : Str) (h : ∀ c ∈ z.cps.toList, c < 16 ^ 8) : Rp H l k (.str z) (.str z) (10 * z.length + 2)
  | tup {k a xs ds n} : H a = some (.tup xs) → RpA H l k xs ds n → Rp H l (k + 1) (.ref a) (.tuple ds) (n + 4)
  | lst {k a xs ds n} : l = true → H a = some (.lst xs) → RpA H l k xs ds n → Rp H l (k + 1) (.ref a) (.list ds) (n + 4)
  | dct {k a kvs ds n} : l = false → H a = some (.dK kvs) → RpD H l k kvs ds n → Rp H l (k + 1) (.ref a) (.dict ds) (n + 4)
inductive RpA (H : Hp) (l : Bool) : Nat → List V → List PyData → Nat → Prop
  | nil {k} : RpA H l k [] [] 0
  | cons {k x d n xs ds m} : Rp H l k x d n → RpA H l k xs ds m → RpA H l k (x :: xs) (d :: ds) (n + 2 + m)
inductive RpD (H : Hp) (l : Bool) : Nat → List (Key × V) → List (PyData × PyData) → Nat → Prop
  | nil {k} : RpD H l k [] [] 0
  | cons {k y e o x d n xs ds m} : Rp H l k (kV y) e o → Rp H l k x d n → RpD H l k xs ds m → RpD H l k ((y, x) :: xs) ((e, d) :: ds) (o + 2 + n + 2 + m)
end

theorem tupleText_le (ts : List Str) : (tupleText ts).length ≤ piled ts + 4 := by
  unfold tupleText
  rw [strLen_append, strLen_append]
  have e1 : ((("(" : String) : Str)).length = 1 := rfl
  have e2 : (((if ts.length == 1 then ",)" else ")" : String) : Str)).length ≤ 2 := by split <;> decide
  cases ts with
  | nil =>
    have e3 : (Str.join ", " []).length = 0 := rfl
    omega
  | cons t r =>
    have e3 := join_length_add (t :: r) (by simp)
    omega
theorem dictText_le (ts : List Str) : (dictText ts).length ≤ piled ts + 4 := by
  unfold dictText
  rw [strLen_append, strLen_append]
  have e1 : ((("{" : String) : Str)).length = 1 := rfl
  have e2 : ((("}" : String) : Str)).length = 1 := rfl
  cases ts with
  | nil =>
    have e3 : (Str.join ", " []).length = 0 := rfl
    omega
  | cons t r =>
    have e3 := join_length_add (t :: r) (by simp)
    omega
theorem listText_le : ∀ ts : List Str, (listText ts).length ≤ piled ts + 4
  | [] => by rw [listText_nil]; decide
  | t :: r => by
    have h := textFrom_length_pos r 1 (("[" : Str) ++ ("" : String) ++ t) (Nat.succ_pos 0)
    have e : (("[" : Str) ++ ("" : String) ++ t).length = 1 + t.length := by
      rw [strLen_append, strLen_append]
      rfl
    have q : (listText (t :: r)).length = (textFrom 1 (("[" : Str) ++ ("" : String) ++ t) r).length + 1 := by
      unfold listText
      rw [strLen_append]
      rfl
    rw [q, h, e, piled_cons]
    omega
mutual
theorem Rp.ex {H G : Hp} {l : Bool} (e : Ex H G) : ∀ {k : Nat} {v : V} {d : PyData} {n : Nat}, Rp H l k v d n → Rp G l k v d n
  | _, _, _, _, .non => .non
  | _, _, _, _, .bl b => .bl b
  | _, _, _, _, .int i h => .int i h
  | _, _, _, _, .str z h => .str z h
  | _, _, _, _, .tup h q => .tup (e _ _ h) (RpA.ex e q)
  | _, _, _, _, .lst f h q => .lst f (e _ _ h) (RpA.ex e q)
  | _, _, _, _, .dct f h q => .dct f (e _ _ h) (RpD.ex e q)
theorem RpA.ex {H G : Hp} {l : Bool} (e : Ex H G) : ∀ {k : Nat} {xs : List V} {ds : List PyData} {n : Nat}, RpA H l k xs ds n → RpA G l k xs ds n
  | _, _, _, _, .nil => .nil
  | _, _, _, _, .cons q t => .cons (Rp.ex e q) (RpA.ex e t)
theorem RpD.ex {H G : Hp} {l : Bool} (e : Ex H G) : ∀ {k : Nat} {xs : List (Key × V)} {ds : List (PyData × PyData)} {n : Nat}, RpD H l k xs ds n → RpD G l k xs ds n
  | _, _, _, _, .nil => .nil
  | _, _, _, _, .cons p q t => .cons (Rp.ex e p) (Rp.ex e q) (RpD.ex e t)
end
/-- v is shown by a text of at most n signs, at most k deep -/
def Sh (H : Hp) (l : Bool) (k n : Nat) (v : V) : Prop := ∃ d m, Rp H l k v d m ∧ m ≤ n
section
variable {H : Hp} {l : Bool} {k n : Nat}
theorem Sh.ex {G : Hp} {v : V} (h : Sh H l k n v) (e : Ex H G) : Sh G l k n v := h.elim fun d h => h.elim fun m h => ⟨d, m, h.1.ex e, h.2⟩
theorem Sh.le {m : Nat} {v : V} (h : Sh H l k n v) (q : n ≤ m) : Sh H l k m v := h.elim fun d h => h.elim fun a h => ⟨d, a, h.1, Nat.le_trans h.2 q⟩
theorem sh_all : ∀ {xs : List V}, (∀ x ∈ xs, Sh H l k n x) → ∃ ds m, RpA H l k xs ds m ∧ m ≤ xs.length * (n + 2)
  | [], _ => ⟨_, _, .nil, by simp⟩
  | x :: xs, h => by
    obtain ⟨d, m, q, hm⟩ := h x List.mem_cons_self
    obtain ⟨ds, ms, t, ht⟩ := sh_all (xs := xs) fun y hy => h y (List.mem_cons_of_mem _ hy)
    refine ⟨_, _, .cons q t, ?_⟩
    rw [List.length_cons, Nat.succ_mul]
    omega
theorem Sh.non : Sh H l k 4 .non := ⟨_, _, .non, Nat.le_refl _⟩
theorem Sh.bl {b : Bool} : Sh H l k 5 (.bl b) := ⟨_, _, .bl b, Nat.le_refl _⟩
theorem Sh.int {i : Int} (h : i.natAbs < 10 ^ 300) : Sh H l k 301 (.int i) := ⟨_, _, .int i h, Nat.le_refl _⟩
theorem Sh.str {z : Str} (h : ∀ c ∈ z.cps.toList, c < 16 ^ 8) : Sh H l k (10 * z.length + 2) (.str z) := ⟨_, _, .str z h, Nat.le_refl _⟩
theorem Sh.tup {a : Addr} {xs : List V} (h : H a = some (.tup xs)) (q : ∀ x ∈ xs, Sh H l k n x) : Sh H l (k + 1) (xs.length * (n + 2) + 4) (.ref a) := by
  obtain ⟨ds, m, r, hm⟩ := sh_all q
  exact ⟨_, _, .tup h r, by omega⟩
theorem Sh.lst {a : Addr} {xs : List V} (h : H a = some (.lst xs)) (q : ∀ x ∈ xs, Sh H true k n x) : Sh H true (k + 1) (xs.length * (n + 2) + 4) (.ref a) := by
  obtain ⟨ds, m, r, hm⟩ := sh_all q
  exact ⟨_, _, .lst rfl h r, by omega⟩
theorem Sh.dct0 {a : Addr} (h : H a = some (.dK [])) : Sh H false (k + 1) 4 (.ref a) := ⟨_, _, .dct rfl h .nil, by omega⟩
theorem Sh.dct1 {a : Addr} {z : Str} {i : Int} (h : H a = some (.dK [(.inr z, .int i)])) (hz : ∀ c ∈ z.cps.toList, c < 16 ^ 8) (hi : i.natAbs < 10 ^ 300) : Sh H false (k + 1) (10 * z.length + 400) (.ref a) :=
  ⟨_, _, .dct rfl h (.cons (.str z hz) (.int i hi) .nil), by omega⟩
/-- a text is written with signs that there are -/
theorem signs_ok {z : Str} (h : (z.cps.toList.all fun c => decide (c < 16 ^ 8)) = true) : ∀ c ∈ z.cps.toList, c < 16 ^ 8 := fun c hc => of_decide_eq_true (List.all_eq_true.mp h c hc)
end
theorem log_small {i : Int} (h : i.natAbs < 10 ^ 300) : i.natAbs.log2 < 1920 := by
  by_cases q : i.natAbs = 0
  · rw [q]; decide
  · refine (Nat.log2_lt q).mpr (Nat.lt_trans h ?_)
    decide +kernel
theorem key_shape {y : Key} {u : Value} (h : keyIs y u = true) : RelV (kV y) u := by
  rcases keyIs_shape h with ⟨i, t, rfl, rfl⟩ | ⟨z, t, rfl, rfl⟩
  · exact ⟨t, rfl⟩
  · exact ⟨t, rfl⟩

section
variable {P : Program} {w : World} {H : Hp} {h : Heap} {l : Bool}
mutual
theorem Rp.reads (ok : HOk P w H h) : ∀ {k : Nat} {v : V} {d : PyData} {n : Nat} {u : Value}, Rp H l k v d n → RelV v u → ∃ as, Reads h u d as ∧ (l = false → sysModules ∉ as)
  | _, _, _, _, u, .non, r => by
    cases (show u = Value.none from r)
    exact ⟨_, .none, fun _ => by simp⟩
  | _, _, _, _, u, .bl b, r => by
    cases (show u = Value.bool b from r)
    exact ⟨_, .bool b, fun _ => by simp⟩
  | _, _, _, _, u, .int i _, r => by
    obtain ⟨t, rfl⟩ := (show ∃ t, u = Value.int i t from r)
    exact ⟨_, .int i t, fun _ => by simp⟩
  | _, _, _, _, u, .str z _, r => by
    obtain ⟨t, rfl⟩ := (show ∃ t, u = Value.str z t from r)
    exact ⟨_, .str z t, fun _ => by simp⟩
  | _, _, _, _, u, .tup (a := a) e q, r => by
    cases (show u = Value.ref a from r)
    obtain ⟨_, its, rv, o, h1, h2, m, h3⟩ := (show ObjOk P w H h a (.tup _) from ok a _ e)
    obtain ⟨as, q1, q2⟩ := RpA.reads ok q rv
    exact ⟨as, .tuple h1 h2 h3 (by simpa using q1), q2⟩
  | _, _, _, _, u, .lst (a := a) hl e q, r => by
    cases (show u = Value.ref a from r)
    obtain ⟨_, its, m, rv, h1⟩ := (show ObjOk P w H h a (.lst _) from ok a _ e)
    obtain ⟨as, q1, q2⟩ := RpA.reads ok q rv
    exact ⟨_, .list h1 rfl rfl (by simpa using q1), fun z => by rw [hl] at z; cases z⟩
  | _, _, _, _, u, .dct (a := a) hl e q, r => by
    cases (show u = Value.ref a from r)
    obtain ⟨_, hn, vs, kv, o, es, ep, h1, h2, h3, _, h5, _⟩ := (show ObjOk P w H h a (.dK _) from ok a _ e)
    obtain ⟨as, bs, q1, q2, q3⟩ := RpD.reads ok q kv h5
    refine ⟨_, .dict h1 h2.1 h3 q1 q2, fun z => ?_⟩
    have q4 := q3 z
    intro hm
    rcases List.mem_append.mp hm with hm | hm
    · rcases List.mem_cons.mp hm with hm | hm
      · rw [← hm] at hn
        simp at hn
      · exact q4.1 hm
    · exact q4.2 hm
theorem RpA.reads (ok : HOk P w H h) : ∀ {k : Nat} {xs : List V} {ds : List PyData} {n : Nat} {us : List Value}, RpA H l k xs ds n → Vals xs us → ∃ as, ReadsAll h us ds as ∧ (l = false → sysModules ∉ as)
  | _, _, _, _, _, .nil, r => by
    cases r
    exact ⟨_, .nil, fun _ => by simp⟩
  | _, _, _, _, _, .cons q t, r => by
    cases r with
    | cons r1 r2 =>
      obtain ⟨as, q1, q2⟩ := Rp.reads ok q r1
      obtain ⟨bs, t1, t2⟩ := RpA.reads ok t r2
      exact ⟨_, .cons q1 t1, fun z => by
        rw [List.mem_append]
        exact fun y => y.elim (q2 z) (t2 z)⟩
theorem RpD.reads (ok : HOk P w H h) : ∀ {k : Nat} {kvs : List (Key × V)} {ds : List (PyData × PyData)} {n : Nat} {vs : List (Key × Value)} {es : List DictEntry}, RpD H l k kvs ds n → KV kvs vs → Pairs (mixKind P w) es vs →
    ∃ as bs, ReadsAll h (es.map (·.key)) (ds.map (·.1)) as ∧ ReadsAll h (es.map (·.val)) (ds.map (·.2)) bs ∧ (l = false → sysModules ∉ as ∧ sysModules ∉ bs)
  | _, _, _, _, _, _, .nil, r, p => by
    cases r
    cases p
    exact ⟨_, _, .nil, .nil, fun _ => by simp⟩
  | _, _, _, _, _, _, .cons q1 q2 t, r, p => by
    cases r with
    | cons r1 r2 =>
      cases p with
      | cons p1 p2 p3 =>
        rename_i _ kv0 _ _ _
        obtain ⟨k0, v0⟩ := kv0
        obtain ⟨e1, e2⟩ := r1
        dsimp only at e1 e2 p1 p2
        obtain ⟨as, s1, s2⟩ := Rp.reads ok q1 (key_shape (y := _) (by rw [e1]; exact p1))
        subst p2
        obtain ⟨bs, s3, s4⟩ := Rp.reads ok q2 e2
        obtain ⟨cs, gs, s5, s6, s7⟩ := RpD.reads ok t r2 p3
        refine ⟨_, _, .cons s1 s5, .cons s3 s6, fun z => ⟨?_, ?_⟩⟩
        · rw [List.mem_append]
          exact fun y => y.elim (s2 z) (s7 z).1
        · rw [List.mem_append]
          exact fun y => y.elim (s4 z) (s7 z).2
end
end
section
variable {H : Hp} {l : Bool}
mutual
theorem Rp.able : ∀ {k : Nat} {v : V} {d : PyData} {n : Nat}, Rp H l k v d n → d.showable = true ∧ (d.hasDict = true → l = false) ∧ d.depth ≤ k ∧ d.shown.length ≤ n
  | _, _, _, _, .non => ⟨by simp [PyData.showable], by simp [PyData.hasDict], by simp [PyData.depth], by simp only [PyData.shown]; decide⟩
  | _, _, _, _, .bl b => ⟨by simp [PyData.showable], by simp [PyData.hasDict], by simp [PyData.depth], by simp only [PyData.shown]; cases b <;> decide⟩
  | _, _, _, _, .int i hi => ⟨by simp only [PyData.showable]; exact decide_eq_true (log_small hi), by simp [PyData.hasDict], by simp [PyData.depth], by
      simp only [PyData.shown]
      show (Str.ofString (toString i)).length ≤ 301
      rw [PySem.ofString_length]
      exact int_text_length_le10 (by decide) hi⟩
  | _, _, _, _, .str z hz => ⟨by simp [PyData.showable], by simp [PyData.hasDict], by simp [PyData.depth], by
      simp only [PyData.shown]
      exact StrLaws.reprText_len z hz⟩
  | _, _, _, _, .tup e q => by
    obtain ⟨h1, h2, h3, h4⟩ := q.able
    refine ⟨by simpa only [PyData.showable] using h1, by simpa only [PyData.hasDict] using h2, by simp only [PyData.depth]; omega, ?_⟩
    simp only [PyData.shown]
    refine Nat.le_trans (tupleText_le _) ?_
    omega
  | _, _, _, _, .lst hl e q => by
    obtain ⟨h1, h2, h3, h4⟩ := q.able
    refine ⟨by simpa only [PyData.showable] using h1, by simpa only [PyData.hasDict] using h2, by simp only [PyData.depth]; omega, ?_⟩
    simp only [PyData.shown]
    refine Nat.le_trans (listText_le _) ?_
    omega
  | _, _, _, _, .dct hl e q => by
    obtain ⟨h1, h3, h4⟩ := q.able
    refine ⟨by simpa only [PyData.showable] using h1, fun _ => hl, by simp only [PyData.depth]; omega, ?_⟩
    simp only [PyData.shown]
    refine Nat.le_trans (dictText_le _) ?_
    omega
theorem RpA.able : ∀ {k : Nat} {xs : List V} {ds : List PyData} {n : Nat}, RpA H l k xs ds n → PyData.showableAll ds = true ∧ (PyData.hasDictAll ds = true → l = false) ∧ PyData.depthAll ds ≤ k ∧ piled (PyData.shownAll ds) ≤ n
  | _, _, _, _, .nil => ⟨by simp [PyData.showableAll], by simp [PyData.hasDictAll], by simp [PyData.depthAll], by simp [PyData.shownAll, piled]⟩
  | _, _, _, _, .cons q t => by
    obtain ⟨h1, h2, h3, h4⟩ := q.able
    obtain ⟨g1, g2, g3, g4⟩ := t.able
    refine ⟨by simp only [PyData.showableAll, h1, g1, Bool.and_self], fun z => ?_, by simp only [PyData.depthAll]; omega, ?_⟩
    · simp only [PyData.hasDictAll, Bool.or_eq_true] at z
      exact z.elim h2 g2
    · simp only [PyData.shownAll]
      rw [piled_cons]
      omega
theorem RpD.able : ∀ {k : Nat} {kvs : List (Key × V)} {ds : List (PyData × PyData)} {n : Nat}, RpD H l k kvs ds n → PyData.showableKv ds = true ∧ PyData.depthKv ds ≤ k ∧ piled (PyData.shownKv ds) ≤ n
  | _, _, _, _, .nil => ⟨by simp [PyData.showableKv], by simp [PyData.depthKv], by simp [PyData.shownKv, piled]⟩
  | _, _, _, _, .cons q1 q2 t => by
    obtain ⟨h1, _, h3, h4⟩ := q1.able
    obtain ⟨f1, _, f3, f4⟩ := q2.able
    obtain ⟨g1, g3, g4⟩ := t.able
    refine ⟨by simp only [PyData.showableKv, h1, f1, g1, Bool.and_self], by simp only [PyData.depthKv]; omega, ?_⟩
    simp only [PyData.shownKv]
    rw [piled_cons, strLen_append, strLen_append]
    have e : ((": " : String) : Str).length = 2 := rfl
    omega
end
end

/-! ### defs that are run where no repr is under way -/
/-- room for k more levels, and no repr under way -/
structure Quiet (k : Nat) (A : Around) : Prop where
  room : Room k A
  still : A.guards = some []
theorem Quiet.mono {j k : Nat} {A : Around} (q : Quiet k A) (h : j ≤ k) : Quiet j A := ⟨q.room.mono h, q.still⟩
theorem Quiet.in {k : Nat} {A : Around} (q : Quiet (k + 1) A) (e : Env) : Quiet k (A.deeper e) := ⟨q.room.deeper e, q.still⟩

section
variable (P : Program) (w : World) (K : PySem.W.Frag) (mg : Str → Option Value) (base : Heap) (C : CXT)
/-- a def's promise, kept wherever it is quiet -/
structure FnQ (k : Nat) (f : Addr) (fd : FuncData) (ps : List Str) (sp : Sp) : Prop where
  arity : ∀ vs H Q E, sp vs H Q E → vs.length = ps.length
  goes : ∀ {A : Around} {outer : List Env} {s : Shared} {H : Hp} {args : Args} {us : List Value} {vs : List V} {Q : VK} {E : XK},
    Quiet k A → Env0 P w K mg base A outer s H → BindsTo s fd args (ps.zip us) → Vals vs us → sp vs H Q E →
      codeAny (model P w) A (.call (.ref f) args) (CR C outer P w H s Q E) s
end

section
variable {P : Program} {w : World} {K : PySem.W.Frag} {mg : Str → Option Value} {base : Heap} {C : CXT} {k : Nat} {f : Addr} {ps N : List Str} {sp : Sp}
/-- what a def's body has come to when it is left -/
theorem left_CE {X : Cx} {σ : L2.St} {H : Hp} {s' : Shared} {Q : VK} {v : V} {u : Value} (I : Inv X [] σ H s') (hx : X.ex = []) (r : RelV v u) (q : Q v H) : CE X.outer X.prog X.w X.H_0 X.s_0 Q u s' :=
  ⟨v, H, I.os, I.bare, by
    have z := I.base
    rw [hx] at z
    exact z, I.hok, r, q⟩
theorem quietFn {x qual : Str} {par : Arguments} {body : List Stmt} {sc : Scope} {dV kV doc pm cdv ct oc : Value} {an od : Option Addr} {osl : Array (Option Value)}
    (lk : K.lookup f = some ⟨oc, od, .func (PySem.W.fnOf x qual par body sc dV kV doc pm an cdv ct), osl⟩) (code : PySem.W.codeIn K cdv qual = true) (S : FnScope N ps sc)
    (arity : ∀ vs H Q E, sp vs H Q E → vs.length = ps.length)
    (reads : ∀ (A : Around) (outer : List Env) (s : Shared) (H : Hp) (vs : List V) (Q : VK) (E : XK), Quiet k (A.deeper (envOfC qual sc s.heap.objs.size f cdv)) → sp vs H Q E →
      ∃ t, PSs (cxOf C P w K mg base N qual sc f cdv A outer s H E) body t ∧ t { nx := fun _ H1 => Q .non H1, rt := Q } (start N vs) H) :
    FnQ P w K mg base C (k + 1) f (PySem.W.fnOf x qual par body sc dV kV doc pm an cdv ct) ps sp := by
  constructor
  · exact arity
  · intro A outer s H args us vs Q E quiet e0 bind rel want
    have count := arity _ _ _ _ want
    have same : ∀ b o, base.get? b = some o → s.heap.get? b = some o := fun b o e => (e0.bs b o e).1
    have inK := e0.mod.kin.keeps same
    have nolim := e0.mod.nolimit.keeps same
    have kinds : ∀ y ∈ ps.zip us, sc.names.lookup y.1 = some .local ∨ (sc.names.lookup y.1 = some .cell ∧ ((cellsFrom (s.heap.objs.size + 1) sc.names []).lookup y.1).isSome = true) := by
      rintro ⟨n, v⟩ hy
      refine (S.par n (List.of_mem_zip hy).1).imp id fun q => ⟨q, ?_⟩
      exact PySem.W.cellsFrom_some _ _ _ (.inl q)
    refine codeAny_call_function quiet.room.depth (inK _ _ lk) rfl S.co S.gen rfl (PySem.W.codeRec_of inK code) (bind _ _ _ _ ?_)
    refine wpAny_newFunctionEnv_cells S.kind kinds fun e he s1 x1 => ?_
    subst he
    refine ⟨nolim.keeps x1.toInCall.keep, codeAny_func ?_⟩
    obtain ⟨t, ht, hq⟩ := reads A outer s H vs Q E (quiet.in _) want
    have I0 := inv_start (CX := C) (E := E) S quiet.room.hd e0 count rel x1
    refine wpAny_mono (ht.run [] s1 _ H _ I0 hq) ?_ (fun e s2 h => h)
    intro fl s2 h
    match fl, h with
    | .ret u, h =>
      obtain ⟨v, σ1, H1, J, rv, q⟩ := h
      exact left_CE J rfl rv q
    | .next, h =>
      obtain ⟨σ1, H1, J, q⟩ := h
      exact left_CE (v := .non) (u := .none) J rfl rfl q
    | .brk, h =>
      obtain ⟨_, _, _, q⟩ := h
      exact q.elim
    | .cont, h =>
      obtain ⟨_, _, _, q⟩ := h
      exact q.elim
end

section
variable {X : Cx} {C : CXT} {k : Nat} {f : Addr} {fd : FuncData} {ps : List Str} {sp : Sp} {E : XK} {x : Str} {e : Expr} {es : List Expr} {p pos : Pos} {t : TA}
/-- f(e, ..), f such a def, all its arguments by place -/
theorem pe_callQ (F : FnQ X.prog X.w X.K X.mg X.base C k f fd ps sp) (quiet : Quiet k X.A) (hg : Gl X x) (hm : X.mg x = some (.ref f)) (hk : PySem.W.keepIn X.K (.ref f) = true) (hb : Binds X.K fd ps []) (hx : Passes C X E)
    (ha : PA X (e :: es) t) (hd : (x == ("__debug__" : Str)) = false := by decide) (he : starEach (e :: es) X.env = (false, eval e X.env) :: starEach es X.env := by rfl) (hp : (backTo pos (starEach es X.env)).any (·.1) = false := by rfl) :
    PE X (.Call (.Name x p) (e :: es) [] pos) (tCall sp [] E t) := by
  constructor
  intro pins s σ H Q I want
  refine wpAny_Call_Name_kw (ld_glob I hg hm ?_ hd)
  refine PySem.W.callWith_K (h₀ := X.base) I.ok.mod.kin hk (thn (ha.run pos pins s σ H _ I want) ?_) he hp
  rintro us s1 ⟨vs, H1, I1, rel, q⟩
  refine ⟨I1.kIn, ?_⟩
  rw [List.append_nil] at q
  have count := F.arity _ _ _ _ q
  have bind := hb s1 us I1.kIn (by rw [List.append_nil, ← rel.length]; exact count)
  rw [List.append_nil] at bind
  refine wpAny_call (codeAny_mono (F.goes quiet I1.env0 bind rel q) ?_)
  intro r s2 h
  match r, h with
  | .error z, h => exact hx pins σ H1 s1 z s2 I1 h
  | .ok (.ret u), h => exact I1.after h
  | .ok .next, h => exact h.elim
  | .ok .brk, h => exact h.elim
  | .ok .cont, h => exact h.elim
end

/-- the rule for a def of the text that is run where no repr is under way -/
theorem okQ {P : Program} {w : World} {K : PySem.W.Frag} {mg : Str → Option Value} {base : Heap} {x qual : Str} {st : Stmt} {f : Addr} {fd : FuncData} {N ps : List Str} {k : Nat} {sp : Sp} (F : Fun K x qual st f fd) (S : FnScope N ps (defScope st))
    (arity : ∀ vs H Q E, sp vs H Q E → vs.length = ps.length)
    (reads : ∀ (cdv : Value) (A : Around) (outer : List Env) (s : Shared) (H : Hp) (vs : List V) (Q : VK) (E : XK), Quiet k (A.deeper (envOfC qual (defScope st) s.heap.objs.size f cdv)) → sp vs H Q E →
      ∃ t, PSs (cxOf CX0 P w K mg base N qual (defScope st) f cdv A outer s H E).nox (defBody st) t ∧ t { nx := fun _ H1 => Q .non H1, rt := Q } (start N vs) H) : FnQ P w K mg base CX0 (k + 1) f fd ps sp := by
  obtain ⟨_, _, _, _, _, _, cdv, _, _, rfl, lk, code⟩ := F.ex
  refine quietFn lk code S arity fun A outer s H vs Q E quiet want => ?_
  obtain ⟨t, h, q⟩ := reads cdv A outer s H vs Q E quiet want
  exact ⟨t, h.nox, q⟩

/-! ### repr -/
/-- what is handed to repr is shown so -/
def rRepr : List V → Hp → VK → Prop := fun xs H Q => ∃ v l d n, xs = [v] ∧ Rp H l 64 v d n ∧ n ≤ 10000000 ∧ Q (.str d.shown) H
theorem call_repr {X : Cx} {k : Nat} (quiet : Quiet k X.A) : CallR X (.builtin "repr") rRepr := by
  have still := quiet.still
  have room : X.A.units + 65 < cLine := by have := quiet.room.un; omega
  intro pins s σ H xs us Q I rel want
  obtain ⟨v, l, d, n, rfl, rp, hn, q⟩ := want
  obtain ⟨u, rfl, r⟩ := vals1 rel
  obtain ⟨a1, a2, a3, a4⟩ := rp.able
  have size : d.shown.length ≤ sizeLine := by
    have : (10000000 : Nat) ≤ sizeLine := by decide
    omega
  obtain ⟨as, rd, hs⟩ := rp.reads I.hok r
  have done : ∀ tk tk', EP X pins σ Q (.str d.shown tk) { s with toks := tk' } := fun tk tk' => ⟨.str d.shown, H, I.tok _, ⟨_, rfl⟩, q⟩
  have deep : ∀ {a : Addr}, Reads s.heap (.ref a) d as → wpAny (model X.prog X.w) X.A (call (.builtin "repr") [.ref a]) (EP X pins σ Q) X.xe s := fun {a} rd => by
    refine repr_of_reads' (h₀ := s.heap) rd a1 (fun z => hs (a2 z)) still (by omega) (fun _ _ z => z) (fun h' u tk keep => ?_) size
    exact ⟨.str d.shown, H, I.kept keep, ⟨_, rfl⟩, q⟩
  cases rd with
  | none => exact PySem.P.repr_of_none (done _ _)
  | bool b => exact PySem.P.repr_of_bool (done _ _)
  | int i t => exact PySem.P.repr_of_int (by simpa [PyData.showable] using a1) (done _ _)
  | str z t => exact PySem.P.repr_of_str (done _ _) size
  | list h1 h2 h3 h4 => exact deep (.list h1 h2 h3 h4)
  | tuple h1 h2 h3 h4 => exact deep (.tuple h1 h2 h3 h4)
  | dict h1 h2 h3 h4 h5 => exact deep (.dict h1 h2 h3 h4 h5)

/-! ### the law's end -/
section
variable {P : Program} {w : World} {K : PySem.W.Frag} {mg mb : Str → Option Value} {C : CXT} {k : Nat} {fa a : Addr} {fd : FuncData} {x : Str} {sp : Sp} {s1 : Shared} {vs : List Value} {ns : List Int}
/-- what a law's call must come to -/
def EndOk (s1 : Shared) (r : Result) (s2 : Shared) : Prop := r = .ok (.ret (.bool true)) ∧ OldK s1.heap s2.heap ∧ s2.os = s1.os ∧ AllBare s2.gens
theorem quiet_from (H : Hp) (inK : K.In s1.heap) (gl : s1.heap.Ns mainGlobals mg) (bn : s1.heap.Ns builtinsNs mb) (bb : ∀ y : Str, y ≠ "__name__" → mb y = bootBuiltins y) (nl : s1.heap.NoLimit) (gens : s1.gens = #[])
    (obj : s1.heap.get? a = some { cls := .type "list", data := .seq vs.toArray }) (quiet : Quiet k callerA)
    (F : ∀ base : Heap, K.In base → base.Ns mainGlobals mg → FnQ P w K mg base C k fa fd [x] sp) (bind : ∀ (s : Shared) (u : Value), BindsTo s fd ⟨[u], []⟩ [(x, u)])
    (only : Only H) (begin_ : sp [.ref a] H (fun v _ => v = .bl true) fun _ _ _ => False) (never : ∀ H e s', C [] H s1 (fun _ _ _ => False) e s' → False)
    (hok : HOk P w H s1.heap) (just : ∀ b, H b ≠ none → b = a) (notK : H a ≠ none → K.lookup a = none) :
    codeAny (model P w) callerA (.call (.ref fa) ⟨[.ref a], []⟩) (EndOk s1) s1 := by
  have free : ∀ {b : Addr}, b ≠ a → H b = none := fun {b} n => by
    cases e : H b with
    | none => rfl
    | some o => exact absurd (just b (by rw [e]; exact Option.some_ne_none o)) n
  have names : ∀ {b : Addr} {m : Str → Option Value}, s1.heap.Ns b m → (hidT s1.heap H).Ns b m := by
    rintro b m ⟨o, es, ep, e, d, r⟩
    refine ⟨o, es, ep, hidT_get e (free ?_), d, r⟩
    rintro rfl
    rw [obj] at e
    cases e
    exact nomatch (show Data.seq vs.toArray _ = Data.dict es ep from d)
  have inB : K.In (hidT s1.heap H) := fun b o e => by
    refine hidT_get (inK b o e) ?_
    by_cases z : b = a
    · subst z
      cases q : H b with
      | none => rfl
      | some u =>
        have z := notK (by rw [q]; exact Option.some_ne_none u)
        rw [e] at z
        cases z
    · exact free z
  have mod : Mod K mg (hidT s1.heap H) := ⟨inB, names gl, ⟨mb, names bn, bb⟩, nl.elim fun mc z => ⟨mc, names z.1, z.2⟩⟩
  have none_ : ∀ b ∈ frs ([] : List Env), H b = none := fun b z => nomatch (show b ∈ ([] : List Addr) from z)
  have e0 : Env0 P w K mg (hidT s1.heap H) callerA [] s1 H := ⟨rfl, mod, fun _ _ e => of_hidT e, Nat.le_of_eq (hidT_size _ _), trivial, none_, hok, .of_eq gens⟩
  refine codeAny_mono ((F _ inB (names gl)).goes (us := [.ref a]) (vs := [.ref a]) quiet e0 (bind s1 (.ref a)) (.cons rfl .nil) begin_) ?_
  intro r s2 h
  match r, h with
  | .error e, h => exact (never H e s2 h).elim
  | .ok .next, h => exact h.elim
  | .ok .brk, h => exact h.elim
  | .ok .cont, h => exact h.elim
  | .ok (.ret u), h =>
    obtain ⟨v, H2, os, bare, un, hok2, rel, yes⟩ := h
    cases yes
    cases (show u = Value.bool true from rel)
    refine ⟨rfl, OldK.of_keep fun b o e => ?_, os, bare⟩
    rcases only b with z | ⟨ob, xs, z⟩
    · exact un.keep b o e z (fun y => nomatch (show b ∈ ([] : List Addr) from y)) (by simp)
    · have e1 := (hok b _ z).1
      rw [e] at e1
      cases e1
      exact (hok2 b _ (un.frzs b _ _ z)).1
theorem ints_vals : ∀ {vs : List Value} {ns : List Int}, IntsAre vs ns → Vals (ns.map V.int) vs
  | [], _, .nil => .nil
  | _ :: _, _, .cons _ t r => .cons ⟨t, rfl⟩ (ints_vals r)
theorem law_quiet (inK : K.In s1.heap) (gl : s1.heap.Ns mainGlobals mg) (bn : s1.heap.Ns builtinsNs mb) (bb : ∀ y : Str, y ≠ "__name__" → mb y = bootBuiltins y) (nl : s1.heap.NoLimit) (gens : s1.gens = #[])
    (obj : s1.heap.get? a = some { cls := .type "list", data := .seq vs.toArray }) (whole : IntsAre vs ns) (few : ns.length ≤ sizeLine) (quiet : Quiet k callerA)
    (F : ∀ base : Heap, K.In base → base.Ns mainGlobals mg → FnQ P w K mg base C k fa fd [x] sp) (bind : ∀ (s : Shared) (u : Value), BindsTo s fd ⟨[u], []⟩ [(x, u)])
    (begin_ : ∀ H : Hp, Only H → SqL K H a (ns.map V.int) → sp [.ref a] H (fun v _ => v = .bl true) fun _ _ _ => False) (never : ∀ H e s', C [] H s1 (fun _ _ _ => False) e s' → False) :
    codeAny (model P w) callerA (.call (.ref fa) ⟨[.ref a], []⟩) (EndOk s1) s1 := by
  have rel := ints_vals whole
  have len : (ns.map V.int).length ≤ sizeLine := by rw [List.length_map]; exact few
  cases look : K.lookup a with
  | some o =>
    have e := inK a o look
    rw [obj] at e
    cases e
    have nothing : Only fun _ => none := fun _ => .inl rfl
    have sq : SqL K (fun _ => none) a (ns.map V.int) := .inr ⟨_, vs.toArray, _, look, rfl, rfl, rfl, by rw [List.size_toArray, ← rel.length]; exact len, rel⟩
    exact quiet_from (fun _ => none) inK gl bn bb nl gens obj quiet F bind nothing (begin_ _ nothing sq) never (fun _ _ z => nomatch z) (fun _ z => (z rfl).elim) fun z => (z rfl).elim
  | none =>
    let ob : Obj := { cls := .type "list", data := .seq vs.toArray }
    let H : Hp := upd (fun _ => none) a (.frz ob (.lst (ns.map V.int)))
    have at_ : H a = some (.frz ob (.lst (ns.map V.int))) := upd_same
    have off : ∀ {b : Addr}, b ≠ a → H b = none := fun {b} n => upd_ne n
    have one : Only H := fun b => by
      by_cases z : b = a
      · rw [z]
        exact .inr ⟨_, _, at_⟩
      · exact .inl (off z)
    have hok : HOk P w H s1.heap := fun b u z => by
      by_cases y : b = a
      · subst y
        rw [at_] at z
        cases z
        exact ⟨obj, len, vs, 0, rel, obj⟩
      · rw [off y] at z
        cases z
    refine quiet_from H inK gl bn bb nl gens obj quiet F bind one (begin_ _ one (.inl (.inr ⟨_, at_⟩))) never hok (fun b z => ?_) fun _ => look
    by_cases y : b = a
    · exact y
    · exact (z (off y)).elim
end
/-- a law whose def is run where no repr is under way -/
theorem walk_quiet {l : PySem.W.OpenLaw} {n k : Nat} {q : Program} {loose : List Str} {XP : (Str → Option Value) → Heap → Prop} {YP : World → Heap → Prop} {d : DefRec} {K : Params → PySem.W.Frag} {C : World → CXT} {sp : World → Sp} {x : Str}
    (most : l.most = some n) (few : n ≤ sizeLine) (plain : d.params.defaults = []) (quiet : Quiet k callerA) (inK : ∀ (w : World) (h : Heap), YP w h → (K w.params).In h)
    (F : ∀ (w : World) (mg : Str → Option Value) (fa : Addr) (h : Heap), (K w.params).In h → h.Ns mainGlobals mg → mg d.name = some (.ref fa) →
      ∃ fd : FuncData, (∀ (s : Shared) (u : Value), BindsTo s fd ⟨[u], []⟩ [(x, u)]) ∧ ∀ base : Heap, (K w.params).In base → base.Ns mainGlobals mg → FnQ l.prog w (K w.params) mg base (C w) k fa fd [x] (sp w))
    (begin_ : ∀ (w : World) (H : Hp) (a : Addr) (ns : List Int), ns.length ≤ n → Only H → SqL (K w.params) H a (ns.map V.int) → sp w [.ref a] H (fun v _ => v = .bl true) fun _ _ _ => False)
    (never : ∀ (w : World) (H : Hp) (s : Shared) (e : Value) (s' : Shared), C w [] H s (fun _ _ _ => False) e s' → False) :
    PySem.W.WalkO q loose XP YP l.row.toRowW d [] (fun f vs => PySem.call f vs) := by
  refine Att.attach_call most plain ?_
  intro w s0 s1 mg mb fa o pm cd doc a vs ns G Y _ _ _ hmg obj whole len gens
  obtain ⟨fd, bind, fn⟩ := F w mg fa _ (inK w _ Y) G.T.g hmg
  exact law_quiet (inK w _ Y) G.T.g G.T.b G.T.builtins G.T.nolimit gens obj whole (Nat.le_trans len few) quiet fn bind (fun H one sq => begin_ w H a ns len one sq) fun H e s' => never w H s1 e s'
end Ver
/-! Nested data over the heap of a reading: ==, !=, <, in, sorted. -/
namespace Ver
open PySem PySem.Spec PyProof.Rows L2

mutual
/-- v is the datum d: numbers, truths, None, texts, tuples and lists of these, the dict without entries -/
inductive Dt (H : Hp) : V → PyData → Prop
  | non : Dt H .non .none
  | bl (b : Bool) : Dt H (.bl b) (.bool b)
  | int (i : Int) : Dt H (.int i) (.int i)
  | str (z : Str) : Dt H (.str z) (.str z)
  | tup {a xs ds} : H a = some (.tup xs) → DtA H xs ds → Dt H (.ref a) (.tuple ds)
  | lst {a xs ds} : H a = some (.lst xs) → DtA H xs ds → Dt H (.ref a) (.list ds)
  | dct {a} : H a = some (.dK []) → Dt H (.ref a) (.dict [])
inductive DtA (H : Hp) : List V → List PyData → Prop
  | nil : DtA H [] []
  | cons {x d xs ds} : Dt H x d → DtA H xs ds → DtA H (x :: xs) (d :: ds)
end
mutual
theorem Dt.ex {H G : Hp} (e : Ex H G) : ∀ {v : V} {d : PyData}, Dt H v d → Dt G v d
  | _, _, .non => .non
  | _, _, .bl b => .bl b
  | _, _, .int i => .int i
  | _, _, .str z => .str z
  | _, _, .tup h q => .tup (e _ _ h) (DtA.ex e q)
  | _, _, .lst h q => .lst (e _ _ h) (DtA.ex e q)
  | _, _, .dct h => .dct (e _ _ h)
theorem DtA.ex {H G : Hp} (e : Ex H G) : ∀ {xs : List V} {ds : List PyData}, DtA H xs ds → DtA G xs ds
  | _, _, .nil => .nil
  | _, _, .cons q t => .cons (Dt.ex e q) (DtA.ex e t)
end
section
variable {P : Program} {w : World} {H : Hp} {h : Heap}
mutual
theorem Dt.reads (ok : HOk P w H h) : ∀ {v : V} {d : PyData} {u : Value}, Dt H v d → RelV v u → ∃ as, Reads h u d as
  | _, _, u, .non, r => by
    cases (show u = Value.none from r)
    exact ⟨_, .none⟩
  | _, _, u, .bl b, r => by
    cases (show u = Value.bool b from r)
    exact ⟨_, .bool b⟩
  | _, _, u, .int i, r => by
    obtain ⟨t, rfl⟩ := (show ∃ t, u = Value.int i t from r)
    exact ⟨_, .int i t⟩
  | _, _, u, .str z, r => by
    obtain ⟨t, rfl⟩ := (show ∃ t, u = Value.str z t from r)
    exact ⟨_, .str z t⟩
  | _, _, u, .tup (a := a) e q, r => by
    cases (show u = Value.ref a from r)
    obtain ⟨_, its, rv, o, h1, h2, m, h3⟩ := (show ObjOk P w H h a (.tup _) from ok a _ e)
    obtain ⟨as, q1⟩ := DtA.reads ok q rv
    exact ⟨as, .tuple h1 h2 h3 (by simpa using q1)⟩
  | _, _, u, .lst (a := a) e q, r => by
    cases (show u = Value.ref a from r)
    obtain ⟨_, its, m, rv, h1⟩ := (show ObjOk P w H h a (.lst _) from ok a _ e)
    obtain ⟨as, q1⟩ := DtA.reads ok q rv
    exact ⟨_, .list h1 rfl rfl (by simpa using q1)⟩
  | _, _, u, .dct (a := a) e, r => by
    cases (show u = Value.ref a from r)
    obtain ⟨_, _, vs, kv, o, es, ep, h1, h2, h3, _, h5, _⟩ := (show ObjOk P w H h a (.dK _) from ok a _ e)
    cases kv
    have e0 : es.toList = [] := by
      generalize es.toList = l at h5
      cases h5
      rfl
    exact ⟨_, .dict h1 h2.1 h3 (by rw [e0]; exact .nil) (by rw [e0]; exact .nil)⟩
theorem DtA.reads (ok : HOk P w H h) : ∀ {xs : List V} {ds : List PyData} {us : List Value}, DtA H xs ds → Vals xs us → ∃ as, ReadsAll h us ds as
  | _, _, _, .nil, r => by
    cases r
    exact ⟨_, .nil⟩
  | _, _, _, .cons q t, r => by
    cases r with
    | cons r1 r2 =>
      obtain ⟨as, q1⟩ := Dt.reads ok q r1
      obtain ⟨bs, t1⟩ := DtA.reads ok t r2
      exact ⟨_, .cons q1 t1⟩
end
end
theorem DtA.length {H : Hp} : ∀ {xs : List V} {ds : List PyData}, DtA H xs ds → xs.length = ds.length
  | _, _, .nil => rfl
  | _, _, .cons _ t => congrArg Nat.succ t.length
theorem DtA.at_ {H : Hp} : ∀ {xs : List V} {ds : List PyData} {i : Nat} {x : V}, DtA H xs ds → xs[i]? = some x → ∃ d, ds[i]? = some d ∧ Dt H x d
  | _, _, 0, _, .cons q _, e => by cases e; exact ⟨_, rfl, q⟩
  | _, _, i + 1, _, .cons _ t, e => DtA.at_ (i := i) t e
theorem DtA.get {H : Hp} : ∀ {xs : List V} {ds : List PyData} {i : Nat} {d : PyData}, DtA H xs ds → ds[i]? = some d → ∃ x, xs[i]? = some x ∧ Dt H x d
  | _, _, 0, _, .cons q _, e => by cases e; exact ⟨_, rfl, q⟩
  | _, _, i + 1, _, .cons _ t, e => DtA.get (i := i) t e
theorem DtA.append {H : Hp} : ∀ {xs ys : List V} {ds es : List PyData}, DtA H xs ds → DtA H ys es → DtA H (xs ++ ys) (ds ++ es)
  | _, _, _, _, .nil, s => s
  | _, _, _, _, .cons q t, s => .cons q (t.append s)
theorem DtA.take {H : Hp} : ∀ {xs : List V} {ds : List PyData} (n : Nat), DtA H xs ds → DtA H (xs.take n) (ds.take n)
  | _, _, 0, _ => .nil
  | _, _, _ + 1, .nil => .nil
  | _, _, n + 1, .cons q t => .cons q (t.take n)
theorem DtA.drop {H : Hp} : ∀ {xs : List V} {ds : List PyData} (n : Nat), DtA H xs ds → DtA H (xs.drop n) (ds.drop n)
  | _, _, 0, h => h
  | _, _, _ + 1, .nil => .nil
  | _, _, n + 1, .cons _ t => t.drop n
theorem DtA.reverse {H : Hp} : ∀ {xs : List V} {ds : List PyData}, DtA H xs ds → DtA H xs.reverse ds.reverse
  | _, _, .nil => .nil
  | _, _, .cons q t => by
    rw [List.reverse_cons, List.reverse_cons]
    exact t.reverse.append (.cons q .nil)
theorem DtA.mem {H : Hp} : ∀ {xs : List V} {ds : List PyData} {x : V}, DtA H xs ds → x ∈ xs → ∃ d ∈ ds, Dt H x d
  | _, _, x, .cons (x := y) q t, h => by
    rcases List.mem_cons.mp h with rfl | h
    · exact ⟨_, List.mem_cons_self, q⟩
    · obtain ⟨d, hd, k⟩ := t.mem h
      exact ⟨d, List.mem_cons_of_mem _ hd, k⟩

/-- what a comparison of data may be made of -/
structure Cmp (H : Hp) (x : V) (d : PyData) : Prop where
  at_ : Dt H x d
  plain : d.plain = true
  deep : d.depth ≤ 40
def rEqD (f : Bool → Bool) : R2 := fun x y H Q => ∃ a b, Cmp H x a ∧ Cmp H y b ∧ Q (.bl (f (PyData.eqv a b))) H
theorem op_eqD {X : Cx} (room : X.A.units + 64 < cLine) : OpR X (compareOp .Eq) (rEqD id) := by
  intro pins s σ H x y v u Q I rx ry want
  obtain ⟨a, b, ha, hb, q⟩ := want
  obtain ⟨as, ra⟩ := ha.at_.reads I.hok rx
  obtain ⟨bs, rb⟩ := hb.at_.reads I.hok ry
  exact PySem.SeqAt.eq_plain ra rb ha.plain hb.plain (by have := ha.deep; omega) ⟨.bl _, H, I, rfl, q⟩
theorem op_neD {X : Cx} (room : X.A.units + 64 < cLine) : OpR X (compareOp .NotEq) (rEqD not) := by
  intro pins s σ H x y v u Q I rx ry want
  obtain ⟨a, b, ha, hb, q⟩ := want
  obtain ⟨as, ra⟩ := ha.at_.reads I.hok rx
  obtain ⟨bs, rb⟩ := hb.at_.reads I.hok ry
  exact PySem.SeqAt.ne_plain ra rb ha.plain hb.plain (by have := ha.deep; omega) ⟨.bl _, H, I, rfl, q⟩
/-- x < y, data of one kind place by place -/
def rLtD : R2 := fun x y H Q => ∃ a b, Dt H x a ∧ Dt H y b ∧ PySem.W.alike a b = true ∧ a ≠ .none ∧ a.depth ≤ 40 ∧ Q (.bl (PySem.W.dataLt a b)) H
theorem op_ltD {X : Cx} (room : X.A.units + 64 < cLine) : OpR X (compareOp .Lt) rLtD := by
  intro pins s σ H x y v u Q I rx ry want
  obtain ⟨a, b, ha, hb, al, nn, dp, q⟩ := want
  obtain ⟨as, ra⟩ := ha.reads I.hok rx
  obtain ⟨bs, rb⟩ := hb.reads I.hok ry
  exact PySem.W.rcLt_alike a b _ _ _ _ _ _ ra rb al nn (by omega) X.prog X.w X.xe _ ⟨.bl _, H, I, rfl, q⟩
/-- x in c, c a tuple or a list -/
def rInD (f : Bool → Bool) : R2 := fun x y H Q => ∃ d ds, Cmp H x d ∧ (Dt H y (.tuple ds) ∨ Dt H y (.list ds)) ∧ PyData.plainAll ds = true ∧ Q (.bl (f (ds.any fun e => PyData.eqv e d))) H
theorem op_inD {X : Cx} (room : X.A.units + 64 < cLine) : OpR X (compareOp .In) (rInD id) := by
  intro pins s σ H x y v u Q I rx ry want
  obtain ⟨d, ds, hd, hc, pl, q⟩ := want
  obtain ⟨as, ra⟩ := hd.at_.reads I.hok rx
  have dp := hd.deep
  rcases hc with hc | hc
  · obtain ⟨bs, rb⟩ := hc.reads I.hok ry
    exact PySem.SeqAt.in_tuple_data rb ra pl hd.plain (by omega) ⟨.bl _, H, I, rfl, q⟩
  · obtain ⟨bs, rb⟩ := hc.reads I.hok ry
    exact PySem.SeqAt.in_list_data rb ra pl hd.plain (by omega) ⟨.bl _, H, I, rfl, q⟩
theorem op_notInD {X : Cx} (room : X.A.units + 64 < cLine) : OpR X (compareOp .NotIn) (rInD not) := by
  intro pins s σ H x y v u Q I rx ry want
  obtain ⟨d, ds, hd, hc, pl, q⟩ := want
  obtain ⟨as, ra⟩ := hd.at_.reads I.hok rx
  have dp := hd.deep
  rcases hc with hc | hc
  · obtain ⟨bs, rb⟩ := hc.reads I.hok ry
    exact PySem.SeqAt.notIn_tuple_data rb ra pl hd.plain (by omega) ⟨.bl _, H, I, rfl, q⟩
  · obtain ⟨bs, rb⟩ := hc.reads I.hok ry
    exact PySem.SeqAt.notIn_list_data rb ra pl hd.plain (by omega) ⟨.bl _, H, I, rfl, q⟩

/-! ### sorted -/
theorem each_of {R : Value → V × PyData → Prop} : ∀ {bs : List (V × PyData)} {us : List Value}, Vals (bs.map (·.1)) us → (∀ b ∈ bs, ∀ u, RelV b.1 u → R u b) → PySem.W.EachIs R us bs
  | [], _, .nil, _ => .nil
  | b :: bs, _, .cons r t, k => .cons (k b List.mem_cons_self _ r) (each_of t fun c hc => k c (List.mem_cons_of_mem _ hc))
theorem vals_each : ∀ {bs : List (V × PyData)} {us : List Value}, PySem.W.EachIs (fun u b => RelV b.1 u) us bs → Vals (bs.map (·.1)) us
  | [], _, .nil => .nil
  | b :: bs, _, .cons r t => .cons r (vals_each t)
/-- sorted(xs): bs are the list's items with what they are; the new list has them in their order -/
def rSortedD (K : PySem.W.Frag) : List V → Hp → VK → Prop := fun vs H Q => ∃ (a : Addr) (bs : List (V × PyData)), vs = [.ref a] ∧ SqL K H a (bs.map (·.1)) ∧ (∀ b ∈ bs, Dt H b.1 b.2 ∧ b.2.depth ≤ 40) ∧
  PySem.W.AllAlike (bs.map (·.2)) ∧ PySem.W.Sortable (bs.map (·.2)) ∧ Al Q (.lst ((bs.mergeSort (PySem.W.dataLe false (·.2))).map (·.1))) H
theorem cr_sortedD {X : Cx} {K : PySem.W.Frag} (hK : X.K = K) (room : X.A.units + 64 < cLine) : CallR X (.builtin "sorted") (rSortedD K) := by
  subst hK
  intro pins s σ H vs us Q I r want
  obtain ⟨a, bs, rfl, sq, each, al, so, q⟩ := want
  obtain ⟨its, rv, hl, hz⟩ := I.list sq
  rw [Vals.ref1 r]
  have e1 : PySem.W.EachIs (fun u b => RelV b.1 u) its bs := each_of rv fun _ _ _ h => h
  have e2 : PySem.W.EachIs (fun u b => ∃ as, Reads s.heap u b.2 as) its bs := each_of rv fun b hb u h => (each b hb).1.reads I.hok h
  have len : bs.length ≤ sizeLine := by simpa using hz
  refine PySem.W.sorted_data (enc := (·.2)) hl.isList e1 e2 al so len (fun b hb => by have := (each b hb).2; omega) fun out h1 h2 => ?_
  obtain ⟨ep, he⟩ := PyProof.Rows.sortedAll_at s.heap its out.toArray
  have size : ((bs.mergeSort (PySem.W.dataLe false (·.2))).map (·.1)).length ≤ sizeLine := by
    rw [List.length_map, List.length_mergeSort]
    exact len
  refine ⟨.ref _, upd H (s.heap.objs.size + 1) (.lst ((bs.mergeSort (PySem.W.dataLe false (·.2))).map (·.1))), I.laid (t' := s.toks) (fun _ _ => PyProof.Rows.sortedAll_old) (Nat.le_succ _) ⟨size, out, ep, vals_each h2, by simpa using he⟩, rfl, q _ (I.hok.fresh (Nat.le_succ _))⟩
end Ver
/-! An own error over ValueError whose __init__ says super().__init__(text) and keeps its one argument in a field. -/
namespace PySem
namespace SupX
open PySem.W PySem.Calls PyProof.Rows PySem.HandSPX L2
/-- what the text of such an __init__ is -/
structure Ini (st : Stmt) (fld par : Str) : Prop where
  body : ∃ (txt : Str) (kk : Nat) (p0 p1 p2 p3 p4 p5 p6 p7 p8 p9 : Pos), (p2.endLine == p4.line) = true ∧ defBody st = [.Expr (.Call (.Attribute (.Call (.Name "super" p0) [] [] p1) "__init__" p2) [.Constant (.str txt) kk p3] [] p4) p5, .Assign [.Attribute (.Name "self" p6) fld p7] (.Name par p8) p9]
  par0 : ∃ (an : Option Expr) (q : Pos), ((defArgs st).posonlyargs ++ (defArgs st).args).head? = some { arg := "self", annotation := an, pos := q }
  kd : (defScope st).kind = .function
  co : (defScope st).isCoroutine = false
  ge : (defScope st).isGenerator = false
  cel : ∀ x ∈ (defScope st).names, x.2 ≠ .cell
  sS : (defScope st).names.lookup ("super" : Str) = some .globalImplicit
  sC : (defScope st).names.lookup ("__class__" : Str) = some .free
  sI : (defScope st).names.lookup ("self" : Str) = some .local
  sP : (defScope st).names.lookup par = some .local
  ne : par ≠ "self"
  db : (par == ("__debug__" : Str)) = false
  bnd : ∀ (qual : Str) (cc : Addr) (kV doc pm cdv ct : Value) (an : Option Addr) (s : Shared) (a b : Value), BindsTo s (fnX "__init__" qual (defArgs st) (defBody st) (defScope st) [("__class__", cc)] .none kV doc pm an cdv ct) ⟨[a, b], []⟩ [("self", a), (par, b)]
/-- what the written part says of the class called cn, at C, and of its __init__, at fI -/
structure Txt (P : Program) (K : Frag) (mg : Str → Option Value) (cn : Str) (st : Stmt) (fld par : Str) (C fI : Addr) : Prop where
  ini : Ini st fld par
  gC : mg cn = some (.ref C)
  noS : mg "super" = none
  cls : ∃ (nm q : Str) (N : Addr) (bs bm : List Value) (sn : List Str) (sub : List Value) (ab : Bool) (col : Option Bool) (dd : Option Addr) (k0 k1 k2 k3 k5 : Option Value), K.lookup C = some (excClassObj nm q C N bs bm true sn sub ab col dd k0 k1 k2 k3 k5 "ValueError.__new__") ∧ refsVE bm = true
  sa : findIn K (.ref C) "__setattr__" = some (some (.builtin "object.__setattr__"))
  ga : findIn K (.ref C) "__getattribute__" = some (some (.builtin "BaseException.__getattribute__"))
  gg : findIn K (.ref C) "__getattr__" = some none
  noN : findIn K (.ref C) fld = some none
  iC : findIn K (.ref C) "__init__" = some (some (.ref fI))
  tC : typeIn K (.ref fI) = some (.type "function")
  kC : keepIn K (.ref C) = true
  exC : subIn K (.ref C) (.type "BaseException") = some true
  tyC : typeIn K (.ref C) = some (.type "type")
  hdC : hasDictIn K C = true
  vE : subIn K (.ref C) (.type "ValueError") = some true
  slf : mroIn K C (.ref C) = some true
  sup : ks_superIn K C C "__init__" = some (some (.builtin "ValueError.__init__"))
  opq : nsIn K cStatics "thirdparty.any" = some none
  top : (P.main.scope.names.lookup ("super" : Str)).isSome = false
  fn : ∃ (oc : Value) (od : Option Addr) (qual : Str) (cc : Addr) (kV doc pm ct : Value) (an : Option Addr) (cda : Addr) (osl : Array (Option Value)), K.lookup fI = some ⟨oc, od, .func (fnX "__init__" qual (defArgs st) (defBody st) (defScope st) [("__class__", cc)] .none kV doc pm an (.ref cda) ct), osl⟩ ∧ codeIn K (.ref cda) qual = true ∧
    (∃ (cl : Value) (cld : Option Addr) (csl : Array (Option Value)), K.lookup cc = some ⟨cl, cld, .cell (some (.ref C)), csl⟩) ∧
    ∃ (ccl : Value) (cdd : Option Addr) (vs : Array Value) (ccs : Array (Option Value)) (file : Str) (tf : Tok), K.lookup cda = some ⟨ccl, cdd, .fields vs, ccs⟩ ∧ vs[2]? = some (.str file tf) ∧ ((P.main.file : Str) == file) = true

/-- what __init__ leaves of a new error at x: its dict at dx -/
structure Left (fld : Str) (h h' : Heap) (x C dx t1 : Addr) (v : Value) : Prop where
  keep : ∀ b o, b ≠ x → h.get? b = some o → h'.get? b = some o
  obj : h'.get? x = some { cls := .ref C, dict := some dx, data := .fields #[.ref t1, .none, .none, .none, .bool false, .none] }
  dbig : h.objs.size ≤ dx
  dne : dx ≠ x
  ns : h'.Ns1 dx (fun y => if y = fld then some v else none)
/-- an error that was made -/
structure Made (fld : Str) (h h' : Heap) (e C d : Addr) (v : Value) : Prop where
  keep : ∀ b o, h.get? b = some o → h'.get? b = some o
  new : h.objs.size ≤ e
  obj : ∃ oe vs, h'.get? e = some oe ∧ oe.cls = .ref C ∧ oe.dict = some d ∧ oe.data = .fields vs ∧ vs[1]? = some .none
  dbig : h.objs.size ≤ d
  dne : d ≠ e
  ns : h'.Ns1 d (fun y => if y = fld then some v else none)
section
variable {prog : Program} {w : World} {A : Around} {E : Value → Shared → Prop} {R : Result → Shared → Prop} {s : Shared} {K : Frag} {mg mb : Str → Option Value} {C fI : Addr} {cn fld par : Str} {st : Stmt}
/-- o.m(e), on one line -/
theorem meth_eq {o : Expr} {name : Str} {apos pos p3 : Pos} {env : Env} {txt : Str} {kk : Nat} (hl : (apos.endLine == pos.line) = true) :
    eval (.Call (.Attribute o name apos) [.Constant (.str txt) kk p3] [] pos) env = (do
      let ov ← attributeBase o name env (eval o env)
      standAt apos.atName
      let (f, first) ← holding [ov] (getMethod ov name (do return (← importBound o env).getD true))
      callWith pos f first (backTo pos (starEach [.Constant (.str txt) kk p3] env)) []) := by
  rw [arm_eval_Call]
  have form : methodCallForm (List.length [Expr.Constant (.str txt) kk p3] + List.length ([] : List Keyword)) (backTo pos (starEach [.Constant (.str txt) kk p3] env)) (backToKw pos (keywordEach [] env)) = true := rfl
  have at_ : methodCallPos true o env apos pos = pure pos := by unfold methodCallPos; simp [hl]
  unfold methodCall
  rw [form, at_]
  unfold calleeOf
  simp only [if_true, pure_bind]
  rfl
/-- the bound ValueError.__init__ is called -/
theorem wrapped {h : Heap} {g : Array GenState} {dr : Drawn} {tk : Nat} {os : OsState} {u x t0 : Addr} {us : List Value} {Q : Value → Shared → Prop} (T : Txt prog K mg cn st fld par C fI) (X : K.In h)
    (hx : h.get? x = some (excO C t0)) (hu : h.get? u = some (kxs_mw "ValueError.__init__" x)) (hl : us.length ≤ sizeLine)
    (k : ∀ h' t1, (∀ b o, b ≠ x → h.get? b = some o → h'.get? b = some o) → h'.get? x = some (excO C t1) → Q .none ⟨h', g, dr, tk, os⟩) :
    wpAny (model prog w) A (call (.ref u) us) Q E ⟨h, g, dr, tk, os⟩ := by
  obtain ⟨nm, q, N, bs, bm, sn, sub, ab, col, dd, k0, k1, k2, k3, k5, hC, hbm⟩ := T.cls
  have FB := F.excBase_ValueError
  refine wpAny_call (codeAny_of_tree ?_)
  show wpAny _ A.in1 (callAny (.ref u) ⟨us, []⟩) _ _ _
  unfold callAny
  refine wpAny_bind (wpAny_load hu ?_)
  have t1 : (Value.type "method-wrapper" == Value.type "method") = false := by decide
  have t2 : (Value.type "method-wrapper" == Value.type "builtin_function_or_method") = false := by decide
  have t3 : (Value.type "method-wrapper" == Value.type "method-wrapper") = true := by decide
  simp only [kxs_mw, t1, t2, t3, Bool.false_or, if_true]
  refine KFB.if_so (by decide) ?_
  refine wpAny_bind (check_bound_init FB.toExcCallFacts (X _ _ hC) hx rfl ?_)
  refine wpAny_bind (wpAny_pure (wpAny_pure ?_))
  refine And.intro (plainId_quiet FB.init.plain _) (codeAny_builtin FB.initEntry ?_)
  exact exc_init_tree (cls := .ref C) (t0 := t0) (dv := none) (c2 := .none) (c3 := .none) (b4 := .bool false) hx hl fun h' b1 b2 _ => k h' _ b1 b2
/-- __init__(x, v) on a new error at x -/
theorem init_ {x t0 : Addr} {v : Value} (T : Txt prog K mg cn st fld par C fI) (X : K.In s.heap) (G : s.heap.Ns mainGlobals mg) (B : s.heap.Ns builtinsNs mb) (hb : mb "super" = some (.type "super")) (hlim : s.heap.NoLimit)
    (hx : s.heap.get? x = some (excO C t0)) (hnx : K.lookup x = none) (hroom : A.depth < recursionLimit)
    (hq : ∀ h' tk dx t1, Left fld s.heap h' x C dx t1 v → R (.ok (.ret .none)) { s with heap := h', toks := tk }) :
    codeAny (model prog w) A (.call (.ref fI) ⟨[.ref x, v], []⟩) R s := by
  obtain ⟨oc, od, qual, cc, kV, doc, pm, ct, an, cda, osl, lk, hcd, ⟨cl, cld, csl, hcell⟩, ccl, cdd, vs, ccs, file, tf, hcode, hvs, hfile⟩ := T.fn
  obtain ⟨txt, kk, p0, p1, p2, p3, p4, p5, p6, p7, p8, p9, hline, hbody⟩ := T.ini.body
  obtain ⟨an0, q0, hp⟩ := T.ini.par0
  obtain ⟨nm, q, N, bs, bm, sn, sub, ab, col, dd, k0, k1, k2, k3, k5, hC, hbm⟩ := T.cls
  have hcl : clsIn K C = some { name := nm, bases := bs, mro := .ref C :: bm, ns := N, qualname := q, hasDict := true, slotNames := sn, subclasses := sub, abstract := ab, collection := col, hasDel := false } := by unfold clsIn; rw [hC] <;> rfl
  have hsup := T.sup
  unfold ks_superIn at hsup
  rw [hcl] at hsup
  obtain ⟨hp0, g, dr, tk, os⟩ := s
  refine ks_codeAny_call_defAt (binds := [("self", .ref x), (par, v)]) hroom (X _ _ lk) rfl hlim (codeRec_of X hcd) rfl (T.ini.bnd qual cc kV doc pm (.ref cda) ct an _ _ _) T.ini.cel (fun y hy => ?_) (fun h₁ hns k => ?_) T.ini.co T.ini.ge T.ini.kd
  · rcases List.mem_cons.mp hy with rfl | hy
    · exact T.ini.sI
    · rcases List.mem_cons.mp hy with rfl | hy
      · exact T.ini.sP
      · cases hy
  have X1 : K.In h₁ := X.keeps k
  have hx1 := k _ _ hx
  have I1 : InstAt h₁ x (excO C t0) C none := ⟨hx1, rfl, rfl, trivial⟩
  have L1 : hp0.objs.size ≠ x := Nat.ne_of_gt (Heap.lt_size hx)
  have mS : (fun y => (List.reverse [(("self" : Str), Value.ref x), (par, v)]).lookup y) "self" = some (.ref x) := by
    show (List.lookup ("self" : Str) [(par, v), ("self", Value.ref x)]) = _
    have z : (("self" : Str) == par) = false := by simpa using Ne.symm T.ini.ne
    simp only [List.lookup, z, beq_self_eq_true]
  have mP : (fun y => (List.reverse [(("self" : Str), Value.ref x), (par, v)]).lookup y) par = some v := by
    show (List.lookup par [(par, v), ("self", Value.ref x)]) = _
    simp only [List.lookup, beq_self_eq_true]
  have env_in : interactive (callEnv (fnX "__init__" qual (defArgs st) (defBody st) (defScope st) [("__class__", cc)] .none kV doc pm an (.ref cda) ct) hp0.objs.size fI) = false := by
    show ((defScope st).kind == .module && _) = false
    rw [T.ini.kd]
    rfl
  generalize hE : callEnv (fnX "__init__" qual (defArgs st) (defBody st) (defScope st) [("__class__", cc)] .none kV doc pm an (.ref cda) ct) hp0.objs.size fI = env at env_in ⊢
  have eF : env.func = some fI := by rw [← hE]; rfl
  have eC : env.code = .ref cda := by rw [← hE]; rfl
  have eS : env.scope = defScope st := by rw [← hE]; rfl
  have eL : env.locals = hp0.objs.size := by rw [← hE]; rfl
  have eG : env.globals = mainGlobals := by rw [← hE]; rfl
  have eB : env.builtins = builtinsNs := by rw [← hE]; rfl
  have eX : env.cells.lookup ("__class__" : Str) = some cc := by rw [← hE]; rfl
  have kS : env.kindOf "super" = some .globalImplicit := by show env.scope.names.lookup _ = _; rw [eS]; exact T.ini.sS
  have kC : env.kindOf "__class__" = some .free := by show env.scope.names.lookup _ = _; rw [eS]; exact T.ini.sC
  have kI : env.kindOf "self" = some .local := by show env.scope.names.lookup _ = _; rw [eS]; exact T.ini.sI
  have kP : env.kindOf par = some .local := by show env.scope.names.lookup _ = _; rw [eS]; exact T.ini.sP
  have kK : env.scope.kind = .function := by rw [eS]; exact T.ini.kd
  have n1 : h₁.Ns env.locals (fun y => (List.reverse [(("self" : Str), Value.ref x), (par, v)]).lookup y) := by rw [eL]; exact hns
  rw [hbody]
  refine ks_wpAt_execs_cons (ks_wpAt_Expr_any (ks_wpAt_MethodCall (pl := (do return (← importBound (.Call (.Name "super" p0) [] [] p1) env).getD true)) ?_ (meth_eq hline)) env_in)
  refine ks_wpAt_super_base (file := file) (tf := tf) kS kC (by decide) eF (X1 _ _ lk) rfl hp eC (X1 _ _ hcode) rfl hvs hfile T.top ?_
  refine ks_loadName_global kK kS (loadGlobal_builtin (mg := mg) (mb := mb) (by rw [eG]; exact G.keeps k) T.noS (by rw [eB]; exact B.keeps k) hb (And.intro rfl ?_))
  refine wpAny_loadName_free kK kC eX ⟨_, X1 _ _ hcell, rfl⟩ ?_
  refine wpAny_loadName_local kK kI n1 mS ?_
  obtain ⟨oD, hD1, hD2⟩ : ∃ oD, h₁.get? C = some oD ∧ ∃ cd, oD.data = .cls cd := ⟨_, X1 _ _ hC, _, rfl⟩
  obtain ⟨cdD, hD2⟩ := hD2
  refine ks_wpAny_isType_cls hD1 hD2 (And.intro rfl ?_)
  refine ks_wpAny_call_super hD1 hD2 hx1 rfl (fun c e => by cases e) (looks_mroIn X1 T.slf) (fun h2 e2 k2 => ?_)
  have X2 : K.In h2 := X1.keeps k2
  have hx2 := k2 _ _ hx1
  have I2 : InstAt h2 x (excO C t0) C none := ⟨hx2, rfl, rfl, trivial⟩
  refine kxs_getMethod kxs_ValueError e2 (looks_opaque X2 T.opq) ((looks_clsIn X2 hcl).andThen .now) rfl X2 hsup (I2.type.andThen (looks_subIn X2 T.vE)) (ks_ne X2 I2 hcl) (by decide) ?_
  have k3 : ∀ b o, h2.get? b = some o → (h2.push (kxs_mw "ValueError.__init__" x)).get? b = some o := fun b o e => Heap.get?_push_of_some _ e
  have hu3 : (h2.push (kxs_mw "ValueError.__init__" x)).get? h2.objs.size = some (kxs_mw "ValueError.__init__" x) := Heap.get?_push_at rfl rfl
  refine kxs_callWith (i := "ValueError.__init__") (x := x) rfl (evalArgs_plain (Calls.spliced_cons (Calls.Constant_str (x := txt) (k := kk) (pos := p3) (Calls.spliced_nil (And.intro hu3 ?_)))))
  refine wrapped T (X2.keeps k3) (k3 _ _ hx2) hu3 (by show 1 ≤ sizeLine; decide) fun h4 t4 k4 hx4 => ?_
  have up : ∀ b o, b ≠ x → h₁.get? b = some o → h4.get? b = some o := fun b o n e => k4 b o n (k3 _ _ (k2 _ _ e))
  have n4 : h4.Ns env.locals (fun y => (List.reverse [(("self" : Str), Value.ref x), (par, v)]).lookup y) := by
    rw [eL]
    obtain ⟨o, es, ep, ho, hr⟩ := hns
    exact ⟨o, es, ep, up _ _ L1 ho, hr⟩
  have X4 : K.In h4 := fun a o e => up a o (fun z => by rw [z, hnx] at e; cases e) (X1 _ _ e)
  refine ks_wpAt_execs_cons (wpAt_of_wpAny (plainObj_wpAny_Assign_Attribute ?_))
  refine wpAny_Name (wpAny_loadName_local kK kP n4 mP ?_) T.ini.db
  refine wpAny_Name (wpAny_loadName_local kK kI n4 mS ?_) (by decide)
  refine set_plain X4 (ox := excO C t4) (od := none) ⟨hx4, rfl, rfl, trivial⟩ T.sa ?_
  refine exc_osa X4 hx4 hcl (show refsVE (.ref C :: bm) = true from hbm) rfl T.noN (fun h5 tk5 dx k5 dn dne hx5 hn5 => ?_)
  refine wpAt_of_wpAny (wpAny_execs_nil (hq h5 tk5 dx t4 ⟨fun b o n e => k5 b o n (up b o n (k b o e)), hx5, ?_, dne, hn5⟩))
  have z : hp0.objs.size < h4.objs.size := by
    have := n4.lt
    rwa [eL] at this
  exact Nat.le_of_lt (Nat.lt_of_lt_of_le z dn)
/-- C(v) -/
theorem made_ {v : Value} (T : Txt prog K mg cn st fld par C fI) (X : K.In s.heap) (G : s.heap.Ns mainGlobals mg) (B : s.heap.Ns builtinsNs mb) (hb : mb "super" = some (.type "super")) (hlim : s.heap.NoLimit) (hroom : A.depth + 1 < recursionLimit)
    (hq : ∀ h' tk e d, Made fld s.heap h' e C d v → R (.ok (.ret (.ref e))) { s with heap := h', toks := tk }) :
    codeAny (model prog w) A (.call (.ref C) ⟨[v], []⟩) R s := by
  obtain ⟨nm, q, N, bs, bm, sn, sub, ab, col, dd, k0, k1, k2, k3, k5, hC, hbm⟩ := T.cls
  obtain ⟨hp, g, dr, tk, os⟩ := s
  have k : ∀ b o, hp.get? b = some o → ((hp.push (kdv_tup [v])).push (excO C hp.objs.size)).get? b = some o := fun b o e => Heap.get?_push_of_some _ (Heap.get?_push_of_some _ e)
  have hget : ((hp.push (kdv_tup [v])).push (excO C hp.objs.size)).get? (hp.objs.size + 1) = some (excO C hp.objs.size) := by heap_get
  have hnx : K.lookup (hp.objs.size + 1) = none := by
    cases e : K.lookup (hp.objs.size + 1) with
    | none => rfl
    | some o =>
      have z : hp.get? (hp.objs.size + 1) = some o := X _ _ e
      exact absurd (Nat.lt_of_succ_lt (Heap.lt_size z)) (Nat.lt_irrefl _)
  refine call_own F.excBase_ValueError (fun Y => refsVE_contains Y bm hbm) (X _ _ hC) (looks_findIn X T.iC) (fun self => bind_fn X self T.tC) (by show 1 ≤ sizeLine; decide) ?_
  refine init_ (mg := mg) (mb := mb) (s := ⟨(hp.push (kdv_tup [v])).push (excO C hp.objs.size), g, dr, tk, os⟩) T (X.keeps k) (G.keeps k) (B.keeps k) hb (hlim.keeps k) hget hnx ?_ fun h' tk' dx t1 ⟨k', hx, dn, dne, hns⟩ => ?_
  · show A.depth + 1 < recursionLimit
    exact hroom
  · have old : ∀ b o, hp.get? b = some o → h'.get? b = some o := fun b o e => k' b o (Nat.ne_of_lt (Nat.lt_succ_of_lt (Heap.lt_size e))) (k b o e)
    have z : hp.objs.size + 1 + 1 ≤ dx := by
      first
        | (simpa only [Heap.size_push] using dn)
        | exact dn
        | (have q := dn; rw [Heap.size_push, Heap.size_push] at q; exact q)
    exact ⟨rfl, hq h' tk' (hp.objs.size + 1) dx ⟨old, Nat.le_succ _, ⟨_, _, hx, rfl, rfl, rfl, rfl⟩, Nat.le_trans (Nat.le_trans (Nat.le_succ _) (Nat.le_succ _)) z, dne, hns⟩⟩
end
end SupX
end PySem
namespace Ver
open PySem PySem.Spec PyProof.Rows L2
section
variable {X : Cx} {C fI : Addr} {cn fld par : Str} {st : Stmt}
theorem relO_fld {v : V} {v' : Value} (r : RelV v v') (fld f : Str) : RelO (List.lookup f [(fld, v)]) (if f = fld then some v' else none) := by
  by_cases hw : f = fld
  · subst hw
    rw [if_pos rfl]
    have q : List.lookup f [(f, v)] = some v := by simp [List.lookup]
    rw [q]
    exact r
  · rw [if_neg hw]
    have qw : (f == fld) = false := by simpa using hw
    have q2 : List.lookup f [(fld, v)] = none := by simp [List.lookup, qw]
    rw [q2]
    trivial
/-- C(e): the new error's own dict d holds its field -/
def tMkSup (fld : Str) (C : Addr) (ta : TA) : L2.St → Hp → XK → Prop := fun σ H Q => ta σ H fun vs H1 => ∃ v, vs = [v] ∧ ∀ d, H1 d = none → Q (.ref C) (some d) (upd H1 d (.xd [(fld, v)]))
theorem pmk_sup {a : Expr} {ta : TA} {p pos : Pos} {k : Nat} (T : PySem.SupX.Txt X.prog X.K X.mg cn st fld par C fI) (hr : Room k X.A) (ha : PA X [a] ta) (hg : Gl X cn) (hdb : (cn == ("__debug__" : Str)) = false := by decide)
    (he : starEach (a :: []) X.env = (false, eval a X.env) :: starEach [] X.env := by rfl) (hpl : (backTo pos (starEach [] X.env)).any (·.1) = false := by rfl) :
    PMk X (.Call (.Name cn p) [a] [] pos) (tMkSup fld C ta) := by
  intro pins s σ H Q I h
  refine wpAny_Call_Name_kw (ld_glob I hg T.gC ?_ hdb)
  refine PySem.W.callWith_K (h₀ := X.base) I.ok.mod.kin T.kC (thn (ha.run pos pins s σ H _ I h) fun us s1 hh => ?_) he hpl
  obtain ⟨vs, H1, I1, r1, v, ev, q1⟩ := hh
  subst ev
  refine ⟨I1.kIn, ?_⟩
  cases r1 with
  | cons rv rn =>
    rename_i v' us'
    cases rn
    show wpAny _ _ (call (.ref C) [v']) _ _ _
    have hlim := I1.nolimit
    obtain ⟨mb, hmb, hbt⟩ := I1.ok.mod.blt
    have bk := I1.bk
    have G := I1.ok.mod.glob.keeps bk
    have B := hmb.keeps bk
    have hb : mb "super" = some (.type "super") := (hbt "super" (by decide)).trans PyProof.Rows.Boot.«super»
    obtain ⟨hp, g, dr, tk, os⟩ := s1
    refine wpAny_call (PySem.SupX.made_ (mg := X.mg) (mb := mb) T I1.kIn G B hb hlim (by have := hr.dp; omega) fun h' tk' e d M => ?_)
    show MkP X pins σ Q (.ref e) ⟨h', g, dr, tk', os⟩
    obtain ⟨oe, fv, hoe, hc, hd, hdat, h1⟩ := M.obj
    have hns := M.ns
    obtain ⟨G', g1, g2⟩ := restrict h' fun b => decide (b ≠ e)
    have gk : ∀ b, b ≠ e → G'.get? b = h'.get? b := fun b hb => g1 b (decide_eq_true hb)
    have ge : G'.get? e = none := g2 e (by simp)
    have old : ∀ b o, hp.get? b = some o → G'.get? b = some o := fun b o q => (gk b (Nat.ne_of_lt (Nat.lt_of_lt_of_le (Heap.lt_size q) M.new))).trans (M.keep b o q)
    have ob : ObjOk X.prog X.w (upd H1 d (.xd [(fld, v)])) G' d (.xd [(fld, v)]) :=
      ⟨_, hns.at (fun o q => (gk d M.dne).trans q), fun f => relO_fld rv fld f⟩
    have J : Inv X pins σ (upd H1 d (.xd [(fld, v)])) ⟨G', g, dr, tk', os⟩ := I1.laid (t' := tk') old M.dbig ob
    refine ⟨e, oe, fv, ⟨G', g, dr, tk', os⟩, _, .ref C, some d, rfl, J, fun b o q => ?_, ge, hoe, ⟨hc, hd⟩, hdat, h1, ?_, rfl, I1.bare, raises_own T.exC T.tyC, q1 d (I1.hok.fresh M.dbig)⟩
    · by_cases hb : b = e
      · have q' : G'.get? b = some o := q
        rw [hb, ge] at q'; cases q'
      · exact (gk b hb).symm.trans q
    · rw [upd_ne (Ne.symm M.dne)]
      exact I1.hok.fresh M.new
/-- raise C(e) -/
def tRaiseSup (fld : Str) (C : Addr) (W : WX) (ta : TA) : TS := fun _ σ H => tMkSup fld C ta σ H fun cls d H' => W cls d σ H'
theorem ps_raiseSup {a : Expr} {ta : TA} {W : WX} {p pos pos2 : Pos} {k : Nat} (hc : X.calm = true) (T : PySem.SupX.Txt X.prog X.K X.mg cn st fld par C fI) (hr : Room k X.A) (tk : Takes X W) (ha : PA X [a] ta) (hg : Gl X cn) (hdb : (cn == ("__debug__" : Str)) = false := by decide)
    (he : starEach (a :: []) X.env = (false, eval a X.env) :: starEach [] X.env := by rfl) (hpl : (backTo pos (starEach [] X.env)).any (·.1) = false := by rfl) :
    PS X (.Raise (some (.Call (.Name cn p) [a] [] pos)) none pos2) (tRaiseSup fld C W ta) := ps_raise hc tk (pmk_sup T hr ha hg hdb he hpl)
theorem sup_xf {P : Program} {K : PySem.W.Frag} {mg : Str → Option Value} (T : PySem.SupX.Txt P K mg cn st fld par C fI) : XfC K C := ⟨T.ga, T.gg, T.exC, T.hdC⟩
end
end Ver
/-! Defs that are handed the error that a suite holds; calls by names that may raise; isinstance of such an error. -/
namespace Ver
open PySem PySem.Spec PyProof.Rows L2

/-! ### f(k = v, ..), where f may raise -/
section
variable {X : Cx} {C : CXT} {k n : Nat} {f : Addr} {fd : FuncData} {ps ks : List Str} {sp : Sp} {E : L2.St → XK} {x : Str} {p pos : Pos} {kws : List Keyword} {tk : TA} {g : List Value → List Value → List Value} {gV : List V → List V → List V}
def tCallSN (n m : Nat) (sp : Sp) (gV : List V → List V → List V) (E : L2.St → XK) (t tk : TA) : TE := fun σ H Q => t σ H fun vs H1 => tk σ H1 fun zs H2 => vs.length = n ∧ zs.length = m ∧ sp (gV vs zs) H2 Q (E σ)
theorem pe_callSN0 (F : FnOk X.prog X.w X.K X.mg X.base C k f fd ps sp) (room : Room k X.A) (hg : Gl X x) (hm : X.mg x = some (.ref f)) (kp : PySem.W.keepIn X.K (.ref f) = true) (hb : KBn X.K fd ps 0 ks g gV) (hx : ∀ σ, PassesAt C X σ (E σ))
    (hkw : PK X kws tk) (hall : (backToKw pos (keywordEach kws X.env)).all (·.1.isSome) = true := by rfl) (hks : (backToKw pos (keywordEach kws X.env)).filterMap (·.1) = ks := by rfl) (hd : (x == ("__debug__" : Str)) = false := by decide)
    (hp : ((backTo pos (starEach [] X.env)).any (·.1) || (backToKw pos (keywordEach kws X.env)).any (·.1.isNone)) = false := by rfl) : PE X (.Call (.Name x p) [] kws pos) (tCallSN 0 ks.length sp gV E tNil tk) := by
  constructor
  intro pins s σ H Q I want
  refine wpAny_Call_Name_kw (ld_glob I hg hm ?_ hd)
  refine PySem.W.callWith_KW0 (h₀ := X.base) I.ok.mod.kin kp hall ?_ hp
  have want' : tk σ H fun zs H2 => ([] : List V).length = 0 ∧ zs.length = ks.length ∧ sp (gV [] zs) H2 Q (E σ) := want
  refine thn (hkw.run pos pins s σ H _ I want') ?_
  rintro ws s2 ⟨zs, H2, I2, rz, l1, l2, q⟩
  refine ⟨I2.kIn, ?_⟩
  rw [hks]
  have rel := hb.rel (vs := []) (us := []) .nil rz
  refine wpAny_call (codeAny_mono (F.run X.A X.stack s2 H2 ⟨[], ks.zip ws⟩ (g [] ws) (gV [] zs) Q (E σ) room I2.env0 (hb.to s2 [] ws I2.kIn rfl (rz.length.symm.trans l2)) rel q) ?_)
  intro r s3 h
  match r, h with
  | .error z, h => exact hx σ pins H2 s2 z s3 I2 h
  | .ok (.ret u), h => exact I2.after h
  | .ok .next, h => exact h.elim
  | .ok .brk, h => exact h.elim
  | .ok .cont, h => exact h.elim
theorem wCallSN {m : Nat} {σ : L2.St} {H : Hp} {Q : VK} {t : TA} (h : t σ H fun vs H1 => tk σ H1 fun zs H2 => vs.length = n ∧ zs.length = m ∧ sp (gV vs zs) H2 Q (E σ)) : tCallSN n m sp gV E t tk σ H Q := h
theorem wCallS {σ : L2.St} {H : Hp} {Q : VK} {t : TA} (h : t σ H fun vs H1 => sp vs H1 Q (E σ)) : tCallS sp E t σ H Q := h
end

/-! ### a def that is handed the error at p -/
/-- the context of such a def's body: an error is handled, p's object stands, nothing is raised -/
abbrev cxP (P : Program) (w : World) (K : PySem.W.Frag) (mg : Str → Option Value) (base : Heap) (N : List Str) (qual : Str) (sc : Scope) (f : Addr) (cdv : Value) (A : Around) (outer : List Env) (s : Shared) (H : Hp) (E : XK) (p : Addr × Obj) : Cx :=
  { cxOf CX0 P w K mg base N qual sc f cdv A outer s H E with calm := false, pn := [p], xe := fun _ _ => False }
structure FnP (P : Program) (w : World) (K : PySem.W.Frag) (mg : Str → Option Value) (base : Heap) (k : Nat) (f : Addr) (fd : FuncData) (ps : List Str) (sp : Addr × Obj → Sp) : Prop where
  arity : ∀ p vs H Q E, sp p vs H Q E → vs.length = ps.length
  goes : ∀ {A : Around} {outer : List Env} {s : Shared} {H : Hp} {args : Args} {us : List Value} {vs : List V} {Q : VK} {E : XK} {p : Addr × Obj},
    L2H.RoomH k A → L2H.PinOk outer H s p → Env0 P w K mg base A outer s H → BindsTo s fd args (ps.zip us) → Vals vs us → sp p vs H Q E →
      codeAny (model P w) A (.call (.ref f) args) (CR CX0 outer P w H s Q E) s
section
variable {P : Program} {w : World} {K : PySem.W.Frag} {mg : Str → Option Value} {base : Heap} {k : Nat} {f : Addr} {ps N : List Str} {sp : Addr × Obj → Sp}
theorem start_P {qual : Str} {sc : Scope} {cdv : Value} {A : Around} {outer : List Env} {s s1 : Shared} {H : Hp} {E : XK} {us : List Value} {vs : List V} {p : Addr × Obj} (S : FnScope N ps sc) (pin : L2H.PinOk outer H s p) (e0 : Env0 P w K mg base A outer s H) (count : vs.length = ps.length) (rel : Vals vs us)
    (x : InCallC s s.heap.objs.size (bindL (envOfC qual sc s.heap.objs.size f cdv).kindOf (ps.zip us) fun _ => none) (cellsFrom (s.heap.objs.size + 1) sc.names []) (bindC (envOfC qual sc s.heap.objs.size f cdv).kindOf (ps.zip us) fun _ => none) s1) :
    Inv (cxP P w K mg base N qual sc f cdv A outer s H E p) [] (L2.start N vs) H s1 := by
  have e1 : Env0 P w K mg base { A with handled := none } outer s H := ⟨e0.frames, e0.mod, e0.bs, e0.bsz, e0.funs, e0.frf, e0.hok, e0.bare⟩
  have I := inv_start (CX := CX0) (E := E) S (A := { A with handled := none }) rfl e1 count rel x
  have ok := I.ok
  refine ⟨⟨ok.mod, ok.kind, ok.glob, ok.blt, ok.above, ok.inj, ok.has, ok.cab, fun z => Bool.noConfusion (show false = true from z), Around.frames_deeper e0.frames, ok.stk, ok.exf, ok.bs, ok.bsz, ok.noex, ok.exfs, ok.funs, ok.frf⟩,
    I.os, I.bare, I.base, I.loc, I.cell, I.free, I.freeC, fun q hq => ?_, I.hok, I.len⟩
  obtain rfl : q = p := by simpa using (show q ∈ [p] ++ ([] : List (Addr × Obj)) from hq)
  exact ⟨x.toInCall.keep _ _ pin.get, pin.free, Nat.ne_of_lt (Heap.lt_size pin.get), pin.nofs, pin.nocell⟩
theorem pinFn {x qual : Str} {par : Arguments} {body : List Stmt} {sc : Scope} {dV kV doc pm cdv ct oc : Value} {an od : Option Addr} {osl : Array (Option Value)}
    (lk : K.lookup f = some ⟨oc, od, .func (PySem.W.fnOf x qual par body sc dV kV doc pm an cdv ct), osl⟩) (code : PySem.W.codeIn K cdv qual = true) (S : FnScope N ps sc)
    (arity : ∀ p vs H Q E, sp p vs H Q E → vs.length = ps.length)
    (reads : ∀ (A : Around) (outer : List Env) (s : Shared) (H : Hp) (vs : List V) (Q : VK) (E : XK) (p : Addr × Obj), L2H.RoomH k (A.deeper (envOfC qual sc s.heap.objs.size f cdv)) → sp p vs H Q E →
      ∃ t, PSs (cxP P w K mg base N qual sc f cdv A outer s H E p) body t ∧ t { nx := fun _ H1 => Q .non H1, rt := Q } (start N vs) H) :
    FnP P w K mg base (k + 1) f (PySem.W.fnOf x qual par body sc dV kV doc pm an cdv ct) ps sp := by
  constructor
  · exact arity
  · intro A outer s H args us vs Q E p room pin e0 bind rel want
    have count := arity _ _ _ _ _ want
    have same : ∀ b o, base.get? b = some o → s.heap.get? b = some o := fun b o e => (e0.bs b o e).1
    have inK := e0.mod.kin.keeps same
    have nolim := e0.mod.nolimit.keeps same
    have kinds : ∀ y ∈ ps.zip us, sc.names.lookup y.1 = some .local ∨ (sc.names.lookup y.1 = some .cell ∧ ((cellsFrom (s.heap.objs.size + 1) sc.names []).lookup y.1).isSome = true) := by
      rintro ⟨n, v⟩ hy
      refine (S.par n (List.of_mem_zip hy).1).imp id fun q => ⟨q, ?_⟩
      exact PySem.W.cellsFrom_some _ _ _ (.inl q)
    refine codeAny_call_function room.depth (inK _ _ lk) rfl S.co S.gen rfl (PySem.W.codeRec_of inK code) (bind _ _ _ _ ?_)
    refine wpAny_newFunctionEnv_cells S.kind kinds fun e he s1 x1 => ?_
    subst he
    refine ⟨nolim.keeps x1.toInCall.keep, codeAny_func ?_⟩
    obtain ⟨t, ht, hq⟩ := reads A outer s H vs Q E p (room.deeper _) want
    have I0 := start_P (E := E) S pin e0 count rel x1
    refine wpAny_mono (ht.run [] s1 _ H _ I0 hq) ?_ (fun e s2 h => h.elim)
    intro fl s2 h
    have out : ∀ {σ : L2.St} {H1 : Hp} {v : V} {u : Value}, Inv (cxP P w K mg base N qual sc f cdv A outer s H E p) [] σ H1 s2 → RelV v u → Q v H1 → CE outer P w H s Q u s2 := fun {σ H1 v u} J r q => ⟨v, H1, J.os, J.bare, J.base, J.hok, r, q⟩
    match fl, h with
    | .ret u, h =>
      obtain ⟨v, σ1, H1, J, rv, q⟩ := h
      exact out J rv q
    | .next, h =>
      obtain ⟨σ1, H1, J, q⟩ := h
      exact out (v := .non) (u := .none) J rfl q
    | .brk, h =>
      obtain ⟨_, _, _, q⟩ := h
      exact q.elim
    | .cont, h =>
      obtain ⟨_, _, _, q⟩ := h
      exact q.elim
end
theorem okP {P : Program} {w : World} {K : PySem.W.Frag} {mg : Str → Option Value} {base : Heap} {x qual : Str} {st : Stmt} {f : Addr} {fd : FuncData} {N ps : List Str} {k : Nat} {sp : Addr × Obj → Sp} (F : Fun K x qual st f fd) (S : FnScope N ps (defScope st))
    (arity : ∀ p vs H Q E, sp p vs H Q E → vs.length = ps.length)
    (reads : ∀ (cdv : Value) (A : Around) (outer : List Env) (s : Shared) (H : Hp) (vs : List V) (Q : VK) (E : XK) (p : Addr × Obj), L2H.RoomH k (A.deeper (envOfC qual (defScope st) s.heap.objs.size f cdv)) → sp p vs H Q E →
      ∃ t, PSs (cxP P w K mg base N qual (defScope st) f cdv A outer s H E p) (defBody st) t ∧ t { nx := fun _ H1 => Q .non H1, rt := Q } (start N vs) H) : FnP P w K mg base (k + 1) f fd ps sp := by
  obtain ⟨_, _, _, _, _, _, cdv, _, _, rfl, lk, code⟩ := F.ex
  exact pinFn lk code S arity fun A outer s H vs Q E p room want => reads cdv A outer s H vs Q E p room want

section
variable {X : Cx} {k : Nat} {f : Addr} {fd : FuncData} {ps : List Str} {sp : Addr × Obj → Sp} {x : Str} {e : Expr} {es : List Expr} {p pos : Pos} {t : TA} {a : Addr} {oe : Obj}
/-- f(e, ..) where the error at a is at hand -/
def tCallP (a : Addr) (cls : Value) (d : Option Addr) (sp : Addr × Obj → Sp) (t : TA) : TE := fun σ H Q => t σ H fun vs H1 => ∀ oe : Obj, Zc cls d oe → (∃ vs, oe.data = .fields vs) → sp (a, oe) vs H1 Q E0
theorem wCallP {cls : Value} {d : Option Addr} {σ : L2.St} {H : Hp} {Q : VK} (h : t σ H fun vs H1 => ∀ oe : Obj, Zc cls d oe → (∃ vs, oe.data = .fields vs) → sp (a, oe) vs H1 Q E0) : tCallP a cls d sp t σ H Q := h
theorem pe_callP {cls : Value} {d : Option Addr} (hz : Zc cls d oe) (hf : ∃ vs, oe.data = .fields vs) (F : FnP X.prog X.w X.K X.mg X.base k f fd ps sp) (room : L2H.RoomH k X.A) (here : (a, oe) ∈ X.pn) (hg : Gl X x) (hm : X.mg x = some (.ref f)) (kp : PySem.W.keepIn X.K (.ref f) = true) (hb : Binds X.K fd ps [])
    (ha : PA X (e :: es) t) (hd : (x == ("__debug__" : Str)) = false := by decide) (he : starEach (e :: es) X.env = (false, eval e X.env) :: starEach es X.env := by rfl) (hp : (backTo pos (starEach es X.env)).any (·.1) = false := by rfl) :
    PE X (.Call (.Name x p) (e :: es) [] pos) (tCallP a cls d sp t) := by
  constructor
  intro pins s σ H Q I want
  refine wpAny_Call_Name_kw (ld_glob I hg hm ?_ hd)
  refine PySem.W.callWith_K (h₀ := X.base) I.ok.mod.kin kp (thn (ha.run pos pins s σ H _ I want) ?_) he hp
  rintro us s1 ⟨vs, H1, I1, rel, q⟩
  refine ⟨I1.kIn, ?_⟩
  have q := q oe hz hf
  have count := F.arity _ _ _ _ _ q
  have bind := hb s1 us I1.kIn (by rw [List.append_nil, ← rel.length]; exact count)
  rw [List.append_nil] at bind
  obtain ⟨z1, z2, z3, z4, z5⟩ := I1.pin (a, oe) (List.mem_append_left _ here)
  have pin : L2H.PinOk X.stack H1 s1 (a, oe) := ⟨z1, z2, fun m => (List.mem_cons.mp (I1.stkSub a m)).elim z3 z4, z5⟩
  refine wpAny_call (codeAny_mono (F.goes room pin I1.env0 bind rel q) ?_)
  intro r s2 h
  match r, h with
  | .error z, h => exact h.elim
  | .ok (.ret u), h => exact I1.after h
  | .ok .next, h => exact h.elim
  | .ok .brk, h => exact h.elim
  | .ok .cont, h => exact h.elim

/-! ### isinstance(e, C), e the error at hand -/
/-- what the class D says of itself -/
structure ErrC (K : PySem.W.Frag) (D : Addr) : Prop where
  is_ : (PySem.W.clsIn K D).isSome = true
  ga : PySem.W.findIn K (.ref D) "__getattribute__" = some (some (.builtin "BaseException.__getattribute__"))
  gg : PySem.W.findIn K (.ref D) "__getattr__" = some none
  ex : PySem.W.subIn K (.ref D) (.type "BaseException") = some true
  ca : PySem.W.findIn K (.ref D) "__class__" = some (some (.builtin "object.__class__"))
  cn : PySem.W.specialIn K (.builtin "object.__class__") "__get__" = some (some (.builtin "getset_descriptor.__get__"))
  ct : PySem.W.takesIn K (.builtin "object.__class__") = some true
  ob : PySem.W.mroIn K D (.type "object") = some true
/-- one class: its answer b -/
def rIsEr (K : PySem.W.Frag) (D a d : Addr) : List V → Hp → VK → Prop := fun xs H Q => ∃ (c : V) (cv : Value) (b : Bool) (fs : List (Str × V)), xs = [.ref a, c] ∧ (∀ u, RelV c u → u = cv) ∧ PySem.W.kitOne K (.ref D) cv = some b ∧ H d = some (.xd fs) ∧ Q (.bl b) H
theorem call_isEr {D d : Addr} (C : ErrC X.K D) (here : (a, oe) ∈ X.pn) (hz : Zc (.ref D) (some d) oe) (hf : ∃ vs, oe.data = .fields vs) : CallR X (.builtin "isinstance") (rIsEr X.K D a d) := by
  intro pins s σ H xs us Q I r h
  obtain ⟨c, cv, b, fs, rfl, hcv, e, hd, q⟩ := h
  match us, r with
  | [u0, u1], .cons r0 (.cons r1 .nil) =>
    obtain rfl : u0 = Value.ref a := r0
    have e1 := hcv _ r1
    subst e1
    have at_ := (I.pin (a, oe) (List.mem_append_left _ here)).1
    obtain ⟨vs, hv⟩ := hf
    obtain ⟨mA, hns, _⟩ := (show ObjOk X.prog X.w H s.heap d (.xd fs) from I.hok d _ hd)
    obtain ⟨od, es, ep, ho, _⟩ := hns
    have J : PySem.W.InstAt s.heap a oe D (some od) := ⟨at_, hz.1, by unfold PySem.W.notCls; rw [hv] <;> rfl, by rw [hz.2]; exact ho⟩
    exact PySem.W.kia_one (PySem.W.kitx_exc C.is_ C.ga C.gg C.ex C.ca C.cn C.ct C.ob) I.kIn J e (fun z => nomatch z) fun tk => ⟨.bl b, H, I.kept (t' := tk) fun _ _ z => z, rfl, q⟩
end
end Ver
/-! Rules for laws about refusals: how often, and where first, a flat item stands in a list; a heap without one place. -/
namespace Ver
open PySem PySem.Spec PyProof.Rows L2
/-- the heap without p -/
def hide (p : Addr) (H : Hp) : Hp := fun a => if a = p then none else H a
theorem hide_ex {p : Addr} {H : Hp} : Ex (hide p H) H := fun a o h => by
  unfold hide at h
  split at h
  · cases h
  · exact h
theorem hide_at {p a : Addr} {H : Hp} {o : HO} (n : a ≠ p) (h : H a = some o) : hide p H a = some o := by
  unfold hide
  rw [if_neg n]
  exact h
theorem hide_ne {p a : Addr} {H : Hp} {o : HO} (h : hide p H a = some o) : a ≠ p := fun e => by
  unfold hide at h
  rw [if_pos e] at h
  cases h
theorem Kp.hide {p : Addr} {H H' : Hp} (e : Kp p H H') : Ex (Ver.hide p H) (Ver.hide p H') := fun a o h => hide_at (hide_ne h) (e a o (hide_ne h) (hide_ex a o h))
theorem Ex.hide {p : Addr} {H H' : Hp} (e : Ex H H') : Ex (Ver.hide p H) (Ver.hide p H') := Kp.hide e.kp

theorem roomS {k j : Nat} {A : Around} {v : Option Value} (r : Room j A) (h : k ≤ j) : L2H.RoomH k (A.mark v) :=
  ⟨by have := r.dp; show A.depth + 3 * k + 5 < _; omega, by have := r.un; show A.units + 16 * k + 200 < _; omega⟩

theorem roomU {k : Nat} {A : Around} (r : L2H.RoomH k A) : A.units + 64 < cLine := by have := r.un; omega
/-- xs.count(y), flat items -/
def rCountF (K : PySem.W.Frag) : V → List V → Hp → VK → Prop := fun x xs H Q => ∃ (a : Addr) (ys : List V) (y : V), x = .ref a ∧ xs = [y] ∧ SqL K H a ys ∧ flatV y = true ∧ ys.all flatV = true ∧ Q (.int ((ys.countP fun z => eqV z y : Nat) : Int)) H
theorem count_eqU {y : V} : ∀ {ys : List V} {us : List Value}, Vals ys us → ys.all flatV = true → us.countP (eqU y) = ys.countP fun z => eqV z y
  | _, _, .nil, _ => rfl
  | z :: ys, u :: us, .cons r t, f => by
    rw [List.all_cons, Bool.and_eq_true] at f
    rw [List.countP_cons, List.countP_cons, count_eqU t f.2, eqU_of r f.1]
theorem mt_countV {X : Cx} {K : PySem.W.Frag} (hK : X.K = K) : MtR X "list.count" (rCountF K) := by
  subst hK
  intro pins s σ H x xs v us Q I rx rxs want
  obtain ⟨a, ys, y, rfl, rfl, sq, fy, fys, q⟩ := want
  cases rx
  obtain ⟨u, rfl, ry⟩ := rxs.one
  obtain ⟨its, rel, ⟨⟨cls, dd, data, sl⟩, n, at_, ec, _, ed⟩, _⟩ := I.list sq
  simp only at ec ed
  subst ec ed
  have each := mem_eqAt (A := X.A.in1) (s := s) ry fy rel fys
  refine call_meets PySem.F.slot_list_count ⟨_, at_, rfl⟩ PySem.F.entry_list_count (PySem.F.args_list_count_2 _ _) (SeqAt.list_countAt a its.toArray n dd sl u (eqU y)) ⟨at_, fun z hz => ?_, ?_⟩
  · exact mem_eqAt ry fy rel fys z (by simpa using hz)
  · refine ⟨.int ((ys.countP fun z => eqV z y : Nat) : Int), H, I.tok _, ⟨s.toks, ?_⟩, q⟩
    show Value.int ((its.toArray.toList.countP (eqU y) : Nat) : Int) s.toks = Value.int ((ys.countP fun z => eqV z y : Nat) : Int) s.toks
    rw [← count_eqU rel fys]
theorem mt_indexV {X : Cx} {K : PySem.W.Frag} (hK : X.K = K) : MtR X "list.index" (rIndex K) := hK ▸ mt_index
section
variable {X : Cx} {a : Addr} {oe : Obj}
/-- isinstance(e, C) where a suite, or a def that was handed it, holds the error at a -/
def rIsH (K : PySem.W.Frag) (a : Addr) (cls : Value) (d : Option Addr) : List V → Hp → VK → Prop := fun xs H Q => ∃ (D dd : Addr) (c : V) (cv : Value) (b : Bool) (fs : List (Str × V)), cls = .ref D ∧ d = some dd ∧ ErrC K D ∧ xs = [.ref a, c] ∧ (∀ u, RelV c u → u = cv) ∧ PySem.W.kitOne K (.ref D) cv = some b ∧ H dd = some (.xd fs) ∧ Q (.bl b) H
theorem call_isH {K : PySem.W.Frag} (hK : X.K = K) {cls : Value} {d : Option Addr} (here : (a, oe) ∈ X.pn) (hz : Zc cls d oe) (hf : ∃ vs, oe.data = .fields vs) : CallR X (.builtin "isinstance") (rIsH K a cls d) := by
  subst hK
  intro pins s σ H xs us Q I r h
  obtain ⟨D, dd, c, cv, b, fs, rfl, rfl, C, rfl, hcv, e, hd, q⟩ := h
  exact call_isEr C here hz hf pins s σ H _ us Q I r ⟨c, cv, b, fs, rfl, hcv, e, hd, q⟩
theorem wIsH {K : PySem.W.Frag} {H : Hp} {Q : VK} {D dd C : Addr} {b : Bool} {fs : List (Str × V)} (er : ErrC K D) (e : PySem.W.kitOne K (.ref D) (.ref C) = some b) (hd : H dd = some (.xd fs)) (k : Q (.bl b) H) : rIsH K a (.ref D) (some dd) [.ref a, .ref C] H Q :=
  ⟨D, dd, _, .ref C, b, fs, rfl, rfl, er, rfl, fun u r => r, e, hd, k⟩
theorem wIsHT {K : PySem.W.Frag} {H : Hp} {Q : VK} {D dd : Addr} {T : String} {b : Bool} {fs : List (Str × V)} (er : ErrC K D) (e : PySem.W.kitOne K (.ref D) (.type T) = some b) (hd : H dd = some (.xd fs)) (k : Q (.bl b) H) : rIsH K a (.ref D) (some dd) [.ref a, .ty T] H Q :=
  ⟨D, dd, _, .type T, b, fs, rfl, rfl, er, rfl, fun u r => r, e, hd, k⟩
theorem wXfV {D dd : Addr} {fld : Str} {fs : List (Str × V)} {v : V} {σ : L2.St} {H : Hp} {Q : VK} {i : Nat} (h : σ[i]? = some (some (.ref a))) (hd : H dd = some (.xd fs)) (l : fs.lookup fld = some v) (k : Q v H) : tXf a (.ref D) (some dd) D fld (tVar i) σ H Q :=
  ⟨.ref a, h, rfl, rfl, dd, fs, v, rfl, hd, l, k⟩
end
end Ver
namespace Ver
open PySem PySem.Spec PyProof.Rows L2
def top (i : Nat) : Stmt := PySem.Challenge.pw_thankways_k02_numbers_refused.main.body.getD i (.Pass ⟨0, 0, 0, 0⟩)
abbrev s_is_whole : Stmt := top 21
abbrev s_greatest_divisor : Stmt := top 22
abbrev s_is_fraction : Stmt := top 23
abbrev s_lowest : Stmt := top 24
abbrev s_check_two : Stmt := top 25
abbrev s_fraction : Stmt := top 26
abbrev s_plus : Stmt := top 27
abbrev s_minus : Stmt := top 28
abbrev s_times : Stmt := top 29
abbrev s_over : Stmt := top 30
abbrev s_below : Stmt := top 31
abbrev s_is_less : Stmt := top 32
abbrev s_Lcell : Stmt := top 34
abbrev s_Lpool : Stmt := top 35
abbrev s_Ltake : Stmt := top 36
abbrev s_Llow : Stmt := top 37
abbrev s_Lsort : Stmt := top 38
abbrev s_Lnumber : Stmt := top 39
abbrev s_Lone : Stmt := top 40
abbrev s_Lodd_number : Stmt := top 41
abbrev s_Lodd_fraction : Stmt := top 42
abbrev s_Lasked : Stmt := top 43
abbrev s_Lis_fraction : Stmt := top 44
abbrev s_Ldoors_right : Stmt := top 45
abbrev s_law : Stmt := top 46
theorem sc_is_whole : FnScope ["thing"] ["thing"] (defScope s_is_whole) := ⟨rfl, rfl, rfl, by decide +kernel, rfl, by decide +kernel, by decide +kernel⟩
theorem sc_greatest_divisor : FnScope ["one", "other"] ["one", "other"] (defScope s_greatest_divisor) := ⟨rfl, rfl, rfl, by decide +kernel, rfl, by decide +kernel, by decide +kernel⟩
theorem sc_is_fraction : FnScope ["thing", "top", "bottom"] ["thing"] (defScope s_is_fraction) := ⟨rfl, rfl, rfl, by decide +kernel, rfl, by decide +kernel, by decide +kernel⟩
theorem sc_lowest : FnScope ["top", "bottom", "divisor"] ["top", "bottom"] (defScope s_lowest) := ⟨rfl, rfl, rfl, by decide +kernel, rfl, by decide +kernel, by decide +kernel⟩
theorem sc_check_two : FnScope ["one", "other"] ["one", "other"] (defScope s_check_two) := ⟨rfl, rfl, rfl, by decide +kernel, rfl, by decide +kernel, by decide +kernel⟩
theorem sc_fraction : FnScope ["top", "bottom"] ["top", "bottom"] (defScope s_fraction) := ⟨rfl, rfl, rfl, by decide +kernel, rfl, by decide +kernel, by decide +kernel⟩
theorem sc_plus : FnScope ["one", "other"] ["one", "other"] (defScope s_plus) := ⟨rfl, rfl, rfl, by decide +kernel, rfl, by decide +kernel, by decide +kernel⟩
theorem sc_minus : FnScope ["one", "other"] ["one", "other"] (defScope s_minus) := ⟨rfl, rfl, rfl, by decide +kernel, rfl, by decide +kernel, by decide +kernel⟩
theorem sc_times : FnScope ["one", "other"] ["one", "other"] (defScope s_times) := ⟨rfl, rfl, rfl, by decide +kernel, rfl, by decide +kernel, by decide +kernel⟩
theorem sc_over : FnScope ["one", "other"] ["one", "other"] (defScope s_over) := ⟨rfl, rfl, rfl, by decide +kernel, rfl, by decide +kernel, by decide +kernel⟩
theorem sc_below : FnScope ["one", "other"] ["one", "other"] (defScope s_below) := ⟨rfl, rfl, rfl, by decide +kernel, rfl, by decide +kernel, by decide +kernel⟩
theorem sc_is_less : FnScope ["one", "other"] ["one", "other"] (defScope s_is_less) := ⟨rfl, rfl, rfl, by decide +kernel, rfl, by decide +kernel, by decide +kernel⟩
theorem sc_Lcell : FnScope ["_law_script", "_law_k", "_law_state", "_law_cell_here"] ["_law_script", "_law_k"] (defScope s_Lcell) := ⟨rfl, rfl, rfl, by decide +kernel, rfl, by decide +kernel, by decide +kernel⟩
theorem sc_Lpool : FnScope ["_law_cell_here", "_law_digits"] ["_law_cell_here"] (defScope s_Lpool) := ⟨rfl, rfl, rfl, by decide +kernel, rfl, by decide +kernel, by decide +kernel⟩
theorem sc_Ltake : FnScope ["_law_pool_here", "_law_many", "_law_state", "_law_digit"] ["_law_pool_here", "_law_many"] (defScope s_Ltake) := ⟨rfl, rfl, rfl, by decide +kernel, rfl, by decide +kernel, by decide +kernel⟩
theorem sc_Llow : FnScope ["_law_upper", "_law_lower", "_law_a", "_law_b"] ["_law_upper", "_law_lower"] (defScope s_Llow) := ⟨rfl, rfl, rfl, by decide +kernel, rfl, by decide +kernel, by decide +kernel⟩
theorem sc_Lsort : FnScope ["_law_e", "_law_some", "_law_bases", "_law_python", "_law_at", "_law_words"] ["_law_e"] (defScope s_Lsort) := ⟨rfl, rfl, rfl, by decide +kernel, rfl, by decide +kernel, by decide +kernel⟩
theorem sc_Lnumber : FnScope ["_law_pool_here", "_law_size", "_law_found"] ["_law_pool_here"] (defScope s_Lnumber) := ⟨rfl, rfl, rfl, by decide +kernel, rfl, by decide +kernel, by decide +kernel⟩
theorem sc_Lone : FnScope ["_law_pool_here"] ["_law_pool_here"] (defScope s_Lone) := ⟨rfl, rfl, rfl, by decide +kernel, rfl, by decide +kernel, by decide +kernel⟩
theorem sc_Lodd_number : FnScope ["_law_pool_here", "_law_some"] ["_law_pool_here"] (defScope s_Lodd_number) := ⟨rfl, rfl, rfl, by decide +kernel, rfl, by decide +kernel, by decide +kernel⟩
theorem sc_Lodd_fraction : FnScope ["_law_pool_here", "_law_some"] ["_law_pool_here"] (defScope s_Lodd_fraction) := ⟨rfl, rfl, rfl, by decide +kernel, rfl, by decide +kernel, by decide +kernel⟩
theorem sc_Lasked : FnScope ["_law_mode", "_law_first", "_law_second", "_law_e"] ["_law_mode", "_law_first", "_law_second"] (defScope s_Lasked) := ⟨rfl, rfl, rfl, by decide +kernel, rfl, by decide +kernel, by decide +kernel⟩
theorem sc_Lis_fraction : FnScope ["_law_matter", "_law_part"] ["_law_matter"] (defScope s_Lis_fraction) := ⟨rfl, rfl, rfl, by decide +kernel, rfl, by decide +kernel, by decide +kernel⟩
theorem sc_Ldoors_right : FnScope ["_law_pool_here", "_law_here", "_law_there", "_law_upper", "_law_lower", "_law_odd", "_law_more", "_law_wrong", "_law_none", "_law_mode", "_law_good", "_law_bad", "_law_ahead", "_law_some", "_law_matter"] ["_law_pool_here"] (defScope s_Ldoors_right) := ⟨rfl, rfl, rfl, by decide +kernel, rfl, by decide +kernel, by decide +kernel⟩
theorem sc_law : FnScope ["_law_script", "_law_k", "_law_pool_here", "_law_turn"] ["_law_script"] (defScope s_law) := ⟨rfl, rfl, rfl, by decide +kernel, rfl, by decide +kernel, by decide +kernel⟩
abbrev s_NoNumber : Stmt := top 4
theorem ini_NoNumber : PySem.SupX.Ini (inClass s_NoNumber 0) "place" "place" where
  body := by
    refine ⟨_, _, _, _, _, _, _, _, _, _, _, _, ?_, by with_unfolding_all rfl⟩
    with_unfolding_all rfl
  par0 := ⟨_, _, by with_unfolding_all rfl⟩
  kd := by with_unfolding_all rfl
  co := by with_unfolding_all rfl
  ge := by with_unfolding_all rfl
  cel := by decide +kernel
  sS := by with_unfolding_all rfl
  sC := by with_unfolding_all rfl
  sI := by with_unfolding_all rfl
  sP := by with_unfolding_all rfl
  ne := by decide
  db := by decide
  bnd := fun _ _ _ _ _ _ _ _ _ _ _ => .of_eq (by with_unfolding_all rfl)
structure Adr where
  f_is_whole : Addr
  d_is_whole : FuncData
  f_greatest_divisor : Addr
  d_greatest_divisor : FuncData
  f_is_fraction : Addr
  d_is_fraction : FuncData
  f_lowest : Addr
  d_lowest : FuncData
  f_check_two : Addr
  d_check_two : FuncData
  f_fraction : Addr
  d_fraction : FuncData
  f_plus : Addr
  d_plus : FuncData
  f_minus : Addr
  d_minus : FuncData
  f_times : Addr
  d_times : FuncData
  f_over : Addr
  d_over : FuncData
  f_below : Addr
  d_below : FuncData
  f_is_less : Addr
  d_is_less : FuncData
  f_Lcell : Addr
  d_Lcell : FuncData
  f_Lpool : Addr
  d_Lpool : FuncData
  f_Ltake : Addr
  d_Ltake : FuncData
  f_Llow : Addr
  d_Llow : FuncData
  f_Lsort : Addr
  d_Lsort : FuncData
  f_Lnumber : Addr
  d_Lnumber : FuncData
  f_Lone : Addr
  d_Lone : FuncData
  f_Lodd_number : Addr
  d_Lodd_number : FuncData
  f_Lodd_fraction : Addr
  d_Lodd_fraction : FuncData
  f_Lasked : Addr
  d_Lasked : FuncData
  f_Lis_fraction : Addr
  d_Lis_fraction : FuncData
  f_Ldoors_right : Addr
  d_Ldoors_right : FuncData
  c_ThankError : Addr
  c_LostError : Addr
  c_StandError : Addr
  c_NoNumber : Addr
  i_NoNumber : Addr
  c_NoDeed : Addr
  c_NoBook : Addr
  c_NoWeb : Addr
  c_NoNames : Addr
  c_NoAmount : Addr
  c_NoMany : Addr
  c_NoText : Addr
  c_NoRow : Addr
  c_NoName : Addr
  c_NoLot : Addr
  c_NoPlace : Addr
  c_NoBack : Addr
  c_Fails : Addr
  c_NoMates : Addr
  c_TooMany : Addr
/-- what the top has left -/
structure Tx (P : Program) (K : PySem.W.Frag) (mg : Str → Option Value) (A : Adr) : Prop where
  g_ThankError : mg "ThankError" = some (.ref A.c_ThankError)
  g_LostError : mg "LostError" = some (.ref A.c_LostError)
  g_StandError : mg "StandError" = some (.ref A.c_StandError)
  g_NoNumber : mg "NoNumber" = some (.ref A.c_NoNumber)
  g_NoDeed : mg "NoDeed" = some (.ref A.c_NoDeed)
  g_NoBook : mg "NoBook" = some (.ref A.c_NoBook)
  g_NoWeb : mg "NoWeb" = some (.ref A.c_NoWeb)
  g_NoNames : mg "NoNames" = some (.ref A.c_NoNames)
  g_NoAmount : mg "NoAmount" = some (.ref A.c_NoAmount)
  g_NoMany : mg "NoMany" = some (.ref A.c_NoMany)
  g_NoText : mg "NoText" = some (.ref A.c_NoText)
  g_NoRow : mg "NoRow" = some (.ref A.c_NoRow)
  g_NoName : mg "NoName" = some (.ref A.c_NoName)
  g_NoLot : mg "NoLot" = some (.ref A.c_NoLot)
  g_NoPlace : mg "NoPlace" = some (.ref A.c_NoPlace)
  g_NoBack : mg "NoBack" = some (.ref A.c_NoBack)
  g_Fails : mg "Fails" = some (.ref A.c_Fails)
  g_NoMates : mg "NoMates" = some (.ref A.c_NoMates)
  g_TooMany : mg "TooMany" = some (.ref A.c_TooMany)
  sup_NoNumber : PySem.SupX.Txt P K mg "NoNumber" (inClass s_NoNumber 0) "place" "place" A.c_NoNumber A.i_NoNumber
  err_NoNumber : ErrC K A.c_NoNumber
  ko_NoNumber_NoNumber : PySem.W.kitOne K (.ref A.c_NoNumber) (.ref A.c_NoNumber) = some true
  ko_NoNumber_NoDeed : PySem.W.kitOne K (.ref A.c_NoNumber) (.ref A.c_NoDeed) = some false
  ko_NoNumber_NoBook : PySem.W.kitOne K (.ref A.c_NoNumber) (.ref A.c_NoBook) = some false
  ko_NoNumber_NoWeb : PySem.W.kitOne K (.ref A.c_NoNumber) (.ref A.c_NoWeb) = some false
  ko_NoNumber_NoNames : PySem.W.kitOne K (.ref A.c_NoNumber) (.ref A.c_NoNames) = some false
  ko_NoNumber_NoAmount : PySem.W.kitOne K (.ref A.c_NoNumber) (.ref A.c_NoAmount) = some false
  ko_NoNumber_NoMany : PySem.W.kitOne K (.ref A.c_NoNumber) (.ref A.c_NoMany) = some false
  ko_NoNumber_NoText : PySem.W.kitOne K (.ref A.c_NoNumber) (.ref A.c_NoText) = some false
  ko_NoNumber_NoRow : PySem.W.kitOne K (.ref A.c_NoNumber) (.ref A.c_NoRow) = some false
  ko_NoNumber_NoName : PySem.W.kitOne K (.ref A.c_NoNumber) (.ref A.c_NoName) = some false
  ko_NoNumber_NoLot : PySem.W.kitOne K (.ref A.c_NoNumber) (.ref A.c_NoLot) = some false
  ko_NoNumber_NoPlace : PySem.W.kitOne K (.ref A.c_NoNumber) (.ref A.c_NoPlace) = some false
  ko_NoNumber_NoBack : PySem.W.kitOne K (.ref A.c_NoNumber) (.ref A.c_NoBack) = some false
  ko_NoNumber_Fails : PySem.W.kitOne K (.ref A.c_NoNumber) (.ref A.c_Fails) = some false
  ko_NoNumber_NoMates : PySem.W.kitOne K (.ref A.c_NoNumber) (.ref A.c_NoMates) = some false
  ko_NoNumber_TooMany : PySem.W.kitOne K (.ref A.c_NoNumber) (.ref A.c_TooMany) = some false
  ko_NoNumber_ThankError : PySem.W.kitOne K (.ref A.c_NoNumber) (.ref A.c_ThankError) = some true
  ko_NoNumber_LostError : PySem.W.kitOne K (.ref A.c_NoNumber) (.ref A.c_LostError) = some false
  ko_NoNumber_StandError : PySem.W.kitOne K (.ref A.c_NoNumber) (.ref A.c_StandError) = some false
  ko_NoNumber_ValueError : PySem.W.kitOne K (.ref A.c_NoNumber) (.type "ValueError") = some true
  ko_NoNumber_LookupError : PySem.W.kitOne K (.ref A.c_NoNumber) (.type "LookupError") = some false
  ko_NoNumber_ArithmeticError : PySem.W.kitOne K (.ref A.c_NoNumber) (.type "ArithmeticError") = some false
  ex_NoNumber_ThankError : PySem.W.exmOne K (.ref A.c_NoNumber) (.ref A.c_ThankError) = some true
  m_ArithmeticError : mg "ArithmeticError" = none
  m_LookupError : mg "LookupError" = none
  m_ValueError : mg "ValueError" = none
  m_abs : mg "abs" = none
  m_all : mg "all" = none
  m_bool : mg "bool" = none
  m_divmod : mg "divmod" = none
  m_int : mg "int" = none
  m_isinstance : mg "isinstance" = none
  m_len : mg "len" = none
  m_max : mg "max" = none
  m_min : mg "min" = none
  m_range : mg "range" = none
  m_repr : mg "repr" = none
  m_tuple : mg "tuple" = none
  F_is_whole : Fun K "is_whole" "is_whole" s_is_whole A.f_is_whole A.d_is_whole
  g_is_whole : mg "is_whole" = some (.ref A.f_is_whole)
  b_is_whole : Binds K A.d_is_whole ["thing"] []
  F_greatest_divisor : Fun K "greatest_divisor" "greatest_divisor" s_greatest_divisor A.f_greatest_divisor A.d_greatest_divisor
  g_greatest_divisor : mg "greatest_divisor" = some (.ref A.f_greatest_divisor)
  b_greatest_divisor : Binds K A.d_greatest_divisor ["one", "other"] []
  F_is_fraction : Fun K "is_fraction" "is_fraction" s_is_fraction A.f_is_fraction A.d_is_fraction
  g_is_fraction : mg "is_fraction" = some (.ref A.f_is_fraction)
  b_is_fraction : Binds K A.d_is_fraction ["thing"] []
  F_lowest : Fun K "lowest" "lowest" s_lowest A.f_lowest A.d_lowest
  g_lowest : mg "lowest" = some (.ref A.f_lowest)
  b_lowest : Binds K A.d_lowest ["top", "bottom"] []
  F_check_two : Fun K "check_two" "check_two" s_check_two A.f_check_two A.d_check_two
  g_check_two : mg "check_two" = some (.ref A.f_check_two)
  b_check_two : Binds K A.d_check_two ["one", "other"] []
  F_fraction : FunD K "fraction" "fraction" (defArgs s_fraction) (defBody s_fraction) (defScope s_fraction) [.int 1] [] A.f_fraction A.d_fraction
  g_fraction : mg "fraction" = some (.ref A.f_fraction)
  b_fraction : Binds K A.d_fraction ["top", "bottom"] []
  F_plus : Fun K "plus" "plus" s_plus A.f_plus A.d_plus
  g_plus : mg "plus" = some (.ref A.f_plus)
  b_plus : Binds K A.d_plus ["one", "other"] []
  F_minus : Fun K "minus" "minus" s_minus A.f_minus A.d_minus
  g_minus : mg "minus" = some (.ref A.f_minus)
  b_minus : Binds K A.d_minus ["one", "other"] []
  F_times : Fun K "times" "times" s_times A.f_times A.d_times
  g_times : mg "times" = some (.ref A.f_times)
  b_times : Binds K A.d_times ["one", "other"] []
  F_over : Fun K "over" "over" s_over A.f_over A.d_over
  g_over : mg "over" = some (.ref A.f_over)
  b_over : Binds K A.d_over ["one", "other"] []
  F_below : Fun K "below" "below" s_below A.f_below A.d_below
  g_below : mg "below" = some (.ref A.f_below)
  b_below : Binds K A.d_below ["one", "other"] []
  F_is_less : Fun K "is_less" "is_less" s_is_less A.f_is_less A.d_is_less
  g_is_less : mg "is_less" = some (.ref A.f_is_less)
  b_is_less : Binds K A.d_is_less ["one", "other"] []
  F_Lcell : Fun K "_law_cell" "_law_cell" s_Lcell A.f_Lcell A.d_Lcell
  g_Lcell : mg "_law_cell" = some (.ref A.f_Lcell)
  b_Lcell : Binds K A.d_Lcell ["_law_script", "_law_k"] []
  F_Lpool : Fun K "_law_pool" "_law_pool" s_Lpool A.f_Lpool A.d_Lpool
  g_Lpool : mg "_law_pool" = some (.ref A.f_Lpool)
  b_Lpool : Binds K A.d_Lpool ["_law_cell_here"] []
  F_Ltake : Fun K "_law_take" "_law_take" s_Ltake A.f_Ltake A.d_Ltake
  g_Ltake : mg "_law_take" = some (.ref A.f_Ltake)
  b_Ltake : Binds K A.d_Ltake ["_law_pool_here", "_law_many"] []
  F_Llow : Fun K "_law_low" "_law_low" s_Llow A.f_Llow A.d_Llow
  g_Llow : mg "_law_low" = some (.ref A.f_Llow)
  b_Llow : Binds K A.d_Llow ["_law_upper", "_law_lower"] []
  F_Lsort : Fun K "_law_sort" "_law_sort" s_Lsort A.f_Lsort A.d_Lsort
  g_Lsort : mg "_law_sort" = some (.ref A.f_Lsort)
  b_Lsort : Binds K A.d_Lsort ["_law_e"] []
  F_Lnumber : Fun K "_law_number" "_law_number" s_Lnumber A.f_Lnumber A.d_Lnumber
  g_Lnumber : mg "_law_number" = some (.ref A.f_Lnumber)
  b_Lnumber : Binds K A.d_Lnumber ["_law_pool_here"] []
  F_Lone : Fun K "_law_one" "_law_one" s_Lone A.f_Lone A.d_Lone
  g_Lone : mg "_law_one" = some (.ref A.f_Lone)
  b_Lone : Binds K A.d_Lone ["_law_pool_here"] []
  F_Lodd_number : Fun K "_law_odd_number" "_law_odd_number" s_Lodd_number A.f_Lodd_number A.d_Lodd_number
  g_Lodd_number : mg "_law_odd_number" = some (.ref A.f_Lodd_number)
  b_Lodd_number : Binds K A.d_Lodd_number ["_law_pool_here"] []
  F_Lodd_fraction : Fun K "_law_odd_fraction" "_law_odd_fraction" s_Lodd_fraction A.f_Lodd_fraction A.d_Lodd_fraction
  g_Lodd_fraction : mg "_law_odd_fraction" = some (.ref A.f_Lodd_fraction)
  b_Lodd_fraction : Binds K A.d_Lodd_fraction ["_law_pool_here"] []
  F_Lasked : Fun K "_law_asked" "_law_asked" s_Lasked A.f_Lasked A.d_Lasked
  g_Lasked : mg "_law_asked" = some (.ref A.f_Lasked)
  b_Lasked : Binds K A.d_Lasked ["_law_mode", "_law_first", "_law_second"] []
  F_Lis_fraction : Fun K "_law_is_fraction" "_law_is_fraction" s_Lis_fraction A.f_Lis_fraction A.d_Lis_fraction
  g_Lis_fraction : mg "_law_is_fraction" = some (.ref A.f_Lis_fraction)
  b_Lis_fraction : Binds K A.d_Lis_fraction ["_law_matter"] []
  F_Ldoors_right : Fun K "_law_doors_right" "_law_doors_right" s_Ldoors_right A.f_Ldoors_right A.d_Ldoors_right
  g_Ldoors_right : mg "_law_doors_right" = some (.ref A.f_Ldoors_right)
  b_Ldoors_right : Binds K A.d_Ldoors_right ["_law_pool_here"] []
  kb0_is_fraction_thing : KBn K A.d_is_fraction ["thing"] 0 ["thing"] (fun _ zs => zs) (fun _ zs => zs)
  kb0_below_other_one : KBn K A.d_below ["one", "other"] 0 ["other", "one"] (fun _ zs => pick [1, 0] zs) (fun _ zs => pick [1, 0] zs)
  kb0_over_other_one : KBn K A.d_over ["one", "other"] 0 ["other", "one"] (fun _ zs => pick [1, 0] zs) (fun _ zs => pick [1, 0] zs)
  kb0_times_other_one : KBn K A.d_times ["one", "other"] 0 ["other", "one"] (fun _ zs => pick [1, 0] zs) (fun _ zs => pick [1, 0] zs)
  kb0_minus_other_one : KBn K A.d_minus ["one", "other"] 0 ["other", "one"] (fun _ zs => pick [1, 0] zs) (fun _ zs => pick [1, 0] zs)
  kb0_plus_other_one : KBn K A.d_plus ["one", "other"] 0 ["other", "one"] (fun _ zs => pick [1, 0] zs) (fun _ zs => pick [1, 0] zs)
  kb0_fraction_bottom_top : KBn K A.d_fraction ["top", "bottom"] 0 ["bottom", "top"] (fun _ zs => pick [1, 0] zs) (fun _ zs => pick [1, 0] zs)
local macro_rules | `(tactic| walk_at "w") => `(tactic| first
  | with_reducible refine wSeq ?_
  | with_reducible refine wAsg ?_
  | with_reducible refine wOp ?_
  | with_reducible refine wVar (by with_unfolding_all exact rfl) ?_
  | with_reducible refine wC ?_
  | with_reducible refine wRet ?_
  | with_reducible refine wIfS ?_
  | with_reducible refine wI0 ?_
  | with_reducible refine wCons ?_
  | with_reducible refine wNil ?_
  | with_reducible refine wCB ?_
  | with_reducible refine wCall ?_
  | with_reducible refine wCallN ?_
  | with_reducible refine wTest ?_
  | with_reducible refine wB ?_
  | with_reducible refine exBl ?_
  | with_reducible refine exInt ?_
  | with_reducible refine exI1 ?_
  | with_reducible refine exI2 ?_
  | with_reducible refine exStr ?_
  | with_reducible refine wSlS (by with_unfolding_all walk_at "sl") ?_
  | with_reducible refine anSum (by with_unfolding_all walk_at "sl") ?_
  | with_reducible refine exSS ?_
  | with_reducible refine exCS ?_
  | with_reducible refine wLc ?_
  | with_reducible refine wFor ?_
  | with_reducible refine wWhile ?_
  | with_reducible refine wOrT ?_
  | with_reducible refine wIList ?_
  | with_reducible refine wITup ?_
  | with_reducible refine wIStr ?_
  | with_reducible refine wIRng1 ?_
  | with_reducible refine anSz (by with_unfolding_all exact Nat.le_of_ble_eq_true rfl) ?_
  | with_reducible refine anStr ?_
  | with_reducible refine wName ?_
  | with_reducible refine iteT ?_
  | with_reducible refine iteF ?_
  | with_reducible refine iteNT ?_
  | with_reducible refine iteNF ?_
  | with_reducible refine wIsiS ?_
  | with_reducible refine wIsiB ?_
  | with_reducible refine wAnd ?_
  | with_reducible refine wOr ?_
  | with_reducible refine wNot ?_
  | with_reducible refine wAndV ?_
  | with_reducible refine wOrV ?_
  | with_reducible refine wNotV ?_
  | with_reducible refine wIf ?_
  | with_reducible refine wChain ?_
  | with_reducible refine wTup ?_
  | with_reducible refine wLst ?_
  | with_reducible refine wSl ?_
  | with_reducible refine wDnew ?_
  | with_reducible refine wPart ?_
  | with_reducible refine wNoPart ?_
  | with_reducible refine wBM ?_
  | with_reducible refine wBM0 ?_
  | with_reducible refine wM0 ?_
  | with_reducible refine wM1 ?_
  | with_reducible refine wUn ?_
  | with_reducible refine wU ?_
  | with_reducible refine wDrop ?_
  | with_reducible refine wNext ?_
  | with_reducible refine wPar ?_
  | with_reducible refine exTwo ?_
  | with_reducible refine wSub ?_
  | with_reducible refine wGCons ?_
  | with_reducible refine wGNil ?_
  | with_reducible refine wDGet ?_
  | with_reducible refine wDIn ?_
  | with_reducible refine wDNotIn ?_
  | with_reducible refine wPairs ?_
  | with_reducible refine wPairs0 ?_
  | with_reducible refine wPar3 ?_
  | with_reducible refine wCallS ?_
  | with_reducible refine wCallSN ?_
  | with_reducible refine wCallP ?_
  | with_reducible refine exThree ?_
  | ((with_reducible refine wEq ?h1 ?_); (case h1 => exact rfl))
  | ((with_reducible refine wNe ?h1 ?_); (case h1 => exact rfl))
  | with_reducible refine wIxL (SqL.of (by with_unfolding_all assumption)) (by with_unfolding_all exact rfl) ?_
  | with_reducible refine wIxT (SqT.of (by with_unfolding_all assumption)) (by with_unfolding_all exact rfl) ?_
  | with_reducible refine wIxL (SqL.of upd_same) (by with_unfolding_all exact rfl) ?_
  | with_reducible refine wSetL upd_same (by with_unfolding_all exact rfl) ?_
  | with_reducible refine wSetL (by with_unfolding_all assumption) (by with_unfolding_all exact rfl) ?_
  | ((with_reducible refine wI ?h1 ?_); (case h1 => walk_at "wc"))
  | with_reducible refine iteNS (by with_unfolding_all exact rfl) ?_
  | dsimp only [])
local macro_rules | `(tactic| walk_at "ww") => `(tactic| repeat (walk_at "w"))
local macro_rules | `(tactic| walk_at "wc") => `(tactic| first
  | exact wide_mul (by assumption) (by assumption) (by omega) (by omega) (by omega)
  | exact .inl ⟨by omega, by omega⟩
  | exact .inr ⟨by omega, by omega⟩
  | exact ⟨by omega, by omega⟩
  | exact ⟨by decide, by decide⟩
  | exact ⟨by decide, by decide, by decide⟩
  | (show (0 : Int) < _; omega)
  | (show _ ≠ (0 : Int); omega))
local macro_rules | `(tactic| walk_at "sl") => `(tactic| (refine sz6 ?_; (try simp only [app_len]); omega))
local macro_rules | `(tactic| walk_at "lk") => `(tactic| first | assumption | exact Ex.get (by assumption) (by walk_at "lk"))
local macro_rules | `(tactic| walk_at "things") => `(tactic| ((repeat' (first | exact List.forall_mem_nil _ | refine List.forall_mem_append.mpr ⟨?_, ?_⟩ | refine List.forall_mem_cons.mpr ⟨?_, ?_⟩)) <;> first
  | exact Thing.n | exact Thing.b | exact Thing.i | exact Thing.s (by decide +kernel) | exact Thing.t (by walk_at "lk") | exact Thing.l (by walk_at "lk") | exact Thing.d (by walk_at "lk")))
section
variable {P : Program} {w : World} {K : PySem.W.Frag} {mg : Str → Option Value} {base : Heap} {A : Adr}
/-- a pool: a state, digits, how many were taken -/
def Pool (H : Hp) (p : Addr) : Prop := ∃ s g n : Int, H p = some (.lst [.int s, .int g, .int n]) ∧ 0 ≤ s ∧ s < 2147483423 ∧ 0 ≤ g
theorem Pool.ne {H : Hp} {p q : Addr} (h : Pool H p) (hq : H q = none) : q ≠ p := fun e => by
  obtain ⟨_, _, _, h, _⟩ := h
  rw [← e, hq] at h
  cases h
theorem Pool.upd {H : Hp} {p q : Addr} {o : HO} (h : Pool H p) (n : q ≠ p) : Pool (upd H q o) p := by
  obtain ⟨s, g, m, h, r⟩ := h
  exact ⟨s, g, m, (upd_ne n.symm).trans h, r⟩
theorem Pool.ex {H H' : Hp} {p : Addr} (h : Pool H p) (e : Ex H H') : Pool H' p := by
  obtain ⟨s, g, m, h, r⟩ := h
  exact ⟨s, g, m, e _ _ h, r⟩
/-- a number to draw by -/
def Sm (m : Int) : Prop := 0 < m ∧ m.natAbs.log2 < 9000
theorem Sm.of {m : Int} (h : 0 < m) (h1 : m < 1073741824) : Sm m := by
  refine ⟨h, ?_⟩
  have : m.natAbs.log2 < 30 := (Nat.log2_lt (by omega)).mpr (by omega)
  omega
def spTake : Sp := fun vs H Q _ => ∃ (p : Addr) (m : Int), vs = [.ref p, .int m] ∧ Pool H p ∧ Sm m ∧ ∀ d H', 0 ≤ d → d < m → Kp p H H' → Pool H' p → Q (.int d) H'
def spPool : Sp := fun vs H Q _ => ∃ c : Int, vs = [.int c] ∧ ∀ p H', H p = none → Ex H H' → Pool H' p → Q (.ref p) H'
def spCell (K : PySem.W.Frag) : Sp := fun vs H Q _ => ∃ (a : Addr) (ns : List Int) (k : Int), vs = [.ref a, .int k] ∧ SqL K H a (ns.map V.int) ∧ ns.length ≤ 63 ∧ 0 ≤ k ∧ k ≤ 63 ∧ ∀ c H', Ex H H' → Q (.int c) H'
theorem ok_Ltake (T : Tx P K mg A) : FnOk P w K mg base CX0 1 A.f_Ltake A.d_Ltake ["_law_pool_here", "_law_many"] spTake := by
  refine T.F_Ltake.ok sc_Ltake (fun vs H Q E h => ?_) (fun cdv A' outer s H vs Q E hr h => ?_)
  · obtain ⟨p, m, rfl, _⟩ := h
    rfl
  · obtain ⟨p, m, rfl, ⟨s, g, n, hp, hs0, hs1, hg⟩, ⟨hm0, hm1⟩, k⟩ := h
    refine ⟨_, (pss_cons (ps_asg (pe_op op_add (pe_ix (ix_listV (K := K) rfl) (pv 0) pe_int (fun _ _ => rfl)) pe_int) (pg_sub (pv 0) pe_int set_list))
    (pss_cons (ps_set (i := 2) sc_Ltake.nd rfl (Or.inl rfl) (pe_ix (ix_listV (K := K) rfl) (pv 0) pe_int (fun _ _ => rfl)))
    (pss_cons (ps_asg (pe_op op_mod (pe_op op_add (pe_op op_mul (pv 2) (pe_op op_add (pe_op op_mod (pv 2) pe_int) pe_int)) (pe_op op_mul pe_int (pe_ix (ix_listV (K := K) rfl) (pv 0) pe_int (fun _ _ => rfl)))) pe_int) (pg_sub (pv 0) pe_int set_list))
    (pss_cons (ps_if (pt_cmpR op_gt (pe_ix (ix_listV (K := K) rfl) (pv 0) pe_int (fun _ _ => rfl)) pe_int (nomark _))
    (pss_cons (ps_asg (pe_callB call_divmodW (by rfl) T.m_divmod (by decide +kernel) (pa_cons (pe_ix (ix_listV (K := K) rfl) (pv 0) pe_int (fun _ _ => rfl)) (pa_cons (pv 1) pa_nil))) (pg_tupV (K := K) (n := 2) rfl rfl (pgs_cons (pg_sub (pv 0) pe_int set_list) (pgs_cons (pg_name (i := 3) sc_Ltake.nd rfl (Or.inl rfl)) pgs_nil)) rfl))
      (pss_one (ps_ret (pv 3))))
    pss_nil)
    (pss_one (ps_ret (pe_op op_mod (pe_op op_fdiv (pe_ix (ix_listV (K := K) rfl) (pv 0) pe_int (fun _ _ => rfl)) pe_int) (pv 1)))))))), ?_⟩
    walk_at "ww"
    have q1 : ∀ x : Int, 0 ≤ x % 2147483423 ∧ x % 2147483423 < 2147483423 := fun x => by omega
    have keep : ∀ (o : HO) (H1 : Hp), Kp p H H1 → Kp p H (upd H1 p o) := fun o H1 e => e.trans Kp.set
    refine ite2 (fun c => ?_) (fun c => ?_)
    · walk_at "ww"
      refine ⟨⟨hm0, PyProof.noPylong_of_log2 hm1⟩, fun t nt => ?_⟩
      have ntp : p ≠ t := fun e => by
        rw [← e, upd_same] at nt
        cases nt
      refine wGTup (SqT.of upd_same) rfl ?_
      walk_at "ww"
      refine wSetL ((upd_ne ntp).trans upd_same) rfl ?_
      walk_at "ww"
      refine k _ _ (Int.emod_nonneg _ (by omega)) (Int.emod_lt_of_pos _ hm0) ?_ ⟨_, _, _, upd_same, (q1 _).1, (q1 _).2, Int.ediv_nonneg hg (by omega)⟩
      refine Kp.trans (Kp.trans (keep _ _ Kp.set) (Kp.new nt)) Kp.set
    · walk_at "ww"
      exact k _ _ (Int.emod_nonneg _ (by omega)) (Int.emod_lt_of_pos _ hm0) (keep _ _ Kp.set) ⟨_, _, _, upd_same, (q1 _).1, (q1 _).2, hg⟩
theorem ok_Lpool (T : Tx P K mg A) : FnOk P w K mg base CX0 1 A.f_Lpool A.d_Lpool ["_law_cell_here"] spPool := by
  refine T.F_Lpool.ok sc_Lpool (fun vs H Q E h => ?_) (fun cdv A' outer s H vs Q E hr h => ?_)
  · obtain ⟨c, rfl, _⟩ := h
    rfl
  · obtain ⟨c, rfl, k⟩ := h
    refine ⟨_, (pss_cons (ps_set (i := 1) sc_Lpool.nd rfl (Or.inl rfl) pe_int)
    (pss_cons (ps_if (PW.pt (pw_or (pt_cmpR op_lt (pv 0) pe_int (nomark _)) (pw_or1 (pt_cmpR op_ge (pv 0) (pe_op op_pow pe_int pe_int) (nomark _)))))
    (pss_one (ps_set (i := 1) sc_Lpool.nd rfl (Or.inl rfl) (pe_callB call_abs (by rfl) T.m_abs (by decide +kernel) (pa_cons (pv 0) pa_nil))))
    pss_nil)
    (pss_one (ps_ret (pe_lst (pa_cons (pe_op op_mod (pv 0) pe_int) (pa_cons (pv 1) (pa_cons pe_int pa_nil)))))))), ?_⟩
    have fin : ∀ g : Int, 0 ≤ g → ∀ p, H p = none → Q (.ref p) (upd H p (.lst [.int (c % 2147483423), .int g, .int 0])) := fun g hg p hp =>
      k p _ hp (Ex.new hp) ⟨_, _, _, upd_same, by omega, by omega, hg⟩
    walk_at "ww"
    refine ite2 (fun c1 => ?_) (fun c1 => ?_)
    · walk_at "ww"
      exact fun p hp => fin _ (by split <;> omega) p hp
    · walk_at "ww"
      refine ite2 (fun c2 => ?_) (fun c2 => ?_)
      · walk_at "ww"
        exact fun p hp => fin _ (by split <;> omega) p hp
      · walk_at "ww"
        exact fun p hp => fin _ (by omega) p hp
theorem ok_Lcell (T : Tx P K mg A) : FnOk P w K mg base CX0 1 A.f_Lcell A.d_Lcell ["_law_script", "_law_k"] (spCell K) := by
  refine T.F_Lcell.ok sc_Lcell (fun vs H Q E h => ?_) (fun cdv A' outer s H vs Q E hr h => ?_)
  · obtain ⟨a, ns, c, rfl, _⟩ := h
    rfl
  · obtain ⟨a, ns, c, rfl, hS, hlen, h0, h63, k⟩ := h
    refine ⟨_, (pss_cons (ps_if (pt_cmpR op_lt (pv 1) (pe_callB (call_lenV (K := K) rfl) (by rfl) T.m_len (by decide +kernel) (pa_cons (pv 0) pa_nil)) (nomark _))
    (pss_one (ps_ret (pe_ix (ix_listV (K := K) rfl) (pv 0) (pv 1) (fun _ _ => rfl))))
    pss_nil)
    (pss_cons (ps_set (i := 2) sc_Lcell.nd rfl (Or.inl rfl) (pe_op op_mod (pe_op op_mul pe_int (pe_op op_add (pe_op op_add (pe_op op_mul (pv 1) (pv 1)) (pe_op op_mul pe_int (pv 1))) pe_int)) pe_int))
    (pss_cons (ps_for PassesOwn.never rfl (pi_listV (K := K) rfl (pe_slice (sl_listV (K := K) rfl) (pv 0) po_none (po_some pe_int))) (pg_name (i := 3) sc_Lcell.nd rfl (Or.inl rfl))
    (pss_one (ps_set (i := 2) sc_Lcell.nd rfl (Or.inl rfl) (pe_op op_mod (pe_op op_add (pe_op op_mul (pv 2) pe_int) (pv 3)) pe_int))))
    (pss_one (ps_ret (pv 2)))))), ?_⟩
    walk_at "ww"
    refine wLenL hS ?_
    walk_at "ww"
    refine ite2 (fun c1 => ?_) (fun c1 => ?_)
    · walk_at "ww"
      have h1 : c.toNat < ns.length := by
        have := of_decide_eq_true c1
        rw [List.length_map] at this
        omega
      refine wIxL hS (at_of (j := c.toNat) (by omega) (by rw [List.getElem?_map, List.getElem?_eq_getElem h1]; rfl)) ?_
      exact k _ _ (Ex.refl H)
    · walk_at "ww"
      refine wSlL hS fun l hl => ?_
      walk_at "ww"
      refine exSq (SqL.of upd_same) ?_
      have el : cutV (ns.map V.int) none (some 3) = (ns.take 3).map V.int := by
        unfold cutV
        rw [HT.sIx_none, show HT.sIx (ns.map V.int).length (ns.map V.int).length (some 3) = min 3 (ns.map V.int).length from HT.sIx_nat _ _ 3, List.map_take]
        simp
      rw [el]
      refine for_list (K := K) (a := l) (xs := (ns.take 3).map V.int) (fun i σ H2 => ∃ (s : Int) (v : Option V), σ = [some (.ref a), some (.int c), some (.int s), v] ∧ 0 ≤ s ∧ s < 2147483423 ∧ Ex (upd H l (.lst ((ns.take 3).map V.int))) H2)
        ⟨_, none, rfl, by omega, by omega, Ex.refl _⟩ (fun i σ H2 _ ⟨_, _, _, _, _, e⟩ => SqL.of (e _ _ upd_same)) ?_ ?_
      · rintro i y σ H2 hi ⟨s, v, rfl, hs0, hs1, e⟩
        obtain ⟨z, rfl⟩ : ∃ z, y = V.int z := by
          rw [List.getElem?_map] at hi
          obtain ⟨z, _, hz⟩ := Option.map_eq_some_iff.mp hi
          exact ⟨z, hz.symm⟩
        walk_at "ww"
        exact ⟨_, _, rfl, by omega, by omega, e⟩
      · rintro σ H2 ⟨s, v, rfl, hs0, hs1, e⟩
        walk_at "ww"
        exact k _ _ ((Ex.new hl).trans e)
/-! the program's fractions -/
def isIntV : V → Bool
  | .int _ => true
  | _ => false
def spWhole (K : PySem.W.Frag) : Sp := fun vs H Q _ => ∃ v n, vs = [v] ∧ Ty K H v n ∧ Q (.bl (isIntV v)) H
theorem ok_is_whole (T : Tx P K mg A) : FnOk P w K mg base CX0 1 A.f_is_whole A.d_is_whole ["thing"] (spWhole K) := by
  refine T.F_is_whole.ok sc_is_whole (fun vs H Q E h => ?_) (fun cdv A' outer s H vs Q E hr h => ?_)
  · obtain ⟨v, n, rfl, _⟩ := h
    rfl
  · obtain ⟨v, n, rfl, ty, k⟩ := h
    refine ⟨_, (pss_one (ps_ret (pe_and (pe_callB (call_isiV (K := K) rfl) (by rfl) T.m_isinstance (by decide +kernel) (pa_cons (pv 0) (pa_cons (pe_bltn (v := .ty "int") (by rfl) T.m_int (by decide +kernel) rfl) pa_nil))) (pe_one (pe_not (pe_callB (call_isiV (K := K) rfl) (by rfl) T.m_isinstance (by decide +kernel) (pa_cons (pv 0) (pa_cons (pe_bltn (v := .ty "bool") (by rfl) T.m_bool (by decide +kernel) rfl) pa_nil)))))))), ?_⟩
    walk_at "ww"
    have e1 : kitB "NoneType" "int" = some false := by decide +kernel
    have e2 : kitB "bool" "int" = some true := by decide +kernel
    have e3 : kitB "int" "int" = some true := by decide +kernel
    have e4 : kitB "str" "int" = some false := by decide +kernel
    have e5 : kitB "list" "int" = some false := by decide +kernel
    have e6 : kitB "tuple" "int" = some false := by decide +kernel
    have e7 : kitB "dict" "int" = some false := by decide +kernel
    have b2 : kitB "bool" "bool" = some true := by decide +kernel
    have b3 : kitB "int" "bool" = some false := by decide +kernel
    cases ty with
    | non => refine wIsi .non e1 ?_; walk_at "ww"; exact k
    | str z => refine wIsi (.str z) e4 ?_; walk_at "ww"; exact k
    | lst h => refine wIsi (.lst h) e5 ?_; walk_at "ww"; exact k
    | tup h => refine wIsi (.tup h) e6 ?_; walk_at "ww"; exact k
    | dK h => refine wIsi (.dK h) e7 ?_; walk_at "ww"; exact k
    | kT h c => refine wIsi (.kT h c) e6 ?_; walk_at "ww"; exact k
    | bl b =>
      refine wIsi (.bl b) e2 ?_
      walk_at "ww"
      exact k
    | int i =>
      refine wIsi (.int i) e3 ?_
      walk_at "ww"
      refine wIsi (.int i) b3 ?_
      walk_at "ww"
      exact k
def spGd : Sp := fun vs H Q _ => ∃ a b : Int, vs = [.int a, .int b] ∧ Q (.int (a.gcd b : Nat)) H
theorem ok_greatest_divisor (T : Tx P K mg A) : FnOk P w K mg base CX0 1 A.f_greatest_divisor A.d_greatest_divisor ["one", "other"] spGd := by
  refine T.F_greatest_divisor.ok sc_greatest_divisor (fun vs H Q E h => ?_) (fun cdv A' outer s H vs Q E hr h => ?_)
  · obtain ⟨a, b, rfl, _⟩ := h
    rfl
  · obtain ⟨a, b, rfl, k⟩ := h
    refine ⟨_, (pss_cons (ps_while PassesOwn.never (pt_cmpR op_ne (pv 1) pe_int (nomark _))
    (pss_one (ps_par (i := 0) (j := 1) (by rfl) sc_greatest_divisor.nd rfl rfl (by decide) rfl rfl (pa_cons (pv 1) (pa_cons (pe_op op_modN (pv 0) (pv 1)) pa_nil)) (by rfl))))
    (pss_one (ps_ret (pe_callB call_abs (by rfl) T.m_abs (by decide +kernel) (pa_cons (pv 0) pa_nil))))), ?_⟩
    walk_at "ww"
    refine ⟨fun m σ H' => ∃ x y : Int, σ = [some (.int x), some (.int y)] ∧ H' = H ∧ x.gcd y = a.gcd b ∧ y.natAbs = m, ⟨_, a, b, rfl, rfl, rfl, rfl⟩, ?_⟩
    rintro m σ H' ⟨x, y, rfl, rfl, hg, hm⟩
    walk_at "ww"
    refine ite2 (fun c => ?_) (fun c => ?_)
    · have hy : y ≠ 0 := fun e => by simp [e] at c
      refine ⟨fun σ' H'' => ∃ x' y' : Int, σ' = [some (.int x'), some (.int y')] ∧ H'' = H' ∧ x'.gcd y' = a.gcd b ∧ y'.natAbs < m, fun σ' H'' ⟨x', y', e1, e2, e3, e4⟩ => ⟨_, e4, x', y', e1, e2, e3, rfl⟩, ?_⟩
      walk_at "ww"
      exact ⟨_, _, rfl, rfl, (Fr.gcd_turn x hy).trans hg, by have := Fr.fmod_less x hy; omega⟩
    · have hy : y = 0 := by simpa using c
      walk_at "ww"
      have e : (if x < 0 then -x else x) = ((a.gcd b : Nat) : Int) := by
        rw [hy, Int.gcd_zero_right] at hg
        rw [← hg]
        split <;> omega
      rw [e]
      exact k

/-- what a thing is as a fraction: its numbers, none -/
inductive FrQ (K : PySem.W.Frag) (H : Hp) : V → Option (Int × Int) → Prop
  | kind {v n} (h : Ty K H v n) (ne : kitB n "tuple" = some false) : FrQ K H v none
  | len {a xs} (h : H a = some (.tup xs)) (ne : xs.length ≠ 2) (few : xs.length ≤ 100) : FrQ K H (.ref a) none
  | item {a x y n m} (h : H a = some (.tup [x, y])) (hx : Ty K H x n) (hy : Ty K H y m) (no : (isIntV x && isIntV y) = false) : FrQ K H (.ref a) none
  | low {a p q} (h : H a = some (.tup [.int p, .int q])) (no : ¬ Fr.IsFr p q) (bp : p.natAbs < 2 ^ 200) (bq : q.natAbs < 2 ^ 200) : FrQ K H (.ref a) none
  | yes {a p q} (h : H a = some (.tup [.int p, .int q])) (is_ : Fr.IsFr p q) (bp : p.natAbs < 2 ^ 200) (bq : q.natAbs < 2 ^ 200) : FrQ K H (.ref a) (some (p, q))
theorem FrQ.ex {H H' : Hp} {v : V} {o : Option (Int × Int)} (e : Ex H H') (h : FrQ K H v o) : FrQ K H' v o := by
  cases h with
  | kind h ne => exact .kind (h.ex e) ne
  | len h ne few => exact .len (e _ _ h) ne few
  | item h hx hy no => exact .item (e _ _ h) (hx.ex e) (hy.ex e) no
  | low h no bp bq => exact .low (e _ _ h) no bp bq
  | yes h i bp bq => exact .yes (e _ _ h) i bp bq
def spIsFr (K : PySem.W.Frag) : Sp := fun vs H Q _ => ∃ v o, vs = [v] ∧ FrQ K H v o ∧ Q (.bl o.isSome) H
theorem gcd_one {p q : Int} : decide (V.int ((p.gcd q : Nat) : Int) = V.int 1) = decide (p.gcd q = 1) := by
  by_cases h : p.gcd q = 1
  · rw [h]
    rfl
  · rw [decide_eq_false h]
    exact decide_eq_false fun z => h (by have := V.int.inj z; omega)
theorem ok_is_fraction (T : Tx P K mg A) : FnOk P w K mg base CX0 2 A.f_is_fraction A.d_is_fraction ["thing"] (spIsFr K) := by
  refine T.F_is_fraction.ok sc_is_fraction (fun vs H Q E h => ?_) (fun cdv A' outer s H vs Q E hr h => ?_)
  · obtain ⟨v, o, rfl, _⟩ := h
    rfl
  · obtain ⟨v, o, rfl, h, k⟩ := h
    refine ⟨_, (pss_cons (ps_if (PW.pt (pw_or (pt_not (pt_val (pe_callB (call_isiV (K := K) rfl) (by rfl) T.m_isinstance (by decide +kernel) (pa_cons (pv 0) (pa_cons (pe_bltn (v := .ty "tuple") (by rfl) T.m_tuple (by decide +kernel) rfl) pa_nil))))) (pw_or1 (pt_cmpR op_ne (pe_callB (call_lenV (K := K) rfl) (by rfl) T.m_len (by decide +kernel) (pa_cons (pv 0) pa_nil)) pe_int (nomark _)))))
    (pss_one (ps_ret pe_bl))
    pss_nil)
    (pss_cons (ps_asg (pv 0) (pg_tupV (K := K) (n := 2) rfl rfl (pgs_cons (pg_name (i := 1) sc_is_fraction.nd rfl (Or.inl rfl)) (pgs_cons (pg_name (i := 2) sc_is_fraction.nd rfl (Or.inl rfl)) pgs_nil)) rfl))
    (pss_cons (ps_if (PW.pt (pw_or (pt_not (pt_val (pe_call (ok_is_whole T) (hr.mono (by decide)) (by rfl) T.g_is_whole T.F_is_whole.kp T.b_is_whole .nil pass0 (pa_cons (pv 1) pa_nil)))) (pw_or1 (pt_not (pt_val (pe_call (ok_is_whole T) (hr.mono (by decide)) (by rfl) T.g_is_whole T.F_is_whole.kp T.b_is_whole .nil pass0 (pa_cons (pv 2) pa_nil)))))))
    (pss_one (ps_ret pe_bl))
    pss_nil)
    (pss_one (ps_ret (pe_and (pe_cmpR op_ge (pv 2) pe_int (nomark _)) (pe_one (pe_cmpR op_eq (pe_call (ok_greatest_divisor T) (hr.mono (by decide)) (by rfl) T.g_greatest_divisor T.F_greatest_divisor.kp T.b_greatest_divisor .nil pass0 (pa_cons (pv 1) (pa_cons (pv 2) pa_nil))) pe_int (nomark _))))))))), ?_⟩
    have tt : kitB "tuple" "tuple" = some true := by decide +kernel
    walk_at "ww"
    cases h with
    | kind h ne =>
      refine wIsi h ne ?_
      walk_at "ww"
      exact k
    | len h ne few =>
      refine wIsi (.tup h) tt ?_
      walk_at "ww"
      refine wLenT (SqT.of h) ?_
      walk_at "ww"
      rw [decide_eq_false (fun z => ne (by have := V.int.inj z; omega))]
      walk_at "ww"
      exact k
    | item h hx hy no =>
      refine wIsi (.tup h) tt ?_
      walk_at "ww"
      refine wLenT (SqT.of h) ?_
      walk_at "ww"
      refine wGTup (SqT.of h) rfl ?_
      walk_at "ww"
      refine ⟨_, _, rfl, hx, ?_⟩
      rename_i x y _ _
      cases ix : isIntV x with
      | false =>
        walk_at "ww"
        exact k
      | true =>
        walk_at "ww"
        refine ⟨_, _, rfl, hy, ?_⟩
        have iy : isIntV y = false := by rw [ix] at no; exact no
        rw [iy]
        walk_at "ww"
        exact k
    | low h no bp bq =>
      refine wIsi (.tup h) tt ?_
      walk_at "ww"
      refine wLenT (SqT.of h) ?_
      walk_at "ww"
      refine wGTup (SqT.of h) rfl ?_
      rename_i p q
      walk_at "ww"
      refine ⟨_, _, rfl, .int p, ?_⟩
      simp only [isIntV]
      walk_at "ww"
      refine ⟨_, _, rfl, .int q, ?_⟩
      simp only [isIntV]
      walk_at "ww"
      by_cases h1 : 1 ≤ q
      · rw [decide_eq_true h1]
        walk_at "ww"
        refine ⟨p, q, rfl, ?_⟩
        walk_at "ww"
        rw [gcd_one, decide_eq_false fun z => no ⟨h1, z⟩]
        exact k
      · rw [decide_eq_false h1]
        walk_at "ww"
        exact k
    | yes h is_ bp bq =>
      refine wIsi (.tup h) tt ?_
      walk_at "ww"
      refine wLenT (SqT.of h) ?_
      walk_at "ww"
      refine wGTup (SqT.of h) rfl ?_
      rename_i p q
      walk_at "ww"
      refine ⟨_, _, rfl, .int p, ?_⟩
      simp only [isIntV]
      walk_at "ww"
      refine ⟨_, _, rfl, .int q, ?_⟩
      simp only [isIntV]
      walk_at "ww"
      rw [decide_eq_true is_.1]
      walk_at "ww"
      refine ⟨p, q, rfl, ?_⟩
      walk_at "ww"
      rw [gcd_one, decide_eq_true is_.2]
      exact k
def spLow : Sp := fun vs H Q _ => ∃ (t b : Int) (n : Nat), vs = [.int t, .int b] ∧ b ≠ 0 ∧ b.natAbs < 2 ^ n ∧ 1 ≤ n ∧ n ≤ 9000 ∧ ∀ p H', H p = none → Ex H H' → H' p = some (.tup [.int (Fr.frT t b), .int (Fr.frB t b)]) → Q (.ref p) H'
theorem ok_lowest (T : Tx P K mg A) : FnOk P w K mg base CX0 2 A.f_lowest A.d_lowest ["top", "bottom"] spLow := by
  refine T.F_lowest.ok sc_lowest (fun vs H Q E h => ?_) (fun cdv A' outer s H vs Q E hr h => ?_)
  · obtain ⟨t, b, n, rfl, _⟩ := h
    rfl
  · obtain ⟨t, b, n, rfl, hb, bb, n1, n9, k⟩ := h
    refine ⟨_, (pss_cons (ps_set (i := 2) sc_lowest.nd rfl (Or.inl rfl) (pe_call (ok_greatest_divisor T) (hr.mono (by decide)) (by rfl) T.g_greatest_divisor T.F_greatest_divisor.kp T.b_greatest_divisor .nil pass0 (pa_cons (pv 0) (pa_cons (pv 1) pa_nil))))
    (pss_cons (ps_if (pt_cmpR op_lt (pv 1) pe_int (nomark _))
    (pss_one (ps_set (i := 2) sc_lowest.nd rfl (Or.inl rfl) (pe_un un_neg (pv 2))))
    pss_nil)
    (pss_one (ps_ret (pe_tup (pa_cons (pe_op op_fdivZ (pv 0) (pv 2)) (pa_cons (pe_op op_fdivZ (pv 1) (pv 2)) pa_nil))))))), ?_⟩
    have dz : ∀ i : Int, CDivZ i (Fr.frD t b) := fun i => divz (Fr.frD_ne hb) (Nat.lt_of_le_of_lt (Fr.frD_le hb) bb) n1 n9
    walk_at "ww"
    refine ⟨t, b, rfl, ?_⟩
    walk_at "ww"
    refine ite2 (fun c => ?_) (fun c => ?_)
    · have eD : -((t.gcd b : Nat) : Int) = Fr.frD t b := by unfold Fr.frD; rw [if_pos (of_decide_eq_true c)]
      walk_at "ww"
      rw [eD]
      refine wI (dz _) ?_
      walk_at "ww"
      refine wI (dz _) ?_
      walk_at "ww"
      exact alI fun p H' n e f => k p H' n e f
    · have eD : ((t.gcd b : Nat) : Int) = Fr.frD t b := by unfold Fr.frD; rw [if_neg (fun z => c (decide_eq_true z))]
      walk_at "ww"
      rw [eD]
      refine wI (dz _) ?_
      walk_at "ww"
      refine wI (dz _) ?_
      walk_at "ww"
      exact alI fun p H' n e f => k p H' n e f
theorem mulB {i j : Int} {n : Nat} (a : i.natAbs < 2 ^ n) (b : j.natAbs < 2 ^ n) : (i * j).natAbs < 2 ^ (2 * n + 1) := by
  have h := wide_lt a b
  refine Nat.lt_of_lt_of_le h (Nat.pow_le_pow_right (by omega) (by omega))
theorem addB {i j k l : Int} {n : Nat} (a : i.natAbs < 2 ^ n) (b : j.natAbs < 2 ^ n) (c : k.natAbs < 2 ^ n) (d : l.natAbs < 2 ^ n) : (i * j + k * l).natAbs < 2 ^ (2 * n + 1) ∧ (i * j - k * l).natAbs < 2 ^ (2 * n + 1) := by
  have h1 := wide_lt a b
  have h2 := wide_lt c d
  have e : 2 ^ (2 * n + 1) = 2 ^ (n + n) + 2 ^ (n + n) := by
    rw [show 2 * n + 1 = (n + n) + 1 by omega, Nat.pow_succ]
    omega
  omega
theorem nz {q s : Int} (h1 : 1 ≤ q) (h2 : 1 ≤ s) : q * s ≠ 0 := by
  have : 0 < q * s := Int.mul_pos (by omega) (by omega)
  omega
theorem FrQ.inv {K : PySem.W.Frag} {H : Hp} {x : V} {p q : Int} (h : FrQ K H x (some (p, q))) : ∃ a, x = .ref a ∧ H a = some (.tup [.int p, .int q]) ∧ Fr.IsFr p q ∧ p.natAbs < 2 ^ 200 ∧ q.natAbs < 2 ^ 200 := by
  cases h with
  | yes h i bp bq => exact ⟨_, rfl, h, i, bp, bq⟩
/-- NoNumber is raised: its place is i -/
def Bad (C : Addr) (H : Hp) (E : XK) (i : Int) : Prop := ∀ d, H d = none → E (.ref C) (some d) (upd H d (.xd [("place", .int i)]))
inductive Chk (K : PySem.W.Frag) (H : Hp) : V → V → Option Int → Prop
  | a {x y} (h : FrQ K H x none) : Chk K H x y (some 0)
  | b {x y o} (h : FrQ K H x (some o)) (g : FrQ K H y none) : Chk K H x y (some 1)
  | ok {x y o u} (h : FrQ K H x (some o)) (g : FrQ K H y (some u)) : Chk K H x y none
def spCheck (K : PySem.W.Frag) (C : Addr) : Sp := fun vs H Q E => ∃ x y o, vs = [x, y] ∧ Chk K H x y o ∧ (o = none → Q .non H) ∧ ∀ i, o = some i → Bad C H E i
theorem ok_check_two (T : Tx P K mg A) : FnOk P w K mg base (L2.CX P w) 3 A.f_check_two A.d_check_two ["one", "other"] (spCheck K A.c_NoNumber) := by
  refine T.F_check_two.okX sc_check_two (fun vs H Q E h => ?_) (fun cdv A' outer s H vs Q E hr h => ?_)
  · obtain ⟨x, y, o, rfl, _⟩ := h
    rfl
  · obtain ⟨x, y, o, rfl, h, k, kE⟩ := h
    refine ⟨_, (pss_cons (ps_if (pt_not (pt_val (pe_call (ok_is_fraction T) (hr.mono (by decide)) (by rfl) T.g_is_fraction T.F_is_fraction.kp T.b_is_fraction .nil pass0 (pa_cons (pv 0) pa_nil))))
    (pss_one (ps_raiseSup rfl T.sup_NoNumber hr (takes_of rfl rfl rfl rfl) (pa_cons pe_int pa_nil) (by rfl)))
    pss_nil)
    (pss_one (ps_if (pt_not (pt_val (pe_call (ok_is_fraction T) (hr.mono (by decide)) (by rfl) T.g_is_fraction T.F_is_fraction.kp T.b_is_fraction .nil pass0 (pa_cons (pv 1) pa_nil))))
    (pss_one (ps_raiseSup rfl T.sup_NoNumber hr (takes_of rfl rfl rfl rfl) (pa_cons pe_int pa_nil) (by rfl)))
    pss_nil))), ?_⟩
    walk_at "ww"
    cases h with
    | a h =>
      refine ⟨_, _, rfl, h, ?_⟩
      simp only [Option.isSome]
      walk_at "ww"
      exact ⟨_, rfl, fun d hd => kE 0 rfl d hd⟩
    | b h g =>
      refine ⟨_, _, rfl, h, ?_⟩
      simp only [Option.isSome]
      walk_at "ww"
      refine ⟨_, _, rfl, g, ?_⟩
      simp only [Option.isSome]
      walk_at "ww"
      exact ⟨_, rfl, fun d hd => kE 1 rfl d hd⟩
    | ok h g =>
      refine ⟨_, _, rfl, h, ?_⟩
      simp only [Option.isSome]
      walk_at "ww"
      refine ⟨_, _, rfl, g, ?_⟩
      simp only [Option.isSome]
      walk_at "ww"
      exact k rfl
/-- what a door tells, or the place that it refuses -/
inductive Out
  | bad (i : Int)
  | fr (t b : Int)
  | tr (b : Bool)
def Res (H : Hp) : Out → V → Prop
  | .bad _, _ => False
  | .fr t b, v => ∃ q, v = .ref q ∧ H q = some (.tup [.int t, .int b])
  | .tr b, v => v = .bl b
/-- two fractions as told by op: 1 plus, 2 minus, 3 times, 4 over, 5 below -/
def told (op : Int) (p q r s : Int) : Out :=
  if op = 1 then .fr (Fr.frT (p * s + r * q) (q * s)) (Fr.frB (p * s + r * q) (q * s))
  else if op = 2 then .fr (Fr.frT (p * s - r * q) (q * s)) (Fr.frB (p * s - r * q) (q * s))
  else if op = 3 then .fr (Fr.frT (p * r) (q * s)) (Fr.frB (p * r) (q * s))
  else if op = 4 then .fr (Fr.frT (p * s) (q * r)) (Fr.frB (p * s) (q * r))
  else .tr (decide (p * s < r * q))
/-- what the door op answers; 0 fraction -/
inductive Ask (K : PySem.W.Frag) (H : Hp) : Int → V → V → Out → Prop
  | f0 {x y n} (h : Ty K H x n) (no : isIntV x = false) : Ask K H 0 x y (.bad 0)
  | f1 {t y n} (h : Ty K H y n) (no : isIntV y = false ∨ y = .int 0) : Ask K H 0 (.int t) y (.bad 1)
  | fg {t b} (hb : b ≠ 0) (bt : t.natAbs < 2 ^ 200) (bb : b.natAbs < 2 ^ 200) : Ask K H 0 (.int t) (.int b) (.fr (Fr.frT t b) (Fr.frB t b))
  | g0 {op x y} (o1 : 1 ≤ op) (h : FrQ K H x none) : Ask K H op x y (.bad 0)
  | g1 {op x y o} (o1 : 1 ≤ op) (h : FrQ K H x (some o)) (g : FrQ K H y none) : Ask K H op x y (.bad 1)
  | z {x y o s} (h : FrQ K H x (some o)) (g : FrQ K H y (some (0, s))) : Ask K H 4 x y (.bad 1)
  | g {op x y p q r s} (o1 : 1 ≤ op) (h : FrQ K H x (some (p, q))) (g : FrQ K H y (some (r, s))) (nz : op = 4 → r ≠ 0) : Ask K H op x y (told op p q r s)
theorem Ask.ex {H H' : Hp} {op : Int} {x y : V} {o : Out} (e : Ex H H') (h : Ask K H op x y o) : Ask K H' op x y o := by
  cases h with
  | f0 h no => exact .f0 (h.ex e) no
  | f1 h no => exact .f1 (h.ex e) no
  | fg hb bt bb => exact .fg hb bt bb
  | g0 o1 h => exact .g0 o1 (h.ex e)
  | g1 o1 h g => exact .g1 o1 (h.ex e) (g.ex e)
  | z h g => exact .z (h.ex e) (g.ex e)
  | g o1 h g nz => exact .g o1 (h.ex e) (g.ex e) nz
def spDoor (K : PySem.W.Frag) (C : Addr) (op : Int) : Sp := fun vs H Q E => ∃ x y o, vs = [x, y] ∧ Ask K H op x y o ∧ (∀ v H', Ex H H' → Res H' o v → Q v H') ∧ ∀ i, o = .bad i → Bad C H E i
theorem nzm {q s : Int} (h1 : 1 ≤ q) (h2 : s ≠ 0) : q * s ≠ 0 := Int.mul_ne_zero (by omega) h2
theorem ok_plus (T : Tx P K mg A) : FnOk P w K mg base (L2.CX P w) 4 A.f_plus A.d_plus ["one", "other"] (spDoor K A.c_NoNumber 1) := by
  refine T.F_plus.okX sc_plus (fun vs H Q E h => ?_) (fun cdv A' outer s H vs Q E hr h => ?_)
  · obtain ⟨x, y, o, rfl, _⟩ := h
    rfl
  · obtain ⟨x, y, o, rfl, h0, k, kE⟩ := h
    refine ⟨_, (pss_cons (ps_expr (pe_callS (ok_check_two T) (hr.mono (by decide)) (by rfl) T.g_check_two T.F_check_two.kp T.b_check_two (fun σ => passAt (takes_of rfl rfl rfl rfl) σ) (pa_cons (pv 0) (pa_cons (pv 1) pa_nil))))
    (pss_one (ps_ret (pe_call (ok_lowest T) (hr.mono (by decide)) (by rfl) T.g_lowest T.F_lowest.kp T.b_lowest .nil pass0 (pa_cons (pe_op op_add (pe_op op_mulW (pe_ix (ix_tupV (K := K) rfl) (pv 0) pe_int (fun _ _ => rfl)) (pe_ix (ix_tupV (K := K) rfl) (pv 1) pe_int (fun _ _ => rfl))) (pe_op op_mulW (pe_ix (ix_tupV (K := K) rfl) (pv 1) pe_int (fun _ _ => rfl)) (pe_ix (ix_tupV (K := K) rfl) (pv 0) pe_int (fun _ _ => rfl)))) (pa_cons (pe_op op_mulW (pe_ix (ix_tupV (K := K) rfl) (pv 0) pe_int (fun _ _ => rfl)) (pe_ix (ix_tupV (K := K) rfl) (pv 1) pe_int (fun _ _ => rfl))) pa_nil)))))), ?_⟩
    walk_at "ww"
    obtain ⟨op, eo, h⟩ : ∃ op : Int, (1 : Int) = op ∧ Ask K H op x y o := ⟨_, rfl, h0⟩
    cases h with
    | f0 h no => exact absurd eo (by decide)
    | f1 h no => exact absurd eo (by decide)
    | fg hb bt bb => exact absurd eo (by decide)
    | g0 o1 h => exact ⟨_, _, _, rfl, .a h, (fun z => nomatch z), fun i z => by cases z; exact kE 0 rfl⟩
    | g1 o1 h g => exact ⟨_, _, _, rfl, .b h g, (fun z => nomatch z), fun i z => by cases z; exact kE 1 rfl⟩
    | z h g => exact absurd eo (by decide)
    | g o1 h g hnz =>
      rename_i p q r s
      subst eo
      refine ⟨_, _, _, rfl, .ok h g, (fun _ => ?_), (fun i z => nomatch z)⟩
      obtain ⟨_, rfl, g1, i1, bp, bq⟩ := h.inv
      obtain ⟨_, rfl, g2, i2, br, bs⟩ := g.inv
      walk_at "ww"
      refine ⟨_, _, 401, rfl, nz i1.1 i2.1, mulB bq bs, by omega, by omega, fun x H' e e' f => ?_⟩
      exact k _ _ e' ⟨_, rfl, f⟩
theorem ok_minus (T : Tx P K mg A) : FnOk P w K mg base (L2.CX P w) 4 A.f_minus A.d_minus ["one", "other"] (spDoor K A.c_NoNumber 2) := by
  refine T.F_minus.okX sc_minus (fun vs H Q E h => ?_) (fun cdv A' outer s H vs Q E hr h => ?_)
  · obtain ⟨x, y, o, rfl, _⟩ := h
    rfl
  · obtain ⟨x, y, o, rfl, h0, k, kE⟩ := h
    refine ⟨_, (pss_cons (ps_expr (pe_callS (ok_check_two T) (hr.mono (by decide)) (by rfl) T.g_check_two T.F_check_two.kp T.b_check_two (fun σ => passAt (takes_of rfl rfl rfl rfl) σ) (pa_cons (pv 0) (pa_cons (pv 1) pa_nil))))
    (pss_one (ps_ret (pe_call (ok_lowest T) (hr.mono (by decide)) (by rfl) T.g_lowest T.F_lowest.kp T.b_lowest .nil pass0 (pa_cons (pe_op op_sub (pe_op op_mulW (pe_ix (ix_tupV (K := K) rfl) (pv 0) pe_int (fun _ _ => rfl)) (pe_ix (ix_tupV (K := K) rfl) (pv 1) pe_int (fun _ _ => rfl))) (pe_op op_mulW (pe_ix (ix_tupV (K := K) rfl) (pv 1) pe_int (fun _ _ => rfl)) (pe_ix (ix_tupV (K := K) rfl) (pv 0) pe_int (fun _ _ => rfl)))) (pa_cons (pe_op op_mulW (pe_ix (ix_tupV (K := K) rfl) (pv 0) pe_int (fun _ _ => rfl)) (pe_ix (ix_tupV (K := K) rfl) (pv 1) pe_int (fun _ _ => rfl))) pa_nil)))))), ?_⟩
    walk_at "ww"
    obtain ⟨op, eo, h⟩ : ∃ op : Int, (2 : Int) = op ∧ Ask K H op x y o := ⟨_, rfl, h0⟩
    cases h with
    | f0 h no => exact absurd eo (by decide)
    | f1 h no => exact absurd eo (by decide)
    | fg hb bt bb => exact absurd eo (by decide)
    | g0 o1 h => exact ⟨_, _, _, rfl, .a h, (fun z => nomatch z), fun i z => by cases z; exact kE 0 rfl⟩
    | g1 o1 h g => exact ⟨_, _, _, rfl, .b h g, (fun z => nomatch z), fun i z => by cases z; exact kE 1 rfl⟩
    | z h g => exact absurd eo (by decide)
    | g o1 h g hnz =>
      rename_i p q r s
      subst eo
      refine ⟨_, _, _, rfl, .ok h g, (fun _ => ?_), (fun i z => nomatch z)⟩
      obtain ⟨_, rfl, g1, i1, bp, bq⟩ := h.inv
      obtain ⟨_, rfl, g2, i2, br, bs⟩ := g.inv
      walk_at "ww"
      refine ⟨_, _, 401, rfl, nz i1.1 i2.1, mulB bq bs, by omega, by omega, fun x H' e e' f => ?_⟩
      exact k _ _ e' ⟨_, rfl, f⟩
theorem ok_times (T : Tx P K mg A) : FnOk P w K mg base (L2.CX P w) 4 A.f_times A.d_times ["one", "other"] (spDoor K A.c_NoNumber 3) := by
  refine T.F_times.okX sc_times (fun vs H Q E h => ?_) (fun cdv A' outer s H vs Q E hr h => ?_)
  · obtain ⟨x, y, o, rfl, _⟩ := h
    rfl
  · obtain ⟨x, y, o, rfl, h0, k, kE⟩ := h
    refine ⟨_, (pss_cons (ps_expr (pe_callS (ok_check_two T) (hr.mono (by decide)) (by rfl) T.g_check_two T.F_check_two.kp T.b_check_two (fun σ => passAt (takes_of rfl rfl rfl rfl) σ) (pa_cons (pv 0) (pa_cons (pv 1) pa_nil))))
    (pss_one (ps_ret (pe_call (ok_lowest T) (hr.mono (by decide)) (by rfl) T.g_lowest T.F_lowest.kp T.b_lowest .nil pass0 (pa_cons (pe_op op_mulW (pe_ix (ix_tupV (K := K) rfl) (pv 0) pe_int (fun _ _ => rfl)) (pe_ix (ix_tupV (K := K) rfl) (pv 1) pe_int (fun _ _ => rfl))) (pa_cons (pe_op op_mulW (pe_ix (ix_tupV (K := K) rfl) (pv 0) pe_int (fun _ _ => rfl)) (pe_ix (ix_tupV (K := K) rfl) (pv 1) pe_int (fun _ _ => rfl))) pa_nil)))))), ?_⟩
    walk_at "ww"
    obtain ⟨op, eo, h⟩ : ∃ op : Int, (3 : Int) = op ∧ Ask K H op x y o := ⟨_, rfl, h0⟩
    cases h with
    | f0 h no => exact absurd eo (by decide)
    | f1 h no => exact absurd eo (by decide)
    | fg hb bt bb => exact absurd eo (by decide)
    | g0 o1 h => exact ⟨_, _, _, rfl, .a h, (fun z => nomatch z), fun i z => by cases z; exact kE 0 rfl⟩
    | g1 o1 h g => exact ⟨_, _, _, rfl, .b h g, (fun z => nomatch z), fun i z => by cases z; exact kE 1 rfl⟩
    | z h g => exact absurd eo (by decide)
    | g o1 h g hnz =>
      rename_i p q r s
      subst eo
      refine ⟨_, _, _, rfl, .ok h g, (fun _ => ?_), (fun i z => nomatch z)⟩
      obtain ⟨_, rfl, g1, i1, bp, bq⟩ := h.inv
      obtain ⟨_, rfl, g2, i2, br, bs⟩ := g.inv
      walk_at "ww"
      refine ⟨_, _, 401, rfl, nz i1.1 i2.1, mulB bq bs, by omega, by omega, fun x H' e e' f => ?_⟩
      exact k _ _ e' ⟨_, rfl, f⟩
theorem ok_over (T : Tx P K mg A) : FnOk P w K mg base (L2.CX P w) 4 A.f_over A.d_over ["one", "other"] (spDoor K A.c_NoNumber 4) := by
  refine T.F_over.okX sc_over (fun vs H Q E h => ?_) (fun cdv A' outer s H vs Q E hr h => ?_)
  · obtain ⟨x, y, o, rfl, _⟩ := h
    rfl
  · obtain ⟨x, y, o, rfl, h0, k, kE⟩ := h
    refine ⟨_, (pss_cons (ps_expr (pe_callS (ok_check_two T) (hr.mono (by decide)) (by rfl) T.g_check_two T.F_check_two.kp T.b_check_two (fun σ => passAt (takes_of rfl rfl rfl rfl) σ) (pa_cons (pv 0) (pa_cons (pv 1) pa_nil))))
    (pss_cons (ps_if (pt_cmpR op_eq (pe_ix (ix_tupV (K := K) rfl) (pv 1) pe_int (fun _ _ => rfl)) pe_int (nomark _))
    (pss_one (ps_raiseSup rfl T.sup_NoNumber hr (takes_of rfl rfl rfl rfl) (pa_cons pe_int pa_nil) (by rfl)))
    pss_nil)
    (pss_one (ps_ret (pe_call (ok_lowest T) (hr.mono (by decide)) (by rfl) T.g_lowest T.F_lowest.kp T.b_lowest .nil pass0 (pa_cons (pe_op op_mulW (pe_ix (ix_tupV (K := K) rfl) (pv 0) pe_int (fun _ _ => rfl)) (pe_ix (ix_tupV (K := K) rfl) (pv 1) pe_int (fun _ _ => rfl))) (pa_cons (pe_op op_mulW (pe_ix (ix_tupV (K := K) rfl) (pv 0) pe_int (fun _ _ => rfl)) (pe_ix (ix_tupV (K := K) rfl) (pv 1) pe_int (fun _ _ => rfl))) pa_nil))))))), ?_⟩
    walk_at "ww"
    obtain ⟨op, eo, h⟩ : ∃ op : Int, (4 : Int) = op ∧ Ask K H op x y o := ⟨_, rfl, h0⟩
    cases h with
    | f0 h no => exact absurd eo (by decide)
    | f1 h no => exact absurd eo (by decide)
    | fg hb bt bb => exact absurd eo (by decide)
    | g0 o1 h => exact ⟨_, _, _, rfl, .a h, (fun z => nomatch z), fun i z => by cases z; exact kE 0 rfl⟩
    | g1 o1 h g => exact ⟨_, _, _, rfl, .b h g, (fun z => nomatch z), fun i z => by cases z; exact kE 1 rfl⟩
    | z h g =>
      refine ⟨_, _, _, rfl, .ok h g, (fun _ => ?_), (fun i z => nomatch z)⟩
      obtain ⟨_, rfl, g1, i1, bp, bq⟩ := h.inv
      obtain ⟨_, rfl, g2, i2, br, bs⟩ := g.inv
      walk_at "ww"
      rw [decide_eq_true (rfl : V.int 0 = V.int 0)]
      walk_at "ww"
      exact ⟨_, rfl, fun d hd => kE 1 rfl d hd⟩
    | g o1 h g hnz =>
      rename_i p q r s
      subst eo
      refine ⟨_, _, _, rfl, .ok h g, (fun _ => ?_), (fun i z => nomatch z)⟩
      obtain ⟨_, rfl, g1, i1, bp, bq⟩ := h.inv
      obtain ⟨_, rfl, g2, i2, br, bs⟩ := g.inv
      walk_at "ww"
      have hr0 : (decide (V.int r = V.int 0)) = false := decide_eq_false (fun z => hnz rfl (V.int.inj z))
      rw [hr0]
      walk_at "ww"
      refine ⟨_, _, 401, rfl, nzm i1.1 (hnz rfl), mulB bq br, by omega, by omega, fun x H' e e' f => ?_⟩
      exact k _ _ e' ⟨_, rfl, f⟩
def spLess : Sp := fun vs H Q _ => ∃ (a c : Addr) (p q r s : Int), vs = [.ref a, .ref c] ∧ H a = some (.tup [.int p, .int q]) ∧ H c = some (.tup [.int r, .int s]) ∧ p.natAbs < 2 ^ 200 ∧ q.natAbs < 2 ^ 200 ∧ r.natAbs < 2 ^ 200 ∧ s.natAbs < 2 ^ 200 ∧ Q (.bl (decide (p * s < r * q))) H
theorem ok_is_less (T : Tx P K mg A) : FnOk P w K mg base CX0 1 A.f_is_less A.d_is_less ["one", "other"] spLess := by
  refine T.F_is_less.ok sc_is_less (fun vs H Q E h => ?_) (fun cdv A' outer s H vs Q E hr h => ?_)
  · obtain ⟨a, c, p, q, r, s, rfl, _⟩ := h
    rfl
  · obtain ⟨a, c, p, q, r, s, rfl, g1, g2, bp, bq, br, bs, k⟩ := h
    refine ⟨_, (pss_one (ps_ret (pe_cmpR op_lt (pe_op op_mulW (pe_ix (ix_tupV (K := K) rfl) (pv 0) pe_int (fun _ _ => rfl)) (pe_ix (ix_tupV (K := K) rfl) (pv 1) pe_int (fun _ _ => rfl))) (pe_op op_mulW (pe_ix (ix_tupV (K := K) rfl) (pv 1) pe_int (fun _ _ => rfl)) (pe_ix (ix_tupV (K := K) rfl) (pv 0) pe_int (fun _ _ => rfl))) (nomark _)))), ?_⟩
    walk_at "ww"
    exact k
theorem ok_below (T : Tx P K mg A) : FnOk P w K mg base (L2.CX P w) 4 A.f_below A.d_below ["one", "other"] (spDoor K A.c_NoNumber 5) := by
  refine T.F_below.okX sc_below (fun vs H Q E h => ?_) (fun cdv A' outer s H vs Q E hr h => ?_)
  · obtain ⟨x, y, o, rfl, _⟩ := h
    rfl
  · obtain ⟨x, y, o, rfl, h0, k, kE⟩ := h
    refine ⟨_, (pss_cons (ps_expr (pe_callS (ok_check_two T) (hr.mono (by decide)) (by rfl) T.g_check_two T.F_check_two.kp T.b_check_two (fun σ => passAt (takes_of rfl rfl rfl rfl) σ) (pa_cons (pv 0) (pa_cons (pv 1) pa_nil))))
    (pss_one (ps_ret (pe_call (ok_is_less T) (hr.mono (by decide)) (by rfl) T.g_is_less T.F_is_less.kp T.b_is_less .nil pass0 (pa_cons (pv 0) (pa_cons (pv 1) pa_nil)))))), ?_⟩
    walk_at "ww"
    obtain ⟨op, eo, h⟩ : ∃ op : Int, (5 : Int) = op ∧ Ask K H op x y o := ⟨_, rfl, h0⟩
    cases h with
    | f0 h no => exact absurd eo (by decide)
    | f1 h no => exact absurd eo (by decide)
    | fg hb bt bb => exact absurd eo (by decide)
    | g0 o1 h => exact ⟨_, _, _, rfl, .a h, (fun z => nomatch z), fun i z => by cases z; exact kE 0 rfl⟩
    | g1 o1 h g => exact ⟨_, _, _, rfl, .b h g, (fun z => nomatch z), fun i z => by cases z; exact kE 1 rfl⟩
    | z h g => exact absurd eo (by decide)
    | g o1 h g hnz =>
      rename_i p q r s
      subst eo
      refine ⟨_, _, _, rfl, .ok h g, (fun _ => ?_), (fun i z => nomatch z)⟩
      obtain ⟨_, rfl, g1, i1, bp, bq⟩ := h.inv
      obtain ⟨_, rfl, g2, i2, br, bs⟩ := g.inv
      walk_at "ww"
      refine ⟨_, _, _, _, _, _, rfl, g1, g2, bp, bq, br, bs, ?_⟩
      exact k _ _ (Ex.refl _) rfl
theorem ok_fraction (T : Tx P K mg A) : FnOk P w K mg base (L2.CX P w) 3 A.f_fraction A.d_fraction ["top", "bottom"] (spDoor K A.c_NoNumber 0) := by
  refine T.F_fraction.ok sc_fraction (fun vs H Q E h => ?_) (fun cdv A' outer s H vs Q E hr h => ?_)
  · obtain ⟨x, y, o, rfl, _⟩ := h
    rfl
  · obtain ⟨x, y, o, rfl, h0, k, kE⟩ := h
    refine ⟨_, (pss_cons (ps_if (pt_not (pt_val (pe_call (ok_is_whole T) (hr.mono (by decide)) (by rfl) T.g_is_whole T.F_is_whole.kp T.b_is_whole .nil pass0 (pa_cons (pv 0) pa_nil))))
    (pss_one (ps_raiseSup rfl T.sup_NoNumber hr (takes_of rfl rfl rfl rfl) (pa_cons pe_int pa_nil) (by rfl)))
    pss_nil)
    (pss_cons (ps_if (PW.pt (pw_or (pt_not (pt_val (pe_call (ok_is_whole T) (hr.mono (by decide)) (by rfl) T.g_is_whole T.F_is_whole.kp T.b_is_whole .nil pass0 (pa_cons (pv 1) pa_nil)))) (pw_or1 (pt_cmpR op_eq (pv 1) pe_int (nomark _)))))
    (pss_one (ps_raiseSup rfl T.sup_NoNumber hr (takes_of rfl rfl rfl rfl) (pa_cons pe_int pa_nil) (by rfl)))
    pss_nil)
    (pss_one (ps_ret (pe_call (ok_lowest T) (hr.mono (by decide)) (by rfl) T.g_lowest T.F_lowest.kp T.b_lowest .nil pass0 (pa_cons (pv 0) (pa_cons (pv 1) pa_nil))))))), ?_⟩
    walk_at "ww"
    obtain ⟨op, eo, h⟩ : ∃ op : Int, (0 : Int) = op ∧ Ask K H op x y o := ⟨_, rfl, h0⟩
    cases h with
    | g0 o1 h => omega
    | g1 o1 h g => omega
    | z h g => omega
    | g o1 h g hnz => omega
    | f0 h no =>
      refine ⟨_, _, rfl, h, ?_⟩
      rw [no]
      walk_at "ww"
      exact ⟨_, rfl, fun d hd => kE 0 rfl d hd⟩
    | f1 h no =>
      rename_i t n
      refine ⟨_, _, rfl, .int t, ?_⟩
      simp only [isIntV]
      walk_at "ww"
      refine ⟨_, _, rfl, h, ?_⟩
      cases iy : isIntV y with
      | false =>
        walk_at "ww"
        exact ⟨_, rfl, fun d hd => kE 1 rfl d hd⟩
      | true =>
        rcases no with no | rfl
        · rw [iy] at no
          cases no
        · walk_at "ww"
          rw [decide_eq_true (rfl : V.int 0 = V.int 0)]
          walk_at "ww"
          exact ⟨_, rfl, fun d hd => kE 1 rfl d hd⟩
    | fg hb bt bb =>
      rename_i t b
      refine ⟨_, _, rfl, .int t, ?_⟩
      simp only [isIntV]
      walk_at "ww"
      refine ⟨_, _, rfl, .int b, ?_⟩
      simp only [isIntV]
      walk_at "ww"
      have hb0 : (decide (V.int b = V.int 0)) = false := decide_eq_false (fun z => hb (V.int.inj z))
      rw [hb0]
      walk_at "ww"
      refine ⟨t, b, 200, rfl, hb, bb, by omega, by omega, fun x H' e e' f => ?_⟩
      exact k _ _ e' ⟨_, rfl, f⟩
def spLlow : Sp := fun vs H Q _ => ∃ (u l : Int), vs = [.int u, .int l] ∧ 0 < l ∧ l.natAbs < 2 ^ 200 ∧ ∀ x H', H x = none → Ex H H' → H' x = some (.tup [.int (Fr.frT u l), .int (Fr.frB u l)]) → Q (.ref x) H'
theorem ok_Llow (T : Tx P K mg A) : FnOk P w K mg base CX0 1 A.f_Llow A.d_Llow ["_law_upper", "_law_lower"] spLlow := by
  refine T.F_Llow.ok sc_Llow (fun vs H Q E h => ?_) (fun cdv A' outer s H vs Q E hr h => ?_)
  · obtain ⟨u, l, rfl, _⟩ := h
    rfl
  · obtain ⟨u, l, rfl, hl, bl, k⟩ := h
    refine ⟨_, (pss_cons (ps_par (i := 2) (j := 3) (by rfl) sc_Llow.nd rfl rfl (by decide) rfl rfl (pa_cons (pe_callB call_abs (by rfl) T.m_abs (by decide +kernel) (pa_cons (pv 0) pa_nil)) (pa_cons (pv 1) pa_nil)) (by rfl))
    (pss_cons (ps_while PassesOwn.never (pt_cmpR op_gt (pv 3) pe_int (nomark _))
    (pss_one (ps_par (i := 2) (j := 3) (by rfl) sc_Llow.nd rfl rfl (by decide) rfl rfl (pa_cons (pv 3) (pa_cons (pe_op op_mod (pv 2) (pv 3)) pa_nil)) (by rfl))))
    (pss_one (ps_ret (pe_tup (pa_cons (pe_op op_fdivZ (pv 0) (pv 2)) (pa_cons (pe_op op_fdivZ (pv 1) (pv 2)) pa_nil))))))), ?_⟩
    have hD : Fr.frD u l = ((u.gcd l : Nat) : Int) := by unfold Fr.frD; rw [if_neg (by omega)]
    have dz : ∀ i : Int, CDivZ i ((u.gcd l : Nat) : Int) := fun i => by
      rw [← hD]
      exact divz (Fr.frD_ne (by omega)) (Nat.lt_of_le_of_lt (Fr.frD_le (by omega)) bl) (by omega) (by omega)
    walk_at "ww"
    refine ⟨fun m σ H' => ∃ x y : Int, σ = [some (.int u), some (.int l), some (.int x), some (.int y)] ∧ H' = H ∧ x.gcd y = u.gcd l ∧ 0 ≤ x ∧ 0 ≤ y ∧ y.natAbs = m, ⟨_, _, l, rfl, rfl, ?_, ?_, ?_, rfl⟩, ?_⟩
    · split
      · exact Int.neg_gcd
      · rfl
    · split <;> omega
    · omega
    rintro m σ H' ⟨x, y, rfl, rfl, hg, hx, hy, hm⟩
    walk_at "ww"
    refine ite2 (fun c => ?_) (fun c => ?_)
    · have hy0 : 0 < y := of_decide_eq_true c
      refine ⟨fun σ' H'' => ∃ x' y' : Int, σ' = [some (.int u), some (.int l), some (.int x'), some (.int y')] ∧ H'' = H' ∧ x'.gcd y' = u.gcd l ∧ 0 ≤ x' ∧ 0 ≤ y' ∧ y'.natAbs < m, fun σ' H'' ⟨x', y', e1, e2, e3, e4, e5, e6⟩ => ⟨_, e6, x', y', e1, e2, e3, e4, e5, rfl⟩, ?_⟩
      walk_at "ww"
      have h1 := Int.emod_nonneg x (show y ≠ 0 by omega)
      have h2 := Int.emod_lt_of_pos x hy0
      refine ⟨y, x % y, rfl, rfl, ?_, by omega, h1, by omega⟩
      rw [← Int.fmod_eq_emod_of_nonneg x (by omega)]
      exact (Fr.gcd_turn x (by omega)).trans hg
    · have hy0 : y = 0 := by
        have : ¬ 0 < y := fun z => c (decide_eq_true z)
        omega
      have hx1 : x = ((u.gcd l : Nat) : Int) := by
        rw [hy0, Int.gcd_zero_right] at hg
        omega
      subst hx1
      walk_at "ww"
      refine wI (dz _) ?_
      walk_at "ww"
      refine wI (dz _) ?_
      walk_at "ww"
      exact alI fun x H'' e1 e2 f => k x H'' e1 e2 (by rw [f]; unfold Fr.frT Fr.frB; rw [hD])
def spNumber : Sp := fun vs H Q _ => ∃ p : Addr, vs = [.ref p] ∧ Pool H p ∧ ∀ z H', z.natAbs < 2 ^ 199 → Kp p H H' → Pool H' p → Q (.int z) H'
theorem ok_Lnumber (T : Tx P K mg A) : FnOk P w K mg base CX0 2 A.f_Lnumber A.d_Lnumber ["_law_pool_here"] spNumber := by
  refine T.F_Lnumber.ok sc_Lnumber (fun vs H Q E h => ?_) (fun cdv A' outer s H vs Q E hr h => ?_)
  · obtain ⟨p, rfl, _⟩ := h
    rfl
  · obtain ⟨p, rfl, hP, k⟩ := h
    refine ⟨_, (pss_cons (ps_set (i := 1) sc_Lnumber.nd rfl (Or.inl rfl) (pe_ix (ix_listV (K := K) rfl) (pe_lst (pa_cons pe_int (pa_cons pe_int (pa_cons (pe_op op_pow pe_int pe_int) (pa_cons (pe_op op_pow pe_int pe_int) pa_nil))))) (pe_call (ok_Ltake T) (hr.mono (by decide)) (by rfl) T.g_Ltake T.F_Ltake.kp T.b_Ltake .nil pass0 (pa_cons (pv 0) (pa_cons pe_int pa_nil))) (fun _ _ => rfl)))
    (pss_cons (ps_set (i := 2) sc_Lnumber.nd rfl (Or.inl rfl) (pe_op op_add (pe_call (ok_Ltake T) (hr.mono (by decide)) (by rfl) T.g_Ltake T.F_Ltake.kp T.b_Ltake .nil pass0 (pa_cons (pv 0) (pa_cons (pv 1) pa_nil))) (pe_op op_mulW (pe_op op_fdiv (pe_op op_mulW (pv 1) (pv 1)) pe_int) (pe_callTy call_int1 (by rfl) T.m_int (by decide +kernel) (pa_cons (pe_cmpR op_gt (pv 1) (pe_op op_pow pe_int pe_int) (nomark _)) pa_nil)))))
    (pss_one (ps_ret (pe_ix (ix_listV (K := K) rfl) (pe_lst (pa_cons (pv 2) (pa_cons (pv 2) (pa_cons (pe_op op_sub pe_int (pv 2)) pa_nil)))) (pe_call (ok_Ltake T) (hr.mono (by decide)) (by rfl) T.g_Ltake T.F_Ltake.kp T.b_Ltake .nil pass0 (pa_cons (pv 0) (pa_cons pe_int pa_nil))) (fun _ _ => rfl)))))), ?_⟩
    have e30 : (10 : Int) ^ Int.toNat 30 = 1000000000000000000000000000000 := by decide +kernel
    have n100 : (2 : Nat) ^ 100 = 1267650600228229401496703205376 := by decide +kernel
    have n199 : (200000000000000000000000000000000000000000000000000000000000 : Nat) ≤ 2 ^ 199 := by decide +kernel
    walk_at "ww"
    refine alI fun l H1 l0 e1 l1 => ?_
    walk_at "ww"
    refine ⟨p, 4, rfl, hP.ex e1, Sm.of (by omega) (by omega), fun c H2 c0 c1 k2 hP2 => ?_⟩
    obtain ⟨v, hv, hm⟩ := at_ex (xs := [V.int 3, V.int 12, V.int ((10 : Int) ^ Int.toNat 4), V.int ((10 : Int) ^ Int.toNat 30)]) c0 (by show c < 4; omega)
    refine wIxL (SqL.of (k2 _ _ (hP.ne l0) l1)) hv ?_
    have small : ∃ y : Int, v = .int y ∧ Sm y ∧ y.natAbs < 2 ^ 100 ∧ ∀ d : Int, 0 ≤ d → d < y → (d + y * y / 10 * (if decide ((10 : Int) ^ Int.toNat 9 < y) = true then 1 else 0)).natAbs < 2 ^ 199 ∧ (y * y / 10).natAbs < 2 ^ 200 := by
      have e9 : (10 : Int) ^ Int.toNat 9 = 1000000000 := by decide +kernel
      have e4 : (10 : Int) ^ Int.toNat 4 = 10000 := by decide +kernel
      have n200 : (2 : Nat) ^ 200 = 2 * 2 ^ 199 := by rw [← Nat.pow_succ']
      rw [e9]
      rw [e4, e30] at hm
      simp only [List.mem_cons, List.not_mem_nil, or_false] at hm
      rcases hm with rfl | rfl | rfl | rfl
      · refine ⟨_, rfl, Sm.of (by omega) (by omega), by omega, fun d d0 d1 => ?_⟩
        rw [decide_eq_false (by omega), if_neg (by decide)]
        omega
      · refine ⟨_, rfl, Sm.of (by omega) (by omega), by omega, fun d d0 d1 => ?_⟩
        rw [decide_eq_false (by omega), if_neg (by decide)]
        omega
      · refine ⟨_, rfl, Sm.of (by omega) (by omega), by omega, fun d d0 d1 => ?_⟩
        rw [decide_eq_false (by omega), if_neg (by decide)]
        omega
      · refine ⟨_, rfl, ⟨by decide, by decide +kernel⟩, by rw [n100]; decide, fun d d0 d1 => ?_⟩
        rw [decide_eq_true (by omega), if_pos rfl]
        omega
    obtain ⟨y, rfl, sy, y100, hz⟩ := small
    walk_at "ww"
    refine ⟨p, y, rfl, hP2, sy, fun d H3 d0 d1 k3 hP3 => ?_⟩
    obtain ⟨z1, z2⟩ := hz d d0 d1
    walk_at "ww"
    refine .inr ⟨_, rfl, ?_⟩
    have b01 : (if decide ((10 : Int) ^ Int.toNat 9 < y) = true then (1 : Int) else 0).natAbs < 2 ^ 10 := by split <;> decide
    refine wI (wide_mul z2 b01 (by omega) (by omega) (by omega)) ?_
    walk_at "ww"
    generalize d + y * y / 10 * (if decide ((10 : Int) ^ Int.toNat 9 < y) = true then (1 : Int) else 0) = z at z1 ⊢
    refine alI fun l2 H4 n4 e4 f4 => ?_
    walk_at "ww"
    refine ⟨p, 3, rfl, hP3.ex e4, Sm.of (by omega) (by omega), fun c2 H5 c20 c23 k5 hP5 => ?_⟩
    obtain ⟨v2, hv2, hm2⟩ := at_ex (xs := [V.int z, V.int z, V.int (0 - z)]) c20 (by show c2 < 3; omega)
    refine wIxL (SqL.of (k5 _ _ (hP3.ne n4) f4)) hv2 ?_
    obtain ⟨y2, rfl, hy2⟩ : ∃ y : Int, v2 = .int y ∧ y.natAbs = z.natAbs := by
      simp only [List.mem_cons, List.not_mem_nil, or_false] at hm2
      rcases hm2 with rfl | rfl | rfl <;> exact ⟨_, rfl, by omega⟩
    exact k _ _ (by omega) ((((e1.kp.trans k2).trans k3).trans e4.kp).trans k5) hP5
/-- a fraction of not too many bits stands at a -/
structure FrAt (H : Hp) (a : Addr) (p q : Int) : Prop where
  at_ : H a = some (.tup [.int p, .int q])
  is_ : Fr.IsFr p q
  bp : p.natAbs < 2 ^ 200
  bq : q.natAbs < 2 ^ 200
theorem FrAt.ex {H H' : Hp} {a : Addr} {p q : Int} (h : FrAt H a p q) (e : Ex H H') : FrAt H' a p q := ⟨e _ _ h.at_, h.is_, h.bp, h.bq⟩
def spOne : Sp := fun vs H Q _ => ∃ p : Addr, vs = [.ref p] ∧ Pool H p ∧ ∀ a t b H', a ≠ p → FrAt H' a t b → Kp p H H' → Pool H' p → Q (.ref a) H'
theorem ok_Lone (T : Tx P K mg A) : FnOk P w K mg base CX0 3 A.f_Lone A.d_Lone ["_law_pool_here"] spOne := by
  refine T.F_Lone.ok sc_Lone (fun vs H Q E h => ?_) (fun cdv A' outer s H vs Q E hr h => ?_)
  · obtain ⟨p, rfl, _⟩ := h
    rfl
  · obtain ⟨p, rfl, hP, k⟩ := h
    refine ⟨_, (pss_one (ps_ret (pe_call (ok_Llow T) (hr.mono (by decide)) (by rfl) T.g_Llow T.F_Llow.kp T.b_Llow .nil pass0 (pa_cons (pe_call (ok_Lnumber T) (hr.mono (by decide)) (by rfl) T.g_Lnumber T.F_Lnumber.kp T.b_Lnumber .nil pass0 (pa_cons (pv 0) pa_nil)) (pa_cons (pe_op op_add pe_int (pe_callB call_abs (by rfl) T.m_abs (by decide +kernel) (pa_cons (pe_call (ok_Lnumber T) (hr.mono (by decide)) (by rfl) T.g_Lnumber T.F_Lnumber.kp T.b_Lnumber .nil pass0 (pa_cons (pv 0) pa_nil)) pa_nil))) pa_nil))))), ?_⟩
    walk_at "ww"
    refine ⟨p, rfl, hP, fun u H1 bu k1 hP1 => ?_⟩
    walk_at "ww"
    refine ⟨p, rfl, hP1, fun l H2 bl k2 hP2 => ?_⟩
    walk_at "ww"
    have n200 : (2 : Nat) ^ 200 = 2 * 2 ^ 199 := by rw [← Nat.pow_succ']
    have n1 : (1 : Nat) < 2 ^ 199 := by decide +kernel
    have hl : 0 < 1 + (if l < 0 then -l else l) ∧ (1 + (if l < 0 then -l else l)).natAbs < 2 ^ 200 := by
      split <;> omega
    refine ⟨_, _, rfl, hl.1, hl.2, fun x H3 n3 e3 f3 => ?_⟩
    exact k _ _ _ _ (hP2.ne n3) ⟨f3, Fr.fr_is (by omega), Nat.lt_of_le_of_lt (Fr.natAbs_fdiv_le (by omega)).1 (by omega), Nat.lt_of_le_of_lt (Fr.natAbs_fdiv_le (by omega)).2 hl.2⟩ ((k1.trans k2).trans e3.kp) (hP2.ex e3)
/-- a thing that is no whole number -/
def OddN (K : PySem.W.Frag) (H : Hp) (v : V) : Prop := (∃ n, Ty K H v n) ∧ isIntV v = false ∧ ∃ o, FrQ K H v o
theorem OddN.ex {K : PySem.W.Frag} {H H' : Hp} {v : V} (h : OddN K H v) (e : Ex H H') : OddN K H' v := ⟨h.1.elim fun n t => ⟨n, t.ex e⟩, h.2.1, h.2.2.elim fun o t => ⟨o, t.ex e⟩⟩
/-- a thing that is no fraction -/
abbrev OddF (K : PySem.W.Frag) (H : Hp) (v : V) : Prop := FrQ K H v none
theorem OddF.ex {K : PySem.W.Frag} {H H' : Hp} {v : V} (h : OddF K H v) (e : Ex H H') : OddF K H' v := FrQ.ex e h
def spOddN (K : PySem.W.Frag) : Sp := fun vs H Q _ => ∃ p : Addr, vs = [.ref p] ∧ Pool H p ∧ ∀ v H', Kp p H H' → Pool H' p → OddN K (hide p H') v → Q v H'
def spOddF (K : PySem.W.Frag) : Sp := fun vs H Q _ => ∃ p : Addr, vs = [.ref p] ∧ Pool H p ∧ ∀ v H', Kp p H H' → Pool H' p → OddF K (hide p H') v → Q v H'
theorem ok_Lodd_number (T : Tx P K mg A) : FnOk P w K mg base CX0 2 A.f_Lodd_number A.d_Lodd_number ["_law_pool_here"] (spOddN K) := by
  refine T.F_Lodd_number.ok sc_Lodd_number (fun vs H Q E h => ?_) (fun cdv A' outer s H vs Q E hr h => ?_)
  · obtain ⟨p, rfl, _⟩ := h
    rfl
  · obtain ⟨p, rfl, hP, k⟩ := h
    refine ⟨_, (pss_cons (ps_set (i := 1) sc_Lodd_number.nd rfl (Or.inl rfl) (pe_lst (pa_cons pe_non (pa_cons pe_bl (pa_cons pe_bl (pa_cons pe_str (pa_cons pe_str (pa_cons pe_str (pa_cons (pe_tup (pa_cons pe_int pa_nil)) (pa_cons (pe_tup (pa_cons pe_int (pa_cons pe_int pa_nil))) (pa_cons (pe_lst (pa_cons pe_int pa_nil)) (pa_cons (pe_lst pa_nil) (pa_cons pe_dnewK (pa_cons (pe_tup pa_nil) (pa_cons (pe_tup (pa_cons (pe_lst pa_nil) pa_nil)) pa_nil)))))))))))))))
    (pss_one (ps_ret (pe_ix (ix_listV (K := K) rfl) (pv 1) (pe_call (ok_Ltake T) (hr.mono (by decide)) (by rfl) T.g_Ltake T.F_Ltake.kp T.b_Ltake .nil pass0 (pa_cons (pv 0) (pa_cons pe_int pa_nil))) (fun _ _ => rfl))))), ?_⟩
    walk_at "ww"
    refine alI fun a1 H1 n1 e1 f1 => ?_
    walk_at "ww"
    refine alI fun a2 H2 n2 e2 f2 => ?_
    walk_at "ww"
    refine alI fun a3 H3 n3 e3 f3 => ?_
    walk_at "ww"
    refine alI fun a4 H4 n4 e4 f4 => ?_
    walk_at "ww"
    refine alI fun a5 H5 n5 e5 f5 => ?_
    walk_at "ww"
    refine alI fun a6 H6 n6 e6 f6 => ?_
    walk_at "ww"
    refine alI fun a7 H7 n7 e7 f7 => ?_
    walk_at "ww"
    refine alI fun a8 H8 n8 e8 f8 => ?_
    walk_at "ww"
    refine alI fun a9 H9 n9 e9 f9 => ?_
    walk_at "ww"
    have m1 : a1 ≠ p := Pool.ne (hP) n1
    have g1 : H9 a1 = some (.tup [V.int 1]) := by walk_at "lk"
    have m2 : a2 ≠ p := Pool.ne (hP.ex (e1)) n2
    have g2 : H9 a2 = some (.tup [V.int 1, V.int 1]) := by walk_at "lk"
    have m3 : a3 ≠ p := Pool.ne (hP.ex ((e1.trans e2))) n3
    have g3 : H9 a3 = some (.lst [V.int 1]) := by walk_at "lk"
    have m4 : a4 ≠ p := Pool.ne (hP.ex (((e1.trans e2).trans e3))) n4
    have g4 : H9 a4 = some (.lst []) := by walk_at "lk"
    have m5 : a5 ≠ p := Pool.ne (hP.ex ((((e1.trans e2).trans e3).trans e4))) n5
    have g5 : H9 a5 = some (.dK []) := by walk_at "lk"
    have m6 : a6 ≠ p := Pool.ne (hP.ex (((((e1.trans e2).trans e3).trans e4).trans e5))) n6
    have g6 : H9 a6 = some (.tup []) := by walk_at "lk"
    have m7 : a7 ≠ p := Pool.ne (hP.ex ((((((e1.trans e2).trans e3).trans e4).trans e5).trans e6))) n7
    have g7 : H9 a7 = some (.lst []) := by walk_at "lk"
    have m8 : a8 ≠ p := Pool.ne (hP.ex (((((((e1.trans e2).trans e3).trans e4).trans e5).trans e6).trans e7))) n8
    have g8 : H9 a8 = some (.tup [V.ref a7]) := by walk_at "lk"
    have E : Ex H H9 := ((((((((e1.trans e2).trans e3).trans e4).trans e5).trans e6).trans e7).trans e8).trans e9)
    have hPN := hP.ex E
    refine ⟨p, 13, rfl, hPN, Sm.of (by omega) (by omega), fun c H' c0 c1 k1 hP1 => ?_⟩
    have each : ∀ v ∈ ([V.non, V.bl true, V.bl false, V.str "", V.str "1", V.str "1/2", V.ref a1, V.ref a2, V.ref a3, V.ref a4, V.ref a5, V.ref a6, V.ref a8]), OddN K (hide p H9) v := (List.forall_mem_cons.mpr ⟨⟨⟨_, .non⟩, rfl, _, .kind .non (by decide +kernel)⟩, (List.forall_mem_cons.mpr ⟨⟨⟨_, .bl _⟩, rfl, _, .kind (.bl _) (by decide +kernel)⟩, (List.forall_mem_cons.mpr ⟨⟨⟨_, .bl _⟩, rfl, _, .kind (.bl _) (by decide +kernel)⟩, (List.forall_mem_cons.mpr ⟨⟨⟨_, .str _⟩, rfl, _, .kind (.str _) (by decide +kernel)⟩, (List.forall_mem_cons.mpr ⟨⟨⟨_, .str _⟩, rfl, _, .kind (.str _) (by decide +kernel)⟩, (List.forall_mem_cons.mpr ⟨⟨⟨_, .str _⟩, rfl, _, .kind (.str _) (by decide +kernel)⟩, (List.forall_mem_cons.mpr ⟨⟨⟨_, .tup (hide_at m1 g1)⟩, rfl, _, .len (hide_at m1 g1) (Nat.ne_of_beq_eq_false rfl) (Nat.le_of_ble_eq_true rfl)⟩, (List.forall_mem_cons.mpr ⟨⟨⟨_, .tup (hide_at m2 g2)⟩, rfl, _, .yes (hide_at m2 g2) ⟨by decide, by decide⟩ (by decide +kernel) (by decide +kernel)⟩, (List.forall_mem_cons.mpr ⟨⟨⟨_, .lst (hide_at m3 g3)⟩, rfl, _, .kind (.lst (hide_at m3 g3)) (by decide +kernel)⟩, (List.forall_mem_cons.mpr ⟨⟨⟨_, .lst (hide_at m4 g4)⟩, rfl, _, .kind (.lst (hide_at m4 g4)) (by decide +kernel)⟩, (List.forall_mem_cons.mpr ⟨⟨⟨_, .dK (hide_at m5 g5)⟩, rfl, _, .kind (.dK (hide_at m5 g5)) (by decide +kernel)⟩, (List.forall_mem_cons.mpr ⟨⟨⟨_, .tup (hide_at m6 g6)⟩, rfl, _, .len (hide_at m6 g6) (Nat.ne_of_beq_eq_false rfl) (Nat.le_of_ble_eq_true rfl)⟩, (List.forall_mem_cons.mpr ⟨⟨⟨_, .tup (hide_at m8 g8)⟩, rfl, _, .len (hide_at m8 g8) (Nat.ne_of_beq_eq_false rfl) (Nat.le_of_ble_eq_true rfl)⟩, (List.forall_mem_nil _)⟩)⟩)⟩)⟩)⟩)⟩)⟩)⟩)⟩)⟩)⟩)⟩)⟩)
    obtain ⟨v, hv, hm⟩ := at_ex (xs := [V.non, V.bl true, V.bl false, V.str "", V.str "1", V.str "1/2", V.ref a1, V.ref a2, V.ref a3, V.ref a4, V.ref a5, V.ref a6, V.ref a8]) c0 (by show c < 13; omega)
    have mL : a9 ≠ p := Pool.ne (hP.ex ((((((((e1.trans e2).trans e3).trans e4).trans e5).trans e6).trans e7).trans e8))) n9
    refine wIxL (SqL.of (k1 _ _ mL f9)) hv ?_
    exact k v _ (E.kp.trans k1) hP1 (OddN.ex (each v hm) k1.hide)
theorem ok_Lodd_fraction (T : Tx P K mg A) : FnOk P w K mg base CX0 2 A.f_Lodd_fraction A.d_Lodd_fraction ["_law_pool_here"] (spOddF K) := by
  refine T.F_Lodd_fraction.ok sc_Lodd_fraction (fun vs H Q E h => ?_) (fun cdv A' outer s H vs Q E hr h => ?_)
  · obtain ⟨p, rfl, _⟩ := h
    rfl
  · obtain ⟨p, rfl, hP, k⟩ := h
    refine ⟨_, (pss_cons (ps_set (i := 1) sc_Lodd_fraction.nd rfl (Or.inl rfl) (pe_lst (pa_cons pe_non (pa_cons pe_bl (pa_cons pe_bl (pa_cons pe_int (pa_cons pe_int (pa_cons pe_str (pa_cons (pe_tup (pa_cons pe_int pa_nil)) (pa_cons (pe_tup (pa_cons pe_int (pa_cons pe_int (pa_cons pe_int pa_nil)))) (pa_cons (pe_lst (pa_cons pe_int (pa_cons pe_int pa_nil))) (pa_cons (pe_tup (pa_cons pe_int (pa_cons pe_int pa_nil))) (pa_cons (pe_tup (pa_cons pe_int (pa_cons pe_int pa_nil))) (pa_cons (pe_tup (pa_cons pe_int (pa_cons pe_int pa_nil))) pa_nil))))))))))))))
    (pss_cons (ps_set (i := 1) sc_Lodd_fraction.nd rfl (Or.inl rfl) (pe_op op_cat (pv 1) (pe_lst (pa_cons (pe_tup (pa_cons pe_int (pa_cons (pe_un un_neg pe_int) pa_nil))) (pa_cons (pe_tup (pa_cons (pe_un un_neg pe_int) (pa_cons (pe_un un_neg pe_int) pa_nil))) pa_nil)))))
    (pss_cons (ps_set (i := 1) sc_Lodd_fraction.nd rfl (Or.inl rfl) (pe_op op_cat (pv 1) (pe_lst (pa_cons (pe_tup (pa_cons pe_bl (pa_cons pe_int pa_nil))) (pa_cons (pe_tup (pa_cons pe_int (pa_cons pe_bl pa_nil))) (pa_cons (pe_tup (pa_cons pe_str (pa_cons pe_int pa_nil))) (pa_cons (pe_tup (pa_cons (pe_tup (pa_cons pe_int (pa_cons pe_int pa_nil))) (pa_cons pe_int pa_nil))) (pa_cons (pe_tup (pa_cons pe_non (pa_cons pe_int pa_nil))) (pa_cons pe_dnewK (pa_cons (pe_tup pa_nil) (pa_cons (pe_lst pa_nil) (pa_cons (pe_tup (pa_cons (pe_lst pa_nil) (pa_cons pe_int pa_nil))) pa_nil))))))))))))
    (pss_cons (ps_set (i := 1) sc_Lodd_fraction.nd rfl (Or.inl rfl) (pe_op op_cat (pv 1) (pe_lst (pa_cons (pe_tup (pa_cons pe_int (pa_cons pe_int pa_nil))) (pa_cons (pe_tup (pa_cons (pe_un un_neg pe_int) (pa_cons pe_int pa_nil))) pa_nil)))))
    (pss_one (ps_ret (pe_ix (ix_listV (K := K) rfl) (pv 1) (pe_call (ok_Ltake T) (hr.mono (by decide)) (by rfl) T.g_Ltake T.F_Ltake.kp T.b_Ltake .nil pass0 (pa_cons (pv 0) (pa_cons pe_int pa_nil))) (fun _ _ => rfl)))))))), ?_⟩
    walk_at "ww"
    refine alI fun a1 H1 n1 e1 f1 => ?_
    walk_at "ww"
    refine alI fun a2 H2 n2 e2 f2 => ?_
    walk_at "ww"
    refine alI fun a3 H3 n3 e3 f3 => ?_
    walk_at "ww"
    refine alI fun a4 H4 n4 e4 f4 => ?_
    walk_at "ww"
    refine alI fun a5 H5 n5 e5 f5 => ?_
    walk_at "ww"
    refine alI fun a6 H6 n6 e6 f6 => ?_
    walk_at "ww"
    refine alI fun a7 H7 n7 e7 f7 => ?_
    walk_at "ww"
    refine alI fun a8 H8 n8 e8 f8 => ?_
    walk_at "ww"
    refine alI fun a9 H9 n9 e9 f9 => ?_
    walk_at "ww"
    refine alI fun a10 H10 n10 e10 f10 => ?_
    walk_at "ww"
    refine wCat (by walk_at "lk") (by walk_at "lk") (by with_unfolding_all exact Nat.le_of_ble_eq_true rfl) (alI fun a11 H11 n11 e11 f11 => ?_)
    walk_at "ww"
    refine alI fun a12 H12 n12 e12 f12 => ?_
    walk_at "ww"
    refine alI fun a13 H13 n13 e13 f13 => ?_
    walk_at "ww"
    refine alI fun a14 H14 n14 e14 f14 => ?_
    walk_at "ww"
    refine alI fun a15 H15 n15 e15 f15 => ?_
    walk_at "ww"
    refine alI fun a16 H16 n16 e16 f16 => ?_
    walk_at "ww"
    refine alI fun a17 H17 n17 e17 f17 => ?_
    walk_at "ww"
    refine alI fun a18 H18 n18 e18 f18 => ?_
    walk_at "ww"
    refine alI fun a19 H19 n19 e19 f19 => ?_
    walk_at "ww"
    refine alI fun a20 H20 n20 e20 f20 => ?_
    walk_at "ww"
    refine alI fun a21 H21 n21 e21 f21 => ?_
    walk_at "ww"
    refine alI fun a22 H22 n22 e22 f22 => ?_
    walk_at "ww"
    refine alI fun a23 H23 n23 e23 f23 => ?_
    walk_at "ww"
    refine wCat (by walk_at "lk") (by walk_at "lk") (by with_unfolding_all exact Nat.le_of_ble_eq_true rfl) (alI fun a24 H24 n24 e24 f24 => ?_)
    walk_at "ww"
    refine alI fun a25 H25 n25 e25 f25 => ?_
    walk_at "ww"
    refine alI fun a26 H26 n26 e26 f26 => ?_
    walk_at "ww"
    refine alI fun a27 H27 n27 e27 f27 => ?_
    walk_at "ww"
    refine wCat (by walk_at "lk") (by walk_at "lk") (by with_unfolding_all exact Nat.le_of_ble_eq_true rfl) (alI fun a28 H28 n28 e28 f28 => ?_)
    walk_at "ww"
    have m1 : a1 ≠ p := Pool.ne (hP) n1
    have g1 : H28 a1 = some (.tup [V.int 1]) := by walk_at "lk"
    have m2 : a2 ≠ p := Pool.ne (hP.ex (e1)) n2
    have g2 : H28 a2 = some (.tup [V.int 1, V.int 2, V.int 3]) := by walk_at "lk"
    have m3 : a3 ≠ p := Pool.ne (hP.ex ((e1.trans e2))) n3
    have g3 : H28 a3 = some (.lst [V.int 1, V.int 2]) := by walk_at "lk"
    have m4 : a4 ≠ p := Pool.ne (hP.ex (((e1.trans e2).trans e3))) n4
    have g4 : H28 a4 = some (.tup [V.int 2, V.int 4]) := by walk_at "lk"
    have m5 : a5 ≠ p := Pool.ne (hP.ex ((((e1.trans e2).trans e3).trans e4))) n5
    have g5 : H28 a5 = some (.tup [V.int 0, V.int 2]) := by walk_at "lk"
    have m6 : a6 ≠ p := Pool.ne (hP.ex (((((e1.trans e2).trans e3).trans e4).trans e5))) n6
    have g6 : H28 a6 = some (.tup [V.int 1, V.int 0]) := by walk_at "lk"
    have m8 : a8 ≠ p := Pool.ne (hP.ex (((((((e1.trans e2).trans e3).trans e4).trans e5).trans e6).trans e7))) n8
    have g8 : H28 a8 = some (.tup [V.int 1, V.int (-1)]) := by walk_at "lk"
    have m9 : a9 ≠ p := Pool.ne (hP.ex ((((((((e1.trans e2).trans e3).trans e4).trans e5).trans e6).trans e7).trans e8))) n9
    have g9 : H28 a9 = some (.tup [V.int (-1), V.int (-2)]) := by walk_at "lk"
    have m12 : a12 ≠ p := Pool.ne (hP.ex (((((((((((e1.trans e2).trans e3).trans e4).trans e5).trans e6).trans e7).trans e8).trans e9).trans e10).trans e11))) n12
    have g12 : H28 a12 = some (.tup [V.bl true, V.int 1]) := by walk_at "lk"
    have m13 : a13 ≠ p := Pool.ne (hP.ex ((((((((((((e1.trans e2).trans e3).trans e4).trans e5).trans e6).trans e7).trans e8).trans e9).trans e10).trans e11).trans e12))) n13
    have g13 : H28 a13 = some (.tup [V.int 1, V.bl true]) := by walk_at "lk"
    have m14 : a14 ≠ p := Pool.ne (hP.ex (((((((((((((e1.trans e2).trans e3).trans e4).trans e5).trans e6).trans e7).trans e8).trans e9).trans e10).trans e11).trans e12).trans e13))) n14
    have g14 : H28 a14 = some (.tup [V.str "1", V.int 1]) := by walk_at "lk"
    have m15 : a15 ≠ p := Pool.ne (hP.ex ((((((((((((((e1.trans e2).trans e3).trans e4).trans e5).trans e6).trans e7).trans e8).trans e9).trans e10).trans e11).trans e12).trans e13).trans e14))) n15
    have g15 : H28 a15 = some (.tup [V.int 1, V.int 1]) := by walk_at "lk"
    have m16 : a16 ≠ p := Pool.ne (hP.ex (((((((((((((((e1.trans e2).trans e3).trans e4).trans e5).trans e6).trans e7).trans e8).trans e9).trans e10).trans e11).trans e12).trans e13).trans e14).trans e15))) n16
    have g16 : H28 a16 = some (.tup [V.ref a15, V.int 1]) := by walk_at "lk"
    have m17 : a17 ≠ p := Pool.ne (hP.ex ((((((((((((((((e1.trans e2).trans e3).trans e4).trans e5).trans e6).trans e7).trans e8).trans e9).trans e10).trans e11).trans e12).trans e13).trans e14).trans e15).trans e16))) n17
    have g17 : H28 a17 = some (.tup [V.non, V.int 1]) := by walk_at "lk"
    have m18 : a18 ≠ p := Pool.ne (hP.ex (((((((((((((((((e1.trans e2).trans e3).trans e4).trans e5).trans e6).trans e7).trans e8).trans e9).trans e10).trans e11).trans e12).trans e13).trans e14).trans e15).trans e16).trans e17))) n18
    have g18 : H28 a18 = some (.dK []) := by walk_at "lk"
    have m19 : a19 ≠ p := Pool.ne (hP.ex ((((((((((((((((((e1.trans e2).trans e3).trans e4).trans e5).trans e6).trans e7).trans e8).trans e9).trans e10).trans e11).trans e12).trans e13).trans e14).trans e15).trans e16).trans e17).trans e18))) n19
    have g19 : H28 a19 = some (.tup []) := by walk_at "lk"
    have m20 : a20 ≠ p := Pool.ne (hP.ex (((((((((((((((((((e1.trans e2).trans e3).trans e4).trans e5).trans e6).trans e7).trans e8).trans e9).trans e10).trans e11).trans e12).trans e13).trans e14).trans e15).trans e16).trans e17).trans e18).trans e19))) n20
    have g20 : H28 a20 = some (.lst []) := by walk_at "lk"
    have m21 : a21 ≠ p := Pool.ne (hP.ex ((((((((((((((((((((e1.trans e2).trans e3).trans e4).trans e5).trans e6).trans e7).trans e8).trans e9).trans e10).trans e11).trans e12).trans e13).trans e14).trans e15).trans e16).trans e17).trans e18).trans e19).trans e20))) n21
    have g21 : H28 a21 = some (.lst []) := by walk_at "lk"
    have m22 : a22 ≠ p := Pool.ne (hP.ex (((((((((((((((((((((e1.trans e2).trans e3).trans e4).trans e5).trans e6).trans e7).trans e8).trans e9).trans e10).trans e11).trans e12).trans e13).trans e14).trans e15).trans e16).trans e17).trans e18).trans e19).trans e20).trans e21))) n22
    have g22 : H28 a22 = some (.tup [V.ref a21, V.int 1]) := by walk_at "lk"
    have m25 : a25 ≠ p := Pool.ne (hP.ex ((((((((((((((((((((((((e1.trans e2).trans e3).trans e4).trans e5).trans e6).trans e7).trans e8).trans e9).trans e10).trans e11).trans e12).trans e13).trans e14).trans e15).trans e16).trans e17).trans e18).trans e19).trans e20).trans e21).trans e22).trans e23).trans e24))) n25
    have g25 : H28 a25 = some (.tup [V.int 0, V.int 0]) := by walk_at "lk"
    have m26 : a26 ≠ p := Pool.ne (hP.ex (((((((((((((((((((((((((e1.trans e2).trans e3).trans e4).trans e5).trans e6).trans e7).trans e8).trans e9).trans e10).trans e11).trans e12).trans e13).trans e14).trans e15).trans e16).trans e17).trans e18).trans e19).trans e20).trans e21).trans e22).trans e23).trans e24).trans e25))) n26
    have g26 : H28 a26 = some (.tup [V.int (-6), V.int 4]) := by walk_at "lk"
    have E : Ex H H28 := (((((((((((((((((((((((((((e1.trans e2).trans e3).trans e4).trans e5).trans e6).trans e7).trans e8).trans e9).trans e10).trans e11).trans e12).trans e13).trans e14).trans e15).trans e16).trans e17).trans e18).trans e19).trans e20).trans e21).trans e22).trans e23).trans e24).trans e25).trans e26).trans e27).trans e28)
    have hPN := hP.ex E
    refine ⟨p, 25, rfl, hPN, Sm.of (by omega) (by omega), fun c H' c0 c1 k1 hP1 => ?_⟩
    have each : ∀ v ∈ ([V.non, V.bl true, V.bl false, V.int 0, V.int 1, V.str "1/2", V.ref a1, V.ref a2, V.ref a3, V.ref a4, V.ref a5, V.ref a6] ++ [V.ref a8, V.ref a9] ++ [V.ref a12, V.ref a13, V.ref a14, V.ref a16, V.ref a17, V.ref a18, V.ref a19, V.ref a20, V.ref a22] ++ [V.ref a25, V.ref a26]), OddF K (hide p H28) v := (List.forall_mem_append.mpr ⟨(List.forall_mem_append.mpr ⟨(List.forall_mem_append.mpr ⟨(List.forall_mem_cons.mpr ⟨(.kind .non (by decide +kernel)), (List.forall_mem_cons.mpr ⟨(.kind (.bl _) (by decide +kernel)), (List.forall_mem_cons.mpr ⟨(.kind (.bl _) (by decide +kernel)), (List.forall_mem_cons.mpr ⟨(.kind (.int _) (by decide +kernel)), (List.forall_mem_cons.mpr ⟨(.kind (.int _) (by decide +kernel)), (List.forall_mem_cons.mpr ⟨(.kind (.str _) (by decide +kernel)), (List.forall_mem_cons.mpr ⟨(.len (hide_at m1 g1) (Nat.ne_of_beq_eq_false rfl) (Nat.le_of_ble_eq_true rfl)), (List.forall_mem_cons.mpr ⟨(.len (hide_at m2 g2) (Nat.ne_of_beq_eq_false rfl) (Nat.le_of_ble_eq_true rfl)), (List.forall_mem_cons.mpr ⟨(.kind (.lst (hide_at m3 g3)) (by decide +kernel)), (List.forall_mem_cons.mpr ⟨(.low (hide_at m4 g4) (fun z => absurd z (by unfold Fr.IsFr; decide)) (by decide +kernel) (by decide +kernel)), (List.forall_mem_cons.mpr ⟨(.low (hide_at m5 g5) (fun z => absurd z (by unfold Fr.IsFr; decide)) (by decide +kernel) (by decide +kernel)), (List.forall_mem_cons.mpr ⟨(.low (hide_at m6 g6) (fun z => absurd z (by unfold Fr.IsFr; decide)) (by decide +kernel) (by decide +kernel)), (List.forall_mem_nil _)⟩)⟩)⟩)⟩)⟩)⟩)⟩)⟩)⟩)⟩)⟩)⟩), (List.forall_mem_cons.mpr ⟨(.low (hide_at m8 g8) (fun z => absurd z (by unfold Fr.IsFr; decide)) (by decide +kernel) (by decide +kernel)), (List.forall_mem_cons.mpr ⟨(.low (hide_at m9 g9) (fun z => absurd z (by unfold Fr.IsFr; decide)) (by decide +kernel) (by decide +kernel)), (List.forall_mem_nil _)⟩)⟩)⟩), (List.forall_mem_cons.mpr ⟨(.item (hide_at m12 g12) (.bl _) (.int _) rfl), (List.forall_mem_cons.mpr ⟨(.item (hide_at m13 g13) (.int _) (.bl _) rfl), (List.forall_mem_cons.mpr ⟨(.item (hide_at m14 g14) (.str _) (.int _) rfl), (List.forall_mem_cons.mpr ⟨(.item (hide_at m16 g16) (.tup (hide_at m15 g15)) (.int _) rfl), (List.forall_mem_cons.mpr ⟨(.item (hide_at m17 g17) .non (.int _) rfl), (List.forall_mem_cons.mpr ⟨(.kind (.dK (hide_at m18 g18)) (by decide +kernel)), (List.forall_mem_cons.mpr ⟨(.len (hide_at m19 g19) (Nat.ne_of_beq_eq_false rfl) (Nat.le_of_ble_eq_true rfl)), (List.forall_mem_cons.mpr ⟨(.kind (.lst (hide_at m20 g20)) (by decide +kernel)), (List.forall_mem_cons.mpr ⟨(.item (hide_at m22 g22) (.lst (hide_at m21 g21)) (.int _) rfl), (List.forall_mem_nil _)⟩)⟩)⟩)⟩)⟩)⟩)⟩)⟩)⟩)⟩), (List.forall_mem_cons.mpr ⟨(.low (hide_at m25 g25) (fun z => absurd z (by unfold Fr.IsFr; decide)) (by decide +kernel) (by decide +kernel)), (List.forall_mem_cons.mpr ⟨(.low (hide_at m26 g26) (fun z => absurd z (by unfold Fr.IsFr; decide)) (by decide +kernel) (by decide +kernel)), (List.forall_mem_nil _)⟩)⟩)⟩)
    obtain ⟨v, hv, hm⟩ := at_ex (xs := [V.non, V.bl true, V.bl false, V.int 0, V.int 1, V.str "1/2", V.ref a1, V.ref a2, V.ref a3, V.ref a4, V.ref a5, V.ref a6] ++ [V.ref a8, V.ref a9] ++ [V.ref a12, V.ref a13, V.ref a14, V.ref a16, V.ref a17, V.ref a18, V.ref a19, V.ref a20, V.ref a22] ++ [V.ref a25, V.ref a26]) c0 (by show c < 25; omega)
    have mL : a28 ≠ p := Pool.ne (hP.ex (((((((((((((((((((((((((((e1.trans e2).trans e3).trans e4).trans e5).trans e6).trans e7).trans e8).trans e9).trans e10).trans e11).trans e12).trans e13).trans e14).trans e15).trans e16).trans e17).trans e18).trans e19).trans e20).trans e21).trans e22).trans e23).trans e24).trans e25).trans e26).trans e27))) n28
    refine wIxL (SqL.of (k1 _ _ mL f28)) hv ?_
    exact k v _ (E.kp.trans k1) hP1 (OddF.ex (each v hm) k1.hide)
/-- isinstance(u, int) and not isinstance(u, bool) -/
theorem whole_test {H : Hp} {Q : VK} {σ : L2.St} {i : Nat} {u : V} {n : String} (hi : σ[i]? = some (some u)) (ty : Ty K H u n) (k : Q (.bl (isIntV u)) H) :
    tAndV (tCB (rIsi K) (tCons (tVar i) (tCons (tC (V.ty "int")) tNil))) (tNotV (tCB (rIsi K) (tCons (tVar i) (tCons (tC (V.ty "bool")) tNil)))) σ H Q := by
  have e1 : kitB "NoneType" "int" = some false := by decide +kernel
  have e2 : kitB "bool" "int" = some true := by decide +kernel
  have e3 : kitB "int" "int" = some true := by decide +kernel
  have e4 : kitB "str" "int" = some false := by decide +kernel
  have e5 : kitB "list" "int" = some false := by decide +kernel
  have e6 : kitB "tuple" "int" = some false := by decide +kernel
  have e7 : kitB "dict" "int" = some false := by decide +kernel
  have b2 : kitB "bool" "bool" = some true := by decide +kernel
  have b3 : kitB "int" "bool" = some false := by decide +kernel
  refine wAndV (wCB (wCons (wVar hi (wCons (wC (wNil ?_))))))
  have no : ∀ {m : String}, Ty K H u m → kitB m "int" = some false → isIntV u = false → rIsi K [u, .ty "int"] H fun x H1 => ∃ c, x = .bl c ∧ if c = true then (tNotV (tCB (rIsi K) (tCons (tVar i) (tCons (tC (V.ty "bool")) tNil)))) σ H1 Q else Q (.bl false) H1 := fun t e z =>
    wIsi t e ⟨false, rfl, by rw [z] at k; exact k⟩
  cases ty with
  | non => exact no .non e1 rfl
  | str z => exact no (.str z) e4 rfl
  | lst h => exact no (.lst h) e5 rfl
  | tup h => exact no (.tup h) e6 rfl
  | dK h => exact no (.dK h) e7 rfl
  | kT h c => exact no (.kT h c) e6 rfl
  | bl b => exact wIsi (.bl b) e2 ⟨true, rfl, wNotV (wCB (wCons (wVar hi (wCons (wC (wNil (wIsi (.bl b) b2 ⟨true, rfl, k⟩)))))))⟩
  | int j => exact wIsi (.int j) e3 ⟨true, rfl, wNotV (wCB (wCons (wVar hi (wCons (wC (wNil (wIsi (.int j) b3 ⟨false, rfl, k⟩)))))))⟩
theorem eqv_pair (a b c d : Int) : PyData.eqv (.tuple [.int a, .int b]) (.tuple [.int c, .int d]) = decide (a = c ∧ b = d) := by
  simp only [PyData.eqv, PyData.eqvAll, Bool.and_true]
  rw [Bool.eq_iff_iff]
  simp
theorem cmp_pair {H : Hp} {x : Addr} {a b : Int} (h : H x = some (.tup [.int a, .int b])) : Cmp H (.ref x) (.tuple [.int a, .int b]) :=
  ⟨.tup h (.cons (.int a) (.cons (.int b) .nil)), by simp [PyData.plain, PyData.plainAll], by simp [PyData.depth, PyData.depthAll]⟩
def spLisF (K : PySem.W.Frag) : Sp := fun vs H Q _ => ∃ v o, vs = [v] ∧ FrQ K H v o ∧ ∀ H', Ex H H' → Q (.bl o.isSome) H'
theorem ok_Lis_fraction (T : Tx P K mg A) : FnOk P w K mg base CX0 2 A.f_Lis_fraction A.d_Lis_fraction ["_law_matter"] (spLisF K) := by
  refine T.F_Lis_fraction.ok sc_Lis_fraction (fun vs H Q E h => ?_) (fun cdv A' outer s H vs Q E hr h => ?_)
  · obtain ⟨v, o, rfl, _⟩ := h
    rfl
  · obtain ⟨v, o, rfl, h, k⟩ := h
    refine ⟨_, (pss_cons (ps_if (PW.pt (pw_or (pt_not (pt_val (pe_callB (call_isiV (K := K) rfl) (by rfl) T.m_isinstance (by decide +kernel) (pa_cons (pv 0) (pa_cons (pe_bltn (v := .ty "tuple") (by rfl) T.m_tuple (by decide +kernel) rfl) pa_nil))))) (pw_or1 (pt_cmpR op_ne (pe_callB (call_lenV (K := K) rfl) (by rfl) T.m_len (by decide +kernel) (pa_cons (pv 0) pa_nil)) pe_int (nomark _)))))
    (pss_one (ps_ret pe_bl))
    pss_nil)
    (pss_cons (ps_if (pt_not (pt_val (pe_callB (cr_allV (K := K) rfl rfl) (by rfl) T.m_all (by decide +kernel) (pa_cons (pe_lc rfl sc_Lis_fraction.nd (g := gName 1) (pi_tupV (K := K) rfl (pv 0)) (blkOk_by (own := [("_law_part", 1)]) (N := ["_law_matter", "_law_part"]) (sc := defScope s_Lis_fraction) (by decide +kernel)) (fun _ _ _ _ _ => (pg_name (i := 1) sc_Lis_fraction.nd rfl (Or.inl rfl))) (fun _ _ _ _ _ => pts_nil) (fun _ _ _ _ _ => (pe_and (pe_callB (call_isiV (K := K) rfl) (by rfl) T.m_isinstance (by decide +kernel) (pa_cons (pv 1) (pa_cons (pe_bltn (v := .ty "int") (by rfl) T.m_int (by decide +kernel) rfl) pa_nil))) (pe_one (pe_not (pe_callB (call_isiV (K := K) rfl) (by rfl) T.m_isinstance (by decide +kernel) (pa_cons (pv 1) (pa_cons (pe_bltn (v := .ty "bool") (by rfl) T.m_bool (by decide +kernel) rfl) pa_nil)))))))) pa_nil))))
    (pss_one (ps_ret pe_bl))
    pss_nil)
    (pss_one (ps_ret (pe_and (pe_cmpR op_gt (pe_ix (ix_tupV (K := K) rfl) (pv 0) pe_int (fun _ _ => rfl)) pe_int (nomark _)) (pe_one (pe_cmpR (op_eqD hr.units) (pe_call (ok_Llow T) (hr.mono (by decide)) (by rfl) T.g_Llow T.F_Llow.kp T.b_Llow .nil pass0 (pa_cons (pe_ix (ix_tupV (K := K) rfl) (pv 0) pe_int (fun _ _ => rfl)) (pa_cons (pe_ix (ix_tupV (K := K) rfl) (pv 0) pe_int (fun _ _ => rfl)) pa_nil))) (pv 0) (nomark _)))))))), ?_⟩
    have tt : kitB "tuple" "tuple" = some true := by decide +kernel
    walk_at "ww"
    cases h with
    | kind h ne =>
      refine wIsi h ne ?_
      walk_at "ww"
      exact k _ (Ex.refl _)
    | len h ne few =>
      refine wIsi (.tup h) tt ?_
      walk_at "ww"
      refine wLenT (SqT.of h) ?_
      walk_at "ww"
      rw [decide_eq_false (fun z => ne (by have := V.int.inj z; omega))]
      walk_at "ww"
      exact k _ (Ex.refl _)
    | item h hx hy no =>
      rename_i a x y n m
      refine wIsi (.tup h) tt ?_
      walk_at "ww"
      refine wLenT (SqT.of h) ?_
      walk_at "ww"
      refine exSt (SqT.of h) ?_
      intro D hD
      refine lcTup (K := K) (a := a) (xs := [x, y]) (fun H' => Ex H H') (fun i z H' => ∀ u, [x, y][i]? = some u → z = .bl (isIntV u)) (fun _ => rfl) (Ex.new hD) (fun H' e => SqT.of (e _ _ h)) (fun i u hi H5 acc hI hD5 hl hR => ?_) (fun H5 ys hI hD5 hl hR => ?_)
      · obtain ⟨nu, tu⟩ : ∃ n, Ty K H u n := by
          match i, hi with
          | 0, e => exact ⟨_, by cases e; exact hx⟩
          | 1, e => exact ⟨_, by cases e; exact hy⟩
        refine whole_test (K := K) (n := nu) rfl (tu.ex hI) ?_
        exact lcAdd hD5 hl (by have := (List.getElem?_eq_some_iff.mp hi).1; simp only [List.length_cons, List.length_nil] at this; omega) (hI.mut hD) hR (fun u' e => by rw [hi] at e; cases e; rfl)
      · walk_at "ww"
        have ey : ys = [V.bl (isIntV (x)), V.bl (isIntV (y))] := by
          match ys, hl, hR with
          | [u, v], _, q => rw [q 0 u rfl _ rfl, q 1 v rfl _ rfl]
        rw [ey] at hD5
        refine wAll (bs := [isIntV (x), isIntV (y)]) (SqL.of hD5) ?_
        have e2 : [isIntV (x), isIntV (y)].all id = false := by
          simp only [List.all_cons, List.all_nil, Bool.and_true, id]
          exact no
        have h5 := hI _ _ h
        rw [e2]
        walk_at "ww"
        exact k _ hI
    | low h no bp bq =>
      rename_i a p q
      have hx : Ty K H (.int p) "int" := .int p
      have hy : Ty K H (.int q) "int" := .int q
      refine wIsi (.tup h) tt ?_
      walk_at "ww"
      refine wLenT (SqT.of h) ?_
      walk_at "ww"
      refine exSt (SqT.of h) ?_
      intro D hD
      refine lcTup (K := K) (a := a) (xs := [V.int p, V.int q]) (fun H' => Ex H H') (fun i z H' => ∀ u, [V.int p, V.int q][i]? = some u → z = .bl (isIntV u)) (fun _ => rfl) (Ex.new hD) (fun H' e => SqT.of (e _ _ h)) (fun i u hi H5 acc hI hD5 hl hR => ?_) (fun H5 ys hI hD5 hl hR => ?_)
      · obtain ⟨nu, tu⟩ : ∃ n, Ty K H u n := by
          match i, hi with
          | 0, e => exact ⟨_, by cases e; exact hx⟩
          | 1, e => exact ⟨_, by cases e; exact hy⟩
        refine whole_test (K := K) (n := nu) rfl (tu.ex hI) ?_
        exact lcAdd hD5 hl (by have := (List.getElem?_eq_some_iff.mp hi).1; simp only [List.length_cons, List.length_nil] at this; omega) (hI.mut hD) hR (fun u' e => by rw [hi] at e; cases e; rfl)
      · walk_at "ww"
        have ey : ys = [V.bl (isIntV (V.int p)), V.bl (isIntV (V.int q))] := by
          match ys, hl, hR with
          | [u, v], _, q => rw [q 0 u rfl _ rfl, q 1 v rfl _ rfl]
        rw [ey] at hD5
        refine wAll (bs := [isIntV (V.int p), isIntV (V.int q)]) (SqL.of hD5) ?_
        have e2 : [isIntV (V.int p), isIntV (V.int q)].all id = true := by
          simp only [List.all_cons, List.all_nil, Bool.and_true, id]
          simp [isIntV]
        have h5 := hI _ _ h
        rw [e2]
        walk_at "ww"
        by_cases h1 : 0 < q
        · rw [decide_eq_true h1]
          walk_at "ww"
          refine ⟨p, q, rfl, h1, bq, fun z H6 n6 e6 f6 => ?_⟩
          walk_at "ww"
          refine ⟨_, _, cmp_pair f6, cmp_pair (e6 _ _ h5), ?_⟩
          rw [eqv_pair, decide_eq_false (fun z => no (by have q1 := Fr.fr_is (t := p) (b := q) (by omega); rw [z.1, z.2] at q1; exact q1))]
          exact k _ (hI.trans e6)
        · rw [decide_eq_false h1]
          walk_at "ww"
          exact k _ hI
    | yes h is_ bp bq =>
      rename_i a p q
      have hx : Ty K H (.int p) "int" := .int p
      have hy : Ty K H (.int q) "int" := .int q
      refine wIsi (.tup h) tt ?_
      walk_at "ww"
      refine wLenT (SqT.of h) ?_
      walk_at "ww"
      refine exSt (SqT.of h) ?_
      intro D hD
      refine lcTup (K := K) (a := a) (xs := [V.int p, V.int q]) (fun H' => Ex H H') (fun i z H' => ∀ u, [V.int p, V.int q][i]? = some u → z = .bl (isIntV u)) (fun _ => rfl) (Ex.new hD) (fun H' e => SqT.of (e _ _ h)) (fun i u hi H5 acc hI hD5 hl hR => ?_) (fun H5 ys hI hD5 hl hR => ?_)
      · obtain ⟨nu, tu⟩ : ∃ n, Ty K H u n := by
          match i, hi with
          | 0, e => exact ⟨_, by cases e; exact hx⟩
          | 1, e => exact ⟨_, by cases e; exact hy⟩
        refine whole_test (K := K) (n := nu) rfl (tu.ex hI) ?_
        exact lcAdd hD5 hl (by have := (List.getElem?_eq_some_iff.mp hi).1; simp only [List.length_cons, List.length_nil] at this; omega) (hI.mut hD) hR (fun u' e => by rw [hi] at e; cases e; rfl)
      · walk_at "ww"
        have ey : ys = [V.bl (isIntV (V.int p)), V.bl (isIntV (V.int q))] := by
          match ys, hl, hR with
          | [u, v], _, q => rw [q 0 u rfl _ rfl, q 1 v rfl _ rfl]
        rw [ey] at hD5
        refine wAll (bs := [isIntV (V.int p), isIntV (V.int q)]) (SqL.of hD5) ?_
        have e2 : [isIntV (V.int p), isIntV (V.int q)].all id = true := by
          simp only [List.all_cons, List.all_nil, Bool.and_true, id]
          simp [isIntV]
        have h5 := hI _ _ h
        rw [e2]
        walk_at "ww"
        have h1 : 0 < q := by have := is_.1; omega
        rw [decide_eq_true h1]
        walk_at "ww"
        refine ⟨p, q, rfl, h1, bq, fun z H6 n6 e6 f6 => ?_⟩
        walk_at "ww"
        refine ⟨_, _, cmp_pair f6, cmp_pair (e6 _ _ h5), ?_⟩
        have q2 := Fr.fr_unique (Fr.fr_is (t := p) (b := q) (by omega)) is_ (Fr.fr_cross (t := p) (b := q) (by omega))
        rw [eqv_pair, decide_eq_true q2]
        exact k _ (hI.trans e6)
theorem cmp_bls {H : Hp} {x : Addr} {a b c : Bool} (h : H x = some (.lst [.bl a, .bl b, .bl c])) : Cmp H (.ref x) (.list [.bool a, .bool b, .bool c]) :=
  ⟨.lst h (.cons (.bl a) (.cons (.bl b) (.cons (.bl c) .nil))), by simp [PyData.plain, PyData.plainAll], by simp [PyData.depth, PyData.depthAll]⟩
theorem eqv_bls (a b c : Bool) : PyData.eqv (.list [.bool a, .bool b, .bool c]) (.list [.bool a, .bool b, .bool c]) = true := by
  simp only [PyData.eqv, PyData.eqvAll, Bool.and_true, beq_self_eq_true]
def spSort (C : Addr) : Addr × Obj → Sp := fun p vs H Q _ => ∃ (d : Addr) (fs : List (Str × V)), vs = [.ref p.1] ∧ Zc (.ref C) (some d) p.2 ∧ (∃ fv, p.2.data = .fields fv) ∧ H d = some (.xd fs) ∧ ∀ H', Ex H H' → Q (.str "number") H'
theorem ok_Lsort (T : Tx P K mg A) : FnP P w K mg base 1 A.f_Lsort A.d_Lsort ["_law_e"] (spSort A.c_NoNumber) := by
  refine okP T.F_Lsort sc_Lsort (fun p vs H Q E h => ?_) (fun cdv A' outer s H vs Q E p rm h => ?_)
  · obtain ⟨d, fs, rfl, _⟩ := h
    rfl
  · obtain ⟨a, oe⟩ := p
    obtain ⟨d, fs, rfl, hz, hf, hd, k⟩ := h
    dsimp only at hz hf
    refine ⟨_, (pss_cons (ps_set (i := 1) sc_Lsort.nd rfl (Or.inl rfl) (pe_lst (pa_cons (pe_callB (call_isH (K := K) rfl List.mem_cons_self hz hf) (by rfl) T.m_isinstance (by decide +kernel) (pa_cons (pv 0) (pa_cons (pe_glob (v := .ref A.c_NoNumber) rfl T.g_NoNumber rfl) pa_nil))) (pa_cons (pe_callB (call_isH (K := K) rfl List.mem_cons_self hz hf) (by rfl) T.m_isinstance (by decide +kernel) (pa_cons (pv 0) (pa_cons (pe_glob (v := .ref A.c_NoDeed) rfl T.g_NoDeed rfl) pa_nil))) (pa_cons (pe_callB (call_isH (K := K) rfl List.mem_cons_self hz hf) (by rfl) T.m_isinstance (by decide +kernel) (pa_cons (pv 0) (pa_cons (pe_glob (v := .ref A.c_NoBook) rfl T.g_NoBook rfl) pa_nil))) pa_nil)))))
    (pss_cons (ps_set (i := 1) sc_Lsort.nd rfl (Or.inl rfl) (pe_op op_cat (pv 1) (pe_lst (pa_cons (pe_callB (call_isH (K := K) rfl List.mem_cons_self hz hf) (by rfl) T.m_isinstance (by decide +kernel) (pa_cons (pv 0) (pa_cons (pe_glob (v := .ref A.c_NoWeb) rfl T.g_NoWeb rfl) pa_nil))) pa_nil))))
    (pss_cons (ps_set (i := 1) sc_Lsort.nd rfl (Or.inl rfl) (pe_op op_cat (pv 1) (pe_lst (pa_cons (pe_callB (call_isH (K := K) rfl List.mem_cons_self hz hf) (by rfl) T.m_isinstance (by decide +kernel) (pa_cons (pv 0) (pa_cons (pe_glob (v := .ref A.c_NoNames) rfl T.g_NoNames rfl) pa_nil))) (pa_cons (pe_callB (call_isH (K := K) rfl List.mem_cons_self hz hf) (by rfl) T.m_isinstance (by decide +kernel) (pa_cons (pv 0) (pa_cons (pe_glob (v := .ref A.c_NoAmount) rfl T.g_NoAmount rfl) pa_nil))) (pa_cons (pe_callB (call_isH (K := K) rfl List.mem_cons_self hz hf) (by rfl) T.m_isinstance (by decide +kernel) (pa_cons (pv 0) (pa_cons (pe_glob (v := .ref A.c_NoMany) rfl T.g_NoMany rfl) pa_nil))) pa_nil))))))
    (pss_cons (ps_set (i := 1) sc_Lsort.nd rfl (Or.inl rfl) (pe_op op_cat (pv 1) (pe_lst (pa_cons (pe_callB (call_isH (K := K) rfl List.mem_cons_self hz hf) (by rfl) T.m_isinstance (by decide +kernel) (pa_cons (pv 0) (pa_cons (pe_glob (v := .ref A.c_NoText) rfl T.g_NoText rfl) pa_nil))) pa_nil))))
    (pss_cons (ps_set (i := 1) sc_Lsort.nd rfl (Or.inl rfl) (pe_op op_cat (pv 1) (pe_lst (pa_cons (pe_callB (call_isH (K := K) rfl List.mem_cons_self hz hf) (by rfl) T.m_isinstance (by decide +kernel) (pa_cons (pv 0) (pa_cons (pe_glob (v := .ref A.c_NoRow) rfl T.g_NoRow rfl) pa_nil))) (pa_cons (pe_callB (call_isH (K := K) rfl List.mem_cons_self hz hf) (by rfl) T.m_isinstance (by decide +kernel) (pa_cons (pv 0) (pa_cons (pe_glob (v := .ref A.c_NoName) rfl T.g_NoName rfl) pa_nil))) (pa_cons (pe_callB (call_isH (K := K) rfl List.mem_cons_self hz hf) (by rfl) T.m_isinstance (by decide +kernel) (pa_cons (pv 0) (pa_cons (pe_glob (v := .ref A.c_NoLot) rfl T.g_NoLot rfl) pa_nil))) pa_nil))))))
    (pss_cons (ps_set (i := 1) sc_Lsort.nd rfl (Or.inl rfl) (pe_op op_cat (pv 1) (pe_lst (pa_cons (pe_callB (call_isH (K := K) rfl List.mem_cons_self hz hf) (by rfl) T.m_isinstance (by decide +kernel) (pa_cons (pv 0) (pa_cons (pe_glob (v := .ref A.c_NoPlace) rfl T.g_NoPlace rfl) pa_nil))) pa_nil))))
    (pss_cons (ps_set (i := 1) sc_Lsort.nd rfl (Or.inl rfl) (pe_op op_cat (pv 1) (pe_lst (pa_cons (pe_callB (call_isH (K := K) rfl List.mem_cons_self hz hf) (by rfl) T.m_isinstance (by decide +kernel) (pa_cons (pv 0) (pa_cons (pe_glob (v := .ref A.c_NoBack) rfl T.g_NoBack rfl) pa_nil))) (pa_cons (pe_callB (call_isH (K := K) rfl List.mem_cons_self hz hf) (by rfl) T.m_isinstance (by decide +kernel) (pa_cons (pv 0) (pa_cons (pe_glob (v := .ref A.c_Fails) rfl T.g_Fails rfl) pa_nil))) (pa_cons (pe_callB (call_isH (K := K) rfl List.mem_cons_self hz hf) (by rfl) T.m_isinstance (by decide +kernel) (pa_cons (pv 0) (pa_cons (pe_glob (v := .ref A.c_NoMates) rfl T.g_NoMates rfl) pa_nil))) pa_nil))))))
    (pss_cons (ps_set (i := 1) sc_Lsort.nd rfl (Or.inl rfl) (pe_op op_cat (pv 1) (pe_lst (pa_cons (pe_callB (call_isH (K := K) rfl List.mem_cons_self hz hf) (by rfl) T.m_isinstance (by decide +kernel) (pa_cons (pv 0) (pa_cons (pe_glob (v := .ref A.c_TooMany) rfl T.g_TooMany rfl) pa_nil))) pa_nil))))
    (pss_cons (ps_set (i := 2) sc_Lsort.nd rfl (Or.inl rfl) (pe_lst (pa_cons (pe_callB (call_isH (K := K) rfl List.mem_cons_self hz hf) (by rfl) T.m_isinstance (by decide +kernel) (pa_cons (pv 0) (pa_cons (pe_glob (v := .ref A.c_ThankError) rfl T.g_ThankError rfl) pa_nil))) (pa_cons (pe_callB (call_isH (K := K) rfl List.mem_cons_self hz hf) (by rfl) T.m_isinstance (by decide +kernel) (pa_cons (pv 0) (pa_cons (pe_glob (v := .ref A.c_LostError) rfl T.g_LostError rfl) pa_nil))) (pa_cons (pe_callB (call_isH (K := K) rfl List.mem_cons_self hz hf) (by rfl) T.m_isinstance (by decide +kernel) (pa_cons (pv 0) (pa_cons (pe_glob (v := .ref A.c_StandError) rfl T.g_StandError rfl) pa_nil))) pa_nil)))))
    (pss_cons (ps_set (i := 3) sc_Lsort.nd rfl (Or.inl rfl) (pe_lst (pa_cons (pe_callB (call_isH (K := K) rfl List.mem_cons_self hz hf) (by rfl) T.m_isinstance (by decide +kernel) (pa_cons (pv 0) (pa_cons (pe_bltn (v := .ty "ValueError") (by rfl) T.m_ValueError (by decide +kernel) rfl) pa_nil))) (pa_cons (pe_callB (call_isH (K := K) rfl List.mem_cons_self hz hf) (by rfl) T.m_isinstance (by decide +kernel) (pa_cons (pv 0) (pa_cons (pe_bltn (v := .ty "LookupError") (by rfl) T.m_LookupError (by decide +kernel) rfl) pa_nil))) (pa_cons (pe_callB (call_isH (K := K) rfl List.mem_cons_self hz hf) (by rfl) T.m_isinstance (by decide +kernel) (pa_cons (pv 0) (pa_cons (pe_bltn (v := .ty "ArithmeticError") (by rfl) T.m_ArithmeticError (by decide +kernel) rfl) pa_nil))) pa_nil)))))
    (pss_cons (ps_if (PW.pt (pw_or (pt_cmpR op_ne (pe_bm PySem.F.plainAttrs_list PySem.F.slot_list_count PySem.F.type_list_count (mt_countV (K := K) rfl) (pv 1) (pa_cons pe_bl pa_nil)) pe_int (nomark _)) (pw_or1 (pt_cmpR (op_neD (roomU rm)) (pv 2) (pv 3) (nomark _)))))
    (pss_one (ps_ret pe_str))
    pss_nil)
    (pss_cons (ps_set (i := 4) sc_Lsort.nd rfl (Or.inl rfl) (pe_bm PySem.F.plainAttrs_list PySem.F.slot_list_index PySem.F.type_list_index (mt_indexV (K := K) rfl) (pv 1) (pa_cons pe_bl pa_nil)))
    (pss_cons (ps_if (pt_cmpR (op_neD (roomU rm)) (pv 2) (pe_lst (pa_cons (pe_cmpR op_lt (pv 4) pe_int (nomark _)) (pa_cons (pe_chain op_lt op_lt pe_int (pv 4) pe_int) (pa_cons (pe_cmpR op_gt (pv 4) pe_int (nomark _)) pa_nil)))) (nomark _))
    (pss_one (ps_ret pe_str))
    pss_nil)
    (pss_cons (ps_set (i := 5) sc_Lsort.nd rfl (Or.inl rfl) pe_str)
    (pss_one (ps_ret (pe_ix (ix_listV (K := K) rfl) (pe_split (pv 5) pe_str) (pv 4) (fun _ _ => rfl)))))))))))))))))), ?_⟩
    walk_at "ww"
    refine wIsH T.err_NoNumber T.ko_NoNumber_NoNumber (by walk_at "lk") ?_
    walk_at "ww"
    refine wIsH T.err_NoNumber T.ko_NoNumber_NoDeed (by walk_at "lk") ?_
    walk_at "ww"
    refine wIsH T.err_NoNumber T.ko_NoNumber_NoBook (by walk_at "lk") ?_
    walk_at "ww"
    refine alI fun a1 H1 n1 e1 f1 => ?_
    walk_at "ww"
    refine wIsH T.err_NoNumber T.ko_NoNumber_NoWeb (by walk_at "lk") ?_
    walk_at "ww"
    refine alI fun a2 H2 n2 e2 f2 => ?_
    walk_at "ww"
    refine wCat (by walk_at "lk") (by walk_at "lk") (by with_unfolding_all exact Nat.le_of_ble_eq_true rfl) (alI fun a3 H3 n3 e3 f3 => ?_)
    walk_at "ww"
    refine wIsH T.err_NoNumber T.ko_NoNumber_NoNames (by walk_at "lk") ?_
    walk_at "ww"
    refine wIsH T.err_NoNumber T.ko_NoNumber_NoAmount (by walk_at "lk") ?_
    walk_at "ww"
    refine wIsH T.err_NoNumber T.ko_NoNumber_NoMany (by walk_at "lk") ?_
    walk_at "ww"
    refine alI fun a4 H4 n4 e4 f4 => ?_
    walk_at "ww"
    refine wCat (by walk_at "lk") (by walk_at "lk") (by with_unfolding_all exact Nat.le_of_ble_eq_true rfl) (alI fun a5 H5 n5 e5 f5 => ?_)
    walk_at "ww"
    refine wIsH T.err_NoNumber T.ko_NoNumber_NoText (by walk_at "lk") ?_
    walk_at "ww"
    refine alI fun a6 H6 n6 e6 f6 => ?_
    walk_at "ww"
    refine wCat (by walk_at "lk") (by walk_at "lk") (by with_unfolding_all exact Nat.le_of_ble_eq_true rfl) (alI fun a7 H7 n7 e7 f7 => ?_)
    walk_at "ww"
    refine wIsH T.err_NoNumber T.ko_NoNumber_NoRow (by walk_at "lk") ?_
    walk_at "ww"
    refine wIsH T.err_NoNumber T.ko_NoNumber_NoName (by walk_at "lk") ?_
    walk_at "ww"
    refine wIsH T.err_NoNumber T.ko_NoNumber_NoLot (by walk_at "lk") ?_
    walk_at "ww"
    refine alI fun a8 H8 n8 e8 f8 => ?_
    walk_at "ww"
    refine wCat (by walk_at "lk") (by walk_at "lk") (by with_unfolding_all exact Nat.le_of_ble_eq_true rfl) (alI fun a9 H9 n9 e9 f9 => ?_)
    walk_at "ww"
    refine wIsH T.err_NoNumber T.ko_NoNumber_NoPlace (by walk_at "lk") ?_
    walk_at "ww"
    refine alI fun a10 H10 n10 e10 f10 => ?_
    walk_at "ww"
    refine wCat (by walk_at "lk") (by walk_at "lk") (by with_unfolding_all exact Nat.le_of_ble_eq_true rfl) (alI fun a11 H11 n11 e11 f11 => ?_)
    walk_at "ww"
    refine wIsH T.err_NoNumber T.ko_NoNumber_NoBack (by walk_at "lk") ?_
    walk_at "ww"
    refine wIsH T.err_NoNumber T.ko_NoNumber_Fails (by walk_at "lk") ?_
    walk_at "ww"
    refine wIsH T.err_NoNumber T.ko_NoNumber_NoMates (by walk_at "lk") ?_
    walk_at "ww"
    refine alI fun a12 H12 n12 e12 f12 => ?_
    walk_at "ww"
    refine wCat (by walk_at "lk") (by walk_at "lk") (by with_unfolding_all exact Nat.le_of_ble_eq_true rfl) (alI fun a13 H13 n13 e13 f13 => ?_)
    walk_at "ww"
    refine wIsH T.err_NoNumber T.ko_NoNumber_TooMany (by walk_at "lk") ?_
    walk_at "ww"
    refine alI fun a14 H14 n14 e14 f14 => ?_
    walk_at "ww"
    refine wCat (by walk_at "lk") (by walk_at "lk") (by with_unfolding_all exact Nat.le_of_ble_eq_true rfl) (alI fun a15 H15 n15 e15 f15 => ?_)
    walk_at "ww"
    refine wIsH T.err_NoNumber T.ko_NoNumber_ThankError (by walk_at "lk") ?_
    walk_at "ww"
    refine wIsH T.err_NoNumber T.ko_NoNumber_LostError (by walk_at "lk") ?_
    walk_at "ww"
    refine wIsH T.err_NoNumber T.ko_NoNumber_StandError (by walk_at "lk") ?_
    walk_at "ww"
    refine alI fun a16 H16 n16 e16 f16 => ?_
    walk_at "ww"
    refine wIsHT T.err_NoNumber T.ko_NoNumber_ValueError (by walk_at "lk") ?_
    walk_at "ww"
    refine wIsHT T.err_NoNumber T.ko_NoNumber_LookupError (by walk_at "lk") ?_
    walk_at "ww"
    refine wIsHT T.err_NoNumber T.ko_NoNumber_ArithmeticError (by walk_at "lk") ?_
    walk_at "ww"
    refine alI fun a17 H17 n17 e17 f17 => ?_
    walk_at "ww"
    have hs : H17 a15 = some (.lst ([V.bl true, V.bl false, V.bl false, V.bl false, V.bl false, V.bl false, V.bl false, V.bl false, V.bl false, V.bl false, V.bl false, V.bl false, V.bl false, V.bl false, V.bl false, V.bl false])) := by walk_at "lk"
    have hb : H17 a16 = some (.lst [V.bl true, V.bl false, V.bl false]) := by walk_at "lk"
    have hp : H17 a17 = some (.lst [V.bl true, V.bl false, V.bl false]) := by walk_at "lk"
    refine anTyL hs ?_
    walk_at "ww"
    refine ⟨_, _, _, rfl, rfl, SqL.of hs, rfl, rfl, ?_⟩
    walk_at "ww"
    refine ⟨_, _, cmp_bls hb, cmp_bls hp, ?_⟩
    rw [eqv_bls]
    walk_at "ww"
    refine anTyL hs ?_
    walk_at "ww"
    refine ⟨_, _, _, 0, _, rfl, rfl, SqL.of hs, rfl, rfl, rfl, rfl, (fun m z q => absurd q (by omega)), ?_⟩
    walk_at "ww"
    rw [show decide ((8 : Int) < ((0 : Nat) : Int)) = false by decide]
    walk_at "ww"
    refine alI fun a18 H18 n18 e18 f18 => ?_
    walk_at "ww"
    refine ⟨_, _, cmp_bls (by walk_at "lk"), cmp_bls (by walk_at "lk"), ?_⟩
    rw [show (not (PyData.eqv (.list [.bool true, .bool false, .bool false]) (.list [.bool (decide (((0 : Nat) : Int) < 9)), .bool false, .bool (decide ((12 : Int) < ((0 : Nat) : Int)))]))) = false by decide]
    walk_at "ww"
    refine ⟨_, _, rfl, rfl, rfl, by decide, fun l19 n19 => ?_⟩
    walk_at "ww"
    have eS : Builtin.Str.strSub (Str.ofString "number deed book web names amount many text row name lot place back fails mates toomany") 0 (0 + 1 + 1 + 1 + 1 + 1 + 1) = Str.ofString "number" := by decide +kernel
    rw [eS]
    exact k _ ((((((((((((((((((e1.trans e2).trans e3).trans e4).trans e5).trans e6).trans e7).trans e8).trans e9).trans e10).trans e11).trans e12).trans e13).trans e14).trans e15).trans e16).trans e17).trans e18).trans (Ex.new n19))
def dOut : Out → PyData
  | .bad i => .list [.str "number", .int i]
  | .fr t b => .list [.str "told", .tuple [.int t, .int b]]
  | .tr b => .list [.str "told", .bool b]
/-- at a: what is told of o -/
def Told (H : Hp) (a : Addr) : Out → Prop
  | .bad i => H a = some (.lst [.str "number", .int i])
  | .fr t b => ∃ q, H a = some (.lst [.str "told", .ref q]) ∧ H q = some (.tup [.int t, .int b])
  | .tr b => H a = some (.lst [.str "told", .bl b])
theorem Told.ex {H H' : Hp} {a : Addr} {o : Out} (h : Told H a o) (e : Ex H H') : Told H' a o := by
  cases o with
  | bad i => exact e _ _ h
  | fr t b =>
    obtain ⟨q, h1, h2⟩ := h
    exact ⟨q, e _ _ h1, e _ _ h2⟩
  | tr b => exact e _ _ h
theorem Told.of {H H' : Hp} {a : Addr} {o : Out} {v : V} (h : Res H o v) (e : Ex H H') (f : H' a = some (.lst [.str "told", v])) : Told H' a o := by
  cases o with
  | bad i => exact h.elim
  | fr t b =>
    obtain ⟨q, rfl, h2⟩ := h
    exact ⟨q, f, e _ _ h2⟩
  | tr b =>
    cases (show v = .bl b from h)
    exact f
def spAsked (K : PySem.W.Frag) : Sp := fun vs H Q _ => ∃ m x y o, vs = [.int m, x, y] ∧ 0 ≤ m ∧ m < 12 ∧ Ask K H (m % 6) x y o ∧ ∀ a H', Ex H H' → Told H' a o → Q (.ref a) H'
theorem asked_suite (T : Tx P K mg A) {H : Hp} {D : Ends} {σ : L2.St} {a d : Addr} {i : Int} (hd : H d = some (.xd [("place", .int i)])) (hσ : σ[3]? = some (some (.ref a))) (k : ∀ p H', Ex H H' → H' p = some (.lst [.str "number", .int i]) → D.rt (.ref p) H') :
    tRet (tLst (tCons (tCallP a (.ref A.c_NoNumber) (some d) (spSort A.c_NoNumber) (tCons (tVar 3) tNil)) (tCons (tIf (tB (tCB (rIsH K a (.ref A.c_NoNumber) (some d)) (tCons (tVar 3) (tCons (tC (V.ref A.c_NoNumber)) tNil)))) (tXf a (.ref A.c_NoNumber) (some d) A.c_NoNumber (Str.ofString "place") (tVar 3)) (tC V.non)) tNil))) D σ H := by
  refine wRet (wLst (wCons (wCallP (wCons (wVar hσ (wNil ?_))))))
  intro oe hz hf
  refine ⟨d, _, rfl, hz, hf, hd, fun H1 e1 => ?_⟩
  refine wCons (wIf (wB (wCB (wCons (wVar hσ (wCons (wC (wNil ?_))))))))
  refine wIsH T.err_NoNumber T.ko_NoNumber_NoNumber (e1 _ _ hd) ⟨true, rfl, ?_⟩
  refine wXfV hσ (e1 _ _ hd) rfl (wNil ?_)
  refine ⟨(by show 2 ≤ sizeLine; decide), alI fun p H2 n2 e2 f2 => ?_⟩
  exact k p H2 (e1.trans e2) f2
theorem ok_Lasked (T : Tx P K mg A) : FnOk P w K mg base CX0 5 A.f_Lasked A.d_Lasked ["_law_mode", "_law_first", "_law_second"] (spAsked K) := by
  refine T.F_Lasked.ok sc_Lasked (fun vs H Q E h => ?_) (fun cdv A' outer s H vs Q E hr h => ?_)
  · obtain ⟨m, x, y, o, rfl, _⟩ := h
    rfl
  · obtain ⟨m, x, y, o, rfl, m0, m1, hA, k⟩ := h
    refine ⟨_, (pss_one (ps_try_as (i := 3) (Wout := fun _ _ _ _ => False) rfl rfl sc_Lasked.nd rfl rfl ⟨rfl, by decide, Or.inl T.g_ThankError⟩ takes0
    (fun W pn xe tk _ => (pss_cons (ps_if (pt_cmpR op_eq (pe_op op_mod (pv 0) pe_int) pe_int (nomark _))
      (pss_one (ps_ret (pe_lst (pa_cons pe_str (pa_cons (pe_ifExp (pt_cmpR op_lt (pv 0) pe_int (nomark _)) (pe_callS (ok_fraction T) (hr.mono (by decide)) (by rfl) T.g_fraction T.F_fraction.kp T.b_fraction (fun σ => passAt tk σ) (pa_cons (pv 1) (pa_cons (pv 2) pa_nil))) (pe_callSN0 (ok_fraction T) (hr.mono (by decide)) (by rfl) T.g_fraction T.F_fraction.kp T.kb0_fraction_bottom_top (fun σ => passAt tk σ) (pk_cons (pv 2) (pk_cons (pv 1) pk_nil)))) pa_nil)))))
      pss_nil)
      (pss_cons (ps_if (pt_cmpR op_eq (pe_op op_mod (pv 0) pe_int) pe_int (nomark _))
      (pss_one (ps_ret (pe_lst (pa_cons pe_str (pa_cons (pe_ifExp (pt_cmpR op_lt (pv 0) pe_int (nomark _)) (pe_callS (ok_plus T) (hr.mono (by decide)) (by rfl) T.g_plus T.F_plus.kp T.b_plus (fun σ => passAt tk σ) (pa_cons (pv 1) (pa_cons (pv 2) pa_nil))) (pe_callSN0 (ok_plus T) (hr.mono (by decide)) (by rfl) T.g_plus T.F_plus.kp T.kb0_plus_other_one (fun σ => passAt tk σ) (pk_cons (pv 2) (pk_cons (pv 1) pk_nil)))) pa_nil)))))
      pss_nil)
      (pss_cons (ps_if (pt_cmpR op_eq (pe_op op_mod (pv 0) pe_int) pe_int (nomark _))
      (pss_one (ps_ret (pe_lst (pa_cons pe_str (pa_cons (pe_ifExp (pt_cmpR op_lt (pv 0) pe_int (nomark _)) (pe_callS (ok_minus T) (hr.mono (by decide)) (by rfl) T.g_minus T.F_minus.kp T.b_minus (fun σ => passAt tk σ) (pa_cons (pv 1) (pa_cons (pv 2) pa_nil))) (pe_callSN0 (ok_minus T) (hr.mono (by decide)) (by rfl) T.g_minus T.F_minus.kp T.kb0_minus_other_one (fun σ => passAt tk σ) (pk_cons (pv 2) (pk_cons (pv 1) pk_nil)))) pa_nil)))))
      pss_nil)
      (pss_cons (ps_if (pt_cmpR op_eq (pe_op op_mod (pv 0) pe_int) pe_int (nomark _))
      (pss_one (ps_ret (pe_lst (pa_cons pe_str (pa_cons (pe_ifExp (pt_cmpR op_lt (pv 0) pe_int (nomark _)) (pe_callS (ok_times T) (hr.mono (by decide)) (by rfl) T.g_times T.F_times.kp T.b_times (fun σ => passAt tk σ) (pa_cons (pv 1) (pa_cons (pv 2) pa_nil))) (pe_callSN0 (ok_times T) (hr.mono (by decide)) (by rfl) T.g_times T.F_times.kp T.kb0_times_other_one (fun σ => passAt tk σ) (pk_cons (pv 2) (pk_cons (pv 1) pk_nil)))) pa_nil)))))
      pss_nil)
      (pss_cons (ps_if (pt_cmpR op_eq (pe_op op_mod (pv 0) pe_int) pe_int (nomark _))
      (pss_one (ps_ret (pe_lst (pa_cons pe_str (pa_cons (pe_ifExp (pt_cmpR op_lt (pv 0) pe_int (nomark _)) (pe_callS (ok_over T) (hr.mono (by decide)) (by rfl) T.g_over T.F_over.kp T.b_over (fun σ => passAt tk σ) (pa_cons (pv 1) (pa_cons (pv 2) pa_nil))) (pe_callSN0 (ok_over T) (hr.mono (by decide)) (by rfl) T.g_over T.F_over.kp T.kb0_over_other_one (fun σ => passAt tk σ) (pk_cons (pv 2) (pk_cons (pv 1) pk_nil)))) pa_nil)))))
      pss_nil)
      (pss_one (ps_ret (pe_lst (pa_cons pe_str (pa_cons (pe_ifExp (pt_cmpR op_lt (pv 0) pe_int (nomark _)) (pe_callS (ok_below T) (hr.mono (by decide)) (by rfl) T.g_below T.F_below.kp T.b_below (fun σ => passAt tk σ) (pa_cons (pv 1) (pa_cons (pv 2) pa_nil))) (pe_callSN0 (ok_below T) (hr.mono (by decide)) (by rfl) T.g_below T.F_below.kp T.kb0_below_other_one (fun σ => passAt tk σ) (pk_cons (pv 2) (pk_cons (pv 1) pk_nil)))) pa_nil)))))))))))
    (fun a oe cls d pn hz hf => (pss_one (ps_ret (pe_lst (pa_cons (pe_callP hz hf (ok_Lsort T) (roomS hr (by decide)) List.mem_cons_self (by rfl) T.g_Lsort T.F_Lsort.kp T.b_Lsort (pa_cons (pv 3) pa_nil)) (pa_cons (pe_ifExp (pt_val (pe_callB (call_isH (K := K) rfl List.mem_cons_self hz hf) (by rfl) T.m_isinstance (by decide +kernel) (pa_cons (pv 3) (pa_cons (pe_glob (v := .ref A.c_NoNumber) rfl T.g_NoNumber rfl) pa_nil)))) (pe_xf (sup_xf T.sup_NoNumber) T.sup_NoNumber.noN hz hf (pv 3)) pe_non) pa_nil)))))))), ?_⟩
    walk_at "ww"
    have hB : ∀ (i : Int), o = .bad i → ∀ p H', Ex H H' → H' p = some (.lst [.str "number", .int i]) → Q (.ref p) H' := fun i eo p H' e f => k p H' e (by subst eo; exact f)
    have hG : ∀ (v : V) (H1 H2 : Hp) (p : Addr), Ex H H1 → Res H1 o v → Ex H1 H2 → H2 p = some (.lst [.str "told", v]) → Q (.ref p) H2 := fun v H1 H2 p e1 r e2 f => k p H2 (e1.trans e2) (.of r e2 f)
    refine ite2 (fun c0 => ?_) (fun c0 => ?_)
    · have e6 : m % 6 = 0 := V.int.inj (of_decide_eq_true c0)
      rw [e6] at hA
      walk_at "ww"
      refine ite2 (fun cs => ?_) (fun cs => ?_)
      · walk_at "ww"
        refine ⟨_, _, _, rfl, hA, fun v H1 e1 r => ?_, fun i eo d hd => ⟨true, T.ex_NoNumber_ThankError, fun _ a ha => asked_suite T upd_same rfl (fun p H' e f => hB i eo p H' ((Ex.new hd).trans e) f), fun z => nomatch z⟩⟩
        walk_at "ww"
        exact alI fun p H2 n2 e2 f2 => hG v H1 H2 p e1 r e2 f2
      · walk_at "ww"
        refine ⟨rfl, rfl, _, _, _, rfl, hA, fun v H1 e1 r => ?_, fun i eo d hd => ⟨true, T.ex_NoNumber_ThankError, fun _ a ha => asked_suite T upd_same rfl (fun p H' e f => hB i eo p H' ((Ex.new hd).trans e) f), fun z => nomatch z⟩⟩
        walk_at "ww"
        exact alI fun p H2 n2 e2 f2 => hG v H1 H2 p e1 r e2 f2
    have q0 : m % 6 ≠ 0 := fun e => c0 (by rw [e]; rfl)
    walk_at "ww"
    refine ite2 (fun c1 => ?_) (fun c1 => ?_)
    · have e6 : m % 6 = 1 := V.int.inj (of_decide_eq_true c1)
      rw [e6] at hA
      walk_at "ww"
      refine ite2 (fun cs => ?_) (fun cs => ?_)
      · walk_at "ww"
        refine ⟨_, _, _, rfl, hA, fun v H1 e1 r => ?_, fun i eo d hd => ⟨true, T.ex_NoNumber_ThankError, fun _ a ha => asked_suite T upd_same rfl (fun p H' e f => hB i eo p H' ((Ex.new hd).trans e) f), fun z => nomatch z⟩⟩
        walk_at "ww"
        exact alI fun p H2 n2 e2 f2 => hG v H1 H2 p e1 r e2 f2
      · walk_at "ww"
        refine ⟨rfl, rfl, _, _, _, rfl, hA, fun v H1 e1 r => ?_, fun i eo d hd => ⟨true, T.ex_NoNumber_ThankError, fun _ a ha => asked_suite T upd_same rfl (fun p H' e f => hB i eo p H' ((Ex.new hd).trans e) f), fun z => nomatch z⟩⟩
        walk_at "ww"
        exact alI fun p H2 n2 e2 f2 => hG v H1 H2 p e1 r e2 f2
    have q1 : m % 6 ≠ 1 := fun e => c1 (by rw [e]; rfl)
    walk_at "ww"
    refine ite2 (fun c2 => ?_) (fun c2 => ?_)
    · have e6 : m % 6 = 2 := V.int.inj (of_decide_eq_true c2)
      rw [e6] at hA
      walk_at "ww"
      refine ite2 (fun cs => ?_) (fun cs => ?_)
      · walk_at "ww"
        refine ⟨_, _, _, rfl, hA, fun v H1 e1 r => ?_, fun i eo d hd => ⟨true, T.ex_NoNumber_ThankError, fun _ a ha => asked_suite T upd_same rfl (fun p H' e f => hB i eo p H' ((Ex.new hd).trans e) f), fun z => nomatch z⟩⟩
        walk_at "ww"
        exact alI fun p H2 n2 e2 f2 => hG v H1 H2 p e1 r e2 f2
      · walk_at "ww"
        refine ⟨rfl, rfl, _, _, _, rfl, hA, fun v H1 e1 r => ?_, fun i eo d hd => ⟨true, T.ex_NoNumber_ThankError, fun _ a ha => asked_suite T upd_same rfl (fun p H' e f => hB i eo p H' ((Ex.new hd).trans e) f), fun z => nomatch z⟩⟩
        walk_at "ww"
        exact alI fun p H2 n2 e2 f2 => hG v H1 H2 p e1 r e2 f2
    have q2 : m % 6 ≠ 2 := fun e => c2 (by rw [e]; rfl)
    walk_at "ww"
    refine ite2 (fun c3 => ?_) (fun c3 => ?_)
    · have e6 : m % 6 = 3 := V.int.inj (of_decide_eq_true c3)
      rw [e6] at hA
      walk_at "ww"
      refine ite2 (fun cs => ?_) (fun cs => ?_)
      · walk_at "ww"
        refine ⟨_, _, _, rfl, hA, fun v H1 e1 r => ?_, fun i eo d hd => ⟨true, T.ex_NoNumber_ThankError, fun _ a ha => asked_suite T upd_same rfl (fun p H' e f => hB i eo p H' ((Ex.new hd).trans e) f), fun z => nomatch z⟩⟩
        walk_at "ww"
        exact alI fun p H2 n2 e2 f2 => hG v H1 H2 p e1 r e2 f2
      · walk_at "ww"
        refine ⟨rfl, rfl, _, _, _, rfl, hA, fun v H1 e1 r => ?_, fun i eo d hd => ⟨true, T.ex_NoNumber_ThankError, fun _ a ha => asked_suite T upd_same rfl (fun p H' e f => hB i eo p H' ((Ex.new hd).trans e) f), fun z => nomatch z⟩⟩
        walk_at "ww"
        exact alI fun p H2 n2 e2 f2 => hG v H1 H2 p e1 r e2 f2
    have q3 : m % 6 ≠ 3 := fun e => c3 (by rw [e]; rfl)
    walk_at "ww"
    refine ite2 (fun c4 => ?_) (fun c4 => ?_)
    · have e6 : m % 6 = 4 := V.int.inj (of_decide_eq_true c4)
      rw [e6] at hA
      walk_at "ww"
      refine ite2 (fun cs => ?_) (fun cs => ?_)
      · walk_at "ww"
        refine ⟨_, _, _, rfl, hA, fun v H1 e1 r => ?_, fun i eo d hd => ⟨true, T.ex_NoNumber_ThankError, fun _ a ha => asked_suite T upd_same rfl (fun p H' e f => hB i eo p H' ((Ex.new hd).trans e) f), fun z => nomatch z⟩⟩
        walk_at "ww"
        exact alI fun p H2 n2 e2 f2 => hG v H1 H2 p e1 r e2 f2
      · walk_at "ww"
        refine ⟨rfl, rfl, _, _, _, rfl, hA, fun v H1 e1 r => ?_, fun i eo d hd => ⟨true, T.ex_NoNumber_ThankError, fun _ a ha => asked_suite T upd_same rfl (fun p H' e f => hB i eo p H' ((Ex.new hd).trans e) f), fun z => nomatch z⟩⟩
        walk_at "ww"
        exact alI fun p H2 n2 e2 f2 => hG v H1 H2 p e1 r e2 f2
    have q4 : m % 6 ≠ 4 := fun e => c4 (by rw [e]; rfl)
    walk_at "ww"
    have e6 : m % 6 = 5 := by omega
    rw [e6] at hA
    refine ite2 (fun cs => ?_) (fun cs => ?_)
    · walk_at "ww"
      refine ⟨_, _, _, rfl, hA, fun v H1 e1 r => ?_, fun i eo d hd => ⟨true, T.ex_NoNumber_ThankError, fun _ a ha => asked_suite T upd_same rfl (fun p H' e f => hB i eo p H' ((Ex.new hd).trans e) f), fun z => nomatch z⟩⟩
      walk_at "ww"
      exact alI fun p H2 n2 e2 f2 => hG v H1 H2 p e1 r e2 f2
    · walk_at "ww"
      refine ⟨rfl, rfl, _, _, _, rfl, hA, fun v H1 e1 r => ?_, fun i eo d hd => ⟨true, T.ex_NoNumber_ThankError, fun _ a ha => asked_suite T upd_same rfl (fun p H' e f => hB i eo p H' ((Ex.new hd).trans e) f), fun z => nomatch z⟩⟩
      walk_at "ww"
      exact alI fun p H2 n2 e2 f2 => hG v H1 H2 p e1 r e2 f2
theorem Ask.ok_small {H : Hp} {op : Int} {x y : V} {o : Out} (h : Ask K H op x y o) : ∀ t b, o = .fr t b → t.natAbs < 10 ^ 300 ∧ b.natAbs < 10 ^ 300 := by
  have big : (2 : Nat) ^ 401 < 10 ^ 300 := by decide +kernel
  have up : (2 : Nat) ^ 200 ≤ 2 ^ 401 := by decide +kernel
  have fin : ∀ t b : Int, b ≠ 0 → t.natAbs < 2 ^ 401 → b.natAbs < 2 ^ 401 → ∀ t' b', Out.fr (Fr.frT t b) (Fr.frB t b) = .fr t' b' → t'.natAbs < 10 ^ 300 ∧ b'.natAbs < 10 ^ 300 := by
    intro t b hb ht h2 t' b' e
    cases e
    exact ⟨Nat.lt_of_le_of_lt (Fr.natAbs_fdiv_le hb).1 (by omega), Nat.lt_of_le_of_lt (Fr.natAbs_fdiv_le hb).2 (by omega)⟩
  cases h with
  | f0 h no => exact fun _ _ e => nomatch e
  | f1 h no => exact fun _ _ e => nomatch e
  | fg hb bt bb => exact fin _ _ hb (by omega) (by omega)
  | g0 o1 h => exact fun _ _ e => nomatch e
  | g1 o1 h g => exact fun _ _ e => nomatch e
  | z h g => exact fun _ _ e => nomatch e
  | g o1 h g hnz =>
    rename_i p q r s
    obtain ⟨_, rfl, g1, i1, bp, bq⟩ := h.inv
    obtain ⟨_, rfl, g2, i2, br, bs⟩ := g.inv
    unfold told
    split
    · exact fin _ _ (nz i1.1 i2.1) (addB bp bs br bq).1 (mulB bq bs)
    · split
      · exact fin _ _ (nz i1.1 i2.1) (addB bp bs br bq).2 (mulB bq bs)
      · split
        · exact fin _ _ (nz i1.1 i2.1) (mulB bp br) (mulB bq bs)
        · split
          · rename_i e4
            exact fin _ _ (nzm i1.1 (hnz e4)) (mulB bp bs) (mulB bq br)
          · exact fun _ _ e => nomatch e
theorem told_rp {H : Hp} {a : Addr} {o : Out} (h : Told H a o) (s : ∀ t b, o = .fr t b → t.natAbs < 10 ^ 300 ∧ b.natAbs < 10 ^ 300) (s2 : ∀ i, o = .bad i → i.natAbs < 10 ^ 300) : ∃ n, n ≤ 10000000 ∧ Rp H true 64 (.ref a) (dOut o) n := by
  cases o with
  | bad i => exact ⟨_, by decide, .lst rfl h (.cons (.str _ (signs_ok (by decide +kernel))) (.cons (.int _ (s2 i rfl)) .nil))⟩
  | fr t b =>
    obtain ⟨q, h1, h2⟩ := h
    exact ⟨_, by decide, .lst rfl h1 (.cons (.str _ (signs_ok (by decide +kernel))) (.cons (.tup h2 (.cons (.int _ (s t b rfl).1) (.cons (.int _ (s t b rfl).2) .nil))) .nil))⟩
  | tr b => exact ⟨_, by decide, .lst rfl h (.cons (.str _ (signs_ok (by decide +kernel))) (.cons (.bl b) .nil))⟩
theorem cmp_num {H : Hp} {a : Addr} {i : Int} (h : H a = some (.lst [.str "number", .int i])) : Cmp H (.ref a) (.list [.str "number", .int i]) :=
  ⟨.lst h (.cons (.str _) (.cons (.int i) .nil)), by simp [PyData.plain, PyData.plainAll], by simp [PyData.depth, PyData.depthAll]⟩
theorem eqv_num (i : Int) : (not (PyData.eqv (.list [.str "number", .int i]) (.list [.str "number", .int i]))) = false := by
  simp only [PyData.eqv, PyData.eqvAll, Bool.and_true, beq_self_eq_true, Bool.not_true]
theorem told_head {H : Hp} {a : Addr} {o : Out} (h : Told H a o) (g : ∀ i, o ≠ .bad i) : ∃ z, H a = some (.lst [.str "told", z]) := by
  cases o with
  | bad i => exact absurd rfl (g i)
  | fr t b => exact h.elim fun q h => ⟨_, h.1⟩
  | tr b => exact ⟨_, h⟩
/-- what is asked of a turn: a good pair, a bad one -/
structure Four (K : PySem.W.Frag) (H : Hp) (op : Int) (gx gy bx bz : V) (og : Out) : Prop where
  good : Ask K H op gx gy og
  bg : Ask K H op bx gy (.bad 0)
  gb : Ask K H op gx bz (.bad 1)
  bb : Ask K H op bx bz (.bad 0)
  gd : ∀ i, og ≠ .bad i
  fo : op = 4 → ∃ o, FrQ K H gx (some o)
theorem Four.ex {H H' : Hp} {op : Int} {gx gy bx bz : V} {og : Out} (h : Four K H op gx gy bx bz og) (e : Ex H H') : Four K H' op gx gy bx bz og :=
  ⟨h.good.ex e, h.bg.ex e, h.gb.ex e, h.bb.ex e, h.gd, fun z => (h.fo z).elim fun o q => ⟨o, q.ex e⟩⟩
theorem told_good (op p q r s : Int) : ∀ i, told op p q r s ≠ .bad i := by
  intro i
  unfold told
  split
  · exact fun e => nomatch e
  · split
    · exact fun e => nomatch e
    · split
      · exact fun e => nomatch e
      · split
        · exact fun e => nomatch e
        · exact fun e => nomatch e
def NoneQ (K : PySem.W.Frag) (H : Hp) (v : V) : Prop := (∃ n, Ty K H v n) ∧ (isIntV v = false ∨ v = .int 0)
theorem NoneQ.ex {H H' : Hp} {v : V} (h : NoneQ K H v) (e : Ex H H') : NoneQ K H' v := ⟨h.1.elim fun n t => ⟨n, t.ex e⟩, h.2⟩
theorem FrAt.q {H : Hp} {a : Addr} {p q : Int} (h : FrAt H a p q) : FrQ K H (.ref a) (some (p, q)) := .yes h.at_ h.is_ h.bp h.bq
theorem FrAt.hide {H : Hp} {a x : Addr} {p q : Int} (h : FrAt H a p q) (n : a ≠ x) : FrAt (Ver.hide x H) a p q := ⟨hide_at n h.at_, h.is_, h.bp, h.bq⟩
/-- what the draws leave -/
structure Drawn (K : PySem.W.Frag) (H : Hp) (ah ac : Addr) (t1 b1 t2 b2 u l : Int) (od mo wr no : V) : Prop where
  h : FrAt H ah t1 b1
  t : FrAt H ac t2 b2
  bu : u.natAbs < 2 ^ 200
  l0 : l ≠ 0
  bl : l.natAbs < 2 ^ 200
  od : FrQ K H od none
  mo : FrQ K H mo none
  wr : OddN K H wr
  no : NoneQ K H no
theorem Drawn.ex {H H' : Hp} {ah ac : Addr} {t1 b1 t2 b2 u l : Int} {od mo wr no : V} (d : Drawn K H ah ac t1 b1 t2 b2 u l od mo wr no) (e : Ex H H') : Drawn K H' ah ac t1 b1 t2 b2 u l od mo wr no :=
  ⟨d.h.ex e, d.t.ex e, d.bu, d.l0, d.bl, d.od.ex e, d.mo.ex e, d.wr.ex e, d.no.ex e⟩
/-- mode 0: a good pair of numbers, a bad one -/
theorem Drawn.zero {H : Hp} {ah ac : Addr} {t1 b1 t2 b2 u l : Int} {od mo wr no : V} (d : Drawn K H ah ac t1 b1 t2 b2 u l od mo wr no) : Four K H 0 (.int u) (.int l) wr no (.fr (Fr.frT u l) (Fr.frB u l)) := by
  obtain ⟨⟨n, tw⟩, iw, _⟩ := d.wr
  obtain ⟨⟨m, tn⟩, no'⟩ := d.no
  exact ⟨.fg d.l0 d.bu d.bl, .f0 tw iw, .f1 tn no', .f0 tw iw, (fun i e => nomatch e), (fun e => absurd e (by decide))⟩
/-- the other modes: one of two fractions, the second one not 0 where it divides -/
theorem Drawn.other {H : Hp} {ah ac ay : Addr} {t1 b1 t2 b2 u l t3 b3 op : Int} {od mo wr no : V} (d : Drawn K H ah ac t1 b1 t2 b2 u l od mo wr no) (o1 : 1 ≤ op) (y : FrAt H ay t3 b3) (hz : op = 4 → t3 ≠ 0) : Four K H op (.ref ah) (.ref ay) od mo (told op t1 b1 t3 b3) :=
  ⟨.g o1 d.h.q y.q hz, .g0 o1 d.od, .g1 o1 d.h.q d.mo, .g0 o1 d.od, told_good _ _ _ _ _, fun _ => ⟨_, d.h.q⟩⟩
theorem cmp_bl2 {H : Hp} {x : Addr} {a b : Bool} (h : H x = some (.lst [.bl a, .bl b])) : Cmp H (.ref x) (.list [.bool a, .bool b]) :=
  ⟨.lst h (.cons (.bl a) (.cons (.bl b) .nil)), by simp [PyData.plain, PyData.plainAll], by simp [PyData.depth, PyData.depthAll]⟩
theorem eqv_bl2 (a b : Bool) : (not (PyData.eqv (.list [.bool a, .bool b]) (.list [.bool a, .bool b]))) = false := by
  simp only [PyData.eqv, PyData.eqvAll, Bool.and_true, beq_self_eq_true, Bool.not_true]
def spDoors : Sp := fun vs H Q _ => ∃ p : Addr, vs = [.ref p] ∧ Pool H p ∧ ∀ H', Kp p H H' → Pool H' p → Q (.bl true) H'
theorem ok_Ldoors_right (T : Tx P K mg A) : FnQ P w K mg base CX0 6 A.f_Ldoors_right A.d_Ldoors_right ["_law_pool_here"] spDoors := by
  refine okQ T.F_Ldoors_right sc_Ldoors_right (fun vs H Q E h => ?_) (fun cdv A' outer s H vs Q E hq h => ?_)
  · obtain ⟨p, rfl, _⟩ := h
    rfl
  · obtain ⟨p, rfl, hP, k⟩ := h
    have hr := hq.room
    refine ⟨_, (pss_cons (ps_par (i := 1) (j := 2) (by rfl) sc_Ldoors_right.nd rfl rfl (by decide) rfl rfl (pa_cons (pe_call (ok_Lone T) (hr.mono (by decide)) (by rfl) T.g_Lone T.F_Lone.kp T.b_Lone .nil pass0 (pa_cons (pv 0) pa_nil)) (pa_cons (pe_call (ok_Lone T) (hr.mono (by decide)) (by rfl) T.g_Lone T.F_Lone.kp T.b_Lone .nil pass0 (pa_cons (pv 0) pa_nil)) pa_nil)) (by rfl))
    (pss_cons (ps_par (i := 3) (j := 4) (by rfl) sc_Ldoors_right.nd rfl rfl (by decide) rfl rfl (pa_cons (pe_call (ok_Lnumber T) (hr.mono (by decide)) (by rfl) T.g_Lnumber T.F_Lnumber.kp T.b_Lnumber .nil pass0 (pa_cons (pv 0) pa_nil)) (pa_cons (pe_op op_add pe_int (pe_callB call_abs (by rfl) T.m_abs (by decide +kernel) (pa_cons (pe_call (ok_Lnumber T) (hr.mono (by decide)) (by rfl) T.g_Lnumber T.F_Lnumber.kp T.b_Lnumber .nil pass0 (pa_cons (pv 0) pa_nil)) pa_nil))) pa_nil)) (by rfl))
    (pss_cons (ps_par (i := 5) (j := 6) (by rfl) sc_Ldoors_right.nd rfl rfl (by decide) rfl rfl (pa_cons (pe_call (ok_Lodd_fraction T) (hr.mono (by decide)) (by rfl) T.g_Lodd_fraction T.F_Lodd_fraction.kp T.b_Lodd_fraction .nil pass0 (pa_cons (pv 0) pa_nil)) (pa_cons (pe_call (ok_Lodd_fraction T) (hr.mono (by decide)) (by rfl) T.g_Lodd_fraction T.F_Lodd_fraction.kp T.b_Lodd_fraction .nil pass0 (pa_cons (pv 0) pa_nil)) pa_nil)) (by rfl))
    (pss_cons (ps_par (i := 7) (j := 8) (by rfl) sc_Ldoors_right.nd rfl rfl (by decide) rfl rfl (pa_cons (pe_call (ok_Lodd_number T) (hr.mono (by decide)) (by rfl) T.g_Lodd_number T.F_Lodd_number.kp T.b_Lodd_number .nil pass0 (pa_cons (pv 0) pa_nil)) (pa_cons (pe_ix (ix_listV (K := K) rfl) (pe_lst (pa_cons pe_int (pa_cons (pe_call (ok_Lodd_number T) (hr.mono (by decide)) (by rfl) T.g_Lodd_number T.F_Lodd_number.kp T.b_Lodd_number .nil pass0 (pa_cons (pv 0) pa_nil)) pa_nil))) (pe_call (ok_Ltake T) (hr.mono (by decide)) (by rfl) T.g_Ltake T.F_Ltake.kp T.b_Ltake .nil pass0 (pa_cons (pv 0) (pa_cons pe_int pa_nil))) (fun _ _ => rfl)) pa_nil)) (by rfl))
    (pss_cons (ps_for PassesOwn.never rfl (pi_range1 (by rfl) T.m_range (pa_cons pe_int pa_nil)) (pg_name (i := 9) sc_Ldoors_right.nd rfl (Or.inl rfl))
    (pss_cons (ps_set (i := 10) sc_Ldoors_right.nd rfl (Or.inl rfl) (pe_ix (ix_listV (K := K) rfl) (pe_lst (pa_cons (pe_tup (pa_cons (pv 1) (pa_cons (pv 2) pa_nil))) (pa_cons (pe_tup (pa_cons (pv 3) (pa_cons (pv 4) pa_nil))) pa_nil))) (pe_callTy call_int1 (by rfl) T.m_int (by decide +kernel) (pa_cons (pe_cmpR op_eq (pe_op op_mod (pv 9) pe_int) pe_int (nomark _)) pa_nil)) (fun _ _ => rfl)))
      (pss_cons (ps_set (i := 11) sc_Ldoors_right.nd rfl (Or.inl rfl) (pe_ix (ix_listV (K := K) rfl) (pe_lst (pa_cons (pe_tup (pa_cons (pv 5) (pa_cons (pv 6) pa_nil))) (pa_cons (pe_tup (pa_cons (pv 7) (pa_cons (pv 8) pa_nil))) pa_nil))) (pe_callTy call_int1 (by rfl) T.m_int (by decide +kernel) (pa_cons (pe_cmpR op_eq (pe_op op_mod (pv 9) pe_int) pe_int (nomark _)) pa_nil)) (fun _ _ => rfl)))
      (C8.pss_cut (ps_if (PW.pt (pw_and (pt_cmpR op_eq (pe_op op_mod (pv 9) pe_int) pe_int (nomark _)) (pw_and1 (pt_cmpR op_eq (pe_ix (ix_tupV (K := K) rfl) (pv 2) pe_int (fun _ _ => rfl)) pe_int (nomark _)))))
      (pss_one (ps_set (i := 10) sc_Ldoors_right.nd rfl (Or.inl rfl) (pe_tup (pa_cons (pv 1) (pa_cons (pe_tup (pa_cons pe_int (pa_cons pe_int pa_nil))) pa_nil)))))
      pss_nil)
      (pss_cons (ps_set (i := 12) sc_Ldoors_right.nd rfl (Or.inl rfl) (pe_call (ok_Lasked T) (hr.mono (by decide)) (by rfl) T.g_Lasked T.F_Lasked.kp T.b_Lasked .nil pass0 (pa_cons (pv 9) (pa_cons (pe_ix (ix_tupV (K := K) rfl) (pv 10) pe_int (fun _ _ => rfl)) (pa_cons (pe_ix (ix_tupV (K := K) rfl) (pv 10) pe_int (fun _ _ => rfl)) pa_nil)))))
      (pss_cons (ps_if (PW.pt (pw_or (pt_cmpR op_ne (pe_ix (ix_listV (K := K) rfl) (pv 12) pe_int (fun _ _ => rfl)) pe_str (nomark _)) (pw_or1 (pt_cmpR (op_neD hr.units) (pe_call (ok_Lasked T) (hr.mono (by decide)) (by rfl) T.g_Lasked T.F_Lasked.kp T.b_Lasked .nil pass0 (pa_cons (pv 9) (pa_cons (pe_ix (ix_tupV (K := K) rfl) (pv 11) pe_int (fun _ _ => rfl)) (pa_cons (pe_ix (ix_tupV (K := K) rfl) (pv 10) pe_int (fun _ _ => rfl)) pa_nil)))) (pe_lst (pa_cons pe_str (pa_cons pe_int pa_nil))) (nomark _)))))
      (pss_one (ps_ret pe_bl))
      pss_nil)
      (pss_cons (ps_if (PW.pt (pw_or (pt_cmpR (op_neD hr.units) (pe_call (ok_Lasked T) (hr.mono (by decide)) (by rfl) T.g_Lasked T.F_Lasked.kp T.b_Lasked .nil pass0 (pa_cons (pv 9) (pa_cons (pe_ix (ix_tupV (K := K) rfl) (pv 10) pe_int (fun _ _ => rfl)) (pa_cons (pe_ix (ix_tupV (K := K) rfl) (pv 11) pe_int (fun _ _ => rfl)) pa_nil)))) (pe_lst (pa_cons pe_str (pa_cons pe_int pa_nil))) (nomark _)) (pw_or1 (pt_cmpR (op_neD hr.units) (pe_call (ok_Lasked T) (hr.mono (by decide)) (by rfl) T.g_Lasked T.F_Lasked.kp T.b_Lasked .nil pass0 (pa_cons (pv 9) (pa_cons (pe_ix (ix_tupV (K := K) rfl) (pv 11) pe_int (fun _ _ => rfl)) (pa_cons (pe_ix (ix_tupV (K := K) rfl) (pv 11) pe_int (fun _ _ => rfl)) pa_nil)))) (pe_lst (pa_cons pe_str (pa_cons pe_int pa_nil))) (nomark _)))))
      (pss_one (ps_ret pe_bl))
      pss_nil)
      (pss_cons (ps_if (PW.pt (pw_and (pt_cmpR op_eq (pe_op op_mod (pv 9) pe_int) pe_int (nomark _)) (pw_and1 (pt_cmpR (op_neD hr.units) (pe_call (ok_Lasked T) (hr.mono (by decide)) (by rfl) T.g_Lasked T.F_Lasked.kp T.b_Lasked .nil pass0 (pa_cons (pv 9) (pa_cons (pe_ix (ix_tupV (K := K) rfl) (pv 10) pe_int (fun _ _ => rfl)) (pa_cons (pe_tup (pa_cons pe_int (pa_cons pe_int pa_nil))) pa_nil)))) (pe_lst (pa_cons pe_str (pa_cons pe_int pa_nil))) (nomark _)))))
      (pss_one (ps_ret pe_bl))
      pss_nil)
      (pss_one (ps_if (pt_cmpR op_ne (pe_callB (call_repr hq) (by rfl) T.m_repr (by decide +kernel) (pa_cons (pe_call (ok_Lasked T) (hr.mono (by decide)) (by rfl) T.g_Lasked T.F_Lasked.kp T.b_Lasked .nil pass0 (pa_cons (pv 9) (pa_cons (pe_ix (ix_tupV (K := K) rfl) (pv 10) pe_int (fun _ _ => rfl)) (pa_cons (pe_ix (ix_tupV (K := K) rfl) (pv 10) pe_int (fun _ _ => rfl)) pa_nil)))) pa_nil)) (pe_callB (call_repr hq) (by rfl) T.m_repr (by decide +kernel) (pa_cons (pv 12) pa_nil)) (nomark _))
      (pss_one (ps_ret pe_bl))
      pss_nil))))))))))
    (pss_cons (ps_set (i := 13) sc_Ldoors_right.nd rfl (Or.inl rfl) (pe_lst (pa_cons (pv 5) (pa_cons (pv 6) (pa_cons (pv 7) (pa_cons (pv 1) (pa_cons (pv 2) (pa_cons (pv 3) (pa_cons (pe_lst (pa_cons (pv 1) pa_nil)) (pa_cons (pe_tup (pa_cons (pv 1) (pa_cons (pv 2) pa_nil))) pa_nil))))))))))
    (pss_cons (ps_for PassesOwn.never rfl (pi_listV (K := K) rfl (pe_op op_cat (pv 13) (pe_lst (pa_cons (pe_tup (pa_cons (pv 3) (pa_cons (pv 4) pa_nil))) (pa_cons (pe_tup (pa_cons (pe_ix (ix_tupV (K := K) rfl) (pv 1) pe_int (fun _ _ => rfl)) (pa_cons (pe_op op_sub pe_int (pe_ix (ix_tupV (K := K) rfl) (pv 1) pe_int (fun _ _ => rfl))) pa_nil))) pa_nil))))) (pg_name (i := 14) sc_Ldoors_right.nd rfl (Or.inl rfl))
    (pss_one (ps_if (pt_cmpR (op_neD hr.units) (pe_lst (pa_cons (pe_call (ok_is_fraction T) (hr.mono (by decide)) (by rfl) T.g_is_fraction T.F_is_fraction.kp T.b_is_fraction .nil pass0 (pa_cons (pv 14) pa_nil)) (pa_cons (pe_callN0 (ok_is_fraction T) (hr.mono (by decide)) (by rfl) T.g_is_fraction T.F_is_fraction.kp T.kb0_is_fraction_thing pass0 (pk_cons (pv 14) pk_nil)) pa_nil))) (pe_op op_rep (pe_lst (pa_cons (pe_call (ok_Lis_fraction T) (hr.mono (by decide)) (by rfl) T.g_Lis_fraction T.F_Lis_fraction.kp T.b_Lis_fraction .nil pass0 (pa_cons (pv 14) pa_nil)) pa_nil)) pe_int) (nomark _))
      (pss_one (ps_ret pe_bl))
      pss_nil)))
    (pss_one (ps_ret (pe_callB (cr_allV (K := K) rfl rfl) (by rfl) T.m_all (by decide +kernel) (pa_cons (pe_lc rfl sc_Ldoors_right.nd (g := gName 14) (pi_listV (K := K) rfl (pe_lst (pa_cons (pv 5) (pa_cons (pv 1) pa_nil)))) (blkOk_by (own := [("_law_matter", 14)]) (N := ["_law_pool_here", "_law_here", "_law_there", "_law_upper", "_law_lower", "_law_odd", "_law_more", "_law_wrong", "_law_none", "_law_mode", "_law_good", "_law_bad", "_law_ahead", "_law_some", "_law_matter"]) (sc := defScope s_Ldoors_right) (by decide +kernel)) (fun _ _ _ _ _ => (pg_name (i := 14) sc_Ldoors_right.nd rfl (Or.inl rfl))) (fun _ _ _ _ _ => pts_nil) (fun _ _ _ _ _ => (pe_callB (call_isiV (K := K) rfl) (by rfl) T.m_isinstance (by decide +kernel) (pa_cons (pe_call (ok_is_fraction T) (hr.mono (by decide)) (by rfl) T.g_is_fraction T.F_is_fraction.kp T.b_is_fraction .nil pass0 (pa_cons (pv 14) pa_nil)) (pa_cons (pe_bltn (v := .ty "bool") (by rfl) T.m_bool (by decide +kernel) rfl) pa_nil))))) pa_nil))))))))))), ?_⟩
    walk_at "ww"
    refine ⟨p, rfl, hP, fun ah t1 b1 H1 nh fh k1 hP1 => ?_⟩
    walk_at "ww"
    refine ⟨p, rfl, hP1, fun ac t2 b2 H2 nt ft k2 hP2 => ?_⟩
    walk_at "ww"
    refine ⟨p, rfl, hP2, fun u H3 bu k3 hP3 => ?_⟩
    walk_at "ww"
    refine ⟨p, rfl, hP3, fun l0 H4 bl0 k4 hP4 => ?_⟩
    walk_at "ww"
    have n200 : (2 : Nat) ^ 200 = 2 * 2 ^ 199 := by rw [← Nat.pow_succ']
    have n1 : (1 : Nat) < 2 ^ 199 := by decide +kernel
    obtain ⟨l, hl⟩ : ∃ l : Int, l = 1 + (if l0 < 0 then -l0 else l0) := ⟨_, rfl⟩
    have lp : l ≠ 0 ∧ l.natAbs < 2 ^ 200 := by rw [hl]; split <;> omega
    rw [← hl]
    refine ⟨p, rfl, hP4, fun od H5 k5 hP5 fod => ?_⟩
    walk_at "ww"
    refine ⟨p, rfl, hP5, fun mo H6 k6 hP6 fmo => ?_⟩
    walk_at "ww"
    refine ⟨p, rfl, hP6, fun wr H7 k7 hP7 fwr => ?_⟩
    walk_at "ww"
    refine ⟨p, rfl, hP7, fun w2 H8 k8 hP8 fw2 => ?_⟩
    walk_at "ww"
    refine alI fun ln H9 n9 e9 f9 => ?_
    walk_at "ww"
    refine ⟨p, 2, rfl, hP8.ex e9, Sm.of (by omega) (by omega), fun c H10 c0 c2 k10 hP10 => ?_⟩
    obtain ⟨no, hno, hmn⟩ := at_ex (xs := [V.int 0, w2]) c0 (by show c < 2; omega)
    refine wIxL (SqL.of (k10 _ _ (hP8.ne n9) f9)) hno ?_
    have kz : Kp p H8 H10 := e9.kp.trans k10
    have D : Drawn K H10 ah ac t1 b1 t2 b2 u l od mo wr no := by
      have fh' := ((fh.hide nh).ex ((((((((k2.trans k3).trans k4).trans k5).trans k6).trans k7).trans k8).trans kz).hide)).ex hide_ex
      have ft' := ((ft.hide nt).ex (((((((k3.trans k4).trans k5).trans k6).trans k7).trans k8).trans kz).hide)).ex hide_ex
      have fod' := (FrQ.ex (((k6.trans k7).trans k8).trans kz).hide fod).ex hide_ex
      have fmo' := (FrQ.ex ((k7.trans k8).trans kz).hide fmo).ex hide_ex
      have fwr' := (fwr.ex (k8.trans kz).hide).ex hide_ex
      have fw2' := (fw2.ex kz.hide).ex hide_ex
      refine ⟨fh', ft', by omega, lp.1, lp.2, fod', fmo', fwr', ?_⟩
      simp only [List.mem_cons, List.not_mem_nil, or_false] at hmn
      rcases hmn with rfl | rfl
      · exact ⟨⟨_, .int 0⟩, .inr rfl⟩
      · exact ⟨fw2'.1, .inl fw2'.2.1⟩
    have kk : Kp p H H10 := (((((((k1.trans k2).trans k3).trans k4).trans k5).trans k6).trans k7).trans k8).trans kz
    clear fh ft fod fmo fwr fw2 hmn hno f9 e9 n9 k10 k8 k7 k6 k5 k4 k3 k2 k1 kz hP1 hP2 hP3 hP4 hP5 hP6 hP7 hP8
    walk_at "ww"
    refine ⟨by omega, by omega, ?_⟩
    refine for_range (lo := 0) (n := Int.toNat 12) (fun i σ H' => ∃ v9 v10 v11 v12, σ = [some (.ref p), some (.ref ah), some (.ref ac), some (.int u), some (.int l), some od, some mo, some wr, some no, v9, v10, v11, v12, none, none] ∧ Ex H10 H') ⟨none, none, none, none, rfl, Ex.refl _⟩ ?_ ?_
    · rintro i σ H11 hi ⟨v9, v10, v11, v12, rfl, e11⟩
      have D11 := D.ex e11
      obtain ⟨m, hm⟩ : ∃ m : Int, m = 0 + (i : Int) := ⟨_, rfl⟩
      rw [← hm]
      have m0 : 0 ≤ m ∧ m < 12 := by
        have : i < 12 := hi
        omega
      have pk : ∀ (a b : V) (c : Bool), atI [a, b] (if c = true then 1 else 0) = some (if c = true then b else a) := by
        intro a b c
        cases c <;> rfl
      walk_at "ww"
      refine alI fun x1 H12 _ e12 f12 => ?_
      walk_at "ww"
      refine alI fun x2 H13 _ e13 f13 => ?_
      walk_at "ww"
      refine alI fun x3 H14 _ e14 f14 => ?_
      walk_at "ww"
      refine .inr ⟨_, rfl, ?_⟩
      refine wIxL (SqL.of f14) (pk _ _ _) ?_
      walk_at "ww"
      refine alI fun x4 H15 _ e15 f15 => ?_
      walk_at "ww"
      refine alI fun x5 H16 _ e16 f16 => ?_
      walk_at "ww"
      refine alI fun x6 H17 _ e17 f17 => ?_
      walk_at "ww"
      refine .inr ⟨_, rfl, ?_⟩
      refine wIxL (SqL.of f17) (pk _ _ _) ?_
      walk_at "ww"
      have E17 : Ex H11 H17 := ((((e12.trans e13).trans e14).trans e15).trans e16).trans e17
      have D17 := D11.ex E17
      have g1 : H17 x1 = some (.tup [.ref ah, .ref ac]) := ((((e13.trans e14).trans e15).trans e16).trans e17) _ _ f12
      have g2 : H17 x2 = some (.tup [.int u, .int l]) := (((e14.trans e15).trans e16).trans e17) _ _ f13
      have g4 : H17 x4 = some (.tup [od, mo]) := (e16.trans e17) _ _ f15
      have g5 : H17 x5 = some (.tup [wr, no]) := e17 _ _ f16
      refine wCut (fun σ H' => ∃ tg gx gy tb bx bz og, σ = [some (.ref p), some (.ref ah), some (.ref ac), some (.int u), some (.int l), some od, some mo, some wr, some no, some (.int m), some (.ref tg), some (.ref tb), v12, none, none] ∧ Ex H11 H' ∧ H' tg = some (.tup [gx, gy]) ∧ H' tb = some (.tup [bx, bz]) ∧ Four K H' (m % 6) gx gy bx bz og) ?_ ?_
      · by_cases c0 : m % 6 = 0
        · have dc : decide (V.int (m % 6) = V.int 0) = true := decide_eq_true (by rw [c0])
          have d4 : decide (V.int (m % 6) = V.int 4) = false := decide_eq_false (fun z => by have := V.int.inj z; omega)
          rw [dc]
          walk_at "ww"
          rw [d4]
          walk_at "ww"
          exact ⟨x2, _, _, x5, _, _, _, rfl, E17, g2, g5, by rw [c0]; exact D17.zero⟩
        · have dc : decide (V.int (m % 6) = V.int 0) = false := decide_eq_false (fun z => c0 (V.int.inj z))
          rw [dc]
          by_cases c4 : m % 6 = 4
          · have d4 : decide (V.int (m % 6) = V.int 4) = true := decide_eq_true (by rw [c4])
            have gt := D17.t.at_
            walk_at "ww"
            rw [d4]
            walk_at "ww"
            by_cases z2 : t2 = 0
            · rw [decide_eq_true (by rw [z2] : V.int t2 = V.int 0)]
              walk_at "ww"
              refine alI fun y1 H18 _ e18 f18 => ?_
              walk_at "ww"
              refine alI fun y2 H19 _ e19 f19 => ?_
              walk_at "ww"
              have E19 := (E17.trans e18).trans e19
              exact ⟨y2, _, _, x4, _, _, _, rfl, E19, f19, (e18.trans e19) _ _ g4, (D11.ex E19).other (by omega) ⟨e19 _ _ f18, ⟨by decide, by decide⟩, by decide +kernel, by decide +kernel⟩ (fun _ => by decide)⟩
            · rw [decide_eq_false (fun z => z2 (V.int.inj z) : ¬ V.int t2 = V.int 0)]
              walk_at "ww"
              exact ⟨x1, _, _, x4, _, _, _, rfl, E17, g1, g4, D17.other (by omega) D17.t (fun _ => z2)⟩
          · have d4 : decide (V.int (m % 6) = V.int 4) = false := decide_eq_false (fun z => c4 (V.int.inj z))
            walk_at "ww"
            rw [d4]
            walk_at "ww"
            exact ⟨x1, _, _, x4, _, _, _, rfl, E17, g1, g4, D17.other (by omega) D17.t (fun z => absurd z c4)⟩
      · rintro σ H20 ⟨tg, gx, gy, tb, bx, bz, og, rfl, E20, hg, hb, F⟩
        clear f12 f13 f14 f15 f16 f17 e12 e13 e14 e15 e16 e17 g1 g2 g4 g5 D17 E17 D11
        walk_at "ww"
        refine ⟨m, gx, gy, og, rfl, m0.1, m0.2, F.good, fun aa H21 e21 h21 => ?_⟩
        obtain ⟨z, hz⟩ := told_head h21 F.gd
        have hg1 := e21 _ _ hg
        have hb1 := e21 _ _ hb
        walk_at "ww"
        refine ⟨m, bx, gy, .bad 0, rfl, m0.1, m0.2, F.bg.ex e21, fun a2 H22 e22 h22 => ?_⟩
        have q22 : H22 a2 = some (.lst [.str "number", .int 0]) := h22
        walk_at "ww"
        refine alI fun x7 H23 _ e23 f23 => ?_
        have E23 := (e21.trans e22).trans e23
        have hg2 := (e22.trans e23) _ _ hg1
        have hb2 := (e22.trans e23) _ _ hb1
        clear hg1 hb1
        walk_at "ww"
        refine ⟨_, _, cmp_num (e23 _ _ q22), cmp_num f23, ?_⟩
        rw [eqv_num]
        walk_at "ww"
        refine ⟨m, gx, bz, .bad 1, rfl, m0.1, m0.2, F.gb.ex E23, fun a3 H24 e24 h24 => ?_⟩
        have q24 : H24 a3 = some (.lst [.str "number", .int 1]) := h24
        walk_at "ww"
        refine alI fun x8 H25 _ e25 f25 => ?_
        have E25 := (E23.trans e24).trans e25
        have hb3 := (e24.trans e25) _ _ hb2
        have hg3 := (e24.trans e25) _ _ hg2
        clear hg2 hb2
        walk_at "ww"
        refine ⟨_, _, cmp_num (e25 _ _ q24), cmp_num f25, ?_⟩
        rw [eqv_num]
        walk_at "ww"
        refine ⟨m, bx, bz, .bad 0, rfl, m0.1, m0.2, F.bb.ex E25, fun a4 H26 e26 h26 => ?_⟩
        have q26 : H26 a4 = some (.lst [.str "number", .int 0]) := h26
        walk_at "ww"
        refine alI fun x9 H27 _ e27 f27 => ?_
        have E27 := (E25.trans e26).trans e27
        have hg4 := (e26.trans e27) _ _ hg3
        clear hg3 hb3
        walk_at "ww"
        refine ⟨_, _, cmp_num (e27 _ _ q26), cmp_num f27, ?_⟩
        rw [eqv_num]
        walk_at "ww"
        refine ite2 (fun c4 => ?_) (fun c4 => ?_)
        · have e4 : m % 6 = 4 := V.int.inj (of_decide_eq_true c4)
          walk_at "ww"
          refine alI fun y1 H28 _ e28 f28 => ?_
          walk_at "ww"
          obtain ⟨o, ho⟩ := F.fo e4
          refine ⟨m, gx, .ref y1, .bad 1, rfl, m0.1, m0.2, by rw [e4]; exact .z (ho.ex (E27.trans e28)) (.yes f28 ⟨by decide, by decide⟩ (by decide +kernel) (by decide +kernel)), fun a5 H29 e29 h29 => ?_⟩
          have q29 : H29 a5 = some (.lst [.str "number", .int 1]) := h29
          walk_at "ww"
          refine alI fun xa H30 _ e30 f30 => ?_
          walk_at "ww"
          refine ⟨_, _, cmp_num (e30 _ _ q29), cmp_num f30, ?_⟩
          rw [eqv_num]
          have E30 := ((E27.trans e28).trans e29).trans e30
          have hg5 := ((e28.trans e29).trans e30) _ _ hg4
          clear hg4
          walk_at "ww"
          refine ⟨m, gx, gy, og, rfl, m0.1, m0.2, F.good.ex E30, fun a6 H31 e31 h31 => ?_⟩
          obtain ⟨n1, hn1, r1⟩ := told_rp h31 (Ask.ok_small F.good) (fun i z => absurd z (F.gd i))
          obtain ⟨n2, hn2, r2⟩ := told_rp (h21.ex ((((((((e22.trans e23).trans e24).trans e25).trans e26).trans e27).trans e28).trans e29).trans e30 |>.trans e31)) (Ask.ok_small F.good) (fun i z => absurd z (F.gd i))
          walk_at "ww"
          refine ⟨_, _, _, _, rfl, r1, hn1, ?_⟩
          walk_at "ww"
          refine ⟨_, _, _, _, rfl, r2, hn2, ?_⟩
          walk_at "ww"
          exact ⟨_, _, _, _, rfl, (e11.trans E20).trans (E30.trans e31)⟩
        · walk_at "ww"
          refine ⟨m, gx, gy, og, rfl, m0.1, m0.2, F.good.ex E27, fun a6 H31 e31 h31 => ?_⟩
          obtain ⟨n1, hn1, r1⟩ := told_rp h31 (Ask.ok_small F.good) (fun i z => absurd z (F.gd i))
          obtain ⟨n2, hn2, r2⟩ := told_rp (h21.ex ((((((e22.trans e23).trans e24).trans e25).trans e26).trans e27).trans e31)) (Ask.ok_small F.good) (fun i z => absurd z (F.gd i))
          walk_at "ww"
          refine ⟨_, _, _, _, rfl, r1, hn1, ?_⟩
          walk_at "ww"
          refine ⟨_, _, _, _, rfl, r2, hn2, ?_⟩
          walk_at "ww"
          exact ⟨_, _, _, _, rfl, (e11.trans E20).trans (E27.trans e31)⟩
    · rintro σ H11 ⟨v9, v10, v11, v12, rfl, e11⟩
      have D11 := D.ex e11
      have gh := D11.h.at_
      have gt := D11.t.at_
      walk_at "ww"
      refine alI fun s1 H12 _ e12 f12 => ?_
      walk_at "ww"
      refine alI fun s2 H13 _ e13 f13 => ?_
      walk_at "ww"
      refine alI fun s3 H14 _ e14 f14 => ?_
      walk_at "ww"
      refine alI fun s4 H15 _ e15 f15 => ?_
      have gh5 := (((e12.trans e13).trans e14).trans e15) _ _ gh
      walk_at "ww"
      refine alI fun s5 H16 _ e16 f16 => ?_
      walk_at "ww"
      refine alI fun s6 H17 _ e17 f17 => ?_
      walk_at "ww"
      refine wCat (((e15.trans e16).trans e17) _ _ f14) f17 (by with_unfolding_all exact Nat.le_of_ble_eq_true rfl) (alI fun s7 H18 _ e18 f18 => ?_)
      have E18 : Ex H11 H18 := (((((e12.trans e13).trans e14).trans e15).trans e16).trans e17).trans e18
      have D18 := D11.ex E18
      have r1 := (((((e13.trans e14).trans e15).trans e16).trans e17).trans e18) _ _ f12
      have r2 := ((((e14.trans e15).trans e16).trans e17).trans e18) _ _ f13
      have r4 := ((e16.trans e17).trans e18) _ _ f15
      have r5 := (e17.trans e18) _ _ f16
      have each : ∀ v ∈ ([od, mo, wr, V.ref ah, V.ref ac, V.int u, V.ref s1, V.ref s2] ++ [V.ref s4, V.ref s5]), ∃ o, FrQ K H18 v o := by
        have nI : kitB "int" "tuple" = some false := by decide +kernel
        have nL : kitB "list" "tuple" = some false := by decide +kernel
        have pr : ∀ (a : Addr) (x y : Int), H18 a = some (.tup [.int x, .int y]) → x.natAbs < 2 ^ 200 → y.natAbs < 2 ^ 200 → ∃ o, FrQ K H18 (.ref a) o := fun a x y h hx hy => by
          by_cases is_ : Fr.IsFr x y
          · exact ⟨_, .yes h is_ hx hy⟩
          · exact ⟨_, .low h is_ hx hy⟩
        refine List.forall_mem_append.mpr ⟨?_, ?_⟩
        · refine List.forall_mem_cons.mpr ⟨⟨_, D18.od⟩, List.forall_mem_cons.mpr ⟨⟨_, D18.mo⟩, List.forall_mem_cons.mpr ⟨D18.wr.2.2, List.forall_mem_cons.mpr ⟨⟨_, D18.h.q⟩, List.forall_mem_cons.mpr ⟨⟨_, D18.t.q⟩, List.forall_mem_cons.mpr ⟨⟨_, .kind (.int u) nI⟩, List.forall_mem_cons.mpr ⟨⟨_, .kind (.lst r1) nL⟩, List.forall_mem_cons.mpr ⟨⟨_, .item r2 (.tup D18.h.at_) (.tup D18.t.at_) rfl⟩, List.forall_mem_nil _⟩⟩⟩⟩⟩⟩⟩⟩
        · refine List.forall_mem_cons.mpr ⟨pr _ _ _ r4 D18.bu D18.bl, List.forall_mem_cons.mpr ⟨pr _ _ _ r5 D18.h.bp ?_, List.forall_mem_nil _⟩⟩
          have := D18.h.bq
          omega
      walk_at "ww"
      refine exSq (SqL.of f18) ?_
      refine for_list (K := K) (a := s7) (xs := [od, mo, wr, V.ref ah, V.ref ac, V.int u, V.ref s1, V.ref s2] ++ [V.ref s4, V.ref s5]) (fun i σ H' => ∃ v14, σ = [some (.ref p), some (.ref ah), some (.ref ac), some (.int u), some (.int l), some od, some mo, some wr, some no, v9, v10, v11, v12, some (.ref s3), v14] ∧ Ex H18 H') ⟨_, rfl, Ex.refl _⟩ (fun i σ H' _ ⟨_, _, e⟩ => SqL.of (e _ _ f18)) ?_ ?_
      · rintro i x σ H19 hx ⟨v14, rfl, e19⟩
        obtain ⟨o, ho⟩ := each x (List.mem_of_getElem? hx)
        have h19 := ho.ex e19
        walk_at "ww"
        refine ⟨_, o, rfl, h19, ?_⟩
        walk_at "ww"
        refine ⟨rfl, rfl, _, o, rfl, h19, ?_⟩
        walk_at "ww"
        refine alI fun l1 H20 _ e20 f20 => ?_
        walk_at "ww"
        refine ⟨_, o, rfl, h19.ex e20, fun H21 e21 => ?_⟩
        walk_at "ww"
        refine alI fun l2 H22 _ e22 f22 => ?_
        walk_at "ww"
        refine ⟨_, _, _, rfl, rfl, f22, by decide, by decide, by with_unfolding_all exact Nat.le_of_ble_eq_true rfl, fun l3 n23 => ?_⟩
        have e23 : Ex H22 (upd H22 l3 (.lst (List.replicate (Int.toNat 2) [V.bl o.isSome]).flatten)) := Ex.new n23
        have q3 : (upd H22 l3 (.lst (List.replicate (Int.toNat 2) [V.bl o.isSome]).flatten)) l3 = some (.lst [.bl o.isSome, .bl o.isSome]) := upd_same
        generalize upd H22 l3 (.lst (List.replicate (Int.toNat 2) [V.bl o.isSome]).flatten) = H23 at e23 q3 ⊢
        walk_at "ww"
        refine ⟨_, _, cmp_bl2 (((e21.trans e22).trans e23) _ _ f20), cmp_bl2 q3, ?_⟩
        rw [eqv_bl2]
        walk_at "ww"
        exact ⟨_, rfl, (((e19.trans e20).trans e21).trans e22).trans e23⟩
      · rintro σ H19 ⟨v14, rfl, e19⟩
        have D19 := D18.ex e19
        walk_at "ww"
        refine alI fun l4 H20 n20 e20 f20 => ?_
        walk_at "ww"
        refine exSq (SqL.of f20) ?_
        intro D0 hD
        refine lcList (K := K) (a := l4) (xs := [od, V.ref ah]) (fun H' => Ex H20 H') (fun i z H' => z = .bl true) (fun _ => rfl) (Ex.new hD) (fun H' e => SqL.of (e _ _ f20)) (fun i x hx H21 acc hI hD5 hl hR => ?_) (fun H21 ys hI hD5 hl hR => ?_)
        · obtain ⟨o, ho⟩ : ∃ o, FrQ K H20 x o := by
            match i, hx with
            | 0, e => exact ⟨none, by cases e; exact D19.od.ex e20⟩
            | 1, e => exact ⟨_, by cases e; exact D19.h.q.ex e20⟩
          walk_at "ww"
          refine ⟨_, o, rfl, ho.ex hI, ?_⟩
          walk_at "ww"
          exact lcAdd hD5 hl (by have := (List.getElem?_eq_some_iff.mp hx).1; simp only [List.length_cons, List.length_nil] at this; omega) (hI.mut hD) hR rfl
        · walk_at "ww"
          have ey : ys = [true, true].map V.bl := by
            match ys, hl, hR with
            | [x, y], _, q => rw [q 0 x rfl, q 1 y rfl]; rfl
          rw [ey] at hD5
          refine wAll (bs := [true, true]) (SqL.of hD5) ?_
          have EZ := (((e11.trans E18).trans e19).trans e20).trans hI
          exact k _ (kk.trans EZ.kp) (hP10.ex EZ)
def spLaw (K : PySem.W.Frag) : Sp := fun vs H Q _ => ∃ (a : Addr) (ns : List Int), vs = [.ref a] ∧ SqL K H a (ns.map V.int) ∧ ns.length ≤ 63 ∧ ∀ H', Q (.bl true) H'
theorem ok_law (T : Tx P K mg A) {f : Addr} {fd : FuncData} (F : Fun K "law" "law" s_law f fd) : FnQ P w K mg base CX0 7 f fd ["_law_script"] (spLaw K) := by
  refine okQ F sc_law (fun vs H Q E h => ?_) (fun cdv A' outer s H vs Q E hq h => ?_)
  · obtain ⟨a, ns, rfl, _⟩ := h
    rfl
  · obtain ⟨a, ns, rfl, hS, hlen, k⟩ := h
    have hr := hq.room
    refine ⟨_, (pss_cons (ps_for PassesOwn.never rfl (pi_range1 (by rfl) T.m_range (pa_cons (pe_callB (call_max2 rfl) (by rfl) T.m_max (by decide +kernel) (pa_cons pe_int (pa_cons (pe_callB (call_min2 rfl) (by rfl) T.m_min (by decide +kernel) (pa_cons (pe_callB (call_lenV (K := K) rfl) (by rfl) T.m_len (by decide +kernel) (pa_cons (pv 0) pa_nil)) (pa_cons pe_int pa_nil))) pa_nil))) pa_nil)) (pg_name (i := 1) sc_law.nd rfl (Or.inl rfl))
    (pss_cons (ps_set (i := 2) sc_law.nd rfl (Or.inr rfl) (pe_call (ok_Lpool T) (hr.mono (by decide)) (by rfl) T.g_Lpool T.F_Lpool.kp T.b_Lpool .nil pass0 (pa_cons (pe_call (ok_Lcell T) (hr.mono (by decide)) (by rfl) T.g_Lcell T.F_Lcell.kp T.b_Lcell .nil pass0 (pa_cons (pv 0) (pa_cons (pv 1) pa_nil))) pa_nil)))
      (pss_one (ps_if (pt_not (pt_val (pe_callB (cr_allV (K := K) rfl rfl) (by rfl) T.m_all (by decide +kernel) (pa_cons (pe_lc rfl sc_law.nd (g := gName 3) (pi_range1 (by rfl) T.m_range (pa_cons pe_int pa_nil)) (blkOk_by (own := [("_law_turn", 3)]) (N := ["_law_script", "_law_k", "_law_pool_here", "_law_turn"]) (sc := defScope s_law) (by decide +kernel)) (fun _ _ _ _ _ => (pg_name (i := 3) sc_law.nd rfl (Or.inl rfl))) (fun _ _ _ _ _ => pts_nil) (fun _ _ _ _ _ => (pe_callQ (ok_Ldoors_right T) (hq.mono (by decide)) (by rfl) T.g_Ldoors_right T.F_Ldoors_right.kp T.b_Ldoors_right pass0 (pa_cons (pv 2) pa_nil)))) pa_nil))))
      (pss_one (ps_ret pe_bl))
      pss_nil))))
    (pss_one (ps_ret pe_bl))), ?_⟩
    walk_at "ww"
    refine wLenL hS ?_
    walk_at "ww"
    obtain ⟨N, hN1, hN2, hN⟩ : ∃ N : Int, 1 ≤ N ∧ N ≤ 8 ∧ (if (if 6 < ((ns.map V.int).length : Int) then (6 : Int) else ((ns.map V.int).length : Int)) > 2 then (if 6 < ((ns.map V.int).length : Int) then (6 : Int) else ((ns.map V.int).length : Int)) else 2) = N := by
      refine ⟨_, ?_, ?_, rfl⟩ <;> (split <;> split <;> omega)
    rw [hN]
    refine ⟨by omega, by omega, ?_⟩
    refine for_range (lo := 0) (n := N.toNat) (fun i σ H2 => ∃ v1 v2, σ = [some (.ref a), v1, v2, none] ∧ Ex H H2) ⟨_, _, rfl, Ex.refl _⟩ ?_ ?_
    · rintro i σ H2 hi ⟨v1, v2, rfl, e2x⟩
      walk_at "ww"
      refine ⟨a, ns, 0 + i, rfl, e2x.sq hS, hlen, by omega, by omega, fun c H3 e3 => ?_⟩
      walk_at "ww"
      refine ⟨c, rfl, fun p H4 np e4 hP => ?_⟩
      walk_at "ww"
      refine ⟨by omega, by omega, ?_⟩
      intro D hD
      have nDp : D ≠ p := hP.ne hD
      have E4 : Ex H H4 := (e2x.trans e3).trans e4
      have np0 : H p = none := (e2x.trans e3).free np
      refine lcRng (n := 4) (fun H' => Kp p H4 H' ∧ Pool H' p) (fun i y _ => y = .bl true) (fun _ => rfl) ⟨Kp.new hD, hP.upd nDp⟩ (fun i hi H' acc hI hD' hl hR => ?_) (fun H5 ys hI hD' hl hR => ?_)
      · walk_at "ww"
        refine ⟨p, rfl, hI.2, fun H'' k' hP' => ?_⟩
        exact lcAdd (k' _ _ nDp hD') hl (by omega) ⟨(hI.1.trans k').mut hD, hP'.upd nDp⟩ hR rfl
      · have E5 : Ex H H5 := Kp.back E4 hI.1 np0
        obtain ⟨bs, rfl, hb2⟩ := all_true hR
        walk_at "ww"
        refine wAll (SqL.of hD') ?_
        rw [hb2]
        walk_at "ww"
        exact ⟨_, _, rfl, E5⟩
    · rintro σ H2 ⟨v1, v2, rfl, e2x⟩
      walk_at "ww"
      exact k _
end
theorem all_mk {l : PySem.W.OpenLaw} {w : World} {K : PySem.W.Frag} {h : Heap} {mg : Str → Option Value} {fa f_is_whole f_greatest_divisor f_is_fraction f_lowest f_check_two f_fraction f_plus f_minus f_times f_over f_below f_is_less f_Lcell f_Lpool f_Ltake f_Llow f_Lsort f_Lnumber f_Lone f_Lodd_number f_Lodd_fraction f_Lasked f_Lis_fraction f_Ldoors_right f_law : Addr} (X : K.In h) (G : h.Ns mainGlobals mg) (hfa : mg "law" = some (.ref fa))
    {od_is_whole an_is_whole od_greatest_divisor an_greatest_divisor od_is_fraction an_is_fraction od_lowest an_lowest od_check_two an_check_two od_fraction an_fraction od_plus an_plus od_minus an_minus od_times an_times od_over an_over od_below an_below od_is_less an_is_less od_Lcell an_Lcell od_Lpool an_Lpool od_Ltake an_Ltake od_Llow an_Llow od_Lsort an_Lsort od_Lnumber an_Lnumber od_Lone an_Lone od_Lodd_number an_Lodd_number od_Lodd_fraction an_Lodd_fraction od_Lasked an_Lasked od_Lis_fraction an_Lis_fraction od_Ldoors_right an_Ldoors_right od_law an_law : Option Addr} {sl_is_whole sl_greatest_divisor sl_is_fraction sl_lowest sl_check_two sl_fraction sl_plus sl_minus sl_times sl_over sl_below sl_is_less sl_Lcell sl_Lpool sl_Ltake sl_Llow sl_Lsort sl_Lnumber sl_Lone sl_Lodd_number sl_Lodd_fraction sl_Lasked sl_Lis_fraction sl_Ldoors_right sl_law : Array (Option Value)} {oc_is_whole kV_is_whole dc_is_whole pm_is_whole cd_is_whole ct_is_whole oc_greatest_divisor kV_greatest_divisor dc_greatest_divisor pm_greatest_divisor cd_greatest_divisor ct_greatest_divisor oc_is_fraction kV_is_fraction dc_is_fraction pm_is_fraction cd_is_fraction ct_is_fraction oc_lowest kV_lowest dc_lowest pm_lowest cd_lowest ct_lowest oc_check_two kV_check_two dc_check_two pm_check_two cd_check_two ct_check_two oc_fraction kV_fraction dc_fraction pm_fraction cd_fraction ct_fraction oc_plus kV_plus dc_plus pm_plus cd_plus ct_plus oc_minus kV_minus dc_minus pm_minus cd_minus ct_minus oc_times kV_times dc_times pm_times cd_times ct_times oc_over kV_over dc_over pm_over cd_over ct_over oc_below kV_below dc_below pm_below cd_below ct_below oc_is_less kV_is_less dc_is_less pm_is_less cd_is_less ct_is_less oc_Lcell kV_Lcell dc_Lcell pm_Lcell cd_Lcell ct_Lcell oc_Lpool kV_Lpool dc_Lpool pm_Lpool cd_Lpool ct_Lpool oc_Ltake kV_Ltake dc_Ltake pm_Ltake cd_Ltake ct_Ltake oc_Llow kV_Llow dc_Llow pm_Llow cd_Llow ct_Llow oc_Lsort kV_Lsort dc_Lsort pm_Lsort cd_Lsort ct_Lsort oc_Lnumber kV_Lnumber dc_Lnumber pm_Lnumber cd_Lnumber ct_Lnumber oc_Lone kV_Lone dc_Lone pm_Lone cd_Lone ct_Lone oc_Lodd_number kV_Lodd_number dc_Lodd_number pm_Lodd_number cd_Lodd_number ct_Lodd_number oc_Lodd_fraction kV_Lodd_fraction dc_Lodd_fraction pm_Lodd_fraction cd_Lodd_fraction ct_Lodd_fraction oc_Lasked kV_Lasked dc_Lasked pm_Lasked cd_Lasked ct_Lasked oc_Lis_fraction kV_Lis_fraction dc_Lis_fraction pm_Lis_fraction cd_Lis_fraction ct_Lis_fraction oc_Ldoors_right kV_Ldoors_right dc_Ldoors_right pm_Ldoors_right cd_Ldoors_right ct_Ldoors_right oc_law kV_law dc_law pm_law cd_law ct_law : Value}
    {D_fraction : Addr} {tk_fraction : Tok} {ocD_fraction : Value} {odD_fraction : Option Addr} {nD_fraction : Nat} {slD_fraction : Array (Option Value)}
    (a_is_whole : PySem.W.nsIn K mainGlobals "is_whole" = some (some (.ref f_is_whole))) (l_is_whole : K.lookup f_is_whole = some ⟨oc_is_whole, od_is_whole, .func (PySem.W.fnOf "is_whole" "is_whole" (defArgs s_is_whole) (defBody s_is_whole) (defScope s_is_whole) .none kV_is_whole dc_is_whole pm_is_whole an_is_whole cd_is_whole ct_is_whole), sl_is_whole⟩) (c_is_whole : PySem.W.codeIn K cd_is_whole "is_whole" = true) (k_is_whole : PySem.W.keepIn K (.ref f_is_whole) = true)
    (a_greatest_divisor : PySem.W.nsIn K mainGlobals "greatest_divisor" = some (some (.ref f_greatest_divisor))) (l_greatest_divisor : K.lookup f_greatest_divisor = some ⟨oc_greatest_divisor, od_greatest_divisor, .func (PySem.W.fnOf "greatest_divisor" "greatest_divisor" (defArgs s_greatest_divisor) (defBody s_greatest_divisor) (defScope s_greatest_divisor) .none kV_greatest_divisor dc_greatest_divisor pm_greatest_divisor an_greatest_divisor cd_greatest_divisor ct_greatest_divisor), sl_greatest_divisor⟩) (c_greatest_divisor : PySem.W.codeIn K cd_greatest_divisor "greatest_divisor" = true) (k_greatest_divisor : PySem.W.keepIn K (.ref f_greatest_divisor) = true)
    (a_is_fraction : PySem.W.nsIn K mainGlobals "is_fraction" = some (some (.ref f_is_fraction))) (l_is_fraction : K.lookup f_is_fraction = some ⟨oc_is_fraction, od_is_fraction, .func (PySem.W.fnOf "is_fraction" "is_fraction" (defArgs s_is_fraction) (defBody s_is_fraction) (defScope s_is_fraction) .none kV_is_fraction dc_is_fraction pm_is_fraction an_is_fraction cd_is_fraction ct_is_fraction), sl_is_fraction⟩) (c_is_fraction : PySem.W.codeIn K cd_is_fraction "is_fraction" = true) (k_is_fraction : PySem.W.keepIn K (.ref f_is_fraction) = true)
    (a_lowest : PySem.W.nsIn K mainGlobals "lowest" = some (some (.ref f_lowest))) (l_lowest : K.lookup f_lowest = some ⟨oc_lowest, od_lowest, .func (PySem.W.fnOf "lowest" "lowest" (defArgs s_lowest) (defBody s_lowest) (defScope s_lowest) .none kV_lowest dc_lowest pm_lowest an_lowest cd_lowest ct_lowest), sl_lowest⟩) (c_lowest : PySem.W.codeIn K cd_lowest "lowest" = true) (k_lowest : PySem.W.keepIn K (.ref f_lowest) = true)
    (a_check_two : PySem.W.nsIn K mainGlobals "check_two" = some (some (.ref f_check_two))) (l_check_two : K.lookup f_check_two = some ⟨oc_check_two, od_check_two, .func (PySem.W.fnOf "check_two" "check_two" (defArgs s_check_two) (defBody s_check_two) (defScope s_check_two) .none kV_check_two dc_check_two pm_check_two an_check_two cd_check_two ct_check_two), sl_check_two⟩) (c_check_two : PySem.W.codeIn K cd_check_two "check_two" = true) (k_check_two : PySem.W.keepIn K (.ref f_check_two) = true)
    (a_fraction : PySem.W.nsIn K mainGlobals "fraction" = some (some (.ref f_fraction))) (l_fraction : K.lookup f_fraction = some ⟨oc_fraction, od_fraction, .func (PySem.W.fnOf "fraction" "fraction" (defArgs s_fraction) (defBody s_fraction) (defScope s_fraction) (.ref D_fraction) kV_fraction dc_fraction pm_fraction an_fraction cd_fraction ct_fraction), sl_fraction⟩) (c_fraction : PySem.W.codeIn K cd_fraction "fraction" = true) (k_fraction : PySem.W.keepIn K (.ref f_fraction) = true)
    (t_fraction : K.lookup D_fraction = some ⟨ocD_fraction, odD_fraction, .seq #[.int 1 tk_fraction] nD_fraction, slD_fraction⟩)
    (a_plus : PySem.W.nsIn K mainGlobals "plus" = some (some (.ref f_plus))) (l_plus : K.lookup f_plus = some ⟨oc_plus, od_plus, .func (PySem.W.fnOf "plus" "plus" (defArgs s_plus) (defBody s_plus) (defScope s_plus) .none kV_plus dc_plus pm_plus an_plus cd_plus ct_plus), sl_plus⟩) (c_plus : PySem.W.codeIn K cd_plus "plus" = true) (k_plus : PySem.W.keepIn K (.ref f_plus) = true)
    (a_minus : PySem.W.nsIn K mainGlobals "minus" = some (some (.ref f_minus))) (l_minus : K.lookup f_minus = some ⟨oc_minus, od_minus, .func (PySem.W.fnOf "minus" "minus" (defArgs s_minus) (defBody s_minus) (defScope s_minus) .none kV_minus dc_minus pm_minus an_minus cd_minus ct_minus), sl_minus⟩) (c_minus : PySem.W.codeIn K cd_minus "minus" = true) (k_minus : PySem.W.keepIn K (.ref f_minus) = true)
    (a_times : PySem.W.nsIn K mainGlobals "times" = some (some (.ref f_times))) (l_times : K.lookup f_times = some ⟨oc_times, od_times, .func (PySem.W.fnOf "times" "times" (defArgs s_times) (defBody s_times) (defScope s_times) .none kV_times dc_times pm_times an_times cd_times ct_times), sl_times⟩) (c_times : PySem.W.codeIn K cd_times "times" = true) (k_times : PySem.W.keepIn K (.ref f_times) = true)
    (a_over : PySem.W.nsIn K mainGlobals "over" = some (some (.ref f_over))) (l_over : K.lookup f_over = some ⟨oc_over, od_over, .func (PySem.W.fnOf "over" "over" (defArgs s_over) (defBody s_over) (defScope s_over) .none kV_over dc_over pm_over an_over cd_over ct_over), sl_over⟩) (c_over : PySem.W.codeIn K cd_over "over" = true) (k_over : PySem.W.keepIn K (.ref f_over) = true)
    (a_below : PySem.W.nsIn K mainGlobals "below" = some (some (.ref f_below))) (l_below : K.lookup f_below = some ⟨oc_below, od_below, .func (PySem.W.fnOf "below" "below" (defArgs s_below) (defBody s_below) (defScope s_below) .none kV_below dc_below pm_below an_below cd_below ct_below), sl_below⟩) (c_below : PySem.W.codeIn K cd_below "below" = true) (k_below : PySem.W.keepIn K (.ref f_below) = true)
    (a_is_less : PySem.W.nsIn K mainGlobals "is_less" = some (some (.ref f_is_less))) (l_is_less : K.lookup f_is_less = some ⟨oc_is_less, od_is_less, .func (PySem.W.fnOf "is_less" "is_less" (defArgs s_is_less) (defBody s_is_less) (defScope s_is_less) .none kV_is_less dc_is_less pm_is_less an_is_less cd_is_less ct_is_less), sl_is_less⟩) (c_is_less : PySem.W.codeIn K cd_is_less "is_less" = true) (k_is_less : PySem.W.keepIn K (.ref f_is_less) = true)
    (a_Lcell : PySem.W.nsIn K mainGlobals "_law_cell" = some (some (.ref f_Lcell))) (l_Lcell : K.lookup f_Lcell = some ⟨oc_Lcell, od_Lcell, .func (PySem.W.fnOf "_law_cell" "_law_cell" (defArgs s_Lcell) (defBody s_Lcell) (defScope s_Lcell) .none kV_Lcell dc_Lcell pm_Lcell an_Lcell cd_Lcell ct_Lcell), sl_Lcell⟩) (c_Lcell : PySem.W.codeIn K cd_Lcell "_law_cell" = true) (k_Lcell : PySem.W.keepIn K (.ref f_Lcell) = true)
    (a_Lpool : PySem.W.nsIn K mainGlobals "_law_pool" = some (some (.ref f_Lpool))) (l_Lpool : K.lookup f_Lpool = some ⟨oc_Lpool, od_Lpool, .func (PySem.W.fnOf "_law_pool" "_law_pool" (defArgs s_Lpool) (defBody s_Lpool) (defScope s_Lpool) .none kV_Lpool dc_Lpool pm_Lpool an_Lpool cd_Lpool ct_Lpool), sl_Lpool⟩) (c_Lpool : PySem.W.codeIn K cd_Lpool "_law_pool" = true) (k_Lpool : PySem.W.keepIn K (.ref f_Lpool) = true)
    (a_Ltake : PySem.W.nsIn K mainGlobals "_law_take" = some (some (.ref f_Ltake))) (l_Ltake : K.lookup f_Ltake = some ⟨oc_Ltake, od_Ltake, .func (PySem.W.fnOf "_law_take" "_law_take" (defArgs s_Ltake) (defBody s_Ltake) (defScope s_Ltake) .none kV_Ltake dc_Ltake pm_Ltake an_Ltake cd_Ltake ct_Ltake), sl_Ltake⟩) (c_Ltake : PySem.W.codeIn K cd_Ltake "_law_take" = true) (k_Ltake : PySem.W.keepIn K (.ref f_Ltake) = true)
    (a_Llow : PySem.W.nsIn K mainGlobals "_law_low" = some (some (.ref f_Llow))) (l_Llow : K.lookup f_Llow = some ⟨oc_Llow, od_Llow, .func (PySem.W.fnOf "_law_low" "_law_low" (defArgs s_Llow) (defBody s_Llow) (defScope s_Llow) .none kV_Llow dc_Llow pm_Llow an_Llow cd_Llow ct_Llow), sl_Llow⟩) (c_Llow : PySem.W.codeIn K cd_Llow "_law_low" = true) (k_Llow : PySem.W.keepIn K (.ref f_Llow) = true)
    (a_Lsort : PySem.W.nsIn K mainGlobals "_law_sort" = some (some (.ref f_Lsort))) (l_Lsort : K.lookup f_Lsort = some ⟨oc_Lsort, od_Lsort, .func (PySem.W.fnOf "_law_sort" "_law_sort" (defArgs s_Lsort) (defBody s_Lsort) (defScope s_Lsort) .none kV_Lsort dc_Lsort pm_Lsort an_Lsort cd_Lsort ct_Lsort), sl_Lsort⟩) (c_Lsort : PySem.W.codeIn K cd_Lsort "_law_sort" = true) (k_Lsort : PySem.W.keepIn K (.ref f_Lsort) = true)
    (a_Lnumber : PySem.W.nsIn K mainGlobals "_law_number" = some (some (.ref f_Lnumber))) (l_Lnumber : K.lookup f_Lnumber = some ⟨oc_Lnumber, od_Lnumber, .func (PySem.W.fnOf "_law_number" "_law_number" (defArgs s_Lnumber) (defBody s_Lnumber) (defScope s_Lnumber) .none kV_Lnumber dc_Lnumber pm_Lnumber an_Lnumber cd_Lnumber ct_Lnumber), sl_Lnumber⟩) (c_Lnumber : PySem.W.codeIn K cd_Lnumber "_law_number" = true) (k_Lnumber : PySem.W.keepIn K (.ref f_Lnumber) = true)
    (a_Lone : PySem.W.nsIn K mainGlobals "_law_one" = some (some (.ref f_Lone))) (l_Lone : K.lookup f_Lone = some ⟨oc_Lone, od_Lone, .func (PySem.W.fnOf "_law_one" "_law_one" (defArgs s_Lone) (defBody s_Lone) (defScope s_Lone) .none kV_Lone dc_Lone pm_Lone an_Lone cd_Lone ct_Lone), sl_Lone⟩) (c_Lone : PySem.W.codeIn K cd_Lone "_law_one" = true) (k_Lone : PySem.W.keepIn K (.ref f_Lone) = true)
    (a_Lodd_number : PySem.W.nsIn K mainGlobals "_law_odd_number" = some (some (.ref f_Lodd_number))) (l_Lodd_number : K.lookup f_Lodd_number = some ⟨oc_Lodd_number, od_Lodd_number, .func (PySem.W.fnOf "_law_odd_number" "_law_odd_number" (defArgs s_Lodd_number) (defBody s_Lodd_number) (defScope s_Lodd_number) .none kV_Lodd_number dc_Lodd_number pm_Lodd_number an_Lodd_number cd_Lodd_number ct_Lodd_number), sl_Lodd_number⟩) (c_Lodd_number : PySem.W.codeIn K cd_Lodd_number "_law_odd_number" = true) (k_Lodd_number : PySem.W.keepIn K (.ref f_Lodd_number) = true)
    (a_Lodd_fraction : PySem.W.nsIn K mainGlobals "_law_odd_fraction" = some (some (.ref f_Lodd_fraction))) (l_Lodd_fraction : K.lookup f_Lodd_fraction = some ⟨oc_Lodd_fraction, od_Lodd_fraction, .func (PySem.W.fnOf "_law_odd_fraction" "_law_odd_fraction" (defArgs s_Lodd_fraction) (defBody s_Lodd_fraction) (defScope s_Lodd_fraction) .none kV_Lodd_fraction dc_Lodd_fraction pm_Lodd_fraction an_Lodd_fraction cd_Lodd_fraction ct_Lodd_fraction), sl_Lodd_fraction⟩) (c_Lodd_fraction : PySem.W.codeIn K cd_Lodd_fraction "_law_odd_fraction" = true) (k_Lodd_fraction : PySem.W.keepIn K (.ref f_Lodd_fraction) = true)
    (a_Lasked : PySem.W.nsIn K mainGlobals "_law_asked" = some (some (.ref f_Lasked))) (l_Lasked : K.lookup f_Lasked = some ⟨oc_Lasked, od_Lasked, .func (PySem.W.fnOf "_law_asked" "_law_asked" (defArgs s_Lasked) (defBody s_Lasked) (defScope s_Lasked) .none kV_Lasked dc_Lasked pm_Lasked an_Lasked cd_Lasked ct_Lasked), sl_Lasked⟩) (c_Lasked : PySem.W.codeIn K cd_Lasked "_law_asked" = true) (k_Lasked : PySem.W.keepIn K (.ref f_Lasked) = true)
    (a_Lis_fraction : PySem.W.nsIn K mainGlobals "_law_is_fraction" = some (some (.ref f_Lis_fraction))) (l_Lis_fraction : K.lookup f_Lis_fraction = some ⟨oc_Lis_fraction, od_Lis_fraction, .func (PySem.W.fnOf "_law_is_fraction" "_law_is_fraction" (defArgs s_Lis_fraction) (defBody s_Lis_fraction) (defScope s_Lis_fraction) .none kV_Lis_fraction dc_Lis_fraction pm_Lis_fraction an_Lis_fraction cd_Lis_fraction ct_Lis_fraction), sl_Lis_fraction⟩) (c_Lis_fraction : PySem.W.codeIn K cd_Lis_fraction "_law_is_fraction" = true) (k_Lis_fraction : PySem.W.keepIn K (.ref f_Lis_fraction) = true)
    (a_Ldoors_right : PySem.W.nsIn K mainGlobals "_law_doors_right" = some (some (.ref f_Ldoors_right))) (l_Ldoors_right : K.lookup f_Ldoors_right = some ⟨oc_Ldoors_right, od_Ldoors_right, .func (PySem.W.fnOf "_law_doors_right" "_law_doors_right" (defArgs s_Ldoors_right) (defBody s_Ldoors_right) (defScope s_Ldoors_right) .none kV_Ldoors_right dc_Ldoors_right pm_Ldoors_right an_Ldoors_right cd_Ldoors_right ct_Ldoors_right), sl_Ldoors_right⟩) (c_Ldoors_right : PySem.W.codeIn K cd_Ldoors_right "_law_doors_right" = true) (k_Ldoors_right : PySem.W.keepIn K (.ref f_Ldoors_right) = true)
    (a_law : PySem.W.nsIn K mainGlobals "law" = some (some (.ref f_law))) (l_law : K.lookup f_law = some ⟨oc_law, od_law, .func (PySem.W.fnOf "law" "law" (defArgs s_law) (defBody s_law) (defScope s_law) .none kV_law dc_law pm_law an_law cd_law ct_law), sl_law⟩) (c_law : PySem.W.codeIn K cd_law "law" = true) (k_law : PySem.W.keepIn K (.ref f_law) = true)
    {c_ThankError c_LostError c_StandError c_NoNumber c_NoDeed c_NoBook c_NoWeb c_NoNames c_NoAmount c_NoMany c_NoText c_NoRow c_NoName c_NoLot c_NoPlace c_NoBack c_Fails c_NoMates c_TooMany : Addr}
    (a_ThankError : PySem.W.nsIn K mainGlobals "ThankError" = some (some (.ref c_ThankError)))
    (a_LostError : PySem.W.nsIn K mainGlobals "LostError" = some (some (.ref c_LostError)))
    (a_StandError : PySem.W.nsIn K mainGlobals "StandError" = some (some (.ref c_StandError)))
    (a_NoNumber : PySem.W.nsIn K mainGlobals "NoNumber" = some (some (.ref c_NoNumber)))
    (a_NoDeed : PySem.W.nsIn K mainGlobals "NoDeed" = some (some (.ref c_NoDeed)))
    (a_NoBook : PySem.W.nsIn K mainGlobals "NoBook" = some (some (.ref c_NoBook)))
    (a_NoWeb : PySem.W.nsIn K mainGlobals "NoWeb" = some (some (.ref c_NoWeb)))
    (a_NoNames : PySem.W.nsIn K mainGlobals "NoNames" = some (some (.ref c_NoNames)))
    (a_NoAmount : PySem.W.nsIn K mainGlobals "NoAmount" = some (some (.ref c_NoAmount)))
    (a_NoMany : PySem.W.nsIn K mainGlobals "NoMany" = some (some (.ref c_NoMany)))
    (a_NoText : PySem.W.nsIn K mainGlobals "NoText" = some (some (.ref c_NoText)))
    (a_NoRow : PySem.W.nsIn K mainGlobals "NoRow" = some (some (.ref c_NoRow)))
    (a_NoName : PySem.W.nsIn K mainGlobals "NoName" = some (some (.ref c_NoName)))
    (a_NoLot : PySem.W.nsIn K mainGlobals "NoLot" = some (some (.ref c_NoLot)))
    (a_NoPlace : PySem.W.nsIn K mainGlobals "NoPlace" = some (some (.ref c_NoPlace)))
    (a_NoBack : PySem.W.nsIn K mainGlobals "NoBack" = some (some (.ref c_NoBack)))
    (a_Fails : PySem.W.nsIn K mainGlobals "Fails" = some (some (.ref c_Fails)))
    (a_NoMates : PySem.W.nsIn K mainGlobals "NoMates" = some (some (.ref c_NoMates)))
    (a_TooMany : PySem.W.nsIn K mainGlobals "TooMany" = some (some (.ref c_TooMany)))
    {nm_NoNumber q_NoNumber ql_NoNumber : Str} {i_NoNumber N_NoNumber cc_NoNumber ca_NoNumber : Addr} {bs_NoNumber sub_NoNumber : List Value} {sn_NoNumber : List Str} {ab_NoNumber : Bool} {col_NoNumber : Option Bool} {dd_NoNumber od_NoNumber an_NoNumber cld_NoNumber cdd_NoNumber : Option Addr} {m0_NoNumber m1_NoNumber m2_NoNumber m3_NoNumber m5_NoNumber : Option Value}
    {oc_NoNumber kV_NoNumber dc_NoNumber pm_NoNumber ct_NoNumber cl_NoNumber ccl_NoNumber : Value} {sl_NoNumber csl_NoNumber ccs_NoNumber : Array (Option Value)} {vs_NoNumber : Array Value} {file_NoNumber : Str} {tf_NoNumber : Tok}
    (exL_NoNumber : K.lookup c_NoNumber = some (excClassObj nm_NoNumber q_NoNumber c_NoNumber N_NoNumber bs_NoNumber [.ref c_ThankError, .type "ValueError", .type "Exception", .type "BaseException", .type "object"] true sn_NoNumber sub_NoNumber ab_NoNumber col_NoNumber dd_NoNumber m0_NoNumber m1_NoNumber m2_NoNumber m3_NoNumber m5_NoNumber "ValueError.__new__"))
    (esa_NoNumber : PySem.W.findIn K (.ref c_NoNumber) "__setattr__" = some (some (.builtin "object.__setattr__")))
    (ega_NoNumber : PySem.W.findIn K (.ref c_NoNumber) "__getattribute__" = some (some (.builtin "BaseException.__getattribute__")))
    (egg_NoNumber : PySem.W.findIn K (.ref c_NoNumber) "__getattr__" = some none)
    (enb_NoNumber : PySem.W.findIn K (.ref c_NoNumber) "place" = some none)
    (eiC_NoNumber : PySem.W.findIn K (.ref c_NoNumber) "__init__" = some (some (.ref i_NoNumber)))
    (etI_NoNumber : PySem.W.typeIn K (.ref i_NoNumber) = some (.type "function"))
    (ekC_NoNumber : PySem.W.keepIn K (.ref c_NoNumber) = true)
    (eeC_NoNumber : PySem.W.subIn K (.ref c_NoNumber) (.type "BaseException") = some true)
    (etC_NoNumber : PySem.W.typeIn K (.ref c_NoNumber) = some (.type "type"))
    (ehC_NoNumber : PySem.W.hasDictIn K c_NoNumber = true)
    (evE_NoNumber : PySem.W.subIn K (.ref c_NoNumber) (.type "ValueError") = some true)
    (esf_NoNumber : PySem.W.mroIn K c_NoNumber (.ref c_NoNumber) = some true)
    (esu_NoNumber : PySem.W.ks_superIn K c_NoNumber c_NoNumber "__init__" = some (some (.builtin "ValueError.__init__")))
    (efn_NoNumber : K.lookup i_NoNumber = some ⟨oc_NoNumber, od_NoNumber, .func (PySem.W.fnX "__init__" ql_NoNumber (defArgs (inClass s_NoNumber 0)) (defBody (inClass s_NoNumber 0)) (defScope (inClass s_NoNumber 0)) [("__class__", cc_NoNumber)] .none kV_NoNumber dc_NoNumber pm_NoNumber an_NoNumber (.ref ca_NoNumber) ct_NoNumber), sl_NoNumber⟩)
    (ecd_NoNumber : PySem.W.codeIn K (.ref ca_NoNumber) ql_NoNumber = true)
    (elc_NoNumber : K.lookup cc_NoNumber = some ⟨cl_NoNumber, cld_NoNumber, .cell (some (.ref c_NoNumber)), csl_NoNumber⟩)
    (elk_NoNumber : K.lookup ca_NoNumber = some ⟨ccl_NoNumber, cdd_NoNumber, .fields vs_NoNumber, ccs_NoNumber⟩)
    (ehv_NoNumber : vs_NoNumber[2]? = some (.str file_NoNumber tf_NoNumber))
    (ehf_NoNumber : ((l.prog.main.file : Str) == file_NoNumber) = true)
    (eic_NoNumber : PySem.W.isClsIn K c_NoNumber = true)
    (eca_NoNumber : PySem.W.findIn K (.ref c_NoNumber) "__class__" = some (some (.builtin "object.__class__")))
    (ecn_NoNumber : PySem.W.specialIn K (.builtin "object.__class__") "__get__" = some (some (.builtin "getset_descriptor.__get__")))
    (ect_NoNumber : PySem.W.takesIn K (.builtin "object.__class__") = some true)
    (eob_NoNumber : PySem.W.mroIn K c_NoNumber (.type "object") = some true)
    (o_NoNumber_NoNumber : PySem.W.kitOne K (.ref c_NoNumber) (.ref c_NoNumber) = some true)
    (o_NoNumber_NoDeed : PySem.W.kitOne K (.ref c_NoNumber) (.ref c_NoDeed) = some false)
    (o_NoNumber_NoBook : PySem.W.kitOne K (.ref c_NoNumber) (.ref c_NoBook) = some false)
    (o_NoNumber_NoWeb : PySem.W.kitOne K (.ref c_NoNumber) (.ref c_NoWeb) = some false)
    (o_NoNumber_NoNames : PySem.W.kitOne K (.ref c_NoNumber) (.ref c_NoNames) = some false)
    (o_NoNumber_NoAmount : PySem.W.kitOne K (.ref c_NoNumber) (.ref c_NoAmount) = some false)
    (o_NoNumber_NoMany : PySem.W.kitOne K (.ref c_NoNumber) (.ref c_NoMany) = some false)
    (o_NoNumber_NoText : PySem.W.kitOne K (.ref c_NoNumber) (.ref c_NoText) = some false)
    (o_NoNumber_NoRow : PySem.W.kitOne K (.ref c_NoNumber) (.ref c_NoRow) = some false)
    (o_NoNumber_NoName : PySem.W.kitOne K (.ref c_NoNumber) (.ref c_NoName) = some false)
    (o_NoNumber_NoLot : PySem.W.kitOne K (.ref c_NoNumber) (.ref c_NoLot) = some false)
    (o_NoNumber_NoPlace : PySem.W.kitOne K (.ref c_NoNumber) (.ref c_NoPlace) = some false)
    (o_NoNumber_NoBack : PySem.W.kitOne K (.ref c_NoNumber) (.ref c_NoBack) = some false)
    (o_NoNumber_Fails : PySem.W.kitOne K (.ref c_NoNumber) (.ref c_Fails) = some false)
    (o_NoNumber_NoMates : PySem.W.kitOne K (.ref c_NoNumber) (.ref c_NoMates) = some false)
    (o_NoNumber_TooMany : PySem.W.kitOne K (.ref c_NoNumber) (.ref c_TooMany) = some false)
    (o_NoNumber_ThankError : PySem.W.kitOne K (.ref c_NoNumber) (.ref c_ThankError) = some true)
    (o_NoNumber_LostError : PySem.W.kitOne K (.ref c_NoNumber) (.ref c_LostError) = some false)
    (o_NoNumber_StandError : PySem.W.kitOne K (.ref c_NoNumber) (.ref c_StandError) = some false)
    (o_NoNumber_ValueError : PySem.W.kitOne K (.ref c_NoNumber) (.type "ValueError") = some true)
    (o_NoNumber_LookupError : PySem.W.kitOne K (.ref c_NoNumber) (.type "LookupError") = some false)
    (o_NoNumber_ArithmeticError : PySem.W.kitOne K (.ref c_NoNumber) (.type "ArithmeticError") = some false)
    (xb_NoNumber_ThankError : PySem.W.subIn K (.ref c_ThankError) (.type "BaseException") = some true)
    (xh_NoNumber_ThankError : PySem.W.hasDictIn K c_ThankError = true)
    (xt_NoNumber_ThankError : PySem.W.typeIn K (.ref c_ThankError) = some (.type "type"))
    (xs_NoNumber_ThankError : PySem.W.subIn K (.ref c_NoNumber) (.ref c_ThankError) = some true)
    (z_super : PySem.W.nsIn K mainGlobals "super" = some none) (z_stat : PySem.W.nsIn K cStatics "thirdparty.any" = some none) (z_top : (l.prog.main.scope.names.lookup ("super" : Str)).isSome = false)
    (z_ArithmeticError : PySem.W.nsIn K mainGlobals "ArithmeticError" = some none)
    (z_LookupError : PySem.W.nsIn K mainGlobals "LookupError" = some none)
    (z_ValueError : PySem.W.nsIn K mainGlobals "ValueError" = some none)
    (z_abs : PySem.W.nsIn K mainGlobals "abs" = some none)
    (z_all : PySem.W.nsIn K mainGlobals "all" = some none)
    (z_bool : PySem.W.nsIn K mainGlobals "bool" = some none)
    (z_divmod : PySem.W.nsIn K mainGlobals "divmod" = some none)
    (z_int : PySem.W.nsIn K mainGlobals "int" = some none)
    (z_isinstance : PySem.W.nsIn K mainGlobals "isinstance" = some none)
    (z_len : PySem.W.nsIn K mainGlobals "len" = some none)
    (z_max : PySem.W.nsIn K mainGlobals "max" = some none)
    (z_min : PySem.W.nsIn K mainGlobals "min" = some none)
    (z_range : PySem.W.nsIn K mainGlobals "range" = some none)
    (z_repr : PySem.W.nsIn K mainGlobals "repr" = some none)
    (z_tuple : PySem.W.nsIn K mainGlobals "tuple" = some none)
    : ∃ fd : FuncData, (∀ (s : Shared) (v : Value), BindsTo s fd ⟨[v], []⟩ [("_law_script", v)]) ∧ ∀ base : Heap, K.In base → base.Ns mainGlobals mg → FnQ l.prog w K mg base CX0 7 fa fd ["_law_script"] (spLaw K) := by
  have e := hfa.symm.trans (PySem.W.mg_of X G a_law)
  cases e
  have F_is_whole := fun_mk (st := s_is_whole) l_is_whole c_is_whole k_is_whole
  have F_greatest_divisor := fun_mk (st := s_greatest_divisor) l_greatest_divisor c_greatest_divisor k_greatest_divisor
  have F_is_fraction := fun_mk (st := s_is_fraction) l_is_fraction c_is_fraction k_is_fraction
  have F_lowest := fun_mk (st := s_lowest) l_lowest c_lowest k_lowest
  have F_check_two := fun_mk (st := s_check_two) l_check_two c_check_two k_check_two
  have F_fraction : FunD K "fraction" "fraction" (defArgs s_fraction) (defBody s_fraction) (defScope s_fraction) [.int 1] [] f_fraction _ := ⟨⟨_, _, _, _, _, _, _, _, _, _, rfl, l_fraction, c_fraction, .inr ⟨by simp, D_fraction, _, [.int 1 tk_fraction], nD_fraction, rfl, t_fraction, rfl, .cons ⟨_, rfl⟩ .nil⟩, .inl rfl⟩, k_fraction⟩
  have F_plus := fun_mk (st := s_plus) l_plus c_plus k_plus
  have F_minus := fun_mk (st := s_minus) l_minus c_minus k_minus
  have F_times := fun_mk (st := s_times) l_times c_times k_times
  have F_over := fun_mk (st := s_over) l_over c_over k_over
  have F_below := fun_mk (st := s_below) l_below c_below k_below
  have F_is_less := fun_mk (st := s_is_less) l_is_less c_is_less k_is_less
  have F_Lcell := fun_mk (st := s_Lcell) l_Lcell c_Lcell k_Lcell
  have F_Lpool := fun_mk (st := s_Lpool) l_Lpool c_Lpool k_Lpool
  have F_Ltake := fun_mk (st := s_Ltake) l_Ltake c_Ltake k_Ltake
  have F_Llow := fun_mk (st := s_Llow) l_Llow c_Llow k_Llow
  have F_Lsort := fun_mk (st := s_Lsort) l_Lsort c_Lsort k_Lsort
  have F_Lnumber := fun_mk (st := s_Lnumber) l_Lnumber c_Lnumber k_Lnumber
  have F_Lone := fun_mk (st := s_Lone) l_Lone c_Lone k_Lone
  have F_Lodd_number := fun_mk (st := s_Lodd_number) l_Lodd_number c_Lodd_number k_Lodd_number
  have F_Lodd_fraction := fun_mk (st := s_Lodd_fraction) l_Lodd_fraction c_Lodd_fraction k_Lodd_fraction
  have F_Lasked := fun_mk (st := s_Lasked) l_Lasked c_Lasked k_Lasked
  have F_Lis_fraction := fun_mk (st := s_Lis_fraction) l_Lis_fraction c_Lis_fraction k_Lis_fraction
  have F_Ldoors_right := fun_mk (st := s_Ldoors_right) l_Ldoors_right c_Ldoors_right k_Ldoors_right
  have F_law := fun_mk (st := s_law) l_law c_law k_law
  have T : Tx l.prog K mg ⟨f_is_whole, _, f_greatest_divisor, _, f_is_fraction, _, f_lowest, _, f_check_two, _, f_fraction, _, f_plus, _, f_minus, _, f_times, _, f_over, _, f_below, _, f_is_less, _, f_Lcell, _, f_Lpool, _, f_Ltake, _, f_Llow, _, f_Lsort, _, f_Lnumber, _, f_Lone, _, f_Lodd_number, _, f_Lodd_fraction, _, f_Lasked, _, f_Lis_fraction, _, f_Ldoors_right, _, c_ThankError, c_LostError, c_StandError, c_NoNumber, i_NoNumber, c_NoDeed, c_NoBook, c_NoWeb, c_NoNames, c_NoAmount, c_NoMany, c_NoText, c_NoRow, c_NoName, c_NoLot, c_NoPlace, c_NoBack, c_Fails, c_NoMates, c_TooMany⟩ := {
    g_ThankError := PySem.W.mg_of X G a_ThankError
    g_LostError := PySem.W.mg_of X G a_LostError
    g_StandError := PySem.W.mg_of X G a_StandError
    g_NoNumber := PySem.W.mg_of X G a_NoNumber
    g_NoDeed := PySem.W.mg_of X G a_NoDeed
    g_NoBook := PySem.W.mg_of X G a_NoBook
    g_NoWeb := PySem.W.mg_of X G a_NoWeb
    g_NoNames := PySem.W.mg_of X G a_NoNames
    g_NoAmount := PySem.W.mg_of X G a_NoAmount
    g_NoMany := PySem.W.mg_of X G a_NoMany
    g_NoText := PySem.W.mg_of X G a_NoText
    g_NoRow := PySem.W.mg_of X G a_NoRow
    g_NoName := PySem.W.mg_of X G a_NoName
    g_NoLot := PySem.W.mg_of X G a_NoLot
    g_NoPlace := PySem.W.mg_of X G a_NoPlace
    g_NoBack := PySem.W.mg_of X G a_NoBack
    g_Fails := PySem.W.mg_of X G a_Fails
    g_NoMates := PySem.W.mg_of X G a_NoMates
    g_TooMany := PySem.W.mg_of X G a_TooMany
    sup_NoNumber := { ini := ini_NoNumber, gC := PySem.W.mg_of X G a_NoNumber, noS := PySem.W.mg_none_of X G z_super, cls := ⟨_, _, _, _, _, _, _, _, _, _, _, _, _, _, _, exL_NoNumber, by first | rfl | with_unfolding_all rfl | decide⟩, sa := esa_NoNumber, ga := ega_NoNumber, gg := egg_NoNumber, noN := enb_NoNumber, iC := eiC_NoNumber, tC := etI_NoNumber, kC := ekC_NoNumber, exC := eeC_NoNumber, tyC := etC_NoNumber, hdC := ehC_NoNumber, vE := evE_NoNumber, slf := esf_NoNumber, sup := esu_NoNumber, opq := z_stat, top := z_top, fn := ⟨_, _, _, _, _, _, _, _, _, _, _, efn_NoNumber, ecd_NoNumber, ⟨_, _, _, elc_NoNumber⟩, _, _, _, _, _, _, elk_NoNumber, ehv_NoNumber, ehf_NoNumber⟩ }
    err_NoNumber := ⟨eic_NoNumber, ega_NoNumber, egg_NoNumber, eeC_NoNumber, eca_NoNumber, ecn_NoNumber, ect_NoNumber, eob_NoNumber⟩
    ko_NoNumber_NoNumber := o_NoNumber_NoNumber
    ko_NoNumber_NoDeed := o_NoNumber_NoDeed
    ko_NoNumber_NoBook := o_NoNumber_NoBook
    ko_NoNumber_NoWeb := o_NoNumber_NoWeb
    ko_NoNumber_NoNames := o_NoNumber_NoNames
    ko_NoNumber_NoAmount := o_NoNumber_NoAmount
    ko_NoNumber_NoMany := o_NoNumber_NoMany
    ko_NoNumber_NoText := o_NoNumber_NoText
    ko_NoNumber_NoRow := o_NoNumber_NoRow
    ko_NoNumber_NoName := o_NoNumber_NoName
    ko_NoNumber_NoLot := o_NoNumber_NoLot
    ko_NoNumber_NoPlace := o_NoNumber_NoPlace
    ko_NoNumber_NoBack := o_NoNumber_NoBack
    ko_NoNumber_Fails := o_NoNumber_Fails
    ko_NoNumber_NoMates := o_NoNumber_NoMates
    ko_NoNumber_TooMany := o_NoNumber_TooMany
    ko_NoNumber_ThankError := o_NoNumber_ThankError
    ko_NoNumber_LostError := o_NoNumber_LostError
    ko_NoNumber_StandError := o_NoNumber_StandError
    ko_NoNumber_ValueError := o_NoNumber_ValueError
    ko_NoNumber_LookupError := o_NoNumber_LookupError
    ko_NoNumber_ArithmeticError := o_NoNumber_ArithmeticError
    ex_NoNumber_ThankError := PySem.W.exm_ref xb_NoNumber_ThankError xh_NoNumber_ThankError xt_NoNumber_ThankError xs_NoNumber_ThankError
    m_ArithmeticError := PySem.W.mg_none_of X G z_ArithmeticError
    m_LookupError := PySem.W.mg_none_of X G z_LookupError
    m_ValueError := PySem.W.mg_none_of X G z_ValueError
    m_abs := PySem.W.mg_none_of X G z_abs
    m_all := PySem.W.mg_none_of X G z_all
    m_bool := PySem.W.mg_none_of X G z_bool
    m_divmod := PySem.W.mg_none_of X G z_divmod
    m_int := PySem.W.mg_none_of X G z_int
    m_isinstance := PySem.W.mg_none_of X G z_isinstance
    m_len := PySem.W.mg_none_of X G z_len
    m_max := PySem.W.mg_none_of X G z_max
    m_min := PySem.W.mg_none_of X G z_min
    m_range := PySem.W.mg_none_of X G z_range
    m_repr := PySem.W.mg_none_of X G z_repr
    m_tuple := PySem.W.mg_none_of X G z_tuple
    F_is_whole := F_is_whole
    g_is_whole := PySem.W.mg_of X G a_is_whole
    b_is_whole := F_is_whole.binds (ps := ["thing"]) fun _ _ _ _ _ _ us hl => match us, hl with | [_], _ => rfl
    F_greatest_divisor := F_greatest_divisor
    g_greatest_divisor := PySem.W.mg_of X G a_greatest_divisor
    b_greatest_divisor := F_greatest_divisor.binds (ps := ["one", "other"]) fun _ _ _ _ _ _ us hl => match us, hl with | [_, _], _ => rfl
    F_is_fraction := F_is_fraction
    g_is_fraction := PySem.W.mg_of X G a_is_fraction
    b_is_fraction := F_is_fraction.binds (ps := ["thing"]) fun _ _ _ _ _ _ us hl => match us, hl with | [_], _ => rfl
    F_lowest := F_lowest
    g_lowest := PySem.W.mg_of X G a_lowest
    b_lowest := F_lowest.binds (ps := ["top", "bottom"]) fun _ _ _ _ _ _ us hl => match us, hl with | [_, _], _ => rfl
    F_check_two := F_check_two
    g_check_two := PySem.W.mg_of X G a_check_two
    b_check_two := F_check_two.binds (ps := ["one", "other"]) fun _ _ _ _ _ _ us hl => match us, hl with | [_, _], _ => rfl
    F_fraction := F_fraction
    g_fraction := PySem.W.mg_of X G a_fraction
    b_fraction := bndD F_fraction (by simp) fun _ _ _ _ _ _ _ us its hu hi => match us, its, hu, hi with | [_, _], [_], _, _ => ⟨_, rfl, rfl⟩
    F_plus := F_plus
    g_plus := PySem.W.mg_of X G a_plus
    b_plus := F_plus.binds (ps := ["one", "other"]) fun _ _ _ _ _ _ us hl => match us, hl with | [_, _], _ => rfl
    F_minus := F_minus
    g_minus := PySem.W.mg_of X G a_minus
    b_minus := F_minus.binds (ps := ["one", "other"]) fun _ _ _ _ _ _ us hl => match us, hl with | [_, _], _ => rfl
    F_times := F_times
    g_times := PySem.W.mg_of X G a_times
    b_times := F_times.binds (ps := ["one", "other"]) fun _ _ _ _ _ _ us hl => match us, hl with | [_, _], _ => rfl
    F_over := F_over
    g_over := PySem.W.mg_of X G a_over
    b_over := F_over.binds (ps := ["one", "other"]) fun _ _ _ _ _ _ us hl => match us, hl with | [_, _], _ => rfl
    F_below := F_below
    g_below := PySem.W.mg_of X G a_below
    b_below := F_below.binds (ps := ["one", "other"]) fun _ _ _ _ _ _ us hl => match us, hl with | [_, _], _ => rfl
    F_is_less := F_is_less
    g_is_less := PySem.W.mg_of X G a_is_less
    b_is_less := F_is_less.binds (ps := ["one", "other"]) fun _ _ _ _ _ _ us hl => match us, hl with | [_, _], _ => rfl
    F_Lcell := F_Lcell
    g_Lcell := PySem.W.mg_of X G a_Lcell
    b_Lcell := F_Lcell.binds (ps := ["_law_script", "_law_k"]) fun _ _ _ _ _ _ us hl => match us, hl with | [_, _], _ => rfl
    F_Lpool := F_Lpool
    g_Lpool := PySem.W.mg_of X G a_Lpool
    b_Lpool := F_Lpool.binds (ps := ["_law_cell_here"]) fun _ _ _ _ _ _ us hl => match us, hl with | [_], _ => rfl
    F_Ltake := F_Ltake
    g_Ltake := PySem.W.mg_of X G a_Ltake
    b_Ltake := F_Ltake.binds (ps := ["_law_pool_here", "_law_many"]) fun _ _ _ _ _ _ us hl => match us, hl with | [_, _], _ => rfl
    F_Llow := F_Llow
    g_Llow := PySem.W.mg_of X G a_Llow
    b_Llow := F_Llow.binds (ps := ["_law_upper", "_law_lower"]) fun _ _ _ _ _ _ us hl => match us, hl with | [_, _], _ => rfl
    F_Lsort := F_Lsort
    g_Lsort := PySem.W.mg_of X G a_Lsort
    b_Lsort := F_Lsort.binds (ps := ["_law_e"]) fun _ _ _ _ _ _ us hl => match us, hl with | [_], _ => rfl
    F_Lnumber := F_Lnumber
    g_Lnumber := PySem.W.mg_of X G a_Lnumber
    b_Lnumber := F_Lnumber.binds (ps := ["_law_pool_here"]) fun _ _ _ _ _ _ us hl => match us, hl with | [_], _ => rfl
    F_Lone := F_Lone
    g_Lone := PySem.W.mg_of X G a_Lone
    b_Lone := F_Lone.binds (ps := ["_law_pool_here"]) fun _ _ _ _ _ _ us hl => match us, hl with | [_], _ => rfl
    F_Lodd_number := F_Lodd_number
    g_Lodd_number := PySem.W.mg_of X G a_Lodd_number
    b_Lodd_number := F_Lodd_number.binds (ps := ["_law_pool_here"]) fun _ _ _ _ _ _ us hl => match us, hl with | [_], _ => rfl
    F_Lodd_fraction := F_Lodd_fraction
    g_Lodd_fraction := PySem.W.mg_of X G a_Lodd_fraction
    b_Lodd_fraction := F_Lodd_fraction.binds (ps := ["_law_pool_here"]) fun _ _ _ _ _ _ us hl => match us, hl with | [_], _ => rfl
    F_Lasked := F_Lasked
    g_Lasked := PySem.W.mg_of X G a_Lasked
    b_Lasked := F_Lasked.binds (ps := ["_law_mode", "_law_first", "_law_second"]) fun _ _ _ _ _ _ us hl => match us, hl with | [_, _, _], _ => rfl
    F_Lis_fraction := F_Lis_fraction
    g_Lis_fraction := PySem.W.mg_of X G a_Lis_fraction
    b_Lis_fraction := F_Lis_fraction.binds (ps := ["_law_matter"]) fun _ _ _ _ _ _ us hl => match us, hl with | [_], _ => rfl
    F_Ldoors_right := F_Ldoors_right
    g_Ldoors_right := PySem.W.mg_of X G a_Ldoors_right
    b_Ldoors_right := F_Ldoors_right.binds (ps := ["_law_pool_here"]) fun _ _ _ _ _ _ us hl => match us, hl with | [_], _ => rfl
    kb0_is_fraction_thing := ⟨fun s us ws _ l1 l2 => match us, ws, l1, l2 with | [], [_], _, _ => .of_eq rfl, fun _ r => r⟩
    kb0_below_other_one := ⟨fun s us ws _ l1 l2 => match us, ws, l1, l2 with | [], [_, _], _, _ => .of_eq rfl, fun _ r => pick_rel r [1, 0]⟩
    kb0_over_other_one := ⟨fun s us ws _ l1 l2 => match us, ws, l1, l2 with | [], [_, _], _, _ => .of_eq rfl, fun _ r => pick_rel r [1, 0]⟩
    kb0_times_other_one := ⟨fun s us ws _ l1 l2 => match us, ws, l1, l2 with | [], [_, _], _, _ => .of_eq rfl, fun _ r => pick_rel r [1, 0]⟩
    kb0_minus_other_one := ⟨fun s us ws _ l1 l2 => match us, ws, l1, l2 with | [], [_, _], _, _ => .of_eq rfl, fun _ r => pick_rel r [1, 0]⟩
    kb0_plus_other_one := ⟨fun s us ws _ l1 l2 => match us, ws, l1, l2 with | [], [_, _], _, _ => .of_eq rfl, fun _ r => pick_rel r [1, 0]⟩
    kb0_fraction_bottom_top := by
      obtain ⟨_, h⟩ := kbnD (ps := ["top", "bottom"]) F_fraction 0 ["bottom", "top"] (fun _ _ zs => pick [1, 0] zs) (by simp) (fun _ _ r => pick_rel r [1, 0]) fun _ _ _ _ _ _ _ us its ws h1 h2 h3 => match us, its, ws, h1, h2, h3 with | [], [_], [_, _], _, _, _ => ⟨_, rfl, rfl⟩
      exact h
  }
  exact ⟨PySem.W.fnOf "law" "law" (defArgs s_law) (defBody s_law) (defScope s_law) .none kV_law dc_law pm_law an_law cd_law ct_law, fun s v => .of_eq rfl, fun base _ _ => ok_law T F_law⟩
theorem walk {l : PySem.W.OpenLaw} {q : Program} {loose : List Str} {XP : (Str → Option Value) → Heap → Prop} {YP : World → Heap → Prop} {d : DefRec} {K : Params → PySem.W.Frag} (hn : l.most = some 63) (hdf : d.params.defaults = [])
    (hY : ∀ (w : World) (h : Heap), YP w h → (K w.params).In h)
    (F : ∀ (w : World) (mg : Str → Option Value) (fa : Addr) (h : Heap), (K w.params).In h → h.Ns mainGlobals mg → mg d.name = some (.ref fa) →
      ∃ fd : FuncData, (∀ (s : Shared) (u : Value), BindsTo s fd ⟨[u], []⟩ [("_law_script", u)]) ∧ ∀ base : Heap, (K w.params).In base → base.Ns mainGlobals mg → FnQ l.prog w (K w.params) mg base CX0 7 fa fd ["_law_script"] (spLaw (K w.params))) :
    PySem.W.WalkO q loose XP YP l.row.toRowW d [] (fun f vs => PySem.call f vs) :=
  walk_quiet (n := 63) (k := 7) (x := "_law_script") (C := fun _ => CX0) (sp := fun w => spLaw (K w.params)) hn (by decide) hdf ⟨⟨rfl, by decide, by decide⟩, rfl⟩ hY F (fun _ _ a ns hl _ hS => ⟨a, ns, rfl, hS, hl, fun _ => rfl⟩) fun _ _ _ _ _ z => z
end Ver
open PySem PySem.W PyProof.Rows in
set_option maxRecDepth 100000 in
set_option maxHeartbeats 0 in
theorem PySem.Challenge.cw_thankways_k02_numbers_refused_holds : PySem.Challenge.rw_thankways_k02_numbers_refused.Holds := by
  w_on; o_law; k_head; (case hw => w_witness2)
  k_fill
  refine Ver.walk (l := PySem.Challenge.rw_thankways_k02_numbers_refused) rfl rfl (fun w h Y => PySem.W.kIn_of Y) ?F
  case F =>
    intro w mg fa h KX G hmg
    refine' Ver.all_mk KX G hmg ?a_is_whole ?l_is_whole ?c_is_whole ?k_is_whole ?a_greatest_divisor ?l_greatest_divisor ?c_greatest_divisor ?k_greatest_divisor ?a_is_fraction ?l_is_fraction ?c_is_fraction ?k_is_fraction ?a_lowest ?l_lowest ?c_lowest ?k_lowest ?a_check_two ?l_check_two ?c_check_two ?k_check_two ?a_fraction ?l_fraction ?c_fraction ?k_fraction ?t_fraction ?a_plus ?l_plus ?c_plus ?k_plus ?a_minus ?l_minus ?c_minus ?k_minus ?a_times ?l_times ?c_times ?k_times ?a_over ?l_over ?c_over ?k_over ?a_below ?l_below ?c_below ?k_below ?a_is_less ?l_is_less ?c_is_less ?k_is_less ?a_Lcell ?l_Lcell ?c_Lcell ?k_Lcell ?a_Lpool ?l_Lpool ?c_Lpool ?k_Lpool ?a_Ltake ?l_Ltake ?c_Ltake ?k_Ltake ?a_Llow ?l_Llow ?c_Llow ?k_Llow ?a_Lsort ?l_Lsort ?c_Lsort ?k_Lsort ?a_Lnumber ?l_Lnumber ?c_Lnumber ?k_Lnumber ?a_Lone ?l_Lone ?c_Lone ?k_Lone ?a_Lodd_number ?l_Lodd_number ?c_Lodd_number ?k_Lodd_number ?a_Lodd_fraction ?l_Lodd_fraction ?c_Lodd_fraction ?k_Lodd_fraction ?a_Lasked ?l_Lasked ?c_Lasked ?k_Lasked ?a_Lis_fraction ?l_Lis_fraction ?c_Lis_fraction ?k_Lis_fraction ?a_Ldoors_right ?l_Ldoors_right ?c_Ldoors_right ?k_Ldoors_right ?a_law ?l_law ?c_law ?k_law ?a_ThankError ?a_LostError ?a_StandError ?a_NoNumber ?a_NoDeed ?a_NoBook ?a_NoWeb ?a_NoNames ?a_NoAmount ?a_NoMany ?a_NoText ?a_NoRow ?a_NoName ?a_NoLot ?a_NoPlace ?a_NoBack ?a_Fails ?a_NoMates ?a_TooMany ?exL_NoNumber ?esa_NoNumber ?ega_NoNumber ?egg_NoNumber ?enb_NoNumber ?eiC_NoNumber ?etI_NoNumber ?ekC_NoNumber ?eeC_NoNumber ?etC_NoNumber ?ehC_NoNumber ?evE_NoNumber ?esf_NoNumber ?esu_NoNumber ?efn_NoNumber ?ecd_NoNumber ?elc_NoNumber ?elk_NoNumber ?ehv_NoNumber ?ehf_NoNumber ?eic_NoNumber ?eca_NoNumber ?ecn_NoNumber ?ect_NoNumber ?eob_NoNumber ?o_NoNumber_NoNumber ?o_NoNumber_NoDeed ?o_NoNumber_NoBook ?o_NoNumber_NoWeb ?o_NoNumber_NoNames ?o_NoNumber_NoAmount ?o_NoNumber_NoMany ?o_NoNumber_NoText ?o_NoNumber_NoRow ?o_NoNumber_NoName ?o_NoNumber_NoLot ?o_NoNumber_NoPlace ?o_NoNumber_NoBack ?o_NoNumber_Fails ?o_NoNumber_NoMates ?o_NoNumber_TooMany ?o_NoNumber_ThankError ?o_NoNumber_LostError ?o_NoNumber_StandError ?o_NoNumber_ValueError ?o_NoNumber_LookupError ?o_NoNumber_ArithmeticError ?xb_NoNumber_ThankError ?xh_NoNumber_ThankError ?xt_NoNumber_ThankError ?xs_NoNumber_ThankError ?z_super ?z_stat ?z_top ?z_ArithmeticError ?z_LookupError ?z_ValueError ?z_abs ?z_all ?z_bool ?z_divmod ?z_int ?z_isinstance ?z_len ?z_max ?z_min ?z_range ?z_repr ?z_tuple
    (case a_is_whole => k_is)
    (case l_is_whole => k_is)
    (case c_is_whole => k_is)
    (case k_is_whole => k_is)
    (case a_greatest_divisor => k_is)
    (case l_greatest_divisor => k_is)
    (case c_greatest_divisor => k_is)
    (case k_greatest_divisor => k_is)
    (case a_is_fraction => k_is)
    (case l_is_fraction => k_is)
    (case c_is_fraction => k_is)
    (case k_is_fraction => k_is)
    (case a_lowest => k_is)
    (case l_lowest => k_is)
    (case c_lowest => k_is)
    (case k_lowest => k_is)
    (case a_check_two => k_is)
    (case l_check_two => k_is)
    (case c_check_two => k_is)
    (case k_check_two => k_is)
    (case a_fraction => k_is)
    (case l_fraction => k_is)
    (case c_fraction => k_is)
    (case k_fraction => k_is)
    (case t_fraction => k_is)
    (case a_plus => k_is)
    (case l_plus => k_is)
    (case c_plus => k_is)
    (case k_plus => k_is)
    (case a_minus => k_is)
    (case l_minus => k_is)
    (case c_minus => k_is)
    (case k_minus => k_is)
    (case a_times => k_is)
    (case l_times => k_is)
    (case c_times => k_is)
    (case k_times => k_is)
    (case a_over => k_is)
    (case l_over => k_is)
    (case c_over => k_is)
    (case k_over => k_is)
    (case a_below => k_is)
    (case l_below => k_is)
    (case c_below => k_is)
    (case k_below => k_is)
    (case a_is_less => k_is)
    (case l_is_less => k_is)
    (case c_is_less => k_is)
    (case k_is_less => k_is)
    (case a_Lcell => k_is)
    (case l_Lcell => k_is)
    (case c_Lcell => k_is)
    (case k_Lcell => k_is)
    (case a_Lpool => k_is)
    (case l_Lpool => k_is)
    (case c_Lpool => k_is)
    (case k_Lpool => k_is)
    (case a_Ltake => k_is)
    (case l_Ltake => k_is)
    (case c_Ltake => k_is)
    (case k_Ltake => k_is)
    (case a_Llow => k_is)
    (case l_Llow => k_is)
    (case c_Llow => k_is)
    (case k_Llow => k_is)
    (case a_Lsort => k_is)
    (case l_Lsort => k_is)
    (case c_Lsort => k_is)
    (case k_Lsort => k_is)
    (case a_Lnumber => k_is)
    (case l_Lnumber => k_is)
    (case c_Lnumber => k_is)
    (case k_Lnumber => k_is)
    (case a_Lone => k_is)
    (case l_Lone => k_is)
    (case c_Lone => k_is)
    (case k_Lone => k_is)
    (case a_Lodd_number => k_is)
    (case l_Lodd_number => k_is)
    (case c_Lodd_number => k_is)
    (case k_Lodd_number => k_is)
    (case a_Lodd_fraction => k_is)
    (case l_Lodd_fraction => k_is)
    (case c_Lodd_fraction => k_is)
    (case k_Lodd_fraction => k_is)
    (case a_Lasked => k_is)
    (case l_Lasked => k_is)
    (case c_Lasked => k_is)
    (case k_Lasked => k_is)
    (case a_Lis_fraction => k_is)
    (case l_Lis_fraction => k_is)
    (case c_Lis_fraction => k_is)
    (case k_Lis_fraction => k_is)
    (case a_Ldoors_right => k_is)
    (case l_Ldoors_right => k_is)
    (case c_Ldoors_right => k_is)
    (case k_Ldoors_right => k_is)
    (case a_law => k_is)
    (case l_law => k_is)
    (case c_law => k_is)
    (case k_law => k_is)
    (case a_ThankError => k_is)
    (case a_LostError => k_is)
    (case a_StandError => k_is)
    (case a_NoNumber => k_is)
    (case a_NoDeed => k_is)
    (case a_NoBook => k_is)
    (case a_NoWeb => k_is)
    (case a_NoNames => k_is)
    (case a_NoAmount => k_is)
    (case a_NoMany => k_is)
    (case a_NoText => k_is)
    (case a_NoRow => k_is)
    (case a_NoName => k_is)
    (case a_NoLot => k_is)
    (case a_NoPlace => k_is)
    (case a_NoBack => k_is)
    (case a_Fails => k_is)
    (case a_NoMates => k_is)
    (case a_TooMany => k_is)
    (case exL_NoNumber => k_is)
    (case esa_NoNumber => k_is)
    (case ega_NoNumber => k_is)
    (case egg_NoNumber => k_is)
    (case enb_NoNumber => k_is)
    (case eiC_NoNumber => k_is)
    (case etI_NoNumber => k_is)
    (case ekC_NoNumber => k_is)
    (case eeC_NoNumber => k_is)
    (case etC_NoNumber => k_is)
    (case ehC_NoNumber => k_is)
    (case evE_NoNumber => k_is)
    (case esf_NoNumber => k_is)
    (case esu_NoNumber => ks_is)
    (case efn_NoNumber => k_is)
    (case ecd_NoNumber => k_is)
    (case elc_NoNumber => k_is)
    (case elk_NoNumber => k_is)
    (case ehv_NoNumber => rfl)
    (case ehf_NoNumber => first | rfl | decide +kernel)
    (case eic_NoNumber => k_is)
    (case eca_NoNumber => k_is)
    (case ecn_NoNumber => k_is)
    (case ect_NoNumber => k_is)
    (case eob_NoNumber => k_is)
    (case o_NoNumber_NoNumber => kit_is)
    (case o_NoNumber_NoDeed => kit_is)
    (case o_NoNumber_NoBook => kit_is)
    (case o_NoNumber_NoWeb => kit_is)
    (case o_NoNumber_NoNames => kit_is)
    (case o_NoNumber_NoAmount => kit_is)
    (case o_NoNumber_NoMany => kit_is)
    (case o_NoNumber_NoText => kit_is)
    (case o_NoNumber_NoRow => kit_is)
    (case o_NoNumber_NoName => kit_is)
    (case o_NoNumber_NoLot => kit_is)
    (case o_NoNumber_NoPlace => kit_is)
    (case o_NoNumber_NoBack => kit_is)
    (case o_NoNumber_Fails => kit_is)
    (case o_NoNumber_NoMates => kit_is)
    (case o_NoNumber_TooMany => kit_is)
    (case o_NoNumber_ThankError => kit_is)
    (case o_NoNumber_LostError => kit_is)
    (case o_NoNumber_StandError => kit_is)
    (case o_NoNumber_ValueError => kit_is)
    (case o_NoNumber_LookupError => kit_is)
    (case o_NoNumber_ArithmeticError => kit_is)
    (case xb_NoNumber_ThankError => k_is)
    (case xh_NoNumber_ThankError => k_is)
    (case xt_NoNumber_ThankError => k_is)
    (case xs_NoNumber_ThankError => k_is)
    (case z_super => k_is)
    (case z_stat => k_is)
    (case z_top => first | rfl | decide +kernel)
    (case z_ArithmeticError => k_is)
    (case z_LookupError => k_is)
    (case z_ValueError => k_is)
    (case z_abs => k_is)
    (case z_all => k_is)
    (case z_bool => k_is)
    (case z_divmod => k_is)
    (case z_int => k_is)
    (case z_isinstance => k_is)
    (case z_len => k_is)
    (case z_max => k_is)
    (case z_min => k_is)
    (case z_range => k_is)
    (case z_repr => k_is)
    (case z_tuple => k_is)
