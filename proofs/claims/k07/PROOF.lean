import PyProof.Rows.All
import Wide.All
import OpenK.AllK
import Wide.FinOn
import HandS.ForMost
import HandS.IsInst
import HandS.WideBits
import HandS.Wide
import HandS.Defaults
import HandS.TupMul
import HandS.Flow
import HandS.Codes
import HandS.Style
import HandS.TupAny
import HandS.Zip
import KE.GoesZip
import KE.GoesMore
import KE.KRevSl
import KE.DataEq
import KE.LtData
import KE.SortData
import KE.KExcSuper
import KE.RegKSuper
import HandS.Exc
import HandS.ExcInit
import HandS.ExcIs
import HandS.ExcField
import HandS.ExcOwn
import HandS.HotCalls
import HandS.WordsExc
import KE.KExcIs
import HandS.Iter
import KE.IntTextLaws
import KE.KIntText
import HandS.RaiseMore
import KE.GoesEnum
import PyProof.Rows.SetFrom
import HandS.Dict
import HandS.Keys
import HandS.DictTup
import HandS.Conv
import HandS.Nested
import HandS.TupSets
import HandS.More
import PyProof.DictMoreH
import KE.DatumOrd
import HandS.Walk
import PyProof.Rows.IntBool
import PyProof.TupleOfStr
import HandS.TupLe
import PySem.Challenge.RW_thankways_k07_what_webs_are
set_option Elab.async false
set_option linter.all false
set_option maxRecDepth 100000
set_option maxHeartbeats 4000000
/-! zip of a tuple and a text, walked by a for or a comprehension. -/
namespace ZipS
open PySem PySem.Spec PyProof.Rows L2
/-- the items of the tuple at a beside the signs of x, each pair in a new tuple -/
def ItzS (K : PySem.W.Frag) (a : Addr) (x : Str) : It where
  go := fun i H => ∃ (xs : List V) (v : V) (c : Nat), SqT K H a xs ∧ xs[i]? = some v ∧ x.cps[i]? = some c
  yld := fun i H v H' => ∃ (T : Addr) (y : V) (c : Nat), v = .ref T ∧ H T = none ∧ H' = upd H T (.tup [y, .str ⟨#[c]⟩]) ∧ (∀ xs, SqT K H a xs → xs[i]? = some y) ∧ x.cps[i]? = some c
  stop := fun i H => ∃ xs : List V, SqT K H a xs ∧ i ≤ xs.length ∧ i ≤ x.cps.size ∧ (i = xs.length ∨ i = x.cps.size)
/-- how the cells of such a zip stand ahead of the turn i -/
def StS (a z TI TO i1 i2 : Addr) (x : Str) (t : Tok) (i : Nat) (h : Heap) : Prop :=
  IsZip h z TI TO .none ∧ IsTupOf2 h TI (.ref i1) (.ref i2) ∧ (∃ a1 a2, IsTupOf2 h TO a1 a2) ∧ h.IsTupleIter i1 a i ∧ h.IsStrIter i2 (strIterType x) x t i
theorem turn_zipS {P : Program} {w : World} {K : PySem.W.Frag} {elts : List Expr} {kk : Nat} {tpos : Pos} {a z TI TO i1 i2 : Addr} {x : Str} {t : Tok} (D : ZipSep2 z TI TO i1 i2 [i1, a] [i2]) (hne : a ≠ i1) :
    Turn P w K (.Tuple elts kk tpos) (ItzS K a x) [z, TI, TO, i1, i2] z (StS a z TI TO i1 i2 x t) where
  mem := List.mem_cons_self
  obj := by
    rintro i h ⟨hz, hTI, ⟨b1, b2, hTO⟩, ⟨o1, e1, _, d1⟩, ⟨o2, e2, _, d2⟩⟩ c hc
    simp only [List.mem_cons, List.not_mem_nil, or_false] at hc
    rcases hc with rfl | rfl | rfl | rfl | rfl
    · exact ⟨_, hz, fun v q => by cases q⟩
    · exact ⟨_, hTI, fun v q => by cases q⟩
    · exact ⟨_, hTO, fun v q => by cases q⟩
    · exact ⟨o1, e1, fun v q => by rw [d1] at q; cases q⟩
    · exact ⟨o2, e2, fun v q => by rw [d2] at q; cases q⟩
  keep := by
    rintro i h h' ⟨hz, hTI, ⟨b1, b2, hTO⟩, h1, ⟨o2, e2, c2, d2⟩⟩ k
    exact ⟨k z (by simp) _ hz, k TI (by simp) _ hTI, ⟨b1, b2, k TO (by simp) _ hTO⟩, h1.at fun o q => k i1 (by simp) o q, ⟨o2, k i2 (by simp) _ e2, c2, d2⟩⟩
  item := by
    intro X hP hw hK hc i pins s σ H E I hf st hg
    subst hP hw hK
    obtain ⟨hz, hTI, ⟨b1, b2, hTO⟩, h1, h2⟩ := st
    obtain ⟨xs, y, c, hq, hy, hcx⟩ := hg
    obtain ⟨its, rv, p, _⟩ := I.tuple hq
    have hh : X.A.in1.handled = none := I.ok.hd hc
    have l1 : i < its.toArray.size := by
      have := (List.getElem?_eq_some_iff.mp hy).1
      have := rv.length
      simp only [List.size_toArray]
      omega
    have l2 : i < x.cps.size := (Array.getElem?_eq_some_iff.mp hcx).1
    refine wpAny_pyNext_zipD2_item (A := X.A) D (Draws.tuple hh i1 a hne its.toArray) (Draws.text hh i2 x t) hz hTI hTO ⟨h1, (show s.heap.IsTuple a its.toArray from p)⟩ h2 l1 l2 fun x1 x2 h' tk p1 p2 z' TO' s1 s2 hT hsz hk => ?_
    obtain ⟨c', u', hc', rfl⟩ := p2
    have ec : c' = c := Option.some.inj (hc'.symm.trans hcx)
    subst ec
    obtain ⟨u, hu, ru⟩ := rv.get hy
    have eu : x1 = u := by
      have : its[i]? = some x1 := by simpa using p1
      exact Option.some.inj (this.symm.trans hu)
    subst eu
    refine ⟨_, rfl, ?_⟩
    refine wpAny_letOwnedTupleGo_zip (s := { s with heap := h', toks := tk }) z' fun h2' z2 sb => ?_
    have zlt : z < s.heap.objs.size := Heap.lt_size hz
    have T2 : h2'.get? s.heap.objs.size = some { cls := .type "tuple", data := .seq #[x1, .str ⟨#[c']⟩ u'] } := (sb.2 _ (Nat.ne_of_gt zlt)).trans hT
    have new : ObjOk X.prog X.w (upd H s.heap.objs.size (.tup [y, .str ⟨#[c']⟩])) h2' s.heap.objs.size (.tup [y, .str ⟨#[c']⟩]) :=
      ⟨by show 2 ≤ sizeLine; decide, [x1, .str ⟨#[c']⟩ u'], .cons ru (.cons ⟨u', rfl⟩ .nil), ⟨_, T2, rfl, _, rfl⟩⟩
    have kk' : ∀ b o, b ∉ [z, TI, TO, i1, i2] → s.heap.get? b = some o → h2'.get? b = some o := fun b o hb q => by
      simp only [List.mem_cons, List.not_mem_nil, or_false, not_or] at hb
      exact (sb.2 b hb.1).trans (hk b o hb.1 hb.2.2.1 hb.2.2.2.1 hb.2.2.2.2 q)
    have I1 : Inv X pins σ (upd H s.heap.objs.size (.tup [y, .str ⟨#[c']⟩])) { s with heap := h2', toks := tk } := I.turnedNew (t' := tk) kk' hf (Nat.le_refl _) new
    refine ⟨.ref s.heap.objs.size, _, I1, rfl, ⟨_, y, c', rfl, I.hok.fresh (Nat.le_refl _), rfl, fun l hl => by rw [I.tuple_inj hl hq]; exact hy, hcx⟩, ⟨z2, ?_, ⟨x1, .str ⟨#[c']⟩ u', ?_⟩, ?_, ?_⟩, fun b hb => ?_⟩
    · exact (sb.2 _ D.TIz).trans (hk _ _ D.TIz D.TITO D.TIi1 D.TIi2 hTI)
    · exact (sb.2 _ D.TOz).trans TO'
    · exact s1.1.at fun o q => (sb.2 _ D.zi1.symm).trans q
    · obtain ⟨o, e, c0, d⟩ := s2
      exact ⟨o, (sb.2 _ D.zi2.symm).trans e, c0, d⟩
    · have lt : b < s.heap.objs.size := by
        simp only [List.mem_cons, List.not_mem_nil, or_false] at hb
        obtain ⟨o1, e1, _⟩ := h1
        obtain ⟨o2, e2, _⟩ := h2
        rcases hb with rfl | rfl | rfl | rfl | rfl
        · exact zlt
        · exact Heap.lt_size hTI
        · exact Heap.lt_size hTO
        · exact Heap.lt_size e1
        · exact Heap.lt_size e2
      rw [upd_ne (Nat.ne_of_lt lt)]
      exact (hf b hb).1
  done := by
    intro X hP hw hK hc i pins s σ H E I hf st hg
    subst hP hw hK
    obtain ⟨hz, hTI, ⟨b1, b2, hTO⟩, h1, h2⟩ := st
    obtain ⟨xs, hq, le1, le2, hend⟩ := hg
    obtain ⟨its, rv, p, _⟩ := I.tuple hq
    have hh : X.A.in1.handled = none := I.ok.hd hc
    have el : its.toArray.size = xs.length := by
      have := rv.length
      simp only [List.size_toArray]
      omega
    refine wpAny_pyNext_zipD2_end (A := X.A) D (Draws.tuple hh i1 a hne its.toArray) (Draws.text hh i2 x t) hz hTI hTO ⟨h1, (show s.heap.IsTuple a its.toArray from p)⟩ h2 (by omega) le2 (by omega) fun h' tk hk => ?_
    refine ⟨rfl, I.turnedL (t' := tk) (ch := [z, TI, TO, i1, i2]) (fun b o hb q => ?_) hf⟩
    simp only [List.mem_cons, List.not_mem_nil, or_false, not_or] at hb
    exact hk b o hb.1 hb.2.2.1 hb.2.2.2.1 hb.2.2.2.2 q
  self := fun A i s Q E st h => wpAny_pyIter_zip st.1 h
def iZipS (K : PySem.W.Frag) (ta : TA) : TI := fun σ H R => ta σ H fun vs H1 => ∃ (a : Addr) (x : Str) (xs : List V), vs = [.ref a, .str x] ∧ SqT K H1 a xs ∧ R (ItzS K a x) H1
theorem sep_new {n a : Nat} (h : a < n) : ZipSep2 (n + 4) (n + 2) (n + 3) n (n + 1) [n, a] [n + 1] where
  TIz := fun e => by have e : n + 2 = n + 4 := e; omega
  TOz := fun e => by have e : n + 3 = n + 4 := e; omega
  TITO := fun e => by have e : n + 2 = n + 3 := e; omega
  TIi1 := fun e => by have e : n + 2 = n := e; omega
  mem1 := List.mem_cons_self
  zf1 := fun e => by
    rcases List.mem_cons.mp e with e | e
    · have e : n + 4 = n := e
      omega
    · have e : n + 4 = a := by simpa using e
      omega
  Tf1 := fun e => by
    rcases List.mem_cons.mp e with e | e
    · have e : n + 3 = n := e
      omega
    · have e : n + 3 = a := by simpa using e
      omega
  TIi2 := fun e => by have e : n + 2 = n + 1 := e; omega
  mem2 := List.mem_cons_self
  zf2 := fun e => by
    have e : n + 4 = n + 1 := by simpa using e
    omega
  Tf2 := fun e => by
    have e : n + 3 = n + 1 := by simpa using e
    omega
  sep1_2 := fun e => by
    have e : n = n + 1 := by simpa using e
    omega
  sep2_1 := fun e => by
    rcases List.mem_cons.mp e with e | e
    · have e : n + 1 = n := e
      omega
    · have e : n + 1 = a := by simpa using e
      omega
theorem pi_zipS {X : Cx} {K : PySem.W.Frag} {e e2 : Expr} {ta : TA} {p pos tpos : Pos} {elts : List Expr} {kk : Nat} (hK : X.K = K) (hg : Gl X "zip") (hm : X.mg "zip" = none) (ha : PA X [e, e2] ta)
    (hs : starEach [e, e2] X.env = (false, eval e X.env) :: starEach [e2] X.env := by rfl) (hpl : (backTo pos (starEach [e2] X.env)).any (·.1) = false := by rfl) :
    PI X (.Tuple elts kk tpos) (.Call (.Name "zip" p) [e, e2] [] pos) (iZipS K ta) := by
  subst hK
  refine ⟨fun pins s σ H R I h => ?_⟩
  refine Call_ (ld_blt I hg hm PyProof.Rows.boot_zip (PyProof.Rows.callWith_type1 (thn (ha.run pos pins s σ H _ I h) fun us s1 ⟨vs, H1, I1, r1, q1⟩ => ?_) hs hpl))
  obtain ⟨a, x, xs, rfl, hq, q⟩ := q1
  obtain ⟨u1, u2, rfl, ra, t, rfl⟩ := vals2 r1
  cases ra
  obtain ⟨its, rv, p1, _⟩ := I1.tuple hq
  have la : a < s1.heap.objs.size := let ⟨_, e, _⟩ := p1; Heap.lt_size e
  refine zip_begins2 (begins_tuple a its.toArray) (begins_text x t) (show s1.heap.IsTuple a its.toArray from p1) trivial fun h' hz hTI hTO g1 g2 hsz hk => wpAny_pyIter_zip hz ?_
  have I2 : Inv X pins σ H1 { s1 with heap := h' } := I1.kept (t' := s1.toks) hk
  have D := sep_new la
  refine ⟨s1.heap.objs.size + 4, [s1.heap.objs.size + 4, s1.heap.objs.size + 2, s1.heap.objs.size + 3, s1.heap.objs.size, s1.heap.objs.size + 1], _, _, H1, rfl, I2, turn_zipS D (Nat.ne_of_lt la), ⟨hz, hTI, ⟨_, _, hTO⟩, ⟨_, g1, rfl, rfl⟩, ⟨_, g2, rfl, rfl⟩⟩, fun b hb => ?_, q⟩
  have hle : s1.heap.objs.size ≤ b := by
    simp only [List.mem_cons, List.not_mem_nil, or_false] at hb
    rcases hb with rfl | rfl | rfl | rfl | rfl
    · exact Nat.le_add_right _ _
    · exact Nat.le_add_right _ _
    · exact Nat.le_add_right _ _
    · exact Nat.le_refl _
    · exact Nat.le_add_right _ _
  exact I1.fpOk hle (I1.hok.fresh hle)
/-- a loop over such a zip -/
theorem for_zipS {K : PySem.W.Frag} {a : Addr} {x : Str} {xs : List V} {g : TG} {tb : TS} {D : Ends} {σ : L2.St} {H : Hp} (n : Nat) (hn : n = min xs.length x.cps.size) (Pv : Nat → L2.St → Hp → Prop) (h0 : Pv 0 σ H) (hq : ∀ i σ H, Pv i σ H → SqT K H a xs)
    (hs : ∀ (i : Nat) (y : V) (c : Nat) (T : Addr) (σ : L2.St) (H : Hp), xs[i]? = some y → x.cps[i]? = some c → Pv i σ H → H T = none → g (.ref T) σ (upd H T (.tup [y, .str ⟨#[c]⟩])) fun σ2 H2 => tb { D with nx := Pv (i + 1), ct := Pv (i + 1), bk := D.nx } σ2 H2)
    (hd : ∀ σ H, Pv n σ H → D.nx σ H) :
    ∃ W : Nat → Nat → L2.St → Hp → Prop, (∃ m, W 0 m σ H) ∧ ∀ i m σ H, W i m σ H →
      ((ItzS K a x).stop i H ∧ D.nx σ H) ∨ ((ItzS K a x).go i H ∧ ∃ N : L2.St → Hp → Prop, (∀ σ' H', N σ' H' → ∃ m', m' < m ∧ W (i + 1) m' σ' H') ∧ ∀ v H', (ItzS K a x).yld i H v H' → g v σ H' fun σ2 H2 => tb { D with nx := N, ct := N, bk := D.nx } σ2 H2) := by
  refine ⟨fun i m σ H => m = n - i ∧ i ≤ n ∧ Pv i σ H, ⟨n, by simp, Nat.zero_le _, h0⟩, ?_⟩
  rintro i m σ H ⟨rfl, hi, P⟩
  have q := hq i σ H P
  by_cases hlt : i < n
  · have l1 : i < xs.length := by omega
    have l2 : i < x.cps.size := by omega
    refine .inr ⟨⟨xs, xs[i], x.cps[i], q, List.getElem?_eq_getElem l1, Array.getElem?_eq_getElem l2⟩, Pv (i + 1), fun σ' H' P' => ⟨n - (i + 1), by omega, rfl, hlt, P'⟩, ?_⟩
    rintro v H' ⟨T, y, c, rfl, nT, rfl, f, hc⟩
    exact hs i y c T σ H (f xs q) hc P nT
  · have e : i = n := by omega
    subst e
    exact .inl ⟨⟨xs, q, by omega, by omega, by omega⟩, hd σ H P⟩
end ZipS
/-! Fractions in lowest terms: plain mathematics. -/
namespace Fr
def IsFr (p q : Int) : Prop := 1 ≤ q ∧ p.gcd q = 1
def frD (t b : Int) : Int := if b < 0 then -((t.gcd b : Nat) : Int) else ((t.gcd b : Nat) : Int)
def frT (t b : Int) : Int := t.fdiv (frD t b)
def frB (t b : Int) : Int := b.fdiv (frD t b)
theorem gcd_pos {t b : Int} (h : b ≠ 0) : 0 < t.gcd b := by
  rcases Nat.eq_zero_or_pos (t.gcd b) with e | e
  · have := (Int.gcd_eq_zero_iff.mp e).2
    exact absurd this h
  · exact e
theorem split {t b : Int} (h : b ≠ 0) : ∃ t' b' : Int, t = (t.gcd b : Int) * t' ∧ b = (t.gcd b : Int) * b' ∧ t'.gcd b' = 1 := by
  have g0 := gcd_pos (t := t) h
  obtain ⟨t', ht⟩ := Int.gcd_dvd_left t b
  obtain ⟨b', hb⟩ := Int.gcd_dvd_right t b
  refine ⟨t', b', ht, hb, ?_⟩
  have e : t.gcd b = ((t.gcd b : Nat) : Int).natAbs * t'.gcd b' := by
    rw [← Int.gcd_mul_left, ← ht, ← hb]
  rw [Int.natAbs_natCast] at e
  have : t.gcd b * 1 = t.gcd b * t'.gcd b' := by omega
  exact (Nat.eq_of_mul_eq_mul_left g0 this).symm
theorem fr_parts {t b : Int} (h : b ≠ 0) : ∃ k : Int, k ≠ 0 ∧ t = k * frT t b ∧ b = k * frB t b ∧ 1 ≤ frB t b ∧ (frT t b).gcd (frB t b) = 1 ∧ k = frD t b := by
  obtain ⟨t', b', ht, hb, hg⟩ := split (t := t) h
  have g0 := gcd_pos (t := t) h
  generalize hG : t.gcd b = g at *
  have hgz : (g : Int) ≠ 0 := by omega
  by_cases hn : b < 0
  · have eD : frD t b = -(g : Int) := by unfold frD; rw [if_pos hn, hG]
    have e1 : frT t b = -t' := by
      unfold frT
      rw [eD]
      exact Int.fdiv_eq_of_eq_mul_right (by omega) (by rw [ht]; grind)
    have e2 : frB t b = -b' := by
      unfold frB
      rw [eD]
      exact Int.fdiv_eq_of_eq_mul_right (by omega) (by rw [hb]; grind)
    refine ⟨-(g : Int), by omega, by rw [e1]; grind, by rw [e2]; grind, ?_, ?_, eD.symm⟩
    · rw [e2]
      have : b' < 0 := by
        rcases Int.lt_or_le b' 0 with q | q
        · exact q
        · have : 0 ≤ (g : Int) * b' := Int.mul_nonneg (by omega) q
          omega
      omega
    · rw [e1, e2, Int.gcd_neg, Int.neg_gcd]
      exact hg
  · have eD : frD t b = (g : Int) := by unfold frD; rw [if_neg hn, hG]
    have e1 : frT t b = t' := by
      unfold frT
      rw [eD]
      exact Int.fdiv_eq_of_eq_mul_right (by omega) ht
    have e2 : frB t b = b' := by
      unfold frB
      rw [eD]
      exact Int.fdiv_eq_of_eq_mul_right (by omega) hb
    refine ⟨(g : Int), by omega, by rw [e1]; exact ht, by rw [e2]; exact hb, ?_, by rw [e1, e2]; exact hg, eD.symm⟩
    rw [e2]
    rcases Int.lt_or_le 0 b' with q | q
    · omega
    · have : (g : Int) * b' ≤ 0 := Int.mul_nonpos_of_nonneg_of_nonpos (by omega) q
      omega
theorem fr_is {t b : Int} (h : b ≠ 0) : IsFr (frT t b) (frB t b) := by
  obtain ⟨k, _, _, _, h1, h2, _⟩ := fr_parts (t := t) h
  exact ⟨h1, h2⟩
theorem fr_cross {t b : Int} (h : b ≠ 0) : frT t b * b = t * frB t b := by
  obtain ⟨k, _, ht, hb, _, _, _⟩ := fr_parts (t := t) h
  generalize frT t b = x at *
  generalize frB t b = y at *
  subst ht
  subst hb
  grind
theorem fr_unique {p q r s : Int} (h1 : IsFr p q) (h2 : IsFr r s) (e : p * s = r * q) : p = r ∧ q = s := by
  obtain ⟨q1, g1⟩ := h1
  obtain ⟨s1, g2⟩ := h2
  have d1 : q.natAbs ∣ s.natAbs := by
    have : q.natAbs ∣ p.natAbs * s.natAbs := by
      rw [← Int.natAbs_mul, e, Int.natAbs_mul]
      exact Nat.dvd_mul_left _ _
    exact Nat.Coprime.dvd_of_dvd_mul_left (show Nat.gcd q.natAbs p.natAbs = 1 by rw [Nat.gcd_comm]; exact g1) this
  have d2 : s.natAbs ∣ q.natAbs := by
    have : s.natAbs ∣ r.natAbs * q.natAbs := by
      rw [← Int.natAbs_mul, ← e, Int.natAbs_mul]
      exact Nat.dvd_mul_left _ _
    exact Nat.Coprime.dvd_of_dvd_mul_left (show Nat.gcd s.natAbs r.natAbs = 1 by rw [Nat.gcd_comm]; exact g2) this
  have es : q = s := by
    have := Nat.dvd_antisymm d1 d2
    omega
  subst es
  exact ⟨Int.eq_of_mul_eq_mul_right (by omega) e, rfl⟩
theorem fr_eq {t b p q : Int} (h : b ≠ 0) (h1 : IsFr p q) (e : t * q = p * b) : frT t b = p ∧ frB t b = q := by
  refine fr_unique (fr_is h) h1 ?_
  have c := fr_cross (t := t) h
  refine Int.eq_of_mul_eq_mul_right h ?_
  generalize frT t b = x at *
  generalize frB t b = y at *
  grind
theorem natAbs_fdiv_le {t b : Int} (h : b ≠ 0) : (frT t b).natAbs ≤ t.natAbs ∧ (frB t b).natAbs ≤ b.natAbs := by
  obtain ⟨k, hk, ht, hb, _, _, _⟩ := fr_parts (t := t) h
  have k1 : 1 ≤ k.natAbs := by omega
  constructor
  · have : t.natAbs = k.natAbs * (frT t b).natAbs := by rw [← Int.natAbs_mul, ← ht]
    rw [this]
    exact Nat.le_mul_of_pos_left _ k1
  · have : b.natAbs = k.natAbs * (frB t b).natAbs := by rw [← Int.natAbs_mul, ← hb]
    rw [this]
    exact Nat.le_mul_of_pos_left _ k1
theorem frD_ne {t b : Int} (h : b ≠ 0) : frD t b ≠ 0 := by
  obtain ⟨k, hk, _, _, _, _, e⟩ := fr_parts (t := t) h
  rw [← e]
  exact hk
theorem frD_le {t b : Int} (h : b ≠ 0) : (frD t b).natAbs ≤ b.natAbs := by
  obtain ⟨k, hk, ht, hb, h1, _, e⟩ := fr_parts (t := t) h
  rw [← e]
  have : b.natAbs = k.natAbs * (frB t b).natAbs := by rw [← Int.natAbs_mul, ← hb]
  rw [this]
  exact Nat.le_mul_of_pos_right _ (by omega)
/-- one turn of the reckoning of the greatest divisor -/
theorem gcd_turn (a : Int) {b : Int} (h : b ≠ 0) : b.gcd (a.fmod b) = a.gcd b := by
  rw [Int.fmod_def, Int.gcd_sub_mul_left_right, Int.gcd_comm]
theorem fmod_less (a : Int) {b : Int} (h : b ≠ 0) : (a.fmod b).natAbs < b.natAbs := by
  rcases Int.lt_or_lt_of_ne h with n | p
  · have e : a.fmod b = -((-a).fmod (-b)) := by
      have := Int.neg_fmod_neg a b
      omega
    have e2 : (-a).fmod (-b) = (-a) % (-b) := Int.fmod_eq_emod_of_nonneg _ (by omega)
    have h1 := Int.emod_nonneg (-a) (show -b ≠ 0 by omega)
    have h2 := Int.emod_lt_of_pos (-a) (show 0 < -b by omega)
    omega
  · have e2 : a.fmod b = a % b := Int.fmod_eq_emod_of_nonneg _ (by omega)
    have h1 := Int.emod_nonneg a h
    have h2 := Int.emod_lt_of_pos a p
    omega
theorem pos_ne {q s : Int} (h1 : 1 ≤ q) (h2 : 1 ≤ s) : q * s ≠ 0 := by
  have : 0 < q * s := Int.mul_pos (by omega) (by omega)
  omega
theorem minus_plus {p q r s : Int} (h1 : IsFr p q) (h2 : IsFr r s) : frT (frT (p * s + r * q) (q * s) * s - r * frB (p * s + r * q) (q * s)) (frB (p * s + r * q) (q * s) * s) = p ∧
    frB (frT (p * s + r * q) (q * s) * s - r * frB (p * s + r * q) (q * s)) (frB (p * s + r * q) (q * s) * s) = q := by
  have hz := pos_ne h1.1 h2.1
  have c := fr_cross (t := p * s + r * q) hz
  have i := fr_is (t := p * s + r * q) hz
  generalize frT (p * s + r * q) (q * s) = x at *
  generalize frB (p * s + r * q) (q * s) = y at *
  exact fr_eq (pos_ne i.1 h2.1) h1 (by grind)
theorem plus_minus {p q r s : Int} (h1 : IsFr p q) (h2 : IsFr r s) : frT (frT (p * s - r * q) (q * s) * s + r * frB (p * s - r * q) (q * s)) (frB (p * s - r * q) (q * s) * s) = p ∧
    frB (frT (p * s - r * q) (q * s) * s + r * frB (p * s - r * q) (q * s)) (frB (p * s - r * q) (q * s) * s) = q := by
  have hz := pos_ne h1.1 h2.1
  have c := fr_cross (t := p * s - r * q) hz
  have i := fr_is (t := p * s - r * q) hz
  generalize frT (p * s - r * q) (q * s) = x at *
  generalize frB (p * s - r * q) (q * s) = y at *
  exact fr_eq (pos_ne i.1 h2.1) h1 (by grind)
theorem over_times {p q r s : Int} (h1 : IsFr p q) (h2 : IsFr r s) (hr : r ≠ 0) : frT (frT (p * r) (q * s) * s) (frB (p * r) (q * s) * r) = p ∧ frB (frT (p * r) (q * s) * s) (frB (p * r) (q * s) * r) = q := by
  have hz := pos_ne h1.1 h2.1
  have c := fr_cross (t := p * r) hz
  have i := fr_is (t := p * r) hz
  generalize frT (p * r) (q * s) = x at *
  generalize frB (p * r) (q * s) = y at *
  exact fr_eq (Int.mul_ne_zero (by have := i.1; omega) hr) h1 (by grind)
theorem times_over {p q r s : Int} (h1 : IsFr p q) (h2 : IsFr r s) (hr : r ≠ 0) : frT (frT (p * s) (q * r) * r) (frB (p * s) (q * r) * s) = p ∧ frB (frT (p * s) (q * r) * r) (frB (p * s) (q * r) * s) = q := by
  have hz : q * r ≠ 0 := Int.mul_ne_zero (by have := h1.1; omega) hr
  have c := fr_cross (t := p * s) hz
  have i := fr_is (t := p * s) hz
  generalize frT (p * s) (q * r) = x at *
  generalize frB (p * s) (q * r) = y at *
  exact fr_eq (pos_ne i.1 h2.1) h1 (by grind)
end Fr
/-! The steps of a reading, one lemma a construct, and the heaps of a law with a pool. -/
namespace Ver
open PySem PySem.Spec PyProof.Rows L2

/-! ### heaps: all is kept but what stands at the one place -/
/-- all that was tracked is kept, but at p -/
def Kp (p : Addr) (H H' : Hp) : Prop := ∀ a o, a ≠ p → H a = some o → H' a = some o
/-- all is kept -/
def Ex (H H' : Hp) : Prop := ∀ a o, H a = some o → H' a = some o
theorem Ex.refl (H : Hp) : Ex H H := fun _ _ h => h
theorem Ex.trans {H H1 H2 : Hp} (a : Ex H H1) (b : Ex H1 H2) : Ex H H2 := fun x o h => b x o (a x o h)
theorem Ex.new {H : Hp} {p : Addr} {o : HO} (h : H p = none) : Ex H (upd H p o) := fun a u e => by
  rw [upd_ne (ne_of_none e h)]
  exact e
theorem Ex.kp {p : Addr} {H H' : Hp} (e : Ex H H') : Kp p H H' := fun a o _ h => e a o h
theorem Kp.refl (p : Addr) (H : Hp) : Kp p H H := fun _ _ _ h => h
theorem Kp.trans {p : Addr} {H H1 H2 : Hp} (a : Kp p H H1) (b : Kp p H1 H2) : Kp p H H2 := fun x o n h => b x o n (a x o n h)
theorem Kp.set {p : Addr} {H : Hp} {o : HO} : Kp p H (upd H p o) := fun a u n e => by
  rw [upd_ne n]
  exact e
theorem Kp.new {p q : Addr} {H : Hp} {o : HO} (h : H q = none) : Kp p H (upd H q o) := (Ex.new h).kp
/-- a thing that H does not know may change -/
theorem Ex.mut {H H' : Hp} {p : Addr} {o : HO} (e : Ex H H') (h : H p = none) : Ex H (upd H' p o) := fun a u ha => by
  rw [upd_ne (ne_of_none ha h)]
  exact e a u ha
theorem Kp.mut {q : Addr} {H H' : Hp} {p : Addr} {o : HO} (e : Kp q H H') (h : H p = none) : Kp q H (upd H' p o) := fun a u n ha => by
  rw [upd_ne (ne_of_none ha h)]
  exact e a u n ha
theorem Ex.free {H H' : Hp} {p : Addr} (e : Ex H H') (h : H' p = none) : H p = none := by
  cases h1 : H p with
  | none => rfl
  | some o =>
    rw [e p o h1] at h
    cases h
theorem Kp.free {q : Addr} {H H' : Hp} {p : Addr} (e : Kp q H H') (n : p ≠ q) (h : H' p = none) : H p = none := by
  cases h1 : H p with
  | none => rfl
  | some o =>
    rw [e p o n h1] at h
    cases h
theorem Kp.back {p : Addr} {H H1 H2 : Hp} (e : Ex H H1) (k : Kp p H1 H2) (n : H p = none) : Ex H H2 := fun a o h => k a o (ne_of_none h n) (e a o h)
theorem Ex.get {H H' : Hp} {a : Addr} {o : HO} (e : Ex H H') (h : H a = some o) : H' a = some o := e a o h
theorem Kp.get {p : Addr} {H H' : Hp} {a : Addr} {o : HO} (e : Kp p H H') (n : a ≠ p) (h : H a = some o) : H' a = some o := e a o n h
theorem Ex.rd {H H' : Hp} {a : Addr} {u : HO} (e : Ex H H') (h : Rd H a u) : Rd H' a u := by
  rcases h with h | ⟨o, h⟩
  · exact Or.inl (e a _ h)
  · exact Or.inr ⟨o, e a _ h⟩
theorem Ex.sq {K : PySem.W.Frag} {H H' : Hp} {a : Addr} {xs : List V} (e : Ex H H') (h : SqL K H a xs) : SqL K H' a xs := by
  rcases h with h | h
  · exact Or.inl (e.rd h)
  · exact Or.inr h
theorem Ex.st {K : PySem.W.Frag} {H H' : Hp} {a : Addr} {xs : List V} (e : Ex H H') (h : SqT K H a xs) : SqT K H' a xs := by
  rcases h with h | h
  · exact Or.inl (e.rd h)
  · exact Or.inr h
theorem sz6 {n : Nat} (h : n ≤ 100000) : n ≤ sizeLine := Nat.le_trans h (by decide)
theorem sz6' {n : Nat} (h : n ≤ 100000) : n < sizeLine := Nat.lt_of_le_of_lt h (by decide)

/-- a new object: what is wanted of its place and of the heap with it -/
def Al (Q : VK) (o : HO) (H : Hp) : Prop := ∀ p, H p = none → Q (.ref p) (upd H p o)
theorem alI {Q : VK} {o : HO} {H : Hp} (h : ∀ p H', H p = none → Ex H H' → H' p = some o → Q (.ref p) H') : Al Q o H := fun p hp => h p _ hp (Ex.new hp) upd_same

/-! ### the steps -/
section
variable {K : PySem.W.Frag} {σ : L2.St} {H : Hp} {Q : VK} {QT : Bool → Hp → Prop} {QA : List V → Hp → Prop} {QO : Option Int → Hp → Prop} {ta tb tc te : TE} {tt tu : TT} {v x y : V} {r r' : R2} {D : Ends} {ts us : TS} {g : TG} {tA tR : TA}
theorem wVar {i : Nat} (h : σ[i]? = some (some v)) (k : Q v H) : tVar i σ H Q := ⟨v, h, k⟩
theorem wC (k : Q v H) : tC v σ H Q := k
theorem wOp (k : ta σ H fun x H1 => tb σ H1 fun y H2 => r x y H2 Q) : tOp r ta tb σ H Q := k
theorem wUn {r : V → Hp → VK → Prop} (k : ta σ H fun x H1 => r x H1 Q) : tUn r ta σ H Q := k
theorem wCB {r : List V → Hp → VK → Prop} (k : tA σ H fun vs H1 => r vs H1 Q) : tCB r tA σ H Q := k
theorem wNil (k : QA [] H) : tNil σ H QA := k
theorem wCons (k : ta σ H fun x H1 => tR σ H1 fun xs H2 => QA (x :: xs) H2) : tCons ta tR σ H QA := k
theorem wCall {sp : Sp} {dvs : List V} {E : XK} (k : tA σ H fun vs H1 => sp (vs ++ dvs) H1 Q E) : tCall sp dvs E tA σ H Q := k
theorem wTest (k : te σ H fun x H' => ∃ k, x = .bl k ∧ QT k H') : tTest te σ H QT := k
theorem wB (k : te σ H fun x H' => ∃ k, x = .bl k ∧ QT k H') : tB te σ H QT := k
theorem wAnd (k : tt σ H fun c H1 => if c = true then tu σ H1 QT else QT false H1) : tAnd tt tu σ H QT := k
theorem wOr (k : tt σ H fun c H1 => if c = true then QT true H1 else tu σ H1 QT) : tOr tt tu σ H QT := k
theorem wNot (k : tt σ H fun c H1 => QT (!c) H1) : tNot tt σ H QT := k
theorem wAndV (k : ta σ H fun x H1 => ∃ c, x = .bl c ∧ if c = true then tb σ H1 Q else Q (.bl false) H1) : tAndV ta tb σ H Q := k
theorem wOrV (k : ta σ H fun x H1 => ∃ c, x = .bl c ∧ if c = true then Q (.bl true) H1 else tb σ H1 Q) : tOrV ta tb σ H Q := k
theorem wNotV (k : ta σ H fun x H1 => ∃ c, x = .bl c ∧ Q (.bl (!c)) H1) : tNotV ta σ H Q := k
theorem wIf (k : tt σ H fun c H1 => if c = true then ta σ H1 Q else tb σ H1 Q) : tIf tt ta tb σ H Q := k
theorem wChain (k : ta σ H fun x H1 => tb σ H1 fun y H2 => r x y H2 fun z H3 => ∃ k, z = .bl k ∧ (if k = true then tc σ H3 fun w' H4 => r' y w' H4 Q else Q (.bl false) H3)) : tChain r r' ta tb tc σ H Q := k
theorem wTup (k : tA σ H fun xs H1 => xs.length ≤ sizeLine ∧ Al Q (.tup xs) H1) : tTup tA σ H Q := k
theorem wLst (k : tA σ H fun xs H1 => xs.length ≤ sizeLine ∧ Al Q (.lst xs) H1) : tLst tA σ H Q := k
theorem wDnew (k : Al Q (.dK []) H) : tDNewK σ H Q := k
theorem wSl {r : V → Option Int → Option Int → Hp → VK → Prop} {tl th : TO} (k : te σ H fun x H1 => tl σ H1 fun l H2 => th σ H2 fun u H3 => r x l u H3 Q) : tSl r te tl th σ H Q := k
theorem wPart (k : te σ H fun x H1 => ∃ i, x = .int i ∧ QO (some i) H1) : tPart te σ H QO := k
theorem wNoPart (k : QO none H) : tNoPart σ H QO := k
theorem wBM {T : String} {r : V → List V → Hp → VK → Prop} (k : ta σ H fun x H1 => tyV K T x H1 ∧ tA σ H1 fun xs H2 => r x xs H2 Q) : tBM K T r ta tA σ H Q := k
theorem wBM0 {T : String} {r : V → List V → Hp → VK → Prop} (k : ta σ H fun x H1 => tyV K T x H1 ∧ r x [] H1 Q) : tBM0 K T r ta σ H Q := k
theorem wM0 {r : V → List V → Hp → VK → Prop} (k : ta σ H fun x H1 => (∃ a, x = .str a) ∧ r x [] H1 Q) : tM0 r ta σ H Q := k
theorem wM1 {r : V → List V → Hp → VK → Prop} (k : ta σ H fun x H1 => (∃ a, x = .str a) ∧ tb σ H1 fun y H2 => r x [y] H2 Q) : tM1 r ta tb σ H Q := k
-- statements
theorem wSeq (k : ts { D with nx := us D } σ H) : tSeq ts us D σ H := k
theorem wAsg (k : te σ H fun x H1 => g x σ H1 D.nx) : tAsg te g D σ H := k
theorem wRet (k : te σ H D.rt) : tRet te D σ H := k
theorem wDrop (k : te σ H fun _ H1 => D.nx σ H1) : tDrop te D σ H := k
theorem wIfS (k : tt σ H fun b H1 => if b = true then ts D σ H1 else us D σ H1) : tIfS tt ts us D σ H := k
theorem wNext (k : D.nx σ H) : tNext D σ H := k
theorem wPar {i j : Nat} (k : tA σ H fun vs H1 => ∃ v w, vs = [v, w] ∧ D.nx ((σ.set i (some v)).set j (some w)) H1) : tPar i j tA D σ H := k
variable {QS : L2.St → Hp → Prop} {QH : Hp → Prop}
theorem wName {i : Nat} (k : QS (σ.set i (some v)) H) : gName i v σ H QS := k
theorem wSub {to ti : TE} {t : TSet} (k : to σ H fun o H1 => ti σ H1 fun i H2 => t o i v H2 fun H3 => QS σ H3) : gSub to ti t v σ H QS := k
theorem wGTup {n : Nat} {t : TGs} {a : Addr} {xs : List V} (h : SqT K H a xs) (hl : xs.length = n) (k : t xs σ H QS) : gTup K n t (.ref a) σ H QS := ⟨a, xs, rfl, h, hl, k⟩
theorem wGCons {t : TG} {u : TGs} {vs : List V} (k : t v σ H fun σ' H' => u vs σ' H' QS) : gCons t u (v :: vs) σ H QS := ⟨v, vs, rfl, k⟩
theorem wGNil (k : QS σ H) : gNil [] σ H QS := ⟨rfl, k⟩
-- operations
theorem wI0 {f : Int → Int → V} {i j : Int} (k : Q (f i j) H) : rI0 f (.int i) (.int j) H Q := ⟨i, j, rfl, rfl, k⟩
theorem wI {C : Int → Int → Prop} {f : Int → Int → V} {i j : Int} (c : C i j) (k : Q (f i j) H) : rI C f (.int i) (.int j) H Q := ⟨i, j, rfl, rfl, c, k⟩
theorem wU {f : Int → V} {i : Int} (k : Q (f i) H) : rU f (.int i) H Q := ⟨i, rfl, k⟩
theorem wEq (h : scal x y = true) (k : Q (.bl (decide (x = y))) H) : rEq x y H Q := ⟨h, k⟩
theorem wNe (h : scal x y = true) (k : Q (.bl (!decide (x = y))) H) : rNe x y H Q := ⟨h, k⟩
theorem wIxL {p : Addr} {xs : List V} {i : Int} (h : SqL K H p xs) (ha : atI xs i = some v) (k : Q v H) : rIxL K (.ref p) (.int i) H Q := ⟨p, xs, i, v, rfl, rfl, h, ha, k⟩
theorem wIxT {p : Addr} {xs : List V} {i : Int} (h : SqT K H p xs) (ha : atI xs i = some v) (k : Q v H) : rIxT K (.ref p) (.int i) H Q := ⟨p, xs, i, v, rfl, rfl, h, ha, k⟩
theorem wIxS {z : Str} {i : Int} {c : Nat} (h : z.length ≤ sizeLine) (ha : atI z.cps.toList i = some c) (k : Q (.str ⟨#[c]⟩) H) : rIxS (.str z) (.int i) H Q := ⟨z, i, c, rfl, rfl, h, ha, k⟩
theorem wSetL {p : Addr} {xs : List V} {k : Int} {j : Nat} (h : H p = some (.lst xs)) (hj : ixN xs.length k = some j) (q : QH (upd H p (.lst (xs.set j v)))) : rSetL (.ref p) (.int k) v H QH := ⟨p, xs, k, j, rfl, rfl, h, hj, q⟩
theorem wSlL {a : Addr} {xs : List V} {lo hi : Option Int} (h : SqL K H a xs) (k : Al Q (.lst (cutV xs lo hi)) H) : rSlL K (.ref a) lo hi H Q := ⟨a, xs, rfl, h, k⟩
theorem wSlS {z : Str} {lo hi : Option Int} (h : z.length ≤ sizeLine) (k : Q (.str (cutS z lo hi)) H) : rSlS (.str z) lo hi H Q := ⟨z, rfl, h, k⟩
theorem wAppend {l : Addr} {xs : List V} {y : V} (h : H l = some (.lst xs)) (hl : xs.length ≤ 100000) (k : Q .non (upd H l (.lst (xs ++ [y])))) : rAppend (.ref l) [y] H Q := ⟨l, xs, y, rfl, rfl, h, sz6' hl, k⟩
theorem wAppendI {H0 : Hp} {l : Addr} {xs : List V} {y : V} (h : H l = some (.lst xs)) (hl : xs.length ≤ 100000) (n : H0 l = none) (e : Ex H0 H) (k : ∀ H', Ex H0 H' → Kp l H H' → H' l = some (.lst (xs ++ [y])) → Q .non H') : rAppend (.ref l) [y] H Q :=
  ⟨l, xs, y, rfl, rfl, h, sz6' hl, k _ (e.mut n) Kp.set upd_same⟩
theorem anTyL {l : Addr} {xs : List V} {P : Prop} (h : H l = some (.lst xs)) (k : P) : tyV K "list" (.ref l) H ∧ P := ⟨.inl ⟨rfl, xs, SqL.of h⟩, k⟩
theorem wCat {a b : Addr} {xs ys : List V} (h1 : H a = some (.lst xs)) (h2 : H b = some (.lst ys)) (hl : xs.length + ys.length ≤ sizeLine) (k : Al Q (.lst (xs ++ ys)) H) : rCat (.ref a) (.ref b) H Q := ⟨a, b, xs, ys, rfl, rfl, h1, h2, hl, k⟩
theorem wLenL {a : Addr} {xs : List V} {P : Nat → Prop} (h : SqL K H a xs) (k : P xs.length) : ∃ x n, [V.ref a] = [x] ∧ LenV K x H n ∧ P n := ⟨_, _, rfl, .inl ⟨_, h, rfl⟩, k⟩
theorem wLenT {a : Addr} {xs : List V} {P : Nat → Prop} (h : SqT K H a xs) (k : P xs.length) : ∃ x n, [V.ref a] = [x] ∧ LenV K x H n ∧ P n := ⟨_, _, rfl, .inr ⟨_, h, rfl⟩, k⟩
theorem wLenS {z : Str} {P : Nat → Prop} (h : z.length ≤ sizeLine) (k : P z.length) : ∃ x n, [V.str z] = [x] ∧ LenV K x H n ∧ P n := ⟨_, _, rfl, ⟨h, rfl⟩, k⟩
theorem exI1 {i : Int} {P : Int → Prop} (k : P i) : ∃ j, [V.int i] = [V.int j] ∧ P j := ⟨i, rfl, k⟩
theorem exI2 {i j : Int} {P : Int → Int → Prop} (k : P i j) : ∃ a b, [V.int i, V.int j] = [V.int a, V.int b] ∧ P a b := ⟨i, j, rfl, k⟩
theorem wAll {a : Addr} {bs : List Bool} (h : SqL K H a (bs.map V.bl)) (k : Q (.bl (bs.all id)) H) : rAll K [.ref a] H Q := ⟨a, bs, rfl, h, k⟩
theorem wAny {a : Addr} {bs : List Bool} (h : SqL K H a (bs.map V.bl)) (k : Q (.bl (bs.any id)) H) : rAny K [.ref a] H Q := ⟨a, bs, rfl, h, k⟩
theorem exBl {b : Bool} {P : Bool → Prop} (h : P b) : ∃ k, V.bl b = V.bl k ∧ P k := ⟨b, rfl, h⟩
theorem exInt {i : Int} {P : Int → Prop} (h : P i) : ∃ k, V.int i = V.int k ∧ P k := ⟨i, rfl, h⟩
theorem exStr {z : Str} {P : Str → Prop} (h : P z) : ∃ k, V.str z = V.str k ∧ P k := ⟨z, rfl, h⟩
theorem exSS {a b : Str} {P : Str → Str → Prop} (h : P a b) : ∃ i j, V.str a = V.str i ∧ V.str b = V.str j ∧ P i j := ⟨a, b, rfl, rfl, h⟩
theorem exCS {c : Nat} {b : Str} {P : Nat → Str → Prop} (h : P c b) : ∃ i j, V.str ⟨#[c]⟩ = V.str ⟨#[i]⟩ ∧ V.str b = V.str j ∧ P i j := ⟨c, b, rfl, rfl, h⟩
theorem anSum {a b : Nat} {P : Prop} (h : a + b ≤ sizeLine) (k : P) : a + b ≤ sizeLine ∧ P := ⟨h, k⟩
theorem anStr {z : Str} {P : Prop} (h : P) : (∃ a, V.str z = V.str a) ∧ P := ⟨⟨z, rfl⟩, h⟩
theorem anSz {n : Nat} {P : Prop} (h : n ≤ 100000) (k : P) : n ≤ sizeLine ∧ P := ⟨sz6 h, k⟩
theorem exTwo {v w : V} {P : V → V → Prop} (h : P v w) : ∃ a b, [v, w] = [a, b] ∧ P a b := ⟨v, w, rfl, h⟩
end
/-- a chain's comparison of two ints, of texts -/
theorem wLeS {i j : Str} {H : Hp} {Q : VK} (k : Q (.bl (!decide (j.cps.toList < i.cps.toList))) H) : (fun x y H Q => ∃ i j, x = V.str i ∧ y = V.str j ∧ Q (.bl (!decide (j.cps.toList < i.cps.toList))) H : R2) (.str i) (.str j) H Q := ⟨i, j, rfl, rfl, k⟩

/-! ### small rules of our own -/
/-- a text so many times -/
def rMulS : R2 := fun x y H Q => ∃ (z : Str) (n : Nat), x = .str z ∧ y = .int n ∧ 1 < n ∧ n ≤ 100 ∧ 0 < z.length ∧ z.length ≤ 1000 ∧ ∀ u : Str, u.cps.toList = (List.replicate n z.cps.toList).flatten → Q (.str u) H
theorem fold_cps (z : Str) : ∀ (n : Nat) (a : Array Nat), ((List.replicate n z.cps).foldl (· ++ ·) a).toList = a.toList ++ (List.replicate n z.cps.toList).flatten
  | 0, a => by simp
  | n + 1, a => by
    rw [List.replicate_succ, List.foldl_cons, fold_cps z n, List.replicate_succ, List.flatten_cons, Array.toList_append, List.append_assoc]
theorem op_mulS {X : Cx} : OpR X (binaryOp .Mult) rMulS := by
  intro pins s σ H x y v u Q I rx ry h
  obtain ⟨z, n, rfl, rfl, h1, h2, h3, h4, q⟩ := h
  obtain ⟨t, rfl⟩ := rx
  obtain ⟨t', rfl⟩ := ry
  have e1 : ¬ ((n : Int) < 1) := by omega
  have e2 : ((n : Int) == 1 || z.length == 0) = false := by
    rw [Bool.or_eq_false_iff]
    exact ⟨beq_eq_false_iff_ne.mpr (by omega), beq_eq_false_iff_ne.mpr (by omega)⟩
  have e3 : z.length * n ≤ 1000 * 100 := Nat.mul_le_mul h4 h2
  refine PySem.P.mul_str ?_ (fun _ _ => ?_) (fun _ _ => ?_) ?_
  · rw [decide_eq_false (by omega), decide_eq_false (by omega)]; rfl
  · have e4 : (92233720368547758 : Int) ≤ (2 ^ 63 - 1) / (n : Int) := by
      refine Int.le_ediv_of_mul_le (by omega) ?_
      have : (92233720368547758 : Int) * n ≤ 92233720368547758 * 100 := Int.mul_le_mul_of_nonneg_left (by omega) (by decide)
      omega
    omega
  · show decide (z.length * ((n : Int)).toNat > sizeLine) = false
    rw [Int.toNat_natCast]
    exact decide_eq_false (by have := sz6 (n := z.length * n) (by omega); omega)
  · rw [if_neg e1, e2]
    rw [if_neg (by decide)]
    have e5 : ((List.replicate ((n : Int)).toNat z.cps).foldl (· ++ ·) #[]).toList = (List.replicate n z.cps.toList).flatten := by
      rw [fold_cps, Int.toNat_natCast]
      simp
    refine ⟨?_, ?_⟩
    · have e6 : ((List.replicate ((n : Int)).toNat z.cps).foldl (· ++ ·) #[]).size = n * z.length := by
        rw [← Array.length_toList, e5, List.length_flatten, List.map_replicate, List.sum_replicate_nat]
        rfl
      refine Nat.le_trans (Nat.le_of_eq e6) (sz6 ?_)
      rw [Nat.mul_comm]
      exact e3
    · exact ⟨.str _, H, I.tok _, ⟨_, rfl⟩, q _ e5⟩
/-- // by any number that is not too great -/
def CDivZ (_ j : Int) : Prop := j ≠ 0 ∧ j.natAbs.log2 < 9000
theorem op_fdivZ {X : Cx} : OpR X (binaryOp .FloorDiv) (rI CDivZ fun i j => .int (i.fdiv j)) := opI fun _ _ _ _ _ _ _ hc q => floordiv_int hc.1 q (.inl (PyProof.noPylong_of_log2 hc.2))
theorem divz {i j : Int} {n : Nat} (h : j ≠ 0) (hb : j.natAbs < 2 ^ n) (h0 : 0 < n) (h9 : n ≤ 9000) : CDivZ i j := ⟨h, Nat.lt_of_lt_of_le (PySem.Flt.log2_lt_of h0 hb) h9⟩
theorem wWhile {c : TT} {tb : TS} {D : Ends} {σ : L2.St} {H : Hp} (k : ∃ W : Nat → L2.St → Hp → Prop, (∃ m, W m σ H) ∧ ∀ m σ H, W m σ H →
    c σ H fun b H1 => if b = true then ∃ N : L2.St → Hp → Prop, (∀ σ' H', N σ' H' → ∃ m', m' < m ∧ W m' σ' H') ∧ tb { D with nx := N, ct := N, bk := D.nx } σ H1 else D.nx σ H1) : tWhile c tb D σ H := k
theorem wOrT {K : PySem.W.Frag} {ta tb : TE} {σ : L2.St} {H : Hp} {Q : VK} (k : ta σ H fun x H1 => ∃ k, TruV K x H1 k ∧ if k = true then Q x H1 else tb σ H1 Q) : tOrT K ta tb σ H Q := k
theorem wCut {t u : TS} {D : Ends} {σ : L2.St} {H : Hp} (Mid : L2.St → Hp → Prop) (h : t { D with nx := Mid } σ H) (k : ∀ σ' H', Mid σ' H' → u D σ' H') : C8.tCut t u D σ H := ⟨Mid, h, k⟩
/-- == of things at any depth, by their data -/
theorem wNeD {K : PySem.W.Frag} {H : Hp} {Q : VK} {x y : V} {d e : PyData} (h1 : Dp K H x d) (h2 : Dp K H y e) (s1 : SeqAt.shaped d = true) (s2 : SeqAt.shaped e = true) (k : Q (.bl (!PyData.eqv d e)) H) : rNeD K x y H Q := ⟨d, e, h1, h2, s1, s2, k⟩
theorem wEqD {K : PySem.W.Frag} {H : Hp} {Q : VK} {x y : V} {d e : PyData} (h1 : Dp K H x d) (h2 : Dp K H y e) (s1 : SeqAt.shaped d = true) (s2 : SeqAt.shaped e = true) (k : Q (.bl (PyData.eqv d e)) H) : rEqD K x y H Q := ⟨d, e, h1, h2, s1, s2, k⟩
theorem dpPair {K : PySem.W.Frag} {H : Hp} {a : Addr} {p q : Int} (h : H a = some (.tup [.int p, .int q])) : Dp K H (.ref a) (.tuple [.int p, .int q]) := .tup (SqT.of h) (.cons (.int p) (.cons (.int q) .nil))
theorem eqvPair (p q : Int) : PyData.eqv (.tuple [.int p, .int q]) (.tuple [.int p, .int q]) = true := by
  rw [SeqAt.eqv_refl]
  rfl
/-! ### the library's rules with the written part named (in a comprehension's block it must not hang on the block) -/
section
variable {X : Cx} {K : PySem.W.Frag}
theorem ix_listV (h : X.K = K) : IxR X (rIxL K) := h ▸ ix_list
theorem ix_tupV (h : X.K = K) : IxR X (rIxT K) := h ▸ ix_tup
theorem sl_listV (h : X.K = K) : SlR X (rSlL K) := h ▸ sl_list
theorem sl_tupV (h : X.K = K) : SlR X (rSlA K) := h ▸ sl_tupA
theorem call_isiV (h : X.K = K) : CallR X (.builtin "isinstance") (rIsi K) := h ▸ call_isi
theorem call_lenV (h : X.K = K) : CallR X (.builtin "len") (fun xs H Q => ∃ x n, xs = [x] ∧ LenV K x H n ∧ Q (.int n) H) := h ▸ call_len
theorem cr_allV (h : X.K = K) (hc : X.calm = true) : CallR X (.builtin "all") (rAll K) := h ▸ cr_all hc
theorem cr_anyV (h : X.K = K) (hc : X.calm = true) : CallR X (.builtin "any") (rAny K) := h ▸ cr_any hc
theorem op_in_seqV (h : X.K = K) : OpR X (compareOp .In) (rIn K false) := h ▸ op_in_seq
theorem op_notIn_seqV (h : X.K = K) : OpR X (compareOp .NotIn) (rIn K true) := h ▸ op_notIn_seq
theorem op_eqDV (h : X.K = K) (hu : X.A.units + 64 < cLine) : OpR X (compareOp .Eq) (rEqD K) := h ▸ op_eqD hu
theorem op_neDV (h : X.K = K) (hu : X.A.units + 64 < cLine) : OpR X (compareOp .NotEq) (rNeD K) := h ▸ op_neD hu
theorem op_catTV (h : X.K = K) : OpR X (binaryOp .Add) (rCatA K) := h ▸ op_catA
theorem op_repTV (h : X.K = K) : OpR X (binaryOp .Mult) (rRepT K) := h ▸ op_repT
theorem pi_listV {tg l : Expr} {tl : TE} (h : X.K = K) (hl : PE X l tl) : PI X tg l (iList K tl) := h ▸ pi_list hl
theorem pi_tupV {tg l : Expr} {tl : TE} (h : X.K = K) (hl : PE X l tl) : PI X tg l (iTup K tl) := h ▸ pi_tup hl
theorem pg_tupV {es : List Expr} {k n : Nat} {t : TGs} {pos : Pos} (hK : X.K = K) (hc : X.calm = true) (h : PGs X es t)
    (hn : (assignEach es X.env).length = n) (hst : (assignEach es X.env).findIdx? (·.1) = none := by rfl) : PG X (.Tuple es k pos) (gTup K n t) := hK ▸ pg_tup hc h hn hst
end
section
variable {X : Cx} {CX : CXT} {k n : Nat} {f : Addr} {fd : FuncData} {ps ks : List Str} {sp : Sp} {E : XK} {x : Str} {p pos : Pos} {e : Expr} {es : List Expr} {kws : List Keyword} {t tk : TA} {g : List Value → List Value → List Value} {gV : List V → List V → List V}
/-- f(k = v, ..), by names alone -/
theorem pe_callN0 (F : FnOk X.prog X.w X.K X.mg X.base CX k f fd ps sp) (hr : Room k X.A) (hg : Gl X x) (hm : X.mg x = some (.ref f)) (hk : PySem.W.keepIn X.K (.ref f) = true) (hb : KBn X.K fd ps 0 ks g gV) (hx : Passes CX X E)
    (hkw : PK X kws tk) (hall : (backToKw pos (keywordEach kws X.env)).all (·.1.isSome) = true := by rfl) (hks : (backToKw pos (keywordEach kws X.env)).filterMap (·.1) = ks := by rfl)
    (hdb : (x == ("__debug__" : Str)) = false := by decide)
    (hpl : ((backTo pos (starEach [] X.env)).any (·.1) || (backToKw pos (keywordEach kws X.env)).any (·.1.isNone)) = false := by rfl) :
    PE X (.Call (.Name x p) [] kws pos) (tCallN 0 ks.length sp gV E tNil tk) := by
  refine ⟨fun pins s σ H Q I h => ?_⟩
  refine wpAny_Call_Name_kw (ld_glob I hg hm ?_ hdb)
  refine PySem.W.callWith_KW0 (h₀ := X.base) I.ok.mod.kin hk hall ?_ hpl
  have h : tk σ H fun zs H2 => ([] : List V).length = 0 ∧ zs.length = ks.length ∧ sp (gV [] zs) H2 Q E := h
  refine thn (hkw.run pos pins s σ H _ I h) fun ws s2 ⟨zs, H2, I2, rz, l1, l2, q2⟩ => ⟨I2.kIn, ?_⟩
  rw [hks]
  exact run_fnN (us := []) F hr hb hx I2 .nil rz l1 l2 q2
theorem wCallN {n m : Nat} {σ : L2.St} {H : Hp} {Q : VK} (k : t σ H fun vs H1 => tk σ H1 fun zs H2 => vs.length = n ∧ zs.length = m ∧ sp (gV vs zs) H2 Q E) : tCallN n m sp gV E t tk σ H Q := k
end
/-- the values named in another turn: by the parameters' order -/
def pick {α : Type} (ks : List Nat) (zs : List α) : List α := ks.filterMap fun k => zs[k]?
theorem pick_rel {zs : List V} {ws : List Value} (r : Vals zs ws) : ∀ ks : List Nat, Vals (pick ks zs) (pick ks ws)
  | [] => .nil
  | k :: ks => by
    unfold pick
    cases e : zs[k]? with
    | none =>
      rw [List.filterMap_cons_none e, List.filterMap_cons_none (r.none_of e)]
      exact pick_rel r ks
    | some x =>
      obtain ⟨u, hu, ru⟩ := r.get e
      rw [List.filterMap_cons_some e, List.filterMap_cons_some hu]
      exact .cons ru (pick_rel r ks)
/-- a call by names of a def with defaults (none of them by name alone) -/
theorem kbnD {K : PySem.W.Frag} {x qual : Str} {params : Arguments} {body : List Stmt} {scope : Scope} {dvs : List V} {f : Addr} {fd : FuncData} {ps : List Str} (F : FunD K x qual params body scope dvs [] f fd) (n : Nat) (ks : List Str)
    (g : {α : Type} → List α → List α → List α → List α) (hd : dvs ≠ []) (hrel : ∀ {vs ds zs : List V} {us its ws : List Value}, Vals vs us → Vals ds its → Vals zs ws → Vals (g vs ds zs) (g us its ws))
    (h : ∀ (T : Addr) (kV doc pm : Value) (an : Option Addr) (cdv ct : Value) (us its ws : List Value), us.length = n → its.length = dvs.length → ws.length = ks.length →
      ∃ k, bindArgs (PySem.W.fnOf x qual params body scope (.ref T) kV doc pm an cdv ct) ⟨us, ks.zip ws⟩ = seqItems? (.ref T) >>= k ∧ k (some its.toArray) = pure (ps.zip (g us its ws))) :
    ∃ its : List Value, KBn K fd ps n ks (fun us ws => g us its ws) (fun vs zs => g vs dvs zs) := by
  obtain ⟨oc, od, dV, kV, doc, pm, an, cdv, ct, osl, rfl, lk, hcd, hD, hK⟩ := F.ex
  rcases hD with ⟨e, _⟩ | ⟨_, T, o, its, m, rfl, lT, oT, rT⟩
  · exact absurd e hd
  · refine ⟨its, fun s us ws X l1 l2 => ?_, fun r1 r2 => hrel r1 rT r2⟩
    obtain ⟨k, e1, e2⟩ := h T kV doc pm an cdv ct us its ws l1 rT.length.symm l2
    refine BindsTo.of_looks fun M => ?_
    rw [e1]
    exact looks_items X lT oT (.of_pure e2)
/-- all of its parameters by place -/
theorem bndD {K : PySem.W.Frag} {x qual : Str} {params : Arguments} {body : List Stmt} {scope : Scope} {dvs : List V} {f : Addr} {fd : FuncData} {ps : List Str} (F : FunD K x qual params body scope dvs [] f fd) (hd : dvs ≠ [])
    (h : ∀ (T : Addr) (kV doc pm : Value) (an : Option Addr) (cdv ct : Value) (us its : List Value), us.length = ps.length → its.length = dvs.length →
      ∃ k, bindArgs (PySem.W.fnOf x qual params body scope (.ref T) kV doc pm an cdv ct) ⟨us, []⟩ = seqItems? (.ref T) >>= k ∧ k (some its.toArray) = pure (ps.zip (us ++ its.drop dvs.length))) : Binds K fd ps [] := by
  obtain ⟨ds, r, b⟩ := F.binds1 ps.length dvs.length hd (by omega) h
  rw [List.drop_length] at r
  cases r
  exact b
/-! ### isinstance -/
/-- a value's type by its name -/
inductive Ty (K : PySem.W.Frag) (H : Hp) : V → String → Prop where
  | non : Ty K H .non "NoneType"
  | bl (x : Bool) : Ty K H (.bl x) "bool"
  | int (i : Int) : Ty K H (.int i) "int"
  | str (x : Str) : Ty K H (.str x) "str"
  | lst {a : Addr} {xs : List V} (e : H a = some (.lst xs)) : Ty K H (.ref a) "list"
  | tup {a : Addr} {xs : List V} (e : H a = some (.tup xs)) : Ty K H (.ref a) "tuple"
  | dK {a : Addr} {kvs : List (Key × V)} (e : H a = some (.dK kvs)) : Ty K H (.ref a) "dict"
  | kT {a : Addr} {o : Obj} (e : K.lookup a = some o) (c : o.cls = .type "tuple") : Ty K H (.ref a) "tuple"
theorem Ty.x {K : PySem.W.Frag} {H : Hp} {v : V} {n : String} (h : Ty K H v n) : TyX K H v (.type n) := by
  cases h with
  | non => exact .base .non
  | bl x => exact .base (.bl x)
  | int x => exact .base (.int x)
  | str x => exact .base (.str x)
  | lst e => exact .base (.lst e)
  | tup e => exact .base (.tup e)
  | dK e => exact .base (.dK e)
  | kT e c => exact .kTuple e c
theorem Ty.ex {K : PySem.W.Frag} {H H' : Hp} {v : V} {n : String} (x : Ex H H') (h : Ty K H v n) : Ty K H' v n := by
  cases h with
  | non => exact .non
  | bl x => exact .bl x
  | int x => exact .int x
  | str x => exact .str x
  | lst e => exact .lst (x _ _ e)
  | tup e => exact .tup (x _ _ e)
  | dK e => exact .dK (x _ _ e)
  | kT e c => exact .kT e c
theorem wIsi {K : PySem.W.Frag} {H : Hp} {Q : VK} {v : V} {n T : String} {b : Bool} (h : Ty K H v n) (hb : kitB n T = some b) (k : Q (.bl b) H) : rIsi K [v, .ty T] H Q :=
  ⟨v, .ty T, .type n, .type T, b, rfl, .ty T, h.x, kit_ty hb, k⟩


theorem iteNT {A B : Prop} (h : B) : if (!true) = true then A else B := h
theorem iteNF {A B : Prop} (h : A) : if (!false) = true then A else B := h
def isStr : V → Bool
  | .str _ => true
  | _ => false
theorem Ty.str_is {K : PySem.W.Frag} {H : Hp} {v : V} {n : String} (h : Ty K H v n) : kitB n "str" = some (isStr v) := by
  have e1 : kitB "NoneType" "str" = some false := by decide +kernel
  have e2 : kitB "bool" "str" = some false := by decide +kernel
  have e3 : kitB "int" "str" = some false := by decide +kernel
  have e4 : kitB "str" "str" = some true := by decide +kernel
  have e5 : kitB "list" "str" = some false := by decide +kernel
  have e6 : kitB "tuple" "str" = some false := by decide +kernel
  have e7 : kitB "dict" "str" = some false := by decide +kernel
  cases h <;> first | exact e1 | exact e2 | exact e3 | exact e4 | exact e5 | exact e6 | exact e7
theorem wIsiS {K : PySem.W.Frag} {H : Hp} {Q : VK} {z : Str} (k : Q (.bl true) H) : rIsi K [.str z, .ty "str"] H Q := wIsi (.str z) (by decide +kernel) k
theorem wIsiB {K : PySem.W.Frag} {H : Hp} {Q : VK} {b : Bool} (k : Q (.bl true) H) : rIsi K [.bl b, .ty "bool"] H Q := wIsi (.bl b) (by decide +kernel) k

/-- a thing whose kind is known, a text not too long -/
structure Thing (K : PySem.W.Frag) (H : Hp) (v : V) : Prop where
  ty : ∃ n, Ty K H v n
  sz : ∀ z, v = .str z → z.length ≤ 30000
theorem Thing.ex {K : PySem.W.Frag} {H H' : Hp} {v : V} (e : Ex H H') (t : Thing K H v) : Thing K H' v := ⟨let ⟨n, h⟩ := t.ty; ⟨n, h.ex e⟩, t.sz⟩
section
variable {K : PySem.W.Frag}
theorem Thing.s {z : Str} {H : Hp} (h : z.length ≤ 30000) : Thing K H (.str z) := ⟨⟨_, .str z⟩, fun y e => by cases e; exact h⟩
theorem Thing.i {i : Int} {H : Hp} : Thing K H (.int i) := ⟨⟨_, .int i⟩, fun y e => by cases e⟩
theorem Thing.b {b : Bool} {H : Hp} : Thing K H (.bl b) := ⟨⟨_, .bl b⟩, fun y e => by cases e⟩
theorem Thing.n {H : Hp} : Thing K H .non := ⟨⟨_, .non⟩, fun y e => by cases e⟩
theorem Thing.t {H : Hp} {a : Addr} {xs : List V} (h : H a = some (.tup xs)) : Thing K H (.ref a) := ⟨⟨_, .tup h⟩, fun y e => by cases e⟩
theorem Thing.l {H : Hp} {a : Addr} {xs : List V} (h : H a = some (.lst xs)) : Thing K H (.ref a) := ⟨⟨_, .lst h⟩, fun y e => by cases e⟩
theorem Thing.d {H : Hp} {a : Addr} {kvs : List (Key × V)} (h : H a = some (.dK kvs)) : Thing K H (.ref a) := ⟨⟨_, .dK h⟩, fun y e => by cases e⟩
end

/-! ### loops and comprehensions -/
/-- what a comprehension's reading asks behind its source -/
abbrev LcG (J : It) (g : TG) (tt : TT) (te : TE) (vs : List Nat) (σ : L2.St) (H1 : Hp) (Q : VK) (D : Addr) : Prop :=
  ∃ W : Nat → Nat → Hp → Prop, (∃ m, W 0 m (upd H1 D (.lst []))) ∧ ∀ i m H, W i m H →
    (J.stop i H ∧ Q (.ref D) H) ∨ (J.go i H ∧ ∃ Nx : Hp → Prop, (∀ H', Nx H' → ∃ m', m' < m ∧ W (i + 1) m' H') ∧ ∀ x H', J.yld i H x H' → g x (wipe σ vs) H' fun σ2 H2 => wipe σ2 vs = wipe σ vs ∧ tt σ2 H2 fun b H3 =>
      if b = true then te σ2 H3 fun y H4 => ∃ acc, H4 D = some (.lst acc) ∧ acc.length < sizeLine ∧ Nx (upd H4 D (.lst (acc ++ [y]))) else Nx H3)
abbrev ForG (J : It) (g : TG) (tb : TS) (D : Ends) (σ : L2.St) (H1 : Hp) : Prop :=
  ∃ W : Nat → Nat → L2.St → Hp → Prop, (∃ m, W 0 m σ H1) ∧ ∀ i m σ H, W i m σ H →
    (J.stop i H ∧ D.nx σ H) ∨ (J.go i H ∧ ∃ N : L2.St → Hp → Prop, (∀ σ' H', N σ' H' → ∃ m', m' < m ∧ W (i + 1) m' σ' H') ∧ ∀ x H', J.yld i H x H' → g x σ H' fun σ2 H2 => tb { D with nx := N, ct := N, bk := D.nx } σ2 H2)
section
variable {K : PySem.W.Frag} {wi : TI} {g : TG} {tt : TT} {te tl : TE} {tb : TS} {vs : List Nat} {σ : L2.St} {H H1 : Hp} {Q : VK} {E : Ends} {D : Addr} {ta : TA}
theorem wLc (k : wi σ H fun J H1 => ∀ D, H1 D = none → LcG J g tt te vs σ H1 Q D) : tLc wi g tt te vs σ H Q := k
theorem wFor (k : wi σ H fun J H1 => ForG J g tb E σ H1) : tFor wi g tb E σ H := k
variable {R : It → Hp → Prop}
theorem wIList (k : tl σ H fun x H1 => ∃ a, x = .ref a ∧ (∃ xs, SqL K H1 a xs) ∧ R (Itl K a) H1) : iList K tl σ H R := k
theorem wITup (k : tl σ H fun x H1 => ∃ a, x = .ref a ∧ (∃ xs, SqT K H1 a xs) ∧ R (Itt K a) H1) : iTup K tl σ H R := k
theorem wIStr (k : tl σ H fun x H1 => ∃ z, x = .str z ∧ R (Its z) H1) : iStr tl σ H R := k
theorem wIRng1 (k : ta σ H fun vs H1 => ∃ j : Int, vs = [.int j] ∧ -(2 ^ 62) ≤ j ∧ j < 2 ^ 62 ∧ R (Itr 0 j.toNat) H1) : iRng1 ta σ H R := k
theorem exSq {p : Addr} {xs : List V} {P : Addr → Prop} (h : SqL K H p xs) (k : P p) : ∃ a, V.ref p = V.ref a ∧ (∃ xs, SqL K H a xs) ∧ P a := ⟨p, rfl, ⟨xs, h⟩, k⟩
theorem exSt {p : Addr} {xs : List V} {P : Addr → Prop} (h : SqT K H p xs) (k : P p) : ∃ a, V.ref p = V.ref a ∧ (∃ xs, SqT K H a xs) ∧ P a := ⟨p, rfl, ⟨xs, h⟩, k⟩
theorem exRng {n : Int} {P : Int → Prop} (h0 : -1000000 ≤ n) (h1 : n ≤ 1000000) (k : P n) : ∃ j : Int, [V.int n] = [V.int j] ∧ -(2 ^ 62) ≤ j ∧ j < 2 ^ 62 ∧ P j := ⟨n, rfl, by omega, by omega, k⟩

/-- over a text -/
theorem lc_str {z : Str} {Qd : Hp → Prop} (Pv : Nat → Hp → Prop) (h0 : Pv 0 (upd H1 D (.lst [])))
    (hs : ∀ i c H, z.cps[i]? = some c → Pv i H → g (.str ⟨#[c]⟩) (wipe σ vs) H fun σ2 H2 => wipe σ2 vs = wipe σ vs ∧ tt σ2 H2 fun b H3 =>
      if b = true then te σ2 H3 fun y H4 => ∃ acc, H4 D = some (.lst acc) ∧ acc.length < sizeLine ∧ Pv (i + 1) (upd H4 D (.lst (acc ++ [y]))) else Pv (i + 1) H3) (hd : ∀ H, Pv z.cps.size H → Qd H) :
    ∃ W : Nat → Nat → Hp → Prop, (∃ m, W 0 m (upd H1 D (.lst []))) ∧ ∀ i m H, W i m H →
      ((Its z).stop i H ∧ Qd H) ∨ ((Its z).go i H ∧ ∃ Nx : Hp → Prop, (∀ H', Nx H' → ∃ m', m' < m ∧ W (i + 1) m' H') ∧ ∀ x H', (Its z).yld i H x H' → g x (wipe σ vs) H' fun σ2 H2 => wipe σ2 vs = wipe σ vs ∧ tt σ2 H2 fun b H3 =>
        if b = true then te σ2 H3 fun y H4 => ∃ acc, H4 D = some (.lst acc) ∧ acc.length < sizeLine ∧ Nx (upd H4 D (.lst (acc ++ [y]))) else Nx H3) := by
  refine ⟨fun i m H => m = z.cps.size - i ∧ i ≤ z.cps.size ∧ Pv i H, ⟨z.cps.size, by simp, Nat.zero_le _, h0⟩, ?_⟩
  rintro i m H ⟨rfl, hi, p⟩
  by_cases hlt : i < z.cps.size
  · refine .inr ⟨hlt, Pv (i + 1), fun H' p' => ⟨z.cps.size - (i + 1), by omega, rfl, hlt, p'⟩, fun x H' y => ?_⟩
    obtain ⟨e, c, hc, rfl⟩ := y
    subst e
    exact hs i c _ hc p
  · have e : i = z.cps.size := by omega
    subst e
    exact .inl ⟨Nat.le_refl _, hd H p⟩
/-- the list that a comprehension has made so far: i items, each as R says, the heap as I says -/
structure LcP (I : Hp → Prop) (R : Nat → V → Hp → Prop) (D : Addr) (i : Nat) (H : Hp) : Prop where
  inv : I H
  made : ∃ acc, H D = some (.lst acc) ∧ acc.length = i ∧ ∀ j y, acc[j]? = some y → R j y H
theorem LcP.start {I : Hp → Prop} {R : Nat → V → Hp → Prop} (h : I (upd H1 D (.lst []))) : LcP I R D 0 (upd H1 D (.lst [])) := ⟨h, [], upd_same, rfl, fun j y e => by simp at e⟩
theorem LcP.next {I : Hp → Prop} {R : Nat → V → Hp → Prop} {i : Nat} {y : V} {acc : List V} (hD : H1 D = some (.lst acc)) (hl : acc.length = i) (hi : I (upd H1 D (.lst (acc ++ [y])))) (hR : ∀ j z, acc[j]? = some z → R j z (upd H1 D (.lst (acc ++ [y])))) (hy : R i y (upd H1 D (.lst (acc ++ [y])))) :
    LcP I R D (i + 1) (upd H1 D (.lst (acc ++ [y]))) := by
  refine ⟨hi, acc ++ [y], upd_same, by simp [hl], fun j z e => ?_⟩
  by_cases hj : j < acc.length
  · rw [List.getElem?_append_left hj] at e
    exact hR j z e
  · rw [List.getElem?_append_right (by omega)] at e
    have h0 : j - acc.length = 0 := by
      cases q : j - acc.length with
      | zero => rfl
      | succ n => rw [q] at e; simp at e
    rw [h0] at e
    have e1 : y = z := by simpa using e
    have e2 : j = i := by omega
    rw [← e1, e2]
    exact hy
theorem lcStr {z : Str} {slot : Nat} (I : Hp → Prop) (R : Nat → V → Hp → Prop) (hz : z.cps.size ≤ 100000) (hw : ∀ c, wipe ((wipe σ vs).set slot (some c)) vs = wipe σ vs) (h0 : I (upd H1 D (.lst [])))
    (hs : ∀ i c, z.cps[i]? = some c → ∀ H acc, I H → H D = some (.lst acc) → acc.length = i → (∀ j y, acc[j]? = some y → R j y H) →
      te ((wipe σ vs).set slot (some (.str ⟨#[c]⟩))) H fun y H' => ∃ acc', H' D = some (.lst acc') ∧ acc'.length < sizeLine ∧ LcP I R D (i + 1) (upd H' D (.lst (acc' ++ [y]))))
    (k : ∀ H ys, I H → H D = some (.lst ys) → ys.length = z.cps.size → (∀ j y, ys[j]? = some y → R j y H) → Q (.ref D) H) : LcG (Its z) (gName slot) tYes te vs σ H1 Q D := by
  refine lc_str (LcP I R D) (.start h0) (fun i c H hc P => ?_) (fun H P => ?_)
  · obtain ⟨hI, acc, hD, hl, hR⟩ := P
    exact ⟨hw _, hs i c hc H acc hI hD hl hR⟩
  · obtain ⟨hI, acc, hD, hl, hR⟩ := P
    exact k H acc hI hD hl hR
theorem lcList {a : Addr} {xs : List V} {slot : Nat} (I : Hp → Prop) (R : Nat → V → Hp → Prop) (hw : ∀ c, wipe ((wipe σ vs).set slot (some c)) vs = wipe σ vs) (h0 : I (upd H1 D (.lst []))) (hS : ∀ H, I H → SqL K H a xs)
    (hs : ∀ i x, xs[i]? = some x → ∀ H acc, I H → H D = some (.lst acc) → acc.length = i → (∀ j y, acc[j]? = some y → R j y H) →
      te ((wipe σ vs).set slot (some x)) H fun y H' => ∃ acc', H' D = some (.lst acc') ∧ acc'.length < sizeLine ∧ LcP I R D (i + 1) (upd H' D (.lst (acc' ++ [y]))))
    (k : ∀ H ys, I H → H D = some (.lst ys) → ys.length = xs.length → (∀ j y, ys[j]? = some y → R j y H) → Q (.ref D) H) : LcG (Itl K a) (gName slot) tYes te vs σ H1 Q D := by
  refine lc_list (K := K) (a := a) (xs := xs) (LcP I R D) (.start h0) (fun i H _ P => hS H P.inv) (fun i x H hx P => ?_) (fun H P => ?_)
  · obtain ⟨hI, acc, hD, hl, hR⟩ := P
    exact ⟨hw _, hs i x hx H acc hI hD hl hR⟩
  · obtain ⟨hI, acc, hD, hl, hR⟩ := P
    exact k H acc hI hD hl hR
theorem lcListG {a : Addr} {xs : List V} (I : Hp → Prop) (R : Nat → V → Hp → Prop) (h0 : I (upd H1 D (.lst []))) (hS : ∀ H, I H → SqL K H a xs)
    (hs : ∀ i x, xs[i]? = some x → ∀ H acc, I H → H D = some (.lst acc) → acc.length = i → (∀ j y, acc[j]? = some y → R j y H) →
      g x (wipe σ vs) H fun σ2 H2 => wipe σ2 vs = wipe σ vs ∧ te σ2 H2 fun y H' => ∃ acc', H' D = some (.lst acc') ∧ acc'.length < sizeLine ∧ LcP I R D (i + 1) (upd H' D (.lst (acc' ++ [y]))))
    (k : ∀ H ys, I H → H D = some (.lst ys) → ys.length = xs.length → (∀ j y, ys[j]? = some y → R j y H) → Q (.ref D) H) : LcG (Itl K a) g tYes te vs σ H1 Q D := by
  refine lc_list (K := K) (a := a) (xs := xs) (LcP I R D) (.start h0) (fun i H _ P => hS H P.inv) (fun i x H hx P => ?_) (fun H P => ?_)
  · obtain ⟨hI, acc, hD, hl, hR⟩ := P
    exact hs i x hx H acc hI hD hl hR
  · obtain ⟨hI, acc, hD, hl, hR⟩ := P
    exact k H acc hI hD hl hR
theorem lcTup {a : Addr} {xs : List V} {slot : Nat} (I : Hp → Prop) (R : Nat → V → Hp → Prop) (hw : ∀ c, wipe ((wipe σ vs).set slot (some c)) vs = wipe σ vs) (h0 : I (upd H1 D (.lst []))) (hS : ∀ H, I H → SqT K H a xs)
    (hs : ∀ i x, xs[i]? = some x → ∀ H acc, I H → H D = some (.lst acc) → acc.length = i → (∀ j y, acc[j]? = some y → R j y H) →
      te ((wipe σ vs).set slot (some x)) H fun y H' => ∃ acc', H' D = some (.lst acc') ∧ acc'.length < sizeLine ∧ LcP I R D (i + 1) (upd H' D (.lst (acc' ++ [y]))))
    (k : ∀ H ys, I H → H D = some (.lst ys) → ys.length = xs.length → (∀ j y, ys[j]? = some y → R j y H) → Q (.ref D) H) : LcG (Itt K a) (gName slot) tYes te vs σ H1 Q D := by
  refine lc_tup (K := K) (a := a) (xs := xs) (LcP I R D) (.start h0) (fun i H _ P => hS H P.inv) (fun i x H hx P => ?_) (fun H P => ?_)
  · obtain ⟨hI, acc, hD, hl, hR⟩ := P
    exact ⟨hw _, hs i x hx H acc hI hD hl hR⟩
  · obtain ⟨hI, acc, hD, hl, hR⟩ := P
    exact k H acc hI hD hl hR
theorem lcRng {n : Nat} {slot : Nat} (I : Hp → Prop) (R : Nat → V → Hp → Prop) (hw : ∀ c, wipe ((wipe σ vs).set slot (some c)) vs = wipe σ vs) (h0 : I (upd H1 D (.lst [])))
    (hs : ∀ i, i < n → ∀ H acc, I H → H D = some (.lst acc) → acc.length = i → (∀ j y, acc[j]? = some y → R j y H) →
      te ((wipe σ vs).set slot (some (.int (0 + i)))) H fun y H' => ∃ acc', H' D = some (.lst acc') ∧ acc'.length < sizeLine ∧ LcP I R D (i + 1) (upd H' D (.lst (acc' ++ [y]))))
    (k : ∀ H ys, I H → H D = some (.lst ys) → ys.length = n → (∀ j y, ys[j]? = some y → R j y H) → Q (.ref D) H) : LcG (Itr 0 n) (gName slot) tYes te vs σ H1 Q D := by
  refine lc_range (lo := 0) (n := n) (LcP I R D) (.start h0) (fun i H hx P => ?_) (fun H P => ?_)
  · obtain ⟨hI, acc, hD, hl, hR⟩ := P
    exact ⟨hw _, hs i hx H acc hI hD hl hR⟩
  · obtain ⟨hI, acc, hD, hl, hR⟩ := P
    exact k H acc hI hD hl hR
theorem lcAdd {I : Hp → Prop} {R : Nat → V → Hp → Prop} {i : Nat} {y : V} {acc : List V} (hD : H1 D = some (.lst acc)) (hl : acc.length = i) (hi : i ≤ 100000) (hI : I (upd H1 D (.lst (acc ++ [y])))) (hR : ∀ j z, acc[j]? = some z → R j z (upd H1 D (.lst (acc ++ [y])))) (hy : R i y (upd H1 D (.lst (acc ++ [y])))) :
    ∃ acc', H1 D = some (.lst acc') ∧ acc'.length < sizeLine ∧ LcP I R D (i + 1) (upd H1 D (.lst (acc' ++ [y]))) := ⟨acc, hD, sz6' (by omega), .next hD hl hI hR hy⟩
end

theorem at_ex {α : Type} {xs : List α} {i : Int} (h0 : 0 ≤ i) (h1 : i < xs.length) : ∃ v, atI xs i = some v ∧ v ∈ xs := by
  have h : i.toNat < xs.length := by omega
  refine ⟨xs[i.toNat], ?_, List.getElem_mem h⟩
  have e : ((i.toNat : Nat) : Int) = i := by omega
  have q := atI_nat (xs := xs) (j := i.toNat) (List.getElem?_eq_getElem h)
  rw [e] at q
  exact q
theorem join_cps : ∀ ys : List Str, (Str.join ⟨#[]⟩ ys).cps.toList = (ys.map fun y => y.cps.toList).flatten
  | [] => rfl
  | [x] => by
    show x.cps.toList = _
    simp
  | x :: y :: r => by
    show ((x.cps ++ #[]) ++ (Str.join ⟨#[]⟩ (y :: r)).cps).toList = _
    rw [Array.toList_append, join_cps (y :: r)]
    simp
/-- texts of one sign, joined -/
theorem join_ones {ys : List V} {P : Nat → Prop} (h : ∀ (j : Nat) y, ys[j]? = some y → ∃ c, P c ∧ y = .str ⟨#[c]⟩) : ∃ cs : List Nat, cs.length = ys.length ∧ (∀ c ∈ cs, P c) ∧ ys = (cs.map fun c => (⟨#[c]⟩ : Str)).map V.str := by
  induction ys with
  | nil => exact ⟨[], rfl, List.forall_mem_nil _, rfl⟩
  | cons y r ih =>
    obtain ⟨c, hc, rfl⟩ := h 0 y rfl
    obtain ⟨cs, h1, h2, h3⟩ := ih fun j z e => h (j + 1) z e
    refine ⟨c :: cs, congrArg Nat.succ h1, fun d hd => ?_, ?_⟩
    · rcases List.mem_cons.mp hd with e | hd
      · rw [e]; exact hc
      · exact h2 d hd
    · rw [h3]
      rfl
theorem ones_cps (cs : List Nat) : (Str.join ⟨#[]⟩ (cs.map fun c => (⟨#[c]⟩ : Str))).cps.toList = cs := by
  rw [join_cps]
  induction cs with
  | nil => rfl
  | cons c r ih =>
    simp only [List.map_cons, List.flatten_cons] at ih ⊢
    rw [ih]
    rfl
theorem ones_sum (cs : List Nat) : ((cs.map fun c => (⟨#[c]⟩ : Str)).map (·.length)).sum = cs.length := by
  induction cs with
  | nil => rfl
  | cons c r ih =>
    simp only [List.map_cons, List.sum_cons] at ih ⊢
    rw [ih]
    show 1 + r.length = r.length + 1
    omega
theorem app_len (x y : Str) : (x ++ y).length = x.length + y.length := by
  show (x.cps ++ y.cps).size = x.cps.size + y.cps.size
  exact Array.size_append
theorem rep_len {u z : Str} {n : Nat} (h : u.cps.toList = (List.replicate n z.cps.toList).flatten) : u.length = n * z.length := by
  show u.cps.size = n * z.cps.size
  rw [← Array.length_toList, h, List.length_flatten, List.map_replicate, List.sum_replicate_nat, Array.length_toList]
theorem all_true {ys : List V} (h : ∀ (j : Nat) y, ys[j]? = some y → y = .bl true) : ∃ bs : List Bool, ys = bs.map V.bl ∧ bs.all id = true := by
  refine ⟨ys.map fun _ => true, ?_, by simp⟩
  rw [List.map_map]
  refine List.ext_getElem? fun j => ?_
  rw [List.getElem?_map]
  cases e : ys[j]? with
  | none => rfl
  | some y => rw [h j y e]; rfl
end Ver
/-! Rules for laws about deeds and books: a tuple beside the empty one, displays of dicts, zips. -/
namespace Ver
open PySem PySem.Spec PyProof.Rows L2
/-- t == (), t any tuple -/
def rEqE (K : PySem.W.Frag) : R2 := fun x y H Q => ∃ a b xs, x = .ref a ∧ y = .ref b ∧ SqT K H a xs ∧ SqT K H b [] ∧ Q (.bl (decide (xs = []))) H
theorem op_eqEV {X : Cx} {K : PySem.W.Frag} (hK : X.K = K) (hu : X.A.units + 64 < cLine) : OpR X (compareOp .Eq) (rEqE K) := by
  subst hK
  intro pins s σ H x y v u Q I rx ry h
  obtain ⟨a, b, xs, rfl, rfl, ha, hb, q⟩ := h
  cases rx
  cases ry
  obtain ⟨its, r1, p1, _⟩ := I.tuple ha
  obtain ⟨its2, r2, p2, _⟩ := I.tuple hb
  cases r2
  refine SeqAt.eq_tupleAt (e := fun _ => true) p1 p2 (by omega) (fun j _ h2 => absurd h2 (by simp)) ⟨.bl (decide (xs = [])), H, I, ?_, q⟩
  have hl := r1.length
  show Value.bool _ = Value.bool _
  congr 1
  cases xs with
  | nil =>
    cases r1
    rfl
  | cons z zs =>
    cases r1 with
    | cons _ _ => simp
theorem call_list_ofV {X : Cx} {K : PySem.W.Frag} (h : X.K = K) : CallR X (.type "list") (fun xs H Q => ∃ p ys, xs = [.ref p] ∧ (SqL K H p ys ∨ SqT K H p ys) ∧ ∀ l, H l = none → Q (.ref l) (upd H l (.lst ys))) := h ▸ call_list_of
theorem call_tuple_ofV {X : Cx} {K : PySem.W.Frag} (h : X.K = K) : CallR X (.type "tuple") (fun xs H Q => ∃ p ys, xs = [.ref p] ∧ ((SqL K H p ys ∧ ∀ l, H l = none → Q (.ref l) (upd H l (.tup ys))) ∨ (SqT K H p ys ∧ Q (.ref p) H))) := h ▸ call_tuple_of
section
variable {K : PySem.W.Frag} {σ : L2.St} {H : Hp} {Q : VK} {td ty te : TE} {trs : List (TE × TE)}
theorem wDGet (k : td σ H fun x H1 => ty σ H1 fun y H2 => ∃ a v, x = .ref a ∧ DGet H2 a y (some v) ∧ Q v H2) : tDGet td ty σ H Q := k
theorem wDIn (k : ty σ H fun y H1 => td σ H1 fun x H2 => ∃ a o, x = .ref a ∧ DGet H2 a y o ∧ Q (.bl o.isSome) H2) : tDIn ty td σ H Q := k
theorem wDNotIn (k : ty σ H fun y H1 => td σ H1 fun x H2 => ∃ a o, x = .ref a ∧ DGet H2 a y o ∧ Q (.bl (!o.isSome)) H2) : tDNotIn ty td σ H Q := k
theorem wPairs {P : List (V × V) → Hp → Prop} {tk tv : TE} (k : tk σ H fun x H1 => tv σ H1 fun y H2 => tPairs trs σ H2 fun ps H3 => P ((x, y) :: ps) H3) : tPairs ((tk, tv) :: trs) σ H P := k
theorem wPairs0 {P : List (V × V) → Hp → Prop} (k : P [] H) : tPairs [] σ H P := k
theorem wPar3 {i j l : Nat} {ta : TA} {D : Ends} (k : ta σ H fun vs H1 => ∃ u v w, vs = [u, v, w] ∧ D.nx (((σ.set i (some u)).set j (some v)).set l (some w)) H1) : tPar3 i j l ta D σ H := k
theorem exThree {u v w : V} {P : V → V → V → Prop} (h : P u v w) : ∃ a b c, [u, v, w] = [a, b, c] ∧ P a b c := ⟨u, v, w, rfl, h⟩
theorem wEqE {a b : Addr} {xs : List V} (h : SqT K H a xs) (h0 : SqT K H b []) (k : Q (.bl (decide (xs = []))) H) : rEqE K (.ref a) (.ref b) H Q := ⟨a, b, xs, rfl, rfl, h, h0, k⟩
end
theorem tuple_mul1 (l : Addr) (items : Array Value) (n : Nat) (dd : Option Addr) (sl : Array (Option Value)) (u : Tok) :
    Meets (Builtin.«tuple.__mul__» ⟨[.ref l, .int 1 u], []⟩) (fun _ R s => s.heap.get? l = some { cls := .type "tuple", dict := dd, data := .seq items n, slots := sl } ∧ R (.ok (.ret (Value.ref l))) s) :=
  .of_wp fun prog w A R s h => by
    obtain ⟨hp, g, d, tk, os⟩ := s
    obtain ⟨hl, h⟩ := h
    have f1 := AutoSeq1.idx_int
    wp_walk using wpAny_loadPart' hl
    exact ⟨_, rfl, h⟩
theorem tuple_mul0 (l : Addr) (items : Array Value) (n : Nat) (dd : Option Addr) (sl : Array (Option Value)) (x : Int) (u : Tok) (c0 : (decide (x < -(2 ^ 63)) || decide (x ≥ 2 ^ 63)) = false) (c1 : (items.isEmpty || x == 1) = false) (c2 : (decide (x ≤ 0) || items.isEmpty) = true) :
    Meets (Builtin.«tuple.__mul__» ⟨[.ref l, .int x u], []⟩) (fun _ R s => s.heap.get? l = some { cls := .type "tuple", dict := dd, data := .seq items n, slots := sl } ∧
      R (.ok (.ret (Value.ref s.heap.objs.size))) { s with heap := s.heap.push { cls := Value.type "tuple", data := Data.seq #[] }, toks := s.toks }) :=
  .of_wp fun prog w A R s h => by
    obtain ⟨hp, g, d, tk, os⟩ := s
    obtain ⟨hl, h⟩ := h
    have f1 := AutoSeq1.idx_int
    wp_walk using wpAny_loadPart' hl
    repeat (first
      | (refine wpAny_ite_false (decide_eq_false (by rw [c0]; exact Bool.false_ne_true)) ?_; wp_walk using wpAny_loadPart' hl)
      | (refine wpAny_ite_false (decide_eq_false (by rw [c1]; exact Bool.false_ne_true)) ?_; wp_walk using wpAny_loadPart' hl)
      | (refine wpAny_ite_true (decide_eq_true c2) ?_; wp_walk using wpAny_loadPart' hl))
    exact ⟨_, rfl, h⟩
/-- a tuple once, or not at all -/
def rRepT01 (K : PySem.W.Frag) : R2 := fun x y H Q => ∃ l k xs, x = .ref l ∧ y = .int k ∧ SqT K H l xs ∧ xs ≠ [] ∧ (k = 1 → Q (.ref l) H) ∧ (k = 0 → ∀ p, H p = none → Q (.ref p) (upd H p (.tup []))) ∧ (k = 0 ∨ k = 1)
theorem op_repT01V {X : Cx} {K : PySem.W.Frag} (hK : X.K = K) : OpR X (binaryOp .Mult) (rRepT01 K) := by
  subst hK
  intro pins s σ H x y v u Q I rx ry h
  obtain ⟨l, k, xs, rfl, rfl, hT, hne, q1, q0, hk⟩ := h
  cases rx
  obtain ⟨t, rfl⟩ := ry
  obtain ⟨its, r, ⟨⟨cls, dd, data, sl⟩, ho, hc, n, hd⟩, hs⟩ := I.tuple hT
  simp only at hc hd
  subst hc hd
  have hn : its.toArray.isEmpty = false := by
    cases r with
    | nil => exact absurd rfl hne
    | cons _ _ => rfl
  rcases hk with rfl | rfl
  · refine wpAny_binaryOp_repeat_ref (T := "tuple") (U := "int") (by decide) ⟨_, ho, rfl⟩ (fun s' => typeIs_int s' 0 t) noFill_tuple_mul F.fills_int_mul F.slot_int_rmul repeat_tuple F.slot_int_index.lookup
      (call_meets F.slot_int_rmul (typeIs_int s 0 t) F.entry_int_rmul (F.args_int_rmul_2 _ _) (int_rmul_tuple 0 t l its.toArray n dd sl)
        ⟨ho, rfl, ⟨_, ho, rfl⟩, call_meets F.slot_tuple_mul ⟨_, ho, rfl⟩ F.entry_tuple_mul (F.args_tuple_mul_2 _ _) (tuple_mul0 l its.toArray n dd sl 0 t (by decide) (by rw [hn]; rfl) (by rfl)) ⟨ho, ?_⟩⟩)
    exact ⟨.ref s.heap.objs.size, _, I.laid (t' := s.toks) (o := .tup []) (fun b ob q => Heap.get?_push_of_some _ q) (Nat.le_refl _) ⟨by show 0 ≤ sizeLine; decide, [], .nil, IsTup.new _ _⟩, rfl, q0 rfl _ (I.hok.fresh (Nat.le_refl _))⟩
  · refine wpAny_binaryOp_repeat_ref (T := "tuple") (U := "int") (by decide) ⟨_, ho, rfl⟩ (fun s' => typeIs_int s' 1 t) noFill_tuple_mul F.fills_int_mul F.slot_int_rmul repeat_tuple F.slot_int_index.lookup
      (call_meets F.slot_int_rmul (typeIs_int s 1 t) F.entry_int_rmul (F.args_int_rmul_2 _ _) (int_rmul_tuple 1 t l its.toArray n dd sl)
        ⟨ho, rfl, ⟨_, ho, rfl⟩, call_meets F.slot_tuple_mul ⟨_, ho, rfl⟩ F.entry_tuple_mul (F.args_tuple_mul_2 _ _) (tuple_mul1 l its.toArray n dd sl t) ⟨ho, ?_⟩⟩)
    exact ⟨.ref l, H, I, rfl, q1 rfl⟩
end Ver
/-! t[::-1] of a tuple. -/
namespace Ver
open PySem PySem.Spec PyProof.Rows L2
section
variable {prog : Program} {w : World} {A : Around} {E : Value → Shared → Prop} {s : Shared}
theorem back_places (n : Nat) : Builtin.Slice.slicePlaces ((n : Int) - 1) (-1) (-1) = n := by
  unfold Builtin.Slice.slicePlaces
  have no : ¬ ((-1 : Int) > 0) := by decide
  by_cases z : n = 0
  · subst z; decide
  · simp only [no, if_false]
    rw [if_pos (by omega), show (- -1 : Int) = 1 by decide, Int.ediv_one]
    omega
theorem back_adjust (n : Nat) : Builtin.Slice.sliceAdjust none none (-1) (n : Int) = ((n : Int) - 1, -1) := by
  unfold Builtin.Slice.sliceAdjust
  first
    | rfl
    | simp
theorem applied_back {sl : Addr} {vl vu vs : Value} {n : Nat} {Q : Int × Int × Nat → Shared → Prop} (sl_at : s.heap.IsSliceOf sl vl vu vs) (pl : IsPart vl none) (pu : IsPart vu none) (ps : IsPart vs (some (-1)))
    (k : Q ((n : Int) - 1, -1, n) s) : wpAny (model prog w) A (Builtin.Slice.sliceApplied (.ref sl) (pure (n : Int))) Q E s := by
  obtain ⟨o, h1, _, h3⟩ := sl_at
  unfold Builtin.Slice.sliceApplied Builtin.Slice.sliceFields
  refine wpAny_bind (wpAny_bind (wpAny_field h1 h3 (x := vl) rfl ?_))
  refine wpAny_bind (wpAny_field h1 h3 (x := vu) rfl ?_)
  refine wpAny_bind (wpAny_field h1 h3 (x := vs) rfl (wpAny_pure ?_))
  refine wpAny_bind (HT.slicePart_ ps ?_)
  show wpAny _ _ (if ((-1 : Int) == 0) = true then _ else _) _ _ s
  rw [if_neg (by decide)]
  refine wpAny_bind (HT.slicePart_ pl ?_)
  refine wpAny_bind (HT.slicePart_ pu (wpAny_bind (wpAny_pure ?_)))
  show wpAny _ _ (match Builtin.Slice.sliceAdjust none none (-1) (n : Int) with | (lo, hi) => pure (lo, (-1 : Int), Builtin.Slice.slicePlaces lo hi (-1))) _ _ s
  rw [back_adjust]
  show wpAny _ _ (pure ((n : Int) - 1, (-1 : Int), Builtin.Slice.slicePlaces ((n : Int) - 1) (-1) (-1))) _ _ s
  rw [back_places]
  exact wpAny_pure k
theorem pick_same {α β : Type} {f g : α → Option β} : ∀ {l : List α}, (∀ a ∈ l, f a = g a) → l.filterMap f = l.filterMap g
  | [], _ => rfl
  | a :: r, h => by
    rw [List.filterMap_cons, List.filterMap_cons, h a List.mem_cons_self, pick_same fun b hb => h b (List.mem_cons_of_mem _ hb)]
theorem back_pick (xs : Array Value) : ((List.range xs.size).filterMap fun (m : Nat) => xs[((xs.size : Int) - 1 + (m : Int) * -1).toNat]?) = xs.toList.reverse := by
  have h := PySem.W.krv_all xs
  rw [← h, ← List.filterMap_reverse, ← PySem.W.krv_range, List.filterMap_map]
  refine pick_same fun m hm => ?_
  have := List.mem_range.mp hm
  have e : ((xs.size : Int) - 1 + (m : Int) * -1).toNat = xs.size - 1 - m := by omega
  show xs[_]? = xs[_]?
  rw [e]
theorem getItem_back {t sl : Addr} {items : Array Value} {vl vu vs : Value} {Q : Value → Shared → Prop} (tup : IsTup s.heap t items) (sl_at : s.heap.IsSliceOf sl vl vu vs) (pl : IsPart vl none) (pu : IsPart vu none) (ps : IsPart vs (some (-1)))
    (k : Q (.ref s.heap.objs.size) { s with heap := s.heap.push { cls := .type "tuple", data := .seq items.toList.reverse.toArray } }) (size : items.size ≤ sizeLine) : wpAny (model prog w) A (getItem (.ref t) (.ref sl)) Q E s := by
  have fits : sizeOk (.seq items.toList.reverse.toArray) := by
    show items.toList.reverse.toArray.size ≤ sizeLine
    simpa using size
  have ty : s.TypeIs (.ref sl) "slice" := sl_at.elim fun o h => ⟨o, h.1, h.2.1⟩
  unfold getItem
  try with_reducible refine wpAny_holding ?_
  try refine wpAny_bind (wpAny_pure ?_)
  refine wpAny_bind (wpAny_sequenceKey tup.typeIs (by decide) ?_)
  have slot := PyProof.Rows.slot_tuple_getitem
  refine wpAny_bind (wpAny_callSpecial?_slot (name := Str.ofString "__getitem__") tup.typeIs slot ?_)
  refine wpAny_call_entry slot tup.typeIs entry_tuple_getitem ?_ (args_tuple_getitem _ _)
  show wpAny _ _ (Builtin.Tuple.tupleItemsOf (.ref t) >>= _) _ _ s
  refine wpAny_bind (tupleItemsOf_ tup (wpAny_bind (wpAny_typeOf ty ?_)))
  rw [if_pos (by decide)]
  refine wpAny_bind (applied_back sl_at pl pu ps ?_)
  have no : ¬ ((((items.size : Int) - 1) == 0 && (-1 : Int) == 1 && items.size == items.size) = true) := by simp
  show wpAny _ _ (if (((items.size : Int) - 1) == 0 && (-1 : Int) == 1 && items.size == items.size) = true then _ else _) _ _ s
  rw [if_neg no, back_pick]
  first
    | exact wpAny_bind (m := Builtin.Tuple.tupleExact _) (wpAny_newObj_type (wpAny_pure ⟨_, rfl, wpAny_pure k⟩) fits)
    | exact wpAny_bind (wpAny_bind (m := Builtin.Tuple.tupleExact _) (wpAny_newObj_type (wpAny_pure ⟨_, rfl, wpAny_pure k⟩) fits))
end
def tRevT (K : PySem.W.Frag) (te : TE) : TE := fun σ H Q => te σ H fun x H1 => ∃ a xs, x = .ref a ∧ SqT K H1 a xs ∧ ∀ p, H1 p = none → Q (.ref p) (upd H1 p (.tup xs.reverse))
theorem pe_revT {X : Cx} {K : PySem.W.Frag} {e : Expr} {te : TE} {k : Nat} {p1 p2 p3 pos : Pos} (hK : X.K = K) (he : PE X e te) : PE X (.Subscript e (.Slice none none (some (.UnaryOp .USub (.Constant (.int 1) k p1) p2)) p3) pos) (tRevT K te) := by
  subst hK
  constructor
  intro pins s σ H Q I want
  refine Subscript_ (thn (he.run pins s σ H _ I want) ?_)
  rintro v s1 ⟨x, H1, I1, r1, a, xs, rfl, at_, q⟩
  cases r1
  have step : PO X (some (.UnaryOp .USub (.Constant (.int 1) k p1) p2)) (tPart (tUn (rU fun i => .int (-i)) (tC (.int 1)))) := po_some (pe_un un_neg pe_int)
  refine wpAny_Slice (thn (po_none.run pins s1 σ H1 (fun o G => o = none ∧ G = H1) I1 ⟨rfl, rfl⟩) ?_)
  rintro vl s2 ⟨_, _, I2, pl, rfl, rfl⟩
  refine thn (po_none.run pins s2 σ _ (fun o G => o = none ∧ G = _) I2 ⟨rfl, rfl⟩) ?_
  rintro vu s3 ⟨_, _, I3, pu, rfl, rfl⟩
  refine thn (step.run pins s3 σ _ (fun o G => o = some (-1) ∧ G = _) I3 ⟨1, rfl, -1, rfl, rfl, rfl⟩) ?_
  rintro vs s4 ⟨_, G, I4, ps, rfl, rfl⟩
  have I5 := I4.kept (t' := s4.toks) (h' := s4.heap.push { cls := .type "slice", data := .fields #[vl, vu, vs] }) fun b o z => Heap.get?_push_of_some _ z
  obtain ⟨its, r, tup, size⟩ := I5.tuple at_
  have len := r.length
  refine tail_any (ops := [.ref a, .ref s4.heap.objs.size]) tup.typeIs (PyProof.Rows.slot_tuple_getitem.lookup) ?_ (by with_unfolding_all rfl)
  refine getItem_back tup (Heap.IsSliceOf.new _ vl vu vs) pl pu ps ?_ (by rw [List.size_toArray]; omega)
  refine ⟨.ref _, _, I5.laid (t' := s4.toks) (o := .tup xs.reverse) (fun b o z => Heap.get?_push_of_some _ z) (Nat.le_refl _) ?_, rfl, q _ (I5.hok.fresh (Nat.le_refl _))⟩
  exact ⟨by rw [List.length_reverse]; exact size, its.reverse, r.reverse, IsTup.new _ _⟩
end Ver
/-! What repr shows of nested things, and the defs that are run where no repr is under way. -/
namespace Ver
open PySem PySem.Spec PyProof.Rows L2

/-! ### what repr shows -/
mutual
/-- v is shown as d: l tells whether lists may stand in it (else dicts may), k bounds its depth, n the length of its text -/
inductive Rp (H : Hp) (l : Bool) : Nat → V → PyData → Nat → Prop
  | non {k} : Rp H l k .non .none 4
  | bl {k} (b : Bool) : Rp H l k (.bl b) (.bool b) 5
  | int {k} (i : Int) (h : i.natAbs < 10 ^ 300) : Rp H l k (.int i) (.int i) 301
  | str {k} (z : Str) (h : ∀ c ∈ z.cps.toList, c < 16 ^ 8) : Rp H l k (.str z) (.str z) (10 * z.length + 2)
  | tup {k a xs ds n} : H a = some (.tup xs) → RpA H l k xs ds n → Rp H l (k + 1) (.ref a) (.tuple ds) (n + 4)
  | lst {k a xs ds n} : l = true → H a = some (.lst xs) → RpA H l k xs ds n → Rp H l (k + 1) (.ref a) (.list ds) (n + 4)
  | dct {k a kvs ds n} : l = false → H a = some (.dK kvs) → RpD H l k kvs ds n → Rp H l (k + 1) (.ref a) (.dict ds) (n + 4)
inductive RpA (H : Hp) (l : Bool) : Nat → List V → List PyData → Nat → Prop
  | nil {k} : RpA H l k [] [] 0
  | cons {k x d n xs ds m} : Rp H l k x d n → RpA H l k xs ds m → RpA H l k (x :: xs) (d :: ds) (n + 2 + m)
inductive RpD (H : Hp) (l : Bool) : Nat → List (Key × V) → List (PyData × PyData) → Nat → Prop
  | nil {k} : RpD H l k [] [] 0
  | cons {k y e o x d n xs ds m} : Rp H l k (kV y) e o → Rp H l k x d n → RpD H l k xs ds m → RpD H l k ((y, x) :: xs) ((e, d) :: ds) (o + 2 + n + 2 + m)
end

theorem tupleText_le (ts : List Str) : (tupleText ts).length ≤ piled ts + 4 := by
  unfold tupleText
  rw [strLen_append, strLen_append]
  have e1 : ((("(" : String) : Str)).length = 1 := rfl
  have e2 : (((if ts.length == 1 then ",)" else ")" : String) : Str)).length ≤ 2 := by split <;> decide
  cases ts with
  | nil =>
    have e3 : (Str.join ", " []).length = 0 := rfl
    omega
  | cons t r =>
    have e3 := join_length_add (t :: r) (by simp)
    omega
theorem dictText_le (ts : List Str) : (dictText ts).length ≤ piled ts + 4 := by
  unfold dictText
  rw [strLen_append, strLen_append]
  have e1 : ((("{" : String) : Str)).length = 1 := rfl
  have e2 : ((("}" : String) : Str)).length = 1 := rfl
  cases ts with
  | nil =>
    have e3 : (Str.join ", " []).length = 0 := rfl
    omega
  | cons t r =>
    have e3 := join_length_add (t :: r) (by simp)
    omega
theorem listText_le : ∀ ts : List Str, (listText ts).length ≤ piled ts + 4
  | [] => by rw [listText_nil]; decide
  | t :: r => by
    have h := textFrom_length_pos r 1 (("[" : Str) ++ ("" : String) ++ t) (Nat.succ_pos 0)
    have e : (("[" : Str) ++ ("" : String) ++ t).length = 1 + t.length := by
      rw [strLen_append, strLen_append]
      rfl
    have q : (listText (t :: r)).length = (textFrom 1 (("[" : Str) ++ ("" : String) ++ t) r).length + 1 := by
      unfold listText
      rw [strLen_append]
      rfl
    rw [q, h, e, piled_cons]
    omega
mutual
theorem Rp.ex {H G : Hp} {l : Bool} (e : Ex H G) : ∀ {k : Nat} {v : V} {d : PyData} {n : Nat}, Rp H l k v d n → Rp G l k v d n
  | _, _, _, _, .non => .non
  | _, _, _, _, .bl b => .bl b
  | _, _, _, _, .int i h => .int i h
  | _, _, _, _, .str z h => .str z h
  | _, _, _, _, .tup h q => .tup (e _ _ h) (RpA.ex e q)
  | _, _, _, _, .lst f h q => .lst f (e _ _ h) (RpA.ex e q)
  | _, _, _, _, .dct f h q => .dct f (e _ _ h) (RpD.ex e q)
theorem RpA.ex {H G : Hp} {l : Bool} (e : Ex H G) : ∀ {k : Nat} {xs : List V} {ds : List PyData} {n : Nat}, RpA H l k xs ds n → RpA G l k xs ds n
  | _, _, _, _, .nil => .nil
  | _, _, _, _, .cons q t => .cons (Rp.ex e q) (RpA.ex e t)
theorem RpD.ex {H G : Hp} {l : Bool} (e : Ex H G) : ∀ {k : Nat} {xs : List (Key × V)} {ds : List (PyData × PyData)} {n : Nat}, RpD H l k xs ds n → RpD G l k xs ds n
  | _, _, _, _, .nil => .nil
  | _, _, _, _, .cons p q t => .cons (Rp.ex e p) (Rp.ex e q) (RpD.ex e t)
end
/-- v is shown by a text of at most n signs, at most k deep -/
def Sh (H : Hp) (l : Bool) (k n : Nat) (v : V) : Prop := ∃ d m, Rp H l k v d m ∧ m ≤ n
section
variable {H : Hp} {l : Bool} {k n : Nat}
theorem Sh.ex {G : Hp} {v : V} (h : Sh H l k n v) (e : Ex H G) : Sh G l k n v := h.elim fun d h => h.elim fun m h => ⟨d, m, h.1.ex e, h.2⟩
theorem Sh.le {m : Nat} {v : V} (h : Sh H l k n v) (q : n ≤ m) : Sh H l k m v := h.elim fun d h => h.elim fun a h => ⟨d, a, h.1, Nat.le_trans h.2 q⟩
theorem sh_all : ∀ {xs : List V}, (∀ x ∈ xs, Sh H l k n x) → ∃ ds m, RpA H l k xs ds m ∧ m ≤ xs.length * (n + 2)
  | [], _ => ⟨_, _, .nil, by simp⟩
  | x :: xs, h => by
    obtain ⟨d, m, q, hm⟩ := h x List.mem_cons_self
    obtain ⟨ds, ms, t, ht⟩ := sh_all (xs := xs) fun y hy => h y (List.mem_cons_of_mem _ hy)
    refine ⟨_, _, .cons q t, ?_⟩
    rw [List.length_cons, Nat.succ_mul]
    omega
theorem Sh.non : Sh H l k 4 .non := ⟨_, _, .non, Nat.le_refl _⟩
theorem Sh.bl {b : Bool} : Sh H l k 5 (.bl b) := ⟨_, _, .bl b, Nat.le_refl _⟩
theorem Sh.int {i : Int} (h : i.natAbs < 10 ^ 300) : Sh H l k 301 (.int i) := ⟨_, _, .int i h, Nat.le_refl _⟩
theorem Sh.str {z : Str} (h : ∀ c ∈ z.cps.toList, c < 16 ^ 8) : Sh H l k (10 * z.length + 2) (.str z) := ⟨_, _, .str z h, Nat.le_refl _⟩
theorem Sh.tup {a : Addr} {xs : List V} (h : H a = some (.tup xs)) (q : ∀ x ∈ xs, Sh H l k n x) : Sh H l (k + 1) (xs.length * (n + 2) + 4) (.ref a) := by
  obtain ⟨ds, m, r, hm⟩ := sh_all q
  exact ⟨_, _, .tup h r, by omega⟩
theorem Sh.lst {a : Addr} {xs : List V} (h : H a = some (.lst xs)) (q : ∀ x ∈ xs, Sh H true k n x) : Sh H true (k + 1) (xs.length * (n + 2) + 4) (.ref a) := by
  obtain ⟨ds, m, r, hm⟩ := sh_all q
  exact ⟨_, _, .lst rfl h r, by omega⟩
theorem Sh.dct0 {a : Addr} (h : H a = some (.dK [])) : Sh H false (k + 1) 4 (.ref a) := ⟨_, _, .dct rfl h .nil, by omega⟩
theorem Sh.dct1 {a : Addr} {z : Str} {i : Int} (h : H a = some (.dK [(.inr z, .int i)])) (hz : ∀ c ∈ z.cps.toList, c < 16 ^ 8) (hi : i.natAbs < 10 ^ 300) : Sh H false (k + 1) (10 * z.length + 400) (.ref a) :=
  ⟨_, _, .dct rfl h (.cons (.str z hz) (.int i hi) .nil), by omega⟩
/-- a text is written with signs that there are -/
theorem signs_ok {z : Str} (h : (z.cps.toList.all fun c => decide (c < 16 ^ 8)) = true) : ∀ c ∈ z.cps.toList, c < 16 ^ 8 := fun c hc => of_decide_eq_true (List.all_eq_true.mp h c hc)
end
theorem log_small {i : Int} (h : i.natAbs < 10 ^ 300) : i.natAbs.log2 < 1920 := by
  by_cases q : i.natAbs = 0
  · rw [q]; decide
  · refine (Nat.log2_lt q).mpr (Nat.lt_trans h ?_)
    decide +kernel
theorem key_shape {y : Key} {u : Value} (h : keyIs y u = true) : RelV (kV y) u := by
  rcases keyIs_shape h with ⟨i, t, rfl, rfl⟩ | ⟨z, t, rfl, rfl⟩
  · exact ⟨t, rfl⟩
  · exact ⟨t, rfl⟩

section
variable {P : Program} {w : World} {H : Hp} {h : Heap} {l : Bool}
mutual
theorem Rp.reads (ok : HOk P w H h) : ∀ {k : Nat} {v : V} {d : PyData} {n : Nat} {u : Value}, Rp H l k v d n → RelV v u → ∃ as, Reads h u d as ∧ (l = false → sysModules ∉ as)
  | _, _, _, _, u, .non, r => by
    cases (show u = Value.none from r)
    exact ⟨_, .none, fun _ => by simp⟩
  | _, _, _, _, u, .bl b, r => by
    cases (show u = Value.bool b from r)
    exact ⟨_, .bool b, fun _ => by simp⟩
  | _, _, _, _, u, .int i _, r => by
    obtain ⟨t, rfl⟩ := (show ∃ t, u = Value.int i t from r)
    exact ⟨_, .int i t, fun _ => by simp⟩
  | _, _, _, _, u, .str z _, r => by
    obtain ⟨t, rfl⟩ := (show ∃ t, u = Value.str z t from r)
    exact ⟨_, .str z t, fun _ => by simp⟩
  | _, _, _, _, u, .tup (a := a) e q, r => by
    cases (show u = Value.ref a from r)
    obtain ⟨_, its, rv, o, h1, h2, m, h3⟩ := (show ObjOk P w H h a (.tup _) from ok a _ e)
    obtain ⟨as, q1, q2⟩ := RpA.reads ok q rv
    exact ⟨as, .tuple h1 h2 h3 (by simpa using q1), q2⟩
  | _, _, _, _, u, .lst (a := a) hl e q, r => by
    cases (show u = Value.ref a from r)
    obtain ⟨_, its, m, rv, h1⟩ := (show ObjOk P w H h a (.lst _) from ok a _ e)
    obtain ⟨as, q1, q2⟩ := RpA.reads ok q rv
    exact ⟨_, .list h1 rfl rfl (by simpa using q1), fun z => by rw [hl] at z; cases z⟩
  | _, _, _, _, u, .dct (a := a) hl e q, r => by
    cases (show u = Value.ref a from r)
    obtain ⟨_, hn, vs, kv, o, es, ep, h1, h2, h3, _, h5, _⟩ := (show ObjOk P w H h a (.dK _) from ok a _ e)
    obtain ⟨as, bs, q1, q2, q3⟩ := RpD.reads ok q kv h5
    refine ⟨_, .dict h1 h2.1 h3 q1 q2, fun z => ?_⟩
    have q4 := q3 z
    intro hm
    rcases List.mem_append.mp hm with hm | hm
    · rcases List.mem_cons.mp hm with hm | hm
      · rw [← hm] at hn
        simp at hn
      · exact q4.1 hm
    · exact q4.2 hm
theorem RpA.reads (ok : HOk P w H h) : ∀ {k : Nat} {xs : List V} {ds : List PyData} {n : Nat} {us : List Value}, RpA H l k xs ds n → Vals xs us → ∃ as, ReadsAll h us ds as ∧ (l = false → sysModules ∉ as)
  | _, _, _, _, _, .nil, r => by
    cases r
    exact ⟨_, .nil, fun _ => by simp⟩
  | _, _, _, _, _, .cons q t, r => by
    cases r with
    | cons r1 r2 =>
      obtain ⟨as, q1, q2⟩ := Rp.reads ok q r1
      obtain ⟨bs, t1, t2⟩ := RpA.reads ok t r2
      exact ⟨_, .cons q1 t1, fun z => by
        rw [List.mem_append]
        exact fun y => y.elim (q2 z) (t2 z)⟩
theorem RpD.reads (ok : HOk P w H h) : ∀ {k : Nat} {kvs : List (Key × V)} {ds : List (PyData × PyData)} {n : Nat} {vs : List (Key × Value)} {es : List DictEntry}, RpD H l k kvs ds n → KV kvs vs → Pairs (mixKind P w) es vs →
    ∃ as bs, ReadsAll h (es.map (·.key)) (ds.map (·.1)) as ∧ ReadsAll h (es.map (·.val)) (ds.map (·.2)) bs ∧ (l = false → sysModules ∉ as ∧ sysModules ∉ bs)
  | _, _, _, _, _, _, .nil, r, p => by
    cases r
    cases p
    exact ⟨_, _, .nil, .nil, fun _ => by simp⟩
  | _, _, _, _, _, _, .cons q1 q2 t, r, p => by
    cases r with
    | cons r1 r2 =>
      cases p with
      | cons p1 p2 p3 =>
        rename_i _ kv0 _ _ _
        obtain ⟨k0, v0⟩ := kv0
        obtain ⟨e1, e2⟩ := r1
        dsimp only at e1 e2 p1 p2
        obtain ⟨as, s1, s2⟩ := Rp.reads ok q1 (key_shape (y := _) (by rw [e1]; exact p1))
        subst p2
        obtain ⟨bs, s3, s4⟩ := Rp.reads ok q2 e2
        obtain ⟨cs, gs, s5, s6, s7⟩ := RpD.reads ok t r2 p3
        refine ⟨_, _, .cons s1 s5, .cons s3 s6, fun z => ⟨?_, ?_⟩⟩
        · rw [List.mem_append]
          exact fun y => y.elim (s2 z) (s7 z).1
        · rw [List.mem_append]
          exact fun y => y.elim (s4 z) (s7 z).2
end
end
section
variable {H : Hp} {l : Bool}
mutual
theorem Rp.able : ∀ {k : Nat} {v : V} {d : PyData} {n : Nat}, Rp H l k v d n → d.showable = true ∧ (d.hasDict = true → l = false) ∧ d.depth ≤ k ∧ d.shown.length ≤ n
  | _, _, _, _, .non => ⟨by simp [PyData.showable], by simp [PyData.hasDict], by simp [PyData.depth], by simp only [PyData.shown]; decide⟩
  | _, _, _, _, .bl b => ⟨by simp [PyData.showable], by simp [PyData.hasDict], by simp [PyData.depth], by simp only [PyData.shown]; cases b <;> decide⟩
  | _, _, _, _, .int i hi => ⟨by simp only [PyData.showable]; exact decide_eq_true (log_small hi), by simp [PyData.hasDict], by simp [PyData.depth], by
      simp only [PyData.shown]
      show (Str.ofString (toString i)).length ≤ 301
      rw [PySem.ofString_length]
      exact int_text_length_le10 (by decide) hi⟩
  | _, _, _, _, .str z hz => ⟨by simp [PyData.showable], by simp [PyData.hasDict], by simp [PyData.depth], by
      simp only [PyData.shown]
      exact StrLaws.reprText_len z hz⟩
  | _, _, _, _, .tup e q => by
    obtain ⟨h1, h2, h3, h4⟩ := q.able
    refine ⟨by simpa only [PyData.showable] using h1, by simpa only [PyData.hasDict] using h2, by simp only [PyData.depth]; omega, ?_⟩
    simp only [PyData.shown]
    refine Nat.le_trans (tupleText_le _) ?_
    omega
  | _, _, _, _, .lst hl e q => by
    obtain ⟨h1, h2, h3, h4⟩ := q.able
    refine ⟨by simpa only [PyData.showable] using h1, by simpa only [PyData.hasDict] using h2, by simp only [PyData.depth]; omega, ?_⟩
    simp only [PyData.shown]
    refine Nat.le_trans (listText_le _) ?_
    omega
  | _, _, _, _, .dct hl e q => by
    obtain ⟨h1, h3, h4⟩ := q.able
    refine ⟨by simpa only [PyData.showable] using h1, fun _ => hl, by simp only [PyData.depth]; omega, ?_⟩
    simp only [PyData.shown]
    refine Nat.le_trans (dictText_le _) ?_
    omega
theorem RpA.able : ∀ {k : Nat} {xs : List V} {ds : List PyData} {n : Nat}, RpA H l k xs ds n → PyData.showableAll ds = true ∧ (PyData.hasDictAll ds = true → l = false) ∧ PyData.depthAll ds ≤ k ∧ piled (PyData.shownAll ds) ≤ n
  | _, _, _, _, .nil => ⟨by simp [PyData.showableAll], by simp [PyData.hasDictAll], by simp [PyData.depthAll], by simp [PyData.shownAll, piled]⟩
  | _, _, _, _, .cons q t => by
    obtain ⟨h1, h2, h3, h4⟩ := q.able
    obtain ⟨g1, g2, g3, g4⟩ := t.able
    refine ⟨by simp only [PyData.showableAll, h1, g1, Bool.and_self], fun z => ?_, by simp only [PyData.depthAll]; omega, ?_⟩
    · simp only [PyData.hasDictAll, Bool.or_eq_true] at z
      exact z.elim h2 g2
    · simp only [PyData.shownAll]
      rw [piled_cons]
      omega
theorem RpD.able : ∀ {k : Nat} {kvs : List (Key × V)} {ds : List (PyData × PyData)} {n : Nat}, RpD H l k kvs ds n → PyData.showableKv ds = true ∧ PyData.depthKv ds ≤ k ∧ piled (PyData.shownKv ds) ≤ n
  | _, _, _, _, .nil => ⟨by simp [PyData.showableKv], by simp [PyData.depthKv], by simp [PyData.shownKv, piled]⟩
  | _, _, _, _, .cons q1 q2 t => by
    obtain ⟨h1, _, h3, h4⟩ := q1.able
    obtain ⟨f1, _, f3, f4⟩ := q2.able
    obtain ⟨g1, g3, g4⟩ := t.able
    refine ⟨by simp only [PyData.showableKv, h1, f1, g1, Bool.and_self], by simp only [PyData.depthKv]; omega, ?_⟩
    simp only [PyData.shownKv]
    rw [piled_cons, strLen_append, strLen_append]
    have e : ((": " : String) : Str).length = 2 := rfl
    omega
end
end

/-! ### defs that are run where no repr is under way -/
/-- room for k more levels, and no repr under way -/
structure Quiet (k : Nat) (A : Around) : Prop where
  room : Room k A
  still : A.guards = some []
theorem Quiet.mono {j k : Nat} {A : Around} (q : Quiet k A) (h : j ≤ k) : Quiet j A := ⟨q.room.mono h, q.still⟩
theorem Quiet.in {k : Nat} {A : Around} (q : Quiet (k + 1) A) (e : Env) : Quiet k (A.deeper e) := ⟨q.room.deeper e, q.still⟩

section
variable (P : Program) (w : World) (K : PySem.W.Frag) (mg : Str → Option Value) (base : Heap) (C : CXT)
/-- a def's promise, kept wherever it is quiet -/
structure FnQ (k : Nat) (f : Addr) (fd : FuncData) (ps : List Str) (sp : Sp) : Prop where
  arity : ∀ vs H Q E, sp vs H Q E → vs.length = ps.length
  goes : ∀ {A : Around} {outer : List Env} {s : Shared} {H : Hp} {args : Args} {us : List Value} {vs : List V} {Q : VK} {E : XK},
    Quiet k A → Env0 P w K mg base A outer s H → BindsTo s fd args (ps.zip us) → Vals vs us → sp vs H Q E →
      codeAny (model P w) A (.call (.ref f) args) (CR C outer P w H s Q E) s
end

section
variable {P : Program} {w : World} {K : PySem.W.Frag} {mg : Str → Option Value} {base : Heap} {C : CXT} {k : Nat} {f : Addr} {ps N : List Str} {sp : Sp}
/-- what a def's body has come to when it is left -/
theorem left_CE {X : Cx} {σ : L2.St} {H : Hp} {s' : Shared} {Q : VK} {v : V} {u : Value} (I : Inv X [] σ H s') (hx : X.ex = []) (r : RelV v u) (q : Q v H) : CE X.outer X.prog X.w X.H_0 X.s_0 Q u s' :=
  ⟨v, H, I.os, I.bare, by
    have z := I.base
    rw [hx] at z
    exact z, I.hok, r, q⟩
theorem quietFn {x qual : Str} {par : Arguments} {body : List Stmt} {sc : Scope} {dV kV doc pm cdv ct oc : Value} {an od : Option Addr} {osl : Array (Option Value)}
    (lk : K.lookup f = some ⟨oc, od, .func (PySem.W.fnOf x qual par body sc dV kV doc pm an cdv ct), osl⟩) (code : PySem.W.codeIn K cdv qual = true) (S : FnScope N ps sc)
    (arity : ∀ vs H Q E, sp vs H Q E → vs.length = ps.length)
    (reads : ∀ (A : Around) (outer : List Env) (s : Shared) (H : Hp) (vs : List V) (Q : VK) (E : XK), Quiet k (A.deeper (envOfC qual sc s.heap.objs.size f cdv)) → sp vs H Q E →
      ∃ t, PSs (cxOf C P w K mg base N qual sc f cdv A outer s H E) body t ∧ t { nx := fun _ H1 => Q .non H1, rt := Q } (start N vs) H) :
    FnQ P w K mg base C (k + 1) f (PySem.W.fnOf x qual par body sc dV kV doc pm an cdv ct) ps sp := by
  constructor
  · exact arity
  · intro A outer s H args us vs Q E quiet e0 bind rel want
    have count := arity _ _ _ _ want
    have same : ∀ b o, base.get? b = some o → s.heap.get? b = some o := fun b o e => (e0.bs b o e).1
    have inK := e0.mod.kin.keeps same
    have nolim := e0.mod.nolimit.keeps same
    have kinds : ∀ y ∈ ps.zip us, sc.names.lookup y.1 = some .local ∨ (sc.names.lookup y.1 = some .cell ∧ ((cellsFrom (s.heap.objs.size + 1) sc.names []).lookup y.1).isSome = true) := by
      rintro ⟨n, v⟩ hy
      refine (S.par n (List.of_mem_zip hy).1).imp id fun q => ⟨q, ?_⟩
      exact PySem.W.cellsFrom_some _ _ _ (.inl q)
    refine codeAny_call_function quiet.room.depth (inK _ _ lk) rfl S.co S.gen rfl (PySem.W.codeRec_of inK code) (bind _ _ _ _ ?_)
    refine wpAny_newFunctionEnv_cells S.kind kinds fun e he s1 x1 => ?_
    subst he
    refine ⟨nolim.keeps x1.toInCall.keep, codeAny_func ?_⟩
    obtain ⟨t, ht, hq⟩ := reads A outer s H vs Q E (quiet.in _) want
    have I0 := inv_start (CX := C) (E := E) S quiet.room.hd e0 count rel x1
    refine wpAny_mono (ht.run [] s1 _ H _ I0 hq) ?_ (fun e s2 h => h)
    intro fl s2 h
    match fl, h with
    | .ret u, h =>
      obtain ⟨v, σ1, H1, J, rv, q⟩ := h
      exact left_CE J rfl rv q
    | .next, h =>
      obtain ⟨σ1, H1, J, q⟩ := h
      exact left_CE (v := .non) (u := .none) J rfl rfl q
    | .brk, h =>
      obtain ⟨_, _, _, q⟩ := h
      exact q.elim
    | .cont, h =>
      obtain ⟨_, _, _, q⟩ := h
      exact q.elim
end

section
variable {X : Cx} {C : CXT} {k : Nat} {f : Addr} {fd : FuncData} {ps : List Str} {sp : Sp} {E : XK} {x : Str} {e : Expr} {es : List Expr} {p pos : Pos} {t : TA}
/-- f(e, ..), f such a def, all its arguments by place -/
theorem pe_callQ (F : FnQ X.prog X.w X.K X.mg X.base C k f fd ps sp) (quiet : Quiet k X.A) (hg : Gl X x) (hm : X.mg x = some (.ref f)) (hk : PySem.W.keepIn X.K (.ref f) = true) (hb : Binds X.K fd ps []) (hx : Passes C X E)
    (ha : PA X (e :: es) t) (hd : (x == ("__debug__" : Str)) = false := by decide) (he : starEach (e :: es) X.env = (false, eval e X.env) :: starEach es X.env := by rfl) (hp : (backTo pos (starEach es X.env)).any (·.1) = false := by rfl) :
    PE X (.Call (.Name x p) (e :: es) [] pos) (tCall sp [] E t) := by
  constructor
  intro pins s σ H Q I want
  refine wpAny_Call_Name_kw (ld_glob I hg hm ?_ hd)
  refine PySem.W.callWith_K (h₀ := X.base) I.ok.mod.kin hk (thn (ha.run pos pins s σ H _ I want) ?_) he hp
  rintro us s1 ⟨vs, H1, I1, rel, q⟩
  refine ⟨I1.kIn, ?_⟩
  rw [List.append_nil] at q
  have count := F.arity _ _ _ _ q
  have bind := hb s1 us I1.kIn (by rw [List.append_nil, ← rel.length]; exact count)
  rw [List.append_nil] at bind
  refine wpAny_call (codeAny_mono (F.goes quiet I1.env0 bind rel q) ?_)
  intro r s2 h
  match r, h with
  | .error z, h => exact hx pins σ H1 s1 z s2 I1 h
  | .ok (.ret u), h => exact I1.after h
  | .ok .next, h => exact h.elim
  | .ok .brk, h => exact h.elim
  | .ok .cont, h => exact h.elim
end

/-- the rule for a def of the text that is run where no repr is under way -/
theorem okQ {P : Program} {w : World} {K : PySem.W.Frag} {mg : Str → Option Value} {base : Heap} {x qual : Str} {st : Stmt} {f : Addr} {fd : FuncData} {N ps : List Str} {k : Nat} {sp : Sp} (F : Fun K x qual st f fd) (S : FnScope N ps (defScope st))
    (arity : ∀ vs H Q E, sp vs H Q E → vs.length = ps.length)
    (reads : ∀ (cdv : Value) (A : Around) (outer : List Env) (s : Shared) (H : Hp) (vs : List V) (Q : VK) (E : XK), Quiet k (A.deeper (envOfC qual (defScope st) s.heap.objs.size f cdv)) → sp vs H Q E →
      ∃ t, PSs (cxOf CX0 P w K mg base N qual (defScope st) f cdv A outer s H E).nox (defBody st) t ∧ t { nx := fun _ H1 => Q .non H1, rt := Q } (start N vs) H) : FnQ P w K mg base CX0 (k + 1) f fd ps sp := by
  obtain ⟨_, _, _, _, _, _, cdv, _, _, rfl, lk, code⟩ := F.ex
  refine quietFn lk code S arity fun A outer s H vs Q E quiet want => ?_
  obtain ⟨t, h, q⟩ := reads cdv A outer s H vs Q E quiet want
  exact ⟨t, h.nox, q⟩

/-! ### repr -/
/-- what is handed to repr is shown so -/
def rRepr : List V → Hp → VK → Prop := fun xs H Q => ∃ v l d n, xs = [v] ∧ Rp H l 64 v d n ∧ n ≤ 10000000 ∧ Q (.str d.shown) H
theorem call_repr {X : Cx} {k : Nat} (quiet : Quiet k X.A) : CallR X (.builtin "repr") rRepr := by
  have still := quiet.still
  have room : X.A.units + 65 < cLine := by have := quiet.room.un; omega
  intro pins s σ H xs us Q I rel want
  obtain ⟨v, l, d, n, rfl, rp, hn, q⟩ := want
  obtain ⟨u, rfl, r⟩ := vals1 rel
  obtain ⟨a1, a2, a3, a4⟩ := rp.able
  have size : d.shown.length ≤ sizeLine := by
    have : (10000000 : Nat) ≤ sizeLine := by decide
    omega
  obtain ⟨as, rd, hs⟩ := rp.reads I.hok r
  have done : ∀ tk tk', EP X pins σ Q (.str d.shown tk) { s with toks := tk' } := fun tk tk' => ⟨.str d.shown, H, I.tok _, ⟨_, rfl⟩, q⟩
  have deep : ∀ {a : Addr}, Reads s.heap (.ref a) d as → wpAny (model X.prog X.w) X.A (call (.builtin "repr") [.ref a]) (EP X pins σ Q) X.xe s := fun {a} rd => by
    refine repr_of_reads' (h₀ := s.heap) rd a1 (fun z => hs (a2 z)) still (by omega) (fun _ _ z => z) (fun h' u tk keep => ?_) size
    exact ⟨.str d.shown, H, I.kept keep, ⟨_, rfl⟩, q⟩
  cases rd with
  | none => exact PySem.P.repr_of_none (done _ _)
  | bool b => exact PySem.P.repr_of_bool (done _ _)
  | int i t => exact PySem.P.repr_of_int (by simpa [PyData.showable] using a1) (done _ _)
  | str z t => exact PySem.P.repr_of_str (done _ _) size
  | list h1 h2 h3 h4 => exact deep (.list h1 h2 h3 h4)
  | tuple h1 h2 h3 h4 => exact deep (.tuple h1 h2 h3 h4)
  | dict h1 h2 h3 h4 h5 => exact deep (.dict h1 h2 h3 h4 h5)

/-! ### the law's end -/
section
variable {P : Program} {w : World} {K : PySem.W.Frag} {mg mb : Str → Option Value} {C : CXT} {k : Nat} {fa a : Addr} {fd : FuncData} {x : Str} {sp : Sp} {s1 : Shared} {vs : List Value} {ns : List Int}
/-- what a law's call must come to -/
def EndOk (s1 : Shared) (r : Result) (s2 : Shared) : Prop := r = .ok (.ret (.bool true)) ∧ OldK s1.heap s2.heap ∧ s2.os = s1.os ∧ AllBare s2.gens
theorem quiet_from (H : Hp) (inK : K.In s1.heap) (gl : s1.heap.Ns mainGlobals mg) (bn : s1.heap.Ns builtinsNs mb) (bb : ∀ y : Str, y ≠ "__name__" → mb y = bootBuiltins y) (nl : s1.heap.NoLimit) (gens : s1.gens = #[])
    (obj : s1.heap.get? a = some { cls := .type "list", data := .seq vs.toArray }) (quiet : Quiet k callerA)
    (F : ∀ base : Heap, K.In base → base.Ns mainGlobals mg → FnQ P w K mg base C k fa fd [x] sp) (bind : ∀ (s : Shared) (u : Value), BindsTo s fd ⟨[u], []⟩ [(x, u)])
    (only : Only H) (begin_ : sp [.ref a] H (fun v _ => v = .bl true) fun _ _ _ => False) (never : ∀ H e s', C [] H s1 (fun _ _ _ => False) e s' → False)
    (hok : HOk P w H s1.heap) (just : ∀ b, H b ≠ none → b = a) (notK : H a ≠ none → K.lookup a = none) :
    codeAny (model P w) callerA (.call (.ref fa) ⟨[.ref a], []⟩) (EndOk s1) s1 := by
  have free : ∀ {b : Addr}, b ≠ a → H b = none := fun {b} n => by
    cases e : H b with
    | none => rfl
    | some o => exact absurd (just b (by rw [e]; exact Option.some_ne_none o)) n
  have names : ∀ {b : Addr} {m : Str → Option Value}, s1.heap.Ns b m → (hidT s1.heap H).Ns b m := by
    rintro b m ⟨o, es, ep, e, d, r⟩
    refine ⟨o, es, ep, hidT_get e (free ?_), d, r⟩
    rintro rfl
    rw [obj] at e
    cases e
    exact nomatch (show Data.seq vs.toArray _ = Data.dict es ep from d)
  have inB : K.In (hidT s1.heap H) := fun b o e => by
    refine hidT_get (inK b o e) ?_
    by_cases z : b = a
    · subst z
      cases q : H b with
      | none => rfl
      | some u =>
        have z := notK (by rw [q]; exact Option.some_ne_none u)
        rw [e] at z
        cases z
    · exact free z
  have mod : Mod K mg (hidT s1.heap H) := ⟨inB, names gl, ⟨mb, names bn, bb⟩, nl.elim fun mc z => ⟨mc, names z.1, z.2⟩⟩
  have none_ : ∀ b ∈ frs ([] : List Env), H b = none := fun b z => nomatch (show b ∈ ([] : List Addr) from z)
  have e0 : Env0 P w K mg (hidT s1.heap H) callerA [] s1 H := ⟨rfl, mod, fun _ _ e => of_hidT e, Nat.le_of_eq (hidT_size _ _), trivial, none_, hok, .of_eq gens⟩
  refine codeAny_mono ((F _ inB (names gl)).goes (us := [.ref a]) (vs := [.ref a]) quiet e0 (bind s1 (.ref a)) (.cons rfl .nil) begin_) ?_
  intro r s2 h
  match r, h with
  | .error e, h => exact (never H e s2 h).elim
  | .ok .next, h => exact h.elim
  | .ok .brk, h => exact h.elim
  | .ok .cont, h => exact h.elim
  | .ok (.ret u), h =>
    obtain ⟨v, H2, os, bare, un, hok2, rel, yes⟩ := h
    cases yes
    cases (show u = Value.bool true from rel)
    refine ⟨rfl, OldK.of_keep fun b o e => ?_, os, bare⟩
    rcases only b with z | ⟨ob, xs, z⟩
    · exact un.keep b o e z (fun y => nomatch (show b ∈ ([] : List Addr) from y)) (by simp)
    · have e1 := (hok b _ z).1
      rw [e] at e1
      cases e1
      exact (hok2 b _ (un.frzs b _ _ z)).1
theorem ints_vals : ∀ {vs : List Value} {ns : List Int}, IntsAre vs ns → Vals (ns.map V.int) vs
  | [], _, .nil => .nil
  | _ :: _, _, .cons _ t r => .cons ⟨t, rfl⟩ (ints_vals r)
theorem law_quiet (inK : K.In s1.heap) (gl : s1.heap.Ns mainGlobals mg) (bn : s1.heap.Ns builtinsNs mb) (bb : ∀ y : Str, y ≠ "__name__" → mb y = bootBuiltins y) (nl : s1.heap.NoLimit) (gens : s1.gens = #[])
    (obj : s1.heap.get? a = some { cls := .type "list", data := .seq vs.toArray }) (whole : IntsAre vs ns) (few : ns.length ≤ sizeLine) (quiet : Quiet k callerA)
    (F : ∀ base : Heap, K.In base → base.Ns mainGlobals mg → FnQ P w K mg base C k fa fd [x] sp) (bind : ∀ (s : Shared) (u : Value), BindsTo s fd ⟨[u], []⟩ [(x, u)])
    (begin_ : ∀ H : Hp, Only H → SqL K H a (ns.map V.int) → sp [.ref a] H (fun v _ => v = .bl true) fun _ _ _ => False) (never : ∀ H e s', C [] H s1 (fun _ _ _ => False) e s' → False) :
    codeAny (model P w) callerA (.call (.ref fa) ⟨[.ref a], []⟩) (EndOk s1) s1 := by
  have rel := ints_vals whole
  have len : (ns.map V.int).length ≤ sizeLine := by rw [List.length_map]; exact few
  cases look : K.lookup a with
  | some o =>
    have e := inK a o look
    rw [obj] at e
    cases e
    have nothing : Only fun _ => none := fun _ => .inl rfl
    have sq : SqL K (fun _ => none) a (ns.map V.int) := .inr ⟨_, vs.toArray, _, look, rfl, rfl, rfl, by rw [List.size_toArray, ← rel.length]; exact len, rel⟩
    exact quiet_from (fun _ => none) inK gl bn bb nl gens obj quiet F bind nothing (begin_ _ nothing sq) never (fun _ _ z => nomatch z) (fun _ z => (z rfl).elim) fun z => (z rfl).elim
  | none =>
    let ob : Obj := { cls := .type "list", data := .seq vs.toArray }
    let H : Hp := upd (fun _ => none) a (.frz ob (.lst (ns.map V.int)))
    have at_ : H a = some (.frz ob (.lst (ns.map V.int))) := upd_same
    have off : ∀ {b : Addr}, b ≠ a → H b = none := fun {b} n => upd_ne n
    have one : Only H := fun b => by
      by_cases z : b = a
      · rw [z]
        exact .inr ⟨_, _, at_⟩
      · exact .inl (off z)
    have hok : HOk P w H s1.heap := fun b u z => by
      by_cases y : b = a
      · subst y
        rw [at_] at z
        cases z
        exact ⟨obj, len, vs, 0, rel, obj⟩
      · rw [off y] at z
        cases z
    refine quiet_from H inK gl bn bb nl gens obj quiet F bind one (begin_ _ one (.inl (.inr ⟨_, at_⟩))) never hok (fun b z => ?_) fun _ => look
    by_cases y : b = a
    · exact y
    · exact (z (off y)).elim
end
/-- a law whose def is run where no repr is under way -/
theorem walk_quiet {l : PySem.W.OpenLaw} {n k : Nat} {q : Program} {loose : List Str} {XP : (Str → Option Value) → Heap → Prop} {YP : World → Heap → Prop} {d : DefRec} {K : Params → PySem.W.Frag} {C : World → CXT} {sp : World → Sp} {x : Str}
    (most : l.most = some n) (few : n ≤ sizeLine) (plain : d.params.defaults = []) (quiet : Quiet k callerA) (inK : ∀ (w : World) (h : Heap), YP w h → (K w.params).In h)
    (F : ∀ (w : World) (mg : Str → Option Value) (fa : Addr) (h : Heap), (K w.params).In h → h.Ns mainGlobals mg → mg d.name = some (.ref fa) →
      ∃ fd : FuncData, (∀ (s : Shared) (u : Value), BindsTo s fd ⟨[u], []⟩ [(x, u)]) ∧ ∀ base : Heap, (K w.params).In base → base.Ns mainGlobals mg → FnQ l.prog w (K w.params) mg base (C w) k fa fd [x] (sp w))
    (begin_ : ∀ (w : World) (H : Hp) (a : Addr) (ns : List Int), ns.length ≤ n → Only H → SqL (K w.params) H a (ns.map V.int) → sp w [.ref a] H (fun v _ => v = .bl true) fun _ _ _ => False)
    (never : ∀ (w : World) (H : Hp) (s : Shared) (e : Value) (s' : Shared), C w [] H s (fun _ _ _ => False) e s' → False) :
    PySem.W.WalkO q loose XP YP l.row.toRowW d [] (fun f vs => PySem.call f vs) := by
  refine Att.attach_call most plain ?_
  intro w s0 s1 mg mb fa o pm cd doc a vs ns G Y _ _ _ hmg obj whole len gens
  obtain ⟨fd, bind, fn⟩ := F w mg fa _ (inK w _ Y) G.T.g hmg
  exact law_quiet (inK w _ Y) G.T.g G.T.b G.T.builtins G.T.nolimit gens obj whole (Nat.le_trans len few) quiet fn bind (fun H one sq => begin_ w H a ns len one sq) fun H e s' => never w H s1 e s'
end Ver
/-! Nested data over the heap of a reading: ==, !=, <, in, sorted. -/
namespace Ver
open PySem PySem.Spec PyProof.Rows L2

mutual
/-- v is the datum d: numbers, truths, None, texts, tuples and lists of these, the dict without entries -/
inductive Dt (H : Hp) : V → PyData → Prop
  | non : Dt H .non .none
  | bl (b : Bool) : Dt H (.bl b) (.bool b)
  | int (i : Int) : Dt H (.int i) (.int i)
  | str (z : Str) : Dt H (.str z) (.str z)
  | tup {a xs ds} : H a = some (.tup xs) → DtA H xs ds → Dt H (.ref a) (.tuple ds)
  | lst {a xs ds} : H a = some (.lst xs) → DtA H xs ds → Dt H (.ref a) (.list ds)
  | dct {a} : H a = some (.dK []) → Dt H (.ref a) (.dict [])
inductive DtA (H : Hp) : List V → List PyData → Prop
  | nil : DtA H [] []
  | cons {x d xs ds} : Dt H x d → DtA H xs ds → DtA H (x :: xs) (d :: ds)
end
mutual
theorem Dt.ex {H G : Hp} (e : Ex H G) : ∀ {v : V} {d : PyData}, Dt H v d → Dt G v d
  | _, _, .non => .non
  | _, _, .bl b => .bl b
  | _, _, .int i => .int i
  | _, _, .str z => .str z
  | _, _, .tup h q => .tup (e _ _ h) (DtA.ex e q)
  | _, _, .lst h q => .lst (e _ _ h) (DtA.ex e q)
  | _, _, .dct h => .dct (e _ _ h)
theorem DtA.ex {H G : Hp} (e : Ex H G) : ∀ {xs : List V} {ds : List PyData}, DtA H xs ds → DtA G xs ds
  | _, _, .nil => .nil
  | _, _, .cons q t => .cons (Dt.ex e q) (DtA.ex e t)
end
section
variable {P : Program} {w : World} {H : Hp} {h : Heap}
mutual
theorem Dt.reads (ok : HOk P w H h) : ∀ {v : V} {d : PyData} {u : Value}, Dt H v d → RelV v u → ∃ as, Reads h u d as
  | _, _, u, .non, r => by
    cases (show u = Value.none from r)
    exact ⟨_, .none⟩
  | _, _, u, .bl b, r => by
    cases (show u = Value.bool b from r)
    exact ⟨_, .bool b⟩
  | _, _, u, .int i, r => by
    obtain ⟨t, rfl⟩ := (show ∃ t, u = Value.int i t from r)
    exact ⟨_, .int i t⟩
  | _, _, u, .str z, r => by
    obtain ⟨t, rfl⟩ := (show ∃ t, u = Value.str z t from r)
    exact ⟨_, .str z t⟩
  | _, _, u, .tup (a := a) e q, r => by
    cases (show u = Value.ref a from r)
    obtain ⟨_, its, rv, o, h1, h2, m, h3⟩ := (show ObjOk P w H h a (.tup _) from ok a _ e)
    obtain ⟨as, q1⟩ := DtA.reads ok q rv
    exact ⟨as, .tuple h1 h2 h3 (by simpa using q1)⟩
  | _, _, u, .lst (a := a) e q, r => by
    cases (show u = Value.ref a from r)
    obtain ⟨_, its, m, rv, h1⟩ := (show ObjOk P w H h a (.lst _) from ok a _ e)
    obtain ⟨as, q1⟩ := DtA.reads ok q rv
    exact ⟨_, .list h1 rfl rfl (by simpa using q1)⟩
  | _, _, u, .dct (a := a) e, r => by
    cases (show u = Value.ref a from r)
    obtain ⟨_, _, vs, kv, o, es, ep, h1, h2, h3, _, h5, _⟩ := (show ObjOk P w H h a (.dK _) from ok a _ e)
    cases kv
    have e0 : es.toList = [] := by
      generalize es.toList = l at h5
      cases h5
      rfl
    exact ⟨_, .dict h1 h2.1 h3 (by rw [e0]; exact .nil) (by rw [e0]; exact .nil)⟩
theorem DtA.reads (ok : HOk P w H h) : ∀ {xs : List V} {ds : List PyData} {us : List Value}, DtA H xs ds → Vals xs us → ∃ as, ReadsAll h us ds as
  | _, _, _, .nil, r => by
    cases r
    exact ⟨_, .nil⟩
  | _, _, _, .cons q t, r => by
    cases r with
    | cons r1 r2 =>
      obtain ⟨as, q1⟩ := Dt.reads ok q r1
      obtain ⟨bs, t1⟩ := DtA.reads ok t r2
      exact ⟨_, .cons q1 t1⟩
end
end
theorem DtA.length {H : Hp} : ∀ {xs : List V} {ds : List PyData}, DtA H xs ds → xs.length = ds.length
  | _, _, .nil => rfl
  | _, _, .cons _ t => congrArg Nat.succ t.length
theorem DtA.at_ {H : Hp} : ∀ {xs : List V} {ds : List PyData} {i : Nat} {x : V}, DtA H xs ds → xs[i]? = some x → ∃ d, ds[i]? = some d ∧ Dt H x d
  | _, _, 0, _, .cons q _, e => by cases e; exact ⟨_, rfl, q⟩
  | _, _, i + 1, _, .cons _ t, e => DtA.at_ (i := i) t e
theorem DtA.get {H : Hp} : ∀ {xs : List V} {ds : List PyData} {i : Nat} {d : PyData}, DtA H xs ds → ds[i]? = some d → ∃ x, xs[i]? = some x ∧ Dt H x d
  | _, _, 0, _, .cons q _, e => by cases e; exact ⟨_, rfl, q⟩
  | _, _, i + 1, _, .cons _ t, e => DtA.get (i := i) t e
theorem DtA.append {H : Hp} : ∀ {xs ys : List V} {ds es : List PyData}, DtA H xs ds → DtA H ys es → DtA H (xs ++ ys) (ds ++ es)
  | _, _, _, _, .nil, s => s
  | _, _, _, _, .cons q t, s => .cons q (t.append s)
theorem DtA.take {H : Hp} : ∀ {xs : List V} {ds : List PyData} (n : Nat), DtA H xs ds → DtA H (xs.take n) (ds.take n)
  | _, _, 0, _ => .nil
  | _, _, _ + 1, .nil => .nil
  | _, _, n + 1, .cons q t => .cons q (t.take n)
theorem DtA.drop {H : Hp} : ∀ {xs : List V} {ds : List PyData} (n : Nat), DtA H xs ds → DtA H (xs.drop n) (ds.drop n)
  | _, _, 0, h => h
  | _, _, _ + 1, .nil => .nil
  | _, _, n + 1, .cons _ t => t.drop n
theorem DtA.reverse {H : Hp} : ∀ {xs : List V} {ds : List PyData}, DtA H xs ds → DtA H xs.reverse ds.reverse
  | _, _, .nil => .nil
  | _, _, .cons q t => by
    rw [List.reverse_cons, List.reverse_cons]
    exact t.reverse.append (.cons q .nil)
theorem DtA.mem {H : Hp} : ∀ {xs : List V} {ds : List PyData} {x : V}, DtA H xs ds → x ∈ xs → ∃ d ∈ ds, Dt H x d
  | _, _, x, .cons (x := y) q t, h => by
    rcases List.mem_cons.mp h with rfl | h
    · exact ⟨_, List.mem_cons_self, q⟩
    · obtain ⟨d, hd, k⟩ := t.mem h
      exact ⟨d, List.mem_cons_of_mem _ hd, k⟩

/-- what a comparison of data may be made of -/
structure Cmp (H : Hp) (x : V) (d : PyData) : Prop where
  at_ : Dt H x d
  plain : d.plain = true
  deep : d.depth ≤ 40
def rEqD (f : Bool → Bool) : R2 := fun x y H Q => ∃ a b, Cmp H x a ∧ Cmp H y b ∧ Q (.bl (f (PyData.eqv a b))) H
theorem op_eqD {X : Cx} (room : X.A.units + 64 < cLine) : OpR X (compareOp .Eq) (rEqD id) := by
  intro pins s σ H x y v u Q I rx ry want
  obtain ⟨a, b, ha, hb, q⟩ := want
  obtain ⟨as, ra⟩ := ha.at_.reads I.hok rx
  obtain ⟨bs, rb⟩ := hb.at_.reads I.hok ry
  exact PySem.SeqAt.eq_plain ra rb ha.plain hb.plain (by have := ha.deep; omega) ⟨.bl _, H, I, rfl, q⟩
theorem op_neD {X : Cx} (room : X.A.units + 64 < cLine) : OpR X (compareOp .NotEq) (rEqD not) := by
  intro pins s σ H x y v u Q I rx ry want
  obtain ⟨a, b, ha, hb, q⟩ := want
  obtain ⟨as, ra⟩ := ha.at_.reads I.hok rx
  obtain ⟨bs, rb⟩ := hb.at_.reads I.hok ry
  exact PySem.SeqAt.ne_plain ra rb ha.plain hb.plain (by have := ha.deep; omega) ⟨.bl _, H, I, rfl, q⟩
/-- x < y, data of one kind place by place -/
def rLtD : R2 := fun x y H Q => ∃ a b, Dt H x a ∧ Dt H y b ∧ PySem.W.alike a b = true ∧ a ≠ .none ∧ a.depth ≤ 40 ∧ Q (.bl (PySem.W.dataLt a b)) H
theorem op_ltD {X : Cx} (room : X.A.units + 64 < cLine) : OpR X (compareOp .Lt) rLtD := by
  intro pins s σ H x y v u Q I rx ry want
  obtain ⟨a, b, ha, hb, al, nn, dp, q⟩ := want
  obtain ⟨as, ra⟩ := ha.reads I.hok rx
  obtain ⟨bs, rb⟩ := hb.reads I.hok ry
  exact PySem.W.rcLt_alike a b _ _ _ _ _ _ ra rb al nn (by omega) X.prog X.w X.xe _ ⟨.bl _, H, I, rfl, q⟩
/-- x in c, c a tuple or a list -/
def rInD (f : Bool → Bool) : R2 := fun x y H Q => ∃ d ds, Cmp H x d ∧ (Dt H y (.tuple ds) ∨ Dt H y (.list ds)) ∧ PyData.plainAll ds = true ∧ Q (.bl (f (ds.any fun e => PyData.eqv e d))) H
theorem op_inD {X : Cx} (room : X.A.units + 64 < cLine) : OpR X (compareOp .In) (rInD id) := by
  intro pins s σ H x y v u Q I rx ry want
  obtain ⟨d, ds, hd, hc, pl, q⟩ := want
  obtain ⟨as, ra⟩ := hd.at_.reads I.hok rx
  have dp := hd.deep
  rcases hc with hc | hc
  · obtain ⟨bs, rb⟩ := hc.reads I.hok ry
    exact PySem.SeqAt.in_tuple_data rb ra pl hd.plain (by omega) ⟨.bl _, H, I, rfl, q⟩
  · obtain ⟨bs, rb⟩ := hc.reads I.hok ry
    exact PySem.SeqAt.in_list_data rb ra pl hd.plain (by omega) ⟨.bl _, H, I, rfl, q⟩
theorem op_notInD {X : Cx} (room : X.A.units + 64 < cLine) : OpR X (compareOp .NotIn) (rInD not) := by
  intro pins s σ H x y v u Q I rx ry want
  obtain ⟨d, ds, hd, hc, pl, q⟩ := want
  obtain ⟨as, ra⟩ := hd.at_.reads I.hok rx
  have dp := hd.deep
  rcases hc with hc | hc
  · obtain ⟨bs, rb⟩ := hc.reads I.hok ry
    exact PySem.SeqAt.notIn_tuple_data rb ra pl hd.plain (by omega) ⟨.bl _, H, I, rfl, q⟩
  · obtain ⟨bs, rb⟩ := hc.reads I.hok ry
    exact PySem.SeqAt.notIn_list_data rb ra pl hd.plain (by omega) ⟨.bl _, H, I, rfl, q⟩

/-! ### sorted -/
theorem each_of {R : Value → V × PyData → Prop} : ∀ {bs : List (V × PyData)} {us : List Value}, Vals (bs.map (·.1)) us → (∀ b ∈ bs, ∀ u, RelV b.1 u → R u b) → PySem.W.EachIs R us bs
  | [], _, .nil, _ => .nil
  | b :: bs, _, .cons r t, k => .cons (k b List.mem_cons_self _ r) (each_of t fun c hc => k c (List.mem_cons_of_mem _ hc))
theorem vals_each : ∀ {bs : List (V × PyData)} {us : List Value}, PySem.W.EachIs (fun u b => RelV b.1 u) us bs → Vals (bs.map (·.1)) us
  | [], _, .nil => .nil
  | b :: bs, _, .cons r t => .cons r (vals_each t)
/-- sorted(xs): bs are the list's items with what they are; the new list has them in their order -/
def rSortedD (K : PySem.W.Frag) : List V → Hp → VK → Prop := fun vs H Q => ∃ (a : Addr) (bs : List (V × PyData)), vs = [.ref a] ∧ SqL K H a (bs.map (·.1)) ∧ (∀ b ∈ bs, Dt H b.1 b.2 ∧ b.2.depth ≤ 40) ∧
  PySem.W.AllAlike (bs.map (·.2)) ∧ PySem.W.Sortable (bs.map (·.2)) ∧ Al Q (.lst ((bs.mergeSort (PySem.W.dataLe false (·.2))).map (·.1))) H
theorem cr_sortedD {X : Cx} {K : PySem.W.Frag} (hK : X.K = K) (room : X.A.units + 64 < cLine) : CallR X (.builtin "sorted") (rSortedD K) := by
  subst hK
  intro pins s σ H vs us Q I r want
  obtain ⟨a, bs, rfl, sq, each, al, so, q⟩ := want
  obtain ⟨its, rv, hl, hz⟩ := I.list sq
  rw [Vals.ref1 r]
  have e1 : PySem.W.EachIs (fun u b => RelV b.1 u) its bs := each_of rv fun _ _ _ h => h
  have e2 : PySem.W.EachIs (fun u b => ∃ as, Reads s.heap u b.2 as) its bs := each_of rv fun b hb u h => (each b hb).1.reads I.hok h
  have len : bs.length ≤ sizeLine := by simpa using hz
  refine PySem.W.sorted_data (enc := (·.2)) hl.isList e1 e2 al so len (fun b hb => by have := (each b hb).2; omega) fun out h1 h2 => ?_
  obtain ⟨ep, he⟩ := PyProof.Rows.sortedAll_at s.heap its out.toArray
  have size : ((bs.mergeSort (PySem.W.dataLe false (·.2))).map (·.1)).length ≤ sizeLine := by
    rw [List.length_map, List.length_mergeSort]
    exact len
  refine ⟨.ref _, upd H (s.heap.objs.size + 1) (.lst ((bs.mergeSort (PySem.W.dataLe false (·.2))).map (·.1))), I.laid (t' := s.toks) (fun _ _ => PyProof.Rows.sortedAll_old) (Nat.le_succ _) ⟨size, out, ep, vals_each h2, by simpa using he⟩, rfl, q _ (I.hok.fresh (Nat.le_succ _))⟩
end Ver
/-! An own error over ValueError whose __init__ says super().__init__(text) and keeps its one argument in a field. -/
namespace PySem
namespace SupX
open PySem.W PySem.Calls PyProof.Rows PySem.HandSPX L2
/-- what the text of such an __init__ is -/
structure Ini (st : Stmt) (fld par : Str) : Prop where
  body : ∃ (txt : Str) (kk : Nat) (p0 p1 p2 p3 p4 p5 p6 p7 p8 p9 : Pos), (p2.endLine == p4.line) = true ∧ defBody st = [.Expr (.Call (.Attribute (.Call (.Name "super" p0) [] [] p1) "__init__" p2) [.Constant (.str txt) kk p3] [] p4) p5, .Assign [.Attribute (.Name "self" p6) fld p7] (.Name par p8) p9]
  par0 : ∃ (an : Option Expr) (q : Pos), ((defArgs st).posonlyargs ++ (defArgs st).args).head? = some { arg := "self", annotation := an, pos := q }
  kd : (defScope st).kind = .function
  co : (defScope st).isCoroutine = false
  ge : (defScope st).isGenerator = false
  cel : ∀ x ∈ (defScope st).names, x.2 ≠ .cell
  sS : (defScope st).names.lookup ("super" : Str) = some .globalImplicit
  sC : (defScope st).names.lookup ("__class__" : Str) = some .free
  sI : (defScope st).names.lookup ("self" : Str) = some .local
  sP : (defScope st).names.lookup par = some .local
  ne : par ≠ "self"
  db : (par == ("__debug__" : Str)) = false
  bnd : ∀ (qual : Str) (cc : Addr) (kV doc pm cdv ct : Value) (an : Option Addr) (s : Shared) (a b : Value), BindsTo s (fnX "__init__" qual (defArgs st) (defBody st) (defScope st) [("__class__", cc)] .none kV doc pm an cdv ct) ⟨[a, b], []⟩ [("self", a), (par, b)]
/-- what the written part says of the class called cn, at C, and of its __init__, at fI -/
structure Txt (P : Program) (K : Frag) (mg : Str → Option Value) (cn : Str) (st : Stmt) (fld par : Str) (C fI : Addr) : Prop where
  ini : Ini st fld par
  gC : mg cn = some (.ref C)
  noS : mg "super" = none
  cls : ∃ (nm q : Str) (N : Addr) (bs bm : List Value) (sn : List Str) (sub : List Value) (ab : Bool) (col : Option Bool) (dd : Option Addr) (k0 k1 k2 k3 k5 : Option Value), K.lookup C = some (excClassObj nm q C N bs bm true sn sub ab col dd k0 k1 k2 k3 k5 "ValueError.__new__") ∧ refsVE bm = true
  sa : findIn K (.ref C) "__setattr__" = some (some (.builtin "object.__setattr__"))
  ga : findIn K (.ref C) "__getattribute__" = some (some (.builtin "BaseException.__getattribute__"))
  gg : findIn K (.ref C) "__getattr__" = some none
  noN : findIn K (.ref C) fld = some none
  iC : findIn K (.ref C) "__init__" = some (some (.ref fI))
  tC : typeIn K (.ref fI) = some (.type "function")
  kC : keepIn K (.ref C) = true
  exC : subIn K (.ref C) (.type "BaseException") = some true
  tyC : typeIn K (.ref C) = some (.type "type")
  hdC : hasDictIn K C = true
  vE : subIn K (.ref C) (.type "ValueError") = some true
  slf : mroIn K C (.ref C) = some true
  sup : ks_superIn K C C "__init__" = some (some (.builtin "ValueError.__init__"))
  opq : nsIn K cStatics "thirdparty.any" = some none
  top : (P.main.scope.names.lookup ("super" : Str)).isSome = false
  fn : ∃ (oc : Value) (od : Option Addr) (qual : Str) (cc : Addr) (kV doc pm ct : Value) (an : Option Addr) (cda : Addr) (osl : Array (Option Value)), K.lookup fI = some ⟨oc, od, .func (fnX "__init__" qual (defArgs st) (defBody st) (defScope st) [("__class__", cc)] .none kV doc pm an (.ref cda) ct), osl⟩ ∧ codeIn K (.ref cda) qual = true ∧
    (∃ (cl : Value) (cld : Option Addr) (csl : Array (Option Value)), K.lookup cc = some ⟨cl, cld, .cell (some (.ref C)), csl⟩) ∧
    ∃ (ccl : Value) (cdd : Option Addr) (vs : Array Value) (ccs : Array (Option Value)) (file : Str) (tf : Tok), K.lookup cda = some ⟨ccl, cdd, .fields vs, ccs⟩ ∧ vs[2]? = some (.str file tf) ∧ ((P.main.file : Str) == file) = true

/-- what __init__ leaves of a new error at x: its dict at dx -/
structure Left (fld : Str) (h h' : Heap) (x C dx t1 : Addr) (v : Value) : Prop where
  keep : ∀ b o, b ≠ x → h.get? b = some o → h'.get? b = some o
  obj : h'.get? x = some { cls := .ref C, dict := some dx, data := .fields #[.ref t1, .none, .none, .none, .bool false, .none] }
  dbig : h.objs.size ≤ dx
  dne : dx ≠ x
  ns : h'.Ns1 dx (fun y => if y = fld then some v else none)
/-- an error that was made -/
structure Made (fld : Str) (h h' : Heap) (e C d : Addr) (v : Value) : Prop where
  keep : ∀ b o, h.get? b = some o → h'.get? b = some o
  new : h.objs.size ≤ e
  obj : ∃ oe vs, h'.get? e = some oe ∧ oe.cls = .ref C ∧ oe.dict = some d ∧ oe.data = .fields vs ∧ vs[1]? = some .none
  dbig : h.objs.size ≤ d
  dne : d ≠ e
  ns : h'.Ns1 d (fun y => if y = fld then some v else none)
section
variable {prog : Program} {w : World} {A : Around} {E : Value → Shared → Prop} {R : Result → Shared → Prop} {s : Shared} {K : Frag} {mg mb : Str → Option Value} {C fI : Addr} {cn fld par : Str} {st : Stmt}
/-- o.m(e), on one line -/
theorem meth_eq {o : Expr} {name : Str} {apos pos p3 : Pos} {env : Env} {txt : Str} {kk : Nat} (hl : (apos.endLine == pos.line) = true) :
    eval (.Call (.Attribute o name apos) [.Constant (.str txt) kk p3] [] pos) env = (do
      let ov ← attributeBase o name env (eval o env)
      standAt apos.atName
      let (f, first) ← holding [ov] (getMethod ov name (do return (← importBound o env).getD true))
      callWith pos f first (backTo pos (starEach [.Constant (.str txt) kk p3] env)) []) := by
  rw [arm_eval_Call]
  have form : methodCallForm (List.length [Expr.Constant (.str txt) kk p3] + List.length ([] : List Keyword)) (backTo pos (starEach [.Constant (.str txt) kk p3] env)) (backToKw pos (keywordEach [] env)) = true := rfl
  have at_ : methodCallPos true o env apos pos = pure pos := by unfold methodCallPos; simp [hl]
  unfold methodCall
  rw [form, at_]
  unfold calleeOf
  simp only [if_true, pure_bind]
  rfl
/-- the bound ValueError.__init__ is called -/
theorem wrapped {h : Heap} {g : Array GenState} {dr : Drawn} {tk : Nat} {os : OsState} {u x t0 : Addr} {us : List Value} {Q : Value → Shared → Prop} (T : Txt prog K mg cn st fld par C fI) (X : K.In h)
    (hx : h.get? x = some (excO C t0)) (hu : h.get? u = some (kxs_mw "ValueError.__init__" x)) (hl : us.length ≤ sizeLine)
    (k : ∀ h' t1, (∀ b o, b ≠ x → h.get? b = some o → h'.get? b = some o) → h'.get? x = some (excO C t1) → Q .none ⟨h', g, dr, tk, os⟩) :
    wpAny (model prog w) A (call (.ref u) us) Q E ⟨h, g, dr, tk, os⟩ := by
  obtain ⟨nm, q, N, bs, bm, sn, sub, ab, col, dd, k0, k1, k2, k3, k5, hC, hbm⟩ := T.cls
  have FB := F.excBase_ValueError
  refine wpAny_call (codeAny_of_tree ?_)
  show wpAny _ A.in1 (callAny (.ref u) ⟨us, []⟩) _ _ _
  unfold callAny
  refine wpAny_bind (wpAny_load hu ?_)
  have t1 : (Value.type "method-wrapper" == Value.type "method") = false := by decide
  have t2 : (Value.type "method-wrapper" == Value.type "builtin_function_or_method") = false := by decide
  have t3 : (Value.type "method-wrapper" == Value.type "method-wrapper") = true := by decide
  simp only [kxs_mw, t1, t2, t3, Bool.false_or, if_true]
  refine KFB.if_so (by decide) ?_
  refine wpAny_bind (check_bound_init FB.toExcCallFacts (X _ _ hC) hx rfl ?_)
  refine wpAny_bind (wpAny_pure (wpAny_pure ?_))
  refine And.intro (plainId_quiet FB.init.plain _) (codeAny_builtin FB.initEntry ?_)
  exact exc_init_tree (cls := .ref C) (t0 := t0) (dv := none) (c2 := .none) (c3 := .none) (b4 := .bool false) hx hl fun h' b1 b2 _ => k h' _ b1 b2
/-- __init__(x, v) on a new error at x -/
theorem init_ {x t0 : Addr} {v : Value} (T : Txt prog K mg cn st fld par C fI) (X : K.In s.heap) (G : s.heap.Ns mainGlobals mg) (B : s.heap.Ns builtinsNs mb) (hb : mb "super" = some (.type "super")) (hlim : s.heap.NoLimit)
    (hx : s.heap.get? x = some (excO C t0)) (hnx : K.lookup x = none) (hroom : A.depth < recursionLimit)
    (hq : ∀ h' tk dx t1, Left fld s.heap h' x C dx t1 v → R (.ok (.ret .none)) { s with heap := h', toks := tk }) :
    codeAny (model prog w) A (.call (.ref fI) ⟨[.ref x, v], []⟩) R s := by
  obtain ⟨oc, od, qual, cc, kV, doc, pm, ct, an, cda, osl, lk, hcd, ⟨cl, cld, csl, hcell⟩, ccl, cdd, vs, ccs, file, tf, hcode, hvs, hfile⟩ := T.fn
  obtain ⟨txt, kk, p0, p1, p2, p3, p4, p5, p6, p7, p8, p9, hline, hbody⟩ := T.ini.body
  obtain ⟨an0, q0, hp⟩ := T.ini.par0
  obtain ⟨nm, q, N, bs, bm, sn, sub, ab, col, dd, k0, k1, k2, k3, k5, hC, hbm⟩ := T.cls
  have hcl : clsIn K C = some { name := nm, bases := bs, mro := .ref C :: bm, ns := N, qualname := q, hasDict := true, slotNames := sn, subclasses := sub, abstract := ab, collection := col, hasDel := false } := by unfold clsIn; rw [hC] <;> rfl
  have hsup := T.sup
  unfold ks_superIn at hsup
  rw [hcl] at hsup
  obtain ⟨hp0, g, dr, tk, os⟩ := s
  refine ks_codeAny_call_defAt (binds := [("self", .ref x), (par, v)]) hroom (X _ _ lk) rfl hlim (codeRec_of X hcd) rfl (T.ini.bnd qual cc kV doc pm (.ref cda) ct an _ _ _) T.ini.cel (fun y hy => ?_) (fun h₁ hns k => ?_) T.ini.co T.ini.ge T.ini.kd
  · rcases List.mem_cons.mp hy with rfl | hy
    · exact T.ini.sI
    · rcases List.mem_cons.mp hy with rfl | hy
      · exact T.ini.sP
      · cases hy
  have X1 : K.In h₁ := X.keeps k
  have hx1 := k _ _ hx
  have I1 : InstAt h₁ x (excO C t0) C none := ⟨hx1, rfl, rfl, trivial⟩
  have L1 : hp0.objs.size ≠ x := Nat.ne_of_gt (Heap.lt_size hx)
  have mS : (fun y => (List.reverse [(("self" : Str), Value.ref x), (par, v)]).lookup y) "self" = some (.ref x) := by
    show (List.lookup ("self" : Str) [(par, v), ("self", Value.ref x)]) = _
    have z : (("self" : Str) == par) = false := by simpa using Ne.symm T.ini.ne
    simp only [List.lookup, z, beq_self_eq_true]
  have mP : (fun y => (List.reverse [(("self" : Str), Value.ref x), (par, v)]).lookup y) par = some v := by
    show (List.lookup par [(par, v), ("self", Value.ref x)]) = _
    simp only [List.lookup, beq_self_eq_true]
  have env_in : interactive (callEnv (fnX "__init__" qual (defArgs st) (defBody st) (defScope st) [("__class__", cc)] .none kV doc pm an (.ref cda) ct) hp0.objs.size fI) = false := by
    show ((defScope st).kind == .module && _) = false
    rw [T.ini.kd]
    rfl
  generalize hE : callEnv (fnX "__init__" qual (defArgs st) (defBody st) (defScope st) [("__class__", cc)] .none kV doc pm an (.ref cda) ct) hp0.objs.size fI = env at env_in ⊢
  have eF : env.func = some fI := by rw [← hE]; rfl
  have eC : env.code = .ref cda := by rw [← hE]; rfl
  have eS : env.scope = defScope st := by rw [← hE]; rfl
  have eL : env.locals = hp0.objs.size := by rw [← hE]; rfl
  have eG : env.globals = mainGlobals := by rw [← hE]; rfl
  have eB : env.builtins = builtinsNs := by rw [← hE]; rfl
  have eX : env.cells.lookup ("__class__" : Str) = some cc := by rw [← hE]; rfl
  have kS : env.kindOf "super" = some .globalImplicit := by show env.scope.names.lookup _ = _; rw [eS]; exact T.ini.sS
  have kC : env.kindOf "__class__" = some .free := by show env.scope.names.lookup _ = _; rw [eS]; exact T.ini.sC
  have kI : env.kindOf "self" = some .local := by show env.scope.names.lookup _ = _; rw [eS]; exact T.ini.sI
  have kP : env.kindOf par = some .local := by show env.scope.names.lookup _ = _; rw [eS]; exact T.ini.sP
  have kK : env.scope.kind = .function := by rw [eS]; exact T.ini.kd
  have n1 : h₁.Ns env.locals (fun y => (List.reverse [(("self" : Str), Value.ref x), (par, v)]).lookup y) := by rw [eL]; exact hns
  rw [hbody]
  refine ks_wpAt_execs_cons (ks_wpAt_Expr_any (ks_wpAt_MethodCall (pl := (do return (← importBound (.Call (.Name "super" p0) [] [] p1) env).getD true)) ?_ (meth_eq hline)) env_in)
  refine ks_wpAt_super_base (file := file) (tf := tf) kS kC (by decide) eF (X1 _ _ lk) rfl hp eC (X1 _ _ hcode) rfl hvs hfile T.top ?_
  refine ks_loadName_global kK kS (loadGlobal_builtin (mg := mg) (mb := mb) (by rw [eG]; exact G.keeps k) T.noS (by rw [eB]; exact B.keeps k) hb (And.intro rfl ?_))
  refine wpAny_loadName_free kK kC eX ⟨_, X1 _ _ hcell, rfl⟩ ?_
  refine wpAny_loadName_local kK kI n1 mS ?_
  obtain ⟨oD, hD1, hD2⟩ : ∃ oD, h₁.get? C = some oD ∧ ∃ cd, oD.data = .cls cd := ⟨_, X1 _ _ hC, _, rfl⟩
  obtain ⟨cdD, hD2⟩ := hD2
  refine ks_wpAny_isType_cls hD1 hD2 (And.intro rfl ?_)
  refine ks_wpAny_call_super hD1 hD2 hx1 rfl (fun c e => by cases e) (looks_mroIn X1 T.slf) (fun h2 e2 k2 => ?_)
  have X2 : K.In h2 := X1.keeps k2
  have hx2 := k2 _ _ hx1
  have I2 : InstAt h2 x (excO C t0) C none := ⟨hx2, rfl, rfl, trivial⟩
  refine kxs_getMethod kxs_ValueError e2 (looks_opaque X2 T.opq) ((looks_clsIn X2 hcl).andThen .now) rfl X2 hsup (I2.type.andThen (looks_subIn X2 T.vE)) (ks_ne X2 I2 hcl) (by decide) ?_
  have k3 : ∀ b o, h2.get? b = some o → (h2.push (kxs_mw "ValueError.__init__" x)).get? b = some o := fun b o e => Heap.get?_push_of_some _ e
  have hu3 : (h2.push (kxs_mw "ValueError.__init__" x)).get? h2.objs.size = some (kxs_mw "ValueError.__init__" x) := Heap.get?_push_at rfl rfl
  refine kxs_callWith (i := "ValueError.__init__") (x := x) rfl (evalArgs_plain (Calls.spliced_cons (Calls.Constant_str (x := txt) (k := kk) (pos := p3) (Calls.spliced_nil (And.intro hu3 ?_)))))
  refine wrapped T (X2.keeps k3) (k3 _ _ hx2) hu3 (by show 1 ≤ sizeLine; decide) fun h4 t4 k4 hx4 => ?_
  have up : ∀ b o, b ≠ x → h₁.get? b = some o → h4.get? b = some o := fun b o n e => k4 b o n (k3 _ _ (k2 _ _ e))
  have n4 : h4.Ns env.locals (fun y => (List.reverse [(("self" : Str), Value.ref x), (par, v)]).lookup y) := by
    rw [eL]
    obtain ⟨o, es, ep, ho, hr⟩ := hns
    exact ⟨o, es, ep, up _ _ L1 ho, hr⟩
  have X4 : K.In h4 := fun a o e => up a o (fun z => by rw [z, hnx] at e; cases e) (X1 _ _ e)
  refine ks_wpAt_execs_cons (wpAt_of_wpAny (plainObj_wpAny_Assign_Attribute ?_))
  refine wpAny_Name (wpAny_loadName_local kK kP n4 mP ?_) T.ini.db
  refine wpAny_Name (wpAny_loadName_local kK kI n4 mS ?_) (by decide)
  refine set_plain X4 (ox := excO C t4) (od := none) ⟨hx4, rfl, rfl, trivial⟩ T.sa ?_
  refine exc_osa X4 hx4 hcl (show refsVE (.ref C :: bm) = true from hbm) rfl T.noN (fun h5 tk5 dx k5 dn dne hx5 hn5 => ?_)
  refine wpAt_of_wpAny (wpAny_execs_nil (hq h5 tk5 dx t4 ⟨fun b o n e => k5 b o n (up b o n (k b o e)), hx5, ?_, dne, hn5⟩))
  have z : hp0.objs.size < h4.objs.size := by
    have := n4.lt
    rwa [eL] at this
  exact Nat.le_of_lt (Nat.lt_of_lt_of_le z dn)
/-- C(v) -/
theorem made_ {v : Value} (T : Txt prog K mg cn st fld par C fI) (X : K.In s.heap) (G : s.heap.Ns mainGlobals mg) (B : s.heap.Ns builtinsNs mb) (hb : mb "super" = some (.type "super")) (hlim : s.heap.NoLimit) (hroom : A.depth + 1 < recursionLimit)
    (hq : ∀ h' tk e d, Made fld s.heap h' e C d v → R (.ok (.ret (.ref e))) { s with heap := h', toks := tk }) :
    codeAny (model prog w) A (.call (.ref C) ⟨[v], []⟩) R s := by
  obtain ⟨nm, q, N, bs, bm, sn, sub, ab, col, dd, k0, k1, k2, k3, k5, hC, hbm⟩ := T.cls
  obtain ⟨hp, g, dr, tk, os⟩ := s
  have k : ∀ b o, hp.get? b = some o → ((hp.push (kdv_tup [v])).push (excO C hp.objs.size)).get? b = some o := fun b o e => Heap.get?_push_of_some _ (Heap.get?_push_of_some _ e)
  have hget : ((hp.push (kdv_tup [v])).push (excO C hp.objs.size)).get? (hp.objs.size + 1) = some (excO C hp.objs.size) := by heap_get
  have hnx : K.lookup (hp.objs.size + 1) = none := by
    cases e : K.lookup (hp.objs.size + 1) with
    | none => rfl
    | some o =>
      have z : hp.get? (hp.objs.size + 1) = some o := X _ _ e
      exact absurd (Nat.lt_of_succ_lt (Heap.lt_size z)) (Nat.lt_irrefl _)
  refine call_own F.excBase_ValueError (fun Y => refsVE_contains Y bm hbm) (X _ _ hC) (looks_findIn X T.iC) (fun self => bind_fn X self T.tC) (by show 1 ≤ sizeLine; decide) ?_
  refine init_ (mg := mg) (mb := mb) (s := ⟨(hp.push (kdv_tup [v])).push (excO C hp.objs.size), g, dr, tk, os⟩) T (X.keeps k) (G.keeps k) (B.keeps k) hb (hlim.keeps k) hget hnx ?_ fun h' tk' dx t1 ⟨k', hx, dn, dne, hns⟩ => ?_
  · show A.depth + 1 < recursionLimit
    exact hroom
  · have old : ∀ b o, hp.get? b = some o → h'.get? b = some o := fun b o e => k' b o (Nat.ne_of_lt (Nat.lt_succ_of_lt (Heap.lt_size e))) (k b o e)
    have z : hp.objs.size + 1 + 1 ≤ dx := by
      first
        | (simpa only [Heap.size_push] using dn)
        | exact dn
        | (have q := dn; rw [Heap.size_push, Heap.size_push] at q; exact q)
    exact ⟨rfl, hq h' tk' (hp.objs.size + 1) dx ⟨old, Nat.le_succ _, ⟨_, _, hx, rfl, rfl, rfl, rfl⟩, Nat.le_trans (Nat.le_trans (Nat.le_succ _) (Nat.le_succ _)) z, dne, hns⟩⟩
end
end SupX
end PySem
namespace Ver
open PySem PySem.Spec PyProof.Rows L2
section
variable {X : Cx} {C fI : Addr} {cn fld par : Str} {st : Stmt}
theorem relO_fld {v : V} {v' : Value} (r : RelV v v') (fld f : Str) : RelO (List.lookup f [(fld, v)]) (if f = fld then some v' else none) := by
  by_cases hw : f = fld
  · subst hw
    rw [if_pos rfl]
    have q : List.lookup f [(f, v)] = some v := by simp [List.lookup]
    rw [q]
    exact r
  · rw [if_neg hw]
    have qw : (f == fld) = false := by simpa using hw
    have q2 : List.lookup f [(fld, v)] = none := by simp [List.lookup, qw]
    rw [q2]
    trivial
/-- C(e): the new error's own dict d holds its field -/
def tMkSup (fld : Str) (C : Addr) (ta : TA) : L2.St → Hp → XK → Prop := fun σ H Q => ta σ H fun vs H1 => ∃ v, vs = [v] ∧ ∀ d, H1 d = none → Q (.ref C) (some d) (upd H1 d (.xd [(fld, v)]))
theorem pmk_sup {a : Expr} {ta : TA} {p pos : Pos} {k : Nat} (T : PySem.SupX.Txt X.prog X.K X.mg cn st fld par C fI) (hr : Room k X.A) (ha : PA X [a] ta) (hg : Gl X cn) (hdb : (cn == ("__debug__" : Str)) = false := by decide)
    (he : starEach (a :: []) X.env = (false, eval a X.env) :: starEach [] X.env := by rfl) (hpl : (backTo pos (starEach [] X.env)).any (·.1) = false := by rfl) :
    PMk X (.Call (.Name cn p) [a] [] pos) (tMkSup fld C ta) := by
  intro pins s σ H Q I h
  refine wpAny_Call_Name_kw (ld_glob I hg T.gC ?_ hdb)
  refine PySem.W.callWith_K (h₀ := X.base) I.ok.mod.kin T.kC (thn (ha.run pos pins s σ H _ I h) fun us s1 hh => ?_) he hpl
  obtain ⟨vs, H1, I1, r1, v, ev, q1⟩ := hh
  subst ev
  refine ⟨I1.kIn, ?_⟩
  cases r1 with
  | cons rv rn =>
    rename_i v' us'
    cases rn
    show wpAny _ _ (call (.ref C) [v']) _ _ _
    have hlim := I1.nolimit
    obtain ⟨mb, hmb, hbt⟩ := I1.ok.mod.blt
    have bk := I1.bk
    have G := I1.ok.mod.glob.keeps bk
    have B := hmb.keeps bk
    have hb : mb "super" = some (.type "super") := (hbt "super" (by decide)).trans PyProof.Rows.Boot.«super»
    obtain ⟨hp, g, dr, tk, os⟩ := s1
    refine wpAny_call (PySem.SupX.made_ (mg := X.mg) (mb := mb) T I1.kIn G B hb hlim (by have := hr.dp; omega) fun h' tk' e d M => ?_)
    show MkP X pins σ Q (.ref e) ⟨h', g, dr, tk', os⟩
    obtain ⟨oe, fv, hoe, hc, hd, hdat, h1⟩ := M.obj
    have hns := M.ns
    obtain ⟨G', g1, g2⟩ := restrict h' fun b => decide (b ≠ e)
    have gk : ∀ b, b ≠ e → G'.get? b = h'.get? b := fun b hb => g1 b (decide_eq_true hb)
    have ge : G'.get? e = none := g2 e (by simp)
    have old : ∀ b o, hp.get? b = some o → G'.get? b = some o := fun b o q => (gk b (Nat.ne_of_lt (Nat.lt_of_lt_of_le (Heap.lt_size q) M.new))).trans (M.keep b o q)
    have ob : ObjOk X.prog X.w (upd H1 d (.xd [(fld, v)])) G' d (.xd [(fld, v)]) :=
      ⟨_, hns.at (fun o q => (gk d M.dne).trans q), fun f => relO_fld rv fld f⟩
    have J : Inv X pins σ (upd H1 d (.xd [(fld, v)])) ⟨G', g, dr, tk', os⟩ := I1.laid (t' := tk') old M.dbig ob
    refine ⟨e, oe, fv, ⟨G', g, dr, tk', os⟩, _, .ref C, some d, rfl, J, fun b o q => ?_, ge, hoe, ⟨hc, hd⟩, hdat, h1, ?_, rfl, I1.bare, raises_own T.exC T.tyC, q1 d (I1.hok.fresh M.dbig)⟩
    · by_cases hb : b = e
      · have q' : G'.get? b = some o := q
        rw [hb, ge] at q'; cases q'
      · exact (gk b hb).symm.trans q
    · rw [upd_ne (Ne.symm M.dne)]
      exact I1.hok.fresh M.new
/-- raise C(e) -/
def tRaiseSup (fld : Str) (C : Addr) (W : WX) (ta : TA) : TS := fun _ σ H => tMkSup fld C ta σ H fun cls d H' => W cls d σ H'
theorem ps_raiseSup {a : Expr} {ta : TA} {W : WX} {p pos pos2 : Pos} {k : Nat} (hc : X.calm = true) (T : PySem.SupX.Txt X.prog X.K X.mg cn st fld par C fI) (hr : Room k X.A) (tk : Takes X W) (ha : PA X [a] ta) (hg : Gl X cn) (hdb : (cn == ("__debug__" : Str)) = false := by decide)
    (he : starEach (a :: []) X.env = (false, eval a X.env) :: starEach [] X.env := by rfl) (hpl : (backTo pos (starEach [] X.env)).any (·.1) = false := by rfl) :
    PS X (.Raise (some (.Call (.Name cn p) [a] [] pos)) none pos2) (tRaiseSup fld C W ta) := ps_raise hc tk (pmk_sup T hr ha hg hdb he hpl)
theorem sup_xf {P : Program} {K : PySem.W.Frag} {mg : Str → Option Value} (T : PySem.SupX.Txt P K mg cn st fld par C fI) : XfC K C := ⟨T.ga, T.gg, T.exC, T.hdC⟩
end
end Ver
/-! Defs that are handed the error that a suite holds; calls by names that may raise; isinstance of such an error. -/
namespace Ver
open PySem PySem.Spec PyProof.Rows L2

/-! ### f(k = v, ..), where f may raise -/
section
variable {X : Cx} {C : CXT} {k n : Nat} {f : Addr} {fd : FuncData} {ps ks : List Str} {sp : Sp} {E : L2.St → XK} {x : Str} {p pos : Pos} {kws : List Keyword} {tk : TA} {g : List Value → List Value → List Value} {gV : List V → List V → List V}
def tCallSN (n m : Nat) (sp : Sp) (gV : List V → List V → List V) (E : L2.St → XK) (t tk : TA) : TE := fun σ H Q => t σ H fun vs H1 => tk σ H1 fun zs H2 => vs.length = n ∧ zs.length = m ∧ sp (gV vs zs) H2 Q (E σ)
theorem pe_callSN0 (F : FnOk X.prog X.w X.K X.mg X.base C k f fd ps sp) (room : Room k X.A) (hg : Gl X x) (hm : X.mg x = some (.ref f)) (kp : PySem.W.keepIn X.K (.ref f) = true) (hb : KBn X.K fd ps 0 ks g gV) (hx : ∀ σ, PassesAt C X σ (E σ))
    (hkw : PK X kws tk) (hall : (backToKw pos (keywordEach kws X.env)).all (·.1.isSome) = true := by rfl) (hks : (backToKw pos (keywordEach kws X.env)).filterMap (·.1) = ks := by rfl) (hd : (x == ("__debug__" : Str)) = false := by decide)
    (hp : ((backTo pos (starEach [] X.env)).any (·.1) || (backToKw pos (keywordEach kws X.env)).any (·.1.isNone)) = false := by rfl) : PE X (.Call (.Name x p) [] kws pos) (tCallSN 0 ks.length sp gV E tNil tk) := by
  constructor
  intro pins s σ H Q I want
  refine wpAny_Call_Name_kw (ld_glob I hg hm ?_ hd)
  refine PySem.W.callWith_KW0 (h₀ := X.base) I.ok.mod.kin kp hall ?_ hp
  have want' : tk σ H fun zs H2 => ([] : List V).length = 0 ∧ zs.length = ks.length ∧ sp (gV [] zs) H2 Q (E σ) := want
  refine thn (hkw.run pos pins s σ H _ I want') ?_
  rintro ws s2 ⟨zs, H2, I2, rz, l1, l2, q⟩
  refine ⟨I2.kIn, ?_⟩
  rw [hks]
  have rel := hb.rel (vs := []) (us := []) .nil rz
  refine wpAny_call (codeAny_mono (F.run X.A X.stack s2 H2 ⟨[], ks.zip ws⟩ (g [] ws) (gV [] zs) Q (E σ) room I2.env0 (hb.to s2 [] ws I2.kIn rfl (rz.length.symm.trans l2)) rel q) ?_)
  intro r s3 h
  match r, h with
  | .error z, h => exact hx σ pins H2 s2 z s3 I2 h
  | .ok (.ret u), h => exact I2.after h
  | .ok .next, h => exact h.elim
  | .ok .brk, h => exact h.elim
  | .ok .cont, h => exact h.elim
theorem wCallSN {m : Nat} {σ : L2.St} {H : Hp} {Q : VK} {t : TA} (h : t σ H fun vs H1 => tk σ H1 fun zs H2 => vs.length = n ∧ zs.length = m ∧ sp (gV vs zs) H2 Q (E σ)) : tCallSN n m sp gV E t tk σ H Q := h
theorem wCallS {σ : L2.St} {H : Hp} {Q : VK} {t : TA} (h : t σ H fun vs H1 => sp vs H1 Q (E σ)) : tCallS sp E t σ H Q := h
end

/-! ### a def that is handed the error at p -/
/-- the context of such a def's body: an error is handled, p's object stands, nothing is raised -/
abbrev cxP (P : Program) (w : World) (K : PySem.W.Frag) (mg : Str → Option Value) (base : Heap) (N : List Str) (qual : Str) (sc : Scope) (f : Addr) (cdv : Value) (A : Around) (outer : List Env) (s : Shared) (H : Hp) (E : XK) (p : Addr × Obj) : Cx :=
  { cxOf CX0 P w K mg base N qual sc f cdv A outer s H E with calm := false, pn := [p], xe := fun _ _ => False }
structure FnP (P : Program) (w : World) (K : PySem.W.Frag) (mg : Str → Option Value) (base : Heap) (k : Nat) (f : Addr) (fd : FuncData) (ps : List Str) (sp : Addr × Obj → Sp) : Prop where
  arity : ∀ p vs H Q E, sp p vs H Q E → vs.length = ps.length
  goes : ∀ {A : Around} {outer : List Env} {s : Shared} {H : Hp} {args : Args} {us : List Value} {vs : List V} {Q : VK} {E : XK} {p : Addr × Obj},
    L2H.RoomH k A → L2H.PinOk outer H s p → Env0 P w K mg base A outer s H → BindsTo s fd args (ps.zip us) → Vals vs us → sp p vs H Q E →
      codeAny (model P w) A (.call (.ref f) args) (CR CX0 outer P w H s Q E) s
section
variable {P : Program} {w : World} {K : PySem.W.Frag} {mg : Str → Option Value} {base : Heap} {k : Nat} {f : Addr} {ps N : List Str} {sp : Addr × Obj → Sp}
theorem start_P {qual : Str} {sc : Scope} {cdv : Value} {A : Around} {outer : List Env} {s s1 : Shared} {H : Hp} {E : XK} {us : List Value} {vs : List V} {p : Addr × Obj} (S : FnScope N ps sc) (pin : L2H.PinOk outer H s p) (e0 : Env0 P w K mg base A outer s H) (count : vs.length = ps.length) (rel : Vals vs us)
    (x : InCallC s s.heap.objs.size (bindL (envOfC qual sc s.heap.objs.size f cdv).kindOf (ps.zip us) fun _ => none) (cellsFrom (s.heap.objs.size + 1) sc.names []) (bindC (envOfC qual sc s.heap.objs.size f cdv).kindOf (ps.zip us) fun _ => none) s1) :
    Inv (cxP P w K mg base N qual sc f cdv A outer s H E p) [] (L2.start N vs) H s1 := by
  have e1 : Env0 P w K mg base { A with handled := none } outer s H := ⟨e0.frames, e0.mod, e0.bs, e0.bsz, e0.funs, e0.frf, e0.hok, e0.bare⟩
  have I := inv_start (CX := CX0) (E := E) S (A := { A with handled := none }) rfl e1 count rel x
  have ok := I.ok
  refine ⟨⟨ok.mod, ok.kind, ok.glob, ok.blt, ok.above, ok.inj, ok.has, ok.cab, fun z => Bool.noConfusion (show false = true from z), Around.frames_deeper e0.frames, ok.stk, ok.exf, ok.bs, ok.bsz, ok.noex, ok.exfs, ok.funs, ok.frf⟩,
    I.os, I.bare, I.base, I.loc, I.cell, I.free, I.freeC, fun q hq => ?_, I.hok, I.len⟩
  obtain rfl : q = p := by simpa using (show q ∈ [p] ++ ([] : List (Addr × Obj)) from hq)
  exact ⟨x.toInCall.keep _ _ pin.get, pin.free, Nat.ne_of_lt (Heap.lt_size pin.get), pin.nofs, pin.nocell⟩
theorem pinFn {x qual : Str} {par : Arguments} {body : List Stmt} {sc : Scope} {dV kV doc pm cdv ct oc : Value} {an od : Option Addr} {osl : Array (Option Value)}
    (lk : K.lookup f = some ⟨oc, od, .func (PySem.W.fnOf x qual par body sc dV kV doc pm an cdv ct), osl⟩) (code : PySem.W.codeIn K cdv qual = true) (S : FnScope N ps sc)
    (arity : ∀ p vs H Q E, sp p vs H Q E → vs.length = ps.length)
    (reads : ∀ (A : Around) (outer : List Env) (s : Shared) (H : Hp) (vs : List V) (Q : VK) (E : XK) (p : Addr × Obj), L2H.RoomH k (A.deeper (envOfC qual sc s.heap.objs.size f cdv)) → sp p vs H Q E →
      ∃ t, PSs (cxP P w K mg base N qual sc f cdv A outer s H E p) body t ∧ t { nx := fun _ H1 => Q .non H1, rt := Q } (start N vs) H) :
    FnP P w K mg base (k + 1) f (PySem.W.fnOf x qual par body sc dV kV doc pm an cdv ct) ps sp := by
  constructor
  · exact arity
  · intro A outer s H args us vs Q E p room pin e0 bind rel want
    have count := arity _ _ _ _ _ want
    have same : ∀ b o, base.get? b = some o → s.heap.get? b = some o := fun b o e => (e0.bs b o e).1
    have inK := e0.mod.kin.keeps same
    have nolim := e0.mod.nolimit.keeps same
    have kinds : ∀ y ∈ ps.zip us, sc.names.lookup y.1 = some .local ∨ (sc.names.lookup y.1 = some .cell ∧ ((cellsFrom (s.heap.objs.size + 1) sc.names []).lookup y.1).isSome = true) := by
      rintro ⟨n, v⟩ hy
      refine (S.par n (List.of_mem_zip hy).1).imp id fun q => ⟨q, ?_⟩
      exact PySem.W.cellsFrom_some _ _ _ (.inl q)
    refine codeAny_call_function room.depth (inK _ _ lk) rfl S.co S.gen rfl (PySem.W.codeRec_of inK code) (bind _ _ _ _ ?_)
    refine wpAny_newFunctionEnv_cells S.kind kinds fun e he s1 x1 => ?_
    subst he
    refine ⟨nolim.keeps x1.toInCall.keep, codeAny_func ?_⟩
    obtain ⟨t, ht, hq⟩ := reads A outer s H vs Q E p (room.deeper _) want
    have I0 := start_P (E := E) S pin e0 count rel x1
    refine wpAny_mono (ht.run [] s1 _ H _ I0 hq) ?_ (fun e s2 h => h.elim)
    intro fl s2 h
    have out : ∀ {σ : L2.St} {H1 : Hp} {v : V} {u : Value}, Inv (cxP P w K mg base N qual sc f cdv A outer s H E p) [] σ H1 s2 → RelV v u → Q v H1 → CE outer P w H s Q u s2 := fun {σ H1 v u} J r q => ⟨v, H1, J.os, J.bare, J.base, J.hok, r, q⟩
    match fl, h with
    | .ret u, h =>
      obtain ⟨v, σ1, H1, J, rv, q⟩ := h
      exact out J rv q
    | .next, h =>
      obtain ⟨σ1, H1, J, q⟩ := h
      exact out (v := .non) (u := .none) J rfl q
    | .brk, h =>
      obtain ⟨_, _, _, q⟩ := h
      exact q.elim
    | .cont, h =>
      obtain ⟨_, _, _, q⟩ := h
      exact q.elim
end
theorem okP {P : Program} {w : World} {K : PySem.W.Frag} {mg : Str → Option Value} {base : Heap} {x qual : Str} {st : Stmt} {f : Addr} {fd : FuncData} {N ps : List Str} {k : Nat} {sp : Addr × Obj → Sp} (F : Fun K x qual st f fd) (S : FnScope N ps (defScope st))
    (arity : ∀ p vs H Q E, sp p vs H Q E → vs.length = ps.length)
    (reads : ∀ (cdv : Value) (A : Around) (outer : List Env) (s : Shared) (H : Hp) (vs : List V) (Q : VK) (E : XK) (p : Addr × Obj), L2H.RoomH k (A.deeper (envOfC qual (defScope st) s.heap.objs.size f cdv)) → sp p vs H Q E →
      ∃ t, PSs (cxP P w K mg base N qual (defScope st) f cdv A outer s H E p) (defBody st) t ∧ t { nx := fun _ H1 => Q .non H1, rt := Q } (start N vs) H) : FnP P w K mg base (k + 1) f fd ps sp := by
  obtain ⟨_, _, _, _, _, _, cdv, _, _, rfl, lk, code⟩ := F.ex
  exact pinFn lk code S arity fun A outer s H vs Q E p room want => reads cdv A outer s H vs Q E p room want

section
variable {X : Cx} {k : Nat} {f : Addr} {fd : FuncData} {ps : List Str} {sp : Addr × Obj → Sp} {x : Str} {e : Expr} {es : List Expr} {p pos : Pos} {t : TA} {a : Addr} {oe : Obj}
/-- f(e, ..) where the error at a is at hand -/
def tCallP (a : Addr) (cls : Value) (d : Option Addr) (sp : Addr × Obj → Sp) (t : TA) : TE := fun σ H Q => t σ H fun vs H1 => ∀ oe : Obj, Zc cls d oe → (∃ vs, oe.data = .fields vs) → sp (a, oe) vs H1 Q E0
theorem wCallP {cls : Value} {d : Option Addr} {σ : L2.St} {H : Hp} {Q : VK} (h : t σ H fun vs H1 => ∀ oe : Obj, Zc cls d oe → (∃ vs, oe.data = .fields vs) → sp (a, oe) vs H1 Q E0) : tCallP a cls d sp t σ H Q := h
theorem pe_callP {cls : Value} {d : Option Addr} (hz : Zc cls d oe) (hf : ∃ vs, oe.data = .fields vs) (F : FnP X.prog X.w X.K X.mg X.base k f fd ps sp) (room : L2H.RoomH k X.A) (here : (a, oe) ∈ X.pn) (hg : Gl X x) (hm : X.mg x = some (.ref f)) (kp : PySem.W.keepIn X.K (.ref f) = true) (hb : Binds X.K fd ps [])
    (ha : PA X (e :: es) t) (hd : (x == ("__debug__" : Str)) = false := by decide) (he : starEach (e :: es) X.env = (false, eval e X.env) :: starEach es X.env := by rfl) (hp : (backTo pos (starEach es X.env)).any (·.1) = false := by rfl) :
    PE X (.Call (.Name x p) (e :: es) [] pos) (tCallP a cls d sp t) := by
  constructor
  intro pins s σ H Q I want
  refine wpAny_Call_Name_kw (ld_glob I hg hm ?_ hd)
  refine PySem.W.callWith_K (h₀ := X.base) I.ok.mod.kin kp (thn (ha.run pos pins s σ H _ I want) ?_) he hp
  rintro us s1 ⟨vs, H1, I1, rel, q⟩
  refine ⟨I1.kIn, ?_⟩
  have q := q oe hz hf
  have count := F.arity _ _ _ _ _ q
  have bind := hb s1 us I1.kIn (by rw [List.append_nil, ← rel.length]; exact count)
  rw [List.append_nil] at bind
  obtain ⟨z1, z2, z3, z4, z5⟩ := I1.pin (a, oe) (List.mem_append_left _ here)
  have pin : L2H.PinOk X.stack H1 s1 (a, oe) := ⟨z1, z2, fun m => (List.mem_cons.mp (I1.stkSub a m)).elim z3 z4, z5⟩
  refine wpAny_call (codeAny_mono (F.goes room pin I1.env0 bind rel q) ?_)
  intro r s2 h
  match r, h with
  | .error z, h => exact h.elim
  | .ok (.ret u), h => exact I1.after h
  | .ok .next, h => exact h.elim
  | .ok .brk, h => exact h.elim
  | .ok .cont, h => exact h.elim

/-! ### isinstance(e, C), e the error at hand -/
/-- what the class D says of itself -/
structure ErrC (K : PySem.W.Frag) (D : Addr) : Prop where
  is_ : (PySem.W.clsIn K D).isSome = true
  ga : PySem.W.findIn K (.ref D) "__getattribute__" = some (some (.builtin "BaseException.__getattribute__"))
  gg : PySem.W.findIn K (.ref D) "__getattr__" = some none
  ex : PySem.W.subIn K (.ref D) (.type "BaseException") = some true
  ca : PySem.W.findIn K (.ref D) "__class__" = some (some (.builtin "object.__class__"))
  cn : PySem.W.specialIn K (.builtin "object.__class__") "__get__" = some (some (.builtin "getset_descriptor.__get__"))
  ct : PySem.W.takesIn K (.builtin "object.__class__") = some true
  ob : PySem.W.mroIn K D (.type "object") = some true
/-- one class: its answer b -/
def rIsEr (K : PySem.W.Frag) (D a d : Addr) : List V → Hp → VK → Prop := fun xs H Q => ∃ (c : V) (cv : Value) (b : Bool) (fs : List (Str × V)), xs = [.ref a, c] ∧ (∀ u, RelV c u → u = cv) ∧ PySem.W.kitOne K (.ref D) cv = some b ∧ H d = some (.xd fs) ∧ Q (.bl b) H
theorem call_isEr {D d : Addr} (C : ErrC X.K D) (here : (a, oe) ∈ X.pn) (hz : Zc (.ref D) (some d) oe) (hf : ∃ vs, oe.data = .fields vs) : CallR X (.builtin "isinstance") (rIsEr X.K D a d) := by
  intro pins s σ H xs us Q I r h
  obtain ⟨c, cv, b, fs, rfl, hcv, e, hd, q⟩ := h
  match us, r with
  | [u0, u1], .cons r0 (.cons r1 .nil) =>
    obtain rfl : u0 = Value.ref a := r0
    have e1 := hcv _ r1
    subst e1
    have at_ := (I.pin (a, oe) (List.mem_append_left _ here)).1
    obtain ⟨vs, hv⟩ := hf
    obtain ⟨mA, hns, _⟩ := (show ObjOk X.prog X.w H s.heap d (.xd fs) from I.hok d _ hd)
    obtain ⟨od, es, ep, ho, _⟩ := hns
    have J : PySem.W.InstAt s.heap a oe D (some od) := ⟨at_, hz.1, by unfold PySem.W.notCls; rw [hv] <;> rfl, by rw [hz.2]; exact ho⟩
    exact PySem.W.kia_one (PySem.W.kitx_exc C.is_ C.ga C.gg C.ex C.ca C.cn C.ct C.ob) I.kIn J e (fun z => nomatch z) fun tk => ⟨.bl b, H, I.kept (t' := tk) fun _ _ z => z, rfl, q⟩
end
end Ver
/-! Rules for laws about refusals: how often, and where first, a flat item stands in a list; a heap without one place. -/
namespace Ver
open PySem PySem.Spec PyProof.Rows L2
/-- the heap without p -/
def hide (p : Addr) (H : Hp) : Hp := fun a => if a = p then none else H a
theorem hide_ex {p : Addr} {H : Hp} : Ex (hide p H) H := fun a o h => by
  unfold hide at h
  split at h
  · cases h
  · exact h
theorem hide_at {p a : Addr} {H : Hp} {o : HO} (n : a ≠ p) (h : H a = some o) : hide p H a = some o := by
  unfold hide
  rw [if_neg n]
  exact h
theorem hide_ne {p a : Addr} {H : Hp} {o : HO} (h : hide p H a = some o) : a ≠ p := fun e => by
  unfold hide at h
  rw [if_pos e] at h
  cases h
theorem Kp.hide {p : Addr} {H H' : Hp} (e : Kp p H H') : Ex (Ver.hide p H) (Ver.hide p H') := fun a o h => hide_at (hide_ne h) (e a o (hide_ne h) (hide_ex a o h))
theorem Ex.hide {p : Addr} {H H' : Hp} (e : Ex H H') : Ex (Ver.hide p H) (Ver.hide p H') := Kp.hide e.kp

theorem roomS {k j : Nat} {A : Around} {v : Option Value} (r : Room j A) (h : k ≤ j) : L2H.RoomH k (A.mark v) :=
  ⟨by have := r.dp; show A.depth + 3 * k + 5 < _; omega, by have := r.un; show A.units + 16 * k + 200 < _; omega⟩

theorem roomU {k : Nat} {A : Around} (r : L2H.RoomH k A) : A.units + 64 < cLine := by have := r.un; omega
/-- xs.count(y), flat items -/
def rCountF (K : PySem.W.Frag) : V → List V → Hp → VK → Prop := fun x xs H Q => ∃ (a : Addr) (ys : List V) (y : V), x = .ref a ∧ xs = [y] ∧ SqL K H a ys ∧ flatV y = true ∧ ys.all flatV = true ∧ Q (.int ((ys.countP fun z => eqV z y : Nat) : Int)) H
theorem count_eqU {y : V} : ∀ {ys : List V} {us : List Value}, Vals ys us → ys.all flatV = true → us.countP (eqU y) = ys.countP fun z => eqV z y
  | _, _, .nil, _ => rfl
  | z :: ys, u :: us, .cons r t, f => by
    rw [List.all_cons, Bool.and_eq_true] at f
    rw [List.countP_cons, List.countP_cons, count_eqU t f.2, eqU_of r f.1]
theorem mt_countV {X : Cx} {K : PySem.W.Frag} (hK : X.K = K) : MtR X "list.count" (rCountF K) := by
  subst hK
  intro pins s σ H x xs v us Q I rx rxs want
  obtain ⟨a, ys, y, rfl, rfl, sq, fy, fys, q⟩ := want
  cases rx
  obtain ⟨u, rfl, ry⟩ := rxs.one
  obtain ⟨its, rel, ⟨⟨cls, dd, data, sl⟩, n, at_, ec, _, ed⟩, _⟩ := I.list sq
  simp only at ec ed
  subst ec ed
  have each := mem_eqAt (A := X.A.in1) (s := s) ry fy rel fys
  refine call_meets PySem.F.slot_list_count ⟨_, at_, rfl⟩ PySem.F.entry_list_count (PySem.F.args_list_count_2 _ _) (SeqAt.list_countAt a its.toArray n dd sl u (eqU y)) ⟨at_, fun z hz => ?_, ?_⟩
  · exact mem_eqAt ry fy rel fys z (by simpa using hz)
  · refine ⟨.int ((ys.countP fun z => eqV z y : Nat) : Int), H, I.tok _, ⟨s.toks, ?_⟩, q⟩
    show Value.int ((its.toArray.toList.countP (eqU y) : Nat) : Int) s.toks = Value.int ((ys.countP fun z => eqV z y : Nat) : Int) s.toks
    rw [← count_eqU rel fys]
theorem mt_indexV {X : Cx} {K : PySem.W.Frag} (hK : X.K = K) : MtR X "list.index" (rIndex K) := hK ▸ mt_index
section
variable {X : Cx} {a : Addr} {oe : Obj}
/-- isinstance(e, C) where a suite, or a def that was handed it, holds the error at a -/
def rIsH (K : PySem.W.Frag) (a : Addr) (cls : Value) (d : Option Addr) : List V → Hp → VK → Prop := fun xs H Q => ∃ (D dd : Addr) (c : V) (cv : Value) (b : Bool) (fs : List (Str × V)), cls = .ref D ∧ d = some dd ∧ ErrC K D ∧ xs = [.ref a, c] ∧ (∀ u, RelV c u → u = cv) ∧ PySem.W.kitOne K (.ref D) cv = some b ∧ H dd = some (.xd fs) ∧ Q (.bl b) H
theorem call_isH {K : PySem.W.Frag} (hK : X.K = K) {cls : Value} {d : Option Addr} (here : (a, oe) ∈ X.pn) (hz : Zc cls d oe) (hf : ∃ vs, oe.data = .fields vs) : CallR X (.builtin "isinstance") (rIsH K a cls d) := by
  subst hK
  intro pins s σ H xs us Q I r h
  obtain ⟨D, dd, c, cv, b, fs, rfl, rfl, C, rfl, hcv, e, hd, q⟩ := h
  exact call_isEr C here hz hf pins s σ H _ us Q I r ⟨c, cv, b, fs, rfl, hcv, e, hd, q⟩
theorem wIsH {K : PySem.W.Frag} {H : Hp} {Q : VK} {D dd C : Addr} {b : Bool} {fs : List (Str × V)} (er : ErrC K D) (e : PySem.W.kitOne K (.ref D) (.ref C) = some b) (hd : H dd = some (.xd fs)) (k : Q (.bl b) H) : rIsH K a (.ref D) (some dd) [.ref a, .ref C] H Q :=
  ⟨D, dd, _, .ref C, b, fs, rfl, rfl, er, rfl, fun u r => r, e, hd, k⟩
theorem wIsHT {K : PySem.W.Frag} {H : Hp} {Q : VK} {D dd : Addr} {T : String} {b : Bool} {fs : List (Str × V)} (er : ErrC K D) (e : PySem.W.kitOne K (.ref D) (.type T) = some b) (hd : H dd = some (.xd fs)) (k : Q (.bl b) H) : rIsH K a (.ref D) (some dd) [.ref a, .ty T] H Q :=
  ⟨D, dd, _, .type T, b, fs, rfl, rfl, er, rfl, fun u r => r, e, hd, k⟩
theorem wXfV {D dd : Addr} {fld : Str} {fs : List (Str × V)} {v : V} {σ : L2.St} {H : Hp} {Q : VK} {i : Nat} (h : σ[i]? = some (some (.ref a))) (hd : H dd = some (.xd fs)) (l : fs.lookup fld = some v) (k : Q v H) : tXf a (.ref D) (some dd) D fld (tVar i) σ H Q :=
  ⟨.ref a, h, rfl, rfl, dd, fs, v, rfl, hd, l, k⟩
end
end Ver
/-! enumerate of a tuple, walked by a for. -/
namespace EnT
open PySem PySem.Spec PyProof.Rows L2
/-- the items of the tuple at a, each behind its number in a new tuple -/
def Itet (K : PySem.W.Frag) (a : Addr) : It where
  go := fun i H => ∃ (xs : List V) (x : V), SqT K H a xs ∧ xs[i]? = some x
  yld := fun i H v H' => ∃ (T : Addr) (x : V), v = .ref T ∧ H T = none ∧ H' = upd H T (.tup [.int (i : Nat), x]) ∧ ∀ xs, SqT K H a xs → xs[i]? = some x
  stop := fun i H => ∃ xs : List V, SqT K H a xs ∧ i = xs.length
theorem new_one {v : Value} {o : Obj} {Hs : Heap → Prop} (B : Begins v o Hs) : Meets (Builtin.«enumerate.__new__» ⟨[.type "enumerate", v], []⟩) (fun _ R s => Hs s.heap ∧
    R (.ok (.ret (.ref (s.heap.push o).objs.size))) { s with heap := (s.heap.push o).push { cls := .type "enumerate", data := .fields #[.none, .bool false, .ref s.heap.objs.size, rawInt 0, .none, .none] } }) :=
  .of_wp fun prog w A R s want => by
    obtain ⟨hp, g, d, tk, os⟩ := s
    obtain ⟨h1, want⟩ := want
    have hsub := sub_enumerate
    have start_ : ∀ {A' : Around} {E : Value → Shared → Prop} {Q : Value → Shared → Prop}, Q (.ref hp.objs.size) ⟨hp.push o, g, d, tk, os⟩ → wpAny (model prog w) A' (pyIter v) Q E ⟨hp, g, d, tk, os⟩ := fun q => B.iter prog w _ _ ⟨hp, g, d, tk, os⟩ _ h1 q
    wp_walk using start_
    refine wpAny_stack_any fun st => wpAny_pure ?_
    split
    case h_1 c _ _ _ _ _ =>
      cases (c == Value.type "enumerate") <;> (wp_walk using start_; exact ⟨_, rfl, want⟩)
    case h_2 =>
      wp_walk using start_
      exact ⟨_, rfl, want⟩
theorem begins1 {prog : Program} {w : World} {A : Around} {E : Value → Shared → Prop} {s : Shared} {v : Value} {o : Obj} {Hs : Heap → Prop} {Q : Value → Shared → Prop} (B : Begins v o Hs) (h1 : Hs s.heap)
    (k : ∀ h', IsEnum h' (s.heap.objs.size + 1) s.heap.objs.size 0 .none → h'.get? s.heap.objs.size = some o → (∀ b u, s.heap.get? b = some u → h'.get? b = some u) → Q (.ref (s.heap.objs.size + 1)) { s with heap := h' }) :
    wpAny (model prog w) A (call (.type "enumerate") [v]) Q E s := by
  refine callType_new F.called_enumerate (by decide) (F.typeCall_enumerate_1 _) (F.newCall_enumerate_1 _) (fun obj => F.args_object_init_2 obj _) F.entry_enumerate_new (new_one B) ⟨h1, ?_⟩
  have size : (s.heap.push o).objs.size = s.heap.objs.size + 1 := Heap.size_push ..
  show _ ∧ _
  rw [size]
  have made := Heap.get?_push_size (s.heap.push o) (o := { cls := .type "enumerate", data := .fields #[.none, .bool false, .ref s.heap.objs.size, rawInt 0, .none, .none] }) rfl
  rw [size] at made
  exact ⟨⟨_, made, rfl⟩, k _ made (Heap.get?_push_of_some _ (Heap.get?_push_size _ B.free)) fun b u z => Heap.get?_push_of_some _ (Heap.get?_push_of_some _ z)⟩
theorem turn_enT {P : Program} {w : World} {K : PySem.W.Frag} {elts : List Expr} {kk : Nat} {tpos : Pos} {a e it : Addr} (ne : e ≠ it) (na : a ≠ it) (nea : e ≠ a) :
    Turn P w K (.Tuple elts kk tpos) (Itet K a) [e, it] e (fun i h => (∃ old, IsEnum h e it ((i : Nat) : Int) old) ∧ h.IsTupleIter it a i) where
  mem := List.mem_cons_self
  obj := by
    rintro i h ⟨⟨old, he⟩, o, ho, _, hd⟩ b hb
    simp only [List.mem_cons, List.not_mem_nil, or_false] at hb
    rcases hb with rfl | rfl
    · exact ⟨_, he, fun v q => by cases q⟩
    · exact ⟨o, ho, fun v q => by rw [hd] at q; cases q⟩
  keep := by
    rintro i h h' ⟨⟨old, he⟩, hi⟩ k
    exact ⟨⟨old, k e (by simp) _ he⟩, hi.at fun o q => k it (by simp) o q⟩
  item := by
    intro X hP hw hK hc i pins s σ H E I hf st hg
    subst hP hw hK
    obtain ⟨⟨old, he⟩, hi⟩ := st
    obtain ⟨xs, x, sq, hx⟩ := hg
    obtain ⟨its, rv, p, _⟩ := I.tuple sq
    obtain ⟨u, hu, ru⟩ := rv.get hx
    have hh : X.A.in1.handled = none := I.ok.hd hc
    have lt : i < its.toArray.size := by
      have := (List.getElem?_eq_some_iff.mp hu).1
      simpa using this
    have off : e ∉ [it, a] := by
      simp only [List.mem_cons, List.not_mem_nil, or_false, not_or]
      exact ⟨ne, nea⟩
    have elt : e < s.heap.objs.size := Heap.lt_size he
    have ilt : it < s.heap.objs.size := hi.elim fun o q => Heap.lt_size q.1
    refine wpAny_pyNext_enum_itemD (A := X.A) (Draws.tuple hh it a na its.toArray) he ⟨hi, (show s.heap.IsTuple a its.toArray from p)⟩ lt ne off ?_
    intro x1 h' tk p1 out st1 hT _ hk
    have eu : x1 = u := by
      have : its[i]? = some x1 := by simpa using p1
      exact Option.some.inj (this.symm.trans hu)
    subst eu
    refine ⟨_, rfl, wpAny_letOwnedTupleGo_enum (s := { s with heap := h', toks := tk + 1 }) out ?_⟩
    intro h2 e2 sb
    have T2 := (sb.2 _ (Nat.ne_of_gt elt)).trans hT
    have new : ObjOk X.prog X.w (upd H s.heap.objs.size (.tup [.int (i : Nat), x])) h2 s.heap.objs.size (.tup [.int (i : Nat), x]) :=
      ⟨by show 2 ≤ sizeLine; decide, [.int i tk, x1], .cons ⟨_, rfl⟩ (.cons ru .nil), ⟨_, T2, rfl, _, rfl⟩⟩
    have keep : ∀ b o, b ∉ [e, it] → s.heap.get? b = some o → h2.get? b = some o := fun b o hb q => by
      simp only [List.mem_cons, List.not_mem_nil, or_false, not_or] at hb
      exact (sb.2 b hb.1).trans (hk b o hb.1 hb.2 q)
    have I1 : Inv X pins σ (upd H s.heap.objs.size (.tup [.int (i : Nat), x])) { s with heap := h2, toks := tk + 1 } := I.turnedNew (t' := tk + 1) keep hf (Nat.le_refl _) new
    refine ⟨.ref s.heap.objs.size, _, I1, rfl, ⟨_, x, rfl, I.hok.fresh (Nat.le_refl _), rfl, fun l hl => by rw [I.tuple_inj hl sq]; exact hx⟩, ⟨⟨x1, ?_⟩, ?_⟩, fun b hb => ?_⟩
    · have e1 : ((i + 1 : Nat) : Int) = (i : Int) + 1 := by omega
      rw [e1]
      exact e2
    · exact st1.1.at fun o q => (sb.2 it ne.symm).trans q
    · have hb' : b < s.heap.objs.size := by
        simp only [List.mem_cons, List.not_mem_nil, or_false] at hb
        rcases hb with rfl | rfl
        · exact elt
        · exact ilt
      rw [upd_ne (Nat.ne_of_lt hb')]
      exact (hf b hb).1
  done := by
    intro X hP hw hK hc i pins s σ H E I hf st hg
    subst hP hw hK
    obtain ⟨⟨old, he⟩, hi⟩ := st
    obtain ⟨xs, sq, hend⟩ := hg
    obtain ⟨its, rv, p, _⟩ := I.tuple sq
    have hh : X.A.in1.handled = none := I.ok.hd hc
    have el : its.toArray.size = i := by
      have := rv.length
      simp only [List.size_toArray]
      omega
    have st' : (fun j h => h.IsTupleIter it a j ∧ h.IsTuple a its.toArray) its.toArray.size s.heap := by
      rw [el]
      exact ⟨hi, p⟩
    refine wpAny_pyNext_enum_endD (A := X.A) (Draws.tuple hh it a na its.toArray) he st' fun h' eb => ?_
    refine ⟨rfl, I.turnedL (t' := s.toks) (ch := [e, it]) (fun b o hb q => ?_) hf⟩
    simp only [List.mem_cons, List.not_mem_nil, or_false, not_or] at hb
    exact eb b o hb.2 q
  self := fun A i s Q E st h => let ⟨⟨_, he⟩, _⟩ := st; wpAny_pyIter_enum he h
def iEnT (K : PySem.W.Frag) (ta : TA) : TI := fun σ H R => ta σ H fun vs H1 => ∃ (a : Addr) (xs : List V), vs = [.ref a] ∧ SqT K H1 a xs ∧ R (Itet K a) H1
theorem pi_enT {X : Cx} {K : PySem.W.Frag} {e : Expr} {ta : TA} {p pos tpos : Pos} {elts : List Expr} {kk : Nat} (hK : X.K = K) (hg : Gl X "enumerate") (hm : X.mg "enumerate" = none) (ha : PA X [e] ta) (hs : starEach [e] X.env = [(false, eval e X.env)] := by rfl) :
    PI X (.Tuple elts kk tpos) (.Call (.Name "enumerate" p) [e] [] pos) (iEnT K ta) := by
  subst hK
  constructor
  intro pins s σ H R I want
  refine Call_ (ld_blt I hg hm boot_enumerate (PyProof.Rows.callWith_type1 (thn (ha.run pos pins s σ H _ I want) ?_) hs rfl))
  rintro us s1 ⟨vs, H1, I1, r1, a, xs, rfl, sq, q⟩
  obtain ⟨u, rfl, ra⟩ := vals1 r1
  cases ra
  obtain ⟨its, rv, p1, _⟩ := I1.tuple sq
  have la : a < s1.heap.objs.size := p1.elim fun o z => Heap.lt_size z.1
  refine begins1 (begins_tuple a its.toArray) (show s1.heap.IsTuple a its.toArray from p1) fun h' he hi hk => wpAny_pyIter_enum he ?_
  have I2 : Inv X pins σ H1 { s1 with heap := h' } := I1.kept (t' := s1.toks) hk
  refine ⟨s1.heap.objs.size + 1, [s1.heap.objs.size + 1, s1.heap.objs.size], _, _, H1, rfl, I2, turn_enT (Nat.succ_ne_self _) (Nat.ne_of_lt la) (Nat.ne_of_gt (Nat.lt_succ_of_lt la)), ⟨⟨_, he⟩, ⟨_, hi, rfl, rfl⟩⟩, fun b hb => ?_, q⟩
  have le : s1.heap.objs.size ≤ b := by
    simp only [List.mem_cons, List.not_mem_nil, or_false] at hb
    rcases hb with rfl | rfl
    · exact Nat.le_succ _
    · exact Nat.le_refl _
  exact I1.fpOk le (I1.hok.fresh le)
/-- a loop over such an enumeration -/
theorem for_enT {K : PySem.W.Frag} {a : Addr} {xs : List V} {g : TG} {tb : TS} {D : Ends} {σ : L2.St} {H : Hp} (Pv : Nat → L2.St → Hp → Prop) (h0 : Pv 0 σ H) (hq : ∀ i σ H, Pv i σ H → SqT K H a xs)
    (hs : ∀ (i : Nat) (x : V) (T : Addr) (σ : L2.St) (H : Hp), xs[i]? = some x → Pv i σ H → H T = none → g (.ref T) σ (upd H T (.tup [.int (i : Nat), x])) fun σ2 H2 => tb { D with nx := Pv (i + 1), ct := Pv (i + 1), bk := D.nx } σ2 H2)
    (hd : ∀ σ H, Pv xs.length σ H → D.nx σ H) :
    ∃ W : Nat → Nat → L2.St → Hp → Prop, (∃ m, W 0 m σ H) ∧ ∀ i m σ H, W i m σ H →
      ((Itet K a).stop i H ∧ D.nx σ H) ∨ ((Itet K a).go i H ∧ ∃ N : L2.St → Hp → Prop, (∀ σ' H', N σ' H' → ∃ m', m' < m ∧ W (i + 1) m' σ' H') ∧ ∀ v H', (Itet K a).yld i H v H' → g v σ H' fun σ2 H2 => tb { D with nx := N, ct := N, bk := D.nx } σ2 H2) := by
  refine ⟨fun i m σ H => m = xs.length - i ∧ i ≤ xs.length ∧ Pv i σ H, ⟨xs.length, by simp, Nat.zero_le _, h0⟩, ?_⟩
  rintro i m σ H ⟨rfl, hi, P⟩
  have q := hq i σ H P
  by_cases lt : i < xs.length
  · refine .inr ⟨⟨xs, xs[i], q, List.getElem?_eq_getElem lt⟩, Pv (i + 1), fun σ' H' P' => ⟨xs.length - (i + 1), by omega, rfl, lt, P'⟩, ?_⟩
    rintro v H' ⟨T, x, rfl, nT, rfl, f⟩
    exact hs i x T σ H (f xs q) P nT
  · have e : i = xs.length := by omega
    subst e
    exact .inl ⟨⟨xs, q, rfl⟩, hd σ H P⟩
end EnT
/-! Rules for laws about texts: str of a number or a text, a text once or not at all, xs[::-1] of a list, repr beside a held error; numbers read back. -/
namespace Ver
open PySem PySem.Spec PyProof.Rows L2
open TL (numL numL_lt numL_step tl_num)
theorem Quiet.u65 {k : Nat} {A : Around} (q : Quiet k A) : A.units + 65 < cLine := by have := q.room.un; omega
/-- str(x), x a number or a text -/
def rStrIS : List V → Hp → VK → Prop := fun xs H Q => (∃ i, xs = [.int i] ∧ i.natAbs.log2 < 1920 ∧ Q (.str (toString i)) H) ∨ ∃ a, xs = [.str a] ∧ Q (.str a) H
theorem call_strIS {X : Cx} : CallR X (.type "str") rStrIS := by
  intro pins s σ H xs us Q I r want
  rcases want with want | want
  · exact call_str_int pins s σ H xs us Q I r want
  · exact SkE.call_str_str pins s σ H xs us Q I r want
/-- z * k, k 0 or 1 -/
def rMulS01 : R2 := fun x y H Q => ∃ (z : Str) (b : Bool), x = .str z ∧ y = .int (if b = true then 1 else 0) ∧ Q (.str (if b = true then z else ⟨#[]⟩)) H
theorem op_mulS01 {X : Cx} : OpR X (binaryOp .Mult) rMulS01 := by
  intro pins s σ H x y v u Q I rx ry want
  obtain ⟨z, b, rfl, rfl, q⟩ := want
  obtain ⟨t, rfl⟩ := rx
  obtain ⟨t', rfl⟩ := ry
  cases b with
  | false =>
    refine PySem.P.mul_str (by decide) (fun h _ => absurd (show ((0 : Int) < 1) by decide) h) (fun h _ => absurd (show ((0 : Int) < 1) by decide) h) ?_
    rw [if_pos (by decide)]
    exact ⟨by decide, .str Str.empty, H, I.tok _, ⟨_, rfl⟩, q⟩
  | true =>
    refine PySem.P.mul_str (by decide) (fun _ h => absurd h (by simp)) (fun _ h => absurd h (by simp)) ?_
    rw [if_neg (by decide), if_pos (by simp)]
    exact ⟨.str z, H, I.tok _, ⟨t, rfl⟩, q⟩
/-- xs[::-1] of a list -/
def tRevL (K : PySem.W.Frag) (te : TE) : TE := fun σ H Q => te σ H fun x H1 => ∃ a xs, x = .ref a ∧ SqL K H1 a xs ∧ Al Q (.lst xs.reverse) H1
theorem pe_revL {X : Cx} {K : PySem.W.Frag} {e : Expr} {te : TE} {k : Nat} {p1 p2 p3 pos : Pos} (hK : X.K = K) (he : PE X e te) : PE X (.Subscript e (.Slice none none (some (.UnaryOp .USub (.Constant (.int 1) k p1) p2)) p3) pos) (tRevL K te) := by
  subst hK
  constructor
  intro pins s σ H Q I want
  refine Subscript_ (thn (he.run pins s σ H _ I want) ?_)
  rintro v s1 ⟨x, H1, I1, r1, a, xs, rfl, at_, q⟩
  cases r1
  have step : PO X (some (.UnaryOp .USub (.Constant (.int 1) k p1) p2)) (tPart (tUn (rU fun i => .int (-i)) (tC (.int 1)))) := po_some (pe_un un_neg pe_int)
  refine wpAny_Slice (thn (po_none.run pins s1 σ H1 (fun o G => o = none ∧ G = H1) I1 ⟨rfl, rfl⟩) ?_)
  rintro vl s2 ⟨_, _, I2, pl, rfl, rfl⟩
  refine thn (po_none.run pins s2 σ _ (fun o G => o = none ∧ G = _) I2 ⟨rfl, rfl⟩) ?_
  rintro vu s3 ⟨_, _, I3, pu, rfl, rfl⟩
  refine thn (step.run pins s3 σ _ (fun o G => o = some (-1) ∧ G = _) I3 ⟨1, rfl, -1, rfl, rfl, rfl⟩) ?_
  rintro vs s4 ⟨_, G, I4, ps, rfl, rfl⟩
  have I5 := I4.kept (t' := s4.toks) (h' := s4.heap.push { cls := .type "slice", data := .fields #[vl, vu, vs] }) fun b o z => Heap.get?_push_of_some _ z
  obtain ⟨its, r, lst, size⟩ := I5.list at_
  have len := r.length
  refine tail_any (ops := [.ref a, .ref s4.heap.objs.size]) lst.isList.typeIs slot_list_getitem.lookup ?_ (by with_unfolding_all rfl)
  refine wpAny_getItem_list_slice lst.isList (Heap.IsSliceOf.new _ vl vu vs) pl pu ps (by decide) ?_ (by rw [List.size_toArray]; omega)
  rw [PySem.W.krv_pick]
  refine ⟨.ref _, _, I5.laid (t' := s4.toks) (o := .lst xs.reverse) (fun b o z => Heap.get?_push_of_some _ z) (Nat.le_refl _) ?_, rfl, q _ (I5.hok.fresh (Nat.le_refl _))⟩
  refine ⟨by rw [List.length_reverse]; exact size, its.reverse, 0, r.reverse, ?_⟩
  exact Heap.get?_push_size _ rfl
section
variable {K : PySem.W.Frag} {σ : L2.St} {H : Hp} {Q : VK} {te : TE} {ta : TA} {R : It → Hp → Prop}
theorem wRevL (k : te σ H fun x H1 => ∃ a xs, x = .ref a ∧ SqL K H1 a xs ∧ Al Q (.lst xs.reverse) H1) : tRevL K te σ H Q := k
theorem wIRng3 (k : ta σ H fun vs H1 => ∃ (i j c : Int) (n : Nat), vs = [.int i, .int j, .int c] ∧ RgC i j c n ∧ R (Itc i c n) H1) : iRng3 ta σ H R := k
theorem wIEnum (k : ta σ H fun vs H1 => ∃ a xs, vs = [.ref a] ∧ SqL K H1 a xs ∧ R (Ite K a) H1) : iEnum K ta σ H R := k
theorem wIEnT (k : ta σ H fun vs H1 => ∃ (a : Addr) (xs : List V), vs = [.ref a] ∧ SqT K H1 a xs ∧ R (EnT.Itet K a) H1) : EnT.iEnT K ta σ H R := k
/-- a loop over the enumeration of a list -/
theorem for_enL {a : Addr} {xs : List V} {g : TG} {tb : TS} {D : Ends} (Pv : Nat → L2.St → Hp → Prop) (h0 : Pv 0 σ H) (hq : ∀ i σ H, Pv i σ H → SqL K H a xs)
    (hs : ∀ (i : Nat) (x : V) (T : Addr) (σ : L2.St) (H : Hp), xs[i]? = some x → Pv i σ H → H T = none → g (.ref T) σ (upd H T (.tup [.int (i : Nat), x])) fun σ2 H2 => tb { D with nx := Pv (i + 1), ct := Pv (i + 1), bk := D.nx } σ2 H2)
    (hd : ∀ σ H, Pv xs.length σ H → D.nx σ H) :
    ∃ W : Nat → Nat → L2.St → Hp → Prop, (∃ m, W 0 m σ H) ∧ ∀ i m σ H, W i m σ H →
      ((Ite K a).stop i H ∧ D.nx σ H) ∨ ((Ite K a).go i H ∧ ∃ N : L2.St → Hp → Prop, (∀ σ' H', N σ' H' → ∃ m', m' < m ∧ W (i + 1) m' σ' H') ∧ ∀ v H', (Ite K a).yld i H v H' → g v σ H' fun σ2 H2 => tb { D with nx := N, ct := N, bk := D.nx } σ2 H2) := by
  refine ⟨fun i m σ H => m = xs.length - i ∧ i ≤ xs.length ∧ Pv i σ H, ⟨xs.length, by simp, Nat.zero_le _, h0⟩, ?_⟩
  rintro i m σ H ⟨rfl, hi, P⟩
  have q := hq i σ H P
  by_cases lt : i < xs.length
  · refine .inr ⟨⟨xs, xs[i], q, List.getElem?_eq_getElem lt⟩, Pv (i + 1), fun σ' H' P' => ⟨xs.length - (i + 1), by omega, rfl, lt, P'⟩, ?_⟩
    rintro v H' ⟨T, x, rfl, nT, rfl, f⟩
    exact hs i x T σ H (f xs q) P nT
  · have e : i = xs.length := by omega
    subst e
    exact .inl ⟨⟨xs, q, Nat.le_refl _⟩, hd σ H P⟩
end
/-- repr(x), an error held or not -/
theorem call_reprH {X : Cx} (still : X.A.guards = some []) (room : X.A.units + 65 < cLine) : CallR X (.builtin "repr") rRepr := by
  intro pins s σ H xs us Q I rel want
  obtain ⟨v, l, d, n, rfl, rp, hn, q⟩ := want
  obtain ⟨u, rfl, r⟩ := vals1 rel
  obtain ⟨a1, a2, a3, a4⟩ := rp.able
  have size : d.shown.length ≤ sizeLine := by
    have : (10000000 : Nat) ≤ sizeLine := by decide
    omega
  obtain ⟨as, rd, hs⟩ := rp.reads I.hok r
  have done : ∀ tk tk', EP X pins σ Q (.str d.shown tk) { s with toks := tk' } := fun tk tk' => ⟨.str d.shown, H, I.tok _, ⟨_, rfl⟩, q⟩
  have deep : ∀ {a : Addr}, Reads s.heap (.ref a) d as → wpAny (model X.prog X.w) X.A (call (.builtin "repr") [.ref a]) (EP X pins σ Q) X.xe s := fun {a} rd => by
    refine repr_of_reads' (h₀ := s.heap) rd a1 (fun z => hs (a2 z)) still (by omega) (fun _ _ z => z) (fun h' u tk keep => ?_) size
    exact ⟨.str d.shown, H, I.kept keep, ⟨_, rfl⟩, q⟩
  cases rd with
  | none => exact PySem.P.repr_of_none (done _ _)
  | bool b => exact PySem.P.repr_of_bool (done _ _)
  | int i t => exact PySem.P.repr_of_int (by simpa [PyData.showable] using a1) (done _ _)
  | str z t => exact PySem.P.repr_of_str (done _ _) size
  | list h1 h2 h3 h4 => exact deep (.list h1 h2 h3 h4)
  | tuple h1 h2 h3 h4 => exact deep (.tuple h1 h2 h3 h4)
  | dict h1 h2 h3 h4 h5 => exact deep (.dict h1 h2 h3 h4 h5)

/-- join with the written part named -/
theorem pe_joinV {X : Cx} {K : PySem.W.Frag} {o e : Expr} {to te : TE} {apos pos : Pos} (hK : X.K = K) (ho : PE X o to) (he : PE X e te) (hs : starEach [e] X.env = [(false, eval e X.env)] := by rfl) (hbase : attributeBase o "join" X.env (eval o X.env) = eval o X.env := by rfl) (hline : (apos.endLine == pos.line) = true := by rfl) :
    PE X (.Call (.Attribute o "join" apos) [e] [] pos) (tM1 (fun x xs H Q => ∃ a p, ∃ ys : List Str, x = .str a ∧ xs = [.ref p] ∧ (SqL K H p (ys.map V.str) ∨ SqT K H p (ys.map V.str)) ∧
      (ys.map (·.length)).sum + ys.length * a.length ≤ 16777216 ∧ Q (.str (Txt.join a ys)) H) to te) := hK ▸ pe_join ho he hs hbase hline
/-! ### numbers of up to four figures, as texts -/
def numT (n : Nat) : Str := toString ((n : Nat) : Int)
structure NumT (n : Nat) (z : Str) : Prop where
  digits : ∀ c ∈ z.cps.toList, 48 ≤ c ∧ c ≤ 57
  len : 1 ≤ z.length ∧ z.length ≤ 4
  head : ∃ c r, z.cps.toList = c :: r ∧ c ≠ 48
  reads : intText? (("0" : Str) ++ z) = some (n : Int)
theorem numL_ok : ∀ k : Nat, ∀ n : Nat, 10 ^ k ≤ n → n < 10 ^ (k + 1) → (∀ c ∈ numL n, 48 ≤ c ∧ c ≤ 57) ∧ (numL n).length = k + 1 ∧ ∃ c r, numL n = c :: r ∧ c ≠ 48
  | 0, n, h0, h1 => by
    have h0 : 1 ≤ n := h0
    have h1 : n < 10 := h1
    rw [numL_lt h1]
    refine ⟨fun c hc => ?_, rfl, _, _, rfl, by omega⟩
    obtain rfl := List.mem_singleton.mp hc
    omega
  | k + 1, n, h0, h1 => by
    have p : 10 ≤ n := by
      have : 10 ^ 1 ≤ 10 ^ (k + 1) := Nat.pow_le_pow_right (by omega) (by omega)
      omega
    rw [numL_step p]
    have e1 : 10 ^ (k + 1) = 10 * 10 ^ k := by rw [Nat.pow_succ]; omega
    have e2 : 10 ^ (k + 1 + 1) = 10 * 10 ^ (k + 1) := by rw [Nat.pow_succ (n := 10) (m := k + 1)]; omega
    obtain ⟨q1, q2, c, r, q3, q4⟩ := numL_ok k (n / 10) (by omega) (by omega)
    refine ⟨fun d hd => ?_, by rw [List.length_append, q2]; rfl, c, r ++ [48 + n % 10], by rw [q3]; rfl, q4⟩
    rcases List.mem_append.mp hd with hd | hd
    · exact q1 d hd
    · obtain rfl := List.mem_singleton.mp hd
      have := Nat.mod_lt n (show 0 < 10 by decide)
      omega
theorem numT_ok {n : Nat} (h0 : 1 ≤ n) (h1 : n ≤ 9999) : NumT n (numT n) := by
  obtain ⟨k, hk, p0, p1⟩ : ∃ k, k ≤ 3 ∧ 10 ^ k ≤ n ∧ n < 10 ^ (k + 1) := by
    by_cases a : n < 10
    · exact ⟨0, by omega, h0, a⟩
    · by_cases b : n < 100
      · exact ⟨1, by omega, by omega, b⟩
      · by_cases c : n < 1000
        · exact ⟨2, by omega, by omega, c⟩
        · exact ⟨3, by omega, by omega, by omega⟩
  obtain ⟨q1, q2, c, r, q3, q4⟩ := numL_ok k n p0 p1
  have e : (numT n).cps.toList = numL n := tl_num n
  have len : (numT n).length = k + 1 := by
    show (numT n).cps.size = _
    rw [← Array.length_toList, e, q2]
  have dg : ∀ d ∈ (numT n).cps.toList, 48 ≤ d ∧ d ≤ 57 := by rw [e]; exact q1
  refine ⟨dg, by omega, ⟨c, r, by rw [e]; exact q3, q4⟩, ?_⟩
  have rd : intText? (numT n) = some (n : Int) := PySem.W.KIN.num_reads (by omega) (by omega)
  have ne : (numT n).cps.toList ≠ [] := by rw [e, q3]; exact List.cons_ne_nil _ _
  rw [PySem.intText_digits dg ne (by omega)] at rd
  have e0 : (("0" : Str) ++ numT n).cps.toList = 48 :: (numT n).cps.toList := by
    show ((("0" : Str).cps ++ (numT n).cps)).toList = _
    rw [Array.toList_append]
    rfl
  have l0 : (("0" : Str) ++ numT n).length = 1 + (numT n).length := by
    rw [app_len]
    rfl
  rw [PySem.intText_digits (x := ("0" : Str) ++ numT n) (by rw [e0]; intro d hd; rcases List.mem_cons.mp hd with rfl | hd; exact ⟨by decide, by decide⟩; exact dg d hd) (by rw [e0]; exact List.cons_ne_nil _ _) (by omega), e0]
  exact rd
end Ver
/-! set(xs), xs a list of texts. -/
namespace SetX
open PySem PySem.Spec PyProof.Rows
/-- the texts of a list, each once, in turn -/
def dst (xs : List Str) : List Str := xs.foldl (fun m x => if x ∈ m then m else m ++ [x]) []
theorem dst_app (xs : List Str) (x : Str) : dst (xs ++ [x]) = if x ∈ dst xs then dst xs else dst xs ++ [x] := by
  unfold dst
  rw [List.foldl_append]
  rfl
theorem dst_take {xs : List Str} {i : Nat} {x : Str} (h : xs[i]? = some x) : dst (xs.take (i + 1)) = if x ∈ dst (xs.take i) then dst (xs.take i) else dst (xs.take i) ++ [x] := by
  have e : xs.take (i + 1) = xs.take i ++ [x] := by
    rw [List.take_add_one, h]
    rfl
  rw [e, dst_app]
theorem dst_len : ∀ {n : Nat} {xs : List Str}, xs.length = n → (dst xs).length ≤ n
  | 0, xs, h => by
    rw [List.length_eq_zero_iff.mp h]
    exact Nat.le_refl _
  | n + 1, xs, h => by
    have hp : xs ≠ [] := fun e => by rw [e] at h; cases h
    have e : xs = xs.dropLast ++ [xs.getLast hp] := (List.dropLast_concat_getLast hp).symm
    have l : xs.dropLast.length = n := by rw [List.length_dropLast, h]; rfl
    have ih := dst_len l
    rw [e, dst_app]
    split
    · omega
    · rw [List.length_append]
      show _ + 1 ≤ _
      omega
theorem dst_mem (x : Str) : ∀ {n : Nat} {xs : List Str}, xs.length = n → (x ∈ dst xs ↔ x ∈ xs)
  | 0, xs, h => by
    rw [List.length_eq_zero_iff.mp h]
    exact Iff.rfl
  | n + 1, xs, h => by
    have hp : xs ≠ [] := fun e => by rw [e] at h; cases h
    have e : xs = xs.dropLast ++ [xs.getLast hp] := (List.dropLast_concat_getLast hp).symm
    have l : xs.dropLast.length = n := by rw [List.length_dropLast, h]; rfl
    have ih := fun y => dst_mem y l
    rw [e, dst_app]
    split
    · rename_i c
      rw [List.mem_append, ih x, List.mem_singleton]
      refine ⟨.inl, fun q => q.elim id fun q => ?_⟩
      rw [q]
      exact (ih _).mp c
    · rw [List.mem_append, List.mem_append, ih x]
theorem dst_le (xs ys : List Str) : (dst xs).length ≤ (dst (xs ++ ys)).length := by
  induction ys generalizing xs with
  | nil => rw [List.append_nil]; exact Nat.le_refl _
  | cons y ys ih =>
    have h := ih (xs ++ [y])
    rw [List.append_assoc] at h
    refine Nat.le_trans ?_ h
    rw [dst_app]
    split
    · exact Nat.le_refl _
    · rw [List.length_append]
      exact Nat.le_add_right _ _
section
variable {P : Program} {w : World} {A : Around}
/-- the set at S holds the first i of xs -/
abbrev Holds (P : Program) (w : World) (h : Heap) (S : Addr) (xs : List Str) : Prop := h.SetOf (PySem.strKind P w) S (fun z => decide (z ∈ dst xs)) (dst xs).length
theorem Holds.at_ {h g : Heap} {S : Addr} {xs : List Str} (x : Holds P w h S xs) (k : ∀ o, h.get? S = some o → g.get? S = some o) : Holds P w g S xs := by
  obtain ⟨o, es, ep, t, q, r⟩ := x
  exact ⟨o, es, ep, t, k o q, r⟩
theorem fill {R : Result → Shared → Prop} {I S : Addr} {fp wr : List Addr} {G : Array GenState → Array GenState → Prop} {n : Nat} {Pv : Nat → Value → Prop} {St : Nat → Shared → Prop}
    (W : WalksS P w A.in1 I fp wr G n Pv St) (apart : S ∉ fp) (xs : List Str) (len : xs.length = n) (few : n + 1 < scanBound)
    (each : ∀ i v, Pv i v → ∃ x t, xs[i]? = some x ∧ v = .str x t) : ∀ (k i : Nat) (s : Shared), i + k = n → St i s → Holds P w s.heap S (xs.take i) →
      (∀ s', Moved (S :: wr) G s s' → Holds P w s'.heap S xs → R (.ok (.ret .none)) s') →
      codeAny (model P w) A (.builtin "set.update.loop" ⟨[.ref S, .ref I], []⟩) R s := by
  have nw : S ∉ wr := fun h => apart (W.sub _ h)
  have wider : ∀ b ∈ wr, b ∈ S :: wr := fun b h => List.mem_cons_of_mem _ h
  intro k
  induction k with
  | zero =>
    intro i s hi st hS fin
    have hin : i = n := by omega
    refine codeAny_builtin PyProof.Rows.F.entry_set_update_loop (by
      rw [Around.under_plainId PyProof.Rows.F.plain_set_update_loop]
      refine wpAny_bind (W.done s _ _ (hin ▸ st) fun s' mv => wpAny_pure (fin s' (mv.mono wider) ?_))
      rw [hin, ← len, List.take_length] at hS
      exact hS.at_ fun o e => mv.heap S o nw e)
  | succ k ih =>
    intro i s hi st hS fin
    refine codeAny_builtin PyProof.Rows.F.entry_set_update_loop (by
      rw [Around.under_plainId PyProof.Rows.F.plain_set_update_loop]
      refine wpAny_bind (W.item i s _ _ (by omega) st fun v s1 pv st1 mv => ?_)
      obtain ⟨x, t, hx, rfl⟩ := each i v pv
      have h1 : Holds P w s1.heap S (xs.take i) := hS.at_ fun o e => mv.heap S o nw e
      show wpAny _ A.in1 (holding [Value.str x t] (setAdd S (.str x t)) >>= _) _ _ s1
      refine wpAny_bind (wpAny_holding ?_)
      unfold setAdd
      refine wpAny_holding (wpAny_bind ((PySem.strKind P w).pyHash (k := x) (strKind_is P w x t) ?_))
      have room : (dst (xs.take i)).length + 1 < scanBound := by
        have := dst_len (xs := xs.take i) rfl
        rw [List.length_take] at this
        omega
      refine wpAny_setAddHashed_of (knd := PySem.strKind P w) (s := { s1 with toks := s1.toks + 1 }) (strKind_is P w x t) rfl h1 room fun g same h2 => ?_
      have h3 : Holds P w g S (xs.take (i + 1)) := by
        refine SetOf_congr h2 (fun z => ?_) ?_
        · rw [dst_take hx]
          split
          · rename_i c
            by_cases e : z = x
            · rw [e, decide_eq_true c]; rfl
            · rw [decide_eq_false e, Bool.or_false]
          · rw [Bool.eq_iff_iff]
            simp
        · rw [dst_take hx]
          by_cases c : x ∈ dst (xs.take i)
          · rw [if_pos (decide_eq_true c), if_pos c]
          · rw [if_neg (fun q => c (of_decide_eq_true q)), if_neg c, List.length_append]
            rfl
      refine wpAny_pure ⟨plainId_quiet PyProof.Rows.F.plain_set_update_loop _, ih (i + 1) _ (by omega) (W.frame _ s1 _ _ st1 (Nat.le_succ _) fun b hb o e => ?_) h3 fun s2 mv2 h4 => ?_⟩
      · exact (same.2 b fun q : b = S => apart (q ▸ hb)).trans e
      · refine fin s2 (Moved.trans W.gtrans ((mv.mono wider).then_heap (Nat.le_succ _) fun b o hb e => ?_) mv2) h4
        exact (same.2 b fun q : b = S => hb (by rw [q]; exact List.mem_cons_self)).trans e)
end
section
variable {P : Program} {w : World} {A : Around} {E : Value → Shared → Prop} {s : Shared}
theorem texts_at : ∀ {us : List Value} {xs : List Str}, StrsAre us xs → us.length = xs.length ∧ ∀ (i : Nat) (v : Value), us[i]? = some v → ∃ x t, xs[i]? = some x ∧ v = .str x t
  | _, _, .nil => ⟨rfl, fun i v h => by simp at h⟩
  | _, _, .cons x t r => by
    obtain ⟨h1, h2⟩ := texts_at r
    refine ⟨congrArg Nat.succ h1, fun i v h => ?_⟩
    cases i with
    | zero =>
      cases h
      exact ⟨x, t, rfl, rfl⟩
    | succ i => exact h2 i v h
abbrev noSet (led : Bool) : Obj := { cls := .type "set", dict := none, data := .set #[] 0 (.fresh 0 0 led) }
theorem call_texts {l : Addr} {items : Array Value} {xs : List Str} {Q : Value → Shared → Prop} (calm : A.handled = none) (hl : s.heap.IsList l items) (hi : StrsAre items.toList xs) (few : xs.length + 1 < scanBound)
    (k : ∀ (g : Heap) (tk : Nat), Holds P w g s.heap.objs.size xs → (∀ b o, s.heap.get? b = some o → g.get? b = some o) → Q (.ref s.heap.objs.size) { s with heap := g, toks := tk }) :
    wpAny (model P w) A (call (.type "set") [.ref l]) Q E s := by
  obtain ⟨len, each⟩ := texts_at hi
  have size : xs.length = items.size := by rw [← len, Array.length_toList]
  have ol : l < s.heap.objs.size := let ⟨_, e, _⟩ := hl; Heap.lt_size e
  obtain ⟨cls, tl, hmro⟩ := PySem.F.called_set.mro
  have made := PySem.F.called_set.made
  have sub := PySem.F.called_set.sub
  have notType := PySem.F.called_set.notType
  have can := PySem.F.called_set.canCreate
  have look := PySem.F.called_set.init.lookup
  have tc := PySem.F.typeCall_set_1 (.ref l)
  refine wpAny_call (codeAny_of_tree (show wpAny _ _ (callAny (.type "set") _) _ _ _ from wpAny_pure ⟨Code.quiet_builtin _ (by decide +kernel), codeAny_builtin PySem.F.entry_type_call ?_⟩))
  rw [Around.under_plain (weight_type_call_type "set" [.ref l] []) rfl]
  repeat (any_goals (first | assumption | wp_step))
  refine codeAny_mono (code_set_new_1 (.ref l) (E := E) (Q₁ := fun v s1 => ∃ led : Bool, v = .ref s.heap.objs.size ∧ s1 = { s with heap := s.heap.push (noSet led) }) fun led => ⟨led, rfl, rfl⟩) fun r s1 h1 => ?_
  match r, h1 with
  | .ok (.ret v), h1 =>
    obtain ⟨led, rfl, rfl⟩ := h1
    have at1 : (s.heap.push (noSet led)).get? s.heap.objs.size = some (noSet led) := Heap.get?_push_size _ rfl
    have ty : Shared.TypeIs { s with heap := s.heap.push (noSet led) } (.ref s.heap.objs.size) "set" := ⟨_, at1, rfl⟩
    have bind := PySem.F.called_set.init.bind (.ref s.heap.objs.size)
    repeat (any_goals (first | assumption | wp_step))
    refine codeAny_mono (codeAny_call_builtin (R := wants (fun v s2 => v = .none ∧ ∃ g tk, s2 = { s with heap := g, toks := tk } ∧ Holds P w g s.heap.objs.size xs ∧ ∀ b o, s.heap.get? b = some o → g.get? b = some o) E)
      PySem.F.called_set.init.plain PySem.F.entry_set_init (check_set_init_1 ty ?_)) fun r2 s2 h2 => ?_
    · obtain ⟨⟨lc, ld, lda, lsl⟩, lo, c, n, d⟩ := hl
      simp only at c d
      subst c d
      have lo1 : (s.heap.push (noSet led)).get? l = some ⟨.type "list", ld, .seq items n, lsl⟩ := Heap.get?_push_of_some _ lo
      have isl : (s.heap.push (noSet led)).IsList l items := ⟨_, lo1, rfl, n, rfl⟩
      have nd : (Value.type "list" == Value.type "dict") = false := by decide
      have n1 := PySem.F.sub_list_set
      have n2 := PySem.F.sub_list_frozenset
      unfold Builtin.«set.__init__» noKeywords Builtin.Frozenset.updateFrom
      generalize hit : pyIter = it
      wp_walk
      subst hit
      have it_ne : l ≠ (s.heap.push (noSet led)).objs.size := by rw [Heap.size_push]; exact Nat.ne_of_lt (Nat.lt_succ_of_lt ol)
      have fresh : s.heap.objs.size ∉ [(s.heap.push (noSet led)).objs.size, l] := by
        rw [Heap.size_push]
        simp only [List.mem_cons, List.not_mem_nil, or_false, not_or]
        exact ⟨Nat.ne_of_lt (Nat.lt_succ_self _), Nat.ne_of_gt ol⟩
      refine wpAny_pyIter_list isl (wpAny_bind (wpAny_runValue (fill ((Walks.list (show A.in1.in1.in1.handled = none by simp [calm]) _ l it_ne items).toS) fresh xs size (size ▸ few)
        (fun i v h => each i v (by rw [Array.getElem?_toList]; exact h)) items.size 0 _ (Nat.zero_add _) ⟨⟨_, Heap.get?_push_size _ rfl, rfl, rfl⟩, isl.push _⟩ ?_ ?_)))
      · exact SetOf_congr ((setObjOf_fresh (knd := PySem.strKind P w) led).setOf (Heap.get?_push_of_some _ at1) (by unfold scanBound; omega)) (fun _ => rfl) rfl
      · rintro ⟨g, gs, dr, tk, os⟩ mv hold
        have q1 : gs = s.gens := mv.gens
        have q2 : dr = s.drawn := mv.drawn
        have q3 : os = s.os := mv.os
        subst q1 q2 q3
        refine wpAny_pure (show wpAny _ _ (ret Value.none) _ _ _ from wpAny_pure ⟨rfl, g, tk, rfl, hold, fun b o e => ?_⟩)
        have hb : b < s.heap.objs.size := Heap.lt_size e
        refine mv.heap b o ?_ (Heap.get?_push_of_some _ (Heap.get?_push_of_some _ e))
        rw [Heap.size_push]
        simp only [List.mem_cons, List.not_mem_nil, or_false, not_or]
        exact ⟨Nat.ne_of_lt hb, Nat.ne_of_lt (Nat.lt_succ_of_lt hb)⟩
    · match r2, h2 with
      | .ok (.ret v), h2 =>
        obtain ⟨rfl, g, tk, rfl, hold, keep⟩ := h2
        repeat (any_goals (first | assumption | wp_step))
        exact k g tk hold keep
      | .error e, h2 => exact h2
  | .error e, h1 => exact h1
end
end SetX
/-! Dicts with keys of two texts: pop, sorted; how many texts a list has, each once. -/
namespace Ver
open PySem PySem.Spec PyProof.Rows L2

/-- len(set(xs)), xs a list of texts -/
def tLenSet (K : PySem.W.Frag) (ta : TE) : TE := fun σ H Q => ta σ H fun x H1 => ∃ (l : Addr) (xs : List Str), x = .ref l ∧ SqL K H1 l (xs.map V.str) ∧ xs.length ≤ 1000 ∧ Q (.int ((SetX.dst xs).length : Nat)) H1
theorem pe_lenSet {X : Cx} {K : PySem.W.Frag} {a : Expr} {ta : TE} {p p2 q pos : Pos} (hK : X.K = K) (hc : X.calm = true) (hg : Gl X "len") (hm : X.mg "len" = none) (hg2 : Gl X "set") (hm2 : X.mg "set" = none) (ha : PE X a ta)
    (one : starEach [a] X.env = (false, eval a X.env) :: starEach [] X.env := by rfl) : PE X (.Call (.Name "len" p) [.Call (.Name "set" p2) [a] [] q] [] pos) (tLenSet K ta) := by
  subst hK
  refine ⟨fun pins s σ H Q I h => Call_ (ld_blt I hg hm PySem.boot_len (PyProof.Rows.callWith_builtin1 (PyProof.Rows.args_cons (Call_ (ld_blt I hg2 hm2 PyProof.Rows.boot_set ?_)) rfl) rfl rfl))⟩
  refine PyProof.Rows.callWith_type1 (PyProof.Rows.args_cons (thn (ha.run pins s σ H _ I h) fun v s1 ⟨x, H1, I1, r1, l, xs, ex, hq, hn, q1⟩ => PyProof.Rows.args_nil ?_) one) one rfl
  subst ex
  cases r1
  obtain ⟨its, r, pl, hz⟩ := I1.list hq
  refine SetX.call_texts (I1.ok.hd hc) pl.isList (xs := xs) (by simpa using r.strs) (by unfold scanBound; omega) fun g tk hold keep => PyProof.Rows.args_nil ?_
  have few := SetX.dst_len (xs := xs) rfl
  obtain ⟨o, es, ep, t, ho, hex, hd, _, _, _, hf, hn2⟩ := hold
  have I2 : Inv X pins σ H1 { s1 with heap := g, toks := tk } := I1.kept keep
  exact call_len_set ho hex hd hf (by rw [hn2]; omega) ⟨.int _, H1, I2.tok _, ⟨_, by rw [hn2]⟩, q1⟩

/-- d.pop(k), k a tuple that is a key -/
def tPopT (td ty : TE) : TE := fun σ H Q => td σ H fun x H1 => ∃ a, x = .ref a ∧ IsD H1 a ∧ ty σ H1 fun y H2 => ∃ kvs k b v, H2 a = some (.dT kvs) ∧ y = .ref b ∧ H2 b = some (.tup (k.map kV)) ∧ valV kvs k = some v ∧ Q v (upd H2 a (.dT (dropK kvs k)))
theorem pe_popT {X : Cx} {o e : Expr} {apos cpos : Pos} {td ty : TE} (hu : X.A.units + 64 < cLine) (ho : PE X o td) (he : PE X e ty) (m : M1 X o "pop" apos e cpos) : PE X (.Call (.Attribute o "pop" apos) [e] [] cpos) (tPopT td ty) := by
  refine ⟨fun pins s σ H Q I h => wpAny_Call_method m.base m.few m.line PySem.F.plainAttrs_dict PySem.F.slot_dict_pop PySem.F.type_dict_pop (thn (ho.run pins s σ H _ I h) fun u s1 ⟨x, H1, I1, rx, a, ex, d, q1⟩ => ?_)⟩
  subst ex
  obtain rfl : u = Value.ref a := rx
  obtain ⟨t1, t2, _⟩ := isD_at I1 d
  refine ⟨t1, t2, ?_⟩
  rw [m.trees]
  refine Calls.callWith_builtin rfl (Calls.evalArgs_plain (Calls.spliced_cons (thn (he.run pins s1 σ H1 _ I1 q1) fun w1 s2 ⟨y, H2, I2, ry, kvs, k, b, v, ha, ey, hb, hv, q⟩ => Calls.spliced_nil ?_)))
  subst ey
  cases ry
  obtain ⟨z, lo, xs, rel, dd⟩ := dt_of I2.hok ha
  have r := rel.val k
  rw [hv] at r
  obtain ⟨p, hp, rv⟩ : ∃ p, atKey xs k = some p ∧ RelV v p.2 := by
    cases hx : atKey xs k with
    | none =>
      rw [hx] at r
      exact r.elim
    | some p =>
      rw [hx] at r
      exact ⟨p, rfl, r⟩
  refine call_pop_heap (knd := tupleKind (mixKind X.prog X.w)) (more := []) (.inl rfl) (PySem.F.args_dict_pop_2 _ _) (tupleKind_room_in1 (by omega)) (key_of I2.hok hb) lo dd hp (fun g dd2 same => ?_) (by rw [← Paired.length rel]; exact z)
  obtain ⟨ob, es, ep, h1, h2, h3, h4, _, h5⟩ := dd2
  refine ⟨v, upd H2 a (.dT (dropK kvs k)), d_write I2 (by rw [ha]; exact True.intro) same ⟨ob, h1⟩ ⟨Nat.le_trans (dropK_le kvs k) z, lo, _, (DX.KT_drop k rel).keeps (fun c ys ec => ?_), ob, es, ep, h1, h2, h3, h4, h5⟩, rv, q⟩
  rw [upd_ne (ne_of ec ha (fun z => nomatch z))]
  exact ec

/-! ### sorted(d), the keys tuples -/
/-- a key's datum -/
def keyD : Key → PyData
  | .inl i => .int i
  | .inr z => .str z
def keysD (k : List Key) : PyData := .tuple (k.map keyD)
theorem key_dt {H : Hp} : ∀ k : List Key, DtA H (k.map kV) (k.map keyD)
  | [] => .nil
  | .inl i :: k => .cons (.int i) (key_dt k)
  | .inr z :: k => .cons (.str z) (key_dt k)
theorem keys_dt {H : Hp} {b : Addr} {k : List Key} (h : H b = some (.tup (k.map kV))) : Dt H (.ref b) (keysD k) := .tup h (key_dt k)
/-- the keys' places: each a tuple of its key -/
def Places (H : Hp) (bs : List (Addr × List Key)) : Prop := ∀ b ∈ bs, H b.1 = some (.tup (b.2.map kV))
def rSortedK : List V → Hp → VK → Prop := fun vs H Q => ∃ (a : Addr) (kvs : List (List Key × V)), vs = [.ref a] ∧ Rd H a (.dT kvs) ∧ PySem.W.AllAlike (kvs.map fun p => keysD p.1) ∧ PySem.W.Sortable (kvs.map fun p => keysD p.1) ∧ (∀ p ∈ kvs, (keysD p.1).depth ≤ 40) ∧
  ∀ bs : List (Addr × List Key), bs.map (·.2) = kvs.map (·.1) → Places H bs → Al Q (.lst ((bs.mergeSort (PySem.W.dataLe false fun b => keysD b.2)).map fun b => V.ref b.1)) H
theorem places_of {H : Hp} {kvs : List (List Key × V)} {xs : List (List Key × Addr × Value)} (r : KT H kvs xs) : (xs.map fun x => (x.2.1, x.1)).map (·.2) = kvs.map (·.1) ∧ Places H (xs.map fun x => (x.2.1, x.1)) := by
  induction r with
  | nil => exact ⟨rfl, fun b hb => nomatch hb⟩
  | @cons p q ps qs h t ih =>
    refine ⟨?_, fun b hb => ?_⟩
    · rw [List.map_cons, List.map_cons, List.map_cons, ih.1, h.1]
    · rcases List.mem_cons.mp hb with rfl | hb
      · show H q.2.1 = some (.tup (q.1.map kV))
        rw [← h.1]
        exact h.2.1
      · exact ih.2 b hb
theorem refs_vals : ∀ bs : List (Addr × List Key), Vals (bs.map fun b => V.ref b.1) (bs.map fun b => Value.ref b.1)
  | [] => .nil
  | _ :: r => .cons rfl (refs_vals r)
theorem each_ref {β : Type} {f : β → Addr} : ∀ bs : List β, PySem.W.EachIs (fun u b => u = Value.ref (f b)) (bs.map fun b => Value.ref (f b)) bs
  | [] => .nil
  | _ :: r => .cons rfl (each_ref r)
theorem vals_ref {β : Type} {f : β → Addr} : ∀ {us : List Value} {bs : List β}, PySem.W.EachIs (fun u b => u = Value.ref (f b)) us bs → Vals (bs.map fun b => V.ref (f b)) us
  | _, [], .nil => .nil
  | _, _ :: _, .cons h t => .cons h (vals_ref t)
theorem cr_sortedK {X : Cx} (hc : X.calm = true) (room : X.A.units + 64 < cLine) : CallR X (.builtin "sorted") rSortedK := by
  intro pins s σ H vs us Q I r want
  obtain ⟨a, kvs, rfl, hd, al, so, dp, q⟩ := want
  obtain ⟨u, rfl, rx⟩ := r.one
  cases rx
  obtain ⟨z, lo, ks, pr, ob, es, ep, ho, hx, hdt, he, hn⟩ := (show ObjOk X.prog X.w H s.heap a (.dT kvs) from hd.ok I.hok)
  have l1 : es.size = ks.length := size_of_entries he
  have l2 : kvs.length = ks.length := Paired.length pr
  obtain ⟨pm, pp⟩ := places_of pr
  have bsl : (ks.map fun x => (x.2.1, x.1)).length = ks.length := List.length_map ..
  refine Calls.call_function_entry PyProof.Rows.kind_sorted PyProof.Rows.plain_sorted PyProof.Rows.entry_sorted (PyProof.Rows.args_sorted1 _) (by
    unfold Builtin.«sorted»
    refine wpAny_bind (m := checkCount "sorted" 1 1 _) (wpAny_pure (wpAny_bind (PySem.W.kdu_collect (A := X.A.in1) (kdl_raw lo hx hdt) (I.ok.hd hc) ho (by omega) fun g tk acc keep items => ?_)))
    have got : acc.toList = (ks.map fun x => (x.2.1, x.1)).map fun b => Value.ref b.1 := by
      refine List.ext_getElem? fun j => ?_
      rw [List.map_map, List.getElem?_map]
      have szs : acc.size = es.size := items.1
      cases e : acc.toList[j]? with
      | none =>
        have lj := List.getElem?_eq_none_iff.mp e
        rw [Array.length_toList] at lj
        rw [List.getElem?_eq_none (by omega)]
        rfl
      | some v =>
        obtain ⟨en, hen, hv⟩ := items.2 j v (by rw [← Array.getElem?_toList]; exact e)
        have qe := entry_at he j
        rw [hen] at qe
        cases hb : ks[j]? with
        | none => rw [hb] at qe; exact nomatch qe
        | some b =>
          rw [hb] at qe
          rw [hv, Option.some.inj qe]
          rfl
    generalize hbs : (ks.map fun x => (x.2.1, x.1)) = bs at *
    have lbs : acc.toList.length = bs.length := by rw [got, List.length_map]
    have I1 : Inv X pins σ H { s with heap := g, toks := tk } := I.kept keep
    refine wpAny_bind (wpAny_newList ?_ (by omega))
    have hL : (g.push (seqObj "list" acc.toList.toArray 0)).get? g.objs.size = some (seqObj "list" acc.toList.toArray 0) := Heap.get?_push_size _ rfl
    have er : PySem.W.EachIs (fun v b => ∃ as, Reads (g.push (seqObj "list" acc.toList.toArray 0)) v (keysD b.2) as ∧ g.objs.size ∉ as) acc.toList bs := by
      have all : ∀ cs : List (Addr × List Key), Places H cs → PySem.W.EachIs (fun v b => ∃ as, Reads (g.push (seqObj "list" acc.toList.toArray 0)) v (keysD b.2) as ∧ g.objs.size ∉ as) (cs.map fun b => Value.ref b.1) cs := by
        intro cs
        induction cs with
        | nil => exact fun _ => .nil
        | cons c cs ih =>
          intro h
          refine .cons ?_ (ih fun b hb => h b (List.mem_cons_of_mem _ hb))
          obtain ⟨as, rd⟩ := (keys_dt (h c List.mem_cons_self)).reads (u := Value.ref c.1) I1.hok rfl
          have flat : as = [] := by
            cases rd with
            | tuple _ _ _ q =>
              have none : ∀ (k : List Key) (us : List Value) (as : List Addr), ReadsAll g us (k.map keyD) as → as = [] := by
                intro k
                induction k with
                | nil => intro us as q; cases q; rfl
                | cons y k ih =>
                  intro us as q
                  cases y with
                  | inl i => cases q with | cons q1 q2 => cases q1; exact ih _ _ q2
                  | inr z => cases q with | cons q1 q2 => cases q1; exact ih _ _ q2
              exact none _ _ _ q
          exact ⟨as, PyProof.Rows.Reads.keeps (fun _ _ e => Heap.get?_push_of_some _ e) rd, by rw [flat]; simp⟩
      have e0 := all bs pp
      rw [← got] at e0
      exact e0
    have keys : bs.map (fun b => keysD b.2) = kvs.map fun p => keysD p.1 := by
      have : (bs.map (·.2)).map keysD = (kvs.map (·.1)).map keysD := by rw [pm]
      rw [List.map_map, List.map_map] at this
      exact this
    refine wpAny_bind (wpAny_holding (PySem.W.list_sort_data (enc := fun b : Addr × List Key => keysD b.2) (s := { s with heap := g.push (seqObj "list" acc.toList.toArray 0), toks := tk }) hL (got ▸ each_ref (f := fun b : Addr × List Key => b.1) bs) er (by rw [keys]; exact al) (by rw [keys]; exact so) (by omega) (fun b hb => ?_) fun out h1 h2 => ?_))
    · have mem : keysD b.2 ∈ kvs.map fun p => keysD p.1 := by rw [← keys]; exact List.mem_map.mpr ⟨b, hb, rfl⟩
      obtain ⟨p, hp, e⟩ := List.mem_map.mp mem
      have := dp p hp
      rw [← e]
      show X.A.in1.units + 1 + _ < cLine
      have u1 : X.A.in1.units ≤ X.A.units + 2 := by simp [Around.in1, Around.units]
      omega
    · obtain ⟨c, hc2⟩ := PyProof.Rows.sortedHeap_at (vs := acc.toList) (out := out.toArray) hL
      refine wpAny_pure ⟨_, rfl, .ref g.objs.size, upd H g.objs.size (.lst ((bs.mergeSort (PySem.W.dataLe false fun b => keysD b.2)).map fun b => V.ref b.1)), I1.laid (t' := tk) (fun b u e => ?_) (Nat.le_refl _)
        ⟨?_, out, c, vals_ref (f := fun b : Addr × List Key => b.1) h2, hc2⟩, rfl, q bs pm pp _ (I1.hok.fresh (Nat.le_refl _))⟩
      · have hb : b < g.objs.size := Heap.lt_size e
        rw [PyProof.Rows.sortedHeap_old (Nat.ne_of_lt hb) (by rw [size_push']; exact Nat.lt_succ_of_lt hb)]
        exact Heap.get?_push_of_some _ e
      · rw [List.length_map, List.length_mergeSort]
        omega)
end Ver
/-! Webs as data. -/
namespace Ver
open PySem PySem.Spec PyProof.Rows L2
open PySem.W (dataLt)
def nameS (z : Str) : Bool := decide (1 ≤ z.length) && decide (z.length ≤ 8) && !decide (z = ("chest" : Str)) && z.cps.toList.all fun c => decide (97 ≤ c ∧ c ≤ 122)
def isS : PyData → Bool
  | .str _ => true
  | _ => false
def nameD : PyData → Bool
  | .str z => nameS z
  | _ => false
def chestD : PyData → Bool
  | .str z => decide (z = ("chest" : Str))
  | _ => false
def frD : PyData → Bool
  | .tuple [.int p, .int q] => decide (1 ≤ q) && decide (p.gcd q = 1)
  | _ => false
def posD : PyData → Bool
  | .tuple (.int p :: _) => decide (0 < p)
  | _ => false
def amtD : PyData → Bool
  | .tuple [_, _, a] => frD a && posD a
  | _ => false
def d0 : PyData → PyData
  | .tuple (x :: _) => x
  | d => d
def d1 : PyData → PyData
  | .tuple (_ :: x :: _) => x
  | d => d
def tk2 : PyData → PyData
  | .tuple ds => .tuple (ds.take 2)
  | d => d
def strOf : PyData → Str
  | .str z => z
  | _ => ⟨#[]⟩
def oneD (ps : List PyData) (d : PyData) : Bool := isS d && ps.any fun e => PyData.eqv e d
def heldD (ps : List PyData) (d : PyData) : Bool := oneD ps d || chestD d
def behind (f : PyData → PyData) (ahead : List PyData) (x : PyData) : Bool := match ahead.getLast? with
  | none => true
  | some y => dataLt (f y) (f x)
def lotsD (rs : List PyData) : List Str := rs.map fun r => strOf (d1 r)
def personD (ahead : List PyData) (x : PyData) : Bool := nameD x && decide (ahead.length < 8) && behind id ahead x
def goodD (ps ahead : List PyData) (r : PyData) : Bool := amtD r && heldD ps (d0 r) && nameD (d1 r) && decide ((SetX.dst (lotsD (ahead ++ [r]))).length ≤ 8) && behind tk2 ahead r
def thankD (ps ahead : List PyData) (r : PyData) : Bool := amtD r && oneD ps (d0 r) && heldD ps (d1 r) && !PyData.eqv (d0 r) (d1 r) && behind tk2 ahead r
def fitB (f : List PyData → PyData → Bool) (ds : List PyData) : Bool := (List.range ds.length).all fun j => f (ds.take j) (ds[j]?.getD .none)
def webD : PyData → Bool
  | .tuple [.tuple ps, .tuple gs, .tuple ts] => fitB personD ps && fitB (goodD ps) gs && fitB (thankD ps) ts
  | _ => false
theorem fitB_iff {f : List PyData → PyData → Bool} {ds : List PyData} : fitB f ds = true ↔ ∀ j x, ds[j]? = some x → f (ds.take j) x = true := by
  unfold fitB
  rw [List.all_eq_true]
  constructor
  · intro h j x e
    have hj : j < ds.length := (List.getElem?_eq_some_iff.mp e).1
    have q := h j (List.mem_range.mpr hj)
    rw [e] at q
    exact q
  · intro h j hj
    have hj := List.mem_range.mp hj
    have e := List.getElem?_eq_getElem hj
    rw [e]
    exact h j _ e
theorem fitB_false {f : List PyData → PyData → Bool} {ds : List PyData} {j : Nat} {x : PyData} (e : ds[j]? = some x) (h : f (ds.take j) x = false) : fitB f ds = false := by
  cases q : fitB f ds with
  | false => rfl
  | true =>
    rw [fitB_iff.mp q j x e] at h
    cases h
theorem last_take {α : Type} {ds : List α} {j : Nat} (h : j ≤ ds.length) : (ds.take j).getLast? = if j = 0 then none else ds[j - 1]? := by
  rw [List.getLast?_eq_getElem?, List.length_take, Nat.min_eq_left h, List.getElem?_take]
  by_cases c : j = 0
  · rw [if_pos c, c]
    rfl
  · rw [if_neg c, if_pos (by omega)]
/-! ### the law's look -/
def risL (ds : List PyData) : Bool := (List.range (ds.length - 1)).all fun k => dataLt (ds[k]?.getD .none) (ds[k + 1]?.getD .none)
theorem risL_iff {ds : List PyData} : risL ds = true ↔ ∀ j x y, ds[j]? = some x → ds[j + 1]? = some y → dataLt x y = true := by
  unfold risL
  rw [List.all_eq_true]
  constructor
  · intro h j x y e1 e2
    have hj : j + 1 < ds.length := (List.getElem?_eq_some_iff.mp e2).1
    have q := h j (List.mem_range.mpr (by omega))
    rw [e1, e2] at q
    exact q
  · intro h j hj
    have hj := List.mem_range.mp hj
    have e1 : ds[j]? = some ds[j] := List.getElem?_eq_getElem (by omega)
    have e2 : ds[j + 1]? = some ds[j + 1] := List.getElem?_eq_getElem (by omega)
    rw [e1, e2]
    exact h j _ _ e1 e2
def rowL : PyData → Bool
  | .tuple [x, y, a] => isS x && isS y && (frD a && posD a)
  | _ => false
def rowsL (rs : List PyData) : Bool := rs.all rowL && risL (rs.map tk2)
def endsD (ps : List PyData) (d : PyData) : Bool := (ps ++ [PyData.str "chest"]).any fun e => PyData.eqv e d
def webL : PyData → Bool
  | .tuple [.tuple ps, .tuple gs, .tuple ts] => decide (ps.length ≤ 8) && ps.all nameD && risL ps && rowsL gs && rowsL ts &&
      (gs.all fun r => endsD ps (d0 r) && nameD (d1 r)) && (ts.all fun r => (ps.any fun e => PyData.eqv e (d0 r)) && endsD ps (d1 r) && !PyData.eqv (d0 r) (d1 r)) && decide ((SetX.dst (lotsD gs)).length < 9)
  | _ => false
theorem behind_all {f : PyData → PyData} {ds : List PyData} : (∀ j x, ds[j]? = some x → behind f (ds.take j) x = true) ↔ risL (ds.map f) = true := by
  rw [risL_iff]
  constructor
  · intro h j x y e1 e2
    rw [List.getElem?_map] at e1 e2
    obtain ⟨x', q1, rfl⟩ := Option.map_eq_some_iff.mp e1
    obtain ⟨y', q2, rfl⟩ := Option.map_eq_some_iff.mp e2
    have q := h (j + 1) y' q2
    unfold behind at q
    rw [last_take (by have := (List.getElem?_eq_some_iff.mp q2).1; omega), if_neg (by omega), Nat.add_sub_cancel, q1] at q
    exact q
  · intro h j x e
    unfold behind
    have hj := (List.getElem?_eq_some_iff.mp e).1
    rw [last_take (by omega)]
    by_cases c : j = 0
    · rw [if_pos c]
    · rw [if_neg c, List.getElem?_eq_getElem (by omega)]
      refine h (j - 1) _ _ (by rw [List.getElem?_map, List.getElem?_eq_getElem (by omega)]; rfl) ?_
      rw [Nat.sub_add_cancel (by omega), List.getElem?_map, e]
      rfl
theorem map_id_ {ds : List PyData} : ds.map id = ds := List.map_id ds
theorem people_eq (ps : List PyData) : fitB personD ps = (decide (ps.length ≤ 8) && ps.all nameD && risL ps) := by
  rw [Bool.eq_iff_iff, fitB_iff, Bool.and_eq_true, Bool.and_eq_true, decide_eq_true_eq, List.all_eq_true]
  have hb := behind_all (f := id) (ds := ps)
  rw [map_id_] at hb
  rw [← hb]
  unfold personD
  constructor
  · intro h
    have h' : ∀ j x, ps[j]? = some x → nameD x = true ∧ (ps.take j).length < 8 ∧ behind id (ps.take j) x = true := fun j x e => by
      have := h j x e
      rw [Bool.and_eq_true, Bool.and_eq_true, decide_eq_true_eq] at this
      exact ⟨this.1.1, this.1.2, this.2⟩
    refine ⟨⟨?_, fun x hx => ?_⟩, fun j x e => (h' j x e).2.2⟩
    · by_cases c : ps.length ≤ 8
      · exact c
      · have := (h' 8 _ (List.getElem?_eq_getElem (by omega))).2.1
        rw [List.length_take] at this
        omega
    · obtain ⟨j, hj, rfl⟩ := List.getElem_of_mem hx
      exact (h' j _ (List.getElem?_eq_getElem hj)).1
  · rintro ⟨⟨h1, h2⟩, h3⟩ j x e
    have hj := (List.getElem?_eq_some_iff.mp e).1
    rw [Bool.and_eq_true, Bool.and_eq_true, decide_eq_true_eq]
    refine ⟨⟨h2 x (List.mem_of_getElem? e), ?_⟩, h3 j x e⟩
    rw [List.length_take]
    omega
theorem isS_name {d : PyData} (h : nameD d = true) : isS d = true := by
  cases d <;> first | rfl | cases h
theorem isS_held {ps : List PyData} {d : PyData} (h : heldD ps d = true) : isS d = true := by
  unfold heldD oneD at h
  rw [Bool.or_eq_true, Bool.and_eq_true] at h
  rcases h with h | h
  · exact h.1
  · cases d <;> first | rfl | cases h
theorem ends_eq {ps : List PyData} {d : PyData} (h : isS d = true) : endsD ps d = heldD ps d := by
  unfold endsD heldD oneD
  rw [List.any_append, h, Bool.true_and]
  congr 1
  cases d with
  | str z =>
    show (((("chest" : Str)) == z) || false) = decide (z = "chest")
    rw [Bool.or_false, Bool.eq_iff_iff, beq_iff_eq, decide_eq_true_eq]
    exact eq_comm
  | _ => cases h
theorem amt_row {r : PyData} : rowL r = (amtD r && isS (d0 r) && isS (d1 r)) := by
  unfold rowL amtD
  split
  · simp only [d0, d1]
    rename_i x y a
    cases isS x <;> cases isS y <;> simp
  · rfl
theorem lots_take {gs : List PyData} {j : Nat} {x : PyData} (e : gs[j]? = some x) : gs.take j ++ [x] = gs.take (j + 1) := by
  rw [List.take_add_one, e]
  rfl
theorem goods_eq (ps gs : List PyData) : fitB (goodD ps) gs = (rowsL gs && (gs.all fun r => endsD ps (d0 r) && nameD (d1 r)) && decide ((SetX.dst (lotsD gs)).length < 9)) := by
  unfold rowsL
  rw [Bool.eq_iff_iff, fitB_iff, Bool.and_eq_true, Bool.and_eq_true, Bool.and_eq_true, decide_eq_true_eq, List.all_eq_true, List.all_eq_true, ← behind_all]
  unfold goodD
  constructor
  · intro h
    have h' : ∀ j x, gs[j]? = some x → amtD x = true ∧ heldD ps (d0 x) = true ∧ nameD (d1 x) = true ∧ (SetX.dst (lotsD (gs.take (j + 1)))).length ≤ 8 ∧ behind tk2 (gs.take j) x = true := fun j x e => by
      have := h j x e
      simp only [Bool.and_eq_true, decide_eq_true_eq, lots_take e] at this
      exact ⟨this.1.1.1.1, this.1.1.1.2, this.1.1.2, this.1.2, this.2⟩
    refine ⟨⟨⟨fun x hx => ?_, fun j x e => (h' j x e).2.2.2.2⟩, fun x hx => ?_⟩, ?_⟩
    · obtain ⟨j, hj, rfl⟩ := List.getElem_of_mem hx
      obtain ⟨q1, q2, q3, _⟩ := h' j _ (List.getElem?_eq_getElem hj)
      rw [amt_row, q1, isS_held q2, isS_name q3]
      rfl
    · obtain ⟨j, hj, rfl⟩ := List.getElem_of_mem hx
      obtain ⟨q1, q2, q3, _⟩ := h' j _ (List.getElem?_eq_getElem hj)
      rw [ends_eq (isS_held q2), q2, q3]
      rfl
    · by_cases c : gs = []
      · rw [c]
        decide
      · have hp : gs.length - 1 < gs.length := by have := List.length_pos_iff.mpr c; omega
        have := (h' (gs.length - 1) _ (List.getElem?_eq_getElem hp)).2.2.2.1
        rw [Nat.sub_add_cancel (by omega), List.take_length] at this
        omega
  · rintro ⟨⟨⟨h1, h2⟩, h3⟩, h4⟩ j x e
    have m := List.mem_of_getElem? e
    have q1 := h1 x m
    have q3 := h3 x m
    rw [amt_row, Bool.and_eq_true, Bool.and_eq_true] at q1
    rw [Bool.and_eq_true, ends_eq q1.1.2] at q3
    simp only [Bool.and_eq_true, decide_eq_true_eq, lots_take e]
    refine ⟨⟨⟨⟨q1.1.1, q3.1⟩, q3.2⟩, ?_⟩, h2 j x e⟩
    have := SetX.dst_le (lotsD (gs.take (j + 1))) (lotsD (gs.drop (j + 1)))
    have e2 : lotsD (gs.take (j + 1)) ++ lotsD (gs.drop (j + 1)) = lotsD gs := by
      unfold lotsD
      rw [← List.map_append, List.take_append_drop]
    rw [e2] at this
    omega
theorem thanks_eq (ps ts : List PyData) : fitB (thankD ps) ts = (rowsL ts && (ts.all fun r => (ps.any fun e => PyData.eqv e (d0 r)) && endsD ps (d1 r) && !PyData.eqv (d0 r) (d1 r))) := by
  unfold rowsL
  rw [Bool.eq_iff_iff, fitB_iff, Bool.and_eq_true, Bool.and_eq_true, List.all_eq_true, List.all_eq_true, ← behind_all]
  unfold thankD oneD
  constructor
  · intro h
    have h' : ∀ j x, ts[j]? = some x → amtD x = true ∧ (isS (d0 x) = true ∧ (ps.any fun e => PyData.eqv e (d0 x)) = true) ∧ heldD ps (d1 x) = true ∧ (!PyData.eqv (d0 x) (d1 x)) = true ∧ behind tk2 (ts.take j) x = true := fun j x e => by
      have := h j x e
      rw [Bool.and_eq_true, Bool.and_eq_true, Bool.and_eq_true, Bool.and_eq_true, Bool.and_eq_true] at this
      exact ⟨this.1.1.1.1, this.1.1.1.2, this.1.1.2, this.1.2, this.2⟩
    refine ⟨⟨fun x hx => ?_, fun j x e => (h' j x e).2.2.2.2⟩, fun x hx => ?_⟩
    · obtain ⟨j, hj, rfl⟩ := List.getElem_of_mem hx
      obtain ⟨q1, q2, q3, _⟩ := h' j _ (List.getElem?_eq_getElem hj)
      rw [amt_row, q1, q2.1, isS_held q3]
      rfl
    · obtain ⟨j, hj, rfl⟩ := List.getElem_of_mem hx
      obtain ⟨q1, q2, q3, q4, _⟩ := h' j _ (List.getElem?_eq_getElem hj)
      rw [ends_eq (isS_held q3), q2.2, q3, q4]
      rfl
  · rintro ⟨⟨h1, h2⟩, h3⟩ j x e
    have m := List.mem_of_getElem? e
    have q1 := h1 x m
    have q3 := h3 x m
    rw [amt_row, Bool.and_eq_true, Bool.and_eq_true] at q1
    rw [Bool.and_eq_true, Bool.and_eq_true, ends_eq q1.2] at q3
    rw [q1.1.1, q1.1.2, q3.1.1, q3.1.2, q3.2, h2 j x e]
    rfl
theorem webL_eq (d : PyData) : webL d = webD d := by
  unfold webL webD
  split
  · rw [people_eq, goods_eq, thanks_eq]
    rename_i ps gs ts
    generalize (decide (ps.length ≤ 8) && ps.all nameD && risL ps) = a
    generalize rowsL gs = b
    generalize rowsL ts = c
    generalize (gs.all fun r => endsD ps (d0 r) && nameD (d1 r)) = d
    generalize (ts.all fun r => (ps.any fun e => PyData.eqv e (d0 r)) && endsD ps (d1 r) && !PyData.eqv (d0 r) (d1 r)) = e
    generalize decide ((SetX.dst (lotsD gs)).length < 9) = f
    cases a <;> cases b <;> cases c <;> cases d <;> cases e <;> cases f <;> rfl
  · rfl
end Ver
/-! Steps of readings for dicts and sets; data and their bounds. -/
namespace Ver
open PySem PySem.Spec PyProof.Rows L2
section
variable {X : Cx} {K : PySem.W.Frag} {σ : L2.St} {H : Hp} {Q : VK} {D : Ends} {ta td ty te tv : TE} {R : It → Hp → Prop}
theorem ix_seqV (h : X.K = K) : IxR X (rIx K) := h ▸ ix_seq
theorem wLockE {d : Addr} {kvs : List (List Key × V)} (h : H d = some (.dT kvs)) (k : ∀ od, te σ (upd H d (.frz od (.dT kvs))) fun v H' => H' d = some (.frz od (.dT kvs)) ∧ Q v (upd H' d (.dT kvs))) : tLockE te σ H Q := ⟨d, _, h, trivial, k⟩
theorem wLenSet (k : ta σ H fun x H1 => ∃ (l : Addr) (xs : List Str), x = .ref l ∧ SqL K H1 l (xs.map V.str) ∧ xs.length ≤ 1000 ∧ Q (.int ((SetX.dst xs).length : Nat)) H1) : tLenSet K ta σ H Q := k
theorem wDPut (k : tv σ H fun v H1 => td σ H1 fun x H2 => ty σ H2 fun y H3 => ∃ a H4, x = .ref a ∧ DPut H3 a y v H4 ∧ D.nx σ H4) : sDPut td ty tv D σ H := k
theorem wIKeys (k : td σ H fun x H1 => ∃ d o, x = .ref d ∧ ((∃ kvs, H1 d = some (.frz o (.dK kvs)) ∧ R (Itk d o kvs) H1) ∨ ∃ kvs, H1 d = some (.frz o (.dT kvs)) ∧ R (Itkt d o kvs) H1)) : iKeys td σ H R := k
theorem wDnewT (k : Al Q (.dT []) H) : tDNewT σ H Q := k
theorem wPopT (k : td σ H fun x H1 => ∃ a, x = .ref a ∧ IsD H1 a ∧ ty σ H1 fun y H2 => ∃ kvs k b v, H2 a = some (.dT kvs) ∧ y = .ref b ∧ H2 b = some (.tup (k.map kV)) ∧ valV kvs k = some v ∧ Q v (upd H2 a (.dT (dropK kvs k)))) : tPopT td ty σ H Q := k
end
/-! ### data -/
def tyN : PyData → String
  | .none => "NoneType"
  | .bool _ => "bool"
  | .int _ => "int"
  | .str _ => "str"
  | .list _ => "list"
  | .tuple _ => "tuple"
  | .dict _ => "dict"
def isT : PyData → Bool
  | .tuple _ => true
  | _ => false
def isI : PyData → Bool
  | .int _ => true
  | _ => false
def isB : PyData → Bool
  | .bool _ => true
  | _ => false
theorem Dt.ty {K : PySem.W.Frag} {H : Hp} {v : V} {d : PyData} (h : Dt H v d) : Ty K H v (tyN d) := by
  cases h with
  | non => exact .non
  | bl b => exact .bl b
  | int i => exact .int i
  | str z => exact .str z
  | tup h _ => exact .tup h
  | lst h _ => exact .lst h
  | dct h => exact .dK h
theorem kit_tup (d : PyData) : kitB (tyN d) "tuple" = some (isT d) := by
  cases d <;> simp only [tyN, isT] <;> decide +kernel
theorem kit_str (d : PyData) : kitB (tyN d) "str" = some (isS d) := by
  cases d <;> simp only [tyN, isS] <;> decide +kernel
theorem kit_int (d : PyData) : kitB (tyN d) "int" = some (isI d || isB d) := by
  cases d <;> simp only [tyN, isI, isB] <;> decide +kernel
theorem kit_bool (d : PyData) : kitB (tyN d) "bool" = some (isB d) := by
  cases d <;> simp only [tyN, isB] <;> decide +kernel
mutual
/-- numbers of at most m bits, texts and rows no longer than n -/
def Bd (m n : Nat) : PyData → Prop
  | .int i => i.natAbs < 2 ^ m
  | .str z => z.length ≤ n
  | .list ds => ds.length ≤ n ∧ BdA m n ds
  | .tuple ds => ds.length ≤ n ∧ BdA m n ds
  | _ => True
def BdA (m n : Nat) : List PyData → Prop
  | [] => True
  | d :: ds => Bd m n d ∧ BdA m n ds
end
theorem bdA_iff {m n : Nat} : ∀ {ds : List PyData}, BdA m n ds ↔ ∀ d ∈ ds, Bd m n d
  | [] => ⟨fun _ d h => (by cases h), fun _ => trivial⟩
  | d :: ds => by
    rw [List.forall_mem_cons, ← bdA_iff]
    rfl
mutual
theorem Bd.mono {m n m' n' : Nat} (hm : m ≤ m') (hn : n ≤ n') : ∀ {d : PyData}, Bd m n d → Bd m' n' d
  | .int i, h => Nat.lt_of_lt_of_le h (Nat.pow_le_pow_right (by decide) hm)
  | .str z, h => Nat.le_trans h hn
  | .list ds, h => ⟨Nat.le_trans h.1 hn, BdA.mono hm hn h.2⟩
  | .tuple ds, h => ⟨Nat.le_trans h.1 hn, BdA.mono hm hn h.2⟩
  | .none, _ => trivial
  | .bool _, _ => trivial
  | .dict _, _ => trivial
theorem BdA.mono {m n m' n' : Nat} (hm : m ≤ m') (hn : n ≤ n') : ∀ {ds : List PyData}, BdA m n ds → BdA m' n' ds
  | [], _ => trivial
  | d :: ds, h => ⟨Bd.mono hm hn h.1, BdA.mono hm hn h.2⟩
end
theorem Bd.at_ {m n : Nat} {ds : List PyData} {j : Nat} {d : PyData} (h : BdA m n ds) (e : ds[j]? = some d) : Bd m n d := bdA_iff.mp h d (List.mem_of_getElem? e)
/-- v is a datum d within bounds -/
structure Da (m n : Nat) (H : Hp) (v : V) (d : PyData) : Prop where
  dt : Dt H v d
  bd : Bd m n d
theorem Da.ex {m n : Nat} {H G : Hp} {v : V} {d : PyData} (h : Da m n H v d) (e : Ex H G) : Da m n G v d := ⟨h.dt.ex e, h.bd⟩
theorem Da.mono {m n m' n' : Nat} {H : Hp} {v : V} {d : PyData} (h : Da m n H v d) (hm : m ≤ m') (hn : n ≤ n') : Da m' n' H v d := ⟨h.dt, h.bd.mono hm hn⟩
theorem Da.thing {K : PySem.W.Frag} {m n : Nat} {H : Hp} {v : V} {d : PyData} (h : Da m n H v d) (hn : n ≤ 30000) : Thing K H v := by
  refine ⟨⟨_, h.dt.ty⟩, fun z e => ?_⟩
  obtain ⟨dt, bd⟩ := h
  subst e
  cases dt
  exact Nat.le_trans bd hn
theorem Da.tup {m n : Nat} {H : Hp} {v : V} {ds : List PyData} (h : Da m n H v (.tuple ds)) : ∃ a xs, v = .ref a ∧ H a = some (.tup xs) ∧ DtA H xs ds ∧ ds.length ≤ n ∧ BdA m n ds := by
  obtain ⟨dt, bd⟩ := h
  cases dt with
  | tup e q => exact ⟨_, _, rfl, e, q, bd.1, bd.2⟩
theorem DtA.nth {m n : Nat} {H : Hp} {xs : List V} {ds : List PyData} {j : Nat} {x : V} (h : DtA H xs ds) (b : BdA m n ds) (e : xs[j]? = some x) : ∃ d, ds[j]? = some d ∧ Da m n H x d := by
  obtain ⟨d, q, r⟩ := h.at_ e
  exact ⟨d, q, r, Bd.at_ b q⟩
/-- a look at one thing -/
def spD (m n : Nat) (f : PyData → Bool) : Sp := fun vs H Q _ => ∃ v d, vs = [v] ∧ Da m n H v d ∧ ∀ H', Ex H H' → Q (.bl (f d)) H'
theorem plain_str (z : Str) : (PyData.str z).plain = true := by simp [PyData.plain]
theorem cmp_str {H : Hp} (z : Str) : Cmp H (.str z) (.str z) := ⟨.str z, plain_str z, by simp [PyData.depth]⟩
theorem lt_strs {H : Hp} {Q : VK} {y z : Str} (k : Q (.bl (PySem.W.dataLt (.str y) (.str z))) H) : rLtD (.str y) (.str z) H Q :=
  ⟨_, _, .str y, .str z, by simp [PySem.W.alike], (by intro q; cases q), by simp [PyData.depth], k⟩
theorem isS_str {H : Hp} {v : V} {d : PyData} (h : Dt H v d) (e : isS d = true) : ∃ z, v = .str z ∧ d = .str z := by
  cases h <;> first | exact ⟨_, rfl, rfl⟩ | cases e
theorem cut_take (xs : List V) (k : Nat) : cutV xs none (some (k : Int)) = xs.take k := by
  unfold cutV
  rw [HT.sIx_none, HT.sIx_nat, List.drop_zero, Nat.sub_zero]
  by_cases h : k ≤ xs.length
  · rw [Nat.min_eq_left h]
  · rw [Nat.min_eq_right (by omega), List.take_of_length_le (Nat.le_refl _), List.take_of_length_le (by omega)]
theorem cut_drop (xs : List V) (k : Nat) : cutV xs (some (k : Int)) none = xs.drop k := by
  unfold cutV
  rw [HT.sIx_none, HT.sIx_nat]
  by_cases h : k ≤ xs.length
  · rw [Nat.min_eq_left h]
    exact List.take_of_length_le (by rw [List.length_drop]; exact Nat.le_refl _)
  · rw [Nat.min_eq_right (by omega), List.drop_eq_nil_of_le (Nat.le_refl _), List.drop_eq_nil_of_le (by omega), List.take_nil]
theorem wSlT {K : PySem.W.Frag} {H : Hp} {Q : VK} {a : Addr} {xs : List V} {lo hi : Option Int} (h : H a = some (.tup xs)) (k : ∀ b H', Ex H H' → H' b = some (.tup (cutV xs lo hi)) → (b = a ∨ H b = none) → Q (.ref b) H') : rSlA K (.ref a) lo hi H Q := by
  refine ⟨a, xs, rfl, SqT.of h, fun e => k a H (Ex.refl H) ?_ (.inl rfl), fun _ q hq => k q _ (Ex.new hq) upd_same (.inr hq)⟩
  unfold cutV
  rw [e.1, e.2, List.drop_zero, Nat.sub_zero, List.take_length]
  exact h
theorem wCatT {K : PySem.W.Frag} {H : Hp} {Q : VK} {a b : Addr} {xs ys : List V} (h1 : H a = some (.tup xs)) (h2 : H b = some (.tup ys)) (hl : xs.length + ys.length ≤ 100000) (k : ∀ c H', Ex H H' → H' c = some (.tup (xs ++ ys)) → (c = a ∨ c = b ∨ H c = none) → Q (.ref c) H') : rCatA K (.ref a) (.ref b) H Q :=
  ⟨a, b, xs, ys, rfl, rfl, SqT.of h1, SqT.of h2, sz6 hl, fun e => k b H (Ex.refl H) (by rw [e]; exact h2) (.inr (.inl rfl)), fun _ e => k a H (Ex.refl H) (by rw [e, List.append_nil]; exact h1) (.inl rfl), fun _ _ q hq => k q _ (Ex.new hq) upd_same (.inr (.inr hq))⟩
theorem wCatL {H : Hp} {Q : VK} {a b : Addr} {xs ys : List V} (h1 : H a = some (.lst xs)) (h2 : H b = some (.lst ys)) (hl : xs.length + ys.length ≤ 100000) (k : ∀ c H', Ex H H' → H' c = some (.lst (xs ++ ys)) → H c = none → Q (.ref c) H') : rCat (.ref a) (.ref b) H Q :=
  wCat h1 h2 (sz6 hl) fun q hq => k q _ (Ex.new hq) upd_same hq
theorem DtA.last {H : Hp} {xs : List V} {ds : List PyData} (h : DtA H xs ds) (ne : ds ≠ []) : ∃ x d, atI xs (-1) = some x ∧ ds.getLast? = some d ∧ d ∈ ds ∧ Dt H x d := by
  have l := h.length
  have nx : xs ≠ [] := fun e => by
    rw [e] at l
    exact ne (List.length_eq_zero_iff.mp l.symm)
  have p : 0 < xs.length := List.length_pos_iff.mpr nx
  have e := atI_last xs.dropLast (xs.getLast nx)
  rw [List.dropLast_concat_getLast, List.getLast_eq_getElem] at e
  obtain ⟨d, q, r⟩ := h.at_ (i := xs.length - 1) (x := xs[xs.length - 1]) (List.getElem?_eq_getElem (by omega))
  exact ⟨_, d, e, by rw [List.getLast?_eq_getElem?, ← l]; exact q, List.mem_of_getElem? q, r⟩
/-- a row that begins with two texts -/
def Rw (d : PyData) : Prop := ∃ y z t, d = .tuple (.str y :: .str z :: t)
theorem Rw.at_ {H : Hp} {v : V} {d : PyData} (r : Rw d) (h : Dt H v d) : ∃ a y z xs ds, v = .ref a ∧ d = .tuple (.str y :: .str z :: ds) ∧ H a = some (.tup (.str y :: .str z :: xs)) ∧ DtA H xs ds := by
  obtain ⟨y, z, t, rfl⟩ := r
  cases h with
  | tup e q =>
    cases q with
    | cons q1 q =>
      cases q with
      | cons q2 q =>
        cases q1
        cases q2
        exact ⟨_, _, _, _, _, rfl, rfl, e, q⟩
theorem lt_pairs {H : Hp} {Q : VK} {a b : Addr} {y z y' z' : Str} (ha : H a = some (.tup [.str y, .str z])) (hb : H b = some (.tup [.str y', .str z'])) (k : Q (.bl (PySem.W.dataLt (.tuple [.str y, .str z]) (.tuple [.str y', .str z']))) H) : rLtD (.ref a) (.ref b) H Q :=
  ⟨_, _, .tup ha (.cons (.str y) (.cons (.str z) .nil)), .tup hb (.cons (.str y') (.cons (.str z') .nil)), by simp [PySem.W.alike, PySem.W.alikeAll], (by intro q; cases q), by simp [PyData.depth, PyData.depthAll], k⟩
end Ver
namespace Ver
open PySem PySem.Spec PyProof.Rows L2
def top (i : Nat) : Stmt := PySem.Challenge.pw_thankways_k07_what_webs_are.main.body.getD i (.Pass ⟨0, 0, 0, 0⟩)
abbrev s_is_whole : Stmt := top 1
abbrev s_greatest_divisor : Stmt := top 2
abbrev s_is_fraction : Stmt := top 3
abbrev s_is_name : Stmt := top 7
abbrev s_is_web : Stmt := top 11
abbrev s_is_people : Stmt := top 12
abbrev s_is_goods : Stmt := top 13
abbrev s_is_thanks : Stmt := top 14
abbrev s_person_fits : Stmt := top 15
abbrev s_good_fits : Stmt := top 16
abbrev s_thank_fits : Stmt := top 17
abbrev s_is_amount_row : Stmt := top 18
abbrev s_rises : Stmt := top 19
abbrev s_is_one_of : Stmt := top 20
abbrev s_is_held_by : Stmt := top 21
abbrev s_Lcell : Stmt := top 23
abbrev s_Lpool : Stmt := top 24
abbrev s_Ltake : Stmt := top 25
abbrev s_Llow : Stmt := top 26
abbrev s_Lnames : Stmt := top 27
abbrev s_Lmeasure : Stmt := top 28
abbrev s_Lthanks : Stmt := top 29
abbrev s_Lgoods : Stmt := top 30
abbrev s_Lweb : Stmt := top 31
abbrev s_Ldrawn : Stmt := top 32
abbrev s_Lwhole : Stmt := top 33
abbrev s_Lis_amount : Stmt := top 34
abbrev s_Lis_name : Stmt := top 35
abbrev s_Lrises : Stmt := top 36
abbrev s_Lrows : Stmt := top 37
abbrev s_Lis_web : Stmt := top 38
abbrev s_Lspoilt : Stmt := top 39
abbrev s_Lmore : Stmt := top 40
abbrev s_Ltold : Stmt := top 41
abbrev s_Lgreat : Stmt := top 42
abbrev s_law : Stmt := top 43
theorem sc_is_whole : FnScope ["thing"] ["thing"] (defScope s_is_whole) := ⟨rfl, rfl, rfl, by decide +kernel, rfl, by decide +kernel, by decide +kernel⟩
theorem sc_greatest_divisor : FnScope ["one", "other"] ["one", "other"] (defScope s_greatest_divisor) := ⟨rfl, rfl, rfl, by decide +kernel, rfl, by decide +kernel, by decide +kernel⟩
theorem sc_is_fraction : FnScope ["thing", "top", "bottom"] ["thing"] (defScope s_is_fraction) := ⟨rfl, rfl, rfl, by decide +kernel, rfl, by decide +kernel, by decide +kernel⟩
theorem sc_is_name : FnScope ["thing", "sign"] ["thing"] (defScope s_is_name) := ⟨rfl, rfl, rfl, by decide +kernel, rfl, by decide +kernel, by decide +kernel⟩
theorem sc_is_web : FnScope ["thing", "people", "goods", "thanks"] ["thing"] (defScope s_is_web) := ⟨rfl, rfl, rfl, by decide +kernel, rfl, by decide +kernel, by decide +kernel⟩
theorem sc_is_people : FnScope ["thing", "place", "name"] ["thing"] (defScope s_is_people) := ⟨rfl, rfl, rfl, by decide +kernel, rfl, by decide +kernel, by decide +kernel⟩
theorem sc_is_goods : FnScope ["people", "thing", "place", "row"] ["people", "thing"] (defScope s_is_goods) := ⟨rfl, rfl, rfl, by decide +kernel, rfl, by decide +kernel, by decide +kernel⟩
theorem sc_is_thanks : FnScope ["people", "thing", "place", "row"] ["people", "thing"] (defScope s_is_thanks) := ⟨rfl, rfl, rfl, by decide +kernel, rfl, by decide +kernel, by decide +kernel⟩
theorem sc_person_fits : FnScope ["ahead", "thing"] ["ahead", "thing"] (defScope s_person_fits) := ⟨rfl, rfl, rfl, by decide +kernel, rfl, by decide +kernel, by decide +kernel⟩
theorem sc_good_fits : FnScope ["people", "ahead", "thing", "lots", "row"] ["people", "ahead", "thing"] (defScope s_good_fits) := ⟨rfl, rfl, rfl, by decide +kernel, rfl, by decide +kernel, by decide +kernel⟩
theorem sc_thank_fits : FnScope ["people", "ahead", "thing"] ["people", "ahead", "thing"] (defScope s_thank_fits) := ⟨rfl, rfl, rfl, by decide +kernel, rfl, by decide +kernel, by decide +kernel⟩
theorem sc_is_amount_row : FnScope ["thing"] ["thing"] (defScope s_is_amount_row) := ⟨rfl, rfl, rfl, by decide +kernel, rfl, by decide +kernel, by decide +kernel⟩
theorem sc_rises : FnScope ["ahead", "row"] ["ahead", "row"] (defScope s_rises) := ⟨rfl, rfl, rfl, by decide +kernel, rfl, by decide +kernel, by decide +kernel⟩
theorem sc_is_one_of : FnScope ["people", "thing"] ["people", "thing"] (defScope s_is_one_of) := ⟨rfl, rfl, rfl, by decide +kernel, rfl, by decide +kernel, by decide +kernel⟩
theorem sc_is_held_by : FnScope ["people", "thing"] ["people", "thing"] (defScope s_is_held_by) := ⟨rfl, rfl, rfl, by decide +kernel, rfl, by decide +kernel, by decide +kernel⟩
theorem sc_Lcell : FnScope ["_law_script", "_law_k", "_law_state", "_law_cell_here"] ["_law_script", "_law_k"] (defScope s_Lcell) := ⟨rfl, rfl, rfl, by decide +kernel, rfl, by decide +kernel, by decide +kernel⟩
theorem sc_Lpool : FnScope ["_law_cell_here", "_law_digits"] ["_law_cell_here"] (defScope s_Lpool) := ⟨rfl, rfl, rfl, by decide +kernel, rfl, by decide +kernel, by decide +kernel⟩
theorem sc_Ltake : FnScope ["_law_pool_here", "_law_many", "_law_state", "_law_digit"] ["_law_pool_here", "_law_many"] (defScope s_Ltake) := ⟨rfl, rfl, rfl, by decide +kernel, rfl, by decide +kernel, by decide +kernel⟩
theorem sc_Llow : FnScope ["_law_top", "_law_bottom", "_law_one", "_law_other"] ["_law_top", "_law_bottom"] (defScope s_Llow) := ⟨rfl, rfl, rfl, by decide +kernel, rfl, by decide +kernel, by decide +kernel⟩
theorem sc_Lnames : FnScope ["_law_pool_here", "_law_many", "_law_words", "_law_at", "_law_step", "_law_letters", "_law_stem", "_law_put", "_law_first", "_law_some", "_law_k", "_law_one"] ["_law_pool_here", "_law_many"] (defScope s_Lnames) := ⟨rfl, rfl, rfl, by decide +kernel, rfl, by decide +kernel, by decide +kernel⟩
theorem sc_Lmeasure : FnScope ["_law_pool_here", "_law_bottom"] ["_law_pool_here"] (defScope s_Lmeasure) := ⟨rfl, rfl, rfl, by decide +kernel, rfl, by decide +kernel, by decide +kernel⟩
theorem sc_Lthanks : FnScope ["_law_pool_here", "_law_people", "_law_thanks_here", "_law_mode", "_law_k", "_law_j", "_law_near", "_law_odds", "_law_one", "_law_pair"] ["_law_pool_here", "_law_people"] (defScope s_Lthanks) := ⟨rfl, rfl, rfl, by decide +kernel, rfl, by decide +kernel, by decide +kernel⟩
theorem sc_Lgoods : FnScope ["_law_pool_here", "_law_people", "_law_lots", "_law_goods_here", "_law_lot", "_law_one"] ["_law_pool_here", "_law_people", "_law_lots"] (defScope s_Lgoods) := ⟨rfl, rfl, rfl, by decide +kernel, rfl, by decide +kernel, by decide +kernel⟩
theorem sc_Lweb : FnScope ["_law_people", "_law_goods_here", "_law_thanks_here", "_law_rows_here", "_law_links", "_law_one"] ["_law_people", "_law_goods_here", "_law_thanks_here"] (defScope s_Lweb) := ⟨rfl, rfl, rfl, by decide +kernel, rfl, by decide +kernel, by decide +kernel⟩
theorem sc_Ldrawn : FnScope ["_law_pool_here", "_law_upto", "_law_many", "_law_people", "_law_lots"] ["_law_pool_here", "_law_upto"] (defScope s_Ldrawn) := ⟨rfl, rfl, rfl, by decide +kernel, rfl, by decide +kernel, by decide +kernel⟩
theorem sc_Lwhole : FnScope ["_law_thing"] ["_law_thing"] (defScope s_Lwhole) := ⟨rfl, rfl, rfl, by decide +kernel, rfl, by decide +kernel, by decide +kernel⟩
theorem sc_Lis_amount : FnScope ["_law_thing", "_law_part"] ["_law_thing"] (defScope s_Lis_amount) := ⟨rfl, rfl, rfl, by decide +kernel, rfl, by decide +kernel, by decide +kernel⟩
theorem sc_Lis_name : FnScope ["_law_thing", "_law_sign"] ["_law_thing"] (defScope s_Lis_name) := ⟨rfl, rfl, rfl, by decide +kernel, rfl, by decide +kernel, by decide +kernel⟩
theorem sc_Lrises : FnScope ["_law_things", "_law_k"] ["_law_things"] (defScope s_Lrises) := ⟨rfl, rfl, rfl, by decide +kernel, rfl, by decide +kernel, by decide +kernel⟩
theorem sc_Lrows : FnScope ["_law_thing", "_law_row"] ["_law_thing"] (defScope s_Lrows) := ⟨rfl, rfl, rfl, by decide +kernel, rfl, by decide +kernel, by decide +kernel⟩
theorem sc_Lis_web : FnScope ["_law_thing", "_law_people", "_law_goods_here", "_law_links", "_law_ends", "_law_holder", "_law_lot", "_law_amount", "_law_one", "_law_to", "_law_part", "_law_row"] ["_law_thing"] (defScope s_Lis_web) := ⟨rfl, rfl, rfl, by decide +kernel, rfl, by decide +kernel, by decide +kernel⟩
theorem sc_Lspoilt : FnScope ["_law_pool_here", "_law_old", "_law_at", "_law_pick", "_law_rows_here", "_law_odd"] ["_law_pool_here", "_law_old"] (defScope s_Lspoilt) := ⟨rfl, rfl, rfl, by decide +kernel, rfl, by decide +kernel, by decide +kernel⟩
theorem sc_Lmore : FnScope ["_law_pool_here", "_law_web_here", "_law_people", "_law_goods_here", "_law_links", "_law_ends", "_law_one", "_law_other", "_law_some", "_law_amount", "_law_kind", "_law_row", "_law_rows_here", "_law_at", "_law_longer", "_law_old"] ["_law_pool_here", "_law_web_here"] (defScope s_Lmore) := ⟨rfl, rfl, rfl, by decide +kernel, rfl, by decide +kernel, by decide +kernel⟩
theorem sc_Ltold : FnScope ["_law_thing", "_law_found"] ["_law_thing"] (defScope s_Ltold) := ⟨rfl, rfl, rfl, by decide +kernel, rfl, by decide +kernel, by decide +kernel⟩
theorem sc_Lgreat : FnScope ["_law_found", "_law_names_here", "_law_many", "_law_people", "_law_far", "_law_one", "_law_lot", "_law_k"] [] (defScope s_Lgreat) := ⟨rfl, rfl, rfl, by decide +kernel, rfl, by decide +kernel, by decide +kernel⟩
theorem sc_law : FnScope ["_law_script", "_law_strange", "_law_k", "_law_pool_here", "_law_web_here", "_law_shown", "_law_turn", "_law_once", "_law_some", "_law_thing"] ["_law_script"] (defScope s_law) := ⟨rfl, rfl, rfl, by decide +kernel, rfl, by decide +kernel, by decide +kernel⟩
structure Adr where
  f_is_whole : Addr
  d_is_whole : FuncData
  f_greatest_divisor : Addr
  d_greatest_divisor : FuncData
  f_is_fraction : Addr
  d_is_fraction : FuncData
  f_is_name : Addr
  d_is_name : FuncData
  f_is_web : Addr
  d_is_web : FuncData
  f_is_people : Addr
  d_is_people : FuncData
  f_is_goods : Addr
  d_is_goods : FuncData
  f_is_thanks : Addr
  d_is_thanks : FuncData
  f_person_fits : Addr
  d_person_fits : FuncData
  f_good_fits : Addr
  d_good_fits : FuncData
  f_thank_fits : Addr
  d_thank_fits : FuncData
  f_is_amount_row : Addr
  d_is_amount_row : FuncData
  f_rises : Addr
  d_rises : FuncData
  f_is_one_of : Addr
  d_is_one_of : FuncData
  f_is_held_by : Addr
  d_is_held_by : FuncData
  f_Lcell : Addr
  d_Lcell : FuncData
  f_Lpool : Addr
  d_Lpool : FuncData
  f_Ltake : Addr
  d_Ltake : FuncData
  f_Llow : Addr
  d_Llow : FuncData
  f_Lnames : Addr
  d_Lnames : FuncData
  f_Lmeasure : Addr
  d_Lmeasure : FuncData
  f_Lthanks : Addr
  d_Lthanks : FuncData
  f_Lgoods : Addr
  d_Lgoods : FuncData
  f_Lweb : Addr
  d_Lweb : FuncData
  f_Ldrawn : Addr
  d_Ldrawn : FuncData
  f_Lwhole : Addr
  d_Lwhole : FuncData
  f_Lis_amount : Addr
  d_Lis_amount : FuncData
  f_Lis_name : Addr
  d_Lis_name : FuncData
  f_Lrises : Addr
  d_Lrises : FuncData
  f_Lrows : Addr
  d_Lrows : FuncData
  f_Lis_web : Addr
  d_Lis_web : FuncData
  f_Lspoilt : Addr
  d_Lspoilt : FuncData
  f_Lmore : Addr
  d_Lmore : FuncData
  f_Ltold : Addr
  d_Ltold : FuncData
  f_Lgreat : Addr
  d_Lgreat : FuncData
  t_CHEST : Tok
  t_MOST_LETTERS : Tok
  t_MOST_PEOPLE : Tok
  t_MOST_LOTS : Tok
/-- what the top has left -/
structure Tx (K : PySem.W.Frag) (mg : Str → Option Value) (A : Adr) : Prop where
  c_CHEST : mg "CHEST" = some (.str "chest" A.t_CHEST)
  c_MOST_LETTERS : mg "MOST_LETTERS" = some (.int 8 A.t_MOST_LETTERS)
  c_MOST_LOTS : mg "MOST_LOTS" = some (.int 8 A.t_MOST_LOTS)
  c_MOST_PEOPLE : mg "MOST_PEOPLE" = some (.int 8 A.t_MOST_PEOPLE)
  m_abs : mg "abs" = none
  m_all : mg "all" = none
  m_bool : mg "bool" = none
  m_divmod : mg "divmod" = none
  m_enumerate : mg "enumerate" = none
  m_int : mg "int" = none
  m_isinstance : mg "isinstance" = none
  m_len : mg "len" = none
  m_list : mg "list" = none
  m_max : mg "max" = none
  m_min : mg "min" = none
  m_range : mg "range" = none
  m_repr : mg "repr" = none
  m_set : mg "set" = none
  m_sorted : mg "sorted" = none
  m_str : mg "str" = none
  m_tuple : mg "tuple" = none
  F_is_whole : Fun K "is_whole" "is_whole" s_is_whole A.f_is_whole A.d_is_whole
  g_is_whole : mg "is_whole" = some (.ref A.f_is_whole)
  b_is_whole : Binds K A.d_is_whole ["thing"] []
  F_greatest_divisor : Fun K "greatest_divisor" "greatest_divisor" s_greatest_divisor A.f_greatest_divisor A.d_greatest_divisor
  g_greatest_divisor : mg "greatest_divisor" = some (.ref A.f_greatest_divisor)
  b_greatest_divisor : Binds K A.d_greatest_divisor ["one", "other"] []
  F_is_fraction : Fun K "is_fraction" "is_fraction" s_is_fraction A.f_is_fraction A.d_is_fraction
  g_is_fraction : mg "is_fraction" = some (.ref A.f_is_fraction)
  b_is_fraction : Binds K A.d_is_fraction ["thing"] []
  F_is_name : Fun K "is_name" "is_name" s_is_name A.f_is_name A.d_is_name
  g_is_name : mg "is_name" = some (.ref A.f_is_name)
  b_is_name : Binds K A.d_is_name ["thing"] []
  F_is_web : Fun K "is_web" "is_web" s_is_web A.f_is_web A.d_is_web
  g_is_web : mg "is_web" = some (.ref A.f_is_web)
  b_is_web : Binds K A.d_is_web ["thing"] []
  F_is_people : Fun K "is_people" "is_people" s_is_people A.f_is_people A.d_is_people
  g_is_people : mg "is_people" = some (.ref A.f_is_people)
  b_is_people : Binds K A.d_is_people ["thing"] []
  F_is_goods : Fun K "is_goods" "is_goods" s_is_goods A.f_is_goods A.d_is_goods
  g_is_goods : mg "is_goods" = some (.ref A.f_is_goods)
  b_is_goods : Binds K A.d_is_goods ["people", "thing"] []
  F_is_thanks : Fun K "is_thanks" "is_thanks" s_is_thanks A.f_is_thanks A.d_is_thanks
  g_is_thanks : mg "is_thanks" = some (.ref A.f_is_thanks)
  b_is_thanks : Binds K A.d_is_thanks ["people", "thing"] []
  F_person_fits : Fun K "person_fits" "person_fits" s_person_fits A.f_person_fits A.d_person_fits
  g_person_fits : mg "person_fits" = some (.ref A.f_person_fits)
  b_person_fits : Binds K A.d_person_fits ["ahead", "thing"] []
  F_good_fits : Fun K "good_fits" "good_fits" s_good_fits A.f_good_fits A.d_good_fits
  g_good_fits : mg "good_fits" = some (.ref A.f_good_fits)
  b_good_fits : Binds K A.d_good_fits ["people", "ahead", "thing"] []
  F_thank_fits : Fun K "thank_fits" "thank_fits" s_thank_fits A.f_thank_fits A.d_thank_fits
  g_thank_fits : mg "thank_fits" = some (.ref A.f_thank_fits)
  b_thank_fits : Binds K A.d_thank_fits ["people", "ahead", "thing"] []
  F_is_amount_row : Fun K "is_amount_row" "is_amount_row" s_is_amount_row A.f_is_amount_row A.d_is_amount_row
  g_is_amount_row : mg "is_amount_row" = some (.ref A.f_is_amount_row)
  b_is_amount_row : Binds K A.d_is_amount_row ["thing"] []
  F_rises : Fun K "rises" "rises" s_rises A.f_rises A.d_rises
  g_rises : mg "rises" = some (.ref A.f_rises)
  b_rises : Binds K A.d_rises ["ahead", "row"] []
  F_is_one_of : Fun K "is_one_of" "is_one_of" s_is_one_of A.f_is_one_of A.d_is_one_of
  g_is_one_of : mg "is_one_of" = some (.ref A.f_is_one_of)
  b_is_one_of : Binds K A.d_is_one_of ["people", "thing"] []
  F_is_held_by : Fun K "is_held_by" "is_held_by" s_is_held_by A.f_is_held_by A.d_is_held_by
  g_is_held_by : mg "is_held_by" = some (.ref A.f_is_held_by)
  b_is_held_by : Binds K A.d_is_held_by ["people", "thing"] []
  F_Lcell : Fun K "_law_cell" "_law_cell" s_Lcell A.f_Lcell A.d_Lcell
  g_Lcell : mg "_law_cell" = some (.ref A.f_Lcell)
  b_Lcell : Binds K A.d_Lcell ["_law_script", "_law_k"] []
  F_Lpool : Fun K "_law_pool" "_law_pool" s_Lpool A.f_Lpool A.d_Lpool
  g_Lpool : mg "_law_pool" = some (.ref A.f_Lpool)
  b_Lpool : Binds K A.d_Lpool ["_law_cell_here"] []
  F_Ltake : Fun K "_law_take" "_law_take" s_Ltake A.f_Ltake A.d_Ltake
  g_Ltake : mg "_law_take" = some (.ref A.f_Ltake)
  b_Ltake : Binds K A.d_Ltake ["_law_pool_here", "_law_many"] []
  F_Llow : Fun K "_law_low" "_law_low" s_Llow A.f_Llow A.d_Llow
  g_Llow : mg "_law_low" = some (.ref A.f_Llow)
  b_Llow : Binds K A.d_Llow ["_law_top", "_law_bottom"] []
  F_Lnames : Fun K "_law_names" "_law_names" s_Lnames A.f_Lnames A.d_Lnames
  g_Lnames : mg "_law_names" = some (.ref A.f_Lnames)
  b_Lnames : Binds K A.d_Lnames ["_law_pool_here", "_law_many"] []
  F_Lmeasure : Fun K "_law_measure" "_law_measure" s_Lmeasure A.f_Lmeasure A.d_Lmeasure
  g_Lmeasure : mg "_law_measure" = some (.ref A.f_Lmeasure)
  b_Lmeasure : Binds K A.d_Lmeasure ["_law_pool_here"] []
  F_Lthanks : Fun K "_law_thanks" "_law_thanks" s_Lthanks A.f_Lthanks A.d_Lthanks
  g_Lthanks : mg "_law_thanks" = some (.ref A.f_Lthanks)
  b_Lthanks : Binds K A.d_Lthanks ["_law_pool_here", "_law_people"] []
  F_Lgoods : Fun K "_law_goods" "_law_goods" s_Lgoods A.f_Lgoods A.d_Lgoods
  g_Lgoods : mg "_law_goods" = some (.ref A.f_Lgoods)
  b_Lgoods : Binds K A.d_Lgoods ["_law_pool_here", "_law_people", "_law_lots"] []
  F_Lweb : Fun K "_law_web" "_law_web" s_Lweb A.f_Lweb A.d_Lweb
  g_Lweb : mg "_law_web" = some (.ref A.f_Lweb)
  b_Lweb : Binds K A.d_Lweb ["_law_people", "_law_goods_here", "_law_thanks_here"] []
  F_Ldrawn : Fun K "_law_drawn" "_law_drawn" s_Ldrawn A.f_Ldrawn A.d_Ldrawn
  g_Ldrawn : mg "_law_drawn" = some (.ref A.f_Ldrawn)
  b_Ldrawn : Binds K A.d_Ldrawn ["_law_pool_here", "_law_upto"] []
  F_Lwhole : Fun K "_law_whole" "_law_whole" s_Lwhole A.f_Lwhole A.d_Lwhole
  g_Lwhole : mg "_law_whole" = some (.ref A.f_Lwhole)
  b_Lwhole : Binds K A.d_Lwhole ["_law_thing"] []
  F_Lis_amount : Fun K "_law_is_amount" "_law_is_amount" s_Lis_amount A.f_Lis_amount A.d_Lis_amount
  g_Lis_amount : mg "_law_is_amount" = some (.ref A.f_Lis_amount)
  b_Lis_amount : Binds K A.d_Lis_amount ["_law_thing"] []
  F_Lis_name : Fun K "_law_is_name" "_law_is_name" s_Lis_name A.f_Lis_name A.d_Lis_name
  g_Lis_name : mg "_law_is_name" = some (.ref A.f_Lis_name)
  b_Lis_name : Binds K A.d_Lis_name ["_law_thing"] []
  F_Lrises : Fun K "_law_rises" "_law_rises" s_Lrises A.f_Lrises A.d_Lrises
  g_Lrises : mg "_law_rises" = some (.ref A.f_Lrises)
  b_Lrises : Binds K A.d_Lrises ["_law_things"] []
  F_Lrows : Fun K "_law_rows" "_law_rows" s_Lrows A.f_Lrows A.d_Lrows
  g_Lrows : mg "_law_rows" = some (.ref A.f_Lrows)
  b_Lrows : Binds K A.d_Lrows ["_law_thing"] []
  F_Lis_web : Fun K "_law_is_web" "_law_is_web" s_Lis_web A.f_Lis_web A.d_Lis_web
  g_Lis_web : mg "_law_is_web" = some (.ref A.f_Lis_web)
  b_Lis_web : Binds K A.d_Lis_web ["_law_thing"] []
  F_Lspoilt : Fun K "_law_spoilt" "_law_spoilt" s_Lspoilt A.f_Lspoilt A.d_Lspoilt
  g_Lspoilt : mg "_law_spoilt" = some (.ref A.f_Lspoilt)
  b_Lspoilt : Binds K A.d_Lspoilt ["_law_pool_here", "_law_old"] []
  F_Lmore : Fun K "_law_more" "_law_more" s_Lmore A.f_Lmore A.d_Lmore
  g_Lmore : mg "_law_more" = some (.ref A.f_Lmore)
  b_Lmore : Binds K A.d_Lmore ["_law_pool_here", "_law_web_here"] []
  F_Ltold : Fun K "_law_told" "_law_told" s_Ltold A.f_Ltold A.d_Ltold
  g_Ltold : mg "_law_told" = some (.ref A.f_Ltold)
  b_Ltold : Binds K A.d_Ltold ["_law_thing"] []
  F_Lgreat : Fun K "_law_great" "_law_great" s_Lgreat A.f_Lgreat A.d_Lgreat
  g_Lgreat : mg "_law_great" = some (.ref A.f_Lgreat)
  b_Lgreat : Binds K A.d_Lgreat [] []
local macro_rules | `(tactic| walk_at "w") => `(tactic| first
  | with_reducible refine wSeq ?_
  | with_reducible refine wAsg ?_
  | with_reducible refine wOp ?_
  | with_reducible refine wVar (by with_unfolding_all exact rfl) ?_
  | with_reducible refine wC ?_
  | with_reducible refine wRet ?_
  | with_reducible refine wIfS ?_
  | with_reducible refine wI0 ?_
  | with_reducible refine wCons ?_
  | with_reducible refine wNil ?_
  | with_reducible refine wCB ?_
  | with_reducible refine wCall ?_
  | with_reducible refine wCallN ?_
  | with_reducible refine wTest ?_
  | with_reducible refine wB ?_
  | with_reducible refine exBl ?_
  | with_reducible refine exInt ?_
  | with_reducible refine exI1 ?_
  | with_reducible refine exI2 ?_
  | with_reducible refine exStr ?_
  | with_reducible refine wSlS (by with_unfolding_all walk_at "sl") ?_
  | with_reducible refine anSum (by with_unfolding_all walk_at "sl") ?_
  | with_reducible refine exSS ?_
  | with_reducible refine exCS ?_
  | with_reducible refine wLc ?_
  | with_reducible refine wFor ?_
  | with_reducible refine wWhile ?_
  | with_reducible refine wOrT ?_
  | with_reducible refine wIList ?_
  | with_reducible refine wITup ?_
  | with_reducible refine wIStr ?_
  | with_reducible refine wIRng1 ?_
  | with_reducible refine anSz (by with_unfolding_all exact Nat.le_of_ble_eq_true rfl) ?_
  | with_reducible refine anStr ?_
  | with_reducible refine wName ?_
  | with_reducible refine iteT ?_
  | with_reducible refine iteF ?_
  | with_reducible refine iteNT ?_
  | with_reducible refine iteNF ?_
  | with_reducible refine wIsiS ?_
  | with_reducible refine wIsiB ?_
  | with_reducible refine wAnd ?_
  | with_reducible refine wOr ?_
  | with_reducible refine wNot ?_
  | with_reducible refine wAndV ?_
  | with_reducible refine wOrV ?_
  | with_reducible refine wNotV ?_
  | with_reducible refine wIf ?_
  | with_reducible refine wChain ?_
  | with_reducible refine wTup ?_
  | with_reducible refine wLst ?_
  | with_reducible refine wSl ?_
  | with_reducible refine wDnew ?_
  | with_reducible refine wPart ?_
  | with_reducible refine wNoPart ?_
  | with_reducible refine wBM ?_
  | with_reducible refine wBM0 ?_
  | with_reducible refine wM0 ?_
  | with_reducible refine wM1 ?_
  | with_reducible refine wUn ?_
  | with_reducible refine wU ?_
  | with_reducible refine wDrop ?_
  | with_reducible refine wNext ?_
  | with_reducible refine wPar ?_
  | with_reducible refine exTwo ?_
  | with_reducible refine wSub ?_
  | with_reducible refine wGCons ?_
  | with_reducible refine wGNil ?_
  | with_reducible refine wDGet ?_
  | with_reducible refine wDIn ?_
  | with_reducible refine wDNotIn ?_
  | with_reducible refine wPairs ?_
  | with_reducible refine wPairs0 ?_
  | with_reducible refine wPar3 ?_
  | with_reducible refine wCallS ?_
  | with_reducible refine wCallSN ?_
  | with_reducible refine wCallP ?_
  | with_reducible refine wIRng3 ?_
  | with_reducible refine wIEnum ?_
  | with_reducible refine wIEnT ?_
  | with_reducible refine wRevL ?_
  | with_reducible refine wLockE ?_
  | with_reducible refine wLenSet ?_
  | with_reducible refine wDPut ?_
  | with_reducible refine wIKeys ?_
  | with_reducible refine wDnewT ?_
  | with_reducible refine exThree ?_
  | ((with_reducible refine wEq ?h1 ?_); (case h1 => exact rfl))
  | ((with_reducible refine wNe ?h1 ?_); (case h1 => exact rfl))
  | with_reducible refine wIxL (SqL.of (by with_unfolding_all assumption)) (by with_unfolding_all exact rfl) ?_
  | with_reducible refine wIxT (SqT.of (by with_unfolding_all assumption)) (by with_unfolding_all exact rfl) ?_
  | with_reducible refine wIxL (SqL.of upd_same) (by with_unfolding_all exact rfl) ?_
  | with_reducible refine wSetL upd_same (by with_unfolding_all exact rfl) ?_
  | with_reducible refine wSetL (by with_unfolding_all assumption) (by with_unfolding_all exact rfl) ?_
  | ((with_reducible refine wI ?h1 ?_); (case h1 => walk_at "wc"))
  | with_reducible refine iteNS (by with_unfolding_all exact rfl) ?_
  | dsimp only [])
local macro_rules | `(tactic| walk_at "ww") => `(tactic| repeat (walk_at "w"))
local macro_rules | `(tactic| walk_at "wc") => `(tactic| first
  | exact wide_mul (by assumption) (by assumption) (by omega) (by omega) (by omega)
  | exact .inl ⟨by omega, by omega⟩
  | exact .inr ⟨by omega, by omega⟩
  | exact ⟨by omega, by omega⟩
  | exact ⟨by decide, by decide⟩
  | exact ⟨by decide, by decide, by decide⟩
  | (show (0 : Int) < _; omega)
  | (show _ ≠ (0 : Int); omega))
local macro_rules | `(tactic| walk_at "sl") => `(tactic| (refine sz6 ?_; (try simp only [app_len]); omega))
local macro_rules | `(tactic| walk_at "lk") => `(tactic| first | assumption | exact Ex.get (by assumption) (by walk_at "lk"))
local macro_rules | `(tactic| walk_at "things") => `(tactic| ((repeat' (first | exact List.forall_mem_nil _ | refine List.forall_mem_append.mpr ⟨?_, ?_⟩ | refine List.forall_mem_cons.mpr ⟨?_, ?_⟩)) <;> first
  | exact Thing.n | exact Thing.b | exact Thing.i | exact Thing.s (by decide +kernel) | exact Thing.t (by walk_at "lk") | exact Thing.l (by walk_at "lk") | exact Thing.d (by walk_at "lk")))
local macro_rules | `(tactic| walk_at "q") => `(tactic| first
  | with_reducible refine wSeq ?_
  | with_reducible refine wAsg ?_
  | with_reducible refine wOp ?_
  | with_reducible refine wVar (by with_unfolding_all exact rfl) ?_
  | with_reducible refine wC ?_
  | with_reducible refine wRet ?_
  | with_reducible refine wIfS ?_
  | with_reducible refine wI0 ?_
  | with_reducible refine wCons ?_
  | with_reducible refine wNil ?_
  | with_reducible refine wCB ?_
  | with_reducible refine wCall ?_
  | with_reducible refine wCallN ?_
  | with_reducible refine wTest ?_
  | with_reducible refine wB ?_
  | with_reducible refine exBl ?_
  | with_reducible refine exInt ?_
  | with_reducible refine exI1 ?_
  | with_reducible refine exI2 ?_
  | with_reducible refine exStr ?_
  | with_reducible refine wSlS (by with_unfolding_all walk_at "sl") ?_
  | with_reducible refine anSum (by with_unfolding_all walk_at "sl") ?_
  | with_reducible refine exSS ?_
  | with_reducible refine exCS ?_
  | with_reducible refine wLc ?_
  | with_reducible refine wFor ?_
  | with_reducible refine wWhile ?_
  | with_reducible refine wOrT ?_
  | with_reducible refine wIList ?_
  | with_reducible refine wITup ?_
  | with_reducible refine wIStr ?_
  | with_reducible refine wIRng1 ?_
  | with_reducible refine anSz (by with_unfolding_all exact Nat.le_of_ble_eq_true rfl) ?_
  | with_reducible refine anStr ?_
  | with_reducible refine wName ?_
  | with_reducible refine iteT ?_
  | with_reducible refine iteF ?_
  | with_reducible refine iteNT ?_
  | with_reducible refine iteNF ?_
  | with_reducible refine wIsiS ?_
  | with_reducible refine wIsiB ?_
  | with_reducible refine wAnd ?_
  | with_reducible refine wOr ?_
  | with_reducible refine wNot ?_
  | with_reducible refine wAndV ?_
  | with_reducible refine wOrV ?_
  | with_reducible refine wNotV ?_
  | with_reducible refine wIf ?_
  | with_reducible refine wChain ?_
  | with_reducible refine wTup ?_
  | with_reducible refine wLst ?_
  | with_reducible refine wSl ?_
  | with_reducible refine wDnew ?_
  | with_reducible refine wPart ?_
  | with_reducible refine wNoPart ?_
  | with_reducible refine wBM ?_
  | with_reducible refine wBM0 ?_
  | with_reducible refine wM0 ?_
  | with_reducible refine wM1 ?_
  | with_reducible refine wUn ?_
  | with_reducible refine wU ?_
  | with_reducible refine wDrop ?_
  | with_reducible refine wNext ?_
  | with_reducible refine wPar ?_
  | with_reducible refine exTwo ?_
  | with_reducible refine wSub ?_
  | with_reducible refine wGCons ?_
  | with_reducible refine wGNil ?_
  | with_reducible refine wDGet ?_
  | with_reducible refine wDIn ?_
  | with_reducible refine wDNotIn ?_
  | with_reducible refine wPairs ?_
  | with_reducible refine wPairs0 ?_
  | with_reducible refine wPar3 ?_
  | with_reducible refine wCallS ?_
  | with_reducible refine wCallSN ?_
  | with_reducible refine wCallP ?_
  | with_reducible refine wIRng3 ?_
  | with_reducible refine wIEnum ?_
  | with_reducible refine wIEnT ?_
  | with_reducible refine wRevL ?_
  | with_reducible refine wLockE ?_
  | with_reducible refine wLenSet ?_
  | with_reducible refine wDPut ?_
  | with_reducible refine wIKeys ?_
  | with_reducible refine wDnewT ?_
  | with_reducible refine exThree ?_
  | ((with_reducible refine wEq ?h1 ?_); (case h1 => exact rfl))
  | ((with_reducible refine wNe ?h1 ?_); (case h1 => exact rfl))
  | ((with_reducible refine wI ?h1 ?_); (case h1 => walk_at "wc"))
  | dsimp only [])
local macro_rules | `(tactic| walk_at "v") => `(tactic| first
  | with_reducible refine wSeq ?_
  | with_reducible refine wAsg ?_
  | with_reducible refine wOp ?_
  | with_reducible refine wVar (by with_unfolding_all exact rfl) ?_
  | with_reducible refine wC ?_
  | with_reducible refine wRet ?_
  | with_reducible refine wIfS ?_
  | with_reducible refine wI0 ?_
  | with_reducible refine wCons ?_
  | with_reducible refine wNil ?_
  | with_reducible refine wCB ?_
  | with_reducible refine wCall ?_
  | with_reducible refine wCallN ?_
  | with_reducible refine wTest ?_
  | with_reducible refine wB ?_
  | with_reducible refine exBl ?_
  | with_reducible refine exInt ?_
  | with_reducible refine exI1 ?_
  | with_reducible refine exI2 ?_
  | with_reducible refine exStr ?_
  | with_reducible refine wSlS (by with_unfolding_all walk_at "sl") ?_
  | with_reducible refine anSum (by with_unfolding_all walk_at "sl") ?_
  | with_reducible refine exSS ?_
  | with_reducible refine exCS ?_
  | with_reducible refine wLc ?_
  | with_reducible refine wFor ?_
  | with_reducible refine wWhile ?_
  | with_reducible refine wOrT ?_
  | with_reducible refine wIList ?_
  | with_reducible refine wITup ?_
  | with_reducible refine wIStr ?_
  | with_reducible refine wIRng1 ?_
  | with_reducible refine anSz (by with_unfolding_all exact Nat.le_of_ble_eq_true rfl) ?_
  | with_reducible refine anStr ?_
  | with_reducible refine wName ?_
  | with_reducible refine iteT ?_
  | with_reducible refine iteF ?_
  | with_reducible refine iteNT ?_
  | with_reducible refine iteNF ?_
  | with_reducible refine wIsiS ?_
  | with_reducible refine wIsiB ?_
  | with_reducible refine wAnd ?_
  | with_reducible refine wOr ?_
  | with_reducible refine wNot ?_
  | with_reducible refine wAndV ?_
  | with_reducible refine wOrV ?_
  | with_reducible refine wNotV ?_
  | with_reducible refine wIf ?_
  | with_reducible refine wChain ?_
  | with_reducible refine wTup ?_
  | with_reducible refine wLst ?_
  | with_reducible refine wSl ?_
  | with_reducible refine wDnew ?_
  | with_reducible refine wPart ?_
  | with_reducible refine wNoPart ?_
  | with_reducible refine wBM ?_
  | with_reducible refine wBM0 ?_
  | with_reducible refine wM0 ?_
  | with_reducible refine wM1 ?_
  | with_reducible refine wUn ?_
  | with_reducible refine wU ?_
  | with_reducible refine wDrop ?_
  | with_reducible refine wNext ?_
  | with_reducible refine wPar ?_
  | with_reducible refine exTwo ?_
  | with_reducible refine wSub ?_
  | with_reducible refine wGCons ?_
  | with_reducible refine wGNil ?_
  | with_reducible refine wDGet ?_
  | with_reducible refine wDIn ?_
  | with_reducible refine wDNotIn ?_
  | with_reducible refine wPairs ?_
  | with_reducible refine wPairs0 ?_
  | with_reducible refine wPar3 ?_
  | with_reducible refine wCallS ?_
  | with_reducible refine wCallSN ?_
  | with_reducible refine wCallP ?_
  | with_reducible refine wIRng3 ?_
  | with_reducible refine wIEnum ?_
  | with_reducible refine wIEnT ?_
  | with_reducible refine wRevL ?_
  | with_reducible refine wLockE ?_
  | with_reducible refine wLenSet ?_
  | with_reducible refine wDPut ?_
  | with_reducible refine wIKeys ?_
  | with_reducible refine wDnewT ?_
  | with_reducible refine exThree ?_
  | ((with_reducible refine wEq ?h1 ?_); (case h1 => exact rfl))
  | ((with_reducible refine wNe ?h1 ?_); (case h1 => exact rfl))
  | with_reducible refine wIxL (SqL.of (by with_unfolding_all assumption)) (by with_unfolding_all exact rfl) ?_
  | with_reducible refine wIxT (SqT.of (by with_unfolding_all assumption)) (by with_unfolding_all exact rfl) ?_
  | with_reducible refine wIxL (SqL.of upd_same) (by with_unfolding_all exact rfl) ?_
  | with_reducible refine wSetL upd_same (by with_unfolding_all exact rfl) ?_
  | with_reducible refine wSetL (by with_unfolding_all assumption) (by with_unfolding_all exact rfl) ?_
  | ((with_reducible refine wI ?h1 ?_); (case h1 => walk_at "wc"))
  | dsimp only [])
local macro_rules | `(tactic| walk_at "vv") => `(tactic| repeat (walk_at "v"))
local macro_rules | `(tactic| walk_at "qq") => `(tactic| repeat (walk_at "q"))
section
variable {P : Program} {w : World} {K : PySem.W.Frag} {mg : Str → Option Value} {base : Heap} {A : Adr}
/-- a pool: a state, digits, how many were taken -/
def Pool (H : Hp) (p : Addr) : Prop := ∃ s g n : Int, H p = some (.lst [.int s, .int g, .int n]) ∧ 0 ≤ s ∧ s < 2147483423 ∧ 0 ≤ g
theorem Pool.ne {H : Hp} {p q : Addr} (h : Pool H p) (hq : H q = none) : q ≠ p := fun e => by
  obtain ⟨_, _, _, h, _⟩ := h
  rw [← e, hq] at h
  cases h
theorem Pool.upd {H : Hp} {p q : Addr} {o : HO} (h : Pool H p) (n : q ≠ p) : Pool (upd H q o) p := by
  obtain ⟨s, g, m, h, r⟩ := h
  exact ⟨s, g, m, (upd_ne n.symm).trans h, r⟩
theorem Pool.ex {H H' : Hp} {p : Addr} (h : Pool H p) (e : Ex H H') : Pool H' p := by
  obtain ⟨s, g, m, h, r⟩ := h
  exact ⟨s, g, m, e _ _ h, r⟩
def spTake : Sp := fun vs H Q _ => ∃ (p : Addr) (m : Int), vs = [.ref p, .int m] ∧ Pool H p ∧ 0 < m ∧ m < 1073741824 ∧ ∀ d H', 0 ≤ d → d < m → Kp p H H' → Pool H' p → Q (.int d) H'
def spPool : Sp := fun vs H Q _ => ∃ c : Int, vs = [.int c] ∧ ∀ p H', H p = none → Ex H H' → Pool H' p → Q (.ref p) H'
def spCell (K : PySem.W.Frag) : Sp := fun vs H Q _ => ∃ (a : Addr) (ns : List Int) (k : Int), vs = [.ref a, .int k] ∧ SqL K H a (ns.map V.int) ∧ ns.length ≤ 63 ∧ 0 ≤ k ∧ k ≤ 63 ∧ ∀ c H', Ex H H' → Q (.int c) H'
theorem ok_Ltake (T : Tx K mg A) : FnOk P w K mg base CX0 1 A.f_Ltake A.d_Ltake ["_law_pool_here", "_law_many"] spTake := by
  refine T.F_Ltake.ok sc_Ltake (fun vs H Q E h => ?_) (fun cdv A' outer s H vs Q E hr h => ?_)
  · obtain ⟨p, m, rfl, _⟩ := h
    rfl
  · obtain ⟨p, m, rfl, ⟨s, g, n, hp, hs0, hs1, hg⟩, hm0, hm1, k⟩ := h
    refine ⟨_, (pss_cons (ps_asg (pe_op op_add (pe_ix (ix_listV (K := K) rfl) (pv 0) pe_int (fun _ _ => rfl)) pe_int) (pg_sub (pv 0) pe_int set_list))
    (pss_cons (ps_set (i := 2) sc_Ltake.nd rfl (Or.inl rfl) (pe_ix (ix_listV (K := K) rfl) (pv 0) pe_int (fun _ _ => rfl)))
    (pss_cons (ps_asg (pe_op op_mod (pe_op op_add (pe_op op_mul (pv 2) (pe_op op_add (pe_op op_mod (pv 2) pe_int) pe_int)) (pe_op op_mul pe_int (pe_ix (ix_listV (K := K) rfl) (pv 0) pe_int (fun _ _ => rfl)))) pe_int) (pg_sub (pv 0) pe_int set_list))
    (pss_cons (ps_if (pt_cmpR op_gt (pe_ix (ix_listV (K := K) rfl) (pv 0) pe_int (fun _ _ => rfl)) pe_int (nomark _))
    (pss_cons (ps_asg (pe_callB call_divmod (by rfl) T.m_divmod (by decide +kernel) (pa_cons (pe_ix (ix_listV (K := K) rfl) (pv 0) pe_int (fun _ _ => rfl)) (pa_cons (pv 1) pa_nil))) (pg_tupV (K := K) (n := 2) rfl rfl (pgs_cons (pg_sub (pv 0) pe_int set_list) (pgs_cons (pg_name (i := 3) sc_Ltake.nd rfl (Or.inl rfl)) pgs_nil)) rfl))
      (pss_one (ps_ret (pv 3))))
    pss_nil)
    (pss_one (ps_ret (pe_op op_mod (pe_op op_fdiv (pe_ix (ix_listV (K := K) rfl) (pv 0) pe_int (fun _ _ => rfl)) pe_int) (pv 1)))))))), ?_⟩
    walk_at "ww"
    have q1 : ∀ x : Int, 0 ≤ x % 2147483423 ∧ x % 2147483423 < 2147483423 := fun x => by omega
    have keep : ∀ (o : HO) (H1 : Hp), Kp p H H1 → Kp p H (upd H1 p o) := fun o H1 e => e.trans Kp.set
    refine ite2 (fun c => ?_) (fun c => ?_)
    · walk_at "ww"
      refine ⟨⟨hm0, hm1⟩, fun t nt => ?_⟩
      have ntp : p ≠ t := fun e => by
        rw [← e, upd_same] at nt
        cases nt
      refine wGTup (SqT.of upd_same) rfl ?_
      walk_at "ww"
      refine wSetL ((upd_ne ntp).trans upd_same) rfl ?_
      walk_at "ww"
      refine k _ _ (Int.emod_nonneg _ (by omega)) (Int.emod_lt_of_pos _ hm0) ?_ ⟨_, _, _, upd_same, (q1 _).1, (q1 _).2, Int.ediv_nonneg hg (by omega)⟩
      refine Kp.trans (Kp.trans (keep _ _ Kp.set) (Kp.new nt)) Kp.set
    · walk_at "ww"
      exact k _ _ (Int.emod_nonneg _ (by omega)) (Int.emod_lt_of_pos _ hm0) (keep _ _ Kp.set) ⟨_, _, _, upd_same, (q1 _).1, (q1 _).2, hg⟩
theorem ok_Lpool (T : Tx K mg A) : FnOk P w K mg base CX0 1 A.f_Lpool A.d_Lpool ["_law_cell_here"] spPool := by
  refine T.F_Lpool.ok sc_Lpool (fun vs H Q E h => ?_) (fun cdv A' outer s H vs Q E hr h => ?_)
  · obtain ⟨c, rfl, _⟩ := h
    rfl
  · obtain ⟨c, rfl, k⟩ := h
    refine ⟨_, (pss_cons (ps_set (i := 1) sc_Lpool.nd rfl (Or.inl rfl) pe_int)
    (pss_cons (ps_if (PW.pt (pw_or (pt_cmpR op_lt (pv 0) pe_int (nomark _)) (pw_or1 (pt_cmpR op_ge (pv 0) (pe_op op_pow pe_int pe_int) (nomark _)))))
    (pss_one (ps_set (i := 1) sc_Lpool.nd rfl (Or.inl rfl) (pe_callB call_abs (by rfl) T.m_abs (by decide +kernel) (pa_cons (pv 0) pa_nil))))
    pss_nil)
    (pss_one (ps_ret (pe_lst (pa_cons (pe_op op_mod (pv 0) pe_int) (pa_cons (pv 1) (pa_cons pe_int pa_nil)))))))), ?_⟩
    have fin : ∀ g : Int, 0 ≤ g → ∀ p, H p = none → Q (.ref p) (upd H p (.lst [.int (c % 2147483423), .int g, .int 0])) := fun g hg p hp =>
      k p _ hp (Ex.new hp) ⟨_, _, _, upd_same, by omega, by omega, hg⟩
    walk_at "ww"
    refine ite2 (fun c1 => ?_) (fun c1 => ?_)
    · walk_at "ww"
      exact fun p hp => fin _ (by split <;> omega) p hp
    · walk_at "ww"
      refine ite2 (fun c2 => ?_) (fun c2 => ?_)
      · walk_at "ww"
        exact fun p hp => fin _ (by split <;> omega) p hp
      · walk_at "ww"
        exact fun p hp => fin _ (by omega) p hp
theorem ok_Lcell (T : Tx K mg A) : FnOk P w K mg base CX0 1 A.f_Lcell A.d_Lcell ["_law_script", "_law_k"] (spCell K) := by
  refine T.F_Lcell.ok sc_Lcell (fun vs H Q E h => ?_) (fun cdv A' outer s H vs Q E hr h => ?_)
  · obtain ⟨a, ns, c, rfl, _⟩ := h
    rfl
  · obtain ⟨a, ns, c, rfl, hS, hlen, h0, h63, k⟩ := h
    refine ⟨_, (pss_cons (ps_if (pt_cmpR op_lt (pv 1) (pe_callB (call_lenV (K := K) rfl) (by rfl) T.m_len (by decide +kernel) (pa_cons (pv 0) pa_nil)) (nomark _))
    (pss_one (ps_ret (pe_ix (ix_listV (K := K) rfl) (pv 0) (pv 1) (fun _ _ => rfl))))
    pss_nil)
    (pss_cons (ps_set (i := 2) sc_Lcell.nd rfl (Or.inl rfl) (pe_op op_mod (pe_op op_mul pe_int (pe_op op_add (pe_op op_add (pe_op op_mul (pv 1) (pv 1)) (pe_op op_mul pe_int (pv 1))) pe_int)) pe_int))
    (pss_cons (ps_for PassesOwn.never rfl (pi_listV (K := K) rfl (pe_slice (sl_listV (K := K) rfl) (pv 0) po_none (po_some pe_int))) (pg_name (i := 3) sc_Lcell.nd rfl (Or.inl rfl))
    (pss_one (ps_set (i := 2) sc_Lcell.nd rfl (Or.inl rfl) (pe_op op_mod (pe_op op_add (pe_op op_mul (pv 2) pe_int) (pv 3)) pe_int))))
    (pss_one (ps_ret (pv 2)))))), ?_⟩
    walk_at "ww"
    refine wLenL hS ?_
    walk_at "ww"
    refine ite2 (fun c1 => ?_) (fun c1 => ?_)
    · walk_at "ww"
      have h1 : c.toNat < ns.length := by
        have := of_decide_eq_true c1
        rw [List.length_map] at this
        omega
      refine wIxL hS (at_of (j := c.toNat) (by omega) (by rw [List.getElem?_map, List.getElem?_eq_getElem h1]; rfl)) ?_
      exact k _ _ (Ex.refl H)
    · walk_at "ww"
      refine wSlL hS fun l hl => ?_
      walk_at "ww"
      refine exSq (SqL.of upd_same) ?_
      have el : cutV (ns.map V.int) none (some 3) = (ns.take 3).map V.int := by
        unfold cutV
        rw [HT.sIx_none, show HT.sIx (ns.map V.int).length (ns.map V.int).length (some 3) = min 3 (ns.map V.int).length from HT.sIx_nat _ _ 3, List.map_take]
        simp
      rw [el]
      refine for_list (K := K) (a := l) (xs := (ns.take 3).map V.int) (fun i σ H2 => ∃ (s : Int) (v : Option V), σ = [some (.ref a), some (.int c), some (.int s), v] ∧ 0 ≤ s ∧ s < 2147483423 ∧ Ex (upd H l (.lst ((ns.take 3).map V.int))) H2)
        ⟨_, none, rfl, by omega, by omega, Ex.refl _⟩ (fun i σ H2 _ ⟨_, _, _, _, _, e⟩ => SqL.of (e _ _ upd_same)) ?_ ?_
      · rintro i y σ H2 hi ⟨s, v, rfl, hs0, hs1, e⟩
        obtain ⟨z, rfl⟩ : ∃ z, y = V.int z := by
          rw [List.getElem?_map] at hi
          obtain ⟨z, _, hz⟩ := Option.map_eq_some_iff.mp hi
          exact ⟨z, hz.symm⟩
        walk_at "ww"
        exact ⟨_, _, rfl, by omega, by omega, e⟩
      · rintro σ H2 ⟨s, v, rfl, hs0, hs1, e⟩
        walk_at "ww"
        exact k _ _ ((Ex.new hl).trans e)
def nameV : V → Bool
  | .str z => nameS z
  | _ => false
def spName (K : PySem.W.Frag) : Sp := fun vs H Q _ => ∃ v, vs = [v] ∧ Thing K H v ∧ ∀ H', Ex H H' → Q (.bl (nameV v)) H'
theorem map_bl {ys : List V} {z : Str} {f : Nat → Bool} (hl : ys.length = z.cps.size) (h : ∀ (j : Nat) y, ys[j]? = some y → ∃ c, z.cps[j]? = some c ∧ y = .bl (f c)) : ys = (z.cps.toList.map f).map V.bl := by
  refine List.ext_getElem? fun j => ?_
  cases e : ys[j]? with
  | none =>
    rw [List.getElem?_eq_none_iff] at e
    rw [List.map_map, List.getElem?_map, List.getElem?_eq_none (by rw [Array.length_toList]; omega)]
    rfl
  | some y =>
    obtain ⟨c, hc, rfl⟩ := h j y e
    rw [List.map_map, List.getElem?_map, Array.getElem?_toList, hc]
    rfl
theorem lt_one (a c : Nat) : decide (([c] : List Nat) < [a]) = decide (c < a) := by
  by_cases h : c < a
  · rw [decide_eq_true h, decide_eq_true]
    exact List.Lex.rel h
  · rw [decide_eq_false h, decide_eq_false]
    intro q
    cases q with
    | rel q => exact h q
    | cons q => cases q
theorem name_chest {z : Str} (h : decide (V.str z = V.str ("chest" : Str)) = true) : nameV (.str z) = false := by
  have e : z = ("chest" : Str) := V.str.inj (of_decide_eq_true h)
  show nameS z = false
  unfold nameS
  rw [decide_eq_true e]
  simp
theorem name_long {z : Str} (h : ¬ z.length ≤ 8) : nameV (.str z) = false := by
  show nameS z = false
  unfold nameS
  rw [decide_eq_false h]
  simp
theorem name_short {z : Str} (h : ¬ 1 ≤ z.length) : nameV (.str z) = false := by
  show nameS z = false
  unfold nameS
  rw [decide_eq_false h]
  simp
theorem name_all {z : Str} (h1 : 1 ≤ z.length) (h2 : z.length ≤ 8) (h3 : ¬ decide (V.str z = V.str ("chest" : Str)) = true) : nameV (.str z) = z.cps.toList.all fun c => decide (97 ≤ c ∧ c ≤ 122) := by
  have h4 : ¬ z = ("chest" : Str) := fun e => h3 (decide_eq_true (by rw [e]))
  show nameS z = _
  unfold nameS
  rw [decide_eq_true h1, decide_eq_true h2, decide_eq_false h4]
  simp
theorem ok_is_name (T : Tx K mg A) : FnOk P w K mg base CX0 1 A.f_is_name A.d_is_name ["thing"] (spName K) := by
  refine T.F_is_name.ok sc_is_name (fun vs H Q E h => ?_) (fun cdv A' outer s H vs Q E hr h => ?_)
  · obtain ⟨v, rfl, _⟩ := h
    rfl
  · obtain ⟨v, rfl, ⟨⟨n, ty⟩, sz⟩, k⟩ := h
    refine ⟨_, (pss_cons (ps_if (PW.pt (pw_or (pt_not (pt_val (pe_callB (call_isiV (K := K) rfl) (by rfl) T.m_isinstance (by decide +kernel) (pa_cons (pv 0) (pa_cons (pe_bltn (v := .ty "str") (by rfl) T.m_str (by decide +kernel) rfl) pa_nil))))) (pw_or1 (pt_cmpR op_eq (pv 0) (pe_glob (v := .str "chest") rfl T.c_CHEST ⟨_, rfl⟩) (nomark _)))))
    (pss_one (ps_ret pe_bl))
    pss_nil)
    (pss_cons (ps_if (pt_not (pt_chain op_le op_le pe_int (pe_callB (call_lenV (K := K) rfl) (by rfl) T.m_len (by decide +kernel) (pa_cons (pv 0) pa_nil)) (pe_glob (v := .int 8) rfl T.c_MOST_LETTERS ⟨_, rfl⟩)))
    (pss_one (ps_ret pe_bl))
    pss_nil)
    (pss_one (ps_ret (pe_callB (cr_allV (K := K) rfl rfl) (by rfl) T.m_all (by decide +kernel) (pa_cons (pe_lc rfl sc_is_name.nd (g := gName 1) (pi_str (pv 0)) (blkOk_by (own := [("sign", 1)]) (N := ["thing", "sign"]) (sc := defScope s_is_name) (by decide +kernel)) (fun _ _ _ _ _ => (pg_name (i := 1) sc_is_name.nd rfl (Or.inl rfl))) (fun _ _ _ _ _ => pts_nil) (fun _ _ _ _ _ => (pe_chain op_le_str op_le_str pe_str (pv 1) pe_str))) pa_nil)))))), ?_⟩
    walk_at "ww"
    by_cases hv : isStr v = true
    · obtain ⟨z, rfl⟩ : ∃ z, v = .str z := by
        cases v <;> first | exact ⟨_, rfl⟩ | cases hv
      have hz : z.length ≤ sizeLine := sz6 (by have := sz z rfl; omega)
      walk_at "ww"
      refine ite2 (fun c1 => ?_) (fun c1 => ?_)
      · walk_at "ww"
        rw [show false = nameV (.str z) from (name_chest c1).symm]
        exact k H (Ex.refl H)
      · walk_at "ww"
        refine wLenS hz ?_
        walk_at "ww"
        refine ite2 (fun c2 => ?_) (fun c2 => ?_)
        · walk_at "ww"
          refine ite2 (fun c3 => ?_) (fun c3 => ?_)
          · walk_at "ww"
            rw [show false = nameV (.str z) from (name_long (by simp at c3; omega)).symm]
            exact k H (Ex.refl H)
          · walk_at "ww"
            intro D hD
            refine lcStr (fun H' => Ex H H') (fun i y _ => ∃ c, z.cps[i]? = some c ∧ y = .bl (decide (97 ≤ c ∧ c ≤ 122))) (by have := sz z rfl; show z.length ≤ _; omega) (fun _ => rfl) (Ex.new hD) (fun i c hc H' acc e hD' hl hR => ?_) (fun H' ys e hD' hl hR => ?_)
            · have hi : i ≤ 100000 := by
                have h1 := (Array.getElem?_eq_some_iff.mp hc).1
                have h2 : z.cps.size ≤ 30000 := sz z rfl
                omega
              have ea : (("a" : Str)).cps.toList = [97] := by decide +kernel
              have ez : (("z" : Str)).cps.toList = [122] := by decide +kernel
              walk_at "ww"
              rw [ea, lt_one]
              refine ite2 (fun d1 => ?_) (fun d1 => ?_)
              · walk_at "ww"
                refine lcAdd hD' hl hi (e.mut hD) hR ⟨c, hc, ?_⟩
                rw [ez]
                show V.bl (!decide (([122] : List Nat) < [c])) = _
                rw [lt_one]
                simp only [Bool.not_eq_true', decide_eq_false_iff_not] at d1
                congr 1
                rw [Bool.eq_iff_iff]
                simp
                omega
              · refine lcAdd hD' hl hi (e.mut hD) hR ⟨c, hc, ?_⟩
                simp only [Bool.not_eq_true', decide_eq_false_iff_not, Classical.not_not] at d1
                rw [decide_eq_false (by omega)]
            · have em := map_bl hl hR
              subst em
              refine wAll (SqL.of hD') ?_
              rw [name_all (by have := of_decide_eq_true c2; omega) (by simp at c3; omega) c1] at k
              rw [List.all_map] at *
              exact k H' e
        · walk_at "ww"
          rw [show false = nameV (.str z) from (name_short (by simp at c2; omega)).symm]
          exact k H (Ex.refl H)
    · have hf : isStr v = false := by simpa using hv
      refine wIsi ty (ty.str_is.trans (by rw [hf])) ?_
      walk_at "ww"
      have e : nameV v = false := by
        cases v <;> first | rfl | cases hf
      rw [← e]
      exact k H (Ex.refl H)
theorem letters_in (c : Nat) : decide (c ∈ (("abcdefghijklmnopqrstuvwxyz" : Str)).cps.toList) = decide (97 ≤ c ∧ c ≤ 122) := by
  have e : (("abcdefghijklmnopqrstuvwxyz" : Str)).cps.toList = (List.range 26).map (· + 97) := by decide +kernel
  rw [e, Bool.eq_iff_iff]
  simp only [decide_eq_true_eq, List.mem_map, List.mem_range]
  constructor
  · rintro ⟨a, h, rfl⟩
    omega
  · intro h
    exact ⟨c - 97, by omega, by omega⟩
theorem da_name {m n : Nat} {H : Hp} {v : V} {d : PyData} (h : Da m n H v d) : nameV v = nameD d := by
  obtain ⟨dt, _⟩ := h
  cases dt <;> rfl
def spWhole : Sp := fun vs H Q _ => ∃ v d, vs = [v] ∧ Dt H v d ∧ Q (.bl (isI d)) H
theorem ok_is_whole (T : Tx K mg A) : FnOk P w K mg base CX0 1 A.f_is_whole A.d_is_whole ["thing"] spWhole := by
  refine T.F_is_whole.ok sc_is_whole (fun vs H Q E h => ?_) (fun cdv A' outer s H vs Q E hr h => ?_)
  · obtain ⟨v, n, rfl, _⟩ := h
    rfl
  · obtain ⟨v, d, rfl, dt, k⟩ := h
    refine ⟨_, (pss_one (ps_ret (pe_and (pe_callB (call_isiV (K := K) rfl) (by rfl) T.m_isinstance (by decide +kernel) (pa_cons (pv 0) (pa_cons (pe_bltn (v := .ty "int") (by rfl) T.m_int (by decide +kernel) rfl) pa_nil))) (pe_one (pe_not (pe_callB (call_isiV (K := K) rfl) (by rfl) T.m_isinstance (by decide +kernel) (pa_cons (pv 0) (pa_cons (pe_bltn (v := .ty "bool") (by rfl) T.m_bool (by decide +kernel) rfl) pa_nil)))))))), ?_⟩
    walk_at "ww"
    refine wIsi dt.ty (kit_int d) ?_
    cases d <;> simp only [isI, isB, Bool.or_false, Bool.or_true] at k ⊢ <;> walk_at "ww" <;> first
      | exact k
      | (refine wIsi dt.ty (kit_bool _) ?_
         simp only [isB]
         walk_at "ww"
         exact k)
def spGd : Sp := fun vs H Q _ => ∃ a b : Int, vs = [.int a, .int b] ∧ Q (.int (a.gcd b : Nat)) H
theorem ok_greatest_divisor (T : Tx K mg A) : FnOk P w K mg base CX0 1 A.f_greatest_divisor A.d_greatest_divisor ["one", "other"] spGd := by
  refine T.F_greatest_divisor.ok sc_greatest_divisor (fun vs H Q E h => ?_) (fun cdv A' outer s H vs Q E hr h => ?_)
  · obtain ⟨a, b, rfl, _⟩ := h
    rfl
  · obtain ⟨a, b, rfl, k⟩ := h
    refine ⟨_, (pss_cons (ps_while PassesOwn.never (pt_cmpR op_ne (pv 1) pe_int (nomark _))
    (pss_one (ps_par (i := 0) (j := 1) (by rfl) sc_greatest_divisor.nd rfl rfl (by decide) rfl rfl (pa_cons (pv 1) (pa_cons (pe_op op_modN (pv 0) (pv 1)) pa_nil)) (by rfl))))
    (pss_one (ps_ret (pe_callB call_abs (by rfl) T.m_abs (by decide +kernel) (pa_cons (pv 0) pa_nil))))), ?_⟩
    walk_at "ww"
    refine ⟨fun m σ H' => ∃ x y : Int, σ = [some (.int x), some (.int y)] ∧ H' = H ∧ x.gcd y = a.gcd b ∧ y.natAbs = m, ⟨_, a, b, rfl, rfl, rfl, rfl⟩, ?_⟩
    rintro m σ H' ⟨x, y, rfl, rfl, hg, hm⟩
    walk_at "ww"
    refine ite2 (fun c => ?_) (fun c => ?_)
    · have hy : y ≠ 0 := fun e => by simp [e] at c
      refine ⟨fun σ' H'' => ∃ x' y' : Int, σ' = [some (.int x'), some (.int y')] ∧ H'' = H' ∧ x'.gcd y' = a.gcd b ∧ y'.natAbs < m, fun σ' H'' ⟨x', y', e1, e2, e3, e4⟩ => ⟨_, e4, x', y', e1, e2, e3, rfl⟩, ?_⟩
      walk_at "ww"
      exact ⟨_, _, rfl, rfl, (Fr.gcd_turn x hy).trans hg, by have := Fr.fmod_less x hy; omega⟩
    · have hy : y = 0 := by simpa using c
      walk_at "ww"
      have e : (if x < 0 then -x else x) = ((a.gcd b : Nat) : Int) := by
        rw [hy, Int.gcd_zero_right] at hg
        rw [← hg]
        split <;> omega
      rw [e]
      exact k
theorem frD_len {ds : List PyData} (h : ds.length ≠ 2) : frD (.tuple ds) = false := by
  unfold frD
  split
  · rename_i e
    cases e
    exact absurd rfl h
  · rfl
theorem frD_not {x y : PyData} (h : (isI x && isI y) = false) : frD (.tuple [x, y]) = false := by
  unfold frD
  split
  · rename_i e
    cases e
    cases h
  · rfl
theorem frD_isT {d : PyData} (h : isT d = false) : frD d = false := by
  cases d <;> first | rfl | cases h
theorem two_of {H : Hp} {xs : List V} {ds : List PyData} (h : DtA H xs ds) (l : xs.length = 2) : ∃ x y d e, xs = [x, y] ∧ ds = [d, e] ∧ Dt H x d ∧ Dt H y e := by
  cases h with
  | nil => cases l
  | cons h1 t =>
    cases t with
    | nil => cases l
    | cons h2 t =>
      cases t with
      | nil => exact ⟨_, _, _, _, rfl, rfl, h1, h2⟩
      | cons _ _ => simp at l
theorem three_of {H : Hp} {xs : List V} {ds : List PyData} (h : DtA H xs ds) (l : xs.length = 3) : ∃ x y z d e f, xs = [x, y, z] ∧ ds = [d, e, f] ∧ Dt H x d ∧ Dt H y e ∧ Dt H z f := by
  cases h with
  | nil => cases l
  | cons h1 t =>
    obtain ⟨x, y, d, e, rfl, rfl, h2, h3⟩ := two_of t (by simpa using l)
    exact ⟨_, _, _, _, _, _, rfl, rfl, h1, h2, h3⟩
theorem isT_tup {H : Hp} {v : V} {d : PyData} (h : Dt H v d) (e : isT d = true) : ∃ a xs ds, v = .ref a ∧ d = .tuple ds ∧ H a = some (.tup xs) ∧ DtA H xs ds := by
  cases h <;> first | exact ⟨_, _, _, rfl, rfl, by assumption, by assumption⟩ | cases e
theorem isI_int {H : Hp} {v : V} {d : PyData} (h : Dt H v d) (e : isI d = true) : ∃ i, v = .int i ∧ d = .int i := by
  cases h <;> first | exact ⟨_, rfl, rfl⟩ | cases e
def spFr : Sp := fun vs H Q _ => ∃ v d, vs = [v] ∧ Dt H v d ∧ ∀ H', Ex H H' → Q (.bl (frD d)) H'
theorem ok_is_fraction (T : Tx K mg A) : FnOk P w K mg base CX0 2 A.f_is_fraction A.d_is_fraction ["thing"] spFr := by
  refine T.F_is_fraction.ok sc_is_fraction (fun vs H Q E h => ?_) (fun cdv A' outer s H vs Q E hr h => ?_)
  · obtain ⟨v, d, rfl, _⟩ := h
    rfl
  · obtain ⟨v, d, rfl, dt, k⟩ := h
    refine ⟨_, (pss_cons (ps_if (PW.pt (pw_or (pt_not (pt_val (pe_callB (call_isiV (K := K) rfl) (by rfl) T.m_isinstance (by decide +kernel) (pa_cons (pv 0) (pa_cons (pe_bltn (v := .ty "tuple") (by rfl) T.m_tuple (by decide +kernel) rfl) pa_nil))))) (pw_or1 (pt_cmpR op_ne (pe_callB (call_lenV (K := K) rfl) (by rfl) T.m_len (by decide +kernel) (pa_cons (pv 0) pa_nil)) pe_int (nomark _)))))
    (pss_one (ps_ret pe_bl))
    pss_nil)
    (pss_cons (ps_asg (pv 0) (pg_tupV (K := K) (n := 2) rfl rfl (pgs_cons (pg_name (i := 1) sc_is_fraction.nd rfl (Or.inl rfl)) (pgs_cons (pg_name (i := 2) sc_is_fraction.nd rfl (Or.inl rfl)) pgs_nil)) rfl))
    (pss_cons (ps_if (PW.pt (pw_or (pt_not (pt_val (pe_call (ok_is_whole T) (hr.mono (by decide)) (by rfl) T.g_is_whole T.F_is_whole.kp T.b_is_whole .nil pass0 (pa_cons (pv 1) pa_nil)))) (pw_or1 (pt_not (pt_val (pe_call (ok_is_whole T) (hr.mono (by decide)) (by rfl) T.g_is_whole T.F_is_whole.kp T.b_is_whole .nil pass0 (pa_cons (pv 2) pa_nil)))))))
    (pss_one (ps_ret pe_bl))
    pss_nil)
    (pss_one (ps_ret (pe_and (pe_cmpR op_ge (pv 2) pe_int (nomark _)) (pe_one (pe_cmpR op_eq (pe_call (ok_greatest_divisor T) (hr.mono (by decide)) (by rfl) T.g_greatest_divisor T.F_greatest_divisor.kp T.b_greatest_divisor .nil pass0 (pa_cons (pv 1) (pa_cons (pv 2) pa_nil))) pe_int (nomark _))))))))), ?_⟩
    walk_at "ww"
    refine wIsi dt.ty (kit_tup d) ?_
    cases ht : isT d with
    | false =>
      rw [frD_isT ht] at k
      walk_at "ww"
      exact k _ (Ex.refl _)
    | true =>
      obtain ⟨a, xs, ds, rfl, rfl, ha, da⟩ := isT_tup dt ht
      have l := da.length
      walk_at "ww"
      refine wLenT (SqT.of ha) ?_
      walk_at "ww"
      by_cases h2 : xs.length = 2
      · obtain ⟨x, y, d, e, rfl, rfl, h1, g2⟩ := two_of da h2
        walk_at "ww"
        refine wGTup (SqT.of ha) rfl ?_
        walk_at "ww"
        refine ⟨_, _, rfl, h1, ?_⟩
        cases hx : isI d with
        | false =>
          rw [frD_not (by rw [hx]; rfl)] at k
          walk_at "ww"
          exact k _ (Ex.refl _)
        | true =>
          walk_at "ww"
          refine ⟨_, _, rfl, g2, ?_⟩
          cases hy : isI e with
          | false =>
            rw [frD_not (by rw [hx, hy]; rfl)] at k
            walk_at "ww"
            exact k _ (Ex.refl _)
          | true =>
            obtain ⟨i, rfl, rfl⟩ := isI_int h1 hx
            obtain ⟨j, rfl, rfl⟩ := isI_int g2 hy
            have k : ∀ H', Ex H H' → Q (.bl (decide (1 ≤ j) && decide (i.gcd j = 1))) H' := k
            walk_at "ww"
            by_cases c : 1 ≤ j
            · rw [decide_eq_true c] at k ⊢
              walk_at "ww"
              refine ⟨i, j, rfl, ?_⟩
              walk_at "ww"
              rw [show decide (V.int ((i.gcd j : Nat) : Int) = V.int 1) = decide (i.gcd j = 1) from by
                rw [Bool.eq_iff_iff, decide_eq_true_eq, decide_eq_true_eq]
                constructor
                · intro h
                  have := V.int.inj h
                  omega
                · intro h
                  rw [h]
                  rfl]
              exact k _ (Ex.refl _)
            · rw [decide_eq_false c] at k ⊢
              walk_at "ww"
              exact k _ (Ex.refl _)
      · rw [frD_len (by omega)] at k
        rw [show (!decide (V.int ((xs.length : Nat) : Int) = V.int 2)) = true from by
          rw [decide_eq_false fun e => h2 (by have := V.int.inj e; omega)]
          rfl]
        walk_at "ww"
        exact k _ (Ex.refl _)
/-! ### the program's look at rows and webs -/
theorem amtD_len {ds : List PyData} (h : ds.length ≠ 3) : amtD (.tuple ds) = false := by
  unfold amtD
  split
  · rename_i e
    cases e
    exact absurd rfl h
  · rfl
theorem amtD_isT {d : PyData} (h : isT d = false) : amtD d = false := by
  cases d <;> first | rfl | cases h
theorem frD_parts {d : PyData} (h : frD d = true) : ∃ p q, d = .tuple [.int p, .int q] := by
  unfold frD at h
  split at h
  · exact ⟨_, _, rfl⟩
  · cases h
def spAmt : Sp := fun vs H Q _ => ∃ v d, vs = [v] ∧ Dt H v d ∧ ∀ H', Ex H H' → Q (.bl (amtD d)) H'
theorem ne_int {i : Int} {n j : Nat} (h : i = (n : Int)) : (!decide (V.int i = V.int (j : Int))) = !decide (n = j) := by
  subst h
  congr 1
  rw [Bool.eq_iff_iff, decide_eq_true_eq, decide_eq_true_eq]
  constructor
  · intro h
    have := V.int.inj h
    omega
  · intro h
    rw [h]
theorem ok_is_amount_row (T : Tx K mg A) : FnOk P w K mg base CX0 3 A.f_is_amount_row A.d_is_amount_row ["thing"] spAmt := by
  refine T.F_is_amount_row.ok sc_is_amount_row (fun vs H Q E h => ?_) (fun cdv A' outer s H vs Q E hr h => ?_)
  · obtain ⟨v, d, rfl, _⟩ := h
    rfl
  · obtain ⟨v, d, rfl, dt, k⟩ := h
    refine ⟨_, (pss_cons (ps_if (PW.pt (pw_or (pt_not (pt_val (pe_callB (call_isiV (K := K) rfl) (by rfl) T.m_isinstance (by decide +kernel) (pa_cons (pv 0) (pa_cons (pe_bltn (v := .ty "tuple") (by rfl) T.m_tuple (by decide +kernel) rfl) pa_nil))))) (pw_or1 (pt_cmpR op_ne (pe_callB (call_lenV (K := K) rfl) (by rfl) T.m_len (by decide +kernel) (pa_cons (pv 0) pa_nil)) pe_int (nomark _)))))
    (pss_one (ps_ret pe_bl))
    pss_nil)
    (pss_one (ps_ret (pe_and (pe_call (ok_is_fraction T) (hr.mono (by decide)) (by rfl) T.g_is_fraction T.F_is_fraction.kp T.b_is_fraction .nil pass0 (pa_cons (pe_ix (ix_tupV (K := K) rfl) (pv 0) pe_int (fun _ _ => rfl)) pa_nil)) (pe_one (pe_cmpR op_gt (pe_ix (ix_tupV (K := K) rfl) (pe_ix (ix_tupV (K := K) rfl) (pv 0) pe_int (fun _ _ => rfl)) pe_int (fun _ _ => rfl)) pe_int (nomark _))))))), ?_⟩
    walk_at "ww"
    refine wIsi dt.ty (kit_tup d) ?_
    cases ht : isT d with
    | false =>
      rw [amtD_isT ht] at k
      walk_at "ww"
      exact k _ (Ex.refl _)
    | true =>
      obtain ⟨a, xs, ds, rfl, rfl, ha, da⟩ := isT_tup dt ht
      have l := da.length
      walk_at "ww"
      refine wLenT (SqT.of ha) ?_
      walk_at "ww"
      by_cases h3 : xs.length = 3
      · obtain ⟨x, y, z, d, e, f, rfl, rfl, h1, h2, h3⟩ := three_of da h3
        walk_at "ww"
        refine ⟨_, _, rfl, h3, fun H1 e1 => ?_⟩
        have ha1 := e1 _ _ ha
        have k : ∀ H', Ex H H' → Q (.bl (frD f && posD f)) H' := k
        cases hf : frD f with
        | false =>
          rw [hf] at k
          walk_at "ww"
          exact k _ e1
        | true =>
          rw [hf] at k
          obtain ⟨p, q, rfl⟩ := frD_parts hf
          cases h3 with
          | tup hb db =>
            cases db with
            | cons i1 db =>
              cases db with
              | cons i2 db =>
                cases db
                cases i1
                cases i2
                have hb1 := e1 _ _ hb
                walk_at "ww"
                exact k _ e1
      · rw [amtD_len (by omega)] at k
        rw [show (!decide (V.int ((xs.length : Nat) : Int) = V.int 3)) = true from by
          rw [decide_eq_false fun e => h3 (by have := V.int.inj e; omega)]
          rfl]
        walk_at "ww"
        exact k _ (Ex.refl _)
/-- a row of texts -/
def Strs (ds : List PyData) : Prop := ∀ d ∈ ds, isS d = true
theorem strs_plain : ∀ {ds : List PyData}, Strs ds → PyData.plainAll ds = true
  | [], _ => by simp [PyData.plainAll]
  | d :: ds, h => by
    have h1 := h d List.mem_cons_self
    have h2 := strs_plain fun e he => h e (List.mem_cons_of_mem _ he)
    cases d with
    | str z =>
      simp only [PyData.plainAll, h2, Bool.and_true]
      simp [PyData.plain]
    | _ => cases h1
def spOne : Sp := fun vs H Q _ => ∃ u v ps d, vs = [u, v] ∧ Dt H u (.tuple ps) ∧ Strs ps ∧ Dt H v d ∧ Q (.bl (oneD ps d)) H
theorem ok_is_one_of (T : Tx K mg A) : FnOk P w K mg base CX0 1 A.f_is_one_of A.d_is_one_of ["people", "thing"] spOne := by
  refine T.F_is_one_of.ok sc_is_one_of (fun vs H Q E h => ?_) (fun cdv A' outer s H vs Q E hr h => ?_)
  · obtain ⟨u, v, ps, d, rfl, _⟩ := h
    rfl
  · obtain ⟨u, v, ps, d, rfl, du, hs, dv, k⟩ := h
    refine ⟨_, (pss_one (ps_ret (pe_and (pe_callB (call_isiV (K := K) rfl) (by rfl) T.m_isinstance (by decide +kernel) (pa_cons (pv 1) (pa_cons (pe_bltn (v := .ty "str") (by rfl) T.m_str (by decide +kernel) rfl) pa_nil))) (pe_one (pe_cmpR (op_inD hr.units) (pv 1) (pv 0) (by rfl)))))), ?_⟩
    walk_at "ww"
    refine wIsi dv.ty (kit_str d) ?_
    unfold oneD at k
    cases h : isS d with
    | false =>
      rw [h] at k
      walk_at "ww"
      exact k
    | true =>
      rw [h] at k
      obtain ⟨z, rfl, rfl⟩ := isS_str dv h
      walk_at "ww"
      exact ⟨_, _, cmp_str z, .inl du, strs_plain hs, k⟩
theorem ok_is_held_by (T : Tx K mg A) : FnOk P w K mg base CX0 2 A.f_is_held_by A.d_is_held_by ["people", "thing"] (fun vs H Q _ => ∃ u v ps d, vs = [u, v] ∧ Dt H u (.tuple ps) ∧ Strs ps ∧ Dt H v d ∧ Q (.bl (heldD ps d)) H) := by
  refine T.F_is_held_by.ok sc_is_held_by (fun vs H Q E h => ?_) (fun cdv A' outer s H vs Q E hr h => ?_)
  · obtain ⟨u, v, ps, d, rfl, _⟩ := h
    rfl
  · obtain ⟨u, v, ps, d, rfl, du, hs, dv, k⟩ := h
    refine ⟨_, (pss_one (ps_ret (pe_or (pe_call (ok_is_one_of T) (hr.mono (by decide)) (by rfl) T.g_is_one_of T.F_is_one_of.kp T.b_is_one_of .nil pass0 (pa_cons (pv 0) (pa_cons (pv 1) pa_nil))) (pe_one (pe_and (pe_callB (call_isiV (K := K) rfl) (by rfl) T.m_isinstance (by decide +kernel) (pa_cons (pv 1) (pa_cons (pe_bltn (v := .ty "str") (by rfl) T.m_str (by decide +kernel) rfl) pa_nil))) (pe_one (pe_cmpR op_eq (pv 1) (pe_glob (v := .str "chest") rfl T.c_CHEST ⟨_, rfl⟩) (nomark _)))))))), ?_⟩
    walk_at "ww"
    refine ⟨_, _, _, _, rfl, du, hs, dv, ?_⟩
    unfold heldD at k
    cases h : oneD ps d with
    | true =>
      rw [h] at k
      walk_at "ww"
      exact k
    | false =>
      rw [h] at k
      walk_at "ww"
      refine wIsi dv.ty (kit_str d) ?_
      cases h : isS d with
      | false =>
        have e : chestD d = false := by cases d <;> first | rfl | cases h
        rw [e] at k
        walk_at "ww"
        exact k
      | true =>
        obtain ⟨z, rfl, rfl⟩ := isS_str dv h
        walk_at "ww"
        rw [show decide (V.str z = V.str ("chest" : Str)) = chestD (.str z) from by
          show _ = decide (z = ("chest" : Str))
          rw [Bool.eq_iff_iff]
          simp]
        exact k
theorem len0 {n : Nat} : decide (V.int (n : Int) = V.int 0) = decide (n = 0) := by
  rw [Bool.eq_iff_iff, decide_eq_true_eq, decide_eq_true_eq]
  constructor
  · intro h
    have := V.int.inj h
    omega
  · intro h
    rw [h]
    rfl
theorem ok_rises (T : Tx K mg A) : FnOk P w K mg base CX0 1 A.f_rises A.d_rises ["ahead", "row"] (fun vs H Q _ => ∃ u v as r, vs = [u, v] ∧ Dt H u (.tuple as) ∧ (∀ d ∈ as, Rw d) ∧ as.length ≤ 1000 ∧ Dt H v r ∧ Rw r ∧ ∀ H', Ex H H' → Q (.bl (behind tk2 as r)) H') := by
  refine T.F_rises.ok sc_rises (fun vs H Q E h => ?_) (fun cdv A' outer s H vs Q E hr h => ?_)
  · obtain ⟨u, v, as, r, rfl, _⟩ := h
    rfl
  · obtain ⟨u, v, as, r, rfl, du, hrw, hl, dv, rr, k⟩ := h
    refine ⟨_, (pss_one (ps_ret (pe_or (pe_cmpR op_eq (pe_callB (call_lenV (K := K) rfl) (by rfl) T.m_len (by decide +kernel) (pa_cons (pv 0) pa_nil)) pe_int (nomark _)) (pe_one (pe_cmpR (op_ltD hr.units) (pe_slice (sl_tupV (K := K) rfl) (pe_ix (ix_tupV (K := K) rfl) (pv 0) (pe_un un_neg pe_int) (fun _ _ => rfl)) po_none (po_some pe_int)) (pe_slice (sl_tupV (K := K) rfl) (pv 1) po_none (po_some pe_int)) (nomark _)))))), ?_⟩
    cases du with
    | tup hu da =>
      rename_i a xs
      have l := da.length
      walk_at "ww"
      refine wLenT (SqT.of hu) ?_
      walk_at "ww"
      rw [len0]
      by_cases c : as = []
      · have e : xs.length = 0 := by rw [l, c]; rfl
        rw [decide_eq_true e]
        walk_at "ww"
        rw [c] at k
        exact k _ (Ex.refl _)
      · have e : ¬ xs.length = 0 := by rw [l]; exact fun q => c (List.length_eq_zero_iff.mp q)
        rw [decide_eq_false e]
        walk_at "ww"
        obtain ⟨x, d, ex, ed, dm, dx⟩ := da.last c
        refine wIxT (SqT.of hu) ex ?_
        obtain ⟨b, y, z, ys, es, rfl, rfl, hb, _⟩ := (hrw d dm).at_ dx
        obtain ⟨b', y', z', ys', es', rfl, rfl, hb', _⟩ := rr.at_ dv
        walk_at "ww"
        refine wSlT hb fun c1 H1 e1 f1 _ => ?_
        rw [show (2 : Int) = ((2 : Nat) : Int) from rfl, cut_take] at f1
        walk_at "ww"
        refine wSlT (e1 _ _ hb') fun c2 H2 e2 f2 _ => ?_
        rw [show (2 : Int) = ((2 : Nat) : Int) from rfl, cut_take] at f2
        refine lt_pairs (e2 _ _ f1) f2 ?_
        unfold behind at k
        rw [ed] at k
        exact k _ (e1.trans e2)
/-- a look at a row of a web -/
abbrev M0 : Nat := 8000
abbrev N0 : Nat := 900
theorem ok_person_fits (T : Tx K mg A) : FnOk P w K mg base CX0 2 A.f_person_fits A.d_person_fits ["ahead", "thing"] (fun vs H Q _ => ∃ u v as d, vs = [u, v] ∧ Dt H u (.tuple as) ∧ Strs as ∧ as.length ≤ 1000 ∧ Da M0 N0 H v d ∧ ∀ H', Ex H H' → Q (.bl (personD as d)) H') := by
  refine T.F_person_fits.ok sc_person_fits (fun vs H Q E h => ?_) (fun cdv A' outer s H vs Q E hr h => ?_)
  · obtain ⟨u, v, as, r, rfl, _⟩ := h
    rfl
  · obtain ⟨u, v, as, d, rfl, du, hs, hl, dv, k⟩ := h
    refine ⟨_, (pss_cons (ps_if (PW.pt (pw_or (pt_not (pt_val (pe_call (ok_is_name T) (hr.mono (by decide)) (by rfl) T.g_is_name T.F_is_name.kp T.b_is_name .nil pass0 (pa_cons (pv 1) pa_nil)))) (pw_or1 (pt_cmpR op_ge (pe_callB (call_lenV (K := K) rfl) (by rfl) T.m_len (by decide +kernel) (pa_cons (pv 0) pa_nil)) (pe_glob (v := .int 8) rfl T.c_MOST_PEOPLE ⟨_, rfl⟩) (nomark _)))))
    (pss_one (ps_ret pe_bl))
    pss_nil)
    (pss_one (ps_ret (pe_or (pe_cmpR op_eq (pe_callB (call_lenV (K := K) rfl) (by rfl) T.m_len (by decide +kernel) (pa_cons (pv 0) pa_nil)) pe_int (nomark _)) (pe_one (pe_cmpR (op_ltD hr.units) (pe_ix (ix_tupV (K := K) rfl) (pv 0) (pe_un un_neg pe_int) (fun _ _ => rfl)) (pv 1) (nomark _))))))), ?_⟩
    walk_at "ww"
    refine ⟨v, rfl, dv.thing (by decide), fun H1 e1 => ?_⟩
    rw [da_name dv]
    unfold personD at k
    cases hn : nameD d with
    | false =>
      rw [hn] at k
      walk_at "ww"
      exact k _ e1
    | true =>
      rw [hn] at k
      have du1 := du.ex e1
      cases du1 with
      | tup hu da =>
        rename_i a xs
        have l := da.length
        walk_at "ww"
        refine wLenT (SqT.of hu) ?_
        walk_at "ww"
        by_cases c8 : as.length < 8
        · rw [decide_eq_true c8] at k
          rw [decide_eq_false (show ¬ (8 : Int) ≤ ((xs.length : Nat) : Int) by omega)]
          walk_at "ww"
          refine wLenT (SqT.of hu) ?_
          walk_at "ww"
          rw [len0]
          by_cases c : as = []
          · have e : xs.length = 0 := by rw [l, c]; rfl
            rw [decide_eq_true e]
            walk_at "ww"
            rw [c] at k
            exact k _ e1
          · have e : ¬ xs.length = 0 := by rw [l]; exact fun q => c (List.length_eq_zero_iff.mp q)
            rw [decide_eq_false e]
            walk_at "ww"
            obtain ⟨x, y, ex, ed, dm, dx⟩ := da.last c
            refine wIxT (SqT.of hu) ex ?_
            obtain ⟨z, rfl, rfl⟩ := isS_str dx (hs _ dm)
            obtain ⟨z', rfl, rfl⟩ := isS_str dv.dt (isS_name hn)
            walk_at "ww"
            refine lt_strs ?_
            unfold behind at k
            rw [ed] at k
            exact k _ e1
        · rw [decide_eq_false c8] at k
          rw [decide_eq_true (show (8 : Int) ≤ ((xs.length : Nat) : Int) by omega)]
          walk_at "ww"
          exact k _ e1
def rowS : PyData → Str := fun r => strOf (d1 r)
theorem ok_good_fits (T : Tx K mg A) : FnOk P w K mg base CX0 4 A.f_good_fits A.d_good_fits ["people", "ahead", "thing"] (fun vs H Q _ => ∃ t u v ps as d, vs = [t, u, v] ∧ Dt H t (.tuple ps) ∧ Strs ps ∧ Dt H u (.tuple as) ∧ (∀ d ∈ as, Rw d) ∧ as.length ≤ 900 ∧ Da M0 N0 H v d ∧ ∀ H', Ex H H' → Q (.bl (goodD ps as d)) H') := by
  refine T.F_good_fits.ok sc_good_fits (fun vs H Q E h => ?_) (fun cdv A' outer s H vs Q E hr h => ?_)
  · obtain ⟨t, u, v, ps, as, r, rfl, _⟩ := h
    rfl
  · obtain ⟨t, u, v, ps, as, d, rfl, dt, hs, du, hw, hl, dv, k⟩ := h
    refine ⟨_, (pss_cons (ps_if (PW.pt (pw_or (pt_not (pt_val (pe_call (ok_is_amount_row T) (hr.mono (by decide)) (by rfl) T.g_is_amount_row T.F_is_amount_row.kp T.b_is_amount_row .nil pass0 (pa_cons (pv 2) pa_nil)))) (pw_or (pt_not (pt_val (pe_call (ok_is_held_by T) (hr.mono (by decide)) (by rfl) T.g_is_held_by T.F_is_held_by.kp T.b_is_held_by .nil pass0 (pa_cons (pv 0) (pa_cons (pe_ix (ix_tupV (K := K) rfl) (pv 2) pe_int (fun _ _ => rfl)) pa_nil))))) (pw_or1 (pt_not (pt_val (pe_call (ok_is_name T) (hr.mono (by decide)) (by rfl) T.g_is_name T.F_is_name.kp T.b_is_name .nil pass0 (pa_cons (pe_ix (ix_tupV (K := K) rfl) (pv 2) pe_int (fun _ _ => rfl)) pa_nil))))))))
    (pss_one (ps_ret pe_bl))
    pss_nil)
    (pss_cons (ps_set (i := 3) sc_good_fits.nd rfl (Or.inl rfl) (pe_op op_cat (pe_lc rfl sc_good_fits.nd (g := gName 4) (pi_tupV (K := K) rfl (pv 1)) (blkOk_by (own := [("row", 4)]) (N := ["people", "ahead", "thing", "lots", "row"]) (sc := defScope s_good_fits) (by decide +kernel)) (fun _ _ _ _ _ => (pg_name (i := 4) sc_good_fits.nd rfl (Or.inl rfl))) (fun _ _ _ _ _ => pts_nil) (fun _ _ _ _ _ => (pe_ix (ix_tupV (K := K) rfl) (pv 4) pe_int (fun _ _ => rfl)))) (pe_lst (pa_cons (pe_ix (ix_tupV (K := K) rfl) (pv 2) pe_int (fun _ _ => rfl)) pa_nil))))
    (pss_one (ps_ret (pe_and (pe_cmpR op_le (pe_lenSet (K := K) rfl rfl (by rfl) T.m_len (by rfl) T.m_set (pv 3)) (pe_glob (v := .int 8) rfl T.c_MOST_LOTS ⟨_, rfl⟩) (nomark _)) (pe_one (pe_call (ok_rises T) (hr.mono (by decide)) (by rfl) T.g_rises T.F_rises.kp T.b_rises .nil pass0 (pa_cons (pv 1) (pa_cons (pv 2) pa_nil))))))))), ?_⟩
    walk_at "ww"
    refine ⟨_, _, rfl, dv.dt, fun H1 e1 => ?_⟩
    unfold goodD at k
    cases ha : amtD d with
    | false =>
      rw [ha] at k
      walk_at "ww"
      exact k _ e1
    | true =>
      have qt : isT d = true := by
        cases q : isT d with
        | true => rfl
        | false => rw [amtD_isT q] at ha; cases ha
      obtain ⟨a', xs', ds, rfl, rfl, _, _⟩ := isT_tup dv.dt qt
      obtain ⟨b, xs, ev, hb, hd, hn, hbd⟩ := dv.tup
      cases ev
      have l3 : xs.length = 3 := by
        have l := hd.length
        by_cases q : ds.length = 3
        · omega
        · rw [amtD_len q] at ha
          cases ha
      obtain ⟨x, y, z, d, e, f, rfl, rfl, h1, h2, h3⟩ := three_of hd l3
      have k : ∀ H', Ex H H' → Q (.bl (amtD (.tuple [d, e, f]) && heldD ps d && nameD e && decide ((SetX.dst (lotsD (as ++ [.tuple [d, e, f]]))).length ≤ 8) && behind tk2 as (.tuple [d, e, f]))) H' := k
      rw [ha] at k
      have hb1 := e1 _ _ hb
      walk_at "ww"
      refine ⟨_, _, _, _, rfl, dt.ex e1, hs, h1.ex e1, ?_⟩
      cases hh : heldD ps d with
      | false =>
        rw [hh] at k
        walk_at "ww"
        exact k _ e1
      | true =>
        rw [hh] at k
        walk_at "ww"
        have dy : Da M0 N0 H1 y e := ⟨h2.ex e1, (bdA_iff.mp hbd) e (by simp)⟩
        refine ⟨y, rfl, dy.thing (by decide), fun H2 e2 => ?_⟩
        rw [da_name dy]
        cases hne : nameD e with
        | false =>
          rw [hne] at k
          walk_at "ww"
          exact k _ (e1.trans e2)
        | true =>
          rw [hne] at k
          obtain ⟨sy, rfl, rfl⟩ := isS_str h2 (isS_name hne)
          obtain ⟨sx, rfl, rfl⟩ := isS_str h1 (isS_held hh)
          have rw3 : Rw (.tuple [.str sx, .str sy, f]) := ⟨_, _, _, rfl⟩
          have E2 := e1.trans e2
          have du2 := du.ex E2
          cases du2 with
          | tup hu da =>
            rename_i a zs
            have l := da.length
            walk_at "ww"
            refine exSt (SqT.of hu) ?_
            intro D hD
            refine lcTup (K := K) (fun H' => Ex H2 H') (fun i v _ => ∃ r, as[i]? = some r ∧ v = .str (rowS r)) (fun _ => rfl) (Ex.new hD) (fun H' e => SqT.of (e _ _ hu)) (fun i x hx H' acc e hD' hla hR => ?_) (fun H' ws e hD' hla hR => ?_)
            · obtain ⟨r, hr', dr⟩ := da.at_ hx
              obtain ⟨c, y1, z1, ys, es, rfl, rfl, hc, _⟩ := (hw r (List.mem_of_getElem? hr')).at_ dr
              have hc' := e _ _ hc
              have il : i < zs.length := (List.getElem?_eq_some_iff.mp hx).1
              walk_at "ww"
              refine wIxT (SqT.of hc') (at_of (j := 1) rfl rfl) ?_
              exact lcAdd hD' hla (by omega) (e.mut hD) hR ⟨_, hr', rfl⟩
            · have ew : ws = (lotsD as).map V.str := by
                refine List.ext_getElem? fun j => ?_
                rw [List.getElem?_map]
                unfold lotsD
                rw [List.getElem?_map]
                cases q : ws[j]? with
                | none =>
                  have := List.getElem?_eq_none_iff.mp q
                  rw [List.getElem?_eq_none (by omega)]
                  rfl
                | some w =>
                  obtain ⟨r, hr', rfl⟩ := hR j w q
                  rw [hr']
                  rfl
              subst ew
              have hb3 := (E2.trans e) _ _ hb
              walk_at "ww"
              refine alI fun l4 H4 n4 e4 f4 => ?_
              refine wCatL (e4 _ _ hD') f4 (by rw [List.length_map]; unfold lotsD; rw [List.length_map]; simp; omega) fun l5 H5 e5 f5 n5 => ?_
              have E5 := (E2.trans e).trans (e4.trans e5)
              have el : (lotsD as).map V.str ++ [V.str sy] = (lotsD (as ++ [.tuple [.str sx, .str sy, f]])).map V.str := by
                unfold lotsD
                rw [List.map_append, List.map_append]
                rfl
              rw [el] at f5
              walk_at "ww"
              refine ⟨l5, _, rfl, SqL.of f5, by unfold lotsD; rw [List.length_map, List.length_append]; simp; omega, ?_⟩
              walk_at "ww"
              rw [show decide (((SetX.dst (lotsD (as ++ [PyData.tuple [.str sx, .str sy, f]]))).length : Int) ≤ 8) = decide ((SetX.dst (lotsD (as ++ [PyData.tuple [.str sx, .str sy, f]]))).length ≤ 8) from by
                rw [Bool.eq_iff_iff, decide_eq_true_eq, decide_eq_true_eq]
                omega]
              cases h8 : decide ((SetX.dst (lotsD (as ++ [PyData.tuple [.str sx, .str sy, f]]))).length ≤ 8) with
              | false =>
                rw [h8] at k
                walk_at "ww"
                exact k _ E5
              | true =>
                rw [h8] at k
                walk_at "ww"
                exact ⟨_, _, _, _, rfl, du.ex E5, hw, by omega, dv.dt.ex E5, rw3, fun H' e' => k _ (E5.trans e')⟩
theorem ok_thank_fits (T : Tx K mg A) : FnOk P w K mg base CX0 4 A.f_thank_fits A.d_thank_fits ["people", "ahead", "thing"] (fun vs H Q _ => ∃ t u v ps as d, vs = [t, u, v] ∧ Dt H t (.tuple ps) ∧ Strs ps ∧ Dt H u (.tuple as) ∧ (∀ d ∈ as, Rw d) ∧ as.length ≤ 900 ∧ Da M0 N0 H v d ∧ ∀ H', Ex H H' → Q (.bl (thankD ps as d)) H') := by
  refine T.F_thank_fits.ok sc_thank_fits (fun vs H Q E h => ?_) (fun cdv A' outer s H vs Q E hr h => ?_)
  · obtain ⟨t, u, v, ps, as, r, rfl, _⟩ := h
    rfl
  · obtain ⟨t, u, v, ps, as, d, rfl, dt, hs, du, hw, hl, dv, k⟩ := h
    refine ⟨_, (pss_cons (ps_if (PW.pt (pw_or (pt_not (pt_val (pe_call (ok_is_amount_row T) (hr.mono (by decide)) (by rfl) T.g_is_amount_row T.F_is_amount_row.kp T.b_is_amount_row .nil pass0 (pa_cons (pv 2) pa_nil)))) (pw_or (pt_not (pt_val (pe_call (ok_is_one_of T) (hr.mono (by decide)) (by rfl) T.g_is_one_of T.F_is_one_of.kp T.b_is_one_of .nil pass0 (pa_cons (pv 0) (pa_cons (pe_ix (ix_tupV (K := K) rfl) (pv 2) pe_int (fun _ _ => rfl)) pa_nil))))) (pw_or1 (pt_not (pt_val (pe_call (ok_is_held_by T) (hr.mono (by decide)) (by rfl) T.g_is_held_by T.F_is_held_by.kp T.b_is_held_by .nil pass0 (pa_cons (pv 0) (pa_cons (pe_ix (ix_tupV (K := K) rfl) (pv 2) pe_int (fun _ _ => rfl)) pa_nil)))))))))
    (pss_one (ps_ret pe_bl))
    pss_nil)
    (pss_one (ps_ret (pe_and (pe_cmpR (op_neD hr.units) (pe_ix (ix_tupV (K := K) rfl) (pv 2) pe_int (fun _ _ => rfl)) (pe_ix (ix_tupV (K := K) rfl) (pv 2) pe_int (fun _ _ => rfl)) (nomark _)) (pe_one (pe_call (ok_rises T) (hr.mono (by decide)) (by rfl) T.g_rises T.F_rises.kp T.b_rises .nil pass0 (pa_cons (pv 1) (pa_cons (pv 2) pa_nil)))))))), ?_⟩
    walk_at "ww"
    refine ⟨_, _, rfl, dv.dt, fun H1 e1 => ?_⟩
    unfold thankD at k
    cases ha : amtD d with
    | false =>
      rw [ha] at k
      walk_at "ww"
      exact k _ e1
    | true =>
      have qt : isT d = true := by
        cases q : isT d with
        | true => rfl
        | false => rw [amtD_isT q] at ha; cases ha
      obtain ⟨a', xs', ds, rfl, rfl, _, _⟩ := isT_tup dv.dt qt
      obtain ⟨b, xs, ev, hb, hd, hn, hbd⟩ := dv.tup
      cases ev
      have l3 : xs.length = 3 := by
        have l := hd.length
        by_cases q : ds.length = 3
        · omega
        · rw [amtD_len q] at ha
          cases ha
      obtain ⟨x, y, z, d, e, f, rfl, rfl, h1, h2, h3⟩ := three_of hd l3
      have k : ∀ H', Ex H H' → Q (.bl (amtD (.tuple [d, e, f]) && oneD ps d && heldD ps e && !PyData.eqv d e && behind tk2 as (.tuple [d, e, f]))) H' := k
      rw [ha] at k
      have hb1 := e1 _ _ hb
      walk_at "ww"
      refine ⟨_, _, _, _, rfl, dt.ex e1, hs, h1.ex e1, ?_⟩
      cases hh : oneD ps d with
      | false =>
        rw [hh] at k
        walk_at "ww"
        exact k _ e1
      | true =>
        rw [hh] at k
        walk_at "ww"
        refine ⟨_, _, _, _, rfl, dt.ex e1, hs, h2.ex e1, ?_⟩
        cases hne : heldD ps e with
        | false =>
          rw [hne] at k
          walk_at "ww"
          exact k _ e1
        | true =>
          rw [hne] at k
          have hsd : isS d = true := by
            unfold oneD at hh
            rw [Bool.and_eq_true] at hh
            exact hh.1
          obtain ⟨sx, rfl, rfl⟩ := isS_str h1 hsd
          obtain ⟨sy, rfl, rfl⟩ := isS_str h2 (isS_held hne)
          have rw3 : Rw (.tuple [.str sx, .str sy, f]) := ⟨_, _, _, rfl⟩
          walk_at "ww"
          refine ⟨_, _, cmp_str sx, cmp_str sy, ?_⟩
          show _
          cases hq : PyData.eqv (.str sx) (.str sy) with
          | true =>
            rw [hq] at k
            walk_at "ww"
            exact k _ e1
          | false =>
            rw [hq] at k
            walk_at "ww"
            exact ⟨_, _, _, _, rfl, du.ex e1, hw, by omega, dv.dt.ex e1, rw3, fun H' e' => k _ (e1.trans e')⟩
theorem person_str {as : List PyData} {d : PyData} (h : personD as d = true) : isS d = true := by
  unfold personD at h
  rw [Bool.and_eq_true, Bool.and_eq_true] at h
  exact isS_name h.1.1
theorem rw_of {d : PyData} (h : amtD d = true) (h0 : isS (d0 d) = true) (h1 : isS (d1 d) = true) : Rw d := by
  unfold amtD at h
  split at h
  · rename_i x y a
    have h0 : isS x = true := h0
    have h1 : isS y = true := h1
    cases x <;> first | cases h0 | skip
    cases y <;> first | cases h1 | skip
    exact ⟨_, _, _, rfl⟩
  · cases h
theorem good_rw {ps as : List PyData} {d : PyData} (h : goodD ps as d = true) : Rw d := by
  unfold goodD at h
  simp only [Bool.and_eq_true] at h
  exact rw_of h.1.1.1.1 (isS_held h.1.1.1.2) (isS_name h.1.1.2)
theorem thank_rw {ps as : List PyData} {d : PyData} (h : thankD ps as d = true) : Rw d := by
  unfold thankD at h
  simp only [Bool.and_eq_true] at h
  have h1 := h.1.1.1.2
  unfold oneD at h1
  rw [Bool.and_eq_true] at h1
  exact rw_of h.1.1.1.1 h1.1 (isS_held h.1.1.2)
theorem take_all {f : List PyData → PyData → Bool} {ds : List PyData} {i : Nat} {Pr : PyData → Prop} (h : ∀ j, j < i → ∀ d, ds[j]? = some d → f (ds.take j) d = true) (k : ∀ as d, f as d = true → Pr d) : ∀ d ∈ ds.take i, Pr d := fun d hd => by
  obtain ⟨j, hj, e⟩ := List.getElem_of_mem hd
  rw [List.length_take] at hj
  rw [List.getElem_take] at e
  exact k _ d (h j (by omega) d (by rw [List.getElem?_eq_getElem (by omega), e]))
def peopleB : PyData → Bool
  | .tuple ps => fitB personD ps
  | _ => false
def goodsB (ps : List PyData) : PyData → Bool
  | .tuple gs => fitB (goodD ps) gs
  | _ => false
def thanksB (ps : List PyData) : PyData → Bool
  | .tuple ts => fitB (thankD ps) ts
  | _ => false
theorem ok_is_people (T : Tx K mg A) : FnOk P w K mg base CX0 3 A.f_is_people A.d_is_people ["thing"] (spD M0 N0 peopleB) := by
  refine T.F_is_people.ok sc_is_people (fun vs H Q E h => ?_) (fun cdv A' outer s H vs Q E hr h => ?_)
  · obtain ⟨v, d, rfl, _⟩ := h
    rfl
  · obtain ⟨v, d, rfl, dv, k⟩ := h
    refine ⟨_, (pss_cons (ps_if (pt_not (pt_val (pe_callB (call_isiV (K := K) rfl) (by rfl) T.m_isinstance (by decide +kernel) (pa_cons (pv 0) (pa_cons (pe_bltn (v := .ty "tuple") (by rfl) T.m_tuple (by decide +kernel) rfl) pa_nil)))))
    (pss_one (ps_ret pe_bl))
    pss_nil)
    (pss_cons (ps_for PassesOwn.never rfl (EnT.pi_enT (K := K) rfl (by rfl) T.m_enumerate (pa_cons (pv 0) pa_nil)) (pg_tupV (K := K) (n := 2) rfl rfl (pgs_cons (pg_name (i := 1) sc_is_people.nd rfl (Or.inl rfl)) (pgs_cons (pg_name (i := 2) sc_is_people.nd rfl (Or.inl rfl)) pgs_nil)) rfl)
    (pss_one (ps_if (pt_not (pt_val (pe_call (ok_person_fits T) (hr.mono (by decide)) (by rfl) T.g_person_fits T.F_person_fits.kp T.b_person_fits .nil pass0 (pa_cons (pe_slice (sl_tupV (K := K) rfl) (pv 0) po_none (po_some (pv 1))) (pa_cons (pv 2) pa_nil)))))
      (pss_one (ps_ret pe_bl))
      pss_nil)))
    (pss_one (ps_ret pe_bl)))), ?_⟩
    walk_at "ww"
    refine wIsi dv.dt.ty (kit_tup d) ?_
    cases ht : isT d with
    | false =>
      rw [show peopleB d = false by cases d <;> first | rfl | cases ht] at k
      walk_at "ww"
      exact k _ (Ex.refl _)
    | true =>
      obtain ⟨a, xs', ds, rfl, rfl, _, _⟩ := isT_tup dv.dt ht
      obtain ⟨a', xs, ev, ha, hd, hn, hbd⟩ := dv.tup
      cases ev
      have hn : ds.length ≤ 900 := hn
      have k : ∀ H', Ex H H' → Q (.bl (fitB personD ds)) H' := k
      have l := hd.length
      walk_at "ww"
      refine ⟨a, xs, rfl, SqT.of ha, ?_⟩
      refine EnT.for_enT (K := K) (a := a) (xs := xs) (fun i σ H' => ∃ v1 v2, σ = [some (.ref a), v1, v2] ∧ Ex H H' ∧ ∀ j, j < i → ∀ d, ds[j]? = some d → personD (ds.take j) d = true) ⟨none, none, rfl, Ex.refl _, fun j hj => absurd hj (by omega)⟩ (fun i σ H' ⟨_, _, _, e, _⟩ => SqT.of (e _ _ ha)) ?_ ?_
      · rintro i x T0 σ H3 hx ⟨v1, v2, rfl, e3, hall⟩ nT
        have eT : Ex H3 (upd H3 T0 (.tup [.int (i : Nat), x])) := Ex.new nT
        have fT : (upd H3 T0 (.tup [.int (i : Nat), x])) T0 = some (.tup [.int (i : Nat), x]) := upd_same
        show gTup K 2 _ _ _ (upd H3 T0 (.tup [.int (i : Nat), x])) _
        generalize upd H3 T0 (.tup [.int (i : Nat), x]) = H4 at eT fT ⊢
        refine wGTup (SqT.of fT) rfl ?_
        have E4 := e3.trans eT
        obtain ⟨d, hdi, dx⟩ := hd.nth hbd hx
        walk_at "ww"
        refine wSlT (E4 _ _ ha) fun b H5 e5 f5 _ => ?_
        rw [cut_take] at f5
        have E5 := E4.trans e5
        have hst : Strs (ds.take i) := take_all hall fun _ _ => person_str
        walk_at "ww"
        refine ⟨_, _, _, _, rfl, .tup f5 ((hd.take i).ex E5), hst, by rw [List.length_take]; omega, dx.ex E5, fun H6 e6 => ?_⟩
        cases hp : personD (ds.take i) d with
        | false =>
          rw [fitB_false hdi hp] at k
          walk_at "ww"
          exact k _ (E5.trans e6)
        | true =>
          walk_at "ww"
          refine ⟨_, _, rfl, E5.trans e6, fun j hj d' hd' => ?_⟩
          by_cases c : j < i
          · exact hall j c d' hd'
          · obtain rfl : j = i := by omega
            rw [hdi] at hd'
            cases hd'
            exact hp
      · rintro σ H3 ⟨v1, v2, rfl, e3, hall⟩
        rw [show fitB personD ds = true from fitB_iff.mpr fun j x e => hall j (by have := (List.getElem?_eq_some_iff.mp e).1; omega) x e] at k
        walk_at "ww"
        exact k _ e3
theorem ok_is_goods (T : Tx K mg A) : FnOk P w K mg base CX0 5 A.f_is_goods A.d_is_goods ["people", "thing"] (fun vs H Q _ => ∃ t v ps d, vs = [t, v] ∧ Dt H t (.tuple ps) ∧ Strs ps ∧ Da M0 N0 H v d ∧ ∀ H', Ex H H' → Q (.bl (goodsB ps d)) H') := by
  refine T.F_is_goods.ok sc_is_goods (fun vs H Q E h => ?_) (fun cdv A' outer s H vs Q E hr h => ?_)
  · obtain ⟨t, v, ps, d, rfl, _⟩ := h
    rfl
  · obtain ⟨t, v, ps, d, rfl, dt, hs, dv, k⟩ := h
    refine ⟨_, (pss_cons (ps_if (pt_not (pt_val (pe_callB (call_isiV (K := K) rfl) (by rfl) T.m_isinstance (by decide +kernel) (pa_cons (pv 1) (pa_cons (pe_bltn (v := .ty "tuple") (by rfl) T.m_tuple (by decide +kernel) rfl) pa_nil)))))
    (pss_one (ps_ret pe_bl))
    pss_nil)
    (pss_cons (ps_for PassesOwn.never rfl (EnT.pi_enT (K := K) rfl (by rfl) T.m_enumerate (pa_cons (pv 1) pa_nil)) (pg_tupV (K := K) (n := 2) rfl rfl (pgs_cons (pg_name (i := 2) sc_is_goods.nd rfl (Or.inl rfl)) (pgs_cons (pg_name (i := 3) sc_is_goods.nd rfl (Or.inl rfl)) pgs_nil)) rfl)
    (pss_one (ps_if (pt_not (pt_val (pe_call (ok_good_fits T) (hr.mono (by decide)) (by rfl) T.g_good_fits T.F_good_fits.kp T.b_good_fits .nil pass0 (pa_cons (pv 0) (pa_cons (pe_slice (sl_tupV (K := K) rfl) (pv 1) po_none (po_some (pv 2))) (pa_cons (pv 3) pa_nil))))))
      (pss_one (ps_ret pe_bl))
      pss_nil)))
    (pss_one (ps_ret pe_bl)))), ?_⟩
    walk_at "ww"
    refine wIsi dv.dt.ty (kit_tup d) ?_
    cases ht : isT d with
    | false =>
      rw [show goodsB ps d = false by cases d <;> first | rfl | cases ht] at k
      walk_at "ww"
      exact k _ (Ex.refl _)
    | true =>
      obtain ⟨a, xs', ds, rfl, rfl, _, _⟩ := isT_tup dv.dt ht
      obtain ⟨a', xs, ev, ha, hd, hn, hbd⟩ := dv.tup
      cases ev
      have hn : ds.length ≤ 900 := hn
      have k : ∀ H', Ex H H' → Q (.bl (fitB (goodD ps) ds)) H' := k
      have l := hd.length
      walk_at "ww"
      refine ⟨a, xs, rfl, SqT.of ha, ?_⟩
      refine EnT.for_enT (K := K) (a := a) (xs := xs) (fun i σ H' => ∃ v1 v2, σ = [some t, some (.ref a), v1, v2] ∧ Ex H H' ∧ ∀ j, j < i → ∀ d, ds[j]? = some d → goodD ps (ds.take j) d = true) ⟨none, none, rfl, Ex.refl _, fun j hj => absurd hj (by omega)⟩ (fun i σ H' ⟨_, _, _, e, _⟩ => SqT.of (e _ _ ha)) ?_ ?_
      · rintro i x T0 σ H3 hx ⟨v1, v2, rfl, e3, hall⟩ nT
        have eT : Ex H3 (upd H3 T0 (.tup [.int (i : Nat), x])) := Ex.new nT
        have fT : (upd H3 T0 (.tup [.int (i : Nat), x])) T0 = some (.tup [.int (i : Nat), x]) := upd_same
        show gTup K 2 _ _ _ (upd H3 T0 (.tup [.int (i : Nat), x])) _
        generalize upd H3 T0 (.tup [.int (i : Nat), x]) = H4 at eT fT ⊢
        refine wGTup (SqT.of fT) rfl ?_
        have E4 := e3.trans eT
        obtain ⟨d, hdi, dx⟩ := hd.nth hbd hx
        walk_at "ww"
        refine wSlT (E4 _ _ ha) fun b H5 e5 f5 _ => ?_
        rw [cut_take] at f5
        have E5 := E4.trans e5
        have hst : ∀ d ∈ ds.take i, Rw d := take_all hall fun _ _ => good_rw
        walk_at "ww"
        refine ⟨_, _, _, _, _, _, rfl, dt.ex E5, hs, .tup f5 ((hd.take i).ex E5), hst, by rw [List.length_take]; omega, dx.ex E5, fun H6 e6 => ?_⟩
        cases hp : goodD ps (ds.take i) d with
        | false =>
          rw [fitB_false hdi hp] at k
          walk_at "ww"
          exact k _ (E5.trans e6)
        | true =>
          walk_at "ww"
          refine ⟨_, _, rfl, E5.trans e6, fun j hj d' hd' => ?_⟩
          by_cases c : j < i
          · exact hall j c d' hd'
          · obtain rfl : j = i := by omega
            rw [hdi] at hd'
            cases hd'
            exact hp
      · rintro σ H3 ⟨v1, v2, rfl, e3, hall⟩
        rw [show fitB (goodD ps) ds = true from fitB_iff.mpr fun j x e => hall j (by have := (List.getElem?_eq_some_iff.mp e).1; omega) x e] at k
        walk_at "ww"
        exact k _ e3
theorem ok_is_thanks (T : Tx K mg A) : FnOk P w K mg base CX0 5 A.f_is_thanks A.d_is_thanks ["people", "thing"] (fun vs H Q _ => ∃ t v ps d, vs = [t, v] ∧ Dt H t (.tuple ps) ∧ Strs ps ∧ Da M0 N0 H v d ∧ ∀ H', Ex H H' → Q (.bl (thanksB ps d)) H') := by
  refine T.F_is_thanks.ok sc_is_thanks (fun vs H Q E h => ?_) (fun cdv A' outer s H vs Q E hr h => ?_)
  · obtain ⟨t, v, ps, d, rfl, _⟩ := h
    rfl
  · obtain ⟨t, v, ps, d, rfl, dt, hs, dv, k⟩ := h
    refine ⟨_, (pss_cons (ps_if (pt_not (pt_val (pe_callB (call_isiV (K := K) rfl) (by rfl) T.m_isinstance (by decide +kernel) (pa_cons (pv 1) (pa_cons (pe_bltn (v := .ty "tuple") (by rfl) T.m_tuple (by decide +kernel) rfl) pa_nil)))))
    (pss_one (ps_ret pe_bl))
    pss_nil)
    (pss_cons (ps_for PassesOwn.never rfl (EnT.pi_enT (K := K) rfl (by rfl) T.m_enumerate (pa_cons (pv 1) pa_nil)) (pg_tupV (K := K) (n := 2) rfl rfl (pgs_cons (pg_name (i := 2) sc_is_thanks.nd rfl (Or.inl rfl)) (pgs_cons (pg_name (i := 3) sc_is_thanks.nd rfl (Or.inl rfl)) pgs_nil)) rfl)
    (pss_one (ps_if (pt_not (pt_val (pe_call (ok_thank_fits T) (hr.mono (by decide)) (by rfl) T.g_thank_fits T.F_thank_fits.kp T.b_thank_fits .nil pass0 (pa_cons (pv 0) (pa_cons (pe_slice (sl_tupV (K := K) rfl) (pv 1) po_none (po_some (pv 2))) (pa_cons (pv 3) pa_nil))))))
      (pss_one (ps_ret pe_bl))
      pss_nil)))
    (pss_one (ps_ret pe_bl)))), ?_⟩
    walk_at "ww"
    refine wIsi dv.dt.ty (kit_tup d) ?_
    cases ht : isT d with
    | false =>
      rw [show thanksB ps d = false by cases d <;> first | rfl | cases ht] at k
      walk_at "ww"
      exact k _ (Ex.refl _)
    | true =>
      obtain ⟨a, xs', ds, rfl, rfl, _, _⟩ := isT_tup dv.dt ht
      obtain ⟨a', xs, ev, ha, hd, hn, hbd⟩ := dv.tup
      cases ev
      have hn : ds.length ≤ 900 := hn
      have k : ∀ H', Ex H H' → Q (.bl (fitB (thankD ps) ds)) H' := k
      have l := hd.length
      walk_at "ww"
      refine ⟨a, xs, rfl, SqT.of ha, ?_⟩
      refine EnT.for_enT (K := K) (a := a) (xs := xs) (fun i σ H' => ∃ v1 v2, σ = [some t, some (.ref a), v1, v2] ∧ Ex H H' ∧ ∀ j, j < i → ∀ d, ds[j]? = some d → thankD ps (ds.take j) d = true) ⟨none, none, rfl, Ex.refl _, fun j hj => absurd hj (by omega)⟩ (fun i σ H' ⟨_, _, _, e, _⟩ => SqT.of (e _ _ ha)) ?_ ?_
      · rintro i x T0 σ H3 hx ⟨v1, v2, rfl, e3, hall⟩ nT
        have eT : Ex H3 (upd H3 T0 (.tup [.int (i : Nat), x])) := Ex.new nT
        have fT : (upd H3 T0 (.tup [.int (i : Nat), x])) T0 = some (.tup [.int (i : Nat), x]) := upd_same
        show gTup K 2 _ _ _ (upd H3 T0 (.tup [.int (i : Nat), x])) _
        generalize upd H3 T0 (.tup [.int (i : Nat), x]) = H4 at eT fT ⊢
        refine wGTup (SqT.of fT) rfl ?_
        have E4 := e3.trans eT
        obtain ⟨d, hdi, dx⟩ := hd.nth hbd hx
        walk_at "ww"
        refine wSlT (E4 _ _ ha) fun b H5 e5 f5 _ => ?_
        rw [cut_take] at f5
        have E5 := E4.trans e5
        have hst : ∀ d ∈ ds.take i, Rw d := take_all hall fun _ _ => thank_rw
        walk_at "ww"
        refine ⟨_, _, _, _, _, _, rfl, dt.ex E5, hs, .tup f5 ((hd.take i).ex E5), hst, by rw [List.length_take]; omega, dx.ex E5, fun H6 e6 => ?_⟩
        cases hp : thankD ps (ds.take i) d with
        | false =>
          rw [fitB_false hdi hp] at k
          walk_at "ww"
          exact k _ (E5.trans e6)
        | true =>
          walk_at "ww"
          refine ⟨_, _, rfl, E5.trans e6, fun j hj d' hd' => ?_⟩
          by_cases c : j < i
          · exact hall j c d' hd'
          · obtain rfl : j = i := by omega
            rw [hdi] at hd'
            cases hd'
            exact hp
      · rintro σ H3 ⟨v1, v2, rfl, e3, hall⟩
        rw [show fitB (thankD ps) ds = true from fitB_iff.mpr fun j x e => hall j (by have := (List.getElem?_eq_some_iff.mp e).1; omega) x e] at k
        walk_at "ww"
        exact k _ e3
theorem web_len {ds : List PyData} (h : ds.length ≠ 3) : webD (.tuple ds) = false := by
  unfold webD
  split
  · rename_i e
    cases e
    exact absurd rfl h
  · rfl
theorem web_isT {d : PyData} (h : isT d = false) : webD d = false := by
  cases d <;> first | rfl | cases h
theorem web_not {x y z : PyData} (h : (isT x && (isT y && isT z)) = false) : webD (.tuple [x, y, z]) = false := by
  unfold webD
  split
  · rename_i e
    cases e
    cases h
  · rfl
theorem ok_is_web (T : Tx K mg A) : FnOk P w K mg base CX0 6 A.f_is_web A.d_is_web ["thing"] (spD M0 N0 webD) := by
  refine T.F_is_web.ok sc_is_web (fun vs H Q E h => ?_) (fun cdv A' outer s H vs Q E hr h => ?_)
  · obtain ⟨v, d, rfl, _⟩ := h
    rfl
  · obtain ⟨v, d, rfl, dv, k⟩ := h
    refine ⟨_, (pss_cons (ps_if (PW.pt (pw_or (pt_not (pt_val (pe_callB (call_isiV (K := K) rfl) (by rfl) T.m_isinstance (by decide +kernel) (pa_cons (pv 0) (pa_cons (pe_bltn (v := .ty "tuple") (by rfl) T.m_tuple (by decide +kernel) rfl) pa_nil))))) (pw_or1 (pt_cmpR op_ne (pe_callB (call_lenV (K := K) rfl) (by rfl) T.m_len (by decide +kernel) (pa_cons (pv 0) pa_nil)) pe_int (nomark _)))))
    (pss_one (ps_ret pe_bl))
    pss_nil)
    (pss_cons (ps_asg (pv 0) (pg_tupV (K := K) (n := 3) rfl rfl (pgs_cons (pg_name (i := 1) sc_is_web.nd rfl (Or.inl rfl)) (pgs_cons (pg_name (i := 2) sc_is_web.nd rfl (Or.inl rfl)) (pgs_cons (pg_name (i := 3) sc_is_web.nd rfl (Or.inl rfl)) pgs_nil))) rfl))
    (pss_one (ps_ret (pe_and (pe_call (ok_is_people T) (hr.mono (by decide)) (by rfl) T.g_is_people T.F_is_people.kp T.b_is_people .nil pass0 (pa_cons (pv 1) pa_nil)) (pe_and (pe_call (ok_is_goods T) (hr.mono (by decide)) (by rfl) T.g_is_goods T.F_is_goods.kp T.b_is_goods .nil pass0 (pa_cons (pv 1) (pa_cons (pv 2) pa_nil))) (pe_one (pe_call (ok_is_thanks T) (hr.mono (by decide)) (by rfl) T.g_is_thanks T.F_is_thanks.kp T.b_is_thanks .nil pass0 (pa_cons (pv 1) (pa_cons (pv 3) pa_nil)))))))))), ?_⟩
    walk_at "ww"
    refine wIsi dv.dt.ty (kit_tup d) ?_
    cases ht : isT d with
    | false =>
      rw [web_isT ht] at k
      walk_at "ww"
      exact k _ (Ex.refl _)
    | true =>
      obtain ⟨a, xs', ds, rfl, rfl, _, _⟩ := isT_tup dv.dt ht
      obtain ⟨a', xs, ev, ha, hd, hn, hbd⟩ := dv.tup
      cases ev
      have l := hd.length
      walk_at "ww"
      refine wLenT (SqT.of ha) ?_
      walk_at "ww"
      by_cases h3 : xs.length = 3
      · obtain ⟨x, y, z, d, e, f, rfl, rfl, h1, h2, h3⟩ := three_of hd h3
        have b1 : Bd M0 N0 d := bdA_iff.mp hbd d (by simp)
        have b2 : Bd M0 N0 e := bdA_iff.mp hbd e (by simp)
        have b3 : Bd M0 N0 f := bdA_iff.mp hbd f (by simp)
        walk_at "ww"
        refine wGTup (SqT.of ha) rfl ?_
        walk_at "ww"
        refine ⟨_, _, rfl, ⟨h1, b1⟩, fun H1 e1 => ?_⟩
        cases hp : peopleB d with
        | false =>
          rw [show webD (.tuple [d, e, f]) = false from by
            cases q : isT d with
            | false => exact web_not (by rw [q]; rfl)
            | true =>
              cases q2 : isT e with
              | false => exact web_not (by rw [q, q2]; rfl)
              | true =>
                cases q3 : isT f with
                | false => exact web_not (by rw [q, q2, q3]; rfl)
                | true =>
                  obtain ⟨_, _, ps, _, rfl, _, _⟩ := isT_tup h1 q
                  obtain ⟨_, _, gs, _, rfl, _, _⟩ := isT_tup h2 q2
                  obtain ⟨_, _, ts, _, rfl, _, _⟩ := isT_tup h3 q3
                  have hp : fitB personD ps = false := hp
                  show (fitB personD ps && fitB (goodD ps) gs && fitB (thankD ps) ts) = false
                  rw [hp]
                  rfl] at k
          walk_at "ww"
          exact k _ e1
        | true =>
          have q : isT d = true := by
            cases d <;> first | rfl | cases hp
          obtain ⟨_, _, ps, _, rfl, _, _⟩ := isT_tup h1 q
          have hp : fitB personD ps = true := hp
          have hs : Strs ps := fun d hd => by
            obtain ⟨j, hj, rfl⟩ := List.getElem_of_mem hd
            exact person_str (fitB_iff.mp hp j _ (List.getElem?_eq_getElem hj))
          walk_at "ww"
          refine ⟨_, _, _, _, rfl, h1.ex e1, hs, ⟨h2.ex e1, b2⟩, fun H2 e2 => ?_⟩
          have E2 := e1.trans e2
          cases hg : goodsB ps e with
          | false =>
            rw [show webD (.tuple [.tuple ps, e, f]) = false from by
              cases q2 : isT e with
              | false => exact web_not (by rw [q2]; rfl)
              | true =>
                cases q3 : isT f with
                | false => exact web_not (by rw [q2, q3]; rfl)
                | true =>
                  obtain ⟨_, _, gs, _, rfl, _, _⟩ := isT_tup h2 q2
                  obtain ⟨_, _, ts, _, rfl, _, _⟩ := isT_tup h3 q3
                  have hg : fitB (goodD ps) gs = false := hg
                  show (fitB personD ps && fitB (goodD ps) gs && fitB (thankD ps) ts) = false
                  rw [hg, hp]
                  rfl] at k
            walk_at "ww"
            exact k _ E2
          | true =>
            have q2 : isT e = true := by
              cases e <;> first | rfl | cases hg
            obtain ⟨_, _, gs, _, rfl, _, _⟩ := isT_tup h2 q2
            have hg : fitB (goodD ps) gs = true := hg
            walk_at "ww"
            refine ⟨_, _, _, _, rfl, h1.ex E2, hs, ⟨h3.ex E2, b3⟩, fun H3 e3 => ?_⟩
            rw [show webD (.tuple [.tuple ps, .tuple gs, f]) = thanksB ps f from by
              cases q3 : isT f with
              | false =>
                rw [web_not (by rw [q3]; rfl)]
                cases f <;> first | rfl | cases q3
              | true =>
                obtain ⟨_, _, ts, _, rfl, _, _⟩ := isT_tup h3 q3
                show (fitB personD ps && fitB (goodD ps) gs && fitB (thankD ps) ts) = fitB (thankD ps) ts
                rw [hg, hp]
                rfl] at k
            exact k _ (E2.trans e3)
      · rw [web_len (by omega)] at k
        rw [show (!decide (V.int ((xs.length : Nat) : Int) = V.int 3)) = true from by
          rw [decide_eq_false fun e => h3 (by have := V.int.inj e; omega)]
          rfl]
        walk_at "ww"
        exact k _ (Ex.refl _)
/-! ### the law's look -/
def spLow : Sp := fun vs H Q _ => ∃ t b : Int, vs = [.int t, .int b] ∧ 0 < b ∧ b.natAbs < 2 ^ 8000 ∧ ∀ p H', H p = none → Ex H H' → H' p = some (.tup [.int (t.fdiv (t.gcd b : Nat)), .int (b.fdiv (t.gcd b : Nat))]) → Q (.ref p) H'
theorem gcd_natAbs (t b : Int) : (if t < 0 then -t else t).gcd b = t.gcd b := by
  split
  · rw [Int.neg_gcd]
  · rfl
theorem ok_Llow (T : Tx K mg A) : FnOk P w K mg base CX0 1 A.f_Llow A.d_Llow ["_law_top", "_law_bottom"] spLow := by
  refine T.F_Llow.ok sc_Llow (fun vs H Q E h => ?_) (fun cdv A' outer s H vs Q E hr h => ?_)
  · obtain ⟨t, b, rfl, _⟩ := h
    rfl
  · obtain ⟨t, b, rfl, b0, bb, k⟩ := h
    refine ⟨_, (pss_cons (ps_par (i := 2) (j := 3) (by rfl) sc_Llow.nd rfl rfl (by decide) rfl rfl (pa_cons (pe_callB call_abs (by rfl) T.m_abs (by decide +kernel) (pa_cons (pv 0) pa_nil)) (pa_cons (pv 1) pa_nil)) (by rfl))
    (pss_cons (ps_while PassesOwn.never (pt_cmpR op_gt (pv 3) pe_int (nomark _))
    (pss_one (ps_par (i := 2) (j := 3) (by rfl) sc_Llow.nd rfl rfl (by decide) rfl rfl (pa_cons (pv 3) (pa_cons (pe_op op_modN (pv 2) (pv 3)) pa_nil)) (by rfl))))
    (pss_one (ps_ret (pe_tup (pa_cons (pe_op op_fdivZ (pv 0) (pv 2)) (pa_cons (pe_op op_fdivZ (pv 1) (pv 2)) pa_nil))))))), ?_⟩
    have g0 : 0 < t.gcd b := Fr.gcd_pos (by omega)
    have gl : t.gcd b ≤ b.natAbs := Nat.le_of_dvd (by omega) (Nat.gcd_dvd_right t.natAbs b.natAbs)
    have dz : ∀ i : Int, CDivZ i ((t.gcd b : Nat) : Int) := fun i => divz (by omega) (Nat.lt_of_le_of_lt (by rw [Int.natAbs_natCast]; exact gl) bb) (by decide) (by decide)
    walk_at "ww"
    refine ⟨fun m σ H' => ∃ x y : Int, σ = [some (.int t), some (.int b), some (.int x), some (.int y)] ∧ H' = H ∧ x.gcd y = t.gcd b ∧ 0 ≤ x ∧ 0 ≤ y ∧ y.natAbs = m, ⟨_, _, b, rfl, rfl, gcd_natAbs t b, by split <;> omega, by omega, rfl⟩, ?_⟩
    rintro m σ H' ⟨x, y, rfl, rfl, hg, hx, hy, hm⟩
    walk_at "ww"
    refine ite2 (fun c => ?_) (fun c => ?_)
    · have y0 : 0 < y := of_decide_eq_true c
      have hy0 : y ≠ 0 := by omega
      refine ⟨fun σ' H'' => ∃ x' y' : Int, σ' = [some (.int t), some (.int b), some (.int x'), some (.int y')] ∧ H'' = H' ∧ x'.gcd y' = t.gcd b ∧ 0 ≤ x' ∧ 0 ≤ y' ∧ y'.natAbs < m, fun σ' H'' ⟨x', y', e1, e2, e3, e4, e5, e6⟩ => ⟨_, e6, x', y', e1, e2, e3, e4, e5, rfl⟩, ?_⟩
      walk_at "ww"
      exact ⟨_, _, rfl, rfl, (Fr.gcd_turn x hy0).trans hg, by omega, by rw [Int.fmod_eq_emod_of_nonneg _ (by omega)]; exact Int.emod_nonneg _ hy0, by have := Fr.fmod_less x hy0; omega⟩
    · have y0 : y = 0 := by
        have : ¬ 0 < y := fun q => c (decide_eq_true q)
        omega
      have ex : x = ((t.gcd b : Nat) : Int) := by
        rw [y0, Int.gcd_zero_right] at hg
        omega
      subst ex
      walk_at "ww"
      refine wI (dz _) ?_
      walk_at "ww"
      refine wI (dz _) ?_
      walk_at "ww"
      exact alI fun p H' n e f => k p H' n e f
theorem ok_Lwhole (T : Tx K mg A) : FnOk P w K mg base CX0 1 A.f_Lwhole A.d_Lwhole ["_law_thing"] spWhole := by
  refine T.F_Lwhole.ok sc_Lwhole (fun vs H Q E h => ?_) (fun cdv A' outer s H vs Q E hr h => ?_)
  · obtain ⟨v, n, rfl, _⟩ := h
    rfl
  · obtain ⟨v, d, rfl, dt, k⟩ := h
    refine ⟨_, (pss_one (ps_ret (pe_and (pe_callB (call_isiV (K := K) rfl) (by rfl) T.m_isinstance (by decide +kernel) (pa_cons (pv 0) (pa_cons (pe_bltn (v := .ty "int") (by rfl) T.m_int (by decide +kernel) rfl) pa_nil))) (pe_one (pe_not (pe_callB (call_isiV (K := K) rfl) (by rfl) T.m_isinstance (by decide +kernel) (pa_cons (pv 0) (pa_cons (pe_bltn (v := .ty "bool") (by rfl) T.m_bool (by decide +kernel) rfl) pa_nil)))))))), ?_⟩
    walk_at "ww"
    refine wIsi dt.ty (kit_int d) ?_
    cases d <;> simp only [isI, isB, Bool.or_false, Bool.or_true] at k ⊢ <;> walk_at "ww" <;> first
      | exact k
      | (refine wIsi dt.ty (kit_bool _) ?_
         simp only [isB]
         walk_at "ww"
         exact k)
def amtA (d : PyData) : Bool := frD d && posD d
theorem amtA_len {ds : List PyData} (h : ds.length ≠ 2) : amtA (.tuple ds) = false := by
  unfold amtA
  rw [frD_len h]
  rfl
theorem amtA_not {ds : List PyData} (h : (ds.all isI) = false) : amtA (.tuple ds) = false := by
  unfold amtA
  by_cases l : ds.length = 2
  · match ds, l with
    | [x, y], _ =>
      rw [frD_not (by simpa using h)]
      rfl
  · rw [frD_len l]
    rfl
theorem low_same {p q : Int} (hp : 0 < p) (hq : 0 < q) : PyData.eqv (.tuple [.int (p.fdiv (p.gcd q : Nat)), .int (q.fdiv (p.gcd q : Nat))]) (.tuple [.int p, .int q]) = decide (p.gcd q = 1) := by
  simp only [PyData.eqv, PyData.eqvAll, Bool.and_true]
  have g0 : 0 < p.gcd q := Fr.gcd_pos (by omega)
  rw [Bool.eq_iff_iff, Bool.and_eq_true, beq_iff_eq, beq_iff_eq, decide_eq_true_eq]
  constructor
  · rintro ⟨h, _⟩
    obtain ⟨c, hc⟩ := Int.gcd_dvd_left p q
    generalize hg : p.gcd q = g at *
    have e : p.fdiv (g : Int) = c := Int.fdiv_eq_of_eq_mul_right (by omega) hc
    rw [e] at h
    subst h
    have : (1 : Int) * c = (g : Int) * c := by rw [Int.one_mul]; exact hc
    have := Int.eq_of_mul_eq_mul_right (show c ≠ 0 by omega) this
    omega
  · intro h
    rw [h]
    exact ⟨Int.fdiv_one p, Int.fdiv_one q⟩
theorem ok_Lis_amount (T : Tx K mg A) : FnOk P w K mg base CX0 2 A.f_Lis_amount A.d_Lis_amount ["_law_thing"] (spD M0 N0 amtA) := by
  refine T.F_Lis_amount.ok sc_Lis_amount (fun vs H Q E h => ?_) (fun cdv A' outer s H vs Q E hr h => ?_)
  · obtain ⟨v, n, rfl, _⟩ := h
    rfl
  · obtain ⟨v, d, rfl, dv, k⟩ := h
    refine ⟨_, (pss_cons (ps_if (PW.pt (pw_or (pt_not (pt_val (pe_callB (call_isiV (K := K) rfl) (by rfl) T.m_isinstance (by decide +kernel) (pa_cons (pv 0) (pa_cons (pe_bltn (v := .ty "tuple") (by rfl) T.m_tuple (by decide +kernel) rfl) pa_nil))))) (pw_or (pt_cmpR op_ne (pe_callB (call_lenV (K := K) rfl) (by rfl) T.m_len (by decide +kernel) (pa_cons (pv 0) pa_nil)) pe_int (nomark _)) (pw_or1 (pt_not (pt_val (pe_callB (cr_allV (K := K) rfl rfl) (by rfl) T.m_all (by decide +kernel) (pa_cons (pe_lc rfl sc_Lis_amount.nd (g := gName 1) (pi_tupV (K := K) rfl (pv 0)) (blkOk_by (own := [("_law_part", 1)]) (N := ["_law_thing", "_law_part"]) (sc := defScope s_Lis_amount) (by decide +kernel)) (fun _ _ _ _ _ => (pg_name (i := 1) sc_Lis_amount.nd rfl (Or.inl rfl))) (fun _ _ _ _ _ => pts_nil) (fun _ _ _ _ _ => (pe_call (ok_Lwhole T) (hr.mono (by decide)) (by rfl) T.g_Lwhole T.F_Lwhole.kp T.b_Lwhole .nil pass0 (pa_cons (pv 1) pa_nil)))) pa_nil))))))))
    (pss_one (ps_ret pe_bl))
    pss_nil)
    (pss_one (ps_ret (pe_and (pe_cmpR op_gt (pe_ix (ix_tupV (K := K) rfl) (pv 0) pe_int (fun _ _ => rfl)) pe_int (nomark _)) (pe_and (pe_cmpR op_gt (pe_ix (ix_tupV (K := K) rfl) (pv 0) pe_int (fun _ _ => rfl)) pe_int (nomark _)) (pe_one (pe_cmpR (op_eqD hr.units) (pe_call (ok_Llow T) (hr.mono (by decide)) (by rfl) T.g_Llow T.F_Llow.kp T.b_Llow .nil pass0 (pa_cons (pe_ix (ix_tupV (K := K) rfl) (pv 0) pe_int (fun _ _ => rfl)) (pa_cons (pe_ix (ix_tupV (K := K) rfl) (pv 0) pe_int (fun _ _ => rfl)) pa_nil))) (pv 0) (nomark _)))))))), ?_⟩
    walk_at "ww"
    refine wIsi dv.dt.ty (kit_tup d) ?_
    cases ht : isT d with
    | false =>
      rw [show amtA d = false by unfold amtA; rw [frD_isT ht]; rfl] at k
      walk_at "ww"
      exact k _ (Ex.refl _)
    | true =>
      obtain ⟨a, xs', ds, rfl, rfl, _, _⟩ := isT_tup dv.dt ht
      obtain ⟨a', xs, ev, ha, hd, hn, hbd⟩ := dv.tup
      cases ev
      have l := hd.length
      walk_at "ww"
      refine wLenT (SqT.of ha) ?_
      walk_at "ww"
      by_cases h2 : xs.length = 2
      · obtain ⟨x, y, d, e, rfl, rfl, h1, g2⟩ := two_of hd h2
        walk_at "ww"
        refine exSt (SqT.of ha) ?_
        intro D hD
        refine lcTup (K := K) (fun H' => Ex H H') (fun i v _ => ∃ c, [d, e][i]? = some c ∧ v = .bl (isI c)) (fun _ => rfl) (Ex.new hD) (fun H' e => SqT.of (e _ _ ha)) (fun i x hx H' acc ex hD' hla hR => ?_) (fun H' ws ex hD' hla hR => ?_)
        · obtain ⟨c, hc, dc⟩ := hd.at_ hx
          have il := (List.getElem?_eq_some_iff.mp hx).1
          walk_at "ww"
          refine ⟨_, _, rfl, dc.ex ex, ?_⟩
          exact lcAdd hD' hla (by simp at il; omega) (ex.mut hD) hR ⟨_, hc, rfl⟩
        · have ew : ws = ([d, e].map isI).map V.bl := by
            refine List.ext_getElem? fun j => ?_
            rw [List.getElem?_map, List.getElem?_map]
            cases q : ws[j]? with
            | none =>
              have := List.getElem?_eq_none_iff.mp q
              rw [List.getElem?_eq_none (by simp at hla ⊢; omega)]
              rfl
            | some w =>
              obtain ⟨c, hc, rfl⟩ := hR j w q
              rw [hc]
              rfl
          subst ew
          walk_at "ww"
          refine wAll (SqL.of hD') ?_
          rw [show ([d, e].map isI).all id = (isI d && isI e) from by simp]
          cases hi : (isI d && isI e) with
          | false =>
            rw [amtA_not (by simpa using hi)] at k
            walk_at "ww"
            exact k _ ex
          | true =>
            rw [Bool.and_eq_true] at hi
            obtain ⟨i, rfl, rfl⟩ := isI_int h1 hi.1
            obtain ⟨j, rfl, rfl⟩ := isI_int g2 hi.2
            have k : ∀ H', Ex H H' → Q (.bl ((decide (1 ≤ j) && decide (i.gcd j = 1)) && decide (0 < i))) H' := k
            have ha1 := ex _ _ ha
            walk_at "ww"
            by_cases c1 : 0 < i
            · rw [decide_eq_true c1] at k ⊢
              walk_at "ww"
              by_cases c2 : 0 < j
              · rw [decide_eq_true (show 1 ≤ j by omega)] at k
                rw [decide_eq_true c2]
                walk_at "ww"
                have bj : j.natAbs < 2 ^ 8000 := bdA_iff.mp hbd (.int j) (by simp)
                refine ⟨i, j, rfl, c2, bj, fun p H2 np e2 f2 => ?_⟩
                have ha2 := e2 _ _ ha1
                walk_at "ww"
                refine ⟨_, _, ⟨.tup f2 (.cons (.int _) (.cons (.int _) .nil)), by simp [PyData.plain, PyData.plainAll], by simp [PyData.depth, PyData.depthAll]⟩, ⟨.tup ha2 (.cons (.int _) (.cons (.int _) .nil)), by simp [PyData.plain, PyData.plainAll], by simp [PyData.depth, PyData.depthAll]⟩, ?_⟩
                rw [low_same c1 c2]
                rw [Bool.true_and, Bool.and_true] at k
                exact k _ (ex.trans e2)
              · rw [decide_eq_false (show ¬ 1 ≤ j by omega)] at k
                rw [decide_eq_false c2]
                walk_at "ww"
                exact k _ ex
            · rw [decide_eq_false c1, Bool.and_false] at k
              rw [decide_eq_false c1]
              walk_at "ww"
              exact k _ ex
      · rw [amtA_len (by omega)] at k
        rw [show (!decide (V.int ((xs.length : Nat) : Int) = V.int 2)) = true from by
          rw [decide_eq_false fun e => h2 (by have := V.int.inj e; omega)]
          rfl]
        walk_at "ww"
        exact k _ (Ex.refl _)
theorem ok_Lis_name (T : Tx K mg A) : FnOk P w K mg base CX0 1 A.f_Lis_name A.d_Lis_name ["_law_thing"] (spName K) := by
  refine T.F_Lis_name.ok sc_Lis_name (fun vs H Q E h => ?_) (fun cdv A' outer s H vs Q E hr h => ?_)
  · obtain ⟨v, rfl, _⟩ := h
    rfl
  · obtain ⟨v, rfl, ⟨⟨n, ty⟩, sz⟩, k⟩ := h
    refine ⟨_, (pss_cons (ps_if (PW.pt (pw_or (pt_not (pt_val (pe_callB (call_isiV (K := K) rfl) (by rfl) T.m_isinstance (by decide +kernel) (pa_cons (pv 0) (pa_cons (pe_bltn (v := .ty "str") (by rfl) T.m_str (by decide +kernel) rfl) pa_nil))))) (pw_or (pt_not (pt_chain op_le op_le pe_int (pe_callB (call_lenV (K := K) rfl) (by rfl) T.m_len (by decide +kernel) (pa_cons (pv 0) pa_nil)) pe_int)) (pw_or1 (pt_cmpR op_eq (pv 0) pe_str (nomark _))))))
    (pss_one (ps_ret pe_bl))
    pss_nil)
    (pss_one (ps_ret (pe_callB (cr_allV (K := K) rfl rfl) (by rfl) T.m_all (by decide +kernel) (pa_cons (pe_lc rfl sc_Lis_name.nd (g := gName 1) (pi_str (pv 0)) (blkOk_by (own := [("_law_sign", 1)]) (N := ["_law_thing", "_law_sign"]) (sc := defScope s_Lis_name) (by decide +kernel)) (fun _ _ _ _ _ => (pg_name (i := 1) sc_Lis_name.nd rfl (Or.inl rfl))) (fun _ _ _ _ _ => pts_nil) (fun _ _ _ _ _ => (pe_cmpR op_in_sign (pv 1) pe_str (by rfl)))) pa_nil))))), ?_⟩
    walk_at "ww"
    by_cases hv : isStr v = true
    · obtain ⟨z, rfl⟩ : ∃ z, v = .str z := by
        cases v <;> first | exact ⟨_, rfl⟩ | cases hv
      have hl := sz z rfl
      walk_at "ww"
      refine wLenS (sz6 (by omega)) ?_
      walk_at "ww"
      refine ite2 (fun c2 => ?_) (fun c2 => ?_)
      · walk_at "ww"
        refine ite2 (fun c3 => ?_) (fun c3 => ?_)
        · walk_at "ww"
          rw [show false = nameV (.str z) from (name_long (by simp at c3; omega)).symm]
          exact k H (Ex.refl H)
        · walk_at "ww"
          refine ite2 (fun c1 => ?_) (fun c1 => ?_)
          · walk_at "ww"
            rw [show false = nameV (.str z) from (name_chest c1).symm]
            exact k H (Ex.refl H)
          · walk_at "ww"
            intro D hD
            refine lcStr (fun H' => Ex H H') (fun i y _ => ∃ c, z.cps[i]? = some c ∧ y = .bl (decide (97 ≤ c ∧ c ≤ 122))) (by show z.length ≤ _; omega) (fun _ => rfl) (Ex.new hD) (fun i c hc H' acc e hD' hl' hR => ?_) (fun H' ys e hD' hl' hR => ?_)
            · have hi : i ≤ 100000 := by
                have h1 := (Array.getElem?_eq_some_iff.mp hc).1
                have h2 : z.cps.size ≤ 30000 := hl
                omega
              walk_at "ww"
              rw [letters_in]
              exact lcAdd hD' hl' hi (e.mut hD) hR ⟨c, hc, rfl⟩
            · have em := map_bl hl' hR
              subst em
              refine wAll (SqL.of hD') ?_
              rw [List.all_map]
              rw [name_all (by simp at c2; omega) (by simp at c3; omega) (by simpa using c1)] at k
              exact k H' e
      · walk_at "ww"
        rw [show false = nameV (.str z) from (name_short (by simp at c2; omega)).symm]
        exact k H (Ex.refl H)
    · have hf : isStr v = false := by simpa using hv
      refine wIsi ty (ty.str_is.trans (by rw [hf])) ?_
      walk_at "ww"
      have e : nameV v = false := by
        cases v <;> first | rfl | cases hf
      rw [← e]
      exact k H (Ex.refl H)
theorem wIxQ {K : PySem.W.Frag} {H : Hp} {Q : VK} {p : Addr} {xs : List V} {i : Int} {v : V} (h : SqL K H p xs ∨ SqT K H p xs) (ha : atI xs i = some v) (k : Q v H) : rIx K (.ref p) (.int i) H Q :=
  h.elim (fun h => .inl ⟨p, xs, i, v, rfl, rfl, h, ha, k⟩) (fun h => .inr (.inl ⟨p, xs, i, v, rfl, rfl, h, ha, k⟩))
def Pair2 (d : PyData) : Prop := ∃ y z, d = .tuple [.str y, .str z]
def CmL (ds : List PyData) : Prop := Strs ds ∨ ∀ d ∈ ds, Pair2 d
theorem dt_pair {H : Hp} {x : V} {y z : Str} (h : Dt H x (.tuple [.str y, .str z])) : ∃ b, x = .ref b ∧ H b = some (.tup [.str y, .str z]) := by
  cases h with
  | tup h q =>
    cases q with
    | cons q1 q =>
      cases q with
      | cons q2 q =>
        cases q
        cases q1
        cases q2
        exact ⟨_, rfl, h⟩
theorem lt_cm {H : Hp} {Q : VK} {ds : List PyData} (c : CmL ds) {x y : V} {d e : PyData} (hx : Dt H x d) (hy : Dt H y e) (md : d ∈ ds) (me : e ∈ ds) (k : Q (.bl (PySem.W.dataLt d e)) H) : rLtD x y H Q := by
  rcases c with c | c
  · obtain ⟨_, rfl, rfl⟩ := isS_str hx (c _ md)
    obtain ⟨_, rfl, rfl⟩ := isS_str hy (c _ me)
    exact lt_strs k
  · obtain ⟨_, _, rfl⟩ := c _ md
    obtain ⟨_, _, rfl⟩ := c _ me
    obtain ⟨_, rfl, h1⟩ := dt_pair hx
    obtain ⟨_, rfl, h2⟩ := dt_pair hy
    exact lt_pairs h1 h2 k
theorem dtA_of {H : Hp} : ∀ {xs : List V} {ds : List PyData}, xs.length = ds.length → (∀ (j : Nat) x, xs[j]? = some x → ∃ d, ds[j]? = some d ∧ Dt H x d) → DtA H xs ds
  | [], [], _, _ => .nil
  | x :: xs, d :: ds, l, h => by
    obtain ⟨d', e, q⟩ := h 0 x rfl
    cases e
    exact .cons q (dtA_of (by simpa using l) fun j y e => h (j + 1) y e)
def spRis (K : PySem.W.Frag) : Sp := fun vs H Q _ => ∃ a xs ds, vs = [.ref a] ∧ (SqL K H a xs ∨ SqT K H a xs) ∧ (∀ H', Ex H H' → SqL K H' a xs ∨ SqT K H' a xs) ∧ DtA H xs ds ∧ ds.length ≤ 1000 ∧ CmL ds ∧ ∀ H', Ex H H' → Q (.bl (risL ds)) H'
theorem ok_Lrises (T : Tx K mg A) : FnOk P w K mg base CX0 1 A.f_Lrises A.d_Lrises ["_law_things"] (spRis K) := by
  refine T.F_Lrises.ok sc_Lrises (fun vs H Q E h => ?_) (fun cdv A' outer s H vs Q E hr h => ?_)
  · obtain ⟨a, xs, ds, rfl, _⟩ := h
    rfl
  · obtain ⟨a, xs, ds, rfl, hS, hS', da, hl, cm, k⟩ := h
    refine ⟨_, (pss_one (ps_ret (pe_callB (cr_allV (K := K) rfl rfl) (by rfl) T.m_all (by decide +kernel) (pa_cons (pe_lc rfl sc_Lrises.nd (g := gName 1) (pi_range1 (by rfl) T.m_range (pa_cons (pe_op op_sub (pe_callB (call_lenV (K := K) rfl) (by rfl) T.m_len (by decide +kernel) (pa_cons (pv 0) pa_nil)) pe_int) pa_nil)) (blkOk_by (own := [("_law_k", 1)]) (N := ["_law_things", "_law_k"]) (sc := defScope s_Lrises) (by decide +kernel)) (fun _ _ _ _ _ => (pg_name (i := 1) sc_Lrises.nd rfl (Or.inl rfl))) (fun _ _ _ _ _ => pts_nil) (fun _ _ _ _ _ => (pe_cmpR (op_ltD hr.units) (pe_ix (ix_seqV (K := K) rfl) (pv 0) (pv 1) (fun _ _ => rfl)) (pe_ix (ix_seqV (K := K) rfl) (pv 0) (pe_op op_add (pv 1) pe_int) (fun _ _ => rfl)) (nomark _)))) pa_nil)))), ?_⟩
    have l := da.length
    walk_at "ww"
    have wl : LenV K (.ref a) H xs.length := hS.elim (fun h => .inl ⟨_, h, rfl⟩) (fun h => .inr ⟨_, h, rfl⟩)
    refine ⟨_, _, rfl, wl, ?_⟩
    walk_at "ww"
    refine ⟨by omega, by omega, ?_⟩
    rw [show ((xs.length : Int) - 1).toNat = ds.length - 1 by omega]
    intro D hD
    refine lcRng (n := ds.length - 1) (fun H' => Ex H H') (fun i y _ => y = .bl (PySem.W.dataLt (ds[i]?.getD .none) (ds[i + 1]?.getD .none))) (fun _ => rfl) (Ex.new hD) (fun i hi H1 acc e hD' hla hR => ?_) (fun H1 ys e hD' hla hR => ?_)
    · obtain ⟨x, hx, dx⟩ := (da.ex e).get (List.getElem?_eq_getElem (show i < ds.length by omega))
      obtain ⟨y, hy, dy⟩ := (da.ex e).get (List.getElem?_eq_getElem (show i + 1 < ds.length by omega))
      walk_at "ww"
      refine wIxQ (hS' _ e) (at_of (j := i) (by omega) hx) ?_
      walk_at "ww"
      refine wIxQ (hS' _ e) (at_of (j := i + 1) (by omega) hy) ?_
      refine lt_cm cm dx dy (List.getElem_mem _) (List.getElem_mem _) ?_
      refine lcAdd hD' hla (by omega) (e.mut hD) hR ?_
      rw [List.getElem?_eq_getElem (show i < ds.length by omega), List.getElem?_eq_getElem (show i + 1 < ds.length by omega)]
      rfl
    · have ey : ys = ((List.range (ds.length - 1)).map fun i => PySem.W.dataLt (ds[i]?.getD .none) (ds[i + 1]?.getD .none)).map V.bl := by
        refine List.ext_getElem? fun j => ?_
        cases q : ys[j]? with
        | none =>
          have := List.getElem?_eq_none_iff.mp q
          rw [List.getElem?_eq_none (by simp; omega)]
        | some y =>
          have hj := (List.getElem?_eq_some_iff.mp q).1
          rw [hR j y q, List.map_map, List.getElem?_map, List.getElem?_range (by omega)]
          rfl
      subst ey
      refine wAll (SqL.of hD') ?_
      rw [List.all_map]
      exact k _ e
theorem rowL_len {ds : List PyData} (h : ds.length ≠ 3) : rowL (.tuple ds) = false := by
  unfold rowL
  split
  · rename_i e
    cases e
    exact absurd rfl h
  · rfl
theorem rowL_isT {d : PyData} (h : isT d = false) : rowL d = false := by
  cases d <;> first | rfl | cases h
theorem rowsL_not {ds : List PyData} {d : PyData} (m : d ∈ ds) (h : rowL d = false) : rowsL ds = false := by
  unfold rowsL
  rw [show ds.all rowL = false from by
    rw [List.all_eq_false]
    exact ⟨d, m, by rw [h]; decide⟩]
  rfl
theorem rowL_rw {d : PyData} (h : rowL d = true) : ∃ y z a, d = .tuple [.str y, .str z, a] := by
  unfold rowL at h
  split at h
  · rename_i x y a
    rw [Bool.and_eq_true, Bool.and_eq_true] at h
    have h0 : isS x = true := h.1.1
    have h1 : isS y = true := h.1.2
    cases x <;> first | cases h0 | skip
    cases y <;> first | cases h1 | skip
    exact ⟨_, _, _, rfl⟩
  · cases h
theorem ok_Lrows (T : Tx K mg A) : FnOk P w K mg base CX0 3 A.f_Lrows A.d_Lrows ["_law_thing"] (fun vs H Q _ => ∃ v ds, vs = [v] ∧ Da M0 N0 H v (.tuple ds) ∧ ∀ H', Ex H H' → Q (.bl (rowsL ds)) H') := by
  refine T.F_Lrows.ok sc_Lrows (fun vs H Q E h => ?_) (fun cdv A' outer s H vs Q E hr h => ?_)
  · obtain ⟨v, n, rfl, _⟩ := h
    rfl
  · obtain ⟨v, ds, rfl, dv, k⟩ := h
    refine ⟨_, (pss_cons (ps_for PassesOwn.never rfl (pi_tupV (K := K) rfl (pv 0)) (pg_name (i := 1) sc_Lrows.nd rfl (Or.inl rfl))
    (pss_cons (ps_if (PW.pt (pw_or (pt_not (pt_val (pe_callB (call_isiV (K := K) rfl) (by rfl) T.m_isinstance (by decide +kernel) (pa_cons (pv 1) (pa_cons (pe_bltn (v := .ty "tuple") (by rfl) T.m_tuple (by decide +kernel) rfl) pa_nil))))) (pw_or (pt_cmpR op_ne (pe_callB (call_lenV (K := K) rfl) (by rfl) T.m_len (by decide +kernel) (pa_cons (pv 1) pa_nil)) pe_int (nomark _)) (pw_or (pt_not (pt_val (pe_callB (call_isiV (K := K) rfl) (by rfl) T.m_isinstance (by decide +kernel) (pa_cons (pe_ix (ix_tupV (K := K) rfl) (pv 1) pe_int (fun _ _ => rfl)) (pa_cons (pe_bltn (v := .ty "str") (by rfl) T.m_str (by decide +kernel) rfl) pa_nil))))) (pw_or1 (pt_not (pt_val (pe_callB (call_isiV (K := K) rfl) (by rfl) T.m_isinstance (by decide +kernel) (pa_cons (pe_ix (ix_tupV (K := K) rfl) (pv 1) pe_int (fun _ _ => rfl)) (pa_cons (pe_bltn (v := .ty "str") (by rfl) T.m_str (by decide +kernel) rfl) pa_nil))))))))))
      (pss_one (ps_ret pe_bl))
      pss_nil)
      (pss_one (ps_if (pt_not (pt_val (pe_call (ok_Lis_amount T) (hr.mono (by decide)) (by rfl) T.g_Lis_amount T.F_Lis_amount.kp T.b_Lis_amount .nil pass0 (pa_cons (pe_ix (ix_tupV (K := K) rfl) (pv 1) pe_int (fun _ _ => rfl)) pa_nil))))
      (pss_one (ps_ret pe_bl))
      pss_nil))))
    (pss_one (ps_ret (pe_call (ok_Lrises T) (hr.mono (by decide)) (by rfl) T.g_Lrises T.F_Lrises.kp T.b_Lrises .nil pass0 (pa_cons (pe_lc rfl sc_Lrows.nd (g := gName 1) (pi_tupV (K := K) rfl (pv 0)) (blkOk_by (own := [("_law_row", 1)]) (N := ["_law_thing", "_law_row"]) (sc := defScope s_Lrows) (by decide +kernel)) (fun _ _ _ _ _ => (pg_name (i := 1) sc_Lrows.nd rfl (Or.inl rfl))) (fun _ _ _ _ _ => pts_nil) (fun _ _ _ _ _ => (pe_slice (sl_tupV (K := K) rfl) (pv 1) po_none (po_some pe_int)))) pa_nil))))), ?_⟩
    obtain ⟨a, xs, rfl, ha, hd, hn, hbd⟩ := dv.tup
    have hn : ds.length ≤ 900 := hn
    have l := hd.length
    walk_at "ww"
    refine exSt (SqT.of ha) ?_
    refine for_tup (K := K) (a := a) (xs := xs) (fun i σ H2 => ∃ v1, σ = [some (.ref a), v1] ∧ Ex H H2 ∧ ∀ j, j < i → ∀ d, ds[j]? = some d → rowL d = true)
      ⟨none, rfl, Ex.refl _, fun j hj => absurd hj (by omega)⟩ (fun i σ H2 _ ⟨_, _, e, _⟩ => SqT.of (e _ _ ha)) ?_ ?_
    · rintro i x σ H2 hx ⟨v1, rfl, e2, hall⟩
      obtain ⟨d, hdi, dx⟩ := hd.nth hbd hx
      have mem := List.mem_of_getElem? hdi
      replace dx := dx.ex e2
      walk_at "ww"
      refine wIsi dx.dt.ty (kit_tup d) ?_
      cases ht : isT d with
      | false =>
        rw [rowsL_not mem (rowL_isT ht)] at k
        walk_at "ww"
        exact k _ e2
      | true =>
        obtain ⟨b, ys', es, rfl, rfl, _, _⟩ := isT_tup dx.dt ht
        obtain ⟨b', ys, ev, hb, he, hne, hbe⟩ := dx.tup
        cases ev
        have l2 := he.length
        walk_at "ww"
        refine wLenT (SqT.of hb) ?_
        walk_at "ww"
        by_cases h3 : ys.length = 3
        · obtain ⟨x, y, z, d, e, f, rfl, rfl, h1, g2, h3⟩ := three_of he h3
          walk_at "ww"
          walk_at "ww"
          refine wIsi h1.ty (kit_str d) ?_
          have rowE : rowL (.tuple [d, e, f]) = (isS d && isS e && amtA f) := rfl
          cases hs1 : isS d with
          | false =>
            rw [hs1] at rowE
            rw [rowsL_not mem rowE] at k
            walk_at "ww"
            exact k _ e2
          | true =>
            rw [hs1] at rowE
            walk_at "ww"
            walk_at "ww"
            refine wIsi g2.ty (kit_str e) ?_
            cases hs2 : isS e with
            | false =>
              rw [hs2] at rowE
              rw [rowsL_not mem rowE] at k
              walk_at "ww"
              exact k _ e2
            | true =>
              rw [hs2] at rowE
              walk_at "ww"
              have d3 : Da M0 N0 H2 z f := ⟨h3, bdA_iff.mp hbe f (by simp)⟩
              walk_at "ww"
              refine ⟨_, _, rfl, d3, fun H3 e3 => ?_⟩
              cases hf : amtA f with
              | false =>
                rw [hf] at rowE
                rw [rowsL_not mem rowE] at k
                walk_at "ww"
                exact k _ (e2.trans e3)
              | true =>
                rw [hf] at rowE
                walk_at "ww"
                refine ⟨_, rfl, e2.trans e3, fun j hj d' hd' => ?_⟩
                by_cases c : j < i
                · exact hall j c d' hd'
                · obtain rfl : j = i := by omega
                  rw [hdi] at hd'
                  cases hd'
                  exact rowE
        · rw [rowsL_not mem (rowL_len (by omega))] at k
          rw [show (!decide (V.int ((ys.length : Nat) : Int) = V.int 3)) = true from by
            rw [decide_eq_false fun e => h3 (by have := V.int.inj e; omega)]
            rfl]
          walk_at "ww"
          exact k _ e2
    · rintro σ H2 ⟨v1, rfl, e2, hall⟩
      have hR0 : ds.all rowL = true := by
        rw [List.all_eq_true]
        intro d hd'
        obtain ⟨j, hj, rfl⟩ := List.getElem_of_mem hd'
        exact hall j (by omega) _ (List.getElem?_eq_getElem hj)
      rw [show rowsL ds = risL (ds.map tk2) from by unfold rowsL; rw [hR0]; rfl] at k
      have ha2 := e2 _ _ ha
      walk_at "ww"
      refine exSt (SqT.of ha2) ?_
      intro D hD
      refine lcTup (K := K) (fun H' => Ex H2 H') (fun i v H' => ∃ y z t b, ds[i]? = some (.tuple [.str y, .str z, t]) ∧ v = .ref b ∧ H' b = some (.tup [.str y, .str z])) (fun _ => rfl) (Ex.new hD) (fun H' e => SqT.of (e _ _ ha2)) (fun i x hx H' acc e hD' hla hR => ?_) (fun H' ws e hD' hla hR => ?_)
      · obtain ⟨d, hdi, dx⟩ := hd.nth hbd hx
        obtain ⟨y, z, t, rfl⟩ := rowL_rw (List.all_eq_true.mp hR0 d (List.mem_of_getElem? hdi))
        obtain ⟨b, ys, rfl, hb, he, _, _⟩ := (dx.ex (e2.trans e)).tup
        cases he with
        | cons q1 he =>
          cases he with
          | cons q2 he =>
            cases q1
            cases q2
            have il : i < xs.length := (List.getElem?_eq_some_iff.mp hx).1
            walk_at "ww"
            refine wSlT hb fun c H3 e3 f3 _ => ?_
            rw [show (2 : Int) = ((2 : Nat) : Int) from rfl, cut_take] at f3
            have nD : D ≠ c := fun q => by
              rw [← q, e3 _ _ hD'] at f3
              cases f3
            refine lcAdd (e3 _ _ hD') hla (by omega) ((e.trans e3).mut hD) (fun j v hv => ?_) ⟨y, z, t, c, hdi, rfl, (upd_ne nD.symm).trans f3⟩
            obtain ⟨y', z', t', b', h1, rfl, h2⟩ := hR j v hv
            have nb : b' ≠ D := fun q => by
              rw [q, hD'] at h2
              cases h2
            exact ⟨y', z', t', b', h1, rfl, (upd_ne nb).trans (e3 _ _ h2)⟩
      · have dw : DtA H' ws (ds.map tk2) := dtA_of (by rw [List.length_map]; omega) fun j v hv => by
          obtain ⟨y', z', t', b', h1, rfl, h2⟩ := hR j v hv
          exact ⟨.tuple [.str y', .str z'], by rw [List.getElem?_map, h1]; rfl, .tup h2 (.cons (.str _) (.cons (.str _) .nil))⟩
        have cm : CmL (ds.map tk2) := .inr fun d hd' => by
          obtain ⟨d', hm, rfl⟩ := List.mem_map.mp hd'
          obtain ⟨y, z, t, rfl⟩ := rowL_rw (List.all_eq_true.mp hR0 d' hm)
          exact ⟨y, z, rfl⟩
        walk_at "ww"
        exact ⟨D, ws, _, rfl, .inl (SqL.of hD'), fun H9 e9 => .inl (SqL.of (e9 _ _ hD')), dw, by rw [List.length_map]; omega, cm, fun H9 e9 => k _ ((e2.trans e).trans e9)⟩
theorem wl_len {ds : List PyData} (h : ds.length ≠ 3) : webL (.tuple ds) = false := by
  unfold webL
  split
  · rename_i e
    cases e
    exact absurd rfl h
  · rfl
theorem wl_isT {d : PyData} (h : isT d = false) : webL d = false := by
  cases d <;> first | rfl | cases h
theorem wl_not {ds : List PyData} (h : ds.all isT = false) : webL (.tuple ds) = false := by
  unfold webL
  split
  · rename_i e
    cases e
    cases h
  · rfl
theorem bls_of {ys : List V} {ds : List PyData} {f : PyData → Bool} (l : ys.length = ds.length) (h : ∀ (j : Nat) y, ys[j]? = some y → ∃ c, ds[j]? = some c ∧ y = .bl (f c)) : ys = (ds.map f).map V.bl := by
  refine List.ext_getElem? fun j => ?_
  rw [List.getElem?_map, List.getElem?_map]
  cases q : ys[j]? with
  | none =>
    have := List.getElem?_eq_none_iff.mp q
    rw [List.getElem?_eq_none (by omega)]
    rfl
  | some w =>
    obtain ⟨c, hc, rfl⟩ := h j w q
    rw [hc]
    rfl
theorem ok_Lis_web (T : Tx K mg A) : FnOk P w K mg base CX0 4 A.f_Lis_web A.d_Lis_web ["_law_thing"] (spD M0 N0 webL) := by
  refine T.F_Lis_web.ok sc_Lis_web (fun vs H Q E h => ?_) (fun cdv A' outer s H vs Q E hr h => ?_)
  · obtain ⟨v, d, rfl, _⟩ := h
    rfl
  · obtain ⟨v, d, rfl, dv, k⟩ := h
    refine ⟨_, (pss_cons (ps_if (PW.pt (pw_or (pt_not (pt_val (pe_callB (call_isiV (K := K) rfl) (by rfl) T.m_isinstance (by decide +kernel) (pa_cons (pv 0) (pa_cons (pe_bltn (v := .ty "tuple") (by rfl) T.m_tuple (by decide +kernel) rfl) pa_nil))))) (pw_or (pt_cmpR op_ne (pe_callB (call_lenV (K := K) rfl) (by rfl) T.m_len (by decide +kernel) (pa_cons (pv 0) pa_nil)) pe_int (nomark _)) (pw_or1 (pt_not (pt_val (pe_callB (cr_allV (K := K) rfl rfl) (by rfl) T.m_all (by decide +kernel) (pa_cons (pe_lc rfl sc_Lis_web.nd (g := gName 10) (pi_tupV (K := K) rfl (pv 0)) (blkOk_by (own := [("_law_part", 10)]) (N := ["_law_thing", "_law_people", "_law_goods_here", "_law_links", "_law_ends", "_law_holder", "_law_lot", "_law_amount", "_law_one", "_law_to", "_law_part", "_law_row"]) (sc := defScope s_Lis_web) (by decide +kernel)) (fun _ _ _ _ _ => (pg_name (i := 10) sc_Lis_web.nd rfl (Or.inl rfl))) (fun _ _ _ _ _ => pts_nil) (fun _ _ _ _ _ => (pe_callB (call_isiV (K := K) rfl) (by rfl) T.m_isinstance (by decide +kernel) (pa_cons (pv 10) (pa_cons (pe_bltn (v := .ty "tuple") (by rfl) T.m_tuple (by decide +kernel) rfl) pa_nil))))) pa_nil))))))))
    (pss_one (ps_ret pe_bl))
    pss_nil)
    (pss_cons (ps_asg (pv 0) (pg_tupV (K := K) (n := 3) rfl rfl (pgs_cons (pg_name (i := 1) sc_Lis_web.nd rfl (Or.inl rfl)) (pgs_cons (pg_name (i := 2) sc_Lis_web.nd rfl (Or.inl rfl)) (pgs_cons (pg_name (i := 3) sc_Lis_web.nd rfl (Or.inl rfl)) pgs_nil))) rfl))
    (pss_cons (ps_if (PW.pt (pw_or (pt_cmpR op_gt (pe_callB (call_lenV (K := K) rfl) (by rfl) T.m_len (by decide +kernel) (pa_cons (pv 1) pa_nil)) pe_int (nomark _)) (pw_or (pt_not (pt_val (pe_callB (cr_allV (K := K) rfl rfl) (by rfl) T.m_all (by decide +kernel) (pa_cons (pe_lc rfl sc_Lis_web.nd (g := gName 8) (pi_tupV (K := K) rfl (pv 1)) (blkOk_by (own := [("_law_one", 8)]) (N := ["_law_thing", "_law_people", "_law_goods_here", "_law_links", "_law_ends", "_law_holder", "_law_lot", "_law_amount", "_law_one", "_law_to", "_law_part", "_law_row"]) (sc := defScope s_Lis_web) (by decide +kernel)) (fun _ _ _ _ _ => (pg_name (i := 8) sc_Lis_web.nd rfl (Or.inl rfl))) (fun _ _ _ _ _ => pts_nil) (fun _ _ _ _ _ => (pe_call (ok_Lis_name T) (hr.mono (by decide)) (by rfl) T.g_Lis_name T.F_Lis_name.kp T.b_Lis_name .nil pass0 (pa_cons (pv 8) pa_nil)))) pa_nil)))) (pw_or1 (pt_not (pt_val (pe_call (ok_Lrises T) (hr.mono (by decide)) (by rfl) T.g_Lrises T.F_Lrises.kp T.b_Lrises .nil pass0 (pa_cons (pv 1) pa_nil))))))))
    (pss_one (ps_ret pe_bl))
    pss_nil)
    (pss_cons (ps_if (PW.pt (pw_or (pt_not (pt_val (pe_call (ok_Lrows T) (hr.mono (by decide)) (by rfl) T.g_Lrows T.F_Lrows.kp T.b_Lrows .nil pass0 (pa_cons (pv 2) pa_nil)))) (pw_or1 (pt_not (pt_val (pe_call (ok_Lrows T) (hr.mono (by decide)) (by rfl) T.g_Lrows T.F_Lrows.kp T.b_Lrows .nil pass0 (pa_cons (pv 3) pa_nil)))))))
    (pss_one (ps_ret pe_bl))
    pss_nil)
    (C8.pss_cut (ps_set (i := 4) sc_Lis_web.nd rfl (Or.inl rfl) (pe_op op_cat (pe_callTy (call_list_ofV (K := K) rfl) (by rfl) T.m_list (by decide +kernel) (pa_cons (pv 1) pa_nil)) (pe_lst (pa_cons pe_str pa_nil))))
    (C8.pss_cut (ps_for PassesOwn.never rfl (pi_tupV (K := K) rfl (pv 2)) (pg_tupV (K := K) (n := 3) rfl rfl (pgs_cons (pg_name (i := 5) sc_Lis_web.nd rfl (Or.inl rfl)) (pgs_cons (pg_name (i := 6) sc_Lis_web.nd rfl (Or.inl rfl)) (pgs_cons (pg_name (i := 7) sc_Lis_web.nd rfl (Or.inl rfl)) pgs_nil))) rfl)
    (pss_one (ps_if (PW.pt (pw_or (pt_cmpR (op_notInD hr.units) (pv 5) (pv 4) (by rfl)) (pw_or1 (pt_not (pt_val (pe_call (ok_Lis_name T) (hr.mono (by decide)) (by rfl) T.g_Lis_name T.F_Lis_name.kp T.b_Lis_name .nil pass0 (pa_cons (pv 6) pa_nil)))))))
      (pss_one (ps_ret pe_bl))
      pss_nil)))
    (C8.pss_cut (ps_for PassesOwn.never rfl (pi_tupV (K := K) rfl (pv 3)) (pg_tupV (K := K) (n := 3) rfl rfl (pgs_cons (pg_name (i := 8) sc_Lis_web.nd rfl (Or.inl rfl)) (pgs_cons (pg_name (i := 9) sc_Lis_web.nd rfl (Or.inl rfl)) (pgs_cons (pg_name (i := 7) sc_Lis_web.nd rfl (Or.inl rfl)) pgs_nil))) rfl)
    (pss_one (ps_if (PW.pt (pw_or (pt_cmpR (op_notInD hr.units) (pv 8) (pv 1) (by rfl)) (pw_or (pt_cmpR (op_notInD hr.units) (pv 9) (pv 4) (by rfl)) (pw_or1 (pt_cmpR (op_eqD hr.units) (pv 8) (pv 9) (nomark _))))))
      (pss_one (ps_ret pe_bl))
      pss_nil)))
    (pss_one (ps_ret (pe_cmpR op_lt (pe_lenSet (K := K) rfl rfl (by rfl) T.m_len (by rfl) T.m_set (pe_lc rfl sc_Lis_web.nd (g := gName 11) (pi_tupV (K := K) rfl (pv 2)) (blkOk_by (own := [("_law_row", 11)]) (N := ["_law_thing", "_law_people", "_law_goods_here", "_law_links", "_law_ends", "_law_holder", "_law_lot", "_law_amount", "_law_one", "_law_to", "_law_part", "_law_row"]) (sc := defScope s_Lis_web) (by decide +kernel)) (fun _ _ _ _ _ => (pg_name (i := 11) sc_Lis_web.nd rfl (Or.inl rfl))) (fun _ _ _ _ _ => pts_nil) (fun _ _ _ _ _ => (pe_ix (ix_tupV (K := K) rfl) (pv 11) pe_int (fun _ _ => rfl))))) pe_int (nomark _))))))))))), ?_⟩
    walk_at "ww"
    refine wIsi dv.dt.ty (kit_tup d) ?_
    cases ht : isT d with
    | false =>
      rw [wl_isT ht] at k
      walk_at "ww"
      exact k _ (Ex.refl _)
    | true =>
      obtain ⟨a, xs', ds, rfl, rfl, _, _⟩ := isT_tup dv.dt ht
      obtain ⟨a', xs, ev, ha, hd, hn, hbd⟩ := dv.tup
      cases ev
      have l := hd.length
      walk_at "ww"
      refine wLenT (SqT.of ha) ?_
      walk_at "ww"
      by_cases hl3 : xs.length = 3
      · obtain ⟨x, y, z, d, e, f, rfl, rfl, h1, h2, h3⟩ := three_of hd hl3
        have b1 : Bd M0 N0 d := bdA_iff.mp hbd d (by simp)
        have b2 : Bd M0 N0 e := bdA_iff.mp hbd e (by simp)
        have b3 : Bd M0 N0 f := bdA_iff.mp hbd f (by simp)
        walk_at "ww"
        refine exSt (SqT.of ha) ?_
        intro D hD
        refine lcTup (K := K) (fun H' => Ex H H') (fun i v _ => ∃ c, [d, e, f][i]? = some c ∧ v = .bl (isT c)) (fun _ => rfl) (Ex.new hD) (fun H' e => SqT.of (e _ _ ha)) (fun i x hx H' acc ex hD' hla hR => ?_) (fun H1 ws e1 hD' hla hR => ?_)
        · obtain ⟨c, hc, dc⟩ := hd.at_ hx
          have il := (List.getElem?_eq_some_iff.mp hx).1
          walk_at "vv"
          refine wIsi (dc.ex ex).ty (kit_tup c) ?_
          exact lcAdd hD' hla (by simp at il; omega) (ex.mut hD) hR ⟨_, hc, rfl⟩
        · have ew := bls_of (ds := [d, e, f]) hla hR
          subst ew
          walk_at "vv"
          refine wAll (SqL.of hD') ?_
          rw [show ([d, e, f].map isT).all id = [d, e, f].all isT from by rw [List.all_map]; rfl]
          cases hal : [d, e, f].all isT with
          | false =>
            rw [wl_not hal] at k
            walk_at "vv"
            exact k _ e1
          | true =>
            rw [List.all_eq_true] at hal
            obtain ⟨pp, _, ps, rfl, rfl, _, _⟩ := isT_tup h1 (hal _ (by simp))
            obtain ⟨gg, _, gs, rfl, rfl, _, _⟩ := isT_tup h2 (hal _ (by simp))
            obtain ⟨tt, _, ts, rfl, rfl, _, _⟩ := isT_tup h3 (hal _ (by simp))
            have k : ∀ H', Ex H H' → Q (.bl (decide (ps.length ≤ 8) && ps.all nameD && risL ps && rowsL gs && rowsL ts &&
              (gs.all fun r => endsD ps (d0 r) && nameD (d1 r)) && (ts.all fun r => (ps.any fun e => PyData.eqv e (d0 r)) && endsD ps (d1 r) && !PyData.eqv (d0 r) (d1 r)) && decide ((SetX.dst (lotsD gs)).length < 9))) H' := k
            have ha1 := e1 _ _ ha
            obtain ⟨pa, pxs, epa, hpa, hpd, hpn, hpb⟩ := (show Da M0 N0 H _ (.tuple ps) from ⟨h1, b1⟩).tup
            obtain ⟨ga, gxs, ega, hga, hgd, hgn, hgb⟩ := (show Da M0 N0 H _ (.tuple gs) from ⟨h2, b2⟩).tup
            obtain ⟨ta, txs, eta, hta, htd, htn, htb⟩ := (show Da M0 N0 H _ (.tuple ts) from ⟨h3, b3⟩).tup
            rw [← V.ref.inj epa] at hpa
            rw [← V.ref.inj ega] at hga
            rw [← V.ref.inj eta] at hta
            have hpn : ps.length ≤ 900 := hpn
            have hgn : gs.length ≤ 900 := hgn
            have htn : ts.length ≤ 900 := htn
            have lp := hpd.length
            have lg := hgd.length
            have lt := htd.length
            walk_at "vv"
            refine wGTup (SqT.of ha1) rfl ?_
            have hpa1 := e1 _ _ hpa
            walk_at "vv"
            refine wLenT (SqT.of hpa1) ?_
            walk_at "vv"
            by_cases c8 : ps.length ≤ 8
            · rw [decide_eq_true c8] at k
              rw [decide_eq_false (show ¬ (8 : Int) < ((pxs.length : Nat) : Int) by omega)]
              walk_at "vv"
              refine exSt (SqT.of hpa1) ?_
              intro D2 hD2
              refine lcTup (K := K) (fun H' => Ex H1 H') (fun i v _ => ∃ c, ps[i]? = some c ∧ v = .bl (nameD c)) (fun _ => rfl) (Ex.new hD2) (fun H' e => SqT.of (e _ _ hpa1)) (fun i x hx H' acc ex hD' hla hR => ?_) (fun H2 ws e2 hD2' hla2 hR2 => ?_)
              · obtain ⟨c, hc, dc⟩ := hpd.nth hpb hx
                have il := (List.getElem?_eq_some_iff.mp hx).1
                replace dc := dc.ex (e1.trans ex)
                walk_at "vv"
                refine ⟨x, rfl, dc.thing (by decide), fun H9 e9 => ?_⟩
                rw [da_name dc]
                exact lcAdd (e9 _ _ hD') hla (by omega) ((ex.trans e9).mut hD2) (fun j y hy => hR j y hy) ⟨_, hc, rfl⟩
              · have ew := bls_of (by omega) hR2
                subst ew
                have E2 := e1.trans e2
                walk_at "vv"
                refine wAll (SqL.of hD2') ?_
                rw [show (ps.map nameD).all id = ps.all nameD from by rw [List.all_map]; rfl]
                cases hn1 : ps.all nameD with
                | false =>
                  rw [hn1] at k
                  walk_at "vv"
                  exact k _ E2
                | true =>
                  rw [hn1] at k
                  have hpa2 := e2 _ _ hpa1
                  have hst : Strs ps := fun d hd => isS_name (List.all_eq_true.mp hn1 d hd)
                  walk_at "vv"
                  refine ⟨_, pxs, ps, rfl, .inr (SqT.of hpa2), fun H9 e9 => .inr (SqT.of (e9 _ _ hpa2)), hpd.ex E2, by omega, .inl hst, fun H3 e3 => ?_⟩
                  have E3 := E2.trans e3
                  cases hr1 : risL ps with
                  | false =>
                    rw [hr1] at k
                    walk_at "vv"
                    exact k _ E3
                  | true =>
                    rw [hr1] at k
                    walk_at "vv"
                    refine ⟨_, _, rfl, ⟨h2.ex E3, b2⟩, fun H4 e4 => ?_⟩
                    have E4 := E3.trans e4
                    cases hg1 : rowsL gs with
                    | false =>
                      rw [hg1] at k
                      walk_at "vv"
                      exact k _ E4
                    | true =>
                      rw [hg1] at k
                      walk_at "vv"
                      refine ⟨_, _, rfl, ⟨h3.ex E4, b3⟩, fun H5 e5 => ?_⟩
                      have E5 := E4.trans e5
                      cases ht1 : rowsL ts with
                      | false =>
                        rw [ht1] at k
                        walk_at "vv"
                        exact k _ E5
                      | true =>
                        rw [ht1] at k
                        have hpa5 := E5 _ _ hpa
                        have hga5 := E5 _ _ hga
                        have hta5 := E5 _ _ hta
                        walk_at "vv"
                        have hch : Strs (ps ++ [.str ("chest" : Str)]) := fun d hd => by
                          rcases List.mem_append.mp hd with q | q
                          · exact hst d q
                          · rw [List.mem_singleton.mp q]
                            rfl
                        generalize hG : (fun r => endsD ps (d0 r) && nameD (d1 r)) = fG at k
                        generalize hT : (fun r => (ps.any fun e => PyData.eqv e (d0 r)) && endsD ps (d1 r) && !PyData.eqv (d0 r) (d1 r)) = fT at k
                        clear hR2 hD2' hla2 hR hD' hla hal ha ha1 hpa1 hpa2 dv hd l hn hbd b1 hl3 ht
                        refine wCut (fun σ H' => ∃ le, σ = [some (.ref a), some (.ref pp), some (.ref gg), some (.ref tt), some (.ref le), none, none, none, none, none, none, none] ∧ Ex H5 H' ∧ H' le = some (.lst (pxs ++ [.str ("chest" : Str)]))) ?_ ?_
                        · walk_at "vv"
                          refine ⟨_, pxs, rfl, .inr (SqT.of hpa5), fun l1 hl1 => ?_⟩
                          have e6 : Ex H5 (upd H5 l1 (.lst pxs)) := Ex.new hl1
                          have f6 : (upd H5 l1 (.lst pxs)) l1 = some (.lst pxs) := upd_same
                          generalize upd H5 l1 (.lst pxs) = H6 at e6 f6 ⊢
                          walk_at "vv"
                          refine alI fun l2 H7 n7 e7 f7 => ?_
                          refine wCatL (e7 _ _ f6) f7 (by simp; omega) fun l3 H8 e8 f8 n8 => ?_
                          walk_at "vv"
                          exact ⟨_, rfl, e6.trans (e7.trans e8), f8⟩
                        · rintro σ H6 ⟨le, rfl, e6, hle⟩
                          have E6 := E5.trans e6
                          have dle : Dt H6 (.ref le) (.list (ps ++ [.str ("chest" : Str)])) := .lst hle ((hpd.ex E6).append (.cons (.str _) .nil))
                          refine wCut (fun σ H' => ∃ v5 v6 v7, σ = [some (.ref a), some (.ref pp), some (.ref gg), some (.ref tt), some (.ref le), v5, v6, v7, none, none, none, none] ∧ Ex H6 H' ∧ gs.all fG = true) ?_ ?_
                          · have hga6 := E6 _ _ hga
                            walk_at "vv"
                            refine exSt (SqT.of hga6) ?_
                            refine for_tup (K := K) (xs := gxs) (fun i σ H2 => ∃ v5 v6 v7, σ = [some (.ref a), some (.ref pp), some (.ref gg), some (.ref tt), some (.ref le), v5, v6, v7, none, none, none, none] ∧ Ex H6 H2 ∧ ∀ j, j < i → ∀ d, gs[j]? = some d → fG d = true)
                              ⟨none, none, none, rfl, Ex.refl _, fun j hj => absurd hj (by omega)⟩ (fun i σ H2 _ ⟨_, _, _, _, e, _⟩ => SqT.of (e _ _ hga6)) ?_ ?_
                            · rintro i x σ H7 hx ⟨v5, v6, v7, rfl, e7, hall⟩
                              have E7 := E6.trans e7
                              obtain ⟨d, hdi, dx⟩ := hgd.nth hgb hx
                              have mem := List.mem_of_getElem? hdi
                              have hrl : gs.all rowL = true := by
                                unfold rowsL at hg1
                                rw [Bool.and_eq_true] at hg1
                                exact hg1.1
                              obtain ⟨y, z, am, rfl⟩ := rowL_rw (List.all_eq_true.mp hrl d mem)
                              obtain ⟨b, ys, rfl, hb, he, _, hbe⟩ := (dx.ex E7).tup
                              obtain ⟨x1, x2, x3, _, _, _, rfl, ee, q1, q2, q3⟩ := three_of he (by rw [he.length]; rfl)
                              cases ee
                              cases q1
                              cases q2
                              walk_at "vv"
                              refine wGTup (SqT.of hb) rfl ?_
                              walk_at "vv"
                              refine ⟨_, _, cmp_str y, .inr (dle.ex e7), strs_plain hch, ?_⟩
                              have hf : fG (.tuple [.str y, .str z, am]) = (endsD ps (.str y) && nameD (.str z)) := by rw [← hG]; rfl
                              have bad : fG (.tuple [.str y, .str z, am]) = false → gs.all fG = false := fun q => by
                                rw [List.all_eq_false]
                                exact ⟨_, mem, by rw [q]; decide⟩
                              rw [show ((ps ++ [PyData.str ("chest" : Str)]).any fun e => PyData.eqv e (.str y)) = endsD ps (.str y) from rfl]
                              cases hy : endsD ps (.str y) with
                              | false =>
                                rw [hy] at hf
                                rw [bad hf] at k
                                walk_at "vv"
                                exact k _ E7
                              | true =>
                                rw [hy] at hf
                                walk_at "vv"
                                refine ⟨_, rfl, (show Da M0 N0 H7 (.str z) (.str z) from ⟨.str z, bdA_iff.mp hbe (.str z) (by simp)⟩).thing (by decide), fun H9 e9 => ?_⟩
                                rw [show nameV (.str z) = nameD (.str z) from rfl]
                                cases hz : nameD (.str z) with
                                | false =>
                                  rw [hz] at hf
                                  rw [bad hf] at k
                                  walk_at "vv"
                                  exact k _ (E7.trans e9)
                                | true =>
                                  rw [hz] at hf
                                  walk_at "vv"
                                  refine ⟨_, _, _, rfl, e7.trans e9, fun j hj d' hd' => ?_⟩
                                  by_cases c : j < i
                                  · exact hall j c d' hd'
                                  · obtain rfl : j = i := by omega
                                    rw [hdi] at hd'
                                    cases hd'
                                    exact hf
                            · rintro σ H7 ⟨v5, v6, v7, rfl, e7, hall⟩
                              walk_at "vv"
                              refine ⟨_, _, _, rfl, e7, ?_⟩
                              rw [List.all_eq_true]
                              intro d hd'
                              obtain ⟨j, hj, rfl⟩ := List.getElem_of_mem hd'
                              exact hall j (by omega) _ (List.getElem?_eq_getElem hj)
                          · rintro σ H7 ⟨v5, v6, v7, rfl, e7, hgall⟩
                            rw [hgall] at k
                            have E7 := E6.trans e7
                            refine wCut (fun σ H' => ∃ v7 v8 v9, σ = [some (.ref a), some (.ref pp), some (.ref gg), some (.ref tt), some (.ref le), v5, v6, v7, v8, v9, none, none] ∧ Ex H7 H' ∧ ts.all fT = true) ?_ ?_
                            · have hta7 := E7 _ _ hta
                              walk_at "vv"
                              refine exSt (SqT.of hta7) ?_
                              refine for_tup (K := K) (xs := txs) (fun i σ H2 => ∃ v7 v8 v9, σ = [some (.ref a), some (.ref pp), some (.ref gg), some (.ref tt), some (.ref le), v5, v6, v7, v8, v9, none, none] ∧ Ex H7 H2 ∧ ∀ j, j < i → ∀ d, ts[j]? = some d → fT d = true)
                                ⟨_, none, none, rfl, Ex.refl _, fun j hj => absurd hj (by omega)⟩ (fun i σ H2 _ ⟨_, _, _, _, e, _⟩ => SqT.of (e _ _ hta7)) ?_ ?_
                              · rintro i x σ H8 hx ⟨v7, v8, v9, rfl, e8, hall⟩
                                have E8 := E7.trans e8
                                obtain ⟨d, hdi, dx⟩ := htd.nth htb hx
                                have mem := List.mem_of_getElem? hdi
                                have hrl : ts.all rowL = true := by
                                  unfold rowsL at ht1
                                  rw [Bool.and_eq_true] at ht1
                                  exact ht1.1
                                obtain ⟨y, z, am, rfl⟩ := rowL_rw (List.all_eq_true.mp hrl d mem)
                                obtain ⟨b, ys, rfl, hb, he, _, hbe⟩ := (dx.ex E8).tup
                                obtain ⟨x1, x2, x3, _, _, _, rfl, ee, q1, q2, q3⟩ := three_of he (by rw [he.length]; rfl)
                                cases ee
                                cases q1
                                cases q2
                                walk_at "vv"
                                refine wGTup (SqT.of hb) rfl ?_
                                walk_at "vv"
                                refine ⟨_, _, cmp_str y, .inl (h1.ex E8), strs_plain hst, ?_⟩
                                have hf : fT (.tuple [.str y, .str z, am]) = ((ps.any fun e => PyData.eqv e (.str y)) && endsD ps (.str z) && !PyData.eqv (.str y) (.str z)) := by rw [← hT]; rfl
                                have bad : fT (.tuple [.str y, .str z, am]) = false → ts.all fT = false := fun q => by
                                  rw [List.all_eq_false]
                                  exact ⟨_, mem, by rw [q]; decide⟩
                                cases hy : (ps.any fun e => PyData.eqv e (.str y)) with
                                | false =>
                                  rw [hy] at hf
                                  rw [bad hf] at k
                                  walk_at "vv"
                                  exact k _ E8
                                | true =>
                                  rw [hy] at hf
                                  walk_at "vv"
                                  refine ⟨_, _, cmp_str z, .inr (dle.ex (e7.trans e8)), strs_plain hch, ?_⟩
                                  rw [show ((ps ++ [PyData.str ("chest" : Str)]).any fun e => PyData.eqv e (.str z)) = endsD ps (.str z) from rfl]
                                  cases hz : endsD ps (.str z) with
                                  | false =>
                                    rw [hz] at hf
                                    rw [bad hf] at k
                                    walk_at "vv"
                                    exact k _ E8
                                  | true =>
                                    rw [hz] at hf
                                    walk_at "vv"
                                    refine ⟨_, _, cmp_str y, cmp_str z, ?_⟩
                                    show _
                                    cases hq : PyData.eqv (.str y) (.str z) with
                                    | true =>
                                      rw [hq] at hf
                                      rw [bad hf] at k
                                      walk_at "vv"
                                      exact k _ E8
                                    | false =>
                                      rw [hq] at hf
                                      walk_at "vv"
                                      refine ⟨_, _, _, rfl, e8, fun j hj d' hd' => ?_⟩
                                      by_cases c : j < i
                                      · exact hall j c d' hd'
                                      · obtain rfl : j = i := by omega
                                        rw [hdi] at hd'
                                        cases hd'
                                        exact hf
                              · rintro σ H8 ⟨v7, v8, v9, rfl, e8, hall⟩
                                walk_at "vv"
                                refine ⟨_, _, _, rfl, e8, ?_⟩
                                rw [List.all_eq_true]
                                intro d hd'
                                obtain ⟨j, hj, rfl⟩ := List.getElem_of_mem hd'
                                exact hall j (by omega) _ (List.getElem?_eq_getElem hj)
                            · rintro σ H8 ⟨v7, v8, v9, rfl, e8, htall⟩
                              rw [htall] at k
                              have E8 := E7.trans e8
                              have hga8 := E8 _ _ hga
                              have hrl : gs.all rowL = true := by
                                unfold rowsL at hg1
                                rw [Bool.and_eq_true] at hg1
                                exact hg1.1
                              walk_at "vv"
                              refine exSt (SqT.of hga8) ?_
                              intro D hD
                              refine lcTup (K := K) (fun H' => Ex H8 H') (fun i v _ => ∃ r, gs[i]? = some r ∧ v = .str (rowS r)) (fun _ => rfl) (Ex.new hD) (fun H' e => SqT.of (e _ _ hga8)) (fun i x hx H' acc e hD' hla hR => ?_) (fun H' ws e hD' hla hR => ?_)
                              · obtain ⟨d, hdi, dx⟩ := hgd.nth hgb hx
                                obtain ⟨y, z, am, rfl⟩ := rowL_rw (List.all_eq_true.mp hrl d (List.mem_of_getElem? hdi))
                                obtain ⟨b, ys, rfl, hb, he, _, hbe⟩ := (dx.ex (E8.trans e)).tup
                                obtain ⟨x1, x2, x3, _, _, _, rfl, ee, q1, q2, q3⟩ := three_of he (by rw [he.length]; rfl)
                                cases ee
                                cases q1
                                cases q2
                                have il : i < gxs.length := (List.getElem?_eq_some_iff.mp hx).1
                                walk_at "vv"
                                refine lcAdd hD' hla (by omega) (e.mut hD) hR ⟨_, hdi, rfl⟩
                              · have ew : ws = (lotsD gs).map V.str := by
                                  refine List.ext_getElem? fun j => ?_
                                  rw [List.getElem?_map]
                                  unfold lotsD
                                  rw [List.getElem?_map]
                                  cases q : ws[j]? with
                                  | none =>
                                    have := List.getElem?_eq_none_iff.mp q
                                    rw [List.getElem?_eq_none (by omega)]
                                    rfl
                                  | some w =>
                                    obtain ⟨r, hr', rfl⟩ := hR j w q
                                    rw [hr']
                                    rfl
                                subst ew
                                walk_at "vv"
                                refine ⟨D, _, rfl, SqL.of hD', by unfold lotsD; rw [List.length_map]; omega, ?_⟩
                                walk_at "vv"
                                rw [show decide (((SetX.dst (lotsD gs)).length : Int) < 9) = decide ((SetX.dst (lotsD gs)).length < 9) from by
                                  rw [Bool.eq_iff_iff, decide_eq_true_eq, decide_eq_true_eq]
                                  omega]
                                exact k _ (E8.trans e)
            · rw [decide_eq_false c8] at k
              rw [decide_eq_true (show (8 : Int) < ((pxs.length : Nat) : Int) by omega)]
              walk_at "vv"
              exact k _ e1
      · rw [wl_len (by omega)] at k
        rw [show (!decide (V.int ((xs.length : Nat) : Int) = V.int 3)) = true from by
          rw [decide_eq_false fun e => hl3 (by have := V.int.inj e; omega)]
          rfl]
        walk_at "vv"
        exact k _ (Ex.refl _)
theorem cut_pre {z : Str} {n : Nat} (h : n ≤ z.length) : (cutS z none (some (n : Int))).cps.toList = z.cps.toList.take n := by
  unfold cutS
  rw [HT.sIx_none, HT.sIx_nat, Nat.min_eq_left h, List.drop_zero, Nat.sub_zero]
theorem at_nat {α : Type} {xs : List α} {j : Nat} {v : α} (h : xs[j]? = some v) : atI xs (j : Int) = some v := atI_nat h
/-- small letters, one to eight -/
structure Lw (z : Str) : Prop where
  sm : ∀ c ∈ z.cps.toList, 97 ≤ c ∧ c ≤ 122
  l : 1 ≤ z.length ∧ z.length ≤ 8
theorem lw_of {z : Str} (h : (decide (1 ≤ z.length) && decide (z.length ≤ 8) && z.cps.toList.all fun c => decide (97 ≤ c ∧ c ≤ 122)) = true) : Lw z := by
  rw [Bool.and_eq_true, Bool.and_eq_true] at h
  exact ⟨fun c hc => of_decide_eq_true (List.all_eq_true.mp h.2 c hc), of_decide_eq_true h.1.1, of_decide_eq_true h.1.2⟩
theorem lw_name {z : Str} (h : nameV (.str z) = true) : Lw z := by
  have h : nameS z = true := h
  unfold nameS at h
  rw [Bool.and_eq_true, Bool.and_eq_true] at h
  exact lw_of (by rw [Bool.and_eq_true]; exact ⟨h.1.1, h.2⟩)
/-! ### names drawn -/
theorem dl_anti {d e : PyData} (h : PySem.W.dataLt d e = false) (h' : PySem.W.dataLt e d = false) : PySem.W.keyToks d = PySem.W.keyToks e := (PyProof.Rows.listOrd PyProof.Rows.itemOrd).total _ _ h h'
theorem toks_str {y z : Str} (h : PySem.W.keyToks (.str y) = PySem.W.keyToks (.str z)) : y = z := by
  simp only [PySem.W.keyToks] at h
  refine PySem.W.str_of_cps ?_
  simpa using h
theorem sort_strict {β : Type} (k : β → PyData) (bs : List β) (inj : ∀ a ∈ bs, ∀ b ∈ bs, PySem.W.keyToks (k a) = PySem.W.keyToks (k b) → a = b) (nd : bs.Nodup) : (bs.mergeSort (PySem.W.dataLe false k)).Pairwise fun a b => PySem.W.dataLt (k a) (k b) = true := by
  have p := PySem.W.sort_pairwise (PySem.W.sortLe_total (PyProof.Rows.listOrd PyProof.Rows.itemOrd) false (fun b => PySem.W.keyToks (k b))) bs
  have perm := List.mergeSort_perm bs (PySem.W.dataLe false k)
  have nd' := perm.nodup_iff.mpr nd
  refine List.Pairwise.imp_of_mem (fun {a b} ha hb h => ?_) (List.Pairwise.and p nd')
  obtain ⟨h1, h2⟩ := h
  have h1 : (!PySem.W.dataLt (k b) (k a)) = true := h1
  rw [Bool.not_eq_true'] at h1
  cases q : PySem.W.dataLt (k a) (k b) with
  | true => rfl
  | false => exact absurd (inj a (perm.mem_iff.mp ha) b (perm.mem_iff.mp hb) (dl_anti q h1)) h2
def ltS (a b : Str) : Prop := PySem.W.dataLt (.str a) (.str b) = true
def srtS (zs : List Str) : List Str := zs.mergeSort (PySem.W.dataLe false PyData.str)
theorem srtS_perm (zs : List Str) : (srtS zs).Perm zs := List.mergeSort_perm _ _
theorem srtS_strict {zs : List Str} (nd : zs.Nodup) : (srtS zs).Pairwise ltS := sort_strict PyData.str zs (fun _ _ _ _ h => toks_str h) nd
/-- sorted of texts -/
theorem wSortS {K : PySem.W.Frag} {H : Hp} {Q : VK} {a : Addr} {zs : List Str} (h : SqL K H a (zs.map V.str)) (k : Al Q (.lst ((srtS zs).map V.str)) H) : rSortedD K [.ref a] H Q := by
  have e1 : ((zs.map fun z => (V.str z, PyData.str z)).map (·.1)) = zs.map V.str := by rw [List.map_map]; rfl
  refine ⟨a, zs.map fun z => (V.str z, PyData.str z), rfl, by rw [e1]; exact h, ?_, ?_, ?_, ?_⟩
  · intro b hb
    obtain ⟨z, _, rfl⟩ := List.mem_map.mp hb
    exact ⟨.str z, by simp [PyData.depth]⟩
  · rw [List.map_map]
    exact PySem.W.AllAlike.of fun _ _ => by simp [PySem.W.alike]
  · rw [List.map_map]
    exact PySem.W.Sortable.others fun _ => ⟨fun q => (by cases q), fun _ q => (by cases q)⟩
  · rw [← PySem.W.sort_maps (r := PySem.W.dataLe false PyData.str) (fun z : Str => (V.str z, PyData.str z)) (fun _ _ _ _ => rfl), List.map_map]
    exact k
/-- names, rising -/
structure Nam (zs : List Str) : Prop where
  nm : ∀ z ∈ zs, nameS z = true
  st : zs.Pairwise ltS
theorem ltS_irr (z : Str) : ¬ ltS z z := fun h => by
  unfold ltS at h
  rw [PySem.W.dataLt_self] at h
  cases h
theorem Nam.nd {zs : List Str} (h : Nam zs) : zs.Nodup := h.st.imp fun {a b} l e => by
  subst e
  exact ltS_irr _ l
theorem Nam.srt {zs : List Str} (nm : ∀ z ∈ zs, nameS z = true) (nd : zs.Nodup) : Nam (srtS zs) := ⟨fun z hz => nm z ((srtS_perm zs).mem_iff.mp hz), srtS_strict nd⟩
theorem nodup_map_range {f : Nat → V} {m : Nat} (h : ∀ i j, i < j → j < m → f i ≠ f j) : ((List.range m).map f).Nodup := by
  rw [List.Nodup, List.pairwise_map]
  exact List.Pairwise.imp_of_mem (fun {a b} _ hb lt => h a b lt (List.mem_range.mp hb)) List.pairwise_lt_range
theorem cut_suf {z : Str} {n : Nat} (h : n ≤ z.length) : (cutS z (some (n : Int)) none).cps.toList = z.cps.toList.drop n := by
  unfold cutS
  rw [HT.sIx_none, HT.sIx_nat, Nat.min_eq_left h]
  show ((z.cps.toList.drop n).take (z.length - n)) = _
  refine List.take_of_length_le ?_
  rw [List.length_drop, Array.length_toList]
  exact Nat.le_refl _
def mkN (st : Str) (put : Int) (c : Nat) : Str := cutS st none (some put) ++ ⟨#[c]⟩ ++ cutS st (some put) none
theorem mkN_cps {st : Str} {put : Int} {c : Nat} (h0 : 0 ≤ put) (h1 : put ≤ st.length) : (mkN st put c).cps.toList = st.cps.toList.take put.toNat ++ [c] ++ st.cps.toList.drop put.toNat := by
  obtain ⟨n, rfl⟩ : ∃ n : Nat, put = (n : Int) := ⟨put.toNat, by omega⟩
  have hn : n ≤ st.length := by omega
  show (((cutS st none (some (n : Int))).cps ++ #[c]) ++ (cutS st (some (n : Int)) none).cps).toList = _
  rw [Array.toList_append, Array.toList_append, cut_pre hn, cut_suf hn]
  rfl
theorem mkN_len {st : Str} {put : Int} {c : Nat} (h0 : 0 ≤ put) (h1 : put ≤ st.length) : (mkN st put c).length = st.length + 1 := by
  show (mkN st put c).cps.size = _
  rw [← Array.length_toList, mkN_cps h0 h1, List.length_append, List.length_append, List.length_take, List.length_drop, Array.length_toList]
  show min put.toNat st.length + 1 + (st.length - put.toNat) = _
  omega
theorem mkN_inj {st : Str} {put : Int} {c d : Nat} (h0 : 0 ≤ put) (h1 : put ≤ st.length) (h : mkN st put c = mkN st put d) : c = d := by
  have e : (mkN st put c).cps.toList = (mkN st put d).cps.toList := congrArg (fun z : Str => z.cps.toList) h
  rw [mkN_cps h0 h1, mkN_cps h0 h1, List.append_assoc, List.append_assoc] at e
  exact (List.cons.inj (List.append_cancel_left e)).1
theorem mkN_lw {st : Str} {put : Int} {c : Nat} (h0 : 0 ≤ put) (h1 : put ≤ st.length) (hs : ∀ c ∈ st.cps.toList, 97 ≤ c ∧ c ≤ 122) (l7 : st.length ≤ 7) (hc : 97 ≤ c ∧ c ≤ 122) : Lw (mkN st put c) := by
  refine ⟨fun x hx => ?_, by rw [mkN_len h0 h1]; omega⟩
  rw [mkN_cps h0 h1] at hx
  rcases List.mem_append.mp hx with hx | hx
  · rcases List.mem_append.mp hx with hx | hx
    · exact hs x (List.mem_of_mem_take hx)
    · rw [List.mem_singleton.mp hx]
      exact hc
  · exact hs x (List.mem_of_mem_drop hx)
def fixN (z : Str) : Str := z ++ (if decide (V.str z = V.str "chest") = true then ("y" : Str) else ⟨#[]⟩)
theorem app_nil (z : Str) : z ++ (⟨#[]⟩ : Str) = z := by
  cases z with
  | mk c =>
    show (⟨c ++ #[]⟩ : Str) = _
    rw [Array.append_empty]
theorem fixN_of {z : Str} (h : z = "chest") : fixN z = "chesty" := by
  subst h
  decide +kernel
theorem fixN_not {z : Str} (h : z ≠ "chest") : fixN z = z := by
  unfold fixN
  rw [decide_eq_false fun e => h (V.str.inj e)]
  exact app_nil z
theorem fixN_name {z : Str} (h : Lw z) : nameV (.str (fixN z)) = true := by
  by_cases c : z = "chest"
  · rw [fixN_of c]
    decide +kernel
  · rw [fixN_not c]
    rw [name_all h.l.1 h.l.2 (by rw [decide_eq_false fun e => c (V.str.inj e)]; exact Bool.false_ne_true)]
    exact List.all_eq_true.mpr fun x hx => decide_eq_true (h.sm x hx)
theorem fixN_inj {y z : Str} (l : y.length = z.length) (h : fixN y = fixN z) : y = z := by
  have cl : ("chest" : Str).length = 5 := by decide +kernel
  have cl6 : ("chesty" : Str).length = 6 := by decide +kernel
  by_cases cy : y = "chest"
  · by_cases cz : z = "chest"
    · rw [cy, cz]
    · rw [fixN_of cy, fixN_not cz] at h
      rw [cy, cl, ← h, cl6] at l
      cases l
  · by_cases cz : z = "chest"
    · rw [fixN_not cy, fixN_of cz] at h
      rw [cz, cl, h, cl6] at l
      cases l
    · rwa [fixN_not cy, fixN_not cz] at h
def words12 : List Str := ["come", "bring", "give", "hand", "forget", "go", "person", "has", "thanks", "none", "now", "so"]
theorem words12_nodup : words12.Nodup := by decide +kernel
theorem words12_name : ∀ z ∈ words12, nameV (.str z) = true := by decide +kernel
/-- the k-th word -/
def wordK (at_ st : Int) (k : Nat) : Str := (words12[((at_ + st * (k : Int)) % 12).toNat]?).getD ""
def letK (f st : Int) (k : Nat) : Nat := 97 + ((f + st * (k : Int)) % 26).toNat
inductive Step : Int → Prop
  | a : Step 1
  | b : Step 5
  | c : Step 7
  | d : Step 11
theorem wordK_at (at_ : Int) {st : Int} (k : Nat) : words12[((at_ + st * (k : Int)) % 12).toNat]? = some (wordK at_ st k) := by
  unfold wordK
  have h : ((at_ + st * (k : Int)) % 12).toNat < words12.length := by
    show _ < 12
    omega
  rw [List.getElem?_eq_getElem h]
  rfl
theorem wordK_inj {at_ st : Int} (s : Step st) {i j : Nat} (hi : i < 8) (hj : j < 8) (h : wordK at_ st i = wordK at_ st j) : i = j := by
  have e := (wordK_at at_ i).trans ((congrArg some h).trans (wordK_at (st := st) at_ j).symm)
  have hl : ((at_ + st * (i : Int)) % 12).toNat < words12.length := by
    show _ < 12
    omega
  have q := (List.getElem?_inj hl words12_nodup).mp e
  cases s <;> omega
theorem letK_inj {f st : Int} (s : Step st) {i j : Nat} (hi : i < 8) (hj : j < 8) (h : letK f st i = letK f st j) : i = j := by
  unfold letK at h
  cases s <;> omega
theorem nms_words {at_ st : Int} (s : Step st) {m : Nat} (m1 : m ≤ 8) : Nam (srtS ((List.range m).map fun k => wordK at_ st k)) := by
  refine Nam.srt (fun y hy => ?_) ?_
  · obtain ⟨k, _, rfl⟩ := List.mem_map.mp hy
    exact words12_name _ (List.mem_of_getElem? (wordK_at at_ k))
  · rw [List.Nodup, List.pairwise_map]
    exact List.Pairwise.imp_of_mem (fun {a b} ha hb lt e => by
      have := wordK_inj s (by have := List.mem_range.mp ha; omega) (by have := List.mem_range.mp hb; omega) e
      omega) List.pairwise_lt_range
theorem nms_names {st : Str} {put f sp : Int} (s : Step sp) (h0 : 0 ≤ put) (h1 : put ≤ st.length) (hs : ∀ c ∈ st.cps.toList, 97 ≤ c ∧ c ≤ 122) (l7 : st.length ≤ 7) {m : Nat} (m1 : m ≤ 8) : Nam (srtS ((List.range m).map fun k => fixN (mkN st put (letK f sp k)))) := by
  refine Nam.srt (fun y hy => ?_) ?_
  · obtain ⟨k, _, rfl⟩ := List.mem_map.mp hy
    exact fixN_name (mkN_lw h0 h1 hs l7 (by unfold letK; omega))
  · rw [List.Nodup, List.pairwise_map]
    exact List.Pairwise.imp_of_mem (fun {a b} ha hb lt e => by
      have e1 := fixN_inj (by rw [mkN_len h0 h1, mkN_len h0 h1]) e
      have := letK_inj s (by have := List.mem_range.mp ha; omega) (by have := List.mem_range.mp hb; omega) (mkN_inj h0 h1 e1)
      omega) List.pairwise_lt_range
theorem let26 (k : Nat) (h : k < 26) : (("abcdefghijklmnopqrstuvwxyz" : Str)).cps.toList[k]? = some (97 + k) := by
  have e : (("abcdefghijklmnopqrstuvwxyz" : Str)).cps.toList = (List.range 26).map (97 + ·) := by decide +kernel
  rw [e, List.getElem?_map, List.getElem?_range h]
  rfl
def spNames : Sp := fun vs H Q _ => ∃ (p : Addr) (m : Nat), vs = [.ref p, .int (m : Int)] ∧ Pool H p ∧ m ≤ 8 ∧ ∀ l zs H', Kp p H H' → Pool H' p → H l = none → H' l = some (.lst (zs.map V.str)) → Nam zs → zs.length = m → Q (.ref l) H'
theorem ok_Lnames (T : Tx K mg A) : FnOk P w K mg base CX0 2 A.f_Lnames A.d_Lnames ["_law_pool_here", "_law_many"] spNames := by
  refine T.F_Lnames.ok sc_Lnames (fun vs H Q E h => ?_) (fun cdv A' outer s H vs Q E hr h => ?_)
  · obtain ⟨p, m, rfl, _⟩ := h
    rfl
  · obtain ⟨p, m, rfl, hP, m1, k⟩ := h
    have fin : ∀ (zs : List Str) (l : Addr) (H9 : Hp), SqL K H9 l (zs.map V.str) → Nam (srtS zs) → zs.length = m → Kp p H H9 → Pool H9 p → rSortedD K [.ref l] H9 Q := fun zs l H9 hl nm len kp hp =>
      wSortS hl fun t ht => k t (srtS zs) _ (kp.trans (Kp.new ht)) (hp.upd (hp.ne ht)) (kp.free (hp.ne ht) ht) upd_same nm (by rw [(srtS_perm zs).length_eq]; exact len)
    refine ⟨_, (pss_cons (ps_set (i := 2) sc_Lnames.nd rfl (Or.inr rfl) (pe_lst (pa_cons pe_str (pa_cons pe_str (pa_cons pe_str (pa_cons pe_str (pa_cons pe_str (pa_cons pe_str (pa_cons pe_str (pa_cons pe_str (pa_cons pe_str (pa_cons pe_str (pa_cons pe_str (pa_cons pe_str pa_nil))))))))))))))
    (pss_cons (ps_asg (pe_tup (pa_cons (pe_call (ok_Ltake T) (hr.mono (by decide)) (by rfl) T.g_Ltake T.F_Ltake.kp T.b_Ltake .nil pass0 (pa_cons (pv 0) (pa_cons pe_int pa_nil))) (pa_cons (pe_ix (ix_listV (K := K) rfl) (pe_lst (pa_cons pe_int (pa_cons pe_int (pa_cons pe_int (pa_cons pe_int pa_nil))))) (pe_call (ok_Ltake T) (hr.mono (by decide)) (by rfl) T.g_Ltake T.F_Ltake.kp T.b_Ltake .nil pass0 (pa_cons (pv 0) (pa_cons pe_int pa_nil))) (fun _ _ => rfl)) pa_nil))) (pg_tupV (K := K) (n := 2) rfl rfl (pgs_cons (pg_name (i := 3) sc_Lnames.nd rfl (Or.inr rfl)) (pgs_cons (pg_name (i := 4) sc_Lnames.nd rfl (Or.inr rfl)) pgs_nil)) rfl))
    (pss_cons (ps_if (pt_cmpR op_eq (pe_call (ok_Ltake T) (hr.mono (by decide)) (by rfl) T.g_Ltake T.F_Ltake.kp T.b_Ltake .nil pass0 (pa_cons (pv 0) (pa_cons pe_int pa_nil))) pe_int (nomark _))
    (pss_one (ps_ret (pe_callB (cr_sortedD (K := K) rfl hr.units) (by rfl) T.m_sorted (by decide +kernel) (pa_cons (pe_lc rfl sc_Lnames.nd (g := gName 10) (pi_range1 (by rfl) T.m_range (pa_cons (pv 1) pa_nil)) (blkOk_by (own := [("_law_k", 10)]) (N := ["_law_pool_here", "_law_many", "_law_words", "_law_at", "_law_step", "_law_letters", "_law_stem", "_law_put", "_law_first", "_law_some", "_law_k", "_law_one"]) (sc := defScope s_Lnames) (by decide +kernel)) (fun _ _ _ _ _ => (pg_name (i := 10) sc_Lnames.nd rfl (Or.inl rfl))) (fun _ _ _ _ _ => pts_nil) (fun _ _ _ _ _ => (pe_ix (ix_listV (K := K) rfl) (pv 2) (pe_op op_mod (pe_op op_add (pv 3) (pe_op op_mul (pv 4) (pv 10))) pe_int) (fun _ _ => rfl)))) pa_nil))))
    pss_nil)
    (pss_cons (ps_set (i := 5) sc_Lnames.nd rfl (Or.inr rfl) pe_str)
    (pss_cons (ps_set (i := 6) sc_Lnames.nd rfl (Or.inr rfl) (pe_joinV (K := K) rfl pe_str (pe_lc rfl sc_Lnames.nd (g := gName 10) (pi_range1 (by rfl) T.m_range (pa_cons (pe_call (ok_Ltake T) (hr.mono (by decide)) (by rfl) T.g_Ltake T.F_Ltake.kp T.b_Ltake .nil pass0 (pa_cons (pv 0) (pa_cons pe_int pa_nil))) pa_nil)) (blkOk_by (own := [("_law_k", 10)]) (N := ["_law_pool_here", "_law_many", "_law_words", "_law_at", "_law_step", "_law_letters", "_law_stem", "_law_put", "_law_first", "_law_some", "_law_k", "_law_one"]) (sc := defScope s_Lnames) (by decide +kernel)) (fun _ _ _ _ _ => (pg_name (i := 10) sc_Lnames.nd rfl (Or.inl rfl))) (fun _ _ _ _ _ => pts_nil) (fun _ _ _ _ _ => (pe_ix ix_str (pv 5) (pe_call (ok_Ltake T) (hr.mono (by decide)) (by rfl) T.g_Ltake T.F_Ltake.kp T.b_Ltake .nil pass0 (pa_cons (pv 0) (pa_cons pe_int pa_nil))) (fun _ _ => rfl))))))
    (pss_cons (ps_asg (pe_tup (pa_cons (pe_call (ok_Ltake T) (hr.mono (by decide)) (by rfl) T.g_Ltake T.F_Ltake.kp T.b_Ltake .nil pass0 (pa_cons (pv 0) (pa_cons (pe_op op_add (pe_callB (call_lenV (K := K) rfl) (by rfl) T.m_len (by decide +kernel) (pa_cons (pv 6) pa_nil)) pe_int) pa_nil))) (pa_cons (pe_call (ok_Ltake T) (hr.mono (by decide)) (by rfl) T.g_Ltake T.F_Ltake.kp T.b_Ltake .nil pass0 (pa_cons (pv 0) (pa_cons pe_int pa_nil))) pa_nil))) (pg_tupV (K := K) (n := 2) rfl rfl (pgs_cons (pg_name (i := 7) sc_Lnames.nd rfl (Or.inr rfl)) (pgs_cons (pg_name (i := 8) sc_Lnames.nd rfl (Or.inr rfl)) pgs_nil)) rfl))
    (pss_cons (ps_setLc (i := 9) rfl sc_Lnames.nd rfl rfl (sw_true rfl rfl rfl (by decide +kernel)) (g := gName 10) (pi_range1 (by rfl) T.m_range (pa_cons (pv 1) pa_nil)) (blkOk_by (own := [("_law_k", 10)]) (N := ["_law_pool_here", "_law_many", "_law_words", "_law_at", "_law_step", "_law_letters", "_law_stem", "_law_put", "_law_first", "_law_some", "_law_k", "_law_one"]) (sc := defScope s_Lnames) (by decide +kernel)) (fun _ _ _ _ _ => (pg_name (i := 10) sc_Lnames.nd rfl (Or.inl rfl))) (fun _ _ _ _ _ => pts_nil) (fun _ _ _ _ _ => (pe_op op_add_str (pe_op op_add_str (pe_slice sl_str (pv 6) po_none (po_some (pv 7))) (pe_ix ix_str (pv 5) (pe_op op_mod (pe_op op_add (pv 8) (pe_op op_mul (pv 4) (pv 10))) pe_int) (fun _ _ => rfl))) (pe_slice sl_str (pv 6) (po_some (pv 7)) po_none))))
    (pss_one (ps_ret (pe_callB (cr_sortedD (K := K) rfl hr.units) (by rfl) T.m_sorted (by decide +kernel) (pa_cons (pe_lc rfl sc_Lnames.nd (g := gName 11) (pi_listV (K := K) rfl (pv 9)) (blkOk_by (own := [("_law_one", 11)]) (N := ["_law_pool_here", "_law_many", "_law_words", "_law_at", "_law_step", "_law_letters", "_law_stem", "_law_put", "_law_first", "_law_some", "_law_k", "_law_one"]) (sc := defScope s_Lnames) (by decide +kernel)) (fun _ _ _ _ _ => (pg_name (i := 11) sc_Lnames.nd rfl (Or.inl rfl))) (fun _ _ _ _ _ => pts_nil) (fun _ _ _ _ _ => (pe_op op_add_str (pv 11) (pe_op op_mulS01 pe_str (pe_callTy call_int1 (by rfl) T.m_int (by decide +kernel) (pa_cons (pe_cmpR op_eq (pv 11) pe_str (nomark _)) pa_nil)))))) pa_nil))))))))))), ?_⟩
    walk_at "vv"
    refine alI fun l1 H1 n1 e1 f1 => ?_
    have hP1 := hP.ex e1
    have m1p : l1 ≠ p := hP.ne n1
    walk_at "vv"
    refine ⟨p, 12, rfl, hP1, by omega, by omega, fun d H2 d0 d1 e2 hP2 => ?_⟩
    have K2 : Kp p H H2 := e1.kp.trans e2
    walk_at "vv"
    refine alI fun l3 H3 n3 e3 f3 => ?_
    have hP3 := hP2.ex e3
    have n3p : l3 ≠ p := hP2.ne n3
    walk_at "vv"
    refine ⟨p, 4, rfl, hP3, by omega, by omega, fun d4 H4o d40 d41 e4o hP4o => ?_⟩
    obtain ⟨sv, hsv, hsm⟩ := at_ex (xs := [V.int 1, V.int 5, V.int 7, V.int 11]) d40 (by show d4 < 4; omega)
    refine wIxL (SqL.of (e4o _ _ n3p f3)) hsv ?_
    obtain ⟨sp, rfl, hst⟩ : ∃ sp, sv = .int sp ∧ Step sp := by
      simp only [List.mem_cons, List.not_mem_nil, or_false] at hsm
      rcases hsm with rfl | rfl | rfl | rfl
      · exact ⟨_, rfl, .a⟩
      · exact ⟨_, rfl, .b⟩
      · exact ⟨_, rfl, .c⟩
      · exact ⟨_, rfl, .d⟩
    walk_at "vv"
    refine alI fun tq H4 nq e4q fq => ?_
    refine wGTup (SqT.of fq) rfl ?_
    have hP4 := hP4o.ex e4q
    have e4 := e4o.trans e4q.kp
    have K4 : Kp p H H4 := (K2.trans e3.kp).trans e4
    have f14 : H4 l1 = some (.lst (words12.map V.str)) := e4 _ _ m1p (e3 _ _ (e2 _ _ m1p f1))
    walk_at "vv"
    refine ⟨p, 4, rfl, hP4, by omega, by omega, fun d5 H5 d50 d51 e5 hP5 => ?_⟩
    have K5 : Kp p H H5 := K4.trans e5
    have f15 := e5 _ _ m1p f14
    walk_at "vv"
    refine ite2 (fun c => ?_) (fun c => ?_)
    · walk_at "vv"
      refine ⟨by omega, by omega, ?_⟩
      intro D hD
      have nDp : D ≠ p := hP5.ne hD
      refine lcRng (fun H' => Kp p H5 H' ∧ Pool H' p) (fun i y _ => y = .str (wordK d sp i)) (fun _ => rfl) ⟨Kp.new hD, hP5.upd nDp⟩ (fun i hi H6 acc hI hD6 hl hR => ?_) (fun H6 ys hI hD6 hl hR => ?_)
      · walk_at "vv"
        have ew : atI (words12.map V.str) ((d + sp * (0 + (i : Int))) % 12) = some (.str (wordK d sp i)) := by
          rw [Int.zero_add]
          refine at_of (j := ((d + sp * (i : Int)) % 12).toNat) (by omega) ?_
          rw [List.getElem?_map, wordK_at]
          rfl
        refine wIxL (SqL.of (hI.1 _ _ m1p f15)) ew ?_
        exact lcAdd hD6 hl (by omega) ⟨hI.1.mut hD, hI.2.upd nDp⟩ hR rfl
      · have ey : ys = ((List.range m).map fun k => wordK d sp k).map V.str := by
          refine List.ext_getElem? fun j => ?_
          rw [List.map_map, List.getElem?_map]
          by_cases h : j < m
          · rw [List.getElem?_range h]
            obtain ⟨y, hy⟩ : ∃ y, ys[j]? = some y := ⟨_, List.getElem?_eq_getElem (by omega)⟩
            rw [hy, hR j y hy]
            rfl
          · rw [List.getElem?_eq_none (by omega), List.getElem?_eq_none (by rw [List.length_range]; omega)]
            rfl
        rw [ey] at hD6
        exact fin _ _ _ (SqL.of hD6) (nms_words hst (by omega)) (by rw [List.length_map, List.length_range]) (K5.trans hI.1) hI.2
    · walk_at "vv"
      refine ⟨p, 8, rfl, hP5, by omega, by omega, fun d6 H6 d60 d61 e6 hP6 => ?_⟩
      walk_at "vv"
      refine ⟨by omega, by omega, ?_⟩
      intro D hD
      have nDp : D ≠ p := hP6.ne hD
      have e0 : (("" : Str)) = ⟨#[]⟩ := by decide +kernel
      have letL : (("abcdefghijklmnopqrstuvwxyz" : Str)).cps.toList.length = 26 := by decide +kernel
      have letS : (("abcdefghijklmnopqrstuvwxyz" : Str)).length ≤ sizeLine := by decide +kernel
      have K6 : Kp p H H6 := K5.trans e6
      refine lcRng (fun H' => Kp p H6 H' ∧ Pool H' p) (fun i y _ => ∃ c, (97 ≤ c ∧ c ≤ 122) ∧ y = .str ⟨#[c]⟩) (fun _ => rfl) ⟨Kp.new hD, hP6.upd nDp⟩ (fun i hi H7 acc hI hD7 hl hR => ?_) (fun H7 ys hI hD7 hl hR => ?_)
      · walk_at "vv"
        refine ⟨p, 26, rfl, hI.2, by omega, by omega, fun d8 H8 d80 d81 e8 hP8 => ?_⟩
        have ea : atI (Str.ofString "abcdefghijklmnopqrstuvwxyz").cps.toList d8 = some (97 + d8.toNat) := by
          have ej : d8 = ((d8.toNat : Nat) : Int) := by omega
          have el := let26 d8.toNat (by omega)
          exact (congrArg (atI _) ej).trans (at_nat el)
        refine wIxS letS ea ?_
        exact lcAdd (e8 _ _ nDp hD7) hl (by omega) ⟨(hI.1.trans e8).mut hD, hP8.upd nDp⟩ hR ⟨97 + d8.toNat, by omega, rfl⟩
      · obtain ⟨cs, c1, c2, rfl⟩ := join_ones (P := fun c => 97 ≤ c ∧ c ≤ 122) hR
        refine ⟨_, D, _, rfl, rfl, .inl (SqL.of hD7), ?_, ?_⟩
        · rw [ones_sum, e0]
          have : ((⟨#[]⟩ : Str)).length = 0 := rfl
          rw [this]
          omega
        have hj : (Txt.join ("" : Str) (cs.map fun c => (⟨#[c]⟩ : Str))).cps.toList = cs := by
          rw [e0, TL.join_eq]
          exact ones_cps cs
        generalize Txt.join ("" : Str) (cs.map fun c => (⟨#[c]⟩ : Str)) = st at hj ⊢
        have hsm : ∀ c ∈ st.cps.toList, 97 ≤ c ∧ c ≤ 122 := by rw [hj]; exact c2
        have hl7 : st.length ≤ 7 := by
          show st.cps.size ≤ 7
          rw [← Array.length_toList, hj]
          omega
        have K7 : Kp p H H7 := K6.trans hI.1
        walk_at "vv"
        refine wLenS (sz6 (by omega)) ?_
        walk_at "vv"
        refine ⟨p, (st.length : Int) + 1, rfl, hI.2, by omega, by omega, fun put H8 p0 p1 e8 hP8 => ?_⟩
        walk_at "vv"
        refine ⟨p, 26, rfl, hP8, by omega, by omega, fun f H9 f0 f1' e9 hP9 => ?_⟩
        walk_at "vv"
        refine alI fun tq2 H10 nq2 e10 fq2 => ?_
        refine wGTup (SqT.of fq2) rfl ?_
        have hP10 := hP9.ex e10
        have K10 : Kp p H H10 := ((K7.trans e8).trans e9).trans e10.kp
        walk_at "vv"
        refine ⟨by omega, by omega, ?_⟩
        intro D2 hD2
        have nDp2 : D2 ≠ p := hP10.ne hD2
        refine lcRng (fun H' => Kp p H10 H' ∧ Pool H' p) (fun i y _ => y = .str (mkN st put (letK f sp i))) (fun _ => rfl) ⟨Kp.new hD2, hP10.upd nDp2⟩ (fun i hi H11 acc hI hD11 hl hR => ?_) (fun H11 zs hI hD11 hl hR => ?_)
        · walk_at "vv"
          have ea : atI (Str.ofString "abcdefghijklmnopqrstuvwxyz").cps.toList ((f + sp * (0 + (i : Int))) % 26) = some (letK f sp i) := by
            rw [Int.zero_add]
            have ej : (f + sp * (i : Int)) % 26 = ((((f + sp * (i : Int)) % 26).toNat : Nat) : Int) := by omega
            have el := let26 ((f + sp * (i : Int)) % 26).toNat (by omega)
            exact (congrArg (atI _) ej).trans (at_nat el)
          refine wIxS letS ea ?_
          have q1 := cutS_length st none (some put)
          have q2 := cutS_length st (some put) none
          have q4 : ((⟨#[letK f sp i]⟩ : Str)).length = 1 := rfl
          walk_at "vv"
          exact lcAdd hD11 hl (by omega) ⟨hI.1.mut hD2, hI.2.upd nDp2⟩ hR rfl
        · have ey : zs = ((List.range m).map fun k => mkN st put (letK f sp k)).map V.str := by
            refine List.ext_getElem? fun j => ?_
            rw [List.map_map, List.getElem?_map]
            by_cases h : j < m
            · rw [List.getElem?_range h]
              obtain ⟨y, hy⟩ : ∃ y, zs[j]? = some y := ⟨_, List.getElem?_eq_getElem (by omega)⟩
              rw [hy, hR j y hy]
              rfl
            · rw [List.getElem?_eq_none (by omega), List.getElem?_eq_none (by rw [List.length_range]; omega)]
              rfl
          subst ey
          clear hR hl
          have hP11 := hI.2
          walk_at "vv"
          refine exSq (SqL.of hD11) ?_
          intro D3 hD3
          have nDp3 : D3 ≠ p := hP11.ne hD3
          refine lcList (K := K) (fun H' => Kp p H11 H' ∧ Pool H' p) (fun i y _ => ∃ z, ((List.range m).map fun k => mkN st put (letK f sp k))[i]? = some z ∧ y = .str (fixN z)) (fun _ => rfl) ⟨Kp.new hD3, hP11.upd nDp3⟩ (fun H' e => SqL.of (e.1 _ _ nDp2 hD11)) (fun i x hx H12 acc hI2 hD12 hl hR => ?_) (fun H12 zs hI2 hD12 hl hR => ?_)
          · rw [List.getElem?_map] at hx
            obtain ⟨z, hz, rfl⟩ := Option.map_eq_some_iff.mp hx
            have zl : z.length ≤ 8 := by
              obtain ⟨kk, _, rfl⟩ := List.mem_map.mp (List.mem_of_getElem? hz)
              rw [mkN_len p0 (by omega)]
              omega
            have il : i < m := by
              have := (List.getElem?_eq_some_iff.mp hz).1
              rw [List.length_map, List.length_range] at this
              exact this
            walk_at "vv"
            refine .inr ⟨_, rfl, _, _, rfl, rfl, ?_⟩
            have yl : (if decide (V.str z = V.str "chest") = true then ("y" : Str) else ⟨#[]⟩).length ≤ 1 := by
              split
              · decide +kernel
              · decide +kernel
            refine ⟨_, _, rfl, rfl, sz6 (by omega), ?_⟩
            exact lcAdd hD12 hl (by omega) ⟨hI2.1.mut hD3, hI2.2.upd nDp3⟩ hR ⟨z, hz, rfl⟩
          · have ez : zs = ((List.range m).map fun k => fixN (mkN st put (letK f sp k))).map V.str := by
              refine List.ext_getElem? fun j => ?_
              rw [List.map_map, List.getElem?_map]
              rw [List.length_map, List.length_map, List.length_range] at hl
              by_cases h : j < m
              · rw [List.getElem?_range h]
                obtain ⟨y, hy⟩ : ∃ y, zs[j]? = some y := ⟨_, List.getElem?_eq_getElem (by omega)⟩
                obtain ⟨z, hz, rfl⟩ := hR j y hy
                rw [List.getElem?_map, List.getElem?_range h] at hz
                cases hz
                rw [hy]
                rfl
              · rw [List.getElem?_eq_none (by omega), List.getElem?_eq_none (by rw [List.length_range]; omega)]
                rfl
            subst ez
            walk_at "vv"
            exact fin _ _ _ (SqL.of hD12) (nms_names hst p0 (by omega) hsm hl7 (by omega)) (by rw [List.length_map, List.length_range]) ((K10.trans hI.1).trans hI2.1) hI2.2
/-- a measure drawn: positive, in lowest terms -/
structure Ms (t q : Int) : Prop where
  t0 : 0 < t
  q0 : 0 < q
  g : t.gcd q = 1
  tb : t ≤ 9999
  qb : q ≤ 997
def AmtAt (H : Hp) (v : V) : Prop := ∃ (b : Addr) (t q : Int), v = .ref b ∧ H b = some (.tup [.int t, .int q]) ∧ Ms t q
theorem AmtAt.ex {H G : Hp} {v : V} (h : AmtAt H v) (e : Ex H G) : AmtAt G v := by
  obtain ⟨b, t, q, rfl, f, m⟩ := h
  exact ⟨b, t, q, rfl, e _ _ f, m⟩
theorem tup_ne {H : Hp} {b p : Addr} {xs : List V} (h : H b = some (.tup xs)) (hp : Pool H p) : b ≠ p := fun e => by
  obtain ⟨_, _, _, hp, _⟩ := hp
  rw [e, hp] at h
  cases h
theorem AmtAt.kp {H G : Hp} {p : Addr} {v : V} (h : AmtAt H v) (hp : Pool H p) (e : Kp p H G) : AmtAt G v := by
  obtain ⟨b, t, q, rfl, f, m⟩ := h
  exact ⟨b, t, q, rfl, e _ _ (tup_ne f hp) f, m⟩
theorem AmtAt.upd {H : Hp} {a : Addr} {v : V} {o : HO} (h : AmtAt H v) (n : ∀ xs, H a ≠ some (.tup xs)) : AmtAt (upd H a o) v := by
  obtain ⟨b, t, q, rfl, f, m⟩ := h
  exact ⟨b, t, q, rfl, (upd_ne fun e => n _ (e ▸ f)).trans f, m⟩
theorem low_ms {t b : Int} (t0 : 0 < t) (b0 : 0 < b) (tb : t ≤ 9999) (bb : b ≤ 997) : Ms (t.fdiv (t.gcd b : Nat)) (b.fdiv (t.gcd b : Nat)) := by
  obtain ⟨t', b', h1, h2, h3⟩ := Fr.split (t := t) (b := b) (by omega)
  have g0 : 0 < t.gcd b := Fr.gcd_pos (by omega)
  generalize t.gcd b = g at *
  have e1 : t.fdiv (g : Int) = t' := Int.fdiv_eq_of_eq_mul_right (by omega) h1
  have e2 : b.fdiv (g : Int) = b' := Int.fdiv_eq_of_eq_mul_right (by omega) h2
  rw [e1, e2]
  have pos : ∀ x y : Int, 0 < x → x = (g : Int) * y → 0 < y ∧ y ≤ x := fun x y hx e => by
    have y0 : 0 < y := by
      by_cases c : 0 < y
      · exact c
      · have := Int.mul_nonpos_of_nonneg_of_nonpos (show (0 : Int) ≤ (g : Int) by omega) (show y ≤ 0 by omega)
        omega
    have := Int.mul_le_mul_of_nonneg_right (show (1 : Int) ≤ (g : Int) by omega) (show 0 ≤ y by omega)
    exact ⟨y0, by omega⟩
  have p1 := pos _ _ t0 h1
  have p2 := pos _ _ b0 h2
  exact ⟨p1.1, p2.1, h3, by omega, by omega⟩
def spMeas : Sp := fun vs H Q _ => ∃ p : Addr, vs = [.ref p] ∧ Pool H p ∧ ∀ v H', Kp p H H' → Pool H' p → AmtAt H' v → Q v H'
theorem ok_Lmeasure (T : Tx K mg A) : FnOk P w K mg base CX0 2 A.f_Lmeasure A.d_Lmeasure ["_law_pool_here"] spMeas := by
  refine T.F_Lmeasure.ok sc_Lmeasure (fun vs H Q E h => ?_) (fun cdv A' outer s H vs Q E hr h => ?_)
  · obtain ⟨p, rfl, _⟩ := h
    rfl
  · obtain ⟨p, rfl, hP, k⟩ := h
    refine ⟨_, (pss_cons (ps_set (i := 1) sc_Lmeasure.nd rfl (Or.inl rfl) (pe_ix (ix_listV (K := K) rfl) (pe_lst (pa_cons pe_int (pa_cons pe_int (pa_cons pe_int (pa_cons pe_int (pa_cons pe_int (pa_cons (pe_op op_add pe_int (pe_call (ok_Ltake T) (hr.mono (by decide)) (by rfl) T.g_Ltake T.F_Ltake.kp T.b_Ltake .nil pass0 (pa_cons (pv 0) (pa_cons pe_int pa_nil)))) pa_nil))))))) (pe_call (ok_Ltake T) (hr.mono (by decide)) (by rfl) T.g_Ltake T.F_Ltake.kp T.b_Ltake .nil pass0 (pa_cons (pv 0) (pa_cons pe_int pa_nil))) (fun _ _ => rfl)))
    (pss_one (ps_ret (pe_call (ok_Llow T) (hr.mono (by decide)) (by rfl) T.g_Llow T.F_Llow.kp T.b_Llow .nil pass0 (pa_cons (pe_op op_add pe_int (pe_call (ok_Ltake T) (hr.mono (by decide)) (by rfl) T.g_Ltake T.F_Ltake.kp T.b_Ltake .nil pass0 (pa_cons (pv 0) (pa_cons (pe_ix (ix_listV (K := K) rfl) (pe_lst (pa_cons pe_int (pa_cons pe_int (pa_cons pe_int pa_nil)))) (pe_call (ok_Ltake T) (hr.mono (by decide)) (by rfl) T.g_Ltake T.F_Ltake.kp T.b_Ltake .nil pass0 (pa_cons (pv 0) (pa_cons pe_int pa_nil))) (fun _ _ => rfl)) pa_nil)))) (pa_cons (pv 1) pa_nil)))))), ?_⟩
    walk_at "vv"
    refine ⟨p, 997, rfl, hP, by omega, by omega, fun d1 H1 d10 d11 e1 hP1 => ?_⟩
    walk_at "vv"
    refine alI fun l2 H2 n2 e2 f2 => ?_
    have hP2 := hP1.ex e2
    have n2p := hP1.ne n2
    walk_at "vv"
    refine ⟨p, 6, rfl, hP2, by omega, by omega, fun d3 H3 d30 d31 e3 hP3 => ?_⟩
    obtain ⟨bv, hbv, hbm⟩ := at_ex (xs := [V.int 1, V.int 1, V.int 2, V.int 3, V.int 60, V.int (1 + d1)]) d30 (by show d3 < 6; omega)
    obtain ⟨b, rfl, b0, bb⟩ : ∃ b, bv = .int b ∧ 0 < b ∧ b ≤ 997 := by
      simp only [List.mem_cons, List.not_mem_nil, or_false] at hbm
      rcases hbm with rfl | rfl | rfl | rfl | rfl | rfl <;> exact ⟨_, rfl, by omega, by omega⟩
    refine wIxL (SqL.of (e3 _ _ n2p f2)) hbv ?_
    walk_at "vv"
    refine alI fun l4 H4 n4 e4 f4 => ?_
    have hP4 := hP3.ex e4
    have n4p := hP3.ne n4
    walk_at "vv"
    refine ⟨p, 3, rfl, hP4, by omega, by omega, fun d5 H5 d50 d51 e5 hP5 => ?_⟩
    obtain ⟨cv, hcv, hcm⟩ := at_ex (xs := [V.int 9, V.int 60, V.int 9999]) d50 (by show d5 < 3; omega)
    obtain ⟨c, rfl, c0, cb⟩ : ∃ c, cv = .int c ∧ 0 < c ∧ c ≤ 9999 := by
      simp only [List.mem_cons, List.not_mem_nil, or_false] at hcm
      rcases hcm with rfl | rfl | rfl <;> exact ⟨_, rfl, by omega, by omega⟩
    refine wIxL (SqL.of (e5 _ _ n4p f4)) hcv ?_
    walk_at "vv"
    refine ⟨p, c, rfl, hP5, by omega, by omega, fun d6 H6 d60 d61 e6 hP6 => ?_⟩
    walk_at "vv"
    have K6 : Kp p H H6 := (((e1.trans e2.kp).trans e3).trans e4.kp).trans (e5.trans e6)
    refine ⟨1 + d6, b, rfl, b0, ?_, fun q H7 n7 e7 f7 => ?_⟩
    · have : b.natAbs < 2 ^ 10 := by omega
      exact Nat.lt_of_lt_of_le this (Nat.pow_le_pow_right (by decide) (by decide))
    · exact k _ _ (K6.trans e7.kp) (hP6.ex e7) ⟨q, _, _, rfl, f7, low_ms (by omega) b0 (by omega) bb⟩
/-! ### tables of measures -/
structure Tks (g : List Key → Prop) (H : Hp) (a : Addr) (kvs : List (List Key × V)) (n : Nat) : Prop where
  at_ : H a = some (.dT kvs)
  len : kvs.length ≤ n
  nd : (kvs.map (·.1)).Nodup
  ok : ∀ q ∈ kvs, g q.1 ∧ AmtAt H q.2
section
variable {g : List Key → Prop} {H G : Hp} {a p : Addr} {kvs : List (List Key × V)} {n : Nat}
theorem Tks.new (h : H a = some (.dT [])) : Tks g H a [] 0 := ⟨h, Nat.le_refl _, List.nodup_nil, fun q hq => nomatch hq⟩
theorem Tks.le {m : Nat} (h : Tks g H a kvs n) (l : n ≤ m) : Tks g H a kvs m := ⟨h.at_, Nat.le_trans h.len l, h.nd, h.ok⟩
theorem Tks.ex (h : Tks g H a kvs n) (e : Ex H G) : Tks g G a kvs n := ⟨e _ _ h.at_, h.len, h.nd, fun q hq => ⟨(h.ok q hq).1, (h.ok q hq).2.ex e⟩⟩
theorem Tks.ne (h : Tks g H a kvs n) (hp : Pool H p) : a ≠ p := fun e => by
  obtain ⟨_, _, _, hp, _⟩ := hp
  have q := h.at_
  rw [e, hp] at q
  cases q
theorem Tks.kp (h : Tks g H a kvs n) (hp : Pool H p) (e : Kp p H G) : Tks g G a kvs n := ⟨e _ _ (h.ne hp) h.at_, h.len, h.nd, fun q hq => ⟨(h.ok q hq).1, (h.ok q hq).2.kp hp e⟩⟩
theorem Tks.nt (h : Tks g H a kvs n) : ∀ xs, H a ≠ some (.tup xs) := fun xs e => by
  have q := h.at_
  rw [e] at q
  cases q
theorem keys_put (k : List Key) (v : V) : ((putK kvs k v).map (·.1)) = kvs.map (·.1) ∨ (k ∉ kvs.map (·.1) ∧ (putK kvs k v).map (·.1) = kvs.map (·.1) ++ [k]) := by
  unfold putK
  by_cases c : k ∈ kvs.map (·.1)
  · refine .inl ?_
    rw [if_pos, List.map_map]
    · refine List.map_congr_left fun q _ => ?_
      show (if q.1 = k then (q.1, v) else q).1 = q.1
      split <;> rfl
    · obtain ⟨q, hq, e⟩ := List.mem_map.mp c
      exact List.any_eq_true.mpr ⟨q, hq, decide_eq_true e⟩
  · refine .inr ⟨c, ?_⟩
    rw [if_neg, List.map_append]
    · rfl
    · intro h
      obtain ⟨q, hq, e⟩ := List.any_eq_true.mp h
      exact c (List.mem_map.mpr ⟨q, hq, of_decide_eq_true e⟩)
theorem put_mem {k : List Key} {v : V} {q : List Key × V} (h : q ∈ putK kvs k v) : q ∈ kvs ∨ q = (k, v) := by
  unfold putK at h
  split at h
  · obtain ⟨q', hq, e⟩ := List.mem_map.mp h
    split at e
    · rename_i c
      rw [← e, c]
      exact .inr rfl
    · rw [← e]
      exact .inl hq
  · rcases List.mem_append.mp h with h | h
    · exact .inl h
    · exact .inr (List.mem_singleton.mp h)
theorem Tks.put (h : Tks g H a kvs n) {k : List Key} {v : V} (hk : g k) (hv : AmtAt H v) : Tks g (upd H a (.dT (putK kvs k v))) a (putK kvs k v) (n + 1) := by
  refine ⟨upd_same, Nat.le_trans (length_putK kvs k v) (by have := h.len; omega), ?_, fun q hq => ?_⟩
  · rcases keys_put (kvs := kvs) k v with e | ⟨c, e⟩
    · rw [e]
      exact h.nd
    · rw [e, List.nodup_append]
      exact ⟨h.nd, by simp, fun x hx y hy e => c (by rw [List.mem_singleton.mp hy] at e; rw [← e]; exact hx)⟩
  · rcases put_mem hq with hq | rfl
    · exact ⟨(h.ok q hq).1, (h.ok q hq).2.upd h.nt⟩
    · exact ⟨hk, hv.upd h.nt⟩
theorem Tks.drop (h : Tks g H a kvs n) (k : List Key) : Tks g (upd H a (.dT (dropK kvs k))) a (dropK kvs k) n := by
  refine ⟨upd_same, Nat.le_trans (dropK_le kvs k) h.len, ?_, fun q hq => ?_⟩
  · exact List.Sublist.nodup (List.Sublist.map _ List.filter_sublist) h.nd
  · have m : q ∈ kvs := (List.mem_filter.mp hq).1
    exact ⟨(h.ok q m).1, (h.ok q m).2.upd h.nt⟩
theorem val_some {k : List Key} (h : k ∈ kvs.map (·.1)) : ∃ v, valV kvs k = some v := by
  have e := valV_any k kvs
  obtain ⟨q, hq, e2⟩ := List.mem_map.mp h
  rw [List.any_eq_true.mpr ⟨q, hq, decide_eq_true e2⟩] at e
  exact Option.isSome_iff_exists.mp e.symm
theorem val_mem {k : List Key} {v : V} (h : valV kvs k = some v) : (k, v) ∈ kvs := by
  unfold valV at h
  obtain ⟨q, hq, rfl⟩ := Option.map_eq_some_iff.mp h
  have e : q.1 = k := by simpa using List.find?_some hq
  rw [← e]
  exact List.mem_of_find?_eq_some hq
end
/-- a thank's key -/
def gT (zs : List Str) (k : List Key) : Prop := ∃ y z : Str, k = [.inr y, .inr z] ∧ y ∈ zs ∧ (z ∈ zs ∨ z = "chest") ∧ y ≠ z
theorem nam_chest {zs : List Str} (h : Nam zs) : ("chest" : Str) ∉ zs := fun m => by
  have := h.nm _ m
  revert this
  decide +kernel
theorem str_at {zs : List Str} {i : Nat} (hi : i < zs.length) : atI (zs.map V.str) (i : Int) = some (.str zs[i]) := at_nat (by rw [List.getElem?_map, List.getElem?_eq_getElem hi]; rfl)
def spThanks : Sp := fun vs H Q _ => ∃ (p l : Addr) (zs : List Str), vs = [.ref p, .ref l] ∧ Pool H p ∧ l ≠ p ∧ H l = some (.lst (zs.map V.str)) ∧ Nam zs ∧ zs.length ≤ 8 ∧ ∀ a kvs H', Kp p H H' → Pool H' p → H a = none → Tks (gT zs) H' a kvs 81 → Q (.ref a) H'
theorem ok_Lthanks (T : Tx K mg A) : FnOk P w K mg base CX0 3 A.f_Lthanks A.d_Lthanks ["_law_pool_here", "_law_people"] spThanks := by
  refine T.F_Lthanks.ok sc_Lthanks (fun vs H Q E h => ?_) (fun cdv A' outer s H vs Q E hr h => ?_)
  · obtain ⟨p, l, zs, rfl, _⟩ := h
    rfl
  · obtain ⟨p, l, zs, rfl, hP, lp, hl, nam, n8, k⟩ := h
    refine ⟨_, (pss_cons (ps_par (i := 2) (j := 3) (by rfl) sc_Lthanks.nd rfl rfl (by decide) rfl rfl (pa_cons pe_dnewT (pa_cons (pe_call (ok_Ltake T) (hr.mono (by decide)) (by rfl) T.g_Ltake T.F_Ltake.kp T.b_Ltake .nil pass0 (pa_cons (pv 0) (pa_cons pe_int pa_nil))) pa_nil)) (by rfl))
    (pss_cons (ps_for PassesOwn.never rfl (pi_range1 (by rfl) T.m_range (pa_cons (pe_callB (call_lenV (K := K) rfl) (by rfl) T.m_len (by decide +kernel) (pa_cons (pv 1) pa_nil)) pa_nil)) (pg_name (i := 4) sc_Lthanks.nd rfl (Or.inl rfl))
    (pss_cons (ps_for PassesOwn.never rfl (pi_range1 (by rfl) T.m_range (pa_cons (pe_callB (call_lenV (K := K) rfl) (by rfl) T.m_len (by decide +kernel) (pa_cons (pv 1) pa_nil)) pa_nil)) (pg_name (i := 5) sc_Lthanks.nd rfl (Or.inl rfl))
      (pss_cons (ps_set (i := 6) sc_Lthanks.nd rfl (Or.inl rfl) (pe_cmpR op_eq (pe_op op_mod (pe_op op_add (pv 4) pe_int) (pe_callB (call_lenV (K := K) rfl) (by rfl) T.m_len (by decide +kernel) (pa_cons (pv 1) pa_nil))) (pv 5) (nomark _)))
        (pss_cons (ps_set (i := 7) sc_Lthanks.nd rfl (Or.inl rfl) (pe_ix (ix_listV (K := K) rfl) (pe_lst (pa_cons pe_int (pa_cons pe_int (pa_cons pe_int (pa_cons pe_int (pa_cons pe_int pa_nil)))))) (pv 3) (fun _ _ => rfl)))
        (pss_one (ps_if (PW.pt (pw_and (pt_cmpR op_ne (pv 5) (pv 4) (nomark _)) (pw_and1 (PW.pt (pw_or (pt_cmpR op_eq (pe_call (ok_Ltake T) (hr.mono (by decide)) (by rfl) T.g_Ltake T.F_Ltake.kp T.b_Ltake .nil pass0 (pa_cons (pv 0) (pa_cons (pv 7) pa_nil))) pe_int (nomark _)) (pw_or1 (PW.pt (pw_and (pt_cmpR op_eq (pv 3) pe_int (nomark _)) (pw_and1 (pt_val (pv 6)))))))))))
        (pss_one (ps_dput (hu_of hr) (pv 2) (pe_tup (pa_cons (pe_ix (ix_listV (K := K) rfl) (pv 1) (pv 4) (fun _ _ => rfl)) (pa_cons (pe_ix (ix_listV (K := K) rfl) (pv 1) (pv 5) (fun _ _ => rfl)) pa_nil))) (pe_call (ok_Lmeasure T) (hr.mono (by decide)) (by rfl) T.g_Lmeasure T.F_Lmeasure.kp T.b_Lmeasure .nil pass0 (pa_cons (pv 0) pa_nil)) rfl))
        pss_nil)))))
      (pss_one (ps_if (pt_cmpR op_eq (pe_call (ok_Ltake T) (hr.mono (by decide)) (by rfl) T.g_Ltake T.F_Ltake.kp T.b_Ltake .nil pass0 (pa_cons (pv 0) (pa_cons pe_int pa_nil))) pe_int (nomark _))
      (pss_one (ps_dput (hu_of hr) (pv 2) (pe_tup (pa_cons (pe_ix (ix_listV (K := K) rfl) (pv 1) (pv 4) (fun _ _ => rfl)) (pa_cons pe_str pa_nil))) (pe_call (ok_Lmeasure T) (hr.mono (by decide)) (by rfl) T.g_Lmeasure T.F_Lmeasure.kp T.b_Lmeasure .nil pass0 (pa_cons (pv 0) pa_nil)) rfl))
      pss_nil))))
    (pss_cons (ps_for PassesOwn.never rfl (pi_listV (K := K) rfl (pv 1)) (pg_name (i := 8) sc_Lthanks.nd rfl (Or.inr rfl))
    (pss_one (ps_if (pt_cmpR op_eq (pe_call (ok_Ltake T) (hr.mono (by decide)) (by rfl) T.g_Ltake T.F_Ltake.kp T.b_Ltake .nil pass0 (pa_cons (pv 0) (pa_cons pe_int pa_nil))) pe_int (nomark _))
      (pss_one (ps_for PassesOwn.never rfl (pi_listV (K := K) rfl (pe_lock (pe_lc rfl sc_Lthanks.nd (g := gName 9) (pi_keys (pv 2)) (blkOk_by (own := [("_law_pair", 9)]) (N := ["_law_pool_here", "_law_people", "_law_thanks_here", "_law_mode", "_law_k", "_law_j", "_law_near", "_law_odds", "_law_one", "_law_pair"]) (sc := defScope s_Lthanks) (by decide +kernel)) (fun _ _ _ _ _ => (pg_name (i := 9) sc_Lthanks.nd rfl (Or.inl rfl))) (fun _ _ _ _ _ => pts_one (pt_cmpR op_eq (pe_ix (ix_tupV (K := K) rfl) (pv 9) pe_int (fun _ _ => rfl)) (pv 8) (nomark _))) (fun _ _ _ _ _ => (pv 9))))) (pg_name (i := 9) sc_Lthanks.nd rfl (Or.inl rfl))
        (pss_one (ps_expr (pe_popT hr.units (pv 2) (pv 9) ⟨by rfl, by rfl, by rfl, by rfl⟩)))))
      pss_nil)))
    (pss_one (ps_ret (pv 2)))))), ?_⟩
    walk_at "vv"
    refine alI fun a H1 na e1 f1 => ?_
    have hP1 := hP.ex e1
    walk_at "vv"
    refine ⟨p, 5, rfl, hP1, by omega, by omega, fun md H2 md0 md1 e2 hP2 => ?_⟩
    have ap : a ≠ p := hP.ne na
    have K2 : Kp p H H2 := e1.kp.trans e2
    have t2 : Tks (gT zs) H2 a [] 0 := .new (e2 _ _ ap f1)
    have lz : (zs.map V.str).length = zs.length := List.length_map ..
    walk_at "vv"
    refine wLenL (SqL.of (K2 _ _ lp hl)) ?_
    walk_at "vv"
    refine ⟨by omega, by omega, ?_⟩
    rw [show (((zs.map V.str).length : Nat) : Int).toNat = zs.length by omega]
    refine for_range (lo := 0) (n := zs.length) (fun i σ H' => ∃ v4 v5 v6 v7 kvs, σ = [some (.ref p), some (.ref l), some (.ref a), some (.int md), v4, v5, v6, v7, none, none] ∧ Kp p H H' ∧ Pool H' p ∧ Tks (gT zs) H' a kvs (9 * i))
      ⟨none, none, none, none, [], rfl, K2, hP2, t2⟩ ?_ ?_
    · rintro i σ H3 hi ⟨v4, v5, v6, v7, kvs, rfl, K3, hP3, t3⟩
      walk_at "vv"
      refine wLenL (SqL.of (K3 _ _ lp hl)) ?_
      walk_at "vv"
      refine ⟨by omega, by omega, ?_⟩
      rw [show (((zs.map V.str).length : Nat) : Int).toNat = zs.length by omega]
      rw [show (0 : Int) + (i : Int) = (i : Int) by omega]
      refine for_range (lo := 0) (n := zs.length) (fun j σ H' => ∃ v5 v6 v7 kvs, σ = [some (.ref p), some (.ref l), some (.ref a), some (.int md), some (.int (i : Int)), v5, v6, v7, none, none] ∧ Kp p H H' ∧ Pool H' p ∧ Tks (gT zs) H' a kvs (9 * i + j))
        ⟨_, _, _, kvs, rfl, K3, hP3, t3⟩ ?_ ?_
      · rintro j σ H4 hj ⟨v5, v6, v7, kvs, rfl, K4, hP4, t4⟩
        rw [show (0 : Int) + (j : Int) = (j : Int) by omega]
        walk_at "vv"
        refine wLenL (SqL.of (K4 _ _ lp hl)) ?_
        walk_at "vv"
        refine alI fun lo H5 n5 e5 f5 => ?_
        have hP5 := hP4.ex e5
        have t5 := t4.ex e5
        have K5 := K4.trans e5.kp
        obtain ⟨ov, hov, hom⟩ := at_ex (xs := [V.int 4, V.int 2, V.int 12, V.int 3, V.int 1]) md0 (by show md < 5; omega)
        obtain ⟨od, rfl, od0, od1⟩ : ∃ b, ov = .int b ∧ 0 < b ∧ b ≤ 12 := by
          simp only [List.mem_cons, List.not_mem_nil, or_false] at hom
          rcases hom with rfl | rfl | rfl | rfl | rfl <;> exact ⟨_, rfl, by omega, by omega⟩
        walk_at "vv"
        refine wIxL (SqL.of f5) hov ?_
        walk_at "vv"
        refine ite2 (fun c => ?_) (fun c => ?_)
        · have ne : zs[i] ≠ zs[j] := fun e => by
            have q : zs[i]? = zs[j]? := by rw [List.getElem?_eq_getElem hi, List.getElem?_eq_getElem hj, e]
            have q := (List.getElem?_inj hi nam.nd).mp q
            rw [q] at c
            simp at c
          walk_at "vv"
          refine ⟨p, od, rfl, hP5, by omega, by omega, fun d6 H6o d60 d61 e6o hP6o => ?_⟩
          have t6o := t5.kp hP5 e6o
          have K6o := K5.trans e6o
          walk_at "vv"
          refine ite2 (fun c2 => ?_) (fun c2 => ?_)
          · walk_at "vv"
            refine ⟨p, rfl, hP6o, fun v H6 e6 hP6 am => ?_⟩
            have t6 := t6o.kp hP6o e6
            have K6 := K6o.trans e6
            walk_at "vv"
            refine wIxL (SqL.of (K6 _ _ lp hl)) (str_at hi) ?_
            walk_at "vv"
            refine wIxL (SqL.of (K6 _ _ lp hl)) (str_at hj) ?_
            walk_at "vv"
            refine alI fun b H7 n7 e7 f7 => ?_
            exact ⟨a, _, rfl, .t (k := [.inr zs[i], .inr zs[j]]) (t6.ex e7).at_ f7 (sz6' (by have := t6.len; omega)), _, _, _, _, rfl, (K6.trans e7.kp).mut na, (hP6.ex e7).upd ap, ((t6.ex e7).put ⟨_, _, rfl, List.getElem_mem _, .inl (List.getElem_mem _), ne⟩ (am.ex e7)).le (by omega)⟩
          · walk_at "vv"
            refine ite2 (fun c3 => ?_) (fun c3 => ?_)
            · walk_at "vv"
              refine ite2 (fun c4 => ?_) (fun c4 => ?_)
              · walk_at "vv"
                refine ⟨p, rfl, hP6o, fun v H6 e6 hP6 am => ?_⟩
                have t6 := t6o.kp hP6o e6
                have K6 := K6o.trans e6
                walk_at "vv"
                refine wIxL (SqL.of (K6 _ _ lp hl)) (str_at hi) ?_
                walk_at "vv"
                refine wIxL (SqL.of (K6 _ _ lp hl)) (str_at hj) ?_
                walk_at "vv"
                refine alI fun b H7 n7 e7 f7 => ?_
                exact ⟨a, _, rfl, .t (k := [.inr zs[i], .inr zs[j]]) (t6.ex e7).at_ f7 (sz6' (by have := t6.len; omega)), _, _, _, _, rfl, (K6.trans e7.kp).mut na, (hP6.ex e7).upd ap, ((t6.ex e7).put ⟨_, _, rfl, List.getElem_mem _, .inl (List.getElem_mem _), ne⟩ (am.ex e7)).le (by omega)⟩
              · walk_at "vv"
                exact ⟨_, _, _, kvs, rfl, K6o, hP6o, t6o.le (by omega)⟩
            · walk_at "vv"
              exact ⟨_, _, _, kvs, rfl, K6o, hP6o, t6o.le (by omega)⟩
        · walk_at "vv"
          exact ⟨_, _, _, kvs, rfl, K5, hP5, t5.le (by omega)⟩
      · rintro σ H4 ⟨v5, v6, v7, kvs, rfl, K4, hP4, t4⟩
        walk_at "vv"
        refine ⟨p, 5, rfl, hP4, by omega, by omega, fun d5 H5 d50 d51 e5 hP5 => ?_⟩
        have t5 := t4.kp hP4 e5
        have K5 := K4.trans e5
        walk_at "vv"
        refine ite2 (fun c => ?_) (fun c => ?_)
        · walk_at "vv"
          refine ⟨p, rfl, hP5, fun v H6 e6 hP6 am => ?_⟩
          have t6 := t5.kp hP5 e6
          have K6 := K5.trans e6
          walk_at "vv"
          refine wIxL (SqL.of (K6 _ _ lp hl)) (str_at hi) ?_
          walk_at "vv"
          refine alI fun b H7 n7 e7 f7 => ?_
          exact ⟨a, _, rfl, .t (k := [.inr zs[i], .inr "chest"]) (t6.ex e7).at_ f7 (sz6' (by have := t6.len; omega)), _, _, _, _, _, rfl, (K6.trans e7.kp).mut na, (hP6.ex e7).upd ap, ((t6.ex e7).put ⟨_, _, rfl, List.getElem_mem _, .inr rfl, fun e => nam_chest nam (e ▸ List.getElem_mem _)⟩ (am.ex e7)).le (by omega)⟩
        · walk_at "vv"
          exact ⟨_, _, _, _, kvs, rfl, K5, hP5, t5.le (by omega)⟩
    · rintro σ H3 ⟨v4, v5, v6, v7, kvs, rfl, K3, hP3, t3⟩
      walk_at "vv"
      refine exSq (SqL.of (K3 _ _ lp hl)) ?_
      refine for_list (K := K) (a := l) (xs := zs.map V.str) (fun i σ H' => ∃ v4 v5 v6 v7 v8 v9 kvs, σ = [some (.ref p), some (.ref l), some (.ref a), some (.int md), v4, v5, v6, v7, v8, v9] ∧ Kp p H H' ∧ Pool H' p ∧ Tks (gT zs) H' a kvs 81)
        ⟨_, _, _, _, _, _, kvs, rfl, K3, hP3, t3.le (by omega)⟩ (fun i σ H' _ ⟨_, _, _, _, _, _, _, _, kk, _⟩ => SqL.of (kk _ _ lp hl)) ?_ ?_
      · rintro i x σ H4 hx ⟨v4, v5, v6, v7, v8, v9, kvs, rfl, K4, hP4, t4⟩
        rw [List.getElem?_map] at hx
        obtain ⟨one, hone, rfl⟩ := Option.map_eq_some_iff.mp hx
        walk_at "vv"
        refine ⟨p, 6, rfl, hP4, by omega, by omega, fun d5 H5 d50 d51 e5 hP5 => ?_⟩
        have t5 := t4.kp hP4 e5
        have K5 := K4.trans e5
        walk_at "vv"
        refine ite2 (fun c => ?_) (fun c => ?_)
        · walk_at "vv"
          refine wLockE t5.at_ fun fo => ?_
          walk_at "vv"
          refine ⟨a, fo, rfl, .inr ⟨kvs, upd_same, fun D hD => ?_⟩⟩
          have Da : D ≠ a := fun e => by
            rw [e, upd_same] at hD
            cases hD
          have hD5 : H5 D = none := (upd_ne Da).symm.trans hD
          have nodup_t : ∀ i, i < kvs.length → ∀ k0 v0, kvs[i]? = some (k0, v0) → k0 ∉ (kvs.take i).map (·.1) := fun i hi k0 v0 e m => by
            rw [List.map_take] at m
            obtain ⟨j, hj, ej⟩ := List.getElem_of_mem m
            rw [List.length_take, List.length_map] at hj
            rw [List.getElem_take] at ej
            have q : (kvs.map (·.1))[i]? = (kvs.map (·.1))[j]? := by
              rw [List.getElem?_eq_getElem (show j < (kvs.map (·.1)).length by rw [List.length_map]; omega), ej, List.getElem?_map, e]
              rfl
            have := (List.getElem?_inj (by rw [List.length_map]; exact hi) t5.nd).mp q
            omega
          refine lc_it (walk_keysT (d := a) (o := fo) (kvs := kvs)) (fun i Hx => ∃ bs : List (Addr × List Key), Hx = upd (upd H5 a (.frz fo (.dT kvs))) D (.lst (bs.map fun b => V.ref b.1)) ∧ Places H5 bs ∧ (bs.map (·.2)).Nodup ∧ (∀ b ∈ bs, b.2 ∈ (kvs.take i).map (·.1)) ∧ bs.length ≤ i)
            ⟨[], rfl, (fun b hb => nomatch hb), List.nodup_nil, (fun b hb => nomatch hb), Nat.le_refl _⟩ (fun i Hx _ ⟨bs, e, _⟩ => by rw [e]; exact (upd_ne Da.symm).trans upd_same) ?_ ?_
          · rintro i x H7 H8 hi ⟨bs, rfl, pl, nd, sub, lb⟩ ⟨rfl, k0, v0, q, hk0, rfl, hq⟩
            obtain ⟨⟨y, z, rfl, hy, hz, yz⟩, _⟩ := t5.ok _ (List.mem_of_getElem? hk0)
            have hq7 : (upd (upd H5 a (.frz fo (.dT kvs))) D (.lst (bs.map fun b => V.ref b.1))) q = some (.tup [.str y, .str z]) := hq
            have qD : q ≠ D := fun e => by
              rw [e, upd_same] at hq7
              cases hq7
            have qa : q ≠ a := fun e => by
              rw [e, upd_ne Da.symm, upd_same] at hq7
              cases hq7
            have hq5 : H5 q = some (.tup [.str y, .str z]) := by
              rw [upd_ne qD, upd_ne qa] at hq7
              exact hq7
            have tk : (kvs.take (i + 1)).map (·.1) = (kvs.take i).map (·.1) ++ [[.inr y, .inr z]] := by
              rw [List.take_add_one, hk0, List.map_append]
              rfl
            walk_at "vv"
            refine ⟨rfl, ?_⟩
            walk_at "vv"
            refine ite2 (fun c => ?_) (fun c => ?_)
            · walk_at "vv"
              refine ⟨_, upd_same, sz6' (by rw [List.length_map]; have := t5.len; omega), bs ++ [(q, [.inr y, .inr z])], ?_, ?_, ?_, ?_, ?_⟩
              · rw [List.map_append]
                funext b
                by_cases e : b = D
                · rw [e, upd_same, upd_same]
                  rfl
                · rw [upd_ne e, upd_ne e, upd_ne e]
              · intro b hb
                rcases List.mem_append.mp hb with hb | hb
                · exact pl b hb
                · rw [List.mem_singleton.mp hb]
                  exact hq5
              · rw [List.map_append, List.nodup_append]
                refine ⟨nd, by simp, fun x hx w hw e => ?_⟩
                have hw : w = [.inr y, .inr z] := by simpa using hw
                subst hw
                subst e
                obtain ⟨b, hb, eb⟩ := List.mem_map.mp hx
                have := sub b hb
                rw [eb] at this
                exact nodup_t i hi _ _ hk0 this
              · intro b hb
                rw [tk]
                rcases List.mem_append.mp hb with hb | hb
                · exact List.mem_append_left _ (sub b hb)
                · rw [List.mem_singleton.mp hb]
                  exact List.mem_append_right _ (List.mem_singleton.mpr rfl)
              · rw [List.length_append]
                show bs.length + 1 ≤ _
                omega
            · refine ⟨bs, rfl, pl, nd, fun b hb => ?_, by omega⟩
              rw [tk]
              exact List.mem_append_left _ (sub b hb)
          · rintro H7 ⟨bs, rfl, pl, nd, sub, lb⟩
            have h7 : upd (upd (upd H5 a (.frz fo (.dT kvs))) D (.lst (bs.map fun b => V.ref b.1))) a (.dT kvs) = upd H5 D (.lst (bs.map fun b => V.ref b.1)) := by
              funext b
              by_cases e : b = a
              · rw [e, upd_same, upd_ne Da.symm]
                exact t5.at_.symm
              · rw [upd_ne e]
                by_cases e2 : b = D
                · rw [e2, upd_same, upd_same]
                · rw [upd_ne e2, upd_ne e2, upd_ne e]
            have e7 : Ex H5 (upd H5 D (.lst (bs.map fun b => V.ref b.1))) := Ex.new hD5
            have f7 : (upd H5 D (.lst (bs.map fun b => V.ref b.1))) D = some (.lst (bs.map fun b => V.ref b.1)) := upd_same
            refine ⟨(upd_ne Da.symm).trans upd_same, ?_⟩
            rw [h7]
            generalize upd H5 D (.lst (bs.map fun b => V.ref b.1)) = H7 at e7 f7 ⊢
            have t7 := t5.ex e7
            have K7 := K5.trans e7.kp
            have hP7 := hP5.ex e7
            have pl7 : Places H7 bs := fun b hb => e7 _ _ (pl b hb)
            rw [List.take_of_length_le (Nat.le_refl _)] at sub
            refine exSq (SqL.of f7) ?_
            refine for_list (K := K) (a := D) (xs := bs.map fun b => V.ref b.1) (fun i σ H' => ∃ v4 v5 v6 v7 v8 v9 kvs, σ = [some (.ref p), some (.ref l), some (.ref a), some (.int md), v4, v5, v6, v7, v8, v9] ∧ Kp p H H' ∧ Pool H' p ∧ Tks (gT zs) H' a kvs 81 ∧ H' D = some (.lst (bs.map fun b => V.ref b.1)) ∧ Places H' bs ∧ ∀ j b, i ≤ j → bs[j]? = some b → b.2 ∈ kvs.map (·.1))
              ⟨_, _, _, _, _, _, kvs, rfl, K7, hP7, t7, f7, pl7, fun j b _ e => sub b (List.mem_of_getElem? e)⟩ (fun i σ H' _ ⟨_, _, _, _, _, _, _, _, _, _, _, f, _⟩ => SqL.of f) ?_ ?_
            · rintro i x σ H8 hx ⟨v4, v5, v6, v7, v8, v9, kvs', rfl, K8, hP8, t8, f8, pl8, rest⟩
              rw [List.getElem?_map] at hx
              obtain ⟨b, hb, rfl⟩ := Option.map_eq_some_iff.mp hx
              have hb8 := pl8 b (List.mem_of_getElem? hb)
              obtain ⟨vv, hvv⟩ := val_some (rest i b (Nat.le_refl _) hb)
              walk_at "vv"
              refine wPopT ?_
              walk_at "vv"
              refine ⟨a, rfl, .inr ⟨_, .inl t8.at_⟩, ?_⟩
              walk_at "vv"
              refine ⟨kvs', b.2, b.1, vv, t8.at_, rfl, hb8, hvv, ?_⟩
              walk_at "vv"
              refine ⟨_, _, _, _, _, _, dropK kvs' b.2, rfl, K8.mut na, hP8.upd ap, t8.drop _, (upd_ne Da).trans f8, fun b' hb' => ?_, fun j b' hj hb' => ?_⟩
              · have := pl8 b' hb'
                exact (upd_ne fun e => t8.nt _ (e ▸ this)).trans this
              · have m := rest j b' (by omega) hb'
                obtain ⟨q, hq, eq⟩ := List.mem_map.mp m
                refine List.mem_map.mpr ⟨q, List.mem_filter.mpr ⟨hq, decide_eq_true fun e => ?_⟩, eq⟩
                have q1 : (bs.map (·.2))[i]? = (bs.map (·.2))[j]? := by
                  rw [List.getElem?_map, List.getElem?_map, hb, hb', Option.map_some, Option.map_some, ← eq, e]
                have := (List.getElem?_inj (by rw [List.length_map]; exact (List.getElem?_eq_some_iff.mp hb).1) nd).mp q1
                omega
            · rintro σ H8 ⟨v4, v5, v6, v7, v8, v9, kvs', rfl, K8, hP8, t8, f8, pl8, rest⟩
              walk_at "vv"
              exact ⟨_, _, _, _, _, _, kvs', rfl, K8, hP8, t8⟩
        · walk_at "vv"
          exact ⟨_, _, _, _, _, _, kvs, rfl, K5, hP5, t5⟩
      · rintro σ H4 ⟨v4, v5, v6, v7, v8, v9, kvs, rfl, K4, hP4, t4⟩
        walk_at "vv"
        exact k _ _ _ K4 hP4 na t4
/-- a good's key -/
def gG (zs ls : List Str) (k : List Key) : Prop := ∃ y z : Str, k = [.inr y, .inr z] ∧ (y ∈ zs ∨ y = "chest") ∧ z ∈ ls
def spGoods : Sp := fun vs H Q _ => ∃ (p l m : Addr) (zs ls : List Str), vs = [.ref p, .ref l, .ref m] ∧ Pool H p ∧ l ≠ p ∧ m ≠ p ∧ H l = some (.lst (zs.map V.str)) ∧ H m = some (.lst (ls.map V.str)) ∧ zs.length ≤ 8 ∧ ls.length ≤ 3 ∧ ∀ a kvs H', Kp p H H' → Pool H' p → H a = none → Tks (gG zs ls) H' a kvs 27 → Q (.ref a) H'
theorem ok_Lgoods (T : Tx K mg A) : FnOk P w K mg base CX0 3 A.f_Lgoods A.d_Lgoods ["_law_pool_here", "_law_people", "_law_lots"] spGoods := by
  refine T.F_Lgoods.ok sc_Lgoods (fun vs H Q E h => ?_) (fun cdv A' outer s H vs Q E hr h => ?_)
  · obtain ⟨p, l, m, zs, ls, rfl, _⟩ := h
    rfl
  · obtain ⟨p, l, m, zs, ls, rfl, hP, lp, mp, hl, hm, n8, m3, k⟩ := h
    refine ⟨_, (pss_cons (ps_set (i := 3) sc_Lgoods.nd rfl (Or.inl rfl) pe_dnewT)
    (pss_cons (ps_for PassesOwn.never rfl (pi_listV (K := K) rfl (pv 2)) (pg_name (i := 4) sc_Lgoods.nd rfl (Or.inl rfl))
    (pss_one (ps_for PassesOwn.never rfl (pi_listV (K := K) rfl (pe_op op_cat (pv 1) (pe_lst (pa_cons pe_str pa_nil)))) (pg_name (i := 5) sc_Lgoods.nd rfl (Or.inl rfl))
      (pss_one (ps_if (pt_cmpR op_eq (pe_call (ok_Ltake T) (hr.mono (by decide)) (by rfl) T.g_Ltake T.F_Ltake.kp T.b_Ltake .nil pass0 (pa_cons (pv 0) (pa_cons pe_int pa_nil))) pe_int (nomark _))
        (pss_one (ps_dput (hu_of hr) (pv 3) (pe_tup (pa_cons (pv 5) (pa_cons (pv 4) pa_nil))) (pe_call (ok_Lmeasure T) (hr.mono (by decide)) (by rfl) T.g_Lmeasure T.F_Lmeasure.kp T.b_Lmeasure .nil pass0 (pa_cons (pv 0) pa_nil)) rfl))
        pss_nil)))))
    (pss_one (ps_ret (pv 3))))), ?_⟩
    walk_at "vv"
    refine alI fun a H1 na e1 f1 => ?_
    have hP1 := hP.ex e1
    have ap : a ≠ p := hP.ne na
    walk_at "vv"
    refine exSq (SqL.of (e1 _ _ hm)) ?_
    refine for_list (K := K) (a := m) (xs := ls.map V.str) (fun i σ H' => ∃ v4 v5 kvs, σ = [some (.ref p), some (.ref l), some (.ref m), some (.ref a), v4, v5] ∧ Kp p H H' ∧ Pool H' p ∧ Tks (gG zs ls) H' a kvs (9 * i))
      ⟨none, none, [], rfl, e1.kp, hP1, .new f1⟩ (fun i σ H' _ ⟨_, _, _, _, kk, _⟩ => SqL.of (kk _ _ mp hm)) ?_ ?_
    · rintro i x σ H3 hx ⟨v4, v5, kvs, rfl, K3, hP3, t3⟩
      rw [List.getElem?_map] at hx
      obtain ⟨lot, hlot, rfl⟩ := Option.map_eq_some_iff.mp hx
      have li : i < ls.length := (List.getElem?_eq_some_iff.mp hlot).1
      walk_at "vv"
      refine alI fun c H4 n4 e4 f4 => ?_
      refine wCatL ((K3.trans e4.kp) _ _ lp hl) f4 (by simp; omega) fun d H5 e5 f5 n5 => ?_
      have e45 := e4.trans e5
      have hP5 := hP3.ex e45
      have t5 := t3.ex e45
      have K5 := K3.trans e45.kp
      have dp : d ≠ p := (hP3.ex e4).ne n5
      have f5 : H5 d = some (.lst ((zs ++ [("chest" : Str)]).map V.str)) := by
        rw [List.map_append]
        exact f5
      have da : d ≠ a := fun e => by
        have := t5.at_
        rw [← e, f5] at this
        cases this
      walk_at "vv"
      refine exSq (SqL.of f5) ?_
      refine for_list (K := K) (a := d) (xs := (zs ++ [("chest" : Str)]).map V.str) (fun j σ H' => ∃ v5 kvs, σ = [some (.ref p), some (.ref l), some (.ref m), some (.ref a), some (.str lot), v5] ∧ Kp p H H' ∧ H' d = some (.lst ((zs ++ [("chest" : Str)]).map V.str)) ∧ Pool H' p ∧ Tks (gG zs ls) H' a kvs (9 * i + j))
        ⟨_, kvs, rfl, K5, f5, hP5, t5⟩ (fun i σ H' _ ⟨_, _, _, _, kk, _⟩ => SqL.of kk) ?_ ?_
      · rintro j x σ H6 hx ⟨v5, kvs, rfl, K6, L6, hP6, t6⟩
        rw [List.getElem?_map] at hx
        obtain ⟨one, hone, rfl⟩ := Option.map_eq_some_iff.mp hx
        walk_at "vv"
        refine ⟨p, 3, rfl, hP6, by omega, by omega, fun d7 H7 d70 d71 e7 hP7 => ?_⟩
        have t7 := t6.kp hP6 e7
        have K7 := K6.trans e7
        walk_at "vv"
        refine ite2 (fun c => ?_) (fun c => ?_)
        · walk_at "vv"
          refine ⟨p, rfl, hP7, fun v H8 e8 hP8 am => ?_⟩
          have t8 := t7.kp hP7 e8
          have K8 := K7.trans e8
          walk_at "vv"
          refine alI fun b H9 n9 e9 f9 => ?_
          have mem : one ∈ zs ∨ one = "chest" := by
            rcases List.mem_append.mp (List.mem_of_getElem? hone) with q | q
            · exact .inl q
            · exact .inr (List.mem_singleton.mp q)
          have jl : j < 9 := by
            have := (List.getElem?_eq_some_iff.mp hone).1
            rw [List.length_append] at this
            have e1 : ([("chest" : Str)]).length = 1 := rfl
            omega
          exact ⟨a, _, rfl, .t (k := [.inr one, .inr lot]) (t8.ex e9).at_ f9 (sz6' (by have := t8.len; omega)), _, _, rfl, (K8.trans e9.kp).mut na, (upd_ne da).trans (e9 _ _ (e8 _ _ dp (e7 _ _ dp L6))), (hP8.ex e9).upd ap, (t8.ex e9).put ⟨_, _, rfl, mem, List.mem_of_getElem? hlot⟩ (am.ex e9)⟩
        · walk_at "vv"
          exact ⟨_, kvs, rfl, K7, e7 _ _ dp L6, hP7, t7.le (by omega)⟩
      · rintro σ H6 ⟨v5, kvs, rfl, K6, L6, hP6, t6⟩
        walk_at "vv"
        exact ⟨_, _, kvs, rfl, K6, hP6, t6.le (by rw [List.length_map, List.length_append]; have e1 : ([("chest" : Str)]).length = 1 := rfl; omega)⟩
    · rintro σ H3 ⟨v4, v5, kvs, rfl, K3, hP3, t3⟩
      walk_at "vv"
      exact k _ _ _ K3 hP3 na (t3.le (by rw [List.length_map]; omega))
/-! ### the web drawn -/
theorem lcListC {K : PySem.W.Frag} {H1 : Hp} {σ : L2.St} {vs : List Nat} {te : TE} {tt : TT} {D : Addr} {Q : VK} {a : Addr} {xs : List V} {slot : Nat} (I : Hp → Prop) (R : Nat → V → Hp → Prop) (hw : ∀ c, wipe ((wipe σ vs).set slot (some c)) vs = wipe σ vs) (h0 : I (upd H1 D (.lst []))) (hS : ∀ H, I H → SqL K H a xs)
    (hs : ∀ i x, xs[i]? = some x → ∀ H acc, I H → H D = some (.lst acc) → acc.length = i → (∀ j y, acc[j]? = some y → R j y H) →
      tt ((wipe σ vs).set slot (some x)) H fun b H3 => if b = true then te ((wipe σ vs).set slot (some x)) H3 fun y H' => ∃ acc', H' D = some (.lst acc') ∧ acc'.length < sizeLine ∧ LcP I R D (i + 1) (upd H' D (.lst (acc' ++ [y]))) else LcP I R D (i + 1) H3)
    (k : ∀ H ys, I H → H D = some (.lst ys) → ys.length = xs.length → (∀ j y, ys[j]? = some y → R j y H) → Q (.ref D) H) : LcG (Itl K a) (gName slot) tt te vs σ H1 Q D := by
  refine lc_list (K := K) (a := a) (xs := xs) (LcP I R D) (.start h0) (fun i H _ P => hS H P.inv) (fun i x H hx P => ?_) (fun H P => ?_)
  · obtain ⟨hI, acc, hD, hl, hR⟩ := P
    exact ⟨hw _, hs i x hx H acc hI hD hl hR⟩
  · obtain ⟨hI, acc, hD, hl, hR⟩ := P
    exact k H acc hI hD hl hR
theorem risL_pw {α : Type} (f : α → PyData) {xs : List α} (h : xs.Pairwise fun a b => PySem.W.dataLt (f a) (f b) = true) : risL (xs.map f) = true := by
  rw [risL_iff]
  intro j x y e1 e2
  rw [List.getElem?_map] at e1 e2
  obtain ⟨a, ha, rfl⟩ := Option.map_eq_some_iff.mp e1
  obtain ⟨b, hb, rfl⟩ := Option.map_eq_some_iff.mp e2
  obtain ⟨h1, rfl⟩ := List.getElem?_eq_some_iff.mp ha
  obtain ⟨h2, rfl⟩ := List.getElem?_eq_some_iff.mp hb
  exact List.pairwise_iff_getElem.mp h j (j + 1) h1 h2 (by omega)
theorem nodup_le : ∀ {xs ys : List Str}, xs.Nodup → (∀ x ∈ xs, x ∈ ys) → xs.length ≤ ys.length
  | [], _, _, _ => Nat.zero_le _
  | x :: xs, ys, nd, h => by
    obtain ⟨n1, n2⟩ := List.nodup_cons.mp nd
    have m : x ∈ ys := h x List.mem_cons_self
    have := nodup_le (ys := ys.erase x) n2 fun y hy => (List.mem_erase_of_ne (show y ≠ x from fun e => n1 (by rw [← e]; exact hy))).mpr (h y (List.mem_cons_of_mem _ hy))
    rw [List.length_erase_of_mem m] at this
    have : 0 < ys.length := List.length_pos_of_mem m
    rw [List.length_cons]
    omega
theorem dst_nd : ∀ {n : Nat} {xs : List Str}, xs.length = n → (SetX.dst xs).Nodup
  | 0, xs, h => by
    rw [List.length_eq_zero_iff.mp h]
    exact List.nodup_nil
  | n + 1, xs, h => by
    have hp : xs ≠ [] := fun e => by rw [e] at h; cases h
    have e : xs = xs.dropLast ++ [xs.getLast hp] := (List.dropLast_concat_getLast hp).symm
    have l : xs.dropLast.length = n := by rw [List.length_dropLast, h]; rfl
    rw [e, SetX.dst_app]
    split
    · exact dst_nd l
    · rename_i c
      rw [List.nodup_append]
      exact ⟨dst_nd l, by simp, fun x hx y hy q => c (by rw [List.mem_singleton.mp hy] at q; rw [← q]; exact hx)⟩
theorem dst_few {xs ls : List Str} (h : ∀ x ∈ xs, x ∈ ls) : (SetX.dst xs).length ≤ ls.length := nodup_le (dst_nd rfl) fun x hx => h x ((SetX.dst_mem x rfl).mp hx)
def two (g : List Key → Prop) : Prop := ∀ k, g k → ∃ y z : Str, k = [.inr y, .inr z]
theorem two_T (zs : List Str) : two (gT zs) := fun k ⟨y, z, e, _⟩ => ⟨y, z, e⟩
theorem two_G (zs ls : List Str) : two (gG zs ls) := fun k ⟨y, z, e, _⟩ => ⟨y, z, e⟩
theorem toks_pair {y z y' z' : Str} (h : PySem.W.keyToks (keysD [.inr y, .inr z]) = PySem.W.keyToks (keysD [.inr y', .inr z'])) : y = y' ∧ z = z' := by
  have h : PySem.W.keyToks (.tuple [.str y, .str z]) = PySem.W.keyToks (.tuple [.str y', .str z']) := h
  simp only [PySem.W.keyToks, PySem.W.keyToksAll] at h
  simp at h
  exact ⟨PySem.W.str_of_cps (by simpa using h.1), PySem.W.str_of_cps (by simpa using h.2)⟩
def ltK (a b : List Key) : Prop := PySem.W.dataLt (keysD a) (keysD b) = true
theorem wSortK {g : List Key → Prop} {H : Hp} {Q : VK} {a : Addr} {kvs : List (List Key × V)} {n : Nat} (t : Tks g H a kvs n) (tw : two g) (k : ∀ bs : List (Addr × List Key), Places H bs → bs.length = kvs.length → (∀ b ∈ bs, b.2 ∈ kvs.map (·.1)) → (bs.map (·.2)).Pairwise ltK → Al Q (.lst (bs.map fun b => V.ref b.1)) H) : rSortedK [.ref a] H Q := by
  have tk : ∀ q ∈ kvs, ∃ y z : Str, q.1 = [.inr y, .inr z] := fun q hq => tw _ (t.ok q hq).1
  refine ⟨a, kvs, rfl, .of t.at_, fun d hd d' hd' => ?_, .inl fun d hd => ?_, fun q hq => ?_, fun bs hb pl => ?_⟩
  · obtain ⟨q, hq, rfl⟩ := List.mem_map.mp hd
    obtain ⟨q', hq', rfl⟩ := List.mem_map.mp hd'
    obtain ⟨y, z, e⟩ := tk q hq
    obtain ⟨y', z', e'⟩ := tk q' hq'
    rw [e, e']
    simp [keysD, keyD, PySem.W.alike, PySem.W.alikeAll]
  · obtain ⟨q, hq, rfl⟩ := List.mem_map.mp hd
    obtain ⟨y, z, e⟩ := tk q hq
    rw [e]
    exact ⟨_, _, rfl⟩
  · obtain ⟨y, z, e⟩ := tk q hq
    rw [e]
    simp [keysD, keyD, PyData.depth, PyData.depthAll]
  · have perm := List.mergeSort_perm bs (PySem.W.dataLe false fun b : Addr × List Key => keysD b.2)
    have mem : ∀ b ∈ bs, b.2 ∈ kvs.map (·.1) := fun b h => by
      rw [← hb]
      exact List.mem_map.mpr ⟨b, h, rfl⟩
    have ndk : (bs.map (·.2)).Nodup := by
      rw [hb]
      exact t.nd
    have nd : bs.Nodup := List.Pairwise.of_map _ (fun _ _ h e => h (e ▸ rfl)) ndk
    refine k _ (fun b h => pl b (perm.mem_iff.mp h)) ?_ (fun b h => mem b (perm.mem_iff.mp h)) ?_
    · have l := congrArg List.length hb
      rw [List.length_map, List.length_map] at l
      rw [perm.length_eq]
      exact l
    · rw [List.pairwise_map]
      refine sort_strict (fun b : Addr × List Key => keysD b.2) bs (fun x hx y hy e => ?_) nd
      obtain ⟨qx, hqx, ex⟩ := List.mem_map.mp (mem x hx)
      obtain ⟨qy, hqy, ey⟩ := List.mem_map.mp (mem y hy)
      obtain ⟨x1, x2, e1⟩ := tk qx hqx
      obtain ⟨y1, y2, e2⟩ := tk qy hqy
      have e1 : x.2 = [.inr x1, .inr x2] := ex ▸ e1
      have e2 : y.2 = [.inr y1, .inr y2] := ey ▸ e2
      rw [e1, e2] at e
      obtain ⟨rfl, rfl⟩ := toks_pair e
      obtain ⟨i, hi, ei⟩ := List.getElem_of_mem hx
      obtain ⟨j, hj, ej⟩ := List.getElem_of_mem hy
      have q : (bs.map (·.2))[i]? = (bs.map (·.2))[j]? := by
        rw [List.getElem?_map, List.getElem?_map, List.getElem?_eq_getElem hi, List.getElem?_eq_getElem hj, ei, ej, Option.map_some, Option.map_some, e1, e2]
      have := (List.getElem?_inj (by rw [List.length_map]; exact hi) ndk).mp q
      subst this
      rw [← ei, ← ej]
def amtOf (H : Hp) (kvs : List (List Key × V)) (k : List Key) : Int × Int := match valV kvs k with
  | some (.ref c) => (match H c with
    | some (.tup [.int t, .int q]) => (t, q)
    | _ => (0, 0))
  | _ => (0, 0)
theorem amt_of {g : List Key → Prop} {H : Hp} {a : Addr} {kvs : List (List Key × V)} {n : Nat} (t : Tks g H a kvs n) {k : List Key} (h : k ∈ kvs.map (·.1)) : ∃ c, valV kvs k = some (.ref c) ∧ H c = some (.tup [.int (amtOf H kvs k).1, .int (amtOf H kvs k).2]) ∧ Ms (amtOf H kvs k).1 (amtOf H kvs k).2 ∧ g k := by
  obtain ⟨v, hv⟩ := val_some h
  obtain ⟨gk, c, x, y, rfl, hc, ms⟩ := t.ok _ (val_mem hv)
  have e : amtOf H kvs k = (x, y) := by
    unfold amtOf
    rw [hv]
    show (match H c with
      | some (.tup [.int t, .int q]) => (t, q)
      | _ => (0, 0)) = _
    rw [hc]
  rw [e]
  exact ⟨c, hv, hc, ms, gk⟩
def rowOf (f : List Key → Int × Int) (k : List Key) : PyData := .tuple (k.map keyD ++ [.tuple [.int (f k).1, .int (f k).2]])
/-- what a row of the web is -/
def RowK (g : List Key → Prop) (f : List Key → Int × Int) (ks : List (List Key)) : Prop := ∀ k ∈ ks, g k ∧ Ms (f k).1 (f k).2
theorem ms_amt {t q : Int} (m : Ms t q) : (frD (.tuple [.int t, .int q]) && posD (.tuple [.int t, .int q])) = true := by
  show ((decide (1 ≤ q) && decide (t.gcd q = 1)) && decide (0 < t)) = true
  rw [decide_eq_true m.g, decide_eq_true m.t0, decide_eq_true (show 1 ≤ q by have := m.q0; omega)]
  rfl
theorem rows_ok {g : List Key → Prop} {f : List Key → Int × Int} {ks : List (List Key)} (tw : two g) (h : RowK g f ks) (st : ks.Pairwise ltK) : rowsL (ks.map (rowOf f)) = true := by
  unfold rowsL
  rw [Bool.and_eq_true]
  constructor
  · rw [List.all_eq_true]
    intro d hd
    obtain ⟨k, hk, rfl⟩ := List.mem_map.mp hd
    obtain ⟨gk, ms⟩ := h k hk
    obtain ⟨y, z, e⟩ := tw k gk
    have er : rowOf f k = .tuple [.str y, .str z, .tuple [.int (f k).1, .int (f k).2]] := by
      unfold rowOf
      rw [e]
      rfl
    rw [er]
    show (isS (.str y) && isS (.str z) && (frD _ && posD _)) = true
    rw [ms_amt ms]
    rfl
  · rw [List.map_map]
    refine risL_pw (fun k => (tk2 ∘ rowOf f) k) (List.Pairwise.imp_of_mem (fun {a b} ha hb l => ?_) st)
    have e : ∀ k ∈ ks, tk2 (rowOf f k) = keysD k := fun k hk => by
      obtain ⟨y, z, e⟩ := tw k (h k hk).1
      unfold rowOf
      rw [e]
      rfl
    show PySem.W.dataLt (tk2 (rowOf f a)) (tk2 (rowOf f b)) = true
    rw [e a ha, e b hb]
    exact l
theorem ends_mem {zs : List Str} {y : Str} (h : y ∈ zs ∨ y = "chest") : endsD (zs.map PyData.str) (.str y) = true := by
  unfold endsD
  rw [List.any_eq_true]
  rcases h with h | h
  · exact ⟨.str y, List.mem_append_left _ (List.mem_map.mpr ⟨y, h, rfl⟩), by simp [PyData.eqv]⟩
  · exact ⟨.str "chest", List.mem_append_right _ (List.mem_singleton.mpr rfl), by rw [h]; simp [PyData.eqv]⟩
theorem web_made {zs ls : List Str} (nam : Nam zs) (n8 : zs.length ≤ 8) (ln : ∀ z ∈ ls, nameS z = true) (l3 : ls.length ≤ 3) {f1 f2 : List Key → Int × Int} {k1 k2 : List (List Key)} (h1 : RowK (gG zs ls) f1 k1) (s1 : k1.Pairwise ltK) (h2 : RowK (gT zs) f2 k2) (s2 : k2.Pairwise ltK) :
    webD (.tuple [.tuple (zs.map PyData.str), .tuple (k1.map (rowOf f1)), .tuple (k2.map (rowOf f2))]) = true := by
  rw [← webL_eq]
  show (decide ((zs.map PyData.str).length ≤ 8) && (zs.map PyData.str).all nameD && risL (zs.map PyData.str) && rowsL (k1.map (rowOf f1)) && rowsL (k2.map (rowOf f2)) &&
      ((k1.map (rowOf f1)).all fun r => endsD (zs.map PyData.str) (d0 r) && nameD (d1 r)) && ((k2.map (rowOf f2)).all fun r => ((zs.map PyData.str).any fun e => PyData.eqv e (d0 r)) && endsD (zs.map PyData.str) (d1 r) && !PyData.eqv (d0 r) (d1 r)) && decide ((SetX.dst (lotsD (k1.map (rowOf f1)))).length < 9)) = true
  have er : ∀ (f : List Key → Int × Int) (y z : Str), rowOf f [.inr y, .inr z] = .tuple [.str y, .str z, .tuple [.int (f [.inr y, .inr z]).1, .int (f [.inr y, .inr z]).2]] := fun f y z => rfl
  rw [decide_eq_true (by rw [List.length_map]; exact n8), show (zs.map PyData.str).all nameD = true from by
    rw [List.all_map, List.all_eq_true]
    exact nam.nm, risL_pw PyData.str nam.st, rows_ok (two_G zs ls) h1 s1, rows_ok (two_T zs) h2 s2]
  rw [show ((k1.map (rowOf f1)).all fun r => endsD (zs.map PyData.str) (d0 r) && nameD (d1 r)) = true from by
    rw [List.all_eq_true]
    intro r hr
    obtain ⟨k, hk, rfl⟩ := List.mem_map.mp hr
    obtain ⟨⟨y, z, rfl, hy, hz⟩, _⟩ := h1 k hk
    rw [er]
    show (endsD _ (.str y) && nameS z) = true
    rw [ends_mem hy, ln z hz]
    rfl]
  rw [show ((k2.map (rowOf f2)).all fun r => ((zs.map PyData.str).any fun e => PyData.eqv e (d0 r)) && endsD (zs.map PyData.str) (d1 r) && !PyData.eqv (d0 r) (d1 r)) = true from by
    rw [List.all_eq_true]
    intro r hr
    obtain ⟨k, hk, rfl⟩ := List.mem_map.mp hr
    obtain ⟨⟨y, z, rfl, hy, hz, yz⟩, _⟩ := h2 k hk
    rw [er]
    show (((zs.map PyData.str).any fun e => PyData.eqv e (.str y)) && endsD _ (.str z) && !PyData.eqv (.str y) (.str z)) = true
    rw [ends_mem hz, show ((zs.map PyData.str).any fun e => PyData.eqv e (.str y)) = true from List.any_eq_true.mpr ⟨.str y, List.mem_map.mpr ⟨y, hy, rfl⟩, by simp [PyData.eqv]⟩,
      show PyData.eqv (.str y) (.str z) = false from by simp [PyData.eqv, yz]]
    rfl]
  rw [decide_eq_true]
  · rfl
  · refine Nat.lt_of_le_of_lt (dst_few (ls := ls) fun x hx => ?_) (by omega)
    unfold lotsD at hx
    rw [List.map_map] at hx
    obtain ⟨k, hk, rfl⟩ := List.mem_map.mp hx
    obtain ⟨⟨y, z, rfl, hy, hz⟩, _⟩ := h1 k hk
    exact hz
mutual
def flatT : PyData → Bool
  | .int _ => true
  | .str _ => true
  | .tuple ds => flatA ds
  | _ => false
def flatA : List PyData → Bool
  | [] => true
  | d :: ds => flatT d && flatA ds
end
theorem flatA_iff : ∀ {ds : List PyData}, flatA ds = true ↔ ∀ d ∈ ds, flatT d = true
  | [] => ⟨fun _ d h => (nomatch h), fun _ => rfl⟩
  | d :: ds => by
    rw [List.forall_mem_cons, ← flatA_iff, flatA, Bool.and_eq_true]
mutual
theorem dt_hide {H : Hp} {p : Addr} (hp : Pool H p) : ∀ {v : V} {d : PyData}, Dt H v d → flatT d = true → Dt (hide p H) v d
  | _, _, .int i, _ => .int i
  | _, _, .str z, _ => .str z
  | _, _, .tup h q, e => .tup (hide_at (tup_ne h hp) h) (dtA_hide hp q (by simpa [flatT] using e))
  | _, _, .non, e => by simp [flatT] at e
  | _, _, .bl b, e => by simp [flatT] at e
  | _, _, .lst h q, e => by simp [flatT] at e
  | _, _, .dct h, e => by simp [flatT] at e
theorem dtA_hide {H : Hp} {p : Addr} (hp : Pool H p) : ∀ {xs : List V} {ds : List PyData}, DtA H xs ds → flatA ds = true → DtA (hide p H) xs ds
  | _, _, .nil, _ => .nil
  | _, _, .cons q t, e => by
    rw [flatA, Bool.and_eq_true] at e
    exact .cons (dt_hide hp q e.1) (dtA_hide hp t e.2)
end
mutual
/-- how deep tuples stand in tuples -/
def dpt : PyData → Nat
  | .tuple ds => dptA ds + 1
  | _ => 0
def dptA : List PyData → Nat
  | [] => 0
  | d :: ds => max (dpt d) (dptA ds)
end
theorem dptA_le {n : Nat} : ∀ {ds : List PyData}, dptA ds ≤ n ↔ ∀ d ∈ ds, dpt d ≤ n
  | [] => ⟨fun _ d h => (nomatch h), fun _ => Nat.zero_le _⟩
  | d :: ds => by
    rw [List.forall_mem_cons, ← dptA_le, dptA, Nat.max_le]
structure WebP (d : PyData) : Prop where
  web : webD d = true
  bd : Bd 14 81 d
  fl : flatT d = true
  dp : dpt d ≤ 4
theorem row_fl {f : List Key → Int × Int} {y z : Str} : flatT (rowOf f [.inr y, .inr z]) = true ∧ dpt (rowOf f [.inr y, .inr z]) = 2 := by
  constructor <;> simp [rowOf, keyD, flatT, flatA, dpt, dptA]
theorem bd_row {f : List Key → Int × Int} {y z : Str} (hy : y.length ≤ 9) (hz : z.length ≤ 9) (m : Ms (f [.inr y, .inr z]).1 (f [.inr y, .inr z]).2) : Bd 14 81 (rowOf f [.inr y, .inr z]) := by
  have m1 := m.t0
  have m2 := m.tb
  have m3 := m.q0
  have m4 := m.qb
  show Bd 14 81 (.tuple [.str y, .str z, .tuple [.int _, .int _]])
  simp only [Bd, BdA, List.length_cons, List.length_nil]
  refine ⟨by omega, by omega, by omega, ⟨by omega, ?_, ?_, trivial⟩, trivial⟩ <;> omega
theorem nm_len {z : Str} (h : nameS z = true) : z.length ≤ 8 := (lw_name h).l.2
def spWeb : Sp := fun vs H Q _ => ∃ (l a b : Addr) (zs ls : List Str) (kg kt : List (List Key × V)), vs = [.ref l, .ref a, .ref b] ∧ H l = some (.lst (zs.map V.str)) ∧ Nam zs ∧ zs.length ≤ 8 ∧ (∀ z ∈ ls, nameS z = true) ∧ ls.length ≤ 3 ∧ Tks (gG zs ls) H a kg 27 ∧ Tks (gT zs) H b kt 81 ∧ ∀ v d H', Ex H H' → Dt H' v d → WebP d → Q v H'
theorem ok_Lweb (T : Tx K mg A) : FnOk P w K mg base CX0 1 A.f_Lweb A.d_Lweb ["_law_people", "_law_goods_here", "_law_thanks_here"] spWeb := by
  refine T.F_Lweb.ok sc_Lweb (fun vs H Q E h => ?_) (fun cdv A' outer s H vs Q E hr h => ?_)
  · obtain ⟨l, a, b, zs, ls, kg, kt, rfl, _⟩ := h
    rfl
  · obtain ⟨l, a, b, zs, ls, kg, kt, rfl, hl, nam, n8, ln, l3, tg, tt, k⟩ := h
    refine ⟨_, (pss_cons (ps_set (i := 3) sc_Lweb.nd rfl (Or.inl rfl) (pe_callTy (call_tuple_ofV (K := K) rfl) (by rfl) T.m_tuple (by decide +kernel) (pa_cons (pe_lc rfl sc_Lweb.nd (g := gName 5) (pi_listV (K := K) rfl (pe_callB (cr_sortedK rfl hr.units) (by rfl) T.m_sorted (by decide +kernel) (pa_cons (pv 1) pa_nil))) (blkOk_by (own := [("_law_one", 5)]) (N := ["_law_people", "_law_goods_here", "_law_thanks_here", "_law_rows_here", "_law_links", "_law_one"]) (sc := defScope s_Lweb) (by decide +kernel)) (fun _ _ _ _ _ => (pg_name (i := 5) sc_Lweb.nd rfl (Or.inl rfl))) (fun _ _ _ _ _ => pts_one (pt_cmpR op_gt (pe_ix (ix_tupV (K := K) rfl) (pe_dget (hu_of hr) (pv 1) (pv 5) (fun _ _ => rfl)) pe_int (fun _ _ => rfl)) pe_int (nomark _))) (fun _ _ _ _ _ => (pe_tup (pa_cons (pe_ix (ix_tupV (K := K) rfl) (pv 5) pe_int (fun _ _ => rfl)) (pa_cons (pe_ix (ix_tupV (K := K) rfl) (pv 5) pe_int (fun _ _ => rfl)) (pa_cons (pe_dget (hu_of hr) (pv 1) (pv 5) (fun _ _ => rfl)) pa_nil)))))) pa_nil)))
    (pss_cons (ps_set (i := 4) sc_Lweb.nd rfl (Or.inl rfl) (pe_callTy (call_tuple_ofV (K := K) rfl) (by rfl) T.m_tuple (by decide +kernel) (pa_cons (pe_lc rfl sc_Lweb.nd (g := gName 5) (pi_listV (K := K) rfl (pe_callB (cr_sortedK rfl hr.units) (by rfl) T.m_sorted (by decide +kernel) (pa_cons (pv 2) pa_nil))) (blkOk_by (own := [("_law_one", 5)]) (N := ["_law_people", "_law_goods_here", "_law_thanks_here", "_law_rows_here", "_law_links", "_law_one"]) (sc := defScope s_Lweb) (by decide +kernel)) (fun _ _ _ _ _ => (pg_name (i := 5) sc_Lweb.nd rfl (Or.inl rfl))) (fun _ _ _ _ _ => pts_one (pt_cmpR op_gt (pe_ix (ix_tupV (K := K) rfl) (pe_dget (hu_of hr) (pv 2) (pv 5) (fun _ _ => rfl)) pe_int (fun _ _ => rfl)) pe_int (nomark _))) (fun _ _ _ _ _ => (pe_tup (pa_cons (pe_ix (ix_tupV (K := K) rfl) (pv 5) pe_int (fun _ _ => rfl)) (pa_cons (pe_ix (ix_tupV (K := K) rfl) (pv 5) pe_int (fun _ _ => rfl)) (pa_cons (pe_dget (hu_of hr) (pv 2) (pv 5) (fun _ _ => rfl)) pa_nil)))))) pa_nil)))
    (pss_one (ps_ret (pe_tup (pa_cons (pe_callTy (call_tuple_ofV (K := K) rfl) (by rfl) T.m_tuple (by decide +kernel) (pa_cons (pe_callB (cr_sortedD (K := K) rfl hr.units) (by rfl) T.m_sorted (by decide +kernel) (pa_cons (pv 0) pa_nil)) pa_nil)) (pa_cons (pv 3) (pa_cons (pv 4) pa_nil)))))))), ?_⟩
    walk_at "vv"
    refine wSortK tg (two_G zs ls) fun bs1 pl1 len1 mem1 st1 => ?_
    refine alI fun s1 H1 n1 e1 f1 => ?_
    have l1 : bs1.length ≤ 27 := by rw [len1]; exact tg.len
    have tg1 := tg.ex e1
    walk_at "vv"
    refine exSq (SqL.of f1) ?_
    intro D1 hD1
    have rg : RowK (gG zs ls) (amtOf H kg) (bs1.map (·.2)) := fun k hk => by
      obtain ⟨q, hq, rfl⟩ := List.mem_map.mp hk
      obtain ⟨c, _, _, ms, gk⟩ := amt_of tg (mem1 q hq)
      exact ⟨gk, ms⟩
    refine lcListC (K := K) (fun H' => Ex H1 H') (fun i v H' => ∃ y z r c t q, (bs1.map (·.2))[i]? = some [.inr y, .inr z] ∧ amtOf H kg [.inr y, .inr z] = (t, q) ∧ v = .ref r ∧ H' r = some (.tup [.str y, .str z, .ref c]) ∧ H' c = some (.tup [.int t, .int q])) (fun _ => rfl) (Ex.new hD1) (fun H' e => SqL.of (e _ _ f1)) (fun i x hx H2 acc e2 hD2 hla hR => ?_) (fun H2 ws e2 hD2 hla hR => ?_)
    · rw [List.getElem?_map] at hx
      obtain ⟨b1, hb1, rfl⟩ := Option.map_eq_some_iff.mp hx
      have mb := List.mem_of_getElem? hb1
      obtain ⟨c, hv, hc, ms, ⟨y, z, ek, _⟩⟩ := amt_of tg (mem1 b1 mb)
      have pb := pl1 b1 mb
      obtain ⟨ba, bk⟩ := b1
      have ek : bk = [.inr y, .inr z] := ek
      subst ek
      have hv : valV kg [.inr y, .inr z] = some (.ref c) := hv
      have e12 := e1.trans e2
      have pb2 : H2 ba = some (.tup [.str y, .str z]) := e12 _ _ pb
      have hc2 := e12 _ _ hc
      have dg : DGet H2 a (.ref ba) (some (.ref c)) := hv ▸ DGet.t (k := [.inr y, .inr z]) (e12 _ _ tg.at_) pb2
      have il : i < bs1.length := (List.getElem?_eq_some_iff.mp hb1).1
      walk_at "vv"
      refine ⟨a, _, rfl, dg, ?_⟩
      walk_at "vv"
      refine ite2 (fun cpos => ?_) (fun cpos => ?_)
      · walk_at "vv"
        refine ⟨a, _, rfl, dg, ?_⟩
        walk_at "vv"
        refine alI fun r H3 n3 e3 f3 => ?_
        have rD : r ≠ D1 := fun e => by
          rw [e, hD2] at n3
          cases n3
        have cD : c ≠ D1 := fun e => by
          rw [e, hD2] at hc2
          cases hc2
        refine lcAdd (e3 _ _ hD2) hla (by omega) ((e2.trans e3).mut hD1) (fun j v hv => ?_) ⟨y, z, r, c, _, _, by rw [List.getElem?_map, hb1]; rfl, rfl, rfl, (upd_ne rD).trans f3, (upd_ne cD).trans (e3 _ _ hc2)⟩
        obtain ⟨y', z', r', c', t', q', h1, h2, rfl, h3, h4⟩ := hR j v hv
        have nr : r' ≠ D1 := fun e => by
          rw [e, hD2] at h3
          cases h3
        have nc : c' ≠ D1 := fun e => by
          rw [e, hD2] at h4
          cases h4
        exact ⟨y', z', r', c', t', q', h1, h2, rfl, (upd_ne nr).trans (e3 _ _ h3), (upd_ne nc).trans (e3 _ _ h4)⟩
      · exact absurd (decide_eq_true ms.t0) cpos
    · have dw : DtA H2 ws ((bs1.map (·.2)).map (rowOf (amtOf H kg))) := dtA_of (by rw [List.length_map, List.length_map]; rw [List.length_map] at hla; exact hla) fun j v hv => by
        obtain ⟨y', z', r', c', t', q', h1, h2, rfl, h3, h4⟩ := hR j v hv
        refine ⟨rowOf (amtOf H kg) [.inr y', .inr z'], by rw [List.getElem?_map, h1]; rfl, ?_⟩
        show Dt H2 (.ref r') (.tuple [.str y', .str z', .tuple [.int _, .int _]])
        rw [h2]
        exact .tup h3 (.cons (.str _) (.cons (.str _) (.cons (.tup h4 (.cons (.int _) (.cons (.int _) .nil))) .nil)))
      clear hR
      walk_at "vv"
      refine ⟨D1, ws, rfl, .inl ⟨SqL.of hD2, fun u1 hu1 => ?_⟩⟩
      have E3 : Ex H (upd H2 u1 (.tup ws)) := (e1.trans e2).trans (Ex.new hu1)
      have f3 : (upd H2 u1 (.tup ws)) u1 = some (.tup ws) := upd_same
      have dw3 : DtA (upd H2 u1 (.tup ws)) ws _ := dw.ex (Ex.new hu1)
      clear dw
      generalize upd H2 u1 (.tup ws) = H3 at E3 f3 dw3 ⊢
      have tt3 := tt.ex E3
      walk_at "vv"
      refine wSortK tt3 (two_T zs) fun bs2 pl2 len2 mem2 st2 => ?_
      refine alI fun s2 H4 n4 e4 f4 => ?_
      have l2 : bs2.length ≤ 81 := by rw [len2]; exact tt3.len
      skip
      walk_at "vv"
      refine exSq (SqL.of f4) ?_
      intro D2 hD2
      have rt : RowK (gT zs) (amtOf H3 kt) (bs2.map (·.2)) := fun k hk => by
        obtain ⟨q, hq, rfl⟩ := List.mem_map.mp hk
        obtain ⟨c, _, _, ms, gk⟩ := amt_of tt3 (mem2 q hq)
        exact ⟨gk, ms⟩
      refine lcListC (K := K) (fun H' => Ex H4 H') (fun i v H' => ∃ y z r c t q, (bs2.map (·.2))[i]? = some [.inr y, .inr z] ∧ amtOf H3 kt [.inr y, .inr z] = (t, q) ∧ v = .ref r ∧ H' r = some (.tup [.str y, .str z, .ref c]) ∧ H' c = some (.tup [.int t, .int q])) (fun _ => rfl) (Ex.new hD2) (fun H' e => SqL.of (e _ _ f4)) (fun i x hx H5 acc e5 hD5 hla hR => ?_) (fun H5 ws2 e5 hD5 hla hR => ?_)
      · rw [List.getElem?_map] at hx
        obtain ⟨b1, hb1, rfl⟩ := Option.map_eq_some_iff.mp hx
        have mb := List.mem_of_getElem? hb1
        obtain ⟨c, hv, hc, ms, ⟨y, z, ek, _⟩⟩ := amt_of tt3 (mem2 b1 mb)
        have pb := pl2 b1 mb
        obtain ⟨ba, bk⟩ := b1
        have ek : bk = [.inr y, .inr z] := ek
        subst ek
        have hv : valV kt [.inr y, .inr z] = some (.ref c) := hv
        have e12 := e4.trans e5
        have pb2 : H5 ba = some (.tup [.str y, .str z]) := e12 _ _ pb
        have hc2 := e12 _ _ hc
        have dg : DGet H5 b (.ref ba) (some (.ref c)) := hv ▸ DGet.t (k := [.inr y, .inr z]) (e12 _ _ tt3.at_) pb2
        have il : i < bs2.length := (List.getElem?_eq_some_iff.mp hb1).1
        walk_at "vv"
        refine ⟨b, _, rfl, dg, ?_⟩
        walk_at "vv"
        refine ite2 (fun cpos => ?_) (fun cpos => ?_)
        · walk_at "vv"
          refine ⟨b, _, rfl, dg, ?_⟩
          walk_at "vv"
          refine alI fun r H6 n6 e6 f6 => ?_
          have rD : r ≠ D2 := fun e => by
            rw [e, hD5] at n6
            cases n6
          have cD : c ≠ D2 := fun e => by
            rw [e, hD5] at hc2
            cases hc2
          refine lcAdd (e6 _ _ hD5) hla (by omega) ((e5.trans e6).mut hD2) (fun j v hv => ?_) ⟨y, z, r, c, _, _, by rw [List.getElem?_map, hb1]; rfl, rfl, rfl, (upd_ne rD).trans f6, (upd_ne cD).trans (e6 _ _ hc2)⟩
          obtain ⟨y', z', r', c', t', q', h1, h2, rfl, h3, h4⟩ := hR j v hv
          have nr : r' ≠ D2 := fun e => by
            rw [e, hD5] at h3
            cases h3
          have nc : c' ≠ D2 := fun e => by
            rw [e, hD5] at h4
            cases h4
          exact ⟨y', z', r', c', t', q', h1, h2, rfl, (upd_ne nr).trans (e6 _ _ h3), (upd_ne nc).trans (e6 _ _ h4)⟩
        · exact absurd (decide_eq_true ms.t0) cpos
      · have dw2 : DtA H5 ws2 ((bs2.map (·.2)).map (rowOf (amtOf H3 kt))) := dtA_of (by rw [List.length_map, List.length_map]; rw [List.length_map] at hla; exact hla) fun j v hv => by
          obtain ⟨y', z', r', c', t', q', h1, h2, rfl, h3, h4⟩ := hR j v hv
          refine ⟨rowOf (amtOf H3 kt) [.inr y', .inr z'], by rw [List.getElem?_map, h1]; rfl, ?_⟩
          show Dt H5 (.ref r') (.tuple [.str y', .str z', .tuple [.int _, .int _]])
          rw [h2]
          exact .tup h3 (.cons (.str _) (.cons (.str _) (.cons (.tup h4 (.cons (.int _) (.cons (.int _) .nil))) .nil)))
        clear hR
        walk_at "vv"
        refine ⟨D2, ws2, rfl, .inl ⟨SqL.of hD5, fun u2 hu2 => ?_⟩⟩
        have e35 : Ex H3 (upd H5 u2 (.tup ws2)) := (e4.trans e5).trans (Ex.new hu2)
        have f7 : (upd H5 u2 (.tup ws2)) u2 = some (.tup ws2) := upd_same
        have dw7 : DtA (upd H5 u2 (.tup ws2)) ws2 _ := dw2.ex (Ex.new hu2)
        clear dw2
        generalize upd H5 u2 (.tup ws2) = H7 at e35 f7 dw7 ⊢
        have E7 := E3.trans e35
        walk_at "vv"
        refine wSortS (SqL.of (E7 _ _ hl)) ?_
        refine alI fun s8 H8 n8' e8 f8 => ?_
        walk_at "vv"
        refine ⟨s8, _, rfl, .inl ⟨SqL.of f8, fun u3 hu3 => ?_⟩⟩
        have e9 : Ex H7 (upd H8 u3 (.tup ((srtS zs).map V.str))) := e8.trans (Ex.new hu3)
        have f9 : (upd H8 u3 (.tup ((srtS zs).map V.str))) u3 = some (.tup ((srtS zs).map V.str)) := upd_same
        generalize upd H8 u3 (.tup ((srtS zs).map V.str)) = H9 at e9 f9 ⊢
        walk_at "vv"
        refine alI fun r H10 n10 e10 f10 => ?_
        have perm := srtS_perm zs
        have nam' : Nam (srtS zs) := Nam.srt nam.nm nam.nd
        have dstr : ∀ xs : List Str, DtA H10 (xs.map V.str) (xs.map PyData.str) := fun xs => by
          induction xs with
          | nil => exact .nil
          | cons x xs ih => exact .cons (.str x) ih
        have gG' : gG zs ls = gG (srtS zs) ls := by
          funext k
          unfold gG
          simp only [perm.mem_iff]
        have gT' : gT zs = gT (srtS zs) := by
          funext k
          unfold gT
          simp only [perm.mem_iff]
        rw [gG'] at rg
        rw [gT'] at rt
        have e79 := e9.trans e10
        refine k _ (.tuple [.tuple ((srtS zs).map PyData.str), .tuple ((bs1.map (·.2)).map (rowOf (amtOf H kg))), .tuple ((bs2.map (·.2)).map (rowOf (amtOf H3 kt)))]) _ (E7.trans e79) ?_ ⟨?_, ?_, ?_, ?_⟩
        · exact .tup f10 (.cons (.tup (e10 _ _ f9) (dstr _)) (.cons (.tup ((e35.trans e79) _ _ f3) (dw3.ex (e35.trans e79))) (.cons (.tup (e79 _ _ f7) (dw7.ex e79)) .nil)))
        · exact web_made nam' (by rw [perm.length_eq]; exact n8) ln l3 rg st1 rt st2
        · have c9 : ("chest" : Str).length ≤ 9 := by decide +kernel
          have zl : ∀ z ∈ srtS zs, z.length ≤ 9 := fun z hz => by have := nm_len (nam'.nm z hz); omega
          have ll : ∀ z ∈ ls, z.length ≤ 9 := fun z hz => by have := nm_len (ln z hz); omega
          refine ⟨by simp, ⟨?_, ?_⟩, ⟨?_, ?_⟩, ⟨?_, ?_⟩, trivial⟩
          · rw [List.length_map, perm.length_eq]
            omega
          · rw [bdA_iff]
            intro d hd
            obtain ⟨z, hz, rfl⟩ := List.mem_map.mp hd
            have := zl z hz
            show z.length ≤ 81
            omega
          · rw [List.length_map, List.length_map]
            omega
          · rw [bdA_iff]
            intro d hd
            obtain ⟨q, hq, rfl⟩ := List.mem_map.mp hd
            obtain ⟨⟨y, z, rfl, hy, hz⟩, ms⟩ := rg q hq
            exact bd_row (hy.elim (zl y) fun e => e ▸ c9) (ll z hz) ms
          · rw [List.length_map, List.length_map]
            omega
          · rw [bdA_iff]
            intro d hd
            obtain ⟨q, hq, rfl⟩ := List.mem_map.mp hd
            obtain ⟨⟨y, z, rfl, hy, hz, _⟩, ms⟩ := rt q hq
            exact bd_row (zl y hy) (hz.elim (zl z) fun e => e ▸ c9) ms
        · simp only [flatT, flatA, Bool.and_true, Bool.and_eq_true]
          refine ⟨?_, ?_, ?_⟩
          · rw [flatA_iff]
            intro d hd
            obtain ⟨z, _, rfl⟩ := List.mem_map.mp hd
            rfl
          · rw [flatA_iff]
            intro d hd
            obtain ⟨q, hq, rfl⟩ := List.mem_map.mp hd
            obtain ⟨⟨y, z, rfl, _⟩, _⟩ := rg q hq
            exact row_fl.1
          · rw [flatA_iff]
            intro d hd
            obtain ⟨q, hq, rfl⟩ := List.mem_map.mp hd
            obtain ⟨⟨y, z, rfl, _⟩, _⟩ := rt q hq
            exact row_fl.1
        · have q1 : dptA ((srtS zs).map PyData.str) ≤ 2 := dptA_le.mpr fun d hd => by
            obtain ⟨z, _, rfl⟩ := List.mem_map.mp hd
            exact Nat.zero_le _
          have q2 : dptA ((bs1.map (·.2)).map (rowOf (amtOf H kg))) ≤ 2 := dptA_le.mpr fun d hd => by
            obtain ⟨q, hq, rfl⟩ := List.mem_map.mp hd
            obtain ⟨⟨y, z, rfl, _⟩, _⟩ := rg q hq
            exact Nat.le_of_eq row_fl.2
          have q3 : dptA ((bs2.map (·.2)).map (rowOf (amtOf H3 kt))) ≤ 2 := dptA_le.mpr fun d hd => by
            obtain ⟨q, hq, rfl⟩ := List.mem_map.mp hd
            obtain ⟨⟨y, z, rfl, _⟩, _⟩ := rt q hq
            exact Nat.le_of_eq row_fl.2
          simp only [dpt, dptA]
          omega
def spDrawn : Sp := fun vs H Q _ => ∃ (p : Addr) (m : Int), vs = [.ref p, .int m] ∧ Pool H p ∧ 1 ≤ m ∧ m ≤ 8 ∧ ∀ v d H', Kp p H H' → Pool H' p → Dt (hide p H') v d → WebP d → Q v H'
def lots3 : List Str := ["wheat", "rye", "none"]
theorem lots3_nm : ∀ z ∈ lots3, nameS z = true := by decide +kernel
theorem ok_Ldrawn (T : Tx K mg A) : FnOk P w K mg base CX0 4 A.f_Ldrawn A.d_Ldrawn ["_law_pool_here", "_law_upto"] spDrawn := by
  refine T.F_Ldrawn.ok sc_Ldrawn (fun vs H Q E h => ?_) (fun cdv A' outer s H vs Q E hr h => ?_)
  · obtain ⟨p, m, rfl, _⟩ := h
    rfl
  · obtain ⟨p, m, rfl, hP, m1, m8, k⟩ := h
    refine ⟨_, (pss_cons (ps_set (i := 2) sc_Ldrawn.nd rfl (Or.inl rfl) (pe_ix (ix_listV (K := K) rfl) (pe_lst (pa_cons (pe_op op_add pe_int (pe_call (ok_Ltake T) (hr.mono (by decide)) (by rfl) T.g_Ltake T.F_Ltake.kp T.b_Ltake .nil pass0 (pa_cons (pv 0) (pa_cons (pv 1) pa_nil)))) (pa_cons pe_int pa_nil))) (pe_callTy call_int1 (by rfl) T.m_int (by decide +kernel) (pa_cons (pe_cmpR op_eq (pe_call (ok_Ltake T) (hr.mono (by decide)) (by rfl) T.g_Ltake T.F_Ltake.kp T.b_Ltake .nil pass0 (pa_cons (pv 0) (pa_cons pe_int pa_nil))) pe_int (nomark _)) pa_nil)) (fun _ _ => rfl)))
    (pss_cons (ps_par (i := 3) (j := 4) (by rfl) sc_Ldrawn.nd rfl rfl (by decide) rfl rfl (pa_cons (pe_call (ok_Lnames T) (hr.mono (by decide)) (by rfl) T.g_Lnames T.F_Lnames.kp T.b_Lnames .nil pass0 (pa_cons (pv 0) (pa_cons (pv 2) pa_nil))) (pa_cons (pe_slice (sl_listV (K := K) rfl) (pe_lst (pa_cons pe_str (pa_cons pe_str (pa_cons pe_str pa_nil)))) po_none (po_some (pe_call (ok_Ltake T) (hr.mono (by decide)) (by rfl) T.g_Ltake T.F_Ltake.kp T.b_Ltake .nil pass0 (pa_cons (pv 0) (pa_cons pe_int pa_nil))))) pa_nil)) (by rfl))
    (pss_one (ps_ret (pe_call (ok_Lweb T) (hr.mono (by decide)) (by rfl) T.g_Lweb T.F_Lweb.kp T.b_Lweb .nil pass0 (pa_cons (pv 3) (pa_cons (pe_call (ok_Lgoods T) (hr.mono (by decide)) (by rfl) T.g_Lgoods T.F_Lgoods.kp T.b_Lgoods .nil pass0 (pa_cons (pv 0) (pa_cons (pv 3) (pa_cons (pv 4) pa_nil)))) (pa_cons (pe_call (ok_Lthanks T) (hr.mono (by decide)) (by rfl) T.g_Lthanks T.F_Lthanks.kp T.b_Lthanks .nil pass0 (pa_cons (pv 0) (pa_cons (pv 3) pa_nil))) pa_nil)))))))), ?_⟩
    walk_at "vv"
    refine ⟨p, m, rfl, hP, by omega, by omega, fun d1 H1 d10 d11 e1 hP1 => ?_⟩
    walk_at "vv"
    refine alI fun l2 H2 n2 e2 f2 => ?_
    have n2p := hP1.ne n2
    walk_at "vv"
    refine ⟨p, 8, rfl, hP1.ex e2, by omega, by omega, fun d3 H3 d30 d31 e3 hP3 => ?_⟩
    walk_at "vv"
    have K3 : Kp p H H3 := (e1.trans e2.kp).trans e3
    have f3 := e3 _ _ n2p f2
    refine .inr ⟨_, rfl, ?_⟩
    obtain ⟨many, hm, mm1, mm8⟩ : ∃ many : Nat, atI [V.int (1 + d1), V.int 8] (if decide (V.int d3 = V.int 5) = true then 1 else 0) = some (.int (many : Int)) ∧ 1 ≤ many ∧ many ≤ 8 := by
      split
      · exact ⟨8, rfl, by decide, by decide⟩
      · refine ⟨(1 + d1).toNat, ?_, by omega, by omega⟩
        rw [show (((1 + d1).toNat : Nat) : Int) = 1 + d1 by omega]
        rfl
    refine wIxL (SqL.of f3) hm ?_
    walk_at "vv"
    refine ⟨p, many, rfl, hP3, mm8, fun l zs H4 e4 hP4 nl hl nam len => ?_⟩
    have lp : l ≠ p := hP3.ne nl
    walk_at "vv"
    refine alI fun l5 H5 n5 e5 f5 => ?_
    have n5p := hP4.ne n5
    walk_at "vv"
    refine ⟨p, 4, rfl, hP4.ex e5, by omega, by omega, fun d6 H6 d60 d61 e6 hP6 => ?_⟩
    have f6 : H6 l5 = some (.lst (lots3.map V.str)) := e6 _ _ n5p f5
    walk_at "vv"
    refine wSlL (SqL.of f6) fun m hm0 => ?_
    have mp : m ≠ p := hP6.ne hm0
    obtain ⟨n6, rfl⟩ : ∃ n6 : Nat, d6 = (n6 : Int) := ⟨d6.toNat, by omega⟩
    rw [cut_take, ← List.map_take]
    have e7 : Ex H6 (upd H6 m (.lst ((lots3.take n6).map V.str))) := Ex.new hm0
    have f7 : (upd H6 m (.lst ((lots3.take n6).map V.str))) m = some (.lst ((lots3.take n6).map V.str)) := upd_same
    generalize upd H6 m (.lst ((lots3.take n6).map V.str)) = H7 at e7 f7 ⊢
    have K47 : Kp p H4 H7 := (e5.kp.trans e6).trans e7.kp
    have K7 : Kp p H H7 := (K3.trans e4).trans K47
    have hP7 := hP6.ex e7
    have l3 : (lots3.take n6).length ≤ 3 := by
      rw [List.length_take]
      exact Nat.min_le_right _ _
    walk_at "vv"
    refine ⟨p, l, m, zs, lots3.take n6, rfl, hP7, lp, mp, K47 _ _ lp hl, f7, by omega, l3, fun a kg H8 e8 hP8 na tg => ?_⟩
    walk_at "vv"
    refine ⟨p, l, zs, rfl, hP8, lp, (K47.trans e8) _ _ lp hl, nam, by omega, fun b kt H9 e9 hP9 nb tt => ?_⟩
    walk_at "vv"
    exact ⟨l, a, b, zs, lots3.take n6, kg, kt, rfl, ((K47.trans e8).trans e9) _ _ lp hl, nam, by omega, fun z hz => lots3_nm z (List.mem_of_mem_take hz), l3, tg.kp hP8 e9, tt, fun v d H' e' dt wp => k v d H' (((K7.trans e8).trans e9).trans e'.kp) (hP9.ex e') (dt_hide (hP9.ex e') dt wp.fl) wp⟩
/-! ### numbers, truths among them -/
def NumV (v : V) (n : Int) : Prop := v = .int n ∨ ∃ b : Bool, v = .bl b ∧ n = if b = true then 1 else 0
section
variable {X : Cx}
theorem opX_add : OpR X (binaryOp .Add) (fun x y H Q => ∃ i j, NumV x i ∧ y = .int j ∧ Q (.int (i + j)) H) := by
  intro pins s σ H x y v u Q I rx ry h
  obtain ⟨i, j, hx, rfl, q⟩ := h
  obtain ⟨t, rfl⟩ := ry
  rcases hx with rfl | ⟨b, rfl, rfl⟩
  · obtain ⟨t', rfl⟩ := rx
    exact add_int ⟨.int _, H, I.tok _, ⟨_, rfl⟩, q⟩
  · cases rx
    exact PySem.IntBool.add_bool_int ⟨.int _, H, I.tok _, ⟨_, rfl⟩, q⟩
theorem opX_sub : OpR X (binaryOp .Sub) (fun x y H Q => ∃ i j, NumV x i ∧ y = .int j ∧ Q (.int (i - j)) H) := by
  intro pins s σ H x y v u Q I rx ry h
  obtain ⟨i, j, hx, rfl, q⟩ := h
  obtain ⟨t, rfl⟩ := ry
  rcases hx with rfl | ⟨b, rfl, rfl⟩
  · obtain ⟨t', rfl⟩ := rx
    exact sub_int ⟨.int _, H, I.tok _, ⟨_, rfl⟩, q⟩
  · cases rx
    exact PySem.IntBool.sub_bool_int ⟨.int _, H, I.tok _, ⟨_, rfl⟩, q⟩
theorem opX_rsub : OpR X (binaryOp .Sub) (fun x y H Q => ∃ i j, NumV y j ∧ x = .int i ∧ Q (.int (i - j)) H) := by
  intro pins s σ H x y v u Q I rx ry h
  obtain ⟨i, j, hy, rfl, q⟩ := h
  obtain ⟨t, rfl⟩ := rx
  rcases hy with rfl | ⟨b, rfl, rfl⟩
  · obtain ⟨t', rfl⟩ := ry
    exact sub_int ⟨.int _, H, I.tok _, ⟨_, rfl⟩, q⟩
  · cases ry
    exact PySem.IntBool.sub_int_bool ⟨.int _, H, I.tok _, ⟨_, rfl⟩, q⟩
theorem opX_mulL : OpR X (binaryOp .Mult) (fun x y H Q => ∃ i j, NumV y j ∧ x = .int i ∧ CMulW i j ∧ Q (.int (i * j)) H) := by
  intro pins s σ H x y v u Q I rx ry h
  obtain ⟨i, j, hy, rfl, hc, q⟩ := h
  obtain ⟨t, rfl⟩ := rx
  rcases hy with rfl | ⟨b, rfl, rfl⟩
  · obtain ⟨t', rfl⟩ := ry
    exact mul_int ⟨.int _, H, I.tok _, ⟨_, rfl⟩, q⟩ hc.ok
  · cases ry
    exact PySem.IntBool.mul_int_bool ⟨.int _, H, I.tok _, ⟨_, rfl⟩, q⟩
theorem opX_mulR : OpR X (binaryOp .Mult) (fun x y H Q => ∃ i j, NumV x i ∧ y = .int j ∧ CMulW i j ∧ Q (.int (i * j)) H) := by
  intro pins s σ H x y v u Q I rx ry h
  obtain ⟨i, j, hx, rfl, hc, q⟩ := h
  obtain ⟨t, rfl⟩ := ry
  rcases hx with rfl | ⟨b, rfl, rfl⟩
  · obtain ⟨t', rfl⟩ := rx
    exact mul_int ⟨.int _, H, I.tok _, ⟨_, rfl⟩, q⟩ hc.ok
  · cases rx
    exact PySem.IntBool.mul_bool_int ⟨.int _, H, I.tok _, ⟨_, rfl⟩, q⟩
end
theorem num_v {H : Hp} {v : V} {d : PyData} (h : Dt H v d) (e : (isI d || isB d) = true) : ∃ n : Int, NumV v n ∧ (d = .int n ∨ (d ≠ .none ∧ n.natAbs ≤ 1)) ∧ d.plain = true ∧ d.depth ≤ 40 := by
  cases h with
  | int i => exact ⟨i, .inl rfl, .inl rfl, by simp [PyData.plain], by simp [PyData.depth]⟩
  | bl b => exact ⟨_, .inr ⟨b, rfl, rfl⟩, .inr ⟨by simp, by cases b <;> simp⟩, by simp [PyData.plain], by simp [PyData.depth]⟩
  | _ => cases e
theorem da_t {m n : Nat} {H : Hp} {b : Addr} {xs : List V} {ds : List PyData} (f : H b = some (.tup xs)) (q : DtA H xs ds) (l : ds.length ≤ n) (bd : ∀ d ∈ ds, Bd m n d) : Da m n H (.ref b) (.tuple ds) := ⟨.tup f q, l, bdA_iff.mpr bd⟩
theorem wRevT {K : PySem.W.Frag} {te : TE} {σ : L2.St} {H : Hp} {Q : VK} (k : te σ H fun x H1 => ∃ a xs, x = .ref a ∧ SqT K H1 a xs ∧ ∀ p, H1 p = none → Q (.ref p) (upd H1 p (.tup xs.reverse))) : tRevT K te σ H Q := k
/-- a thing spoilt -/
def spSp (n : Nat) : Sp := fun vs H Q _ => ∃ (p : Addr) (v : V) (d : PyData) (m N : Nat), vs = [.ref p, v] ∧ Pool H p ∧ Da m N (hide p H) v d ∧ dpt d ≤ n ∧ m ≤ 4000 ∧ N ≤ 290 ∧ ∀ v' d' H', Kp p H H' → Pool H' p → Da (m + 140) (3 * N + 9) (hide p H') v' d' → dpt d' ≤ dpt d + 1 → Q v' H'
def spSq : Nat → Sp
  | 0 => fun _ _ _ _ => False
  | n + 1 => spSp n
theorem dpt_mem {ds : List PyData} {d : PyData} (h : d ∈ ds) : dpt d + 1 ≤ dpt (.tuple ds) := by
  have := dptA_le.mp (Nat.le_refl (dptA ds)) d h
  rw [dpt]
  omega
theorem spoilt_step (T : Tx K mg A) (n : Nat) (ih : FnOk P w K mg base CX0 (n + 1) A.f_Lspoilt A.d_Lspoilt ["_law_pool_here", "_law_old"] (spSq n)) : FnOk P w K mg base CX0 (n + 2) A.f_Lspoilt A.d_Lspoilt ["_law_pool_here", "_law_old"] (spSp n) := by
  refine T.F_Lspoilt.ok sc_Lspoilt (fun vs H Q E h => ?_) (fun cdv A' outer s H vs Q E hr h => ?_)
  · obtain ⟨p, v, d, m, N, rfl, _⟩ := h
    rfl
  · obtain ⟨p, v, d, m, N, rfl, hP, dv, hn, hm, hN, k⟩ := h
    refine ⟨_, (C8.pss_cut (ps_if (PW.pt (pw_and (pt_val (pe_callB (call_isiV (K := K) rfl) (by rfl) T.m_isinstance (by decide +kernel) (pa_cons (pv 1) (pa_cons (pe_bltn (v := .ty "tuple") (by rfl) T.m_tuple (by decide +kernel) rfl) pa_nil)))) (pw_and (pt_cmpR op_gt (pe_callB (call_lenV (K := K) rfl) (by rfl) T.m_len (by decide +kernel) (pa_cons (pv 1) pa_nil)) pe_int (nomark _)) (pw_and1 (pt_cmpR op_gt (pe_call (ok_Ltake T) (hr.mono (by omega)) (by rfl) T.g_Ltake T.F_Ltake.kp T.b_Ltake .nil pass0 (pa_cons (pv 0) (pa_cons pe_int pa_nil))) pe_int (nomark _))))))
    (pss_cons (ps_set (i := 2) sc_Lspoilt.nd rfl (Or.inl rfl) (pe_call (ok_Ltake T) (hr.mono (by omega)) (by rfl) T.g_Ltake T.F_Ltake.kp T.b_Ltake .nil pass0 (pa_cons (pv 0) (pa_cons (pe_callB (call_lenV (K := K) rfl) (by rfl) T.m_len (by decide +kernel) (pa_cons (pv 1) pa_nil)) pa_nil))))
      (pss_one (ps_ret (pe_op (op_catTV (K := K) rfl) (pe_op (op_catTV (K := K) rfl) (pe_slice (sl_tupV (K := K) rfl) (pv 1) po_none (po_some (pv 2))) (pe_tup (pa_cons (pe_call ih hr (by rfl) T.g_Lspoilt T.F_Lspoilt.kp T.b_Lspoilt .nil pass0 (pa_cons (pv 0) (pa_cons (pe_ix (ix_tupV (K := K) rfl) (pv 1) (pv 2) (fun _ _ => rfl)) pa_nil))) pa_nil))) (pe_slice (sl_tupV (K := K) rfl) (pv 1) (po_some (pe_op op_add (pv 2) pe_int)) po_none)))))
    pss_nil)
    (pss_cons (ps_set (i := 3) sc_Lspoilt.nd rfl (Or.inl rfl) (pe_call (ok_Ltake T) (hr.mono (by omega)) (by rfl) T.g_Ltake T.F_Ltake.kp T.b_Ltake .nil pass0 (pa_cons (pv 0) (pa_cons pe_int pa_nil))))
    (C8.pss_cut (ps_if (PW.pt (pw_and (pt_val (pe_callB (call_isiV (K := K) rfl) (by rfl) T.m_isinstance (by decide +kernel) (pa_cons (pv 1) (pa_cons (pe_bltn (v := .ty "tuple") (by rfl) T.m_tuple (by decide +kernel) rfl) pa_nil)))) (pw_and (pt_cmpR op_gt (pe_callB (call_lenV (K := K) rfl) (by rfl) T.m_len (by decide +kernel) (pa_cons (pv 1) pa_nil)) pe_int (nomark _)) (pw_and1 (pt_cmpR op_lt (pv 3) pe_int (nomark _))))))
    (pss_cons (ps_set (i := 2) sc_Lspoilt.nd rfl (Or.inl rfl) (pe_call (ok_Ltake T) (hr.mono (by omega)) (by rfl) T.g_Ltake T.F_Ltake.kp T.b_Ltake .nil pass0 (pa_cons (pv 0) (pa_cons (pe_callB (call_lenV (K := K) rfl) (by rfl) T.m_len (by decide +kernel) (pa_cons (pv 1) pa_nil)) pa_nil))))
      (pss_cons (ps_set (i := 4) sc_Lspoilt.nd rfl (Or.inl rfl) (pe_lst (pa_cons (pe_op (op_catTV (K := K) rfl) (pe_slice (sl_tupV (K := K) rfl) (pv 1) po_none (po_some (pv 2))) (pe_slice (sl_tupV (K := K) rfl) (pv 1) (po_some (pe_op op_add (pv 2) pe_int)) po_none)) (pa_cons (pe_op (op_catTV (K := K) rfl) (pe_slice (sl_tupV (K := K) rfl) (pv 1) po_none (po_some (pe_op op_add (pv 2) pe_int))) (pe_slice (sl_tupV (K := K) rfl) (pv 1) (po_some (pv 2)) po_none)) (pa_cons (pe_revT (K := K) rfl (pv 1)) (pa_cons (pe_op (op_catTV (K := K) rfl) (pe_slice (sl_tupV (K := K) rfl) (pv 1) (po_some pe_int) po_none) (pe_slice (sl_tupV (K := K) rfl) (pv 1) po_none (po_some pe_int))) (pa_cons (pe_callTy (call_list_ofV (K := K) rfl) (by rfl) T.m_list (by decide +kernel) (pa_cons (pv 1) pa_nil)) pa_nil)))))))
      (pss_one (ps_ret (pe_ix (ix_listV (K := K) rfl) (pe_op op_cat (pv 4) (pe_lst (pa_cons (pe_op (op_catTV (K := K) rfl) (pv 1) (pe_tup (pa_cons pe_int pa_nil))) pa_nil))) (pv 3) (fun _ _ => rfl))))))
    pss_nil)
    (C8.pss_cut (ps_if (PW.pt (pw_and (pt_val (pe_callB (call_isiV (K := K) rfl) (by rfl) T.m_isinstance (by decide +kernel) (pa_cons (pv 1) (pa_cons (pe_bltn (v := .ty "int") (by rfl) T.m_int (by decide +kernel) rfl) pa_nil)))) (pw_and1 (pt_cmpR op_lt (pv 3) pe_int (nomark _)))))
    (pss_one (ps_ret (pe_ix (ix_listV (K := K) rfl) (pe_lst (pa_cons (pe_op opX_add (pv 1) pe_int) (pa_cons (pe_op opX_sub (pv 1) pe_int) (pa_cons (pe_op opX_rsub pe_int (pv 1)) (pa_cons (pe_cmpR (op_eqD hr.units) (pv 1) pe_int (nomark _)) (pa_cons (pe_op opX_mulL pe_int (pv 1)) (pa_cons (pe_op opX_mulR (pv 1) (pe_op op_pow pe_int pe_int)) pa_nil))))))) (pv 3) (fun _ _ => rfl))))
    pss_nil)
    (C8.pss_cut (ps_if (PW.pt (pw_and (pt_val (pe_callB (call_isiV (K := K) rfl) (by rfl) T.m_isinstance (by decide +kernel) (pa_cons (pv 1) (pa_cons (pe_bltn (v := .ty "str") (by rfl) T.m_str (by decide +kernel) rfl) pa_nil)))) (pw_and1 (pt_cmpR op_lt (pv 3) pe_int (nomark _)))))
    (pss_one (ps_ret (pe_ix (ix_listV (K := K) rfl) (pe_lst (pa_cons (pe_op op_add_str (pv 1) pe_str) (pa_cons (pe_slice sl_str (pv 1) (po_some pe_int) po_none) (pa_cons (pe_upper (pv 1)) (pa_cons pe_str (pa_cons (pe_op op_add_str (pv 1) pe_str) (pa_cons pe_str pa_nil))))))) (pv 3) (fun _ _ => rfl))))
    pss_nil)
    (pss_cons (ps_set (i := 5) sc_Lspoilt.nd rfl (Or.inl rfl) (pe_lst (pa_cons pe_non (pa_cons pe_bl (pa_cons pe_int (pa_cons pe_int (pa_cons pe_str (pa_cons pe_str (pa_cons (pe_tup pa_nil) (pa_cons (pe_lst pa_nil) (pa_cons pe_dnewK (pa_cons (pe_tup (pa_cons pe_int (pa_cons pe_int pa_nil))) (pa_cons (pe_tup (pa_cons pe_int (pa_cons pe_int pa_nil))) (pa_cons (pe_tup (pa_cons (pe_lst pa_nil) pa_nil)) (pa_cons (pe_lst (pa_cons (pv 1) pa_nil)) (pa_cons (pe_tup (pa_cons (pv 1) pa_nil)) pa_nil))))))))))))))))
    (pss_one (ps_ret (pe_ix (ix_listV (K := K) rfl) (pv 5) (pe_call (ok_Ltake T) (hr.mono (by omega)) (by rfl) T.g_Ltake T.F_Ltake.kp T.b_Ltake .nil pass0 (pa_cons (pv 0) (pa_cons pe_int pa_nil))) (fun _ _ => rfl)))))))))), ?_⟩
    refine wCut (fun σ H' => σ = [some (.ref p), some v, none, none, none, none] ∧ Kp p H H' ∧ Pool H' p) ?_ ?_
    · walk_at "vv"
      refine wIsi (dv.dt.ex hide_ex).ty (kit_tup d) ?_
      cases ht : isT d with
      | false =>
        walk_at "vv"
        exact ⟨rfl, Kp.refl _ _, hP⟩
      | true =>
        obtain ⟨a, xs', ds, rfl, rfl, _, _⟩ := isT_tup dv.dt ht
        obtain ⟨a', xs, ev, ha, hd, hnn, hbd⟩ := dv.tup
        cases ev
        have l := hd.length
        have ap := hide_ne ha
        walk_at "vv"
        refine wLenT (SqT.of (hide_ex _ _ ha)) ?_
        walk_at "vv"
        refine ite2 (fun c => ?_) (fun c => ?_)
        · walk_at "vv"
          refine ⟨p, 5, rfl, hP, by omega, by omega, fun d1 H1 d10 d11 e1 hP1 => ?_⟩
          walk_at "vv"
          refine ite2 (fun c1 => ?_) (fun c1 => ?_)
          · walk_at "vv"
            have ha1 := e1 _ _ ap (hide_ex _ _ ha)
            have l0 : 0 < xs.length := by
              have := of_decide_eq_true c
              omega
            refine wLenT (SqT.of ha1) ?_
            walk_at "vv"
            refine ⟨p, (xs.length : Int), rfl, hP1, by omega, by omega, fun j H2 j0 j1 e2 hP2 => ?_⟩
            have ha2 := e2 _ _ ap ha1
            have K2 := e1.trans e2
            obtain ⟨i, rfl⟩ : ∃ i : Nat, j = (i : Int) := ⟨j.toNat, by omega⟩
            have il : i < ds.length := by omega
            obtain ⟨x, hx, dx⟩ := hd.get (List.getElem?_eq_getElem il)
            walk_at "vv"
            obtain ⟨n', rfl⟩ : ∃ n', n = n' + 1 := ⟨n - 1, by rw [dpt] at hn; omega⟩
            have mi : ds[i] ∈ ds := List.getElem_mem il
            have di := dpt_mem mi
            refine wSlT ha2 fun b3 H3 e3 f3 _ => ?_
            rw [cut_take] at f3
            have K3 := K2.trans e3.kp
            walk_at "vv"
            refine wIxT (SqT.of (e3 _ _ ha2)) (at_nat hx) ?_
            walk_at "vv"
            refine ⟨p, x, _, m, N, rfl, hP2.ex e3, ⟨dx.ex (Kp.hide K3), bdA_iff.mp hbd _ mi⟩, by omega, hm, hN, fun v' d' H4 e4 hP4 da' dp' => ?_⟩
            have K4 := K3.trans e4
            walk_at "vv"
            refine alI fun t5 H5 n5 e5 f5 => ?_
            have f3' := e5 _ _ (e4 _ _ (tup_ne f3 (hP2.ex e3)) f3)
            have ha5 := e5 _ _ (e4 _ _ ap (e3 _ _ ha2))
            refine wCatT f3' f5 (by rw [List.length_take]; simp; omega) fun c6 H6 e6 f6 _ => ?_
            walk_at "vv"
            refine wSlT (e6 _ _ ha5) fun b7 H7 e7 f7 _ => ?_
            rw [show (i : Int) + 1 = ((i + 1 : Nat) : Int) from rfl, cut_drop] at f7
            refine wCatT (e7 _ _ f6) f7 (by rw [List.length_append, List.length_take, List.length_drop]; simp; omega) fun c8 H8 e8 f8 _ => ?_
            have e48 := ((e5.trans e6).trans e7).trans e8
            have K8 := K4.trans e48.kp
            have hP8 := hP4.ex e48
            have q8 : DtA (hide p H8) (xs.take i ++ [v'] ++ xs.drop (i + 1)) (ds.take i ++ [d'] ++ ds.drop (i + 1)) :=
              (((hd.take i).ex (Kp.hide K8)).append (.cons (da'.dt.ex (Ex.hide e48)) .nil)).append ((hd.drop (i + 1)).ex (Kp.hide K8))
            have mm : ∀ e ∈ ds.take i ++ [d'] ++ ds.drop (i + 1), e ∈ ds ∨ e = d' := fun e he => by
              rcases List.mem_append.mp he with he | he
              · rcases List.mem_append.mp he with he | he
                · exact .inl (List.mem_of_mem_take he)
                · exact .inr (List.mem_singleton.mp he)
              · exact .inl (List.mem_of_mem_drop he)
            refine k _ _ _ K8 hP8 (da_t (hide_at (tup_ne f8 hP8) f8) q8 ?_ fun e he => ?_) ?_
            · rw [List.length_append, List.length_append, List.length_take, List.length_drop]
              simp
              omega
            · rcases mm e he with q | rfl
              · exact (bdA_iff.mp hbd e q).mono (by omega) (by omega)
              · exact da'.bd
            · rw [dpt]
              refine Nat.add_le_add_right (dptA_le.mpr fun e he => ?_) 1
              rcases mm e he with q | rfl
              · have := dpt_mem q
                omega
              · omega
          · walk_at "vv"
            exact ⟨rfl, e1, hP1⟩
        · walk_at "vv"
          exact ⟨rfl, Kp.refl _ _, hP⟩
    · rintro σ H1 ⟨rfl, K1, hP1⟩
      walk_at "vv"
      refine ⟨p, 9, rfl, hP1, by omega, by omega, fun pk H2 pk0 pk1 e2 hP2 => ?_⟩
      have K2 := K1.trans e2
      walk_at "vv"
      refine wCut (fun σ H' => σ = [some (.ref p), some v, none, some (.int pk), none, none] ∧ Kp p H H' ∧ Pool H' p) ?_ ?_
      · walk_at "vv"
        have dv2 := dv.dt.ex (Kp.hide K2)
        refine wIsi (dv2.ex hide_ex).ty (kit_tup d) ?_
        cases ht : isT d with
        | false =>
          walk_at "vv"
          exact ⟨rfl, K2, hP2⟩
        | true =>
          obtain ⟨a, xs', ds, rfl, rfl, _, _⟩ := isT_tup dv.dt ht
          obtain ⟨a', xs, ev, ha, hd, hnn, hbd⟩ := dv.tup
          cases ev
          have l := hd.length
          have ap := hide_ne ha
          have ha2 := K2 _ _ ap (hide_ex _ _ ha)
          walk_at "vv"
          refine wLenT (SqT.of ha2) ?_
          walk_at "vv"
          refine ite2 (fun c => ?_) (fun c => ?_)
          · walk_at "vv"
            refine ite2 (fun c1 => ?_) (fun c1 => ?_)
            · walk_at "vv"
              have l0 : 0 < xs.length := by
                have := of_decide_eq_true c
                omega
              have pk6 : pk < 6 := of_decide_eq_true c1
              refine wLenT (SqT.of ha2) ?_
              walk_at "vv"
              refine ⟨p, (xs.length : Int), rfl, hP2, by omega, by omega, fun j H3 j0 j1 e3 hP3 => ?_⟩
              have ha3 := e3 _ _ ap ha2
              have K3 := K2.trans e3
              obtain ⟨i, rfl⟩ : ∃ i : Nat, j = (i : Int) := ⟨j.toNat, by omega⟩
              clear e2 e3 ha2 dv2
              have hnn : ds.length ≤ N := hnn
              walk_at "vv"
              refine wSlT ha3 fun b1 H4 e4 f4 _ => ?_
              rw [cut_take] at f4
              walk_at "vv"
              refine wSlT (e4 _ _ ha3) fun b2 H5 e5 f5 _ => ?_
              rw [show (i : Int) + 1 = ((i + 1 : Nat) : Int) from rfl, cut_drop] at f5
              refine wCatT (e5 _ _ f4) f5 (by rw [List.length_take, List.length_drop]; omega) fun c1 H6 e6 f6 _ => ?_
              have E6 := (e4.trans e5).trans e6
              clear f4 f5 e4 e5 e6
              walk_at "vv"
              refine wSlT (E6 _ _ ha3) fun b3 H7 e7 f7 _ => ?_
              rw [show (i : Int) + 1 = ((i + 1 : Nat) : Int) from rfl, cut_take] at f7
              have E7 := E6.trans e7
              walk_at "vv"
              refine wSlT (E7 _ _ ha3) fun b4 H8 e8 f8 _ => ?_
              rw [cut_drop] at f8
              refine wCatT (e8 _ _ f7) f8 (by rw [List.length_take, List.length_drop]; omega) fun c2 H9 e9 f9 _ => ?_
              have e69 := (e7.trans e8).trans e9
              have f6 := e69 _ _ f6
              have E9 := E6.trans e69
              clear f7 f8 e7 e8 e9 e69 E6 E7
              walk_at "vv"
              refine wRevT ?_
              walk_at "vv"
              refine ⟨a, xs, rfl, SqT.of (E9 _ _ ha3), fun c3 hc3 => ?_⟩
              have e10 : Ex H9 (upd H9 c3 (.tup xs.reverse)) := Ex.new hc3
              have f10 : (upd H9 c3 (.tup xs.reverse)) c3 = some (.tup xs.reverse) := upd_same
              generalize upd H9 c3 (.tup xs.reverse) = H10 at e10 f10 ⊢
              have f6 := e10 _ _ f6
              have f9 := e10 _ _ f9
              have E10 := E9.trans e10
              clear E9 e10
              walk_at "vv"
              refine wSlT (E10 _ _ ha3) fun b5 H11 e11 f11 _ => ?_
              rw [show (1 : Int) = ((1 : Nat) : Int) from rfl, cut_drop] at f11
              have E11 := E10.trans e11
              walk_at "vv"
              refine wSlT (E11 _ _ ha3) fun b6 H12 e12 f12 _ => ?_
              rw [show (1 : Int) = ((1 : Nat) : Int) from rfl, cut_take] at f12
              refine wCatT (e12 _ _ f11) f12 (by rw [List.length_take, List.length_drop]; omega) fun c4 H13 e13 f13 _ => ?_
              have e1013 := (e11.trans e12).trans e13
              have f6 := e1013 _ _ f6
              have f9 := e1013 _ _ f9
              have f10 := e1013 _ _ f10
              have E13 := E10.trans e1013
              have hP13 := hP3.ex E13
              clear f11 f12 e11 e12 e13 e1013 E10 E11
              walk_at "vv"
              refine ⟨a, xs, rfl, .inr (SqT.of (E13 _ _ ha3)), fun c5 n14 => ?_⟩
              have e14 : Ex H13 (upd H13 c5 (.lst xs)) := Ex.new n14
              have f14 : (upd H13 c5 (.lst xs)) c5 = some (.lst xs) := upd_same
              generalize upd H13 c5 (.lst xs) = H14 at e14 f14 ⊢
              walk_at "vv"
              refine alI fun lo H15 n15 e15 f15 => ?_
              have e1315 := e14.trans e15
              have E15 := E13.trans e1315
              walk_at "vv"
              refine alI fun t16 H16 n16 e16 f16 => ?_
              refine wCatT ((E15.trans e16) _ _ ha3) f16 (by simp; omega) fun c6 H17 e17 f17 _ => ?_
              walk_at "vv"
              refine alI fun l18 H18 n18 e18 f18 => ?_
              have e1518 := (e16.trans e17).trans e18
              refine wCatL (e1518 _ _ f15) f18 (by simp) fun l19 H19 e19 f19 n19 => ?_
              have e1519 := e1518.trans e19
              have f6 := (e1315.trans e1519) _ _ f6
              have f9 := (e1315.trans e1519) _ _ f9
              have f10 := (e1315.trans e1519) _ _ f10
              have f13 := (e1315.trans e1519) _ _ f13
              have f14 := (e15.trans e1519) _ _ f14
              have f17 := (e18.trans e19) _ _ f17
              have E19 := E15.trans e1519
              have K19 := K3.trans E19.kp
              have hP19 := hP3.ex E19
              have hq : DtA (hide p H19) xs ds := hd.ex (Kp.hide K19)
              clear E15 E13 e1315 e1518 e1519 e14 e15 e16 e17 e18 e19
              walk_at "vv"
              have fin : ∀ c ys es, H19 c = some (.tup ys) → DtA (hide p H19) ys es → es.length ≤ ds.length + 1 → (∀ e ∈ es, e ∈ ds ∨ e = .int 0) → Q (.ref c) H19 := fun c ys es f q le me => by
                refine k _ _ _ K19 hP19 (da_t (hide_at (tup_ne f hP19) f) q (by omega) fun e he => ?_) ?_
                · rcases me e he with q | rfl
                  · exact (bdA_iff.mp hbd e q).mono (by omega) (by omega)
                  · show (0 : Int).natAbs < 2 ^ (m + 140)
                    exact Nat.two_pow_pos _
                · rw [dpt]
                  refine Nat.add_le_add_right (dptA_le.mpr fun e he => ?_) 1
                  rcases me e he with q | rfl
                  · have := dpt_mem q
                    omega
                  · exact Nat.zero_le _
              have m1 : ∀ (x y : List PyData), (∀ e ∈ x, e ∈ ds) → (∀ e ∈ y, e ∈ ds) → ∀ e ∈ x ++ y, e ∈ ds ∨ e = .int 0 := fun x y hx hy e he => by
                rcases List.mem_append.mp he with q | q
                · exact .inl (hx e q)
                · exact .inl (hy e q)
              have tk : ∀ j, ∀ e ∈ ds.take j, e ∈ ds := fun j e he => List.mem_of_mem_take he
              have dr : ∀ j, ∀ e ∈ ds.drop j, e ∈ ds := fun j e he => List.mem_of_mem_drop he
              obtain ⟨bv, hbv, hbm⟩ := at_ex (xs := [V.ref c1, .ref c2, .ref c3, .ref c4, .ref c5] ++ [V.ref c6]) pk0 (by show pk < 6; exact pk6)
              refine wIxL (SqL.of f19) hbv ?_
              simp only [List.cons_append, List.nil_append, List.mem_cons, List.not_mem_nil, or_false] at hbm
              rcases hbm with rfl | rfl | rfl | rfl | rfl | rfl
              · exact fin _ _ _ f6 ((hq.take i).append (hq.drop (i + 1))) (by rw [List.length_append, List.length_take, List.length_drop]; omega) (m1 _ _ (tk _) (dr _))
              · exact fin _ _ _ f9 ((hq.take (i + 1)).append (hq.drop i)) (by rw [List.length_append, List.length_take, List.length_drop]; omega) (m1 _ _ (tk _) (dr _))
              · exact fin _ _ _ f10 hq.reverse (by rw [List.length_reverse]; omega) fun e he => .inl (List.mem_reverse.mp he)
              · exact fin _ _ _ f13 ((hq.drop 1).append (hq.take 1)) (by rw [List.length_append, List.length_take, List.length_drop]; omega) (m1 _ _ (dr _) (tk _))
              · have c5p : c5 ≠ p := hP13.ne n14
                refine k _ (.list ds) _ K19 hP19 ⟨.lst (hide_at c5p f14) hq, by omega, bdA_iff.mpr fun e he => (bdA_iff.mp hbd e he).mono (by omega) (by omega)⟩ (Nat.zero_le _)
              · exact fin _ _ _ f17 (hq.append (.cons (.int 0) .nil)) (by simp) fun e he => by
                  rcases List.mem_append.mp he with q | q
                  · exact .inl q
                  · exact .inr (List.mem_singleton.mp q)
            · walk_at "vv"
              exact ⟨rfl, K2, hP2⟩
          · walk_at "vv"
            exact ⟨rfl, K2, hP2⟩
      · rintro σ H3 ⟨rfl, K3, hP3⟩
        refine wCut (fun σ H' => σ = [some (.ref p), some v, none, some (.int pk), none, none] ∧ Kp p H H' ∧ Pool H' p) ?_ ?_
        · walk_at "vv"
          have dv3 := (dv.dt.ex (Kp.hide K3)).ex hide_ex
          refine wIsi dv3.ty (kit_int d) ?_
          cases hb : (isI d || isB d) with
          | false =>
            walk_at "vv"
            exact ⟨rfl, K3, hP3⟩
          | true =>
            obtain ⟨i, hnv, hd, hpl, hdp⟩ := num_v dv3 hb
            have hbd : i.natAbs ≤ 2 ^ m := by
              rcases hd with rfl | ⟨_, h⟩
              · exact Nat.le_of_lt dv.bd
              · exact Nat.le_trans h (Nat.one_le_two_pow)
            have p1 : 2 ^ m * 2 ^ 140 = 2 ^ (m + 140) := (Nat.pow_add 2 m 140).symm
            have p0 : 0 < 2 ^ m := Nat.two_pow_pos m
            walk_at "vv"
            refine ite2 (fun c1 => ?_) (fun c1 => ?_)
            · have pk6 : pk < 6 := of_decide_eq_true c1
              walk_at "vv"
              refine ⟨i, 1, hnv, rfl, ?_⟩
              walk_at "vv"
              refine ⟨i, 1, hnv, rfl, ?_⟩
              walk_at "vv"
              refine ⟨0, i, hnv, rfl, ?_⟩
              walk_at "vv"
              refine ⟨d, .int 1, ⟨dv3, hpl, hdp⟩, ⟨.int 1, by simp [PyData.plain], by simp [PyData.depth]⟩, ?_⟩
              walk_at "vv"
              have hbw : i.natAbs < 2 ^ (m + 1) := by
                rw [Nat.pow_succ]
                omega
              refine ⟨2, i, hnv, rfl, wide_mul (a := 2) (by decide) hbw (by decide) (by omega) (by omega), ?_⟩
              walk_at "vv"
              refine ⟨i, 10 ^ 40, hnv, rfl, wide_mul (b := 140) hbw (by decide +kernel) (by omega) (by decide) (by omega), ?_⟩
              walk_at "vv"
              refine alI fun l4 H4 n4 e4 f4 => ?_
              have K4 := K3.trans e4.kp
              have hP4 := hP3.ex e4
              walk_at "vv"
              obtain ⟨bv, hbv, hbm⟩ := at_ex (xs := [V.int (i + 1), .int (i - 1), .int (0 - i), .bl (id (PyData.eqv d (.int 1))), .int (2 * i), .int (i * 10 ^ 40)]) pk0 (by show pk < 6; exact pk6)
              refine wIxL (SqL.of f4) hbv ?_
              have fin : ∀ j : Int, j.natAbs < 2 ^ (m + 140) → Q (.int j) H4 := fun j hj => k _ (.int j) _ K4 hP4 ⟨.int j, hj⟩ (Nat.zero_le _)
              simp only [List.mem_cons, List.not_mem_nil, or_false] at hbm
              rcases hbm with rfl | rfl | rfl | rfl | rfl | rfl
              · exact fin _ (by omega)
              · exact fin _ (by omega)
              · exact fin _ (by omega)
              · exact k _ (.bool _) _ K4 hP4 ⟨.bl _, trivial⟩ (Nat.zero_le _)
              · exact fin _ (by omega)
              · refine fin _ ?_
                rw [Int.natAbs_mul, ← p1]
                exact Nat.mul_lt_mul_of_le_of_lt hbd (by decide +kernel) p0
            · walk_at "vv"
              exact ⟨rfl, K3, hP3⟩
        · rintro σ H4 ⟨rfl, K4, hP4⟩
          refine wCut (fun σ H' => σ = [some (.ref p), some v, none, some (.int pk), none, none] ∧ Kp p H H' ∧ Pool H' p) ?_ ?_
          · walk_at "vv"
            have dv4 := (dv.dt.ex (Kp.hide K4)).ex hide_ex
            refine wIsi dv4.ty (kit_str d) ?_
            cases hs : isS d with
            | false =>
              walk_at "vv"
              exact ⟨rfl, K4, hP4⟩
            | true =>
              obtain ⟨z, rfl, rfl⟩ := isS_str dv4 hs
              have zl : z.length ≤ N := dv.bd
              have la : ("a" : Str).length = 1 := by decide +kernel
              have lb : (" " : Str).length = 1 := by decide +kernel
              walk_at "vv"
              refine ite2 (fun c1 => ?_) (fun c1 => ?_)
              · have pk6 : pk < 6 := of_decide_eq_true c1
                walk_at "vv"
                refine ⟨rfl, by omega, ?_⟩
                walk_at "vv"
                refine alI fun l5 H5 n5 e5 f5 => ?_
                have K5 := K4.trans e5.kp
                have hP5 := hP4.ex e5
                walk_at "vv"
                obtain ⟨bv, hbv, hbm⟩ := at_ex (xs := [V.str (z ++ ("a" : Str)), .str (cutS z (some 1) none), .str (Txt.upper z), .str "chest", .str (z ++ (" " : Str)), .str "zzzzzzzzz"]) pk0 (by show pk < 6; exact pk6)
                refine wIxL (SqL.of f5) hbv ?_
                have fin : ∀ y : Str, y.length ≤ 3 * N + 9 → Q (.str y) H5 := fun y hy => k _ (.str y) _ K5 hP5 ⟨.str y, hy⟩ (Nat.zero_le _)
                have q1 := cutS_length z (some 1) none
                have q2 := PyProof.Rows.len_upper z
                have q3 : ("chest" : Str).length = 5 := by decide +kernel
                have q4 : ("zzzzzzzzz" : Str).length = 9 := by decide +kernel
                simp only [List.mem_cons, List.not_mem_nil, or_false] at hbm
                rcases hbm with rfl | rfl | rfl | rfl | rfl | rfl
                · exact fin _ (by rw [app_len]; omega)
                · exact fin _ (by omega)
                · exact fin _ (by omega)
                · exact fin _ (by omega)
                · exact fin _ (by rw [app_len]; omega)
                · exact fin _ (by omega)
              · walk_at "vv"
                exact ⟨rfl, K4, hP4⟩
          · rintro σ H5 ⟨rfl, K5, hP5⟩
            walk_at "vv"
            refine alI fun a1 H6 n6 e6 f6 => ?_
            walk_at "vv"
            refine alI fun a2 H7 n7 e7 f7 => ?_
            walk_at "vv"
            refine alI fun a3 H8 n8 e8 f8 => ?_
            walk_at "vv"
            refine alI fun a4 H9 n9 e9 f9 => ?_
            walk_at "vv"
            refine alI fun a5 H10 n10 e10 f10 => ?_
            walk_at "vv"
            refine alI fun a6 H11 n11 e11 f11 => ?_
            walk_at "vv"
            refine alI fun a7 H12 n12 e12 f12 => ?_
            walk_at "vv"
            refine alI fun a8 H13 n13 e13 f13 => ?_
            walk_at "vv"
            refine alI fun a9 H14 n14 e14 f14 => ?_
            walk_at "vv"
            refine alI fun lo H15 n15 e15 f15 => ?_
            walk_at "vv"
            have lop : lo ≠ p := (((((((((hP5.ex e6).ex e7).ex e8).ex e9).ex e10).ex e11).ex e12).ex e13).ex e14).ne n15
            have hP15 := (((((((((hP5.ex e6).ex e7).ex e8).ex e9).ex e10).ex e11).ex e12).ex e13).ex e14).ex e15
            refine ⟨p, 14, rfl, hP15, by omega, by omega, fun d16 H16 d160 d161 e16 hP16 => ?_⟩
            have g14 : Kp p H14 H16 := e15.kp.trans e16
            have g13 := e14.kp.trans g14
            have g12 := e13.kp.trans g13
            have g11 := e12.kp.trans g12
            have g10 := e11.kp.trans g11
            have g9 := e10.kp.trans g10
            have g8 := e9.kp.trans g9
            have g7 := e8.kp.trans g8
            have g6 := e7.kp.trans g7
            have K16 := K5.trans (e6.kp.trans g6)
            have dv16 : Dt (hide p H16) v d := dv.dt.ex (Kp.hide K16)
            have p1 := hP5.ne n6
            have p2 := (hP5.ex e6).ne n7
            have p3 := ((hP5.ex e6).ex e7).ne n8
            have p4 := (((hP5.ex e6).ex e7).ex e8).ne n9
            have p5 := ((((hP5.ex e6).ex e7).ex e8).ex e9).ne n10
            have p6 := (((((hP5.ex e6).ex e7).ex e8).ex e9).ex e10).ne n11
            have p7 := ((((((hP5.ex e6).ex e7).ex e8).ex e9).ex e10).ex e11).ne n12
            have p8 := (((((((hP5.ex e6).ex e7).ex e8).ex e9).ex e10).ex e11).ex e12).ne n13
            have p9 := ((((((((hP5.ex e6).ex e7).ex e8).ex e9).ex e10).ex e11).ex e12).ex e13).ne n14
            have h1 := hide_at p1 (g6 _ _ p1 f6)
            have h2 := hide_at p2 (g7 _ _ p2 f7)
            have h3 := hide_at p3 (g8 _ _ p3 f8)
            have h4 := hide_at p4 (g9 _ _ p4 f9)
            have h5 := hide_at p5 (g10 _ _ p5 f10)
            have h6 := hide_at p6 (g11 _ _ p6 f11)
            have h7 := hide_at p7 (g12 _ _ p7 f12)
            have h8 := hide_at p8 (g13 _ _ p8 f13)
            have h9 := hide_at p9 (g14 _ _ p9 f14)
            have f16 := e16 _ _ lop f15
            have big : ∀ j : Nat, j ≤ 2 → j < 2 ^ (m + 140) := fun j hj => by
              rw [Nat.pow_add]
              have q1 : 0 < 2 ^ m := Nat.two_pow_pos m
              have q2 : 3 ≤ 2 ^ 140 := by decide +kernel
              have := Nat.mul_le_mul q1 q2
              omega
            clear f6 f7 f8 f9 f10 f11 f12 f13 f14 f15 n6 n7 n8 n9 n10 n11 n12 n13 n14 n15 e6 e7 e8 e9 e10 e11 e12 e13 e14 e15 g6 g7 g8 g9 g10 g11 g12 g13 g14
            have fin : ∀ (v' : V) (d' : PyData), Dt (hide p H16) v' d' → Bd (m + 140) (3 * N + 9) d' → dpt d' ≤ dpt d + 1 → Q v' H16 := fun v' d' q b dd => k _ _ _ K16 hP16 ⟨q, b⟩ dd
            have bdv := dv.bd.mono (show m ≤ m + 140 by omega) (show N ≤ 3 * N + 9 by omega)
            have s1 : ("a" : Str).length = 1 := by decide +kernel
            have s0 : ("" : Str).length = 0 := by decide +kernel
            obtain ⟨bv, hbv, hbm⟩ := at_ex (xs := [V.non, .bl true, .int 0, .int 1, .str "a", .str "", .ref a1, .ref a2, .ref a3, .ref a4, .ref a5, .ref a7, .ref a8, .ref a9]) d160 (by show d16 < 14; exact d161)
            refine wIxL (SqL.of f16) hbv ?_
            simp only [List.mem_cons, List.not_mem_nil, or_false] at hbm
            have z1 : ∀ {x : Nat}, 0 ≤ x := Nat.zero_le _
            rcases hbm with rfl | rfl | rfl | rfl | rfl | rfl | rfl | rfl | rfl | rfl | rfl | rfl | rfl | rfl
            · exact fin _ _ .non trivial z1
            · exact fin _ _ (.bl _) trivial z1
            · exact fin _ _ (.int _) (big 0 (by omega)) z1
            · exact fin _ _ (.int _) (big 1 (by omega)) z1
            · exact fin _ _ (.str _) (show ("a" : Str).length ≤ _ by omega) z1
            · exact fin _ _ (.str _) (show ("" : Str).length ≤ _ by omega) z1
            · exact fin _ (.tuple []) (.tup h1 .nil) ⟨z1, trivial⟩ (by simp [dpt, dptA])
            · exact fin _ (.list []) (.lst h2 .nil) ⟨z1, trivial⟩ z1
            · exact fin _ _ (.dct h3) trivial z1
            · exact fin _ _ (.tup h4 (.cons (.int 1) (.cons (.int 2) .nil))) ⟨by simp, big 1 (by omega), big 2 (by omega), trivial⟩ (by simp [dpt, dptA])
            · exact fin _ _ (.tup h5 (.cons (.int 0) (.cons (.int 1) .nil))) ⟨by simp, big 0 (by omega), big 1 (by omega), trivial⟩ (by simp [dpt, dptA])
            · exact fin _ _ (.tup h7 (.cons (.lst h6 .nil) .nil)) ⟨by simp, ⟨z1, trivial⟩, trivial⟩ (by simp [dpt, dptA])
            · exact fin _ _ (.lst h8 (.cons dv16 .nil)) ⟨by simp, bdv, trivial⟩ z1
            · exact fin _ _ (.tup h9 (.cons dv16 .nil)) ⟨by simp, bdv, trivial⟩ (by simp [dpt, dptA])
theorem ok_LspoiltN (T : Tx K mg A) : ∀ n, FnOk P w K mg base CX0 (n + 2) A.f_Lspoilt A.d_Lspoilt ["_law_pool_here", "_law_old"] (spSp n)
  | 0 => spoilt_step T 0 (T.F_Lspoilt.ok sc_Lspoilt (fun vs H Q E h => h.elim) (fun cdv A' outer s H vs Q E hr h => h.elim))
  | n + 1 => spoilt_step T (n + 1) (ok_LspoiltN T n)
theorem ok_Lspoilt (T : Tx K mg A) : FnOk P w K mg base CX0 7 A.f_Lspoilt A.d_Lspoilt ["_law_pool_here", "_law_old"] (spSp 5) := ok_LspoiltN T 5
def Row3 (r : PyData) : Prop := ∃ y z a, r = .tuple [.str y, .str z, a]
theorem web_parts {d : PyData} (w : WebP d) : ∃ ps gs ts, d = .tuple [.tuple ps, .tuple gs, .tuple ts] ∧ Strs ps ∧ (∀ r ∈ gs, Row3 r) ∧ ∀ r ∈ ts, Row3 r := by
  have h := w.web
  rw [← webL_eq] at h
  unfold webL at h
  split at h
  · rename_i ps gs ts
    simp only [Bool.and_eq_true] at h
    have row : ∀ xs, rowsL xs = true → ∀ r ∈ xs, Row3 r := fun xs hx r hr => by
      unfold rowsL at hx
      rw [Bool.and_eq_true] at hx
      exact rowL_rw (List.all_eq_true.mp hx.1 r hr)
    exact ⟨ps, gs, ts, rfl, fun d hd => isS_name (List.all_eq_true.mp h.1.1.1.1.1.1.2 d hd), row _ h.1.1.1.1.2, row _ h.1.1.1.2⟩
  · cases h
/-- what stands beside the pool at H -/
abbrev Dh (p : Addr) (H : Hp) (v : V) (d : PyData) : Prop := Dt (hide p H) v d
theorem dh_tup {p : Addr} {H : Hp} (hP : Pool H p) {b : Addr} {xs : List V} {ds : List PyData} (f : H b = some (.tup xs)) (q : DtA (hide p H) xs ds) : Dh p H (.ref b) (.tuple ds) := .tup (hide_at (tup_ne f hP) f) q
def spMore : Sp := fun vs H Q _ => ∃ (p : Addr) (v : V) (d : PyData), vs = [.ref p, v] ∧ Pool H p ∧ Dt (hide p H) v d ∧ WebP d ∧ ∀ v' d' H', Kp p H H' → Pool H' p → Da 14 82 (hide p H') v' d' → dpt d' ≤ 4 → Q v' H'
theorem ok_Lmore (T : Tx K mg A) : FnOk P w K mg base CX0 3 A.f_Lmore A.d_Lmore ["_law_pool_here", "_law_web_here"] spMore := by
  refine T.F_Lmore.ok sc_Lmore (fun vs H Q E h => ?_) (fun cdv A' outer s H vs Q E hr h => ?_)
  · obtain ⟨p, v, d, rfl, _⟩ := h
    rfl
  · obtain ⟨p, v, d, rfl, hP, dv, wp, k⟩ := h
    refine ⟨_, (pss_cons (ps_asg (pv 1) (pg_tupV (K := K) (n := 3) rfl rfl (pgs_cons (pg_name (i := 2) sc_Lmore.nd rfl (Or.inl rfl)) (pgs_cons (pg_name (i := 3) sc_Lmore.nd rfl (Or.inl rfl)) (pgs_cons (pg_name (i := 4) sc_Lmore.nd rfl (Or.inl rfl)) pgs_nil))) rfl))
    (pss_cons (ps_set (i := 5) sc_Lmore.nd rfl (Or.inl rfl) (pe_op op_cat (pe_callTy (call_list_ofV (K := K) rfl) (by rfl) T.m_list (by decide +kernel) (pa_cons (pv 2) pa_nil)) (pe_lst (pa_cons pe_str (pa_cons pe_str (pa_cons pe_str pa_nil))))))
    (pss_cons (ps_par (i := 6) (j := 7) (by rfl) sc_Lmore.nd rfl rfl (by decide) rfl rfl (pa_cons (pe_ix (ix_listV (K := K) rfl) (pv 5) (pe_call (ok_Ltake T) (hr.mono (by decide)) (by rfl) T.g_Ltake T.F_Ltake.kp T.b_Ltake .nil pass0 (pa_cons (pv 0) (pa_cons (pe_callB (call_lenV (K := K) rfl) (by rfl) T.m_len (by decide +kernel) (pa_cons (pv 5) pa_nil)) pa_nil))) (fun _ _ => rfl)) (pa_cons (pe_ix (ix_listV (K := K) rfl) (pv 5) (pe_call (ok_Ltake T) (hr.mono (by decide)) (by rfl) T.g_Ltake T.F_Ltake.kp T.b_Ltake .nil pass0 (pa_cons (pv 0) (pa_cons (pe_callB (call_lenV (K := K) rfl) (by rfl) T.m_len (by decide +kernel) (pa_cons (pv 5) pa_nil)) pa_nil))) (fun _ _ => rfl)) pa_nil)) (by rfl))
    (pss_cons (ps_set (i := 8) sc_Lmore.nd rfl (Or.inl rfl) (pe_lst (pa_cons (pe_tup (pa_cons pe_int (pa_cons pe_int pa_nil))) (pa_cons (pe_tup (pa_cons pe_int (pa_cons pe_int pa_nil))) (pa_cons (pe_tup (pa_cons pe_int (pa_cons pe_int pa_nil))) (pa_cons (pe_tup (pa_cons (pe_un un_neg pe_int) (pa_cons pe_int pa_nil))) (pa_cons (pe_tup (pa_cons pe_int (pa_cons pe_int pa_nil))) (pa_cons (pe_tup (pa_cons pe_int (pa_cons (pe_un un_neg pe_int) pa_nil))) (pa_cons (pe_lst (pa_cons pe_int (pa_cons pe_int pa_nil))) (pa_cons (pe_tup (pa_cons pe_bl (pa_cons pe_int pa_nil))) (pa_cons (pe_call (ok_Lmeasure T) (hr.mono (by decide)) (by rfl) T.g_Lmeasure T.F_Lmeasure.kp T.b_Lmeasure .nil pass0 (pa_cons (pv 0) pa_nil)) (pa_cons (pe_call (ok_Lmeasure T) (hr.mono (by decide)) (by rfl) T.g_Lmeasure T.F_Lmeasure.kp T.b_Lmeasure .nil pass0 (pa_cons (pv 0) pa_nil)) pa_nil))))))))))))
    (pss_cons (ps_asg (pe_tup (pa_cons (pe_ix (ix_listV (K := K) rfl) (pv 8) (pe_call (ok_Ltake T) (hr.mono (by decide)) (by rfl) T.g_Ltake T.F_Ltake.kp T.b_Ltake .nil pass0 (pa_cons (pv 0) (pa_cons pe_int pa_nil))) (fun _ _ => rfl)) (pa_cons (pe_call (ok_Ltake T) (hr.mono (by decide)) (by rfl) T.g_Ltake T.F_Ltake.kp T.b_Ltake .nil pass0 (pa_cons (pv 0) (pa_cons pe_int pa_nil))) pa_nil))) (pg_tupV (K := K) (n := 2) rfl rfl (pgs_cons (pg_name (i := 9) sc_Lmore.nd rfl (Or.inl rfl)) (pgs_cons (pg_name (i := 10) sc_Lmore.nd rfl (Or.inr rfl)) pgs_nil)) rfl))
    (C8.pss_cut (ps_set (i := 11) sc_Lmore.nd rfl (Or.inr rfl) (pe_ix (ix_listV (K := K) rfl) (pe_lst (pa_cons (pv 6) (pa_cons (pe_tup (pa_cons (pv 6) (pa_cons (pe_ix (ix_listV (K := K) rfl) (pe_lst (pa_cons pe_str (pa_cons pe_str (pa_cons pe_str (pa_cons pe_str (pa_cons (pv 7) pa_nil)))))) (pe_call (ok_Ltake T) (hr.mono (by decide)) (by rfl) T.g_Ltake T.F_Ltake.kp T.b_Ltake .nil pass0 (pa_cons (pv 0) (pa_cons pe_int pa_nil))) (fun _ _ => rfl)) (pa_cons (pv 9) pa_nil)))) (pa_cons (pe_tup (pa_cons (pv 6) (pa_cons (pv 7) (pa_cons (pv 9) pa_nil)))) pa_nil)))) (pv 10) (fun _ _ => rfl)))
    (pss_cons (ps_par (i := 12) (j := 13) (by rfl) sc_Lmore.nd rfl rfl (by decide) rfl rfl (pa_cons (pe_ix (ix_tupV (K := K) rfl) (pv 1) (pv 10) (fun _ _ => rfl)) (pa_cons (pe_call (ok_Ltake T) (hr.mono (by decide)) (by rfl) T.g_Ltake T.F_Ltake.kp T.b_Ltake .nil pass0 (pa_cons (pv 0) (pa_cons (pe_op op_add (pe_callB (call_lenV (K := K) rfl) (by rfl) T.m_len (by decide +kernel) (pa_cons (pe_ix (ix_tupV (K := K) rfl) (pv 1) (pv 10) (fun _ _ => rfl)) pa_nil)) pe_int) pa_nil))) pa_nil)) (by rfl))
    (pss_cons (ps_set (i := 14) sc_Lmore.nd rfl (Or.inl rfl) (pe_op (op_catTV (K := K) rfl) (pe_op (op_catTV (K := K) rfl) (pe_slice (sl_tupV (K := K) rfl) (pv 12) po_none (po_some (pv 13))) (pe_tup (pa_cons (pv 11) pa_nil))) (pe_slice (sl_tupV (K := K) rfl) (pv 12) (po_some (pv 13)) po_none)))
    (C8.pss_cut (ps_if (pt_cmpR op_gt (pe_call (ok_Ltake T) (hr.mono (by decide)) (by rfl) T.g_Ltake T.F_Ltake.kp T.b_Ltake .nil pass0 (pa_cons (pv 0) (pa_cons pe_int pa_nil))) pe_int (nomark _))
    (pss_cons (ps_set (i := 13) sc_Lmore.nd rfl (Or.inl rfl) (pe_callB (call_lenV (K := K) rfl) (by rfl) T.m_len (by decide +kernel) (pa_cons (pe_lc rfl sc_Lmore.nd (g := gName 15) (pi_tupV (K := K) rfl (pv 12)) (blkOk_by (own := [("_law_old", 15)]) (N := ["_law_pool_here", "_law_web_here", "_law_people", "_law_goods_here", "_law_links", "_law_ends", "_law_one", "_law_other", "_law_some", "_law_amount", "_law_kind", "_law_row", "_law_rows_here", "_law_at", "_law_longer", "_law_old"]) (sc := defScope s_Lmore) (by decide +kernel)) (fun _ _ _ _ _ => (pg_name (i := 15) sc_Lmore.nd rfl (Or.inl rfl))) (fun _ _ _ _ _ => pts_one (pt_cmpR (op_ltD hr.units) (pe_ifExp (pt_cmpR op_eq (pv 10) pe_int (nomark _)) (pv 15) (pe_slice (sl_tupV (K := K) rfl) (pv 15) po_none (po_some pe_int))) (pe_ifExp (pt_cmpR op_eq (pv 10) pe_int (nomark _)) (pv 11) (pe_slice (sl_tupV (K := K) rfl) (pv 11) po_none (po_some pe_int))) (nomark _))) (fun _ _ _ _ _ => (pv 15))) pa_nil)))
      (pss_one (ps_set (i := 14) sc_Lmore.nd rfl (Or.inl rfl) (pe_op (op_catTV (K := K) rfl) (pe_op (op_catTV (K := K) rfl) (pe_slice (sl_tupV (K := K) rfl) (pv 12) po_none (po_some (pv 13))) (pe_tup (pa_cons (pv 11) pa_nil))) (pe_slice (sl_tupV (K := K) rfl) (pv 12) (po_some (pv 13)) po_none)))))
    pss_nil)
    (pss_one (ps_ret (pe_op (op_catTV (K := K) rfl) (pe_op (op_catTV (K := K) rfl) (pe_slice (sl_tupV (K := K) rfl) (pv 1) po_none (po_some (pv 10))) (pe_tup (pa_cons (pv 14) pa_nil))) (pe_slice (sl_tupV (K := K) rfl) (pv 1) (po_some (pe_op op_add (pv 10) pe_int)) po_none))))))))))))), ?_⟩
    obtain ⟨ps, gs, ts, rfl, sp, rg, rt⟩ := web_parts wp
    obtain ⟨wa, wxs, rfl, hw, hd, _, hbd⟩ := (show Da 14 81 (hide p H) v _ from ⟨dv, wp.bd⟩).tup
    obtain ⟨x1, x2, x3, _, _, _, rfl, ee, q1, q2, q3⟩ := three_of hd (by rw [hd.length]; rfl)
    cases ee
    obtain ⟨pp, pxs, rfl, hpp, dp, lp, bp⟩ := (show Da 14 81 (hide p H) x1 (.tuple ps) from ⟨q1, bdA_iff.mp hbd _ (by simp)⟩).tup
    obtain ⟨gg, gxs, rfl, hgg, dg, lg, bg⟩ := (show Da 14 81 (hide p H) x2 (.tuple gs) from ⟨q2, bdA_iff.mp hbd _ (by simp)⟩).tup
    obtain ⟨tt, txs, rfl, htt, dt, lt, bt⟩ := (show Da 14 81 (hide p H) x3 (.tuple ts) from ⟨q3, bdA_iff.mp hbd _ (by simp)⟩).tup
    have wap := hide_ne hw
    have ppp := hide_ne hpp
    have l1 := dp.length
    walk_at "vv"
    refine wGTup (SqT.of (hide_ex _ _ hw)) rfl ?_
    walk_at "vv"
    refine ⟨pp, pxs, rfl, .inr (SqT.of (hide_ex _ _ hpp)), fun lc hlc => ?_⟩
    have e1 : Ex H (upd H lc (.lst pxs)) := Ex.new hlc
    have f1 : (upd H lc (.lst pxs)) lc = some (.lst pxs) := upd_same
    generalize upd H lc (.lst pxs) = H1 at e1 f1 ⊢
    walk_at "vv"
    refine alI fun l2 H2 n2 e2 f2 => ?_
    refine wCatL (e2 _ _ f1) f2 (by simp; omega) fun le H3 e3 f3 n3 => ?_
    have e13 := (e1.trans e2).trans e3
    have hP3 := hP.ex e13
    have lep : le ≠ p := (hP.ex (e1.trans e2)).ne n3
    have estr : ∀ x ∈ pxs ++ [V.str "chest", .str "nobody", .str "zz"], ∃ z, x = .str z ∧ z.length ≤ 81 := fun x hx => by
      rcases List.mem_append.mp hx with hx | hx
      · obtain ⟨d, hd', dx⟩ := dp.mem hx
        obtain ⟨z, rfl, rfl⟩ := isS_str dx (sp d hd')
        exact ⟨z, rfl, bdA_iff.mp bp _ hd'⟩
      · simp only [List.mem_cons, List.not_mem_nil, or_false] at hx
        rcases hx with rfl | rfl | rfl <;> exact ⟨_, rfl, by decide +kernel⟩
    have el : (pxs ++ [V.str "chest", .str "nobody", .str "zz"]).length ≤ 84 ∧ 3 ≤ (pxs ++ [V.str "chest", .str "nobody", .str "zz"]).length := by
      rw [List.length_append]
      simp
      omega
    generalize hE : pxs ++ [V.str "chest", .str "nobody", .str "zz"] = es at f3 estr el
    clear hE
    walk_at "vv"
    refine wLenL (SqL.of f3) ?_
    walk_at "vv"
    refine ⟨p, (es.length : Int), rfl, hP3, by omega, by omega, fun d4 H4 d40 d41 e4 hP4 => ?_⟩
    obtain ⟨v4, hv4, hm4⟩ := at_ex (xs := es) d40 (by omega)
    obtain ⟨one, rfl, onel⟩ := estr v4 hm4
    have f4 := e4 _ _ lep f3
    refine wIxL (SqL.of f4) hv4 ?_
    walk_at "vv"
    refine wLenL (SqL.of f4) ?_
    walk_at "vv"
    refine ⟨p, (es.length : Int), rfl, hP4, by omega, by omega, fun d5 H5 d50 d51 e5 hP5 => ?_⟩
    obtain ⟨v5, hv5, hm5⟩ := at_ex (xs := es) d50 (by omega)
    obtain ⟨oth, rfl, othl⟩ := estr v5 hm5
    have f5 := e5 _ _ lep f4
    refine wIxL (SqL.of f5) hv5 ?_
    have K5 : Kp p H H5 := (e13.kp.trans e4).trans e5
    clear e1 e2 e3 e4 e5 f1 f2 f3 f4 hv4 hv5 hm4 hm5 estr
    walk_at "vv"
    refine alI fun a1 H6 n6 e6 g1 => ?_
    walk_at "vv"
    refine alI fun a2 H7 n7 e7 g2 => ?_
    walk_at "vv"
    refine alI fun a3 H8 n8 e8 g3 => ?_
    walk_at "vv"
    refine alI fun a4 H9 n9 e9 g4 => ?_
    walk_at "vv"
    refine alI fun a5 H10 n10 e10 g5 => ?_
    walk_at "vv"
    refine alI fun a6 H11 n11 e11 g6 => ?_
    walk_at "vv"
    refine alI fun a7 H12 n12 e12 g7 => ?_
    walk_at "vv"
    refine alI fun a8 H13 n13 e13 g8 => ?_
    have e612 := (((((e6.trans e7).trans e8).trans e9).trans e10).trans e11)
    have hP13 := hP5.ex ((e612.trans e12).trans e13)
    walk_at "vv"
    refine ⟨p, rfl, hP13, fun v9 H14 e14 hP14 am9 => ?_⟩
    walk_at "vv"
    refine ⟨p, rfl, hP14, fun v10 H15 e15 hP15 am10 => ?_⟩
    walk_at "vv"
    refine alI fun ls H16 n16 e16 f16 => ?_
    walk_at "vv"
    refine ⟨p, 10, rfl, hP15.ex e16, by omega, by omega, fun d17 H17 d170 d171 e17 hP17 => ?_⟩
    have lsp : ls ≠ p := hP15.ne n16
    have p1 := hP5.ne n6
    have p2 := (hP5.ex e6).ne n7
    have p3 := (hP5.ex (e6.trans e7)).ne n8
    have p4 := (hP5.ex ((e6.trans e7).trans e8)).ne n9
    have p5 := (hP5.ex (((e6.trans e7).trans e8).trans e9)).ne n10
    have p6 := (hP5.ex ((((e6.trans e7).trans e8).trans e9).trans e10)).ne n11
    have p7 := (hP5.ex e612).ne n12
    have p8 := (hP5.ex (e612.trans e12)).ne n13
    have c15 : Kp p H15 H17 := e16.kp.trans e17
    have c14 := e15.trans c15
    have c13 := e14.trans c14
    have c12 := e13.kp.trans c13
    have c11 := e12.kp.trans c12
    have c10 := e11.kp.trans c11
    have c9 := e10.kp.trans c10
    have c8 := e9.kp.trans c9
    have c7 := e8.kp.trans c8
    have c6 := e7.kp.trans c7
    have K17 := K5.trans (e6.kp.trans c6)
    have h1 := hide_at p1 (c6 _ _ p1 g1)
    have h2 := hide_at p2 (c7 _ _ p2 g2)
    have h3 := hide_at p3 (c8 _ _ p3 g3)
    have h4 := hide_at p4 (c9 _ _ p4 g4)
    have h5 := hide_at p5 (c10 _ _ p5 g5)
    have h6 := hide_at p6 (c11 _ _ p6 g6)
    have h7 := hide_at p7 (c12 _ _ p7 g7)
    have h8 := hide_at p8 (c13 _ _ p8 g8)
    have m9 := am9.kp hP14 c14
    have m10 := am10.kp hP15 c15
    have f17 := e17 _ _ lsp f16
    have nmb : ∀ i : Int, i.natAbs ≤ 2 → i.natAbs < 2 ^ 14 := fun i h => Nat.lt_of_le_of_lt h (by decide +kernel)
    have two_i : ∀ (b : Addr) (i j : Int), hide p H17 b = some (.tup [.int i, .int j]) → i.natAbs < 2 ^ 14 → j.natAbs < 2 ^ 14 → ∃ ad, Dh p H17 (.ref b) ad ∧ Bd 14 82 ad ∧ dpt ad ≤ 1 := fun b i j h hi hj =>
      ⟨.tuple [.int i, .int j], .tup h (.cons (.int i) (.cons (.int j) .nil)), ⟨by simp, hi, hj, trivial⟩, by simp [dpt, dptA]⟩
    have mes : ∀ x, AmtAt H17 x → ∃ ad, Dh p H17 x ad ∧ Bd 14 82 ad ∧ dpt ad ≤ 1 := fun x hx => by
      obtain ⟨b, t, q, rfl, f, ms⟩ := hx
      refine two_i b t q (hide_at (tup_ne f hP17) f) ?_ ?_
      · have := ms.t0
        have := ms.tb
        omega
      · have := ms.q0
        have := ms.qb
        omega
    obtain ⟨am, ham, mam⟩ := at_ex (xs := [V.ref a1, .ref a2, .ref a3, .ref a4, .ref a5, .ref a6, .ref a7, .ref a8, v9, v10]) d170 (by show d17 < 10; exact d171)
    obtain ⟨ad, had, bad, dad⟩ : ∃ ad, Dh p H17 am ad ∧ Bd 14 82 ad ∧ dpt ad ≤ 1 := by
      simp only [List.mem_cons, List.not_mem_nil, or_false] at mam
      rcases mam with rfl | rfl | rfl | rfl | rfl | rfl | rfl | rfl | rfl | rfl
      · exact two_i _ _ _ h1 (by decide) (by decide)
      · exact two_i _ _ _ h2 (by decide) (by decide)
      · exact two_i _ _ _ h3 (by decide) (by decide)
      · exact two_i _ _ _ h4 (by decide) (by decide)
      · exact two_i _ _ _ h5 (by decide) (by decide)
      · exact two_i _ _ _ h6 (by decide) (by decide)
      · exact ⟨.list [.int 1, .int 2], .lst h7 (.cons (.int 1) (.cons (.int 2) .nil)), ⟨by simp, nmb 1 (by decide), nmb 2 (by decide), trivial⟩, Nat.zero_le _⟩
      · exact ⟨.tuple [.bool true, .int 1], .tup h8 (.cons (.bl true) (.cons (.int 1) .nil)), ⟨by simp, trivial, nmb 1 (by decide), trivial⟩, by simp [dpt, dptA]⟩
      · exact mes _ m9
      · exact mes _ m10
    refine wIxL (SqL.of f17) ham ?_
    clear h1 h2 h3 h4 h5 h6 h7 h8 g1 g2 g3 g4 g5 g6 g7 g8 f16 f17 c6 c7 c8 c9 c10 c11 c12 c13 c14 c15 e6 e7 e8 e9 e10 e11 e12 e13 e14 e15 e16 e17 e612 n6 n7 n8 n9 n10 n11 n12 n13 n16 m9 m10 am9 am10 p1 p2 p3 p4 p5 p6 p7 p8 mam ham hP13 hP14 hP15 two_i mes
    walk_at "vv"
    refine ⟨p, 3, rfl, hP17, by omega, by omega, fun kd H18 kd0 kd1 e18 hP18 => ?_⟩
    have K18 := K17.trans e18
    walk_at "vv"
    refine alI fun t19 H19 n19 e19 f19 => ?_
    refine wGTup (SqT.of f19) rfl ?_
    have K19 := K18.trans e19.kp
    have hP19 := hP18.ex e19
    have had := had.ex (Kp.hide (e18.trans e19.kp))
    walk_at "vv"
    refine wCut (fun σ H' => ∃ rv rd, σ = [some (.ref p), some (.ref wa), some (.ref pp), some (.ref gg), some (.ref tt), some (.ref le), some (.str one), some (.str oth), some (.ref ls), some am, some (.int kd), some rv, none, none, none, none] ∧ Kp p H H' ∧ Pool H' p ∧ Dh p H' rv rd ∧ Bd 14 82 rd ∧ dpt rd ≤ 2 ∧ (kd = 0 → isS rd = true) ∧ (kd ≠ 0 → Row3 rd)) ?_ ?_
    · walk_at "vv"
      refine alI fun l20 H20 n20 e20 f20 => ?_
      have l20p := hP19.ne n20
      walk_at "vv"
      refine ⟨p, 5, rfl, hP19.ex e20, by omega, by omega, fun d21 H21 d210 d211 e21 hP21 => ?_⟩
      obtain ⟨lv, hlv, mlv⟩ := at_ex (xs := [V.str "rye", .str "wheat", .str "new", .str "chest", .str oth]) d210 (by show d21 < 5; exact d211)
      obtain ⟨lot, rfl, lotl⟩ : ∃ z : Str, lv = .str z ∧ z.length ≤ 81 := by
        simp only [List.mem_cons, List.not_mem_nil, or_false] at mlv
        rcases mlv with rfl | rfl | rfl | rfl | rfl
        · exact ⟨_, rfl, by decide +kernel⟩
        · exact ⟨_, rfl, by decide +kernel⟩
        · exact ⟨_, rfl, by decide +kernel⟩
        · exact ⟨_, rfl, by decide +kernel⟩
        · exact ⟨_, rfl, othl⟩
      refine wIxL (SqL.of (e21 _ _ l20p f20)) hlv ?_
      walk_at "vv"
      refine alI fun r22 H22 n22 e22 f22 => ?_
      walk_at "vv"
      refine alI fun r23 H23 n23 e23 f23 => ?_
      walk_at "vv"
      refine alI fun l24 H24 n24 e24 f24 => ?_
      have k24 := (e20.kp.trans e21).trans ((e22.trans e23).trans e24).kp
      have K24 := K19.trans k24
      have hP24 := hP21.ex ((e22.trans e23).trans e24)
      have had := had.ex (Kp.hide k24)
      have f22 := (e23.trans e24) _ _ f22
      have f23 := e24 _ _ f23
      have row : ∀ (b : Addr) (z : Str), H24 b = some (.tup [.str one, .str z, am]) → z.length ≤ 81 → Dh p H24 (.ref b) (.tuple [.str one, .str z, ad]) ∧ Bd 14 82 (.tuple [.str one, .str z, ad]) ∧ dpt (.tuple [.str one, .str z, ad]) ≤ 2 := fun b z f hz =>
        ⟨dh_tup hP24 f (.cons (.str _) (.cons (.str _) (.cons had .nil))), ⟨by simp, show one.length ≤ 82 by omega, show z.length ≤ 82 by omega, bad, trivial⟩, by simp [dpt, dptA]; omega⟩
      walk_at "vv"
      rcases (show kd = 0 ∨ kd = 1 ∨ kd = 2 by omega) with rfl | rfl | rfl
      · refine wIxL (SqL.of f24) (at_of (j := 0) rfl rfl) ?_
        walk_at "vv"
        exact ⟨_, .str one, rfl, K24, hP24, .str one, show one.length ≤ 82 by omega, Nat.zero_le _, fun _ => rfl, fun h => absurd rfl h⟩
      · refine wIxL (SqL.of f24) (at_of (j := 1) rfl rfl) ?_
        walk_at "vv"
        obtain ⟨q1, q2, q3⟩ := row _ _ f22 lotl
        exact ⟨_, _, rfl, K24, hP24, q1, q2, q3, (fun h => by cases h), fun _ => ⟨_, _, _, rfl⟩⟩
      · refine wIxL (SqL.of f24) (at_of (j := 2) rfl rfl) ?_
        walk_at "vv"
        obtain ⟨q1, q2, q3⟩ := row _ _ f23 othl
        exact ⟨_, _, rfl, K24, hP24, q1, q2, q3, (fun h => by cases h), fun _ => ⟨_, _, _, rfl⟩⟩
    · rintro σ H20 ⟨rv, rd, rfl, K20, hP20, hrd, brd, drd, r0, r1⟩
      obtain ⟨kn, rfl⟩ : ∃ kn : Nat, kd = (kn : Int) := ⟨kd.toNat, by omega⟩
      have k3 : kn < 3 := by omega
      have r0 : kn = 0 → isS rd = true := fun h => r0 (by omega)
      have r1 : kn ≠ 0 → Row3 rd := fun h => r1 (by omega)
      have dm : ∀ xs, PyData.tuple xs ∈ [PyData.tuple ps, PyData.tuple gs, PyData.tuple ts] → ∀ e ∈ xs, dpt e ≤ 2 := fun xs hx e he => by
        have h1 := dpt_mem hx
        have h2 := dpt_mem he
        have h3 := wp.dp
        omega
      obtain ⟨wk, kxs, kds, hk, hwk, dk, lk, bk, ek, sk, rk⟩ : ∃ wk kxs kds, [V.ref pp, .ref gg, .ref tt][kn]? = some (.ref wk) ∧ hide p H wk = some (.tup kxs) ∧ DtA (hide p H) kxs kds ∧ kds.length ≤ 81 ∧ BdA 14 81 kds ∧ (∀ e ∈ kds, dpt e ≤ 2) ∧ (kn = 0 → Strs kds) ∧ (kn ≠ 0 → ∀ r ∈ kds, Row3 r) := by
        rcases (show kn = 0 ∨ kn = 1 ∨ kn = 2 by omega) with rfl | rfl | rfl
        · exact ⟨pp, pxs, ps, rfl, hpp, dp, lp, bp, dm _ (by simp), fun _ => sp, fun h => absurd rfl h⟩
        · exact ⟨gg, gxs, gs, rfl, hgg, dg, lg, bg, dm _ (by simp), (fun h => by cases h), fun _ => rg⟩
        · exact ⟨tt, txs, ts, rfl, htt, dt, lt, bt, dm _ (by simp), (fun h => by cases h), fun _ => rt⟩
      have lkx := dk.length
      have wkp := hide_ne hwk
      have hw0 := hide_ex _ _ hw
      have hwk0 := hide_ex _ _ hwk
      clear had bad dad f19 n19 e19 e18 hP18 K17 K18 K19 hP17 hP19
      walk_at "vv"
      refine wIxT (SqT.of (K20 _ _ wap hw0)) (at_nat hk) ?_
      walk_at "vv"
      refine wIxT (SqT.of (K20 _ _ wap hw0)) (at_nat hk) ?_
      walk_at "vv"
      refine wLenT (SqT.of (K20 _ _ wkp hwk0)) ?_
      walk_at "vv"
      refine ⟨p, (kxs.length : Int) + 1, rfl, hP20, by omega, by omega, fun aj H21 aj0 aj1 e21 hP21 => ?_⟩
      have K21 := K20.trans e21
      have hrd21 := hrd.ex (Kp.hide e21)
      obtain ⟨ai, rfl⟩ : ∃ ai : Nat, aj = (ai : Int) := ⟨aj.toNat, by omega⟩
      walk_at "vv"
      refine wSlT (K21 _ _ wkp hwk0) fun b22 H22 e22 f22 _ => ?_
      rw [cut_take] at f22
      walk_at "vv"
      refine alI fun b23 H23 n23 e23 f23 => ?_
      refine wCatT (e23 _ _ f22) f23 (by rw [List.length_take]; simp; omega) fun b24 H24 e24 f24 _ => ?_
      walk_at "vv"
      refine wSlT ((K21.trans ((e22.trans e23).trans e24).kp) _ _ wkp hwk0) fun b25 H25 e25 f25 _ => ?_
      rw [cut_drop] at f25
      refine wCatT (e25 _ _ f24) f25 (by rw [List.length_append, List.length_take, List.length_drop]; simp; omega) fun b26 H26 e26 f26 _ => ?_
      have e2126 := (((e22.trans e23).trans e24).trans e25).trans e26
      have K26 := K21.trans e2126.kp
      have hP26 := hP21.ex e2126
      have q26 : DtA (hide p H26) (kxs.take ai ++ [rv] ++ kxs.drop ai) (kds.take ai ++ [rd] ++ kds.drop ai) :=
        (((dk.take ai).ex (Kp.hide K26)).append (.cons (hrd21.ex (Ex.hide e2126)) .nil)).append ((dk.drop ai).ex (Kp.hide K26))
      have mmx : ∀ j, ∀ e ∈ kds.take j ++ [rd] ++ kds.drop j, e ∈ kds ∨ e = rd := fun j e he => by
        rcases List.mem_append.mp he with he | he
        · rcases List.mem_append.mp he with he | he
          · exact .inl (List.mem_of_mem_take he)
          · exact .inr (List.mem_singleton.mp he)
        · exact .inl (List.mem_of_mem_drop he)
      have llx : ∀ j, (kds.take j ++ [rd] ++ kds.drop j).length ≤ 82 := fun j => by
        rw [List.length_append, List.length_append, List.length_take, List.length_drop]
        simp
        omega
      have hrd26 := hrd21.ex (Ex.hide e2126)
      clear f22 f23 f24 f25 e22 e23 e24 e25 e26 e2126 n23 hrd hrd21 e21
      walk_at "vv"
      refine wCut (fun σ H' => ∃ v13 v15 lb lxs lds, σ = [some (.ref p), some (.ref wa), some (.ref pp), some (.ref gg), some (.ref tt), some (.ref le), some (.str one), some (.str oth), some (.ref ls), some am, some (.int (kn : Int)), some rv, some (.ref wk), v13, some (.ref lb), v15] ∧ Kp p H H' ∧ Pool H' p ∧ H' lb = some (.tup lxs) ∧ DtA (hide p H') lxs lds ∧ lds.length ≤ 82 ∧ ∀ e ∈ lds, e ∈ kds ∨ e = rd) ?_ ?_
      · walk_at "vv"
        refine ⟨p, 3, rfl, hP26, by omega, by omega, fun d27 H27 d270 d271 e27 hP27 => ?_⟩
        have K27 := K26.trans e27
        have hrd27 := hrd26.ex (Kp.hide e27)
        have f27 := e27 _ _ (tup_ne f26 hP26) f26
        walk_at "vv"
        refine ite2 (fun c => ?_) (fun c => ?_)
        · have hwk27 := K27 _ _ wkp hwk0
          walk_at "vv"
          refine exSt (SqT.of hwk27) ?_
          intro D hD
          refine lc_tup (K := K) (a := wk) (xs := kxs) (fun i Hx => Ex H27 Hx ∧ ∃ acc, Hx D = some (.lst acc) ∧ acc.length ≤ i) ⟨Ex.new hD, [], upd_same, Nat.le_refl _⟩ (fun i Hx _ P => SqT.of (P.1 _ _ hwk27)) (fun i x Hx hx P => ?_) (fun Hx P => ?_)
          · obtain ⟨ex, acc, hacc, la⟩ := P
            obtain ⟨e, hei, de⟩ := dk.at_ hx
            have de := (de.ex (Kp.hide K27)).ex (hide_ex.trans ex)
            have me := List.mem_of_getElem? hei
            have hr := hrd27.ex (hide_ex.trans ex)
            have il : i < kxs.length := (List.getElem?_eq_some_iff.mp hx).1
            walk_at "vv"
            refine ⟨rfl, ?_⟩
            walk_at "vv"
            by_cases k0 : kn = 0
            · subst k0
              obtain ⟨y, rfl, rfl⟩ := isS_str de (sk rfl e me)
              obtain ⟨z, rfl, rfl⟩ := isS_str hr (r0 rfl)
              walk_at "ww"
              have d0 : decide (V.int ((0 : Nat) : Int) = V.int 0) = true := by decide +kernel
              rw [d0]
              walk_at "vv"
              rw [d0]
              walk_at "vv"
              refine lt_strs ?_
              walk_at "vv"
              refine ite2 (fun c5 => ?_) (fun c5 => ?_)
              · walk_at "vv"
                exact ⟨acc, hacc, sz6' (by omega), ex.mut hD, _, upd_same, by rw [List.length_append]; simp; omega⟩
              · exact ⟨ex, acc, hacc, by omega⟩
            · have d0 : decide (V.int ((kn : Nat) : Int) = V.int 0) = false := decide_eq_false fun q => k0 (by have := V.int.inj q; omega)
              obtain ⟨c1, y1, z1, ys1, es1, rfl, rfl, hc1, _⟩ := (show Rw e from by
                obtain ⟨y, z, a, q⟩ := rk k0 e me
                exact ⟨y, z, [a], q⟩).at_ de
              obtain ⟨c2, y2, z2, ys2, es2, rfl, rfl, hc2, _⟩ := (show Rw rd from by
                obtain ⟨y, z, a, q⟩ := r1 k0
                exact ⟨y, z, [a], q⟩).at_ hr
              rw [d0]
              walk_at "vv"
              refine wSlT hc1 fun b31 H31 e31 f31 _ => ?_
              rw [show (2 : Int) = ((2 : Nat) : Int) from rfl, cut_take] at f31
              walk_at "vv"
              rw [d0]
              walk_at "vv"
              refine wSlT (e31 _ _ hc2) fun b32 H32 e32 f32 _ => ?_
              rw [show (2 : Int) = ((2 : Nat) : Int) from rfl, cut_take] at f32
              refine lt_pairs (e32 _ _ f31) f32 ?_
              have ex32 := (ex.trans e31).trans e32
              have hacc32 := (e31.trans e32) _ _ hacc
              walk_at "vv"
              refine ite2 (fun c5 => ?_) (fun c5 => ?_)
              · walk_at "vv"
                exact ⟨acc, hacc32, sz6' (by omega), ex32.mut hD, _, upd_same, by rw [List.length_append]; simp; omega⟩
              · exact ⟨ex32, acc, hacc32, by omega⟩
          · obtain ⟨ex, acc, hacc, la⟩ := P
            have Kx := K27.trans ex.kp
            have hPx := hP27.ex ex
            have hrdx := hrd27.ex (Ex.hide ex)
            walk_at "vv"
            refine wLenL (SqL.of hacc) ?_
            walk_at "vv"
            refine wSlT (Kx _ _ wkp hwk0) fun b22 H22 e22 f22 _ => ?_
            rw [cut_take] at f22
            walk_at "vv"
            refine alI fun b23 H23 n23 e23 f23 => ?_
            refine wCatT (e23 _ _ f22) f23 (by rw [List.length_take]; simp; omega) fun b24 H24 e24 f24 _ => ?_
            walk_at "vv"
            refine wSlT ((Kx.trans ((e22.trans e23).trans e24).kp) _ _ wkp hwk0) fun b25 H25 e25 f25 _ => ?_
            rw [cut_drop] at f25
            refine wCatT (e25 _ _ f24) f25 (by rw [List.length_append, List.length_take, List.length_drop]; simp; omega) fun b28 H28 e28 f28 _ => ?_
            have ex28 := (((e22.trans e23).trans e24).trans e25).trans e28
            have K28 := Kx.trans ex28.kp
            have q28 : DtA (hide p H28) (kxs.take acc.length ++ [rv] ++ kxs.drop acc.length) (kds.take acc.length ++ [rd] ++ kds.drop acc.length) :=
              (((dk.take _).ex (Kp.hide K28)).append (.cons (hrdx.ex (Ex.hide ex28)) .nil)).append ((dk.drop _).ex (Kp.hide K28))
            walk_at "vv"
            exact ⟨_, _, _, _, _, rfl, K28, hPx.ex ex28, f28, q28, llx _, mmx _⟩
        · walk_at "vv"
          exact ⟨_, _, _, _, _, rfl, K27, hP27, f27, q26.ex (Kp.hide e27), llx _, mmx _⟩
      · rintro σ H27 ⟨v13, v15, lb, lxs, lds, rfl, K27, hP27, f27, q27, l27, m27⟩
        have hw27 := K27 _ _ wap hw0
        have hd27 := hd.ex (Kp.hide K27)
        walk_at "vv"
        refine wSlT hw27 fun b22 H22 e22 f22 _ => ?_
        rw [cut_take] at f22
        walk_at "vv"
        refine alI fun b23 H23 n23 e23 f23 => ?_
        refine wCatT (e23 _ _ f22) f23 (by rw [List.length_take]; simp; omega) fun b24 H24 e24 f24 _ => ?_
        walk_at "vv"
        refine wSlT (((e22.trans e23).trans e24) _ _ hw27) fun b25 H25 e25 f25 _ => ?_
        rw [show (kn : Int) + 1 = ((kn + 1 : Nat) : Int) from rfl, cut_drop] at f25
        refine wCatT (e25 _ _ f24) f25 (by rw [List.length_append, List.length_take, List.length_drop]; simp; omega) fun b28 H28 e28 f28 _ => ?_
        have ex28 := (((e22.trans e23).trans e24).trans e25).trans e28
        have K28 := K27.trans ex28.kp
        have hP28 := hP27.ex ex28
        have dl : Dh p H28 (.ref lb) (.tuple lds) := dh_tup hP28 (ex28 _ _ f27) (q27.ex (Ex.hide ex28))
        have q28 : DtA (hide p H28) ([V.ref pp, .ref gg, .ref tt].take kn ++ [V.ref lb] ++ [V.ref pp, .ref gg, .ref tt].drop (kn + 1)) ([PyData.tuple ps, .tuple gs, .tuple ts].take kn ++ [.tuple lds] ++ [PyData.tuple ps, .tuple gs, .tuple ts].drop (kn + 1)) :=
          (((hd27.take kn).ex (Ex.hide ex28)).append (.cons dl .nil)).append ((hd27.drop (kn + 1)).ex (Ex.hide ex28))
        have mem : ∀ e ∈ [PyData.tuple ps, .tuple gs, .tuple ts].take kn ++ [.tuple lds] ++ [PyData.tuple ps, .tuple gs, .tuple ts].drop (kn + 1), e ∈ [PyData.tuple ps, .tuple gs, .tuple ts] ∨ e = .tuple lds := fun e he => by
          rcases List.mem_append.mp he with he | he
          · rcases List.mem_append.mp he with he | he
            · exact .inl (List.mem_of_mem_take he)
            · exact .inr (List.mem_singleton.mp he)
          · exact .inl (List.mem_of_mem_drop he)
        have bl : Bd 14 82 (.tuple lds) := ⟨l27, bdA_iff.mpr fun e he => by
          rcases m27 e he with q | rfl
          · exact (bdA_iff.mp bk e q).mono (by omega) (by omega)
          · exact brd⟩
        have dl3 : dpt (.tuple lds) ≤ 3 := by
          rw [dpt]
          refine Nat.add_le_add_right (dptA_le.mpr fun e he => ?_) 1
          rcases m27 e he with q | rfl
          · exact ek e q
          · exact drd
        refine k _ _ _ K28 hP28 (da_t (hide_at (tup_ne f28 hP28) f28) q28 ?_ fun e he => ?_) ?_
        · rw [List.length_append, List.length_append, List.length_take, List.length_drop]
          simp
          omega
        · rcases mem e he with q | rfl
          · exact (bdA_iff.mp hbd e q).mono (by omega) (by omega)
          · exact bl
        · rw [dpt]
          refine Nat.add_le_add_right (dptA_le.mpr fun e he => ?_) 1
          rcases mem e he with q | rfl
          · have := dpt_mem q
            have := wp.dp
            omega
          · exact dl3
mutual
theorem reads_flat {h : Heap} : ∀ {d : PyData} {v : Value} {as : List Addr}, Reads h v d as → flatT d = true → as = []
  | .int _, _, _, r, _ => by cases r; rfl
  | .str _, _, _, r, _ => by cases r; rfl
  | .tuple ds, _, _, r, e => by
    cases r with
    | tuple _ _ _ q => exact readsA_flat q (by simpa [flatT] using e)
  | .none, _, _, _, e => by simp [flatT] at e
  | .bool _, _, _, _, e => by simp [flatT] at e
  | .list _, _, _, _, e => by simp [flatT] at e
  | .dict _, _, _, _, e => by simp [flatT] at e
theorem readsA_flat {h : Heap} : ∀ {ds : List PyData} {vs : List Value} {as : List Addr}, ReadsAll h vs ds as → flatA ds = true → as = []
  | [], _, _, q, _ => by cases q; rfl
  | d :: ds, _, _, q, e => by
    rw [flatA, Bool.and_eq_true] at e
    cases q with
    | cons q1 q2 =>
      rw [reads_flat q1 e.1, readsA_flat q2 e.2]
      rfl
end
/-- sorted(t), t a tuple of data without lists -/
def rSortedT (K : PySem.W.Frag) : List V → Hp → VK → Prop := fun vs H Q => ∃ (a : Addr) (bs : List (V × PyData)), vs = [.ref a] ∧ SqT K H a (bs.map (·.1)) ∧ (∀ b ∈ bs, Dt H b.1 b.2 ∧ b.2.depth ≤ 40 ∧ flatT b.2 = true) ∧
  PySem.W.AllAlike (bs.map (·.2)) ∧ PySem.W.Sortable (bs.map (·.2)) ∧ Al Q (.lst ((bs.mergeSort (PySem.W.dataLe false (·.2))).map (·.1))) H
theorem cr_sortedT {X : Cx} {K : PySem.W.Frag} (hK : X.K = K) (room : X.A.units + 64 < cLine) : CallR X (.builtin "sorted") (rSortedT K) := by
  subst hK
  intro pins s σ H vs us Q I r want
  obtain ⟨a, bs, rfl, sq, each, al, so, q⟩ := want
  obtain ⟨its, rv, ⟨o, ho, hc, n, hd⟩, hz⟩ := I.tuple sq
  rw [Vals.ref1 r]
  have len : bs.length ≤ sizeLine := by simpa using hz
  have li : its.length = bs.length := by
    have := rv.length
    rw [List.length_map] at this
    exact this.symm
  refine Calls.call_function_entry PyProof.Rows.kind_sorted PyProof.Rows.plain_sorted PyProof.Rows.entry_sorted (PyProof.Rows.args_sorted1 _) (by
    unfold Builtin.«sorted»
    refine wpAny_bind (m := checkCount "sorted" 1 1 _) (wpAny_pure (wpAny_bind (wpAny_collect_seq a (.inr rfl) ho hc hd (fun g keep => ?_) (by simpa [li] using len))))
    have I1 : Inv X pins σ H { s with heap := g } := I.kept (t' := s.toks) keep
    refine wpAny_bind (wpAny_newList ?_ (by simpa [li] using len))
    have hL : (g.push (seqObj "list" its.toArray.toList.toArray 0)).get? g.objs.size = some (seqObj "list" its.toArray.toList.toArray 0) := Heap.get?_push_size _ rfl
    have et : its.toArray.toList = its := by simp
    have e1 : PySem.W.EachIs (fun u b => RelV b.1 u) its bs := each_of rv fun _ _ _ h => h
    have er : PySem.W.EachIs (fun u b => ∃ as, Reads (g.push (seqObj "list" its.toArray.toList.toArray 0)) u b.2 as ∧ g.objs.size ∉ as) its bs := each_of rv fun b hb u h => by
      obtain ⟨as, rd⟩ := (each b hb).1.reads (u := u) I1.hok h
      have e0 := reads_flat rd (each b hb).2.2
      exact ⟨as, PyProof.Rows.Reads.keeps (fun _ _ e => Heap.get?_push_of_some _ e) rd, by rw [e0]; simp⟩
    refine wpAny_bind (wpAny_holding (PySem.W.list_sort_data (enc := fun b : V × PyData => b.2) (s := { s with heap := g.push (seqObj "list" its.toArray.toList.toArray 0) }) hL (et.symm ▸ e1) (et.symm ▸ er) al so len (fun b hb => ?_) fun out h1 h2 => ?_))
    · have := (each b hb).2.1
      show X.A.in1.units + 1 + _ < cLine
      have u1 : X.A.in1.units ≤ X.A.units + 2 := by simp [Around.in1, Around.units]
      omega
    · obtain ⟨c, hc2⟩ := PyProof.Rows.sortedHeap_at (vs := its.toArray.toList) (out := out.toArray) hL
      refine wpAny_pure ⟨_, rfl, .ref g.objs.size, upd H g.objs.size (.lst ((bs.mergeSort (PySem.W.dataLe false (·.2))).map (·.1))), I1.laid (t' := s.toks) (fun b u e => ?_) (Nat.le_refl _)
        ⟨?_, out, c, vals_each h2, hc2⟩, rfl, q _ (I1.hok.fresh (Nat.le_refl _))⟩
      · have hb : b < g.objs.size := Heap.lt_size e
        rw [PyProof.Rows.sortedHeap_old (Nat.ne_of_lt hb) (by rw [size_push']; exact Nat.lt_succ_of_lt hb)]
        exact Heap.get?_push_of_some _ e
      · rw [List.length_map, List.length_mergeSort]
        omega)
/-- tuple(z), z a text -/
theorem call_tupleS {X : Cx} (hc : X.calm = true) : CallR X (.type "tuple") (fun xs H Q => ∃ z : Str, xs = [.str z] ∧ z.cps.size ≤ 1000 ∧ Al Q (.tup (z.cps.toList.map fun c => V.str ⟨#[c]⟩)) H) := by
  intro pins s σ H xs us Q I r want
  obtain ⟨z, rfl, hz, q⟩ := want
  obtain ⟨u, rfl, rx⟩ := r.one
  obtain ⟨t, rfl⟩ := rx
  refine PySem.call_tuple_str (I.ok.hd hc) z t (fun h' tk acc keep items => ?_) (Nat.le_trans hz (by decide))
  have I1 : Inv X pins σ H { s with heap := h', toks := tk } := I.kept keep
  have sz : acc.toList.length = z.cps.size := by rw [Array.length_toList]; exact items.1
  have rv : Vals (z.cps.toList.map fun c => V.str ⟨#[c]⟩) acc.toList := vals_of_at (by rw [List.length_map, Array.length_toList, sz]) fun j x w h1 h2 => by
    rw [List.getElem?_map, Array.getElem?_toList] at h1
    obtain ⟨c, hc, rfl⟩ := Option.map_eq_some_iff.mp h1
    obtain ⟨c', t', hc', rfl⟩ := items.2 j w (by rw [← Array.getElem?_toList]; exact h2)
    rw [hc] at hc'
    cases hc'
    exact ⟨t', rfl⟩
  have I2 : Inv X pins σ (upd H h'.objs.size (.tup (z.cps.toList.map fun c => V.str ⟨#[c]⟩))) { s with heap := h'.push { cls := .type "tuple", data := .seq acc }, toks := tk } :=
    I1.laid (t' := tk) (fun b o e => Heap.get?_push_of_some _ e) (Nat.le_refl _) (show ObjOk X.prog X.w _ _ _ (.tup _) from ⟨by rw [List.length_map, Array.length_toList]; exact Nat.le_trans hz (by decide), acc.toList, rv, IsTup.new _ _⟩)
  exact ⟨.ref h'.objs.size, _, I2, rfl, q _ (I1.hok.fresh (Nat.le_refl _))⟩
def spTold : Sp := fun vs H Q _ => ∃ v d, vs = [v] ∧ Da M0 N0 H v d ∧ ∀ H', Ex H H' → Q (.bl true) H'
theorem ok_Ltold (T : Tx K mg A) : FnOk P w K mg base CX0 7 A.f_Ltold A.d_Ltold ["_law_thing"] spTold := by
  refine T.F_Ltold.ok sc_Ltold (fun vs H Q E h => ?_) (fun cdv A' outer s H vs Q E hr h => ?_)
  · obtain ⟨v, d, rfl, _⟩ := h
    rfl
  · obtain ⟨v, d, rfl, dv, k⟩ := h
    refine ⟨_, (pss_cons (ps_set (i := 1) sc_Ltold.nd rfl (Or.inl rfl) (pe_call (ok_is_web T) (hr.mono (by decide)) (by rfl) T.g_is_web T.F_is_web.kp T.b_is_web .nil pass0 (pa_cons (pv 0) pa_nil)))
    (pss_one (ps_ret (pe_and (pe_callB (call_isiV (K := K) rfl) (by rfl) T.m_isinstance (by decide +kernel) (pa_cons (pv 1) (pa_cons (pe_bltn (v := .ty "bool") (by rfl) T.m_bool (by decide +kernel) rfl) pa_nil))) (pe_one (pe_cmpR op_eq (pv 1) (pe_call (ok_Lis_web T) (hr.mono (by decide)) (by rfl) T.g_Lis_web T.F_Lis_web.kp T.b_Lis_web .nil pass0 (pa_cons (pv 0) pa_nil)) (nomark _))))))), ?_⟩
    walk_at "vv"
    refine ⟨v, d, rfl, dv, fun H1 e1 => ?_⟩
    walk_at "vv"
    refine ⟨v, d, rfl, dv.ex e1, fun H2 e2 => ?_⟩
    walk_at "vv"
    rw [webL_eq, decide_eq_true rfl]
    exact k _ (e1.trans e2)
/-- a row of data -/
def Row (H : Hp) (xs : List V) : Prop := ∀ x ∈ xs, ∃ d, Da M0 N0 H x d
theorem Row.ex {H G : Hp} {xs : List V} (h : Row H xs) (e : Ex H G) : Row G xs := fun x hx => by
  obtain ⟨d, dd⟩ := h x hx
  exact ⟨d, dd.ex e⟩
theorem Row.mut {H G : Hp} {l : Addr} {xs : List V} {o : HO} (h : Row H xs) (n : H l = none) (e : Ex H G) : Row (upd G l o) xs := h.ex (e.mut n)
theorem Row.app {H : Hp} {xs ys : List V} (h : Row H xs) (h' : Row H ys) : Row H (xs ++ ys) := fun x hx => (List.mem_append.mp hx).elim (h x) (h' x)
theorem hide_upd {p : Addr} {H : Hp} {o : HO} : hide p (upd H p o) = hide p H := by
  funext a
  unfold hide
  by_cases e : a = p
  · rw [if_pos e, if_pos e]
  · rw [if_neg e, if_neg e, upd_ne e]
def RowD (d : PyData) : Prop := ∃ (y z : Str) (t q : Int), d = .tuple [.str y, .str z, .tuple [.int t, .int q]] ∧ y.length ≤ 9 ∧ z.length ≤ 9 ∧ t.natAbs < 2 ^ 200 ∧ q.natAbs < 2 ^ 200
theorem RowD.bd {d : PyData} (h : RowD d) : Bd 200 9 d := by
  obtain ⟨y, z, t, q, rfl, h1, h2, h3, h4⟩ := h
  exact ⟨by simp, h1, h2, ⟨by simp, h3, h4, trivial⟩, trivial⟩
theorem RowD.fl {d : PyData} (h : RowD d) : flatT d = true ∧ d.depth ≤ 40 := by
  obtain ⟨y, z, t, q, rfl, h1, h2, h3, h4⟩ := h
  exact ⟨by simp [flatT, flatA], by simp [PyData.depth, PyData.depthAll]⟩
def RA (H : Hp) (v : V) : Prop := ∃ (r c : Addr) (y z : Str) (t q : Int), v = .ref r ∧ H r = some (.tup [.str y, .str z, .ref c]) ∧ H c = some (.tup [.int t, .int q]) ∧ y.length ≤ 9 ∧ z.length ≤ 9 ∧ t.natAbs < 2 ^ 200 ∧ q.natAbs < 2 ^ 200
theorem RA.ex {H G : Hp} {v : V} (h : RA H v) (e : Ex H G) : RA G v := by
  obtain ⟨r, c, y, z, t, q, rfl, h1, h2, b⟩ := h
  exact ⟨r, c, y, z, t, q, rfl, e _ _ h1, e _ _ h2, b⟩
theorem RA.upd {H : Hp} {v : V} {D : Addr} {xs : List V} {o : HO} (h : RA H v) (hD : H D = some (.lst xs)) : RA (upd H D o) v := by
  obtain ⟨r, c, y, z, t, q, rfl, h1, h2, b⟩ := h
  exact ⟨r, c, y, z, t, q, rfl, (upd_ne fun e => by rw [e, hD] at h1; cases h1).trans h1, (upd_ne fun e => by rw [e, hD] at h2; cases h2).trans h2, b⟩
theorem RA.hide {H : Hp} {v : V} {D : Addr} {xs : List V} (h : RA H v) (hD : H D = some (.lst xs)) : RA (Ver.hide D H) v := by
  obtain ⟨r, c, y, z, t, q, rfl, h1, h2, b⟩ := h
  exact ⟨r, c, y, z, t, q, rfl, hide_at (fun e => by rw [e, hD] at h1; cases h1) h1, hide_at (fun e => by rw [e, hD] at h2; cases h2) h2, b⟩
theorem RA.dt {H : Hp} {v : V} (h : RA H v) : ∃ d, Dt H v d ∧ RowD d := by
  obtain ⟨r, c, y, z, t, q, rfl, h1, h2, b⟩ := h
  exact ⟨_, .tup h1 (.cons (.str y) (.cons (.str z) (.cons (.tup h2 (.cons (.int t) (.cons (.int q) .nil))) .nil))), y, z, t, q, rfl, b⟩
theorem rows_data {H : Hp} : ∀ {ws : List V}, (∀ v ∈ ws, RA H v) → ∃ ds, DtA H ws ds ∧ ∀ d ∈ ds, RowD d
  | [], _ => ⟨[], .nil, fun d h => (nomatch h)⟩
  | v :: ws, h => by
    obtain ⟨d, q, r⟩ := (h v List.mem_cons_self).dt
    obtain ⟨ds, qs, rs⟩ := rows_data fun v hv => h v (List.mem_cons_of_mem _ hv)
    exact ⟨d :: ds, .cons q qs, List.forall_mem_cons.mpr ⟨r, rs⟩⟩
theorem strs_dt {H : Hp} : ∀ cs : List Nat, DtA H (cs.map fun c => V.str ⟨#[c]⟩) (cs.map fun c => PyData.str ⟨#[c]⟩)
  | [] => .nil
  | _ :: cs => .cons (.str _) (strs_dt cs)
theorem mem_of_at {R : Nat → V → Hp → Prop} {H : Hp} {ws : List V} {Pr : V → Prop} (h : ∀ (j : Nat) y, ws[j]? = some y → R j y H) (k : ∀ j y, R j y H → Pr y) : ∀ v ∈ ws, Pr v := fun v hv => by
  obtain ⟨j, hj, rfl⟩ := List.getElem_of_mem hv
  exact k j _ (h j _ (List.getElem?_eq_getElem hj))
theorem tup_hide {G : Hp} {b fl : Addr} {xs ys : List V} (f : G b = some (.tup xs)) (ff : G fl = some (.lst ys)) : hide fl G b = some (.tup xs) := hide_at (fun e => by rw [e, ff] at f; cases f) f
theorem three_da {H : Hp} {u : Addr} {x y z : V} {dx dy dz : PyData} (f : H u = some (.tup [x, y, z])) (hx : Dt H x dx) (hy : Dt H y dy) (hz : Dt H z dz) (bx : Bd 200 9 dx) (b2 : Bd 200 9 dy) (b3 : Bd 200 9 dz) : ∃ d, Da M0 N0 H (.ref u) d :=
  ⟨.tuple [dx, dy, dz], ⟨.tup f (.cons hx (.cons hy (.cons hz .nil))), Bd.mono (m := 200) (n := 9) (by decide) (by decide) (show Bd 200 9 (.tuple [dx, dy, dz]) from ⟨by simp, bx, b2, b3, trivial⟩)⟩⟩
theorem nil_dt {H : Hp} {u : Addr} (f : H u = some (.tup [])) : Dt H (.ref u) (.tuple []) := .tup f .nil
theorem nil_bd : Bd 200 9 (.tuple []) := ⟨Nat.zero_le _, trivial⟩
theorem rows_bd {ds : List PyData} (h : ∀ d ∈ ds, RowD d) (l : ds.length ≤ 9) : Bd 200 9 (.tuple ds) := ⟨l, bdA_iff.mpr fun d hd => (h d hd).bd⟩
theorem strs_bd {cs : List Nat} (l : cs.length ≤ 9) : Bd 200 9 (.tuple (cs.map fun c => PyData.str ⟨#[c]⟩)) := ⟨by rw [List.length_map]; exact l, bdA_iff.mpr fun d hd => by
  obtain ⟨c, _, rfl⟩ := List.mem_map.mp hd
  show (1 : Nat) ≤ 9
  decide⟩
theorem Row.one {H : Hp} {x : V} (h : ∃ d, Da M0 N0 H x d) : Row H [x] := fun y hy => by
  rw [List.mem_singleton.mp hy]
  exact h
theorem RA.h {H : Hp} {fl : Addr} {ys : List V} {ws : List V} (ff : H fl = some (.lst ys)) (h : ∀ v ∈ ws, RA H v) : ∀ v ∈ ws, RA (Ver.hide fl H) v := fun v hv => (h v hv).hide ff
theorem alX {P : V → Hp → Prop} {o : HO} {H : Hp} (k : ∀ p H', H p = none → Ex H H' → H' p = some o → P (.ref p) H') : ∀ p, H p = none → P (.ref p) (upd H p o) := fun p n => k p _ n (Ex.new n) upd_same
theorem ixN_last (xs : List V) (v : V) : ixN (xs ++ [v]).length (-1) = some xs.length := by
  have hl : (xs ++ [v]).length = xs.length + 1 := by simp
  unfold ixN
  rw [hl, if_neg (by decide), if_pos (by omega)]
  congr 1
  omega
def spGreat : Sp := fun vs H Q _ => vs = [] ∧ ∀ l xs H', H l = none → Ex H H' → H' l = some (.lst xs) → Row H' xs → xs.length ≤ 50 → Q (.ref l) H'
theorem ok_Lgreat (T : Tx K mg A) : FnOk P w K mg base CX0 1 A.f_Lgreat A.d_Lgreat [] spGreat := by
  refine T.F_Lgreat.ok sc_Lgreat (fun vs H Q E h => ?_) (fun cdv A' outer s H vs Q E hr h => ?_)
  · obtain ⟨rfl, _⟩ := h
    rfl
  · obtain ⟨rfl, k⟩ := h
    refine ⟨_, (pss_cons (ps_asg (pe_tup (pa_cons (pe_lst pa_nil) (pa_cons pe_str pa_nil))) (pg_tupV (K := K) (n := 2) rfl rfl (pgs_cons (pg_name (i := 0) sc_Lgreat.nd rfl (Or.inl rfl)) (pgs_cons (pg_name (i := 1) sc_Lgreat.nd rfl (Or.inr rfl)) pgs_nil)) rfl))
    (pss_cons (ps_for PassesOwn.never rfl (pi_listV (K := K) rfl (pe_lst (pa_cons pe_int (pa_cons pe_int pa_nil)))) (pg_name (i := 2) sc_Lgreat.nd rfl (Or.inl rfl))
    (pss_cons (ps_set (i := 3) sc_Lgreat.nd rfl (Or.inl rfl) (pe_callTy (call_tupleS rfl) (by rfl) T.m_tuple (by decide +kernel) (pa_cons (pe_slice sl_str (pv 1) po_none (po_some (pv 2))) pa_nil)))
      (pss_cons (ps_expr (pe_bm PySem.F.plainAttrs_list PySem.F.slot_list_append PySem.F.type_list_append mt_append (pv 0) (pa_cons (pe_tup (pa_cons (pv 3) (pa_cons (pe_tup pa_nil) (pa_cons (pe_tup pa_nil) pa_nil)))) pa_nil)))
      (pss_cons (ps_expr (pe_bm PySem.F.plainAttrs_list PySem.F.slot_list_append PySem.F.type_list_append mt_append (pv 0) (pa_cons (pe_tup (pa_cons (pv 3) (pa_cons (pe_callTy (call_tuple_ofV (K := K) rfl) (by rfl) T.m_tuple (by decide +kernel) (pa_cons (pe_lc rfl sc_Lgreat.nd (g := gName 5) (pi_tupV (K := K) rfl (pv 3)) (blkOk_by (own := [("_law_one", 5)]) (N := ["_law_found", "_law_names_here", "_law_many", "_law_people", "_law_far", "_law_one", "_law_lot", "_law_k"]) (sc := defScope s_Lgreat) (by decide +kernel)) (fun _ _ _ _ _ => (pg_name (i := 5) sc_Lgreat.nd rfl (Or.inl rfl))) (fun _ _ _ _ _ => pts_nil) (fun _ _ _ _ _ => (pe_tup (pa_cons (pv 5) (pa_cons pe_str (pa_cons (pe_tup (pa_cons pe_int (pa_cons pe_int pa_nil))) pa_nil)))))) pa_nil)) (pa_cons (pe_tup pa_nil) pa_nil)))) pa_nil)))
      (pss_cons (ps_expr (pe_bm PySem.F.plainAttrs_list PySem.F.slot_list_append PySem.F.type_list_append mt_append (pv 0) (pa_cons (pe_tup (pa_cons (pe_tup (pa_cons pe_str pa_nil)) (pa_cons (pe_callTy (call_tuple_ofV (K := K) rfl) (by rfl) T.m_tuple (by decide +kernel) (pa_cons (pe_lc rfl sc_Lgreat.nd (g := gName 6) (pi_str (pe_slice sl_str (pv 1) po_none (po_some (pv 2)))) (blkOk_by (own := [("_law_lot", 6)]) (N := ["_law_found", "_law_names_here", "_law_many", "_law_people", "_law_far", "_law_one", "_law_lot", "_law_k"]) (sc := defScope s_Lgreat) (by decide +kernel)) (fun _ _ _ _ _ => (pg_name (i := 6) sc_Lgreat.nd rfl (Or.inl rfl))) (fun _ _ _ _ _ => pts_nil) (fun _ _ _ _ _ => (pe_tup (pa_cons pe_str (pa_cons (pv 6) (pa_cons (pe_tup (pa_cons pe_int (pa_cons pe_int pa_nil))) pa_nil)))))) pa_nil)) (pa_cons (pe_tup pa_nil) pa_nil)))) pa_nil)))
      (pss_cons (ps_expr (pe_bm PySem.F.plainAttrs_list PySem.F.slot_list_append PySem.F.type_list_append mt_append (pv 0) (pa_cons (pe_tup (pa_cons (pe_tup (pa_cons pe_str (pa_cons pe_str pa_nil))) (pa_cons (pe_callTy (call_tuple_ofV (K := K) rfl) (by rfl) T.m_tuple (by decide +kernel) (pa_cons (pe_lc rfl sc_Lgreat.nd (g := gName 7) (pi_range1 (by rfl) T.m_range (pa_cons (pv 2) pa_nil)) (blkOk_by (own := [("_law_k", 7)]) (N := ["_law_found", "_law_names_here", "_law_many", "_law_people", "_law_far", "_law_one", "_law_lot", "_law_k"]) (sc := defScope s_Lgreat) (by decide +kernel)) (fun _ _ _ _ _ => (pg_name (i := 7) sc_Lgreat.nd rfl (Or.inl rfl))) (fun _ _ _ _ _ => pts_nil) (fun _ _ _ _ _ => (pe_tup (pa_cons (pe_ix (ix_listV (K := K) rfl) (pe_lst (pa_cons pe_str (pa_cons pe_str pa_nil))) (pe_op op_mod (pv 7) pe_int) (fun _ _ => rfl)) (pa_cons (pe_ix ix_str (pv 1) (pv 7) (fun _ _ => rfl)) (pa_cons (pe_tup (pa_cons (pe_op op_add (pv 7) pe_int) (pa_cons pe_int pa_nil))) pa_nil)))))) pa_nil)) (pa_cons (pe_tup pa_nil) pa_nil)))) pa_nil)))
      (pss_one (ps_asg (pe_tup (pa_cons (pe_ix (ix_tupV (K := K) rfl) (pe_ix (ix_listV (K := K) rfl) (pv 0) (pe_un un_neg pe_int) (fun _ _ => rfl)) pe_int (fun _ _ => rfl)) (pa_cons (pe_callTy (call_tuple_ofV (K := K) rfl) (by rfl) T.m_tuple (by decide +kernel) (pa_cons (pe_callB (cr_sortedT (K := K) rfl hr.units) (by rfl) T.m_sorted (by decide +kernel) (pa_cons (pe_ix (ix_tupV (K := K) rfl) (pe_ix (ix_listV (K := K) rfl) (pv 0) (pe_un un_neg pe_int) (fun _ _ => rfl)) pe_int (fun _ _ => rfl)) pa_nil)) pa_nil)) (pa_cons (pe_tup pa_nil) pa_nil)))) (pg_sub (pv 0) (pe_un un_neg pe_int) set_list)))))))))
    (pss_cons (ps_set (i := 4) sc_Lgreat.nd rfl (Or.inl rfl) (pe_tup (pa_cons (pe_tup (pa_cons pe_str (pa_cons pe_str (pa_cons (pe_tup (pa_cons (pe_op op_pow pe_int pe_int) (pa_cons pe_int pa_nil))) pa_nil)))) (pa_cons (pe_tup (pa_cons pe_str (pa_cons pe_str (pa_cons (pe_tup (pa_cons pe_int (pa_cons (pe_op op_pow pe_int pe_int) pa_nil))) pa_nil)))) pa_nil))))
    (pss_cons (ps_set (i := 0) sc_Lgreat.nd rfl (Or.inl rfl) (pe_op op_cat (pv 0) (pe_lst (pa_cons (pe_tup (pa_cons (pe_tup (pa_cons pe_str pa_nil)) (pa_cons (pv 4) (pa_cons (pe_tup (pa_cons (pe_tup (pa_cons pe_str (pa_cons pe_str (pa_cons (pe_tup (pa_cons pe_int (pa_cons pe_int pa_nil))) pa_nil)))) pa_nil)) pa_nil)))) (pa_cons (pe_tup (pa_cons (pe_tup pa_nil) (pa_cons (pe_tup (pa_cons (pe_tup (pa_cons pe_str (pa_cons pe_str (pa_cons (pe_tup (pa_cons pe_int (pa_cons pe_int pa_nil))) pa_nil)))) pa_nil)) (pa_cons (pe_tup pa_nil) pa_nil)))) (pa_cons (pe_tup (pa_cons (pe_tup pa_nil) (pa_cons (pe_tup pa_nil) (pa_cons (pe_tup pa_nil) pa_nil)))) pa_nil))))))
    (pss_one (ps_ret (pe_op op_cat (pv 0) (pe_lst (pa_cons (pe_tup (pa_cons (pe_tup (pa_cons pe_str pa_nil)) (pa_cons (pe_tup pa_nil) (pa_cons (pe_tup pa_nil) pa_nil)))) (pa_cons (pe_tup (pa_cons (pe_tup (pa_cons pe_str pa_nil)) (pa_cons (pe_tup pa_nil) (pa_cons (pe_tup pa_nil) pa_nil)))) pa_nil)))))))))), ?_⟩
    walk_at "vv"
    refine alI fun fl H1 n1 e1 f1 => ?_
    walk_at "vv"
    refine alI fun t2 H2 n2 e2 f2 => ?_
    refine wGTup (SqT.of f2) rfl ?_
    walk_at "vv"
    refine alI fun l3 H3 n3 e3 f3 => ?_
    have f13 := e3 _ _ (e2 _ _ f1)
    have e13 := (e1.trans e2).trans e3
    have l3n : fl ≠ l3 := fun e => by
      rw [e] at f1
      rw [(e2 _ _ f1)] at n3
      cases n3
    walk_at "vv"
    refine exSq (SqL.of f3) ?_
    refine for_list (K := K) (a := l3) (xs := [V.int 8, .int 9]) (fun i σ H' => ∃ v2 v3 v4 v5 v6 v7 xs, σ = [some (.ref fl), some (.str "abcdefghi"), v2, v3, v4, v5, v6, v7] ∧ Ex H H' ∧ H' l3 = some (.lst [V.int 8, .int 9]) ∧ H' fl = some (.lst xs) ∧ Row (hide fl H') xs ∧ xs.length ≤ 4 * i)
      ⟨none, none, none, none, none, none, [], rfl, e13, f3, f13, (fun x hx => nomatch hx), Nat.le_refl _⟩ (fun i σ H' _ ⟨_, _, _, _, _, _, _, _, _, f, _⟩ => SqL.of f) ?_ ?_
    · rintro i x σ H4 hx ⟨v2, v3, v4, v5, v6, v7, xs, rfl, e4, f34, ff4, row, lx⟩
      have il : i < 2 := (List.getElem?_eq_some_iff.mp hx).1
      obtain ⟨m, rfl, m8, m9⟩ : ∃ m : Nat, x = .int (m : Int) ∧ 8 ≤ m ∧ m ≤ 9 := by
        rcases (show i = 0 ∨ i = 1 by omega) with rfl | rfl
        · cases hx
          exact ⟨8, rfl, by decide, by decide⟩
        · cases hx
          exact ⟨9, rfl, by decide, by decide⟩
      walk_at "vv"
      have nml : ("abcdefghi" : Str).length = 9 := by decide +kernel
      refine wSlS (z := "abcdefghi") (sz6 (by omega)) ?_
      walk_at "vv"
      have zl := cutS_length "abcdefghi" none (some (m : Int))
      rw [nml] at zl
      refine ⟨_, rfl, (show (cutS "abcdefghi" none (some (m : Int))).length ≤ 1000 by omega), ?_⟩
      have csl : (cutS "abcdefghi" none (some (m : Int))).cps.toList.length ≤ 9 := by rw [Array.length_toList]; exact zl
      generalize hcs : (cutS "abcdefghi" none (some (m : Int))).cps.toList = cs at csl ⊢
      refine alI fun tp H5 n5 e5 f5 => ?_
      walk_at "vv"
      have ff5 := e5 _ _ ff4
      refine anTyL ff5 ?_
      walk_at "vv"
      refine alI fun u1 H6 n6 e6 f6 => ?_
      walk_at "vv"
      refine alI fun u2 H7 n7 e7 f7 => ?_
      walk_at "vv"
      refine alI fun u3 H8 n8 e8 f8 => ?_
      walk_at "vv"
      have e58 := (e6.trans e7).trans e8
      refine wAppend (e58 _ _ ff5) (by omega) ?_
      have eA := e5.trans e58
      have ffA := eA _ _ ff4
      have hA := e58
      have tpA : hide fl H8 tp = some (.tup (cs.map fun c => V.str ⟨#[c]⟩)) := tup_hide (e58 _ _ f5) ffA
      have rowA : Row (hide fl H8) (xs ++ [.ref u3]) := (row.ex (Ex.hide eA)).app (Row.one (three_da (tup_hide f8 ffA) (.tup tpA (strs_dt cs)) (nil_dt (tup_hide ((e7.trans e8) _ _ f6) ffA)) (nil_dt (tup_hide (e8 _ _ f7) ffA)) (strs_bd csl) nil_bd nil_bd))
      have EA : Ex H (upd H8 fl (.lst (xs ++ [.ref u3]))) := (e4.trans eA).mut n1
      have f3A : (upd H8 fl (.lst (xs ++ [.ref u3]))) l3 = some (.lst [V.int 8, .int 9]) := (upd_ne l3n.symm).trans (eA _ _ f34)
      have ffA : (upd H8 fl (.lst (xs ++ [.ref u3]))) fl = some (.lst (xs ++ [.ref u3])) := upd_same
      rw [← hide_upd (p := fl) (H := H8) (o := .lst (xs ++ [.ref u3]))] at tpA rowA
      generalize upd H8 fl (.lst (xs ++ [.ref u3])) = HA at EA f3A ffA tpA rowA ⊢
      generalize hxA : xs ++ [V.ref u3] = xsA at ffA rowA
      have lxA : xsA.length = xs.length + 1 := by rw [← hxA, List.length_append]; rfl
      clear eA e58 e5 e6 e7 e8 f5 f6 f7 f8 row ff4 ff5 f34 e4 hA hxA n5 n6 n7 n8
      walk_at "vv"
      refine anTyL ffA ?_
      have tpH : HA tp = some (.tup (cs.map fun c => V.str ⟨#[c]⟩)) := hide_ex _ _ tpA
      walk_at "vv"
      refine exSt (SqT.of tpH) ?_
      intro D1 hD1
      refine lcTup (K := K) (a := tp) (xs := cs.map fun c => V.str ⟨#[c]⟩) (fun Hx => Ex HA Hx) (fun i v Hx => RA Hx v) (fun _ => rfl) (Ex.new hD1) (fun Hx e => SqT.of (e _ _ tpH)) (fun i x hx Hx acc ex hD' hla hR => ?_) (fun HB ws exB hDB hlaB hRB => ?_)
      · rw [List.getElem?_map] at hx
        obtain ⟨c, hc, rfl⟩ := Option.map_eq_some_iff.mp hx
        have il : i < cs.length := (List.getElem?_eq_some_iff.mp hc).1
        walk_at "vv"
        refine alI fun w1 G1 m1 g1 h1 => ?_
        walk_at "vv"
        refine alI fun w2 G2 m2 g2 h2 => ?_
        have hDx := g2 _ _ (g1 _ _ hD')
        refine lcAdd hDx hla (by omega) ((ex.trans (g1.trans g2)).mut hD1) (fun j v hv => ((hR j v hv).ex (g1.trans g2)).upd hDx) (RA.upd ⟨w2, w1, ⟨#[c]⟩, "rye", 1, 1, rfl, h2, g2 _ _ h1, show (1 : Nat) ≤ 9 by decide, by decide +kernel, by decide, by decide⟩ hDx)
      · have raB : ∀ v ∈ ws, RA HB v := fun v hv => by obtain ⟨j, hj, rfl⟩ := List.getElem_of_mem hv; exact hRB j _ (List.getElem?_eq_getElem hj)
        have lB : ws.length ≤ 9 := by rw [hlaB, List.length_map]; exact csl
        clear hRB hlaB
        walk_at "vv"
        refine ⟨D1, ws, rfl, .inl ⟨SqL.of hDB, fun u4 n9 => ?_⟩⟩
        have e9 : Ex HB (upd HB u4 (.tup ws)) := Ex.new n9
        have f9 : (upd HB u4 (.tup ws)) u4 = some (.tup ws) := upd_same
        generalize upd HB u4 (.tup ws) = H9 at e9 f9 ⊢
        walk_at "vv"
        refine alI fun u5 H10 n10 e10 f10 => ?_
        walk_at "vv"
        refine alI fun u6 H11 n11 e11 f11 => ?_
        walk_at "vv"
        have eB := ((exB.trans e9).trans e10).trans e11
        have ffB := eB _ _ ffA
        refine wAppend ffB (by omega) ?_
        have tpB := (Ex.hide eB) _ _ tpA
        obtain ⟨dsB, dB, rdB⟩ := rows_data (RA.h ffB fun v hv => (raB v hv).ex ((e9.trans e10).trans e11))
        have rowB : Row (hide fl H11) (xsA ++ [.ref u6]) := (rowA.ex (Ex.hide eB)).app (Row.one (three_da (tup_hide f11 ffB) (.tup tpB (strs_dt cs)) (.tup (tup_hide ((e10.trans e11) _ _ f9) ffB) dB) (nil_dt (tup_hide (e11 _ _ f10) ffB)) (strs_bd csl) (rows_bd rdB (by have := dB.length; omega)) nil_bd))
        have EB : Ex H (upd H11 fl (.lst (xsA ++ [.ref u6]))) := (EA.trans eB).mut n1
        have f3B : (upd H11 fl (.lst (xsA ++ [.ref u6]))) l3 = some (.lst [V.int 8, .int 9]) := (upd_ne l3n.symm).trans (eB _ _ f3A)
        have ffB : (upd H11 fl (.lst (xsA ++ [.ref u6]))) fl = some (.lst (xsA ++ [.ref u6])) := upd_same
        rw [← hide_upd (p := fl) (H := H11) (o := .lst (xsA ++ [.ref u6]))] at rowB
        generalize upd H11 fl (.lst (xsA ++ [.ref u6])) = HC at EB f3B ffB rowB ⊢
        generalize hxB : xsA ++ [V.ref u6] = xsB at ffB rowB
        have lxB : xsB.length = xs.length + 2 := by rw [← hxB, List.length_append, lxA]; rfl
        clear eB exB e9 e10 e11 f9 f10 f11 raB dB rdB tpB rowA ffA f3A EA tpA tpH hxB hDB hD1
        walk_at "vv"
        refine anTyL ffB ?_
        walk_at "vv"
        refine alI fun a1 H12 n12 e12 f12 => ?_
        walk_at "vv"
        walk_at "vv"
        intro D2 hD2
        have csl2 : (cutS "abcdefghi" none (some (m : Int))).cps.size ≤ 9 := zl
        refine lcStr (fun Hx => Ex H12 Hx) (fun i v Hx => RA Hx v) (by omega) (fun _ => rfl) (Ex.new hD2) (fun i c hc Hx acc ex hD' hla hR => ?_) (fun HD ws exD hDD hlaD hRD => ?_)
        · have il := (Array.getElem?_eq_some_iff.mp hc).1
          walk_at "vv"
          refine alI fun w1 G1 m1 g1 h1 => ?_
          walk_at "vv"
          refine alI fun w2 G2 m2 g2 h2 => ?_
          have hDx := g2 _ _ (g1 _ _ hD')
          refine lcAdd hDx hla (by omega) ((ex.trans (g1.trans g2)).mut hD2) (fun j v hv => ((hR j v hv).ex (g1.trans g2)).upd hDx) (RA.upd ⟨w2, w1, "a", ⟨#[c]⟩, 1, 1, rfl, h2, g2 _ _ h1, by decide +kernel, show (1 : Nat) ≤ 9 by decide, by decide, by decide⟩ hDx)
        · have raD : ∀ v ∈ ws, RA HD v := fun v hv => by obtain ⟨j, hj, rfl⟩ := List.getElem_of_mem hv; exact hRD j _ (List.getElem?_eq_getElem hj)
          have lD : ws.length ≤ 9 := by rw [hlaD]; exact csl2
          clear hRD hlaD
          walk_at "vv"
          refine ⟨D2, ws, rfl, .inl ⟨SqL.of hDD, fun u7 n13 => ?_⟩⟩
          have e13 : Ex HD (upd HD u7 (.tup ws)) := Ex.new n13
          have f13 : (upd HD u7 (.tup ws)) u7 = some (.tup ws) := upd_same
          generalize upd HD u7 (.tup ws) = H13 at e13 f13 ⊢
          walk_at "vv"
          refine alI fun u8 H14 n14 e14 f14 => ?_
          walk_at "vv"
          refine alI fun u9 H15 n15 e15 f15 => ?_
          walk_at "vv"
          have eD := (((e12.trans exD).trans e13).trans e14).trans e15
          have ffD := eD _ _ ffB
          refine wAppend ffD (by omega) ?_
          obtain ⟨dsD, dD, rdD⟩ := rows_data (RA.h ffD fun v hv => (raD v hv).ex ((e13.trans e14).trans e15))
          have la : ("a" : Str).length ≤ 9 := by decide +kernel
          have rowD : Row (hide fl H15) (xsB ++ [.ref u9]) := (rowB.ex (Ex.hide eD)).app (Row.one (three_da (tup_hide f15 ffD) (.tup (tup_hide ((((exD.trans e13).trans e14).trans e15) _ _ f12) ffD) (.cons (.str "a") .nil)) (.tup (tup_hide ((e14.trans e15) _ _ f13) ffD) dD) (nil_dt (tup_hide (e15 _ _ f14) ffD)) ⟨by simp, la, trivial⟩ (rows_bd rdD (by have := dD.length; omega)) nil_bd))
          have ED : Ex H (upd H15 fl (.lst (xsB ++ [.ref u9]))) := (EB.trans eD).mut n1
          have f3D : (upd H15 fl (.lst (xsB ++ [.ref u9]))) l3 = some (.lst [V.int 8, .int 9]) := (upd_ne l3n.symm).trans (eD _ _ f3B)
          have ffD : (upd H15 fl (.lst (xsB ++ [.ref u9]))) fl = some (.lst (xsB ++ [.ref u9])) := upd_same
          rw [← hide_upd (p := fl) (H := H15) (o := .lst (xsB ++ [.ref u9]))] at rowD
          generalize upd H15 fl (.lst (xsB ++ [.ref u9])) = HE at ED f3D ffD rowD ⊢
          generalize hxD : xsB ++ [V.ref u9] = xsD at ffD rowD
          have lxD : xsD.length = xs.length + 3 := by rw [← hxD, List.length_append, lxB]; rfl
          clear eD exD e13 e14 e15 f13 f14 f15 raD dD rdD rowB ffB f3B EB hxD hDD hD2 e12 f12 n12
          walk_at "vv"
          refine anTyL ffD ?_
          walk_at "vv"
          refine alI fun a1 H16 n16 e16 f16 => ?_
          walk_at "vv"
          refine ⟨by omega, by omega, ?_⟩
          intro D3 hD3
          refine lcRng (n := m) (fun Hx => Ex H16 Hx) (fun i v Hx => RA Hx v) (fun _ => rfl) (Ex.new hD3) (fun i hi Hx acc ex hD' hla hR => ?_) (fun HF ws exF hDF hlaF hRF => ?_)
          · walk_at "vv"
            refine alI fun w0 G0 m0 g0 h0 => ?_
            walk_at "vv"
            obtain ⟨yv, hyv, myv⟩ := at_ex (xs := [V.str "a", .str "chest"]) (i := (0 + (i : Int)) % 2) (by omega) (by show _ < (2 : Int); omega)
            obtain ⟨y, rfl, yl⟩ : ∃ y : Str, yv = .str y ∧ y.length ≤ 9 := by
              simp only [List.mem_cons, List.not_mem_nil, or_false] at myv
              rcases myv with rfl | rfl
              · exact ⟨_, rfl, by decide +kernel⟩
              · exact ⟨_, rfl, by decide +kernel⟩
            refine wIxL (SqL.of h0) hyv ?_
            walk_at "vv"
            have il9 : i < ("abcdefghi" : Str).cps.toList.length := by rw [Array.length_toList]; show i < ("abcdefghi" : Str).length; omega
            have ea : atI (Str.ofString "abcdefghi").cps.toList (0 + (i : Int)) = some (("abcdefghi" : Str).cps.toList[i]) := by
              rw [Int.zero_add]
              exact at_nat (List.getElem?_eq_getElem il9)
            refine wIxS (z := "abcdefghi") (sz6 (by omega)) ea ?_
            walk_at "vv"
            refine alI fun w1 G1 m1 g1 h1 => ?_
            walk_at "vv"
            refine alI fun w2 G2 m2 g2 h2 => ?_
            have hDx := g2 _ _ (g1 _ _ (g0 _ _ hD'))
            refine lcAdd hDx hla (by omega) ((ex.trans ((g0.trans g1).trans g2)).mut hD3) (fun j v hv => ((hR j v hv).ex ((g0.trans g1).trans g2)).upd hDx) (RA.upd ⟨w2, w1, y, _, _, 1, rfl, h2, g2 _ _ h1, yl, show (1 : Nat) ≤ 9 by decide, Nat.lt_of_le_of_lt (show (0 + (i : Int) + 1).natAbs ≤ 10 by omega) (by decide +kernel), by decide⟩ hDx)
          · have raF : ∀ v ∈ ws, RA HF v := fun v hv => by obtain ⟨j, hj, rfl⟩ := List.getElem_of_mem hv; exact hRF j _ (List.getElem?_eq_getElem hj)
            have lF : ws.length ≤ 9 := by omega
            clear hRF
            walk_at "vv"
            refine ⟨D3, ws, rfl, .inl ⟨SqL.of hDF, fun u10 n17 => ?_⟩⟩
            have e17 : Ex HF (upd HF u10 (.tup ws)) := Ex.new n17
            have f17 : (upd HF u10 (.tup ws)) u10 = some (.tup ws) := upd_same
            generalize upd HF u10 (.tup ws) = H17 at e17 f17 ⊢
            walk_at "vv"
            refine alI fun u11 H18 n18 e18 f18 => ?_
            walk_at "vv"
            refine alI fun u12 H19 n19 e19 f19 => ?_
            walk_at "vv"
            have eF := (((e16.trans exF).trans e17).trans e18).trans e19
            have ffF := eF _ _ ffD
            refine wAppend ffF (by omega) ?_
            have ab19 := (((exF.trans e17).trans e18).trans e19) _ _ f16
            have rw19 := (e18.trans e19) _ _ f17
            have raG : ∀ v ∈ ws, RA H19 v := fun v hv => (raF v hv).ex ((e17.trans e18).trans e19)
            have n12f : u12 ≠ fl := fun e => by rw [e, ffF] at f19; cases f19
            have n10f : u10 ≠ fl := fun e => by rw [e, ffF] at rw19; cases rw19
            have n1f : a1 ≠ fl := fun e => by rw [e, ffF] at ab19; cases ab19
            have q12 : (upd H19 fl (.lst (xsD ++ [.ref u12]))) u12 = some (.tup [.ref a1, .ref u10, .ref u11]) := (upd_ne n12f).trans f19
            have q10 : (upd H19 fl (.lst (xsD ++ [.ref u12]))) u10 = some (.tup ws) := (upd_ne n10f).trans rw19
            have qa1 : (upd H19 fl (.lst (xsD ++ [.ref u12]))) a1 = some (.tup [.str "a", .str "b"]) := (upd_ne n1f).trans ab19
            have raH : ∀ v ∈ ws, RA (upd H19 fl (.lst (xsD ++ [.ref u12]))) v := fun v hv => (raG v hv).upd ffF
            have rowF : Row (hide fl H19) xsD := rowD.ex (Ex.hide eF)
            have EF : Ex H (upd H19 fl (.lst (xsD ++ [.ref u12]))) := (ED.trans eF).mut n1
            have f3F : (upd H19 fl (.lst (xsD ++ [.ref u12]))) l3 = some (.lst [V.int 8, .int 9]) := (upd_ne l3n.symm).trans (eF _ _ f3D)
            have ffF : (upd H19 fl (.lst (xsD ++ [.ref u12]))) fl = some (.lst (xsD ++ [.ref u12])) := upd_same
            rw [← hide_upd (p := fl) (H := H19) (o := .lst (xsD ++ [.ref u12]))] at rowF
            generalize upd H19 fl (.lst (xsD ++ [.ref u12])) = HG at EF f3F ffF rowF q12 q10 qa1 raH ⊢
            clear eF exF e16 e17 e18 e19 f16 f17 f18 f19 raF raG rowD ffD f3D ED hDF hD3 n16 n17 n18 n19 ab19 rw19 n12f n10f n1f
            walk_at "vv"
            have lst : atI (xsD ++ [V.ref u12]) (-1) = some (.ref u12) := atI_last _ _
            refine wIxL (SqL.of ffF) lst ?_
            walk_at "vv"
            refine wIxL (SqL.of ffF) lst ?_
            walk_at "vv"
            obtain ⟨bs, hbs, hbd⟩ : ∃ bs : List (V × PyData), bs.map (·.1) = ws ∧ ∀ b ∈ bs, Dt HG b.1 b.2 ∧ RowD b.2 := by
              obtain ⟨ds, q, r⟩ := rows_data raH
              refine ⟨ws.zip ds, List.map_fst_zip (by rw [q.length]; exact Nat.le_refl _), fun b hb => ?_⟩
              obtain ⟨j, hj, rfl⟩ := List.getElem_of_mem hb
              have j1 : j < ws.length := by rw [List.length_zip] at hj; omega
              have j2 : j < ds.length := by rw [List.length_zip] at hj; omega
              obtain ⟨d, hd, dd⟩ := q.at_ (List.getElem?_eq_getElem j1)
              rw [List.getElem?_eq_getElem j2] at hd
              cases hd
              rw [List.getElem_zip]
              exact ⟨dd, r _ (List.getElem_mem j2)⟩
            refine ⟨u10, bs, rfl, by rw [hbs]; exact SqT.of q10, (fun b hb => ⟨(hbd b hb).1, (hbd b hb).2.fl.2, (hbd b hb).2.fl.1⟩), (fun d hd d' hd' => ?_), .inl (fun d hd => ?_), ?_⟩
            · obtain ⟨b, hb, rfl⟩ := List.mem_map.mp hd
              obtain ⟨b', hb', rfl⟩ := List.mem_map.mp hd'
              obtain ⟨_, _, _, _, e, _⟩ := (hbd b hb).2
              obtain ⟨_, _, _, _, e', _⟩ := (hbd b' hb').2
              rw [e, e']
              simp [PySem.W.alike, PySem.W.alikeAll]
            · obtain ⟨b, hb, rfl⟩ := List.mem_map.mp hd
              obtain ⟨_, _, _, _, e, _⟩ := (hbd b hb).2
              exact ⟨_, _, e⟩
            · have perm : ((bs.mergeSort (PySem.W.dataLe false (·.2))).map (·.1)).Perm ws := by
                rw [← hbs]
                exact (List.mergeSort_perm _ _).map _
              generalize (bs.mergeSort (PySem.W.dataLe false (·.2))).map (·.1) = ws2 at perm ⊢
              have l2 : ws2.length ≤ 9 := by rw [perm.length_eq]; exact lF
              have ra2 : ∀ v ∈ ws2, RA HG v := fun v hv => raH v (perm.mem_iff.mp hv)
              refine alI fun s1 H20 n20 e20 f20 => ?_
              walk_at "vv"
              refine ⟨s1, ws2, rfl, .inl ⟨SqL.of f20, fun u13 n21 => ?_⟩⟩
              have e21 : Ex H20 (upd H20 u13 (.tup ws2)) := Ex.new n21
              have f21 : (upd H20 u13 (.tup ws2)) u13 = some (.tup ws2) := upd_same
              generalize upd H20 u13 (.tup ws2) = H21 at e21 f21 ⊢
              walk_at "vv"
              refine alI fun u14 H22 n22 e22 f22 => ?_
              walk_at "vv"
              refine alI fun u15 H23 n23 e23 f23 => ?_
              walk_at "vv"
              have eH := ((e20.trans e21).trans e22).trans e23
              have ffH := eH _ _ ffF
              refine wSetL ffH (ixN_last _ _) ?_
              walk_at "vv"
              obtain ⟨dsH, dH, rdH⟩ := rows_data (RA.h ffH fun v hv => (ra2 v hv).ex eH)
              have la : ("a" : Str).length ≤ 9 := by decide +kernel
              have lb : ("b" : Str).length ≤ 9 := by decide +kernel
              have rowH : Row (hide fl H23) (xsD ++ [.ref u15]) := (rowF.ex (Ex.hide eH)).app (Row.one (three_da (tup_hide f23 ffH) (.tup (tup_hide (eH _ _ qa1) ffH) (.cons (.str "a") (.cons (.str "b") .nil))) (.tup (tup_hide ((e22.trans e23) _ _ f21) ffH) dH) (nil_dt (tup_hide (e23 _ _ f22) ffH)) ⟨by simp, la, lb, trivial⟩ (rows_bd rdH (by have := dH.length; omega)) nil_bd))
              have es : (xsD ++ [V.ref u12]).set xsD.length (.ref u15) = xsD ++ [.ref u15] := by
                rw [List.set_append_right _ _ (Nat.le_refl _), Nat.sub_self]
                rfl
              rw [es]
              rw [← hide_upd (p := fl) (H := H23) (o := .lst (xsD ++ [.ref u15]))] at rowH
              exact ⟨_, _, _, _, _, _, _, rfl, (EF.trans eH).mut n1, (upd_ne l3n.symm).trans (eH _ _ f3F), upd_same, rowH, by rw [List.length_append, lxD]; simp; omega⟩
    · rintro σ H4 ⟨v2, v3, v4, v5, v6, v7, xs, rfl, e4, f34, ff4, row, lx⟩
      walk_at "vv"
      have lx : xs.length ≤ 8 := lx
      refine alI fun b1 H5 n5 e5 f5 => ?_
      walk_at "vv"
      refine alI fun b2 H6 n6 e6 f6 => ?_
      walk_at "vv"
      refine alI fun b3 H7 n7 e7 f7 => ?_
      walk_at "vv"
      refine alI fun b4 H8 n8 e8 f8 => ?_
      walk_at "vv"
      refine alI fun b5 H9 n9 e9 f9 => ?_
      walk_at "vv"
      refine alI fun c1 H10 n10 e10 f10 => ?_
      walk_at "vv"
      refine alI fun c2 H11 n11 e11 f11 => ?_
      walk_at "vv"
      refine alI fun c3 H12 n12 e12 f12 => ?_
      walk_at "vv"
      refine alI fun c4 H13 n13 e13 f13 => ?_
      walk_at "vv"
      refine alI fun c5 H14 n14 e14 f14 => ?_
      walk_at "vv"
      refine alI fun c6 H15 n15 e15 f15 => ?_
      walk_at "vv"
      refine alI fun c7 H16 n16 e16 f16 => ?_
      walk_at "vv"
      refine alI fun c8 H17 n17 e17 f17 => ?_
      walk_at "vv"
      refine alI fun c9 H18 n18 e18 f18 => ?_
      walk_at "vv"
      refine alI fun c10 H19 n19 e19 f19 => ?_
      walk_at "vv"
      refine alI fun c11 H20 n20 e20 f20 => ?_
      walk_at "vv"
      refine alI fun c12 H21 n21 e21 f21 => ?_
      walk_at "vv"
      refine alI fun c13 H22 n22 e22 f22 => ?_
      walk_at "vv"
      refine alI fun c14 H23 n23 e23 f23 => ?_
      walk_at "vv"
      refine alI fun c15 H24 n24 e24 f24 => ?_
      walk_at "vv"
      refine alI fun L1 H25 n25 e25 f25 => ?_
      have eL1 := (((((((((((((((((((e5.trans e6).trans e7).trans e8).trans e9).trans e10).trans e11).trans e12).trans e13).trans e14).trans e15).trans e16).trans e17).trans e18).trans e19).trans e20).trans e21).trans e22).trans e23).trans e24).trans e25
      refine wCatL (eL1 _ _ ff4) f25 (by simp; omega) fun m1 H26 e26 f26 n26 => ?_
      walk_at "vv"
      refine alI fun d1 H27 n27 e27 f27 => ?_
      walk_at "vv"
      refine alI fun d2 H28 n28 e28 f28 => ?_
      walk_at "vv"
      refine alI fun d3 H29 n29 e29 f29 => ?_
      walk_at "vv"
      refine alI fun d4 H30 n30 e30 f30 => ?_
      walk_at "vv"
      refine alI fun d5 H31 n31 e31 f31 => ?_
      walk_at "vv"
      refine alI fun d6 H32 n32 e32 f32 => ?_
      walk_at "vv"
      refine alI fun d7 H33 n33 e33 f33 => ?_
      walk_at "vv"
      refine alI fun d8 H34 n34 e34 f34 => ?_
      walk_at "vv"
      refine alI fun L2 H35 n35 e35 f35 => ?_
      have eL2 := (((((((e27.trans e28).trans e29).trans e30).trans e31).trans e32).trans e33).trans e34).trans e35
      refine wCatL (eL2 _ _ f26) f35 (by simp; omega) fun m2 H36 e36 f36 n36 => ?_
      have g35 : Ex H35 H36 := e36
      have g34 : Ex H34 H36 := e35.trans g35
      have g33 : Ex H33 H36 := e34.trans g34
      have g32 : Ex H32 H36 := e33.trans g33
      have g31 : Ex H31 H36 := e32.trans g32
      have g30 : Ex H30 H36 := e31.trans g31
      have g29 : Ex H29 H36 := e30.trans g30
      have g28 : Ex H28 H36 := e29.trans g29
      have g27 : Ex H27 H36 := e28.trans g28
      have g26 : Ex H26 H36 := e27.trans g27
      have g25 : Ex H25 H36 := e26.trans g26
      have g24 : Ex H24 H36 := e25.trans g25
      have g23 : Ex H23 H36 := e24.trans g24
      have g22 : Ex H22 H36 := e23.trans g23
      have g21 : Ex H21 H36 := e22.trans g22
      have g20 : Ex H20 H36 := e21.trans g21
      have g19 : Ex H19 H36 := e20.trans g20
      have g18 : Ex H18 H36 := e19.trans g19
      have g17 : Ex H17 H36 := e18.trans g18
      have g16 : Ex H16 H36 := e17.trans g17
      have g15 : Ex H15 H36 := e16.trans g16
      have g14 : Ex H14 H36 := e15.trans g15
      have g13 : Ex H13 H36 := e14.trans g14
      have g12 : Ex H12 H36 := e13.trans g13
      have g11 : Ex H11 H36 := e12.trans g12
      have g10 : Ex H10 H36 := e11.trans g11
      have g9 : Ex H9 H36 := e10.trans g10
      have g8 : Ex H8 H36 := e9.trans g9
      have g7 : Ex H7 H36 := e8.trans g8
      have g6 : Ex H6 H36 := e7.trans g7
      have g5 : Ex H5 H36 := e6.trans g6
      have g4 : Ex H4 H36 := e5.trans g5
      walk_at "vv"
      have la : ("a" : Str).length ≤ 9 := by decide +kernel
      have lr : ("rye" : Str).length ≤ 9 := by decide +kernel
      have lc : ("chest" : Str).length ≤ 9 := by decide +kernel
      have l8 : ("abcdefgh" : Str).length ≤ 9 := by decide +kernel
      have l9 : ("abcdefghi" : Str).length ≤ 9 := by decide +kernel
      have one : (1 : Int).natAbs < 2 ^ 200 := by decide
      have big : ((10 : Int) ^ Int.toNat 50).natAbs < 2 ^ 200 := by decide +kernel
      have rd : ∀ (y z : Str) (i j : Int), y.length ≤ 9 → z.length ≤ 9 → i.natAbs < 2 ^ 200 → j.natAbs < 2 ^ 200 → Bd 200 9 (.tuple [.str y, .str z, .tuple [.int i, .int j]]) := fun y z i j h1 h2 h3 h4 => RowD.bd ⟨y, z, i, j, rfl, h1, h2, h3, h4⟩
      have far : Dt H36 (.ref b5) (.tuple [.tuple [.str "a", .str "rye", .tuple [.int (10 ^ Int.toNat 50), .int 7]], .tuple [.str "chest", .str "rye", .tuple [.int 1, .int (10 ^ Int.toNat 50)]]]) := .tup (g9 _ _ f9) (.cons (.tup (g6 _ _ f6) (.cons (.str "a") (.cons (.str "rye") (.cons (.tup (g5 _ _ f5) (.cons (.int _) (.cons (.int _) .nil))) .nil)))) (.cons (.tup (g8 _ _ f8) (.cons (.str "chest") (.cons (.str "rye") (.cons (.tup (g7 _ _ f7) (.cons (.int _) (.cons (.int _) .nil))) .nil)))) .nil))
      have z1 := three_da (g14 _ _ f14) (.tup (g10 _ _ f10) (.cons (.str "a") .nil)) far (.tup (g13 _ _ f13) (.cons (.tup (g12 _ _ f12) (.cons (.str "a") (.cons (.str "chest") (.cons (.tup (g11 _ _ f11) (.cons (.int _) (.cons (.int _) .nil))) .nil)))) .nil)) ⟨by simp, la, trivial⟩ ⟨by simp, rd _ _ _ _ la lr big (by decide), rd _ _ _ _ lc lr one big, trivial⟩ ⟨by simp, rd _ _ _ _ la lc one (by decide), trivial⟩
      have z2 := three_da (g20 _ _ f20) (nil_dt (g15 _ _ f15)) (.tup (g18 _ _ f18) (.cons (.tup (g17 _ _ f17) (.cons (.str "chest") (.cons (.str "rye") (.cons (.tup (g16 _ _ f16) (.cons (.int _) (.cons (.int _) .nil))) .nil)))) .nil)) (nil_dt (g19 _ _ f19)) nil_bd ⟨by simp, rd _ _ _ _ lc lr one one, trivial⟩ nil_bd
      have z3 := three_da (g24 _ _ f24) (nil_dt (g21 _ _ f21)) (nil_dt (g22 _ _ f22)) (nil_dt (g23 _ _ f23)) nil_bd nil_bd nil_bd
      have z4 := three_da (g30 _ _ f30) (.tup (g27 _ _ f27) (.cons (.str "abcdefgh") .nil)) (nil_dt (g28 _ _ f28)) (nil_dt (g29 _ _ f29)) ⟨by simp, l8, trivial⟩ nil_bd nil_bd
      have z5 := three_da (g34 _ _ f34) (.tup (g31 _ _ f31) (.cons (.str "abcdefghi") .nil)) (nil_dt (g32 _ _ f32)) (nil_dt (g33 _ _ f33)) ⟨by simp, l9, trivial⟩ nil_bd nil_bd
      have rowZ : Row H36 ((xs ++ [.ref c5, .ref c11, .ref c15]) ++ [.ref d4, .ref d8]) := by
        refine Row.app (Row.app (row.ex (hide_ex.trans g4)) fun x hx => ?_) fun x hx => ?_
        · simp only [List.mem_cons, List.not_mem_nil, or_false] at hx
          rcases hx with rfl | rfl | rfl
          · exact z1
          · exact z2
          · exact z3
        · simp only [List.mem_cons, List.not_mem_nil, or_false] at hx
          rcases hx with rfl | rfl
          · exact z4
          · exact z5
      exact k m2 _ _ ((e4.trans ((((((((((((((((((((((((((((((e5.trans e6).trans e7).trans e8).trans e9).trans e10).trans e11).trans e12).trans e13).trans e14).trans e15).trans e16).trans e17).trans e18).trans e19).trans e20).trans e21).trans e22).trans e23).trans e24).trans e25).trans e26).trans e27).trans e28).trans e29).trans e30).trans e31).trans e32).trans e33).trans e34).trans e35)).free n36) (e4.trans g4) f36 rowZ (by rw [List.length_append, List.length_append]; simp; omega)
/-! ### the text of a web -/
theorem name_sg {z : Str} (h : nameS z = true) : ∀ c ∈ z.cps.toList, c < 16 ^ 8 := fun c hc => by
  have := (lw_name h).sm c hc
  omega
theorem chest_sg : ∀ c ∈ ("chest" : Str).cps.toList, c < 16 ^ 8 := by decide +kernel
theorem ends_sg {ps : List PyData} {y : Str} (hp : ∀ d ∈ ps, nameD d = true) (h : endsD ps (.str y) = true) : ∀ c ∈ y.cps.toList, c < 16 ^ 8 := by
  unfold endsD at h
  obtain ⟨e, he, q⟩ := List.any_eq_true.mp h
  rcases List.mem_append.mp he with he | he
  · have n := hp e he
    cases e with
    | str z =>
      have : z = y := by simpa [PyData.eqv] using q
      subst this
      exact name_sg n
    | _ => cases n
  · rw [List.mem_singleton.mp he] at q
    have : ("chest" : Str) = y := by simpa [PyData.eqv] using q
    rw [← this]
    exact chest_sg
theorem rpA_all {H : Hp} {l : Bool} {k B : Nat} : ∀ {xs : List V} {ds : List PyData}, DtA H xs ds → (∀ x d, Dt H x d → d ∈ ds → ∃ n, n ≤ B ∧ Rp H l k x d n) → ∃ m, m ≤ ds.length * (B + 2) ∧ RpA H l k xs ds m
  | _, _, .nil, _ => ⟨0, Nat.zero_le _, .nil⟩
  | _, _, .cons (ds := ds) q t, h => by
    obtain ⟨n, hn, r⟩ := h _ _ q List.mem_cons_self
    obtain ⟨m, hm, s⟩ := rpA_all t fun x d hx hd => h x d hx (List.mem_cons_of_mem _ hd)
    refine ⟨_, ?_, .cons r s⟩
    rw [List.length_cons, Nat.succ_mul]
    omega
theorem fr_rp {H : Hp} {k : Nat} {v : V} {a : PyData} (h : Dt H v a) (f : (frD a && posD a) = true) (b : Bd 14 81 a) : ∃ n, n ≤ 610 ∧ Rp H true (k + 1) v a n := by
  rw [Bool.and_eq_true] at f
  obtain ⟨p, q, rfl⟩ := frD_parts f.1
  obtain ⟨_, b1, b2, _⟩ := b
  have b1 : p.natAbs < 2 ^ 14 := b1
  have b2 : q.natAbs < 2 ^ 14 := b2
  have w : 2 ^ 14 < 10 ^ 300 := by decide +kernel
  cases h with
  | tup hc qq =>
    cases qq with
    | cons q1 qq =>
      cases qq with
      | cons q2 qq =>
        cases qq
        cases q1
        cases q2
        exact ⟨_, by decide, .tup hc (.cons (.int p (Nat.lt_trans b1 w)) (.cons (.int q (Nat.lt_trans b2 w)) .nil))⟩
theorem row_rp {H : Hp} {k : Nat} {v : V} {r : PyData} (h : Dt H v r) (hr : rowL r = true) (s0 : ∀ y, d0 r = .str y → ∀ c ∈ y.cps.toList, c < 16 ^ 8) (s1 : ∀ y, d1 r = .str y → ∀ c ∈ y.cps.toList, c < 16 ^ 8) (b : Bd 14 81 r) : ∃ n, n ≤ 2246 ∧ Rp H true (k + 2) v r n := by
  obtain ⟨y, z, a, rfl⟩ := rowL_rw hr
  have hr : (true && true && (frD a && posD a)) = true := hr
  obtain ⟨_, b1, b2, b3, _⟩ := b
  have b1 : y.length ≤ 81 := b1
  have b2 : z.length ≤ 81 := b2
  cases h with
  | tup hc qq =>
    cases qq with
    | cons q1 qq =>
      cases qq with
      | cons q2 qq =>
        cases qq with
        | cons q3 qq =>
          cases qq
          cases q1
          cases q2
          obtain ⟨n, hn, r⟩ := fr_rp (k := k) q3 (by simpa using hr) b3
          exact ⟨_, by omega, .tup hc (.cons (.str y (s0 y rfl)) (.cons (.str z (s1 z rfl)) (.cons r .nil)))⟩
theorem web_rp {H : Hp} {v : V} {d : PyData} (h : Dt H v d) (w : WebP d) : ∃ n, n ≤ 10000000 ∧ Rp H true 64 v d n := by
  have hw := w.web
  have hb := w.bd
  rw [← webL_eq] at hw
  unfold webL at hw
  split at hw
  · rename_i ps gs ts
    simp only [Bool.and_eq_true] at hw
    obtain ⟨⟨⟨⟨⟨⟨⟨p8, pn⟩, pr⟩, gr⟩, tr⟩, ge⟩, te⟩, _⟩ := hw
    have pn' : ∀ d ∈ ps, nameD d = true := fun d hd => List.all_eq_true.mp pn d hd
    obtain ⟨_, ⟨lp, bp⟩, ⟨lg, bg⟩, ⟨lt, bt⟩, _⟩ := hb
    have allR : ∀ rs, rowsL rs = true → ∀ r ∈ rs, rowL r = true := fun rs hx r hr => by
      unfold rowsL at hx
      rw [Bool.and_eq_true] at hx
      exact List.all_eq_true.mp hx.1 r hr
    cases h with
    | tup hc qq =>
      cases qq with
      | cons q1 qq =>
        cases qq with
        | cons q2 qq =>
          cases qq with
          | cons q3 qq =>
            cases qq
            cases q1 with
            | tup h1 c1 =>
              cases q2 with
              | tup h2 c2 =>
                cases q3 with
                | tup h3 c3 =>
                  obtain ⟨n1, l1, r1⟩ := rpA_all (l := true) (k := 62) (B := 812) c1 fun x d hx hd => by
                    have nd := pn' d hd
                    obtain ⟨z, rfl, rfl⟩ := isS_str hx (isS_name nd)
                    have zl : z.length ≤ 81 := bdA_iff.mp bp _ hd
                    exact ⟨_, by omega, .str z (name_sg nd)⟩
                  obtain ⟨n2, l2, r2⟩ := rpA_all (l := true) (k := 62) (B := 2246) c2 fun x r hx hr => by
                    have ee := List.all_eq_true.mp ge r hr
                    rw [Bool.and_eq_true] at ee
                    refine row_rp (k := 60) hx (allR _ gr r hr) (fun y e => ?_) (fun y e => ?_) (bdA_iff.mp bg _ hr)
                    · rw [e] at ee
                      exact ends_sg pn' ee.1
                    · rw [e] at ee
                      exact name_sg ee.2
                  obtain ⟨n3, l3, r3⟩ := rpA_all (l := true) (k := 62) (B := 2246) c3 fun x r hx hr => by
                    have ee := List.all_eq_true.mp te r hr
                    rw [Bool.and_eq_true, Bool.and_eq_true] at ee
                    refine row_rp (k := 60) hx (allR _ tr r hr) (fun y e => ?_) (fun y e => ?_) (bdA_iff.mp bt _ hr)
                    · have q := ee.1.1
                      rw [e] at q
                      refine ends_sg pn' ?_
                      unfold endsD
                      rw [List.any_append, q]
                      rfl
                    · have q := ee.1.2
                      rw [e] at q
                      exact ends_sg pn' q
                  have := Nat.mul_le_mul_right (812 + 2) lp
                  have := Nat.mul_le_mul_right (2246 + 2) lg
                  have := Nat.mul_le_mul_right (2246 + 2) lt
                  exact ⟨_, by omega, .tup hc (.cons (.tup h1 r1) (.cons (.tup h2 r2) (.cons (.tup h3 r3) .nil)))⟩
  · cases hw
def spLaw (K : PySem.W.Frag) : Sp := fun vs H Q _ => ∃ (a : Addr) (ns : List Int), vs = [.ref a] ∧ SqL K H a (ns.map V.int) ∧ ns.length ≤ 63 ∧ ∀ H', Q (.bl true) H'
theorem ok_law (T : Tx K mg A) {f : Addr} {fd : FuncData} (F : Fun K "law" "law" s_law f fd) : FnQ P w K mg base CX0 8 f fd ["_law_script"] (spLaw K) := by
  refine okQ F sc_law (fun vs H Q E h => ?_) (fun cdv A' outer s H vs Q E hq h => ?_)
  · obtain ⟨a, ns, rfl, _⟩ := h
    rfl
  · obtain ⟨a, ns, rfl, hS, hlen, k⟩ := h
    have hr := hq.room
    refine ⟨_, (pss_cons (ps_set (i := 1) sc_law.nd rfl (Or.inl rfl) (pe_lst (pa_cons pe_non (pa_cons pe_bl (pa_cons pe_int (pa_cons pe_str (pa_cons pe_str (pa_cons (pe_tup pa_nil) (pa_cons (pe_lst pa_nil) (pa_cons pe_dnewK (pa_cons (pe_tup (pa_cons (pe_tup pa_nil) pa_nil)) (pa_cons (pe_tup (pa_cons (pe_tup pa_nil) (pa_cons (pe_tup pa_nil) pa_nil))) (pa_cons (pe_tup (pa_cons (pe_lst pa_nil) (pa_cons (pe_tup pa_nil) (pa_cons (pe_tup pa_nil) pa_nil)))) (pa_cons (pe_tup (pa_cons (pe_tup pa_nil) (pa_cons (pe_lst pa_nil) (pa_cons (pe_tup pa_nil) pa_nil)))) (pa_cons (pe_tup (pa_cons (pe_tup pa_nil) (pa_cons (pe_tup pa_nil) (pa_cons pe_dnewK pa_nil)))) pa_nil)))))))))))))))
    (pss_cons (ps_set (i := 1) sc_law.nd rfl (Or.inl rfl) (pe_op op_cat (pv 1) (pe_lst (pa_cons (pe_lst (pa_cons (pe_tup pa_nil) (pa_cons (pe_tup pa_nil) (pa_cons (pe_tup pa_nil) pa_nil)))) (pa_cons (pe_tup (pa_cons (pe_tup pa_nil) (pa_cons (pe_tup pa_nil) (pa_cons (pe_tup pa_nil) (pa_cons (pe_tup pa_nil) pa_nil))))) (pa_cons (pe_tup (pa_cons pe_str (pa_cons (pe_tup pa_nil) (pa_cons (pe_tup pa_nil) pa_nil)))) (pa_cons (pe_tup (pa_cons (pe_tup (pa_cons pe_non pa_nil)) (pa_cons (pe_tup pa_nil) (pa_cons (pe_tup pa_nil) pa_nil)))) (pa_cons (pe_tup (pa_cons (pe_tup (pa_cons (pe_lst pa_nil) pa_nil)) (pa_cons (pe_tup pa_nil) (pa_cons (pe_tup pa_nil) pa_nil)))) pa_nil))))))))
    (pss_cons (ps_set (i := 1) sc_law.nd rfl (Or.inl rfl) (pe_op op_cat (pv 1) (pe_lst (pa_cons (pe_tup (pa_cons (pe_tup pa_nil) (pa_cons (pe_tup (pa_cons (pe_tup pa_nil) pa_nil)) (pa_cons (pe_tup pa_nil) pa_nil)))) (pa_cons (pe_tup (pa_cons (pe_tup pa_nil) (pa_cons (pe_tup pa_nil) (pa_cons (pe_tup (pa_cons pe_int pa_nil)) pa_nil)))) pa_nil)))))
    (pss_cons (ps_if (pt_not (pt_val (pe_callB (cr_allV (K := K) rfl rfl) (by rfl) T.m_all (by decide +kernel) (pa_cons (pe_lc rfl sc_law.nd (g := gName 9) (pi_listV (K := K) rfl (pe_op op_cat (pv 1) (pe_call0 (ok_Lgreat T) (hr.mono (by decide)) (by rfl) T.g_Lgreat T.F_Lgreat.kp T.b_Lgreat .nil pass0))) (blkOk_by (own := [("_law_thing", 9)]) (N := ["_law_script", "_law_strange", "_law_k", "_law_pool_here", "_law_web_here", "_law_shown", "_law_turn", "_law_once", "_law_some", "_law_thing"]) (sc := defScope s_law) (by decide +kernel)) (fun _ _ _ _ _ => (pg_name (i := 9) sc_law.nd rfl (Or.inl rfl))) (fun _ _ _ _ _ => pts_nil) (fun _ _ _ _ _ => (pe_call (ok_Ltold T) (hr.mono (by decide)) (by rfl) T.g_Ltold T.F_Ltold.kp T.b_Ltold .nil pass0 (pa_cons (pv 9) pa_nil)))) pa_nil))))
    (pss_one (ps_ret pe_bl))
    pss_nil)
    (pss_cons (ps_for PassesOwn.never rfl (pi_range1 (by rfl) T.m_range (pa_cons (pe_callB (call_max2 rfl) (by rfl) T.m_max (by decide +kernel) (pa_cons pe_int (pa_cons (pe_callB (call_min2 rfl) (by rfl) T.m_min (by decide +kernel) (pa_cons (pe_callB (call_lenV (K := K) rfl) (by rfl) T.m_len (by decide +kernel) (pa_cons (pv 0) pa_nil)) (pa_cons pe_int pa_nil))) pa_nil))) pa_nil)) (pg_name (i := 2) sc_law.nd rfl (Or.inl rfl))
    (pss_cons (ps_set (i := 3) sc_law.nd rfl (Or.inl rfl) (pe_call (ok_Lpool T) (hr.mono (by decide)) (by rfl) T.g_Lpool T.F_Lpool.kp T.b_Lpool .nil pass0 (pa_cons (pe_call (ok_Lcell T) (hr.mono (by decide)) (by rfl) T.g_Lcell T.F_Lcell.kp T.b_Lcell .nil pass0 (pa_cons (pv 0) (pa_cons (pv 2) pa_nil))) pa_nil)))
      (pss_cons (ps_set (i := 4) sc_law.nd rfl (Or.inl rfl) (pe_call (ok_Ldrawn T) (hr.mono (by decide)) (by rfl) T.g_Ldrawn T.F_Ldrawn.kp T.b_Ldrawn .nil pass0 (pa_cons (pv 3) (pa_cons pe_int pa_nil))))
      (pss_cons (ps_set (i := 5) sc_law.nd rfl (Or.inl rfl) (pe_callB (call_repr hq) (by rfl) T.m_repr (by decide +kernel) (pa_cons (pv 4) pa_nil)))
      (pss_cons (ps_if (pt_cmpR op_isnot_bl (pe_call (ok_is_web T) (hr.mono (by decide)) (by rfl) T.g_is_web T.F_is_web.kp T.b_is_web .nil pass0 (pa_cons (pv 4) pa_nil)) pe_bl (nomark _))
      (pss_one (ps_ret pe_bl))
      pss_nil)
      (pss_cons (ps_for PassesOwn.never rfl (pi_range1 (by rfl) T.m_range (pa_cons pe_int pa_nil)) (pg_name (i := 6) sc_law.nd rfl (Or.inl rfl))
      (pss_cons (ps_set (i := 7) sc_law.nd rfl (Or.inl rfl) (pe_call (ok_Lmore T) (hr.mono (by decide)) (by rfl) T.g_Lmore T.F_Lmore.kp T.b_Lmore .nil pass0 (pa_cons (pv 3) (pa_cons (pv 4) pa_nil))))
        (pss_cons (ps_set (i := 8) sc_law.nd rfl (Or.inl rfl) (pe_lst (pa_cons (pv 7) (pa_cons (pe_call (ok_Lspoilt T) (hr.mono (by decide)) (by rfl) T.g_Lspoilt T.F_Lspoilt.kp T.b_Lspoilt .nil pass0 (pa_cons (pv 3) (pa_cons (pv 4) pa_nil))) (pa_cons (pe_call (ok_Lspoilt T) (hr.mono (by decide)) (by rfl) T.g_Lspoilt T.F_Lspoilt.kp T.b_Lspoilt .nil pass0 (pa_cons (pv 3) (pa_cons (pe_call (ok_Lspoilt T) (hr.mono (by decide)) (by rfl) T.g_Lspoilt T.F_Lspoilt.kp T.b_Lspoilt .nil pass0 (pa_cons (pv 3) (pa_cons (pv 4) pa_nil))) pa_nil))) (pa_cons (pe_call (ok_Lspoilt T) (hr.mono (by decide)) (by rfl) T.g_Lspoilt T.F_Lspoilt.kp T.b_Lspoilt .nil pass0 (pa_cons (pv 3) (pa_cons (pv 7) pa_nil))) pa_nil))))))
        (pss_one (ps_if (pt_not (pt_val (pe_callB (cr_allV (K := K) rfl rfl) (by rfl) T.m_all (by decide +kernel) (pa_cons (pe_lc rfl sc_law.nd (g := gName 9) (pi_listV (K := K) rfl (pv 8)) (blkOk_by (own := [("_law_thing", 9)]) (N := ["_law_script", "_law_strange", "_law_k", "_law_pool_here", "_law_web_here", "_law_shown", "_law_turn", "_law_once", "_law_some", "_law_thing"]) (sc := defScope s_law) (by decide +kernel)) (fun _ _ _ _ _ => (pg_name (i := 9) sc_law.nd rfl (Or.inl rfl))) (fun _ _ _ _ _ => pts_nil) (fun _ _ _ _ _ => (pe_call (ok_Ltold T) (hr.mono (by decide)) (by rfl) T.g_Ltold T.F_Ltold.kp T.b_Ltold .nil pass0 (pa_cons (pv 9) pa_nil)))) pa_nil))))
        (pss_one (ps_ret pe_bl))
        pss_nil)))))
      (pss_one (ps_if (PW.pt (pw_or (pt_cmpR op_isnot_bl (pe_call (ok_is_web T) (hr.mono (by decide)) (by rfl) T.g_is_web T.F_is_web.kp T.b_is_web .nil pass0 (pa_cons (pv 4) pa_nil)) pe_bl (nomark _)) (pw_or1 (pt_cmpR op_ne (pe_callB (call_repr hq) (by rfl) T.m_repr (by decide +kernel) (pa_cons (pv 4) pa_nil)) (pv 5) (nomark _)))))
      (pss_one (ps_ret pe_bl))
      pss_nil))))))))
    (pss_one (ps_ret pe_bl))))))), ?_⟩
    walk_at "vv"
    refine alI fun s1 H1 n1 e1 f1 => ?_
    walk_at "vv"
    refine alI fun s2 H2 n2 e2 f2 => ?_
    walk_at "vv"
    refine alI fun s3 H3 n3 e3 f3 => ?_
    walk_at "vv"
    refine alI fun s4 H4 n4 e4 f4 => ?_
    walk_at "vv"
    refine alI fun s5 H5 n5 e5 f5 => ?_
    walk_at "vv"
    refine alI fun s6 H6 n6 e6 f6 => ?_
    walk_at "vv"
    refine alI fun s7 H7 n7 e7 f7 => ?_
    walk_at "vv"
    refine alI fun s8 H8 n8 e8 f8 => ?_
    walk_at "vv"
    refine alI fun s9 H9 n9 e9 f9 => ?_
    walk_at "vv"
    refine alI fun s10 H10 n10 e10 f10 => ?_
    walk_at "vv"
    refine alI fun s11 H11 n11 e11 f11 => ?_
    walk_at "vv"
    refine alI fun s12 H12 n12 e12 f12 => ?_
    walk_at "vv"
    refine alI fun s13 H13 n13 e13 f13 => ?_
    walk_at "vv"
    refine alI fun s14 H14 n14 e14 f14 => ?_
    walk_at "vv"
    refine alI fun s15 H15 n15 e15 f15 => ?_
    walk_at "vv"
    refine alI fun s16 H16 n16 e16 f16 => ?_
    walk_at "vv"
    refine alI fun s17 H17 n17 e17 f17 => ?_
    walk_at "vv"
    refine alI fun s18 H18 n18 e18 f18 => ?_
    walk_at "vv"
    refine alI fun s19 H19 n19 e19 f19 => ?_
    walk_at "vv"
    refine alI fun s20 H20 n20 e20 f20 => ?_
    walk_at "vv"
    refine alI fun s21 H21 n21 e21 f21 => ?_
    walk_at "vv"
    refine alI fun s22 H22 n22 e22 f22 => ?_
    walk_at "vv"
    refine alI fun s23 H23 n23 e23 f23 => ?_
    walk_at "vv"
    refine alI fun s24 H24 n24 e24 f24 => ?_
    walk_at "vv"
    refine alI fun s25 H25 n25 e25 f25 => ?_
    walk_at "vv"
    refine alI fun s26 H26 n26 e26 f26 => ?_
    walk_at "vv"
    refine alI fun s27 H27 n27 e27 f27 => ?_
    walk_at "vv"
    refine alI fun s28 H28 n28 e28 f28 => ?_
    walk_at "vv"
    refine alI fun s29 H29 n29 e29 f29 => ?_
    walk_at "vv"
    refine alI fun s30 H30 n30 e30 f30 => ?_
    walk_at "vv"
    refine alI fun s31 H31 n31 e31 f31 => ?_
    walk_at "vv"
    refine alI fun s32 H32 n32 e32 f32 => ?_
    walk_at "vv"
    refine alI fun s33 H33 n33 e33 f33 => ?_
    walk_at "vv"
    refine alI fun s34 H34 n34 e34 f34 => ?_
    walk_at "vv"
    refine alI fun s35 H35 n35 e35 f35 => ?_
    walk_at "vv"
    refine alI fun s36 H36 n36 e36 f36 => ?_
    walk_at "vv"
    refine alI fun s37 H37 n37 e37 f37 => ?_
    walk_at "vv"
    refine alI fun s38 H38 n38 e38 f38 => ?_
    walk_at "vv"
    refine alI fun s39 H39 n39 e39 f39 => ?_
    walk_at "vv"
    refine alI fun s40 H40 n40 e40 f40 => ?_
    walk_at "vv"
    refine alI fun s41 H41 n41 e41 f41 => ?_
    walk_at "vv"
    refine alI fun s42 H42 n42 e42 f42 => ?_
    walk_at "vv"
    refine alI fun s43 H43 n43 e43 f43 => ?_
    have k1 := ((((((((((((((((((((e22.trans e23).trans e24).trans e25).trans e26).trans e27).trans e28).trans e29).trans e30).trans e31).trans e32).trans e33).trans e34).trans e35).trans e36).trans e37).trans e38).trans e39).trans e40).trans e41).trans e42).trans e43
    refine wCatL (k1 _ _ f21) f43 (by simp) fun m1 H44 e44 f44 n44 => ?_
    walk_at "vv"
    refine alI fun s44 H45 n45 e45 f45 => ?_
    walk_at "vv"
    refine alI fun s45 H46 n46 e46 f46 => ?_
    walk_at "vv"
    refine alI fun s46 H47 n47 e47 f47 => ?_
    walk_at "vv"
    refine alI fun s47 H48 n48 e48 f48 => ?_
    walk_at "vv"
    refine alI fun s48 H49 n49 e49 f49 => ?_
    walk_at "vv"
    refine alI fun s49 H50 n50 e50 f50 => ?_
    walk_at "vv"
    refine alI fun s50 H51 n51 e51 f51 => ?_
    walk_at "vv"
    refine alI fun s51 H52 n52 e52 f52 => ?_
    walk_at "vv"
    refine alI fun s52 H53 n53 e53 f53 => ?_
    walk_at "vv"
    refine alI fun s53 H54 n54 e54 f54 => ?_
    have k2 := ((((((((e45.trans e46).trans e47).trans e48).trans e49).trans e50).trans e51).trans e52).trans e53).trans e54
    refine wCatL (k2 _ _ f44) f54 (by simp) fun m2 H55 e55 f55 n55 => ?_
    have g55 : Ex H55 H55 := Ex.refl _
    have g54 : Ex H54 H55 := e55.trans g55
    have g53 : Ex H53 H55 := e54.trans g54
    have g52 : Ex H52 H55 := e53.trans g53
    have g51 : Ex H51 H55 := e52.trans g52
    have g50 : Ex H50 H55 := e51.trans g51
    have g49 : Ex H49 H55 := e50.trans g50
    have g48 : Ex H48 H55 := e49.trans g49
    have g47 : Ex H47 H55 := e48.trans g48
    have g46 : Ex H46 H55 := e47.trans g47
    have g45 : Ex H45 H55 := e46.trans g46
    have g44 : Ex H44 H55 := e45.trans g45
    have g43 : Ex H43 H55 := e44.trans g44
    have g42 : Ex H42 H55 := e43.trans g43
    have g41 : Ex H41 H55 := e42.trans g42
    have g40 : Ex H40 H55 := e41.trans g41
    have g39 : Ex H39 H55 := e40.trans g40
    have g38 : Ex H38 H55 := e39.trans g39
    have g37 : Ex H37 H55 := e38.trans g38
    have g36 : Ex H36 H55 := e37.trans g37
    have g35 : Ex H35 H55 := e36.trans g36
    have g34 : Ex H34 H55 := e35.trans g35
    have g33 : Ex H33 H55 := e34.trans g34
    have g32 : Ex H32 H55 := e33.trans g33
    have g31 : Ex H31 H55 := e32.trans g32
    have g30 : Ex H30 H55 := e31.trans g31
    have g29 : Ex H29 H55 := e30.trans g30
    have g28 : Ex H28 H55 := e29.trans g29
    have g27 : Ex H27 H55 := e28.trans g28
    have g26 : Ex H26 H55 := e27.trans g27
    have g25 : Ex H25 H55 := e26.trans g26
    have g24 : Ex H24 H55 := e25.trans g25
    have g23 : Ex H23 H55 := e24.trans g24
    have g22 : Ex H22 H55 := e23.trans g23
    have g21 : Ex H21 H55 := e22.trans g22
    have g20 : Ex H20 H55 := e21.trans g21
    have g19 : Ex H19 H55 := e20.trans g20
    have g18 : Ex H18 H55 := e19.trans g19
    have g17 : Ex H17 H55 := e18.trans g18
    have g16 : Ex H16 H55 := e17.trans g17
    have g15 : Ex H15 H55 := e16.trans g16
    have g14 : Ex H14 H55 := e15.trans g15
    have g13 : Ex H13 H55 := e14.trans g14
    have g12 : Ex H12 H55 := e13.trans g13
    have g11 : Ex H11 H55 := e12.trans g12
    have g10 : Ex H10 H55 := e11.trans g11
    have g9 : Ex H9 H55 := e10.trans g10
    have g8 : Ex H8 H55 := e9.trans g9
    have g7 : Ex H7 H55 := e8.trans g8
    have g6 : Ex H6 H55 := e7.trans g7
    have g5 : Ex H5 H55 := e6.trans g6
    have g4 : Ex H4 H55 := e5.trans g5
    have g3 : Ex H3 H55 := e4.trans g4
    have g2 : Ex H2 H55 := e3.trans g3
    have g1 : Ex H1 H55 := e2.trans g2
    have g0 : Ex H H55 := e1.trans g1
    have sw : ("web" : Str).length ≤ 900 := by decide +kernel
    have s0 : ("" : Str).length ≤ 900 := by decide +kernel
    have row : Row H55 ((([V.non, V.bl true, V.int 0, V.str "", V.str "web", V.ref s1, V.ref s2, V.ref s3, V.ref s5, V.ref s8, V.ref s12, V.ref s16, V.ref s20] ++ [V.ref s25, V.ref s30, V.ref s33, V.ref s37, V.ref s42]) ++ [V.ref s48, V.ref s52])) := by
      intro x hx
      simp only [List.cons_append, List.nil_append, List.mem_cons, List.not_mem_nil, or_false] at hx
      rcases hx with rfl | rfl | rfl | rfl | rfl | rfl | rfl | rfl | rfl | rfl | rfl | rfl | rfl | rfl | rfl | rfl | rfl | rfl | rfl | rfl
      · exact ⟨PyData.none, .non, Bd.mono (m := 10) (n := 900) (by decide) (by decide) (by simp [Bd, BdA, sw, s0])⟩
      · exact ⟨PyData.bool true, (.bl true), Bd.mono (m := 10) (n := 900) (by decide) (by decide) (by simp [Bd, BdA, sw, s0])⟩
      · exact ⟨PyData.int 0, (.int 0), Bd.mono (m := 10) (n := 900) (by decide) (by decide) (by simp [Bd, BdA, sw, s0])⟩
      · exact ⟨PyData.str "", (.str ""), Bd.mono (m := 10) (n := 900) (by decide) (by decide) (by simp [Bd, BdA, sw, s0])⟩
      · exact ⟨PyData.str "web", (.str "web"), Bd.mono (m := 10) (n := 900) (by decide) (by decide) (by simp [Bd, BdA, sw, s0])⟩
      · exact ⟨PyData.tuple [], (.tup (g1 _ _ f1) .nil), Bd.mono (m := 10) (n := 900) (by decide) (by decide) (by simp [Bd, BdA, sw, s0])⟩
      · exact ⟨PyData.list [], (.lst (g2 _ _ f2) .nil), Bd.mono (m := 10) (n := 900) (by decide) (by decide) (by simp [Bd, BdA, sw, s0])⟩
      · exact ⟨PyData.dict [], (.dct (g3 _ _ f3)), Bd.mono (m := 10) (n := 900) (by decide) (by decide) (by simp [Bd, BdA, sw, s0])⟩
      · exact ⟨PyData.tuple [.tuple []], (.tup (g5 _ _ f5) (.cons (.tup (g4 _ _ f4) .nil) .nil)), Bd.mono (m := 10) (n := 900) (by decide) (by decide) (by simp [Bd, BdA, sw, s0])⟩
      · exact ⟨PyData.tuple [.tuple [], .tuple []], (.tup (g8 _ _ f8) (.cons (.tup (g6 _ _ f6) .nil) (.cons (.tup (g7 _ _ f7) .nil) .nil))), Bd.mono (m := 10) (n := 900) (by decide) (by decide) (by simp [Bd, BdA, sw, s0])⟩
      · exact ⟨PyData.tuple [.list [], .tuple [], .tuple []], (.tup (g12 _ _ f12) (.cons (.lst (g9 _ _ f9) .nil) (.cons (.tup (g10 _ _ f10) .nil) (.cons (.tup (g11 _ _ f11) .nil) .nil)))), Bd.mono (m := 10) (n := 900) (by decide) (by decide) (by simp [Bd, BdA, sw, s0])⟩
      · exact ⟨PyData.tuple [.tuple [], .list [], .tuple []], (.tup (g16 _ _ f16) (.cons (.tup (g13 _ _ f13) .nil) (.cons (.lst (g14 _ _ f14) .nil) (.cons (.tup (g15 _ _ f15) .nil) .nil)))), Bd.mono (m := 10) (n := 900) (by decide) (by decide) (by simp [Bd, BdA, sw, s0])⟩
      · exact ⟨PyData.tuple [.tuple [], .tuple [], .dict []], (.tup (g20 _ _ f20) (.cons (.tup (g17 _ _ f17) .nil) (.cons (.tup (g18 _ _ f18) .nil) (.cons (.dct (g19 _ _ f19)) .nil)))), Bd.mono (m := 10) (n := 900) (by decide) (by decide) (by simp [Bd, BdA, sw, s0])⟩
      · exact ⟨PyData.list [.tuple [], .tuple [], .tuple []], (.lst (g25 _ _ f25) (.cons (.tup (g22 _ _ f22) .nil) (.cons (.tup (g23 _ _ f23) .nil) (.cons (.tup (g24 _ _ f24) .nil) .nil)))), Bd.mono (m := 10) (n := 900) (by decide) (by decide) (by simp [Bd, BdA, sw, s0])⟩
      · exact ⟨PyData.tuple [.tuple [], .tuple [], .tuple [], .tuple []], (.tup (g30 _ _ f30) (.cons (.tup (g26 _ _ f26) .nil) (.cons (.tup (g27 _ _ f27) .nil) (.cons (.tup (g28 _ _ f28) .nil) (.cons (.tup (g29 _ _ f29) .nil) .nil))))), Bd.mono (m := 10) (n := 900) (by decide) (by decide) (by simp [Bd, BdA, sw, s0])⟩
      · exact ⟨PyData.tuple [.str "", .tuple [], .tuple []], (.tup (g33 _ _ f33) (.cons (.str "") (.cons (.tup (g31 _ _ f31) .nil) (.cons (.tup (g32 _ _ f32) .nil) .nil)))), Bd.mono (m := 10) (n := 900) (by decide) (by decide) (by simp [Bd, BdA, sw, s0])⟩
      · exact ⟨PyData.tuple [.tuple [.none], .tuple [], .tuple []], (.tup (g37 _ _ f37) (.cons (.tup (g34 _ _ f34) (.cons .non .nil)) (.cons (.tup (g35 _ _ f35) .nil) (.cons (.tup (g36 _ _ f36) .nil) .nil)))), Bd.mono (m := 10) (n := 900) (by decide) (by decide) (by simp [Bd, BdA, sw, s0])⟩
      · exact ⟨PyData.tuple [.tuple [.list []], .tuple [], .tuple []], (.tup (g42 _ _ f42) (.cons (.tup (g39 _ _ f39) (.cons (.lst (g38 _ _ f38) .nil) .nil)) (.cons (.tup (g40 _ _ f40) .nil) (.cons (.tup (g41 _ _ f41) .nil) .nil)))), Bd.mono (m := 10) (n := 900) (by decide) (by decide) (by simp [Bd, BdA, sw, s0])⟩
      · exact ⟨PyData.tuple [.tuple [], .tuple [.tuple []], .tuple []], (.tup (g49 _ _ f49) (.cons (.tup (g45 _ _ f45) .nil) (.cons (.tup (g47 _ _ f47) (.cons (.tup (g46 _ _ f46) .nil) .nil)) (.cons (.tup (g48 _ _ f48) .nil) .nil)))), Bd.mono (m := 10) (n := 900) (by decide) (by decide) (by simp [Bd, BdA, sw, s0])⟩
      · exact ⟨PyData.tuple [.tuple [], .tuple [], .tuple [.int 1]], (.tup (g53 _ _ f53) (.cons (.tup (g50 _ _ f50) .nil) (.cons (.tup (g51 _ _ f51) .nil) (.cons (.tup (g52 _ _ f52) (.cons (.int 1) .nil)) .nil)))), Bd.mono (m := 10) (n := 900) (by decide) (by decide) (by simp [Bd, BdA, sw, s0])⟩
    have EZ : Ex H H55 := g0
    have fZ := f55
    have lz : ((([V.non, V.bl true, V.int 0, V.str "", V.str "web", V.ref s1, V.ref s2, V.ref s3, V.ref s5, V.ref s8, V.ref s12, V.ref s16, V.ref s20] ++ [V.ref s25, V.ref s30, V.ref s33, V.ref s37, V.ref s42]) ++ [V.ref s48, V.ref s52])).length = 20 := rfl
    generalize (([V.non, V.bl true, V.int 0, V.str "", V.str "web", V.ref s1, V.ref s2, V.ref s3, V.ref s5, V.ref s8, V.ref s12, V.ref s16, V.ref s20] ++ [V.ref s25, V.ref s30, V.ref s33, V.ref s37, V.ref s42]) ++ [V.ref s48, V.ref s52]) = xs at fZ row lz
    clear e1 f1 n1 e2 f2 n2 e3 f3 n3 e4 f4 n4 e5 f5 n5 e6 f6 n6 e7 f7 n7 e8 f8 n8 e9 f9 n9 e10 f10 n10 e11 f11 n11 e12 f12 n12 e13 f13 n13 e14 f14 n14 e15 f15 n15 e16 f16 n16 e17 f17 n17 e18 f18 n18 e19 f19 n19 e20 f20 n20 e21 f21 n21 e22 f22 n22 e23 f23 n23 e24 f24 n24 e25 f25 n25 e26 f26 n26 e27 f27 n27 e28 f28 n28 e29 f29 n29 e30 f30 n30 e31 f31 n31 e32 f32 n32 e33 f33 n33 e34 f34 n34 e35 f35 n35 e36 f36 n36 e37 f37 n37 e38 f38 n38 e39 f39 n39 e40 f40 n40 e41 f41 n41 e42 f42 n42 e43 f43 n43 e44 f44 n44 e45 f45 n45 e46 f46 n46 e47 f47 n47 e48 f48 n48 e49 f49 n49 e50 f50 n50 e51 f51 n51 e52 f52 n52 e53 f53 n53 e54 f54 n54 e55 f55 n55 g0 g1 g2 g3 g4 g5 g6 g7 g8 g9 g10 g11 g12 g13 g14 g15 g16 g17 g18 g19 g20 g21 g22 g23 g24 g25 g26 g27 g28 g29 g30 g31 g32 g33 g34 g35 g36 g37 g38 g39 g40 g41 g42 g43 g44 g45 g46 g47 g48 g49 g50 g51 g52 g53 g54 g55 k1 k2
    generalize H55 = HZ at EZ fZ row ⊢
    walk_at "vv"
    refine ⟨rfl, fun lg ys Hg ng eg fg rowg lgl => ?_⟩
    walk_at "vv"
    refine wCatL (eg _ _ fZ) fg (by omega) fun m3 H1 e1 f1 n1 => ?_
    have R1 : Row H1 (xs ++ ys) := Row.app (row.ex (eg.trans e1)) (rowg.ex e1)
    have E1 : Ex H H1 := (EZ.trans eg).trans e1
    have zl : (xs ++ ys).length ≤ 70 := by rw [List.length_append]; omega
    generalize xs ++ ys = zs at f1 R1 zl
    clear e1 n1 ng eg fg rowg lgl fZ row lz EZ
    walk_at "vv"
    refine exSq (SqL.of f1) ?_
    intro D hD
    refine lcList (K := K) (fun H' => Ex H1 H') (fun _ y _ => y = .bl true) (fun _ => rfl) (Ex.new hD) (fun H' e => SqL.of (e _ _ f1)) (fun i x hx H' acc hI hD' hl hR => ?_) (fun H2 bs hI hD2 hl hR => ?_)
    · walk_at "vv"
      obtain ⟨d, dd⟩ := R1 x (List.mem_of_getElem? hx)
      have il := (List.getElem?_eq_some_iff.mp hx).1
      refine ⟨x, d, rfl, dd.ex hI, fun H'' e2 => ?_⟩
      exact lcAdd (e2 _ _ hD') hl (by omega) ((hI.trans e2).mut hD) hR rfl
    · obtain ⟨bb, rfl, hb⟩ := all_true hR
      have E2 : Ex H H2 := E1.trans hI
      walk_at "vv"
      refine wAll (SqL.of hD2) ?_
      rw [hb]
      clear hD2 hR hl hI hb R1 E1 f1
      walk_at "vv"
      refine wLenL (E2.sq hS) ?_
      walk_at "vv"
      obtain ⟨N, hN1, hN2, hN⟩ : ∃ N : Int, 1 ≤ N ∧ N ≤ 6 ∧ (if (if 6 < ((ns.map V.int).length : Int) then (6 : Int) else ((ns.map V.int).length : Int)) > 1 then (if 6 < ((ns.map V.int).length : Int) then (6 : Int) else ((ns.map V.int).length : Int)) else 1) = N := by
        refine ⟨_, ?_, ?_, rfl⟩ <;> (split <;> split <;> omega)
      rw [hN]
      refine ⟨by omega, by omega, ?_⟩
      refine for_range (lo := 0) (n := N.toNat) (fun i σ H2 => ∃ v1 v2 v3 v4 v5 v6 v7 v8 v9, σ = [some (.ref a), v1, v2, v3, v4, v5, v6, v7, v8, v9] ∧ Ex H H2) ⟨_, _, _, _, _, _, _, _, _, rfl, E2⟩ ?_ ?_
      · rintro i σ H10 hi ⟨v1, v2, v3, v4, v5, v6, v7, v8, v9, rfl, e10⟩
        walk_at "vv"
        refine ⟨a, ns, 0 + i, rfl, e10.sq hS, hlen, by omega, by omega, fun c H11 e11 => ?_⟩
        walk_at "vv"
        refine ⟨c, rfl, fun p H12 np e12 hP => ?_⟩
        have E12 : Ex H H12 := (e10.trans e11).trans e12
        have np0 : H p = none := (e10.trans e11).free np
        walk_at "vv"
        refine ⟨p, 5, rfl, hP, by omega, by omega, fun wv wd H13 k13 hP13 dw wp => ?_⟩
        walk_at "vv"
        obtain ⟨rn, rl, rr⟩ := web_rp (dw.ex hide_ex) wp
        refine ⟨wv, true, wd, rn, rfl, rr, rl, ?_⟩
        walk_at "vv"
        refine ⟨wv, wd, rfl, ⟨dw.ex hide_ex, wp.bd.mono (by decide) (by decide)⟩, fun H14 e14 => ?_⟩
        rw [wp.web]
        walk_at "vv"
        refine ⟨true, true, rfl, rfl, ?_⟩
        refine ⟨false, rfl, ?_⟩
        walk_at "vv"
        refine ⟨by decide, by decide, ?_⟩
        refine for_range (lo := 0) (n := 8) (fun j σ H' => ∃ v6 v7 v8 v9, σ = [some (.ref a), v1, some (.int (0 + i)), some (.ref p), some wv, some (.str wd.shown), v6, v7, v8, v9] ∧ Kp p H14 H' ∧ Pool H' p) ⟨_, _, _, _, rfl, Kp.refl _ _, hP13.ex e14⟩ ?_ ?_
        · rintro j σ H15 hj ⟨v6, v7, v8, v9, rfl, k15, hP15⟩
          have dw15 := (dw.ex (Kp.hide (e14.kp.trans k15)))
          have wdp := wp.dp
          walk_at "vv"
          refine ⟨p, wv, wd, rfl, hP15, dw15, wp, fun ov od H20 k20 hP20 oda odp => ?_⟩
          have dw20 := dw15.ex (Kp.hide k20)
          walk_at "vv"
          refine ⟨p, wv, wd, 14, 81, rfl, hP20, ⟨dw20, wp.bd⟩, by omega, by omega, by omega, fun s1 d1 H21 k21 hP21 da1 dp1 => ?_⟩
          walk_at "vv"
          refine ⟨p, wv, wd, 14, 81, rfl, hP21, ⟨dw20.ex (Kp.hide k21), wp.bd⟩, by omega, by omega, by omega, fun s2 d2 H22 k22 hP22 da2 dp2 => ?_⟩
          walk_at "vv"
          refine ⟨p, s2, d2, 14 + 140, 3 * 81 + 9, rfl, hP22, da2, by omega, by omega, by omega, fun s3 d3 H23 k23 hP23 da3 dp3 => ?_⟩
          walk_at "vv"
          refine ⟨p, ov, od, 14, 82, rfl, hP23, oda.ex (Kp.hide ((k21.trans k22).trans k23)), by omega, by omega, by omega, fun s4 d4 H24 k24 hP24 da4 dp4 => ?_⟩
          walk_at "vv"
          refine alI fun ls H25 n25 e25 f25 => ?_
          have c23 : Kp p H23 H25 := k24.trans e25.kp
          have c21 : Kp p H21 H25 := (k22.trans k23).trans c23
          have c20 : Kp p H20 H25 := k21.trans c21
          have K25 : Kp p H14 H25 := (k15.trans k20).trans c20
          have hP25 := hP24.ex e25
          have R25 : ∀ x ∈ [ov, s1, s3, s4], ∃ d, Da M0 N0 (hide p H25) x d := by
            intro x hx
            simp only [List.mem_cons, List.not_mem_nil, or_false] at hx
            rcases hx with rfl | rfl | rfl | rfl
            · exact ⟨_, (oda.ex (Kp.hide c20)).mono (by decide) (by decide)⟩
            · exact ⟨_, (da1.ex (Kp.hide c21)).mono (by decide) (by decide)⟩
            · exact ⟨_, (da3.ex (Kp.hide c23)).mono (by decide) (by decide)⟩
            · exact ⟨_, (da4.ex (Kp.hide e25.kp)).mono (by decide) (by decide)⟩
          clear c20 c21 c23 k20 k21 k22 k23 k24 dw20 dw15 oda da1 da2 da3 da4 hP15 hP20 hP21 hP22 hP23 hP24 e25 n25
          walk_at "vv"
          refine exSq (SqL.of f25) ?_
          intro D hD
          refine lcList (K := K) (fun H' => Ex H25 H') (fun _ y _ => y = .bl true) (fun _ => rfl) (Ex.new hD) (fun H' e => SqL.of (e _ _ f25)) (fun i x hx H' acc hI hD' hl hR => ?_) (fun H26 bs hI hD2 hl hR => ?_)
          · walk_at "vv"
            obtain ⟨d, dd⟩ := R25 x (List.mem_of_getElem? hx)
            have il : i < 4 := (List.getElem?_eq_some_iff.mp hx).1
            refine ⟨x, d, rfl, dd.ex (hide_ex.trans hI), fun H'' e2 => ?_⟩
            exact lcAdd (e2 _ _ hD') hl (by omega) ((hI.trans e2).mut hD) hR rfl
          · obtain ⟨bb, rfl, hb⟩ := all_true hR
            walk_at "vv"
            refine wAll (SqL.of hD2) ?_
            rw [hb]
            walk_at "vv"
            exact ⟨_, _, _, _, rfl, K25.trans hI.kp, hP25.ex hI⟩
        · rintro σ H15 ⟨v6, v7, v8, v9, rfl, k15, hP15⟩
          have dw15 := (dw.ex (Kp.hide (e14.kp.trans k15)))
          walk_at "vv"
          refine ⟨wv, wd, rfl, ⟨dw15.ex hide_ex, wp.bd.mono (by decide) (by decide)⟩, fun H16 e16 => ?_⟩
          rw [wp.web]
          walk_at "vv"
          refine ⟨true, true, rfl, rfl, ?_⟩
          refine ⟨false, rfl, ?_⟩
          walk_at "vv"
          obtain ⟨rn2, rl2, rr2⟩ := web_rp ((dw15.ex hide_ex).ex e16) wp
          refine ⟨wv, true, wd, rn2, rfl, rr2, rl2, ?_⟩
          walk_at "vv"
          rw [if_neg (show ¬ ((!decide (V.str wd.shown = V.str wd.shown)) = true) by simp)]
          walk_at "vv"
          exact ⟨_, _, _, _, _, _, _, _, _, rfl, Kp.back E12 (k13.trans (e14.kp.trans (k15.trans e16.kp))) np0⟩
      · rintro σ H3 ⟨v1, v2, v3, v4, v5, v6, v7, v8, v9, rfl, e3⟩
        walk_at "vv"
        exact k _
end
theorem all_mk {l : PySem.W.OpenLaw} {w : World} {K : PySem.W.Frag} {h : Heap} {mg : Str → Option Value} {fa f_is_whole f_greatest_divisor f_is_fraction f_is_name f_is_web f_is_people f_is_goods f_is_thanks f_person_fits f_good_fits f_thank_fits f_is_amount_row f_rises f_is_one_of f_is_held_by f_Lcell f_Lpool f_Ltake f_Llow f_Lnames f_Lmeasure f_Lthanks f_Lgoods f_Lweb f_Ldrawn f_Lwhole f_Lis_amount f_Lis_name f_Lrises f_Lrows f_Lis_web f_Lspoilt f_Lmore f_Ltold f_Lgreat f_law : Addr} (X : K.In h) (G : h.Ns mainGlobals mg) (hfa : mg "law" = some (.ref fa))
    {od_is_whole an_is_whole od_greatest_divisor an_greatest_divisor od_is_fraction an_is_fraction od_is_name an_is_name od_is_web an_is_web od_is_people an_is_people od_is_goods an_is_goods od_is_thanks an_is_thanks od_person_fits an_person_fits od_good_fits an_good_fits od_thank_fits an_thank_fits od_is_amount_row an_is_amount_row od_rises an_rises od_is_one_of an_is_one_of od_is_held_by an_is_held_by od_Lcell an_Lcell od_Lpool an_Lpool od_Ltake an_Ltake od_Llow an_Llow od_Lnames an_Lnames od_Lmeasure an_Lmeasure od_Lthanks an_Lthanks od_Lgoods an_Lgoods od_Lweb an_Lweb od_Ldrawn an_Ldrawn od_Lwhole an_Lwhole od_Lis_amount an_Lis_amount od_Lis_name an_Lis_name od_Lrises an_Lrises od_Lrows an_Lrows od_Lis_web an_Lis_web od_Lspoilt an_Lspoilt od_Lmore an_Lmore od_Ltold an_Ltold od_Lgreat an_Lgreat od_law an_law : Option Addr} {sl_is_whole sl_greatest_divisor sl_is_fraction sl_is_name sl_is_web sl_is_people sl_is_goods sl_is_thanks sl_person_fits sl_good_fits sl_thank_fits sl_is_amount_row sl_rises sl_is_one_of sl_is_held_by sl_Lcell sl_Lpool sl_Ltake sl_Llow sl_Lnames sl_Lmeasure sl_Lthanks sl_Lgoods sl_Lweb sl_Ldrawn sl_Lwhole sl_Lis_amount sl_Lis_name sl_Lrises sl_Lrows sl_Lis_web sl_Lspoilt sl_Lmore sl_Ltold sl_Lgreat sl_law : Array (Option Value)} {oc_is_whole kV_is_whole dc_is_whole pm_is_whole cd_is_whole ct_is_whole oc_greatest_divisor kV_greatest_divisor dc_greatest_divisor pm_greatest_divisor cd_greatest_divisor ct_greatest_divisor oc_is_fraction kV_is_fraction dc_is_fraction pm_is_fraction cd_is_fraction ct_is_fraction oc_is_name kV_is_name dc_is_name pm_is_name cd_is_name ct_is_name oc_is_web kV_is_web dc_is_web pm_is_web cd_is_web ct_is_web oc_is_people kV_is_people dc_is_people pm_is_people cd_is_people ct_is_people oc_is_goods kV_is_goods dc_is_goods pm_is_goods cd_is_goods ct_is_goods oc_is_thanks kV_is_thanks dc_is_thanks pm_is_thanks cd_is_thanks ct_is_thanks oc_person_fits kV_person_fits dc_person_fits pm_person_fits cd_person_fits ct_person_fits oc_good_fits kV_good_fits dc_good_fits pm_good_fits cd_good_fits ct_good_fits oc_thank_fits kV_thank_fits dc_thank_fits pm_thank_fits cd_thank_fits ct_thank_fits oc_is_amount_row kV_is_amount_row dc_is_amount_row pm_is_amount_row cd_is_amount_row ct_is_amount_row oc_rises kV_rises dc_rises pm_rises cd_rises ct_rises oc_is_one_of kV_is_one_of dc_is_one_of pm_is_one_of cd_is_one_of ct_is_one_of oc_is_held_by kV_is_held_by dc_is_held_by pm_is_held_by cd_is_held_by ct_is_held_by oc_Lcell kV_Lcell dc_Lcell pm_Lcell cd_Lcell ct_Lcell oc_Lpool kV_Lpool dc_Lpool pm_Lpool cd_Lpool ct_Lpool oc_Ltake kV_Ltake dc_Ltake pm_Ltake cd_Ltake ct_Ltake oc_Llow kV_Llow dc_Llow pm_Llow cd_Llow ct_Llow oc_Lnames kV_Lnames dc_Lnames pm_Lnames cd_Lnames ct_Lnames oc_Lmeasure kV_Lmeasure dc_Lmeasure pm_Lmeasure cd_Lmeasure ct_Lmeasure oc_Lthanks kV_Lthanks dc_Lthanks pm_Lthanks cd_Lthanks ct_Lthanks oc_Lgoods kV_Lgoods dc_Lgoods pm_Lgoods cd_Lgoods ct_Lgoods oc_Lweb kV_Lweb dc_Lweb pm_Lweb cd_Lweb ct_Lweb oc_Ldrawn kV_Ldrawn dc_Ldrawn pm_Ldrawn cd_Ldrawn ct_Ldrawn oc_Lwhole kV_Lwhole dc_Lwhole pm_Lwhole cd_Lwhole ct_Lwhole oc_Lis_amount kV_Lis_amount dc_Lis_amount pm_Lis_amount cd_Lis_amount ct_Lis_amount oc_Lis_name kV_Lis_name dc_Lis_name pm_Lis_name cd_Lis_name ct_Lis_name oc_Lrises kV_Lrises dc_Lrises pm_Lrises cd_Lrises ct_Lrises oc_Lrows kV_Lrows dc_Lrows pm_Lrows cd_Lrows ct_Lrows oc_Lis_web kV_Lis_web dc_Lis_web pm_Lis_web cd_Lis_web ct_Lis_web oc_Lspoilt kV_Lspoilt dc_Lspoilt pm_Lspoilt cd_Lspoilt ct_Lspoilt oc_Lmore kV_Lmore dc_Lmore pm_Lmore cd_Lmore ct_Lmore oc_Ltold kV_Ltold dc_Ltold pm_Ltold cd_Ltold ct_Ltold oc_Lgreat kV_Lgreat dc_Lgreat pm_Lgreat cd_Lgreat ct_Lgreat oc_law kV_law dc_law pm_law cd_law ct_law : Value}
    {t_CHEST t_MOST_LETTERS t_MOST_PEOPLE t_MOST_LOTS : Tok}
    (a_is_whole : PySem.W.nsIn K mainGlobals "is_whole" = some (some (.ref f_is_whole))) (l_is_whole : K.lookup f_is_whole = some ⟨oc_is_whole, od_is_whole, .func (PySem.W.fnOf "is_whole" "is_whole" (defArgs s_is_whole) (defBody s_is_whole) (defScope s_is_whole) .none kV_is_whole dc_is_whole pm_is_whole an_is_whole cd_is_whole ct_is_whole), sl_is_whole⟩) (c_is_whole : PySem.W.codeIn K cd_is_whole "is_whole" = true) (k_is_whole : PySem.W.keepIn K (.ref f_is_whole) = true)
    (a_greatest_divisor : PySem.W.nsIn K mainGlobals "greatest_divisor" = some (some (.ref f_greatest_divisor))) (l_greatest_divisor : K.lookup f_greatest_divisor = some ⟨oc_greatest_divisor, od_greatest_divisor, .func (PySem.W.fnOf "greatest_divisor" "greatest_divisor" (defArgs s_greatest_divisor) (defBody s_greatest_divisor) (defScope s_greatest_divisor) .none kV_greatest_divisor dc_greatest_divisor pm_greatest_divisor an_greatest_divisor cd_greatest_divisor ct_greatest_divisor), sl_greatest_divisor⟩) (c_greatest_divisor : PySem.W.codeIn K cd_greatest_divisor "greatest_divisor" = true) (k_greatest_divisor : PySem.W.keepIn K (.ref f_greatest_divisor) = true)
    (a_is_fraction : PySem.W.nsIn K mainGlobals "is_fraction" = some (some (.ref f_is_fraction))) (l_is_fraction : K.lookup f_is_fraction = some ⟨oc_is_fraction, od_is_fraction, .func (PySem.W.fnOf "is_fraction" "is_fraction" (defArgs s_is_fraction) (defBody s_is_fraction) (defScope s_is_fraction) .none kV_is_fraction dc_is_fraction pm_is_fraction an_is_fraction cd_is_fraction ct_is_fraction), sl_is_fraction⟩) (c_is_fraction : PySem.W.codeIn K cd_is_fraction "is_fraction" = true) (k_is_fraction : PySem.W.keepIn K (.ref f_is_fraction) = true)
    (a_is_name : PySem.W.nsIn K mainGlobals "is_name" = some (some (.ref f_is_name))) (l_is_name : K.lookup f_is_name = some ⟨oc_is_name, od_is_name, .func (PySem.W.fnOf "is_name" "is_name" (defArgs s_is_name) (defBody s_is_name) (defScope s_is_name) .none kV_is_name dc_is_name pm_is_name an_is_name cd_is_name ct_is_name), sl_is_name⟩) (c_is_name : PySem.W.codeIn K cd_is_name "is_name" = true) (k_is_name : PySem.W.keepIn K (.ref f_is_name) = true)
    (a_is_web : PySem.W.nsIn K mainGlobals "is_web" = some (some (.ref f_is_web))) (l_is_web : K.lookup f_is_web = some ⟨oc_is_web, od_is_web, .func (PySem.W.fnOf "is_web" "is_web" (defArgs s_is_web) (defBody s_is_web) (defScope s_is_web) .none kV_is_web dc_is_web pm_is_web an_is_web cd_is_web ct_is_web), sl_is_web⟩) (c_is_web : PySem.W.codeIn K cd_is_web "is_web" = true) (k_is_web : PySem.W.keepIn K (.ref f_is_web) = true)
    (a_is_people : PySem.W.nsIn K mainGlobals "is_people" = some (some (.ref f_is_people))) (l_is_people : K.lookup f_is_people = some ⟨oc_is_people, od_is_people, .func (PySem.W.fnOf "is_people" "is_people" (defArgs s_is_people) (defBody s_is_people) (defScope s_is_people) .none kV_is_people dc_is_people pm_is_people an_is_people cd_is_people ct_is_people), sl_is_people⟩) (c_is_people : PySem.W.codeIn K cd_is_people "is_people" = true) (k_is_people : PySem.W.keepIn K (.ref f_is_people) = true)
    (a_is_goods : PySem.W.nsIn K mainGlobals "is_goods" = some (some (.ref f_is_goods))) (l_is_goods : K.lookup f_is_goods = some ⟨oc_is_goods, od_is_goods, .func (PySem.W.fnOf "is_goods" "is_goods" (defArgs s_is_goods) (defBody s_is_goods) (defScope s_is_goods) .none kV_is_goods dc_is_goods pm_is_goods an_is_goods cd_is_goods ct_is_goods), sl_is_goods⟩) (c_is_goods : PySem.W.codeIn K cd_is_goods "is_goods" = true) (k_is_goods : PySem.W.keepIn K (.ref f_is_goods) = true)
    (a_is_thanks : PySem.W.nsIn K mainGlobals "is_thanks" = some (some (.ref f_is_thanks))) (l_is_thanks : K.lookup f_is_thanks = some ⟨oc_is_thanks, od_is_thanks, .func (PySem.W.fnOf "is_thanks" "is_thanks" (defArgs s_is_thanks) (defBody s_is_thanks) (defScope s_is_thanks) .none kV_is_thanks dc_is_thanks pm_is_thanks an_is_thanks cd_is_thanks ct_is_thanks), sl_is_thanks⟩) (c_is_thanks : PySem.W.codeIn K cd_is_thanks "is_thanks" = true) (k_is_thanks : PySem.W.keepIn K (.ref f_is_thanks) = true)
    (a_person_fits : PySem.W.nsIn K mainGlobals "person_fits" = some (some (.ref f_person_fits))) (l_person_fits : K.lookup f_person_fits = some ⟨oc_person_fits, od_person_fits, .func (PySem.W.fnOf "person_fits" "person_fits" (defArgs s_person_fits) (defBody s_person_fits) (defScope s_person_fits) .none kV_person_fits dc_person_fits pm_person_fits an_person_fits cd_person_fits ct_person_fits), sl_person_fits⟩) (c_person_fits : PySem.W.codeIn K cd_person_fits "person_fits" = true) (k_person_fits : PySem.W.keepIn K (.ref f_person_fits) = true)
    (a_good_fits : PySem.W.nsIn K mainGlobals "good_fits" = some (some (.ref f_good_fits))) (l_good_fits : K.lookup f_good_fits = some ⟨oc_good_fits, od_good_fits, .func (PySem.W.fnOf "good_fits" "good_fits" (defArgs s_good_fits) (defBody s_good_fits) (defScope s_good_fits) .none kV_good_fits dc_good_fits pm_good_fits an_good_fits cd_good_fits ct_good_fits), sl_good_fits⟩) (c_good_fits : PySem.W.codeIn K cd_good_fits "good_fits" = true) (k_good_fits : PySem.W.keepIn K (.ref f_good_fits) = true)
    (a_thank_fits : PySem.W.nsIn K mainGlobals "thank_fits" = some (some (.ref f_thank_fits))) (l_thank_fits : K.lookup f_thank_fits = some ⟨oc_thank_fits, od_thank_fits, .func (PySem.W.fnOf "thank_fits" "thank_fits" (defArgs s_thank_fits) (defBody s_thank_fits) (defScope s_thank_fits) .none kV_thank_fits dc_thank_fits pm_thank_fits an_thank_fits cd_thank_fits ct_thank_fits), sl_thank_fits⟩) (c_thank_fits : PySem.W.codeIn K cd_thank_fits "thank_fits" = true) (k_thank_fits : PySem.W.keepIn K (.ref f_thank_fits) = true)
    (a_is_amount_row : PySem.W.nsIn K mainGlobals "is_amount_row" = some (some (.ref f_is_amount_row))) (l_is_amount_row : K.lookup f_is_amount_row = some ⟨oc_is_amount_row, od_is_amount_row, .func (PySem.W.fnOf "is_amount_row" "is_amount_row" (defArgs s_is_amount_row) (defBody s_is_amount_row) (defScope s_is_amount_row) .none kV_is_amount_row dc_is_amount_row pm_is_amount_row an_is_amount_row cd_is_amount_row ct_is_amount_row), sl_is_amount_row⟩) (c_is_amount_row : PySem.W.codeIn K cd_is_amount_row "is_amount_row" = true) (k_is_amount_row : PySem.W.keepIn K (.ref f_is_amount_row) = true)
    (a_rises : PySem.W.nsIn K mainGlobals "rises" = some (some (.ref f_rises))) (l_rises : K.lookup f_rises = some ⟨oc_rises, od_rises, .func (PySem.W.fnOf "rises" "rises" (defArgs s_rises) (defBody s_rises) (defScope s_rises) .none kV_rises dc_rises pm_rises an_rises cd_rises ct_rises), sl_rises⟩) (c_rises : PySem.W.codeIn K cd_rises "rises" = true) (k_rises : PySem.W.keepIn K (.ref f_rises) = true)
    (a_is_one_of : PySem.W.nsIn K mainGlobals "is_one_of" = some (some (.ref f_is_one_of))) (l_is_one_of : K.lookup f_is_one_of = some ⟨oc_is_one_of, od_is_one_of, .func (PySem.W.fnOf "is_one_of" "is_one_of" (defArgs s_is_one_of) (defBody s_is_one_of) (defScope s_is_one_of) .none kV_is_one_of dc_is_one_of pm_is_one_of an_is_one_of cd_is_one_of ct_is_one_of), sl_is_one_of⟩) (c_is_one_of : PySem.W.codeIn K cd_is_one_of "is_one_of" = true) (k_is_one_of : PySem.W.keepIn K (.ref f_is_one_of) = true)
    (a_is_held_by : PySem.W.nsIn K mainGlobals "is_held_by" = some (some (.ref f_is_held_by))) (l_is_held_by : K.lookup f_is_held_by = some ⟨oc_is_held_by, od_is_held_by, .func (PySem.W.fnOf "is_held_by" "is_held_by" (defArgs s_is_held_by) (defBody s_is_held_by) (defScope s_is_held_by) .none kV_is_held_by dc_is_held_by pm_is_held_by an_is_held_by cd_is_held_by ct_is_held_by), sl_is_held_by⟩) (c_is_held_by : PySem.W.codeIn K cd_is_held_by "is_held_by" = true) (k_is_held_by : PySem.W.keepIn K (.ref f_is_held_by) = true)
    (a_Lcell : PySem.W.nsIn K mainGlobals "_law_cell" = some (some (.ref f_Lcell))) (l_Lcell : K.lookup f_Lcell = some ⟨oc_Lcell, od_Lcell, .func (PySem.W.fnOf "_law_cell" "_law_cell" (defArgs s_Lcell) (defBody s_Lcell) (defScope s_Lcell) .none kV_Lcell dc_Lcell pm_Lcell an_Lcell cd_Lcell ct_Lcell), sl_Lcell⟩) (c_Lcell : PySem.W.codeIn K cd_Lcell "_law_cell" = true) (k_Lcell : PySem.W.keepIn K (.ref f_Lcell) = true)
    (a_Lpool : PySem.W.nsIn K mainGlobals "_law_pool" = some (some (.ref f_Lpool))) (l_Lpool : K.lookup f_Lpool = some ⟨oc_Lpool, od_Lpool, .func (PySem.W.fnOf "_law_pool" "_law_pool" (defArgs s_Lpool) (defBody s_Lpool) (defScope s_Lpool) .none kV_Lpool dc_Lpool pm_Lpool an_Lpool cd_Lpool ct_Lpool), sl_Lpool⟩) (c_Lpool : PySem.W.codeIn K cd_Lpool "_law_pool" = true) (k_Lpool : PySem.W.keepIn K (.ref f_Lpool) = true)
    (a_Ltake : PySem.W.nsIn K mainGlobals "_law_take" = some (some (.ref f_Ltake))) (l_Ltake : K.lookup f_Ltake = some ⟨oc_Ltake, od_Ltake, .func (PySem.W.fnOf "_law_take" "_law_take" (defArgs s_Ltake) (defBody s_Ltake) (defScope s_Ltake) .none kV_Ltake dc_Ltake pm_Ltake an_Ltake cd_Ltake ct_Ltake), sl_Ltake⟩) (c_Ltake : PySem.W.codeIn K cd_Ltake "_law_take" = true) (k_Ltake : PySem.W.keepIn K (.ref f_Ltake) = true)
    (a_Llow : PySem.W.nsIn K mainGlobals "_law_low" = some (some (.ref f_Llow))) (l_Llow : K.lookup f_Llow = some ⟨oc_Llow, od_Llow, .func (PySem.W.fnOf "_law_low" "_law_low" (defArgs s_Llow) (defBody s_Llow) (defScope s_Llow) .none kV_Llow dc_Llow pm_Llow an_Llow cd_Llow ct_Llow), sl_Llow⟩) (c_Llow : PySem.W.codeIn K cd_Llow "_law_low" = true) (k_Llow : PySem.W.keepIn K (.ref f_Llow) = true)
    (a_Lnames : PySem.W.nsIn K mainGlobals "_law_names" = some (some (.ref f_Lnames))) (l_Lnames : K.lookup f_Lnames = some ⟨oc_Lnames, od_Lnames, .func (PySem.W.fnOf "_law_names" "_law_names" (defArgs s_Lnames) (defBody s_Lnames) (defScope s_Lnames) .none kV_Lnames dc_Lnames pm_Lnames an_Lnames cd_Lnames ct_Lnames), sl_Lnames⟩) (c_Lnames : PySem.W.codeIn K cd_Lnames "_law_names" = true) (k_Lnames : PySem.W.keepIn K (.ref f_Lnames) = true)
    (a_Lmeasure : PySem.W.nsIn K mainGlobals "_law_measure" = some (some (.ref f_Lmeasure))) (l_Lmeasure : K.lookup f_Lmeasure = some ⟨oc_Lmeasure, od_Lmeasure, .func (PySem.W.fnOf "_law_measure" "_law_measure" (defArgs s_Lmeasure) (defBody s_Lmeasure) (defScope s_Lmeasure) .none kV_Lmeasure dc_Lmeasure pm_Lmeasure an_Lmeasure cd_Lmeasure ct_Lmeasure), sl_Lmeasure⟩) (c_Lmeasure : PySem.W.codeIn K cd_Lmeasure "_law_measure" = true) (k_Lmeasure : PySem.W.keepIn K (.ref f_Lmeasure) = true)
    (a_Lthanks : PySem.W.nsIn K mainGlobals "_law_thanks" = some (some (.ref f_Lthanks))) (l_Lthanks : K.lookup f_Lthanks = some ⟨oc_Lthanks, od_Lthanks, .func (PySem.W.fnOf "_law_thanks" "_law_thanks" (defArgs s_Lthanks) (defBody s_Lthanks) (defScope s_Lthanks) .none kV_Lthanks dc_Lthanks pm_Lthanks an_Lthanks cd_Lthanks ct_Lthanks), sl_Lthanks⟩) (c_Lthanks : PySem.W.codeIn K cd_Lthanks "_law_thanks" = true) (k_Lthanks : PySem.W.keepIn K (.ref f_Lthanks) = true)
    (a_Lgoods : PySem.W.nsIn K mainGlobals "_law_goods" = some (some (.ref f_Lgoods))) (l_Lgoods : K.lookup f_Lgoods = some ⟨oc_Lgoods, od_Lgoods, .func (PySem.W.fnOf "_law_goods" "_law_goods" (defArgs s_Lgoods) (defBody s_Lgoods) (defScope s_Lgoods) .none kV_Lgoods dc_Lgoods pm_Lgoods an_Lgoods cd_Lgoods ct_Lgoods), sl_Lgoods⟩) (c_Lgoods : PySem.W.codeIn K cd_Lgoods "_law_goods" = true) (k_Lgoods : PySem.W.keepIn K (.ref f_Lgoods) = true)
    (a_Lweb : PySem.W.nsIn K mainGlobals "_law_web" = some (some (.ref f_Lweb))) (l_Lweb : K.lookup f_Lweb = some ⟨oc_Lweb, od_Lweb, .func (PySem.W.fnOf "_law_web" "_law_web" (defArgs s_Lweb) (defBody s_Lweb) (defScope s_Lweb) .none kV_Lweb dc_Lweb pm_Lweb an_Lweb cd_Lweb ct_Lweb), sl_Lweb⟩) (c_Lweb : PySem.W.codeIn K cd_Lweb "_law_web" = true) (k_Lweb : PySem.W.keepIn K (.ref f_Lweb) = true)
    (a_Ldrawn : PySem.W.nsIn K mainGlobals "_law_drawn" = some (some (.ref f_Ldrawn))) (l_Ldrawn : K.lookup f_Ldrawn = some ⟨oc_Ldrawn, od_Ldrawn, .func (PySem.W.fnOf "_law_drawn" "_law_drawn" (defArgs s_Ldrawn) (defBody s_Ldrawn) (defScope s_Ldrawn) .none kV_Ldrawn dc_Ldrawn pm_Ldrawn an_Ldrawn cd_Ldrawn ct_Ldrawn), sl_Ldrawn⟩) (c_Ldrawn : PySem.W.codeIn K cd_Ldrawn "_law_drawn" = true) (k_Ldrawn : PySem.W.keepIn K (.ref f_Ldrawn) = true)
    (a_Lwhole : PySem.W.nsIn K mainGlobals "_law_whole" = some (some (.ref f_Lwhole))) (l_Lwhole : K.lookup f_Lwhole = some ⟨oc_Lwhole, od_Lwhole, .func (PySem.W.fnOf "_law_whole" "_law_whole" (defArgs s_Lwhole) (defBody s_Lwhole) (defScope s_Lwhole) .none kV_Lwhole dc_Lwhole pm_Lwhole an_Lwhole cd_Lwhole ct_Lwhole), sl_Lwhole⟩) (c_Lwhole : PySem.W.codeIn K cd_Lwhole "_law_whole" = true) (k_Lwhole : PySem.W.keepIn K (.ref f_Lwhole) = true)
    (a_Lis_amount : PySem.W.nsIn K mainGlobals "_law_is_amount" = some (some (.ref f_Lis_amount))) (l_Lis_amount : K.lookup f_Lis_amount = some ⟨oc_Lis_amount, od_Lis_amount, .func (PySem.W.fnOf "_law_is_amount" "_law_is_amount" (defArgs s_Lis_amount) (defBody s_Lis_amount) (defScope s_Lis_amount) .none kV_Lis_amount dc_Lis_amount pm_Lis_amount an_Lis_amount cd_Lis_amount ct_Lis_amount), sl_Lis_amount⟩) (c_Lis_amount : PySem.W.codeIn K cd_Lis_amount "_law_is_amount" = true) (k_Lis_amount : PySem.W.keepIn K (.ref f_Lis_amount) = true)
    (a_Lis_name : PySem.W.nsIn K mainGlobals "_law_is_name" = some (some (.ref f_Lis_name))) (l_Lis_name : K.lookup f_Lis_name = some ⟨oc_Lis_name, od_Lis_name, .func (PySem.W.fnOf "_law_is_name" "_law_is_name" (defArgs s_Lis_name) (defBody s_Lis_name) (defScope s_Lis_name) .none kV_Lis_name dc_Lis_name pm_Lis_name an_Lis_name cd_Lis_name ct_Lis_name), sl_Lis_name⟩) (c_Lis_name : PySem.W.codeIn K cd_Lis_name "_law_is_name" = true) (k_Lis_name : PySem.W.keepIn K (.ref f_Lis_name) = true)
    (a_Lrises : PySem.W.nsIn K mainGlobals "_law_rises" = some (some (.ref f_Lrises))) (l_Lrises : K.lookup f_Lrises = some ⟨oc_Lrises, od_Lrises, .func (PySem.W.fnOf "_law_rises" "_law_rises" (defArgs s_Lrises) (defBody s_Lrises) (defScope s_Lrises) .none kV_Lrises dc_Lrises pm_Lrises an_Lrises cd_Lrises ct_Lrises), sl_Lrises⟩) (c_Lrises : PySem.W.codeIn K cd_Lrises "_law_rises" = true) (k_Lrises : PySem.W.keepIn K (.ref f_Lrises) = true)
    (a_Lrows : PySem.W.nsIn K mainGlobals "_law_rows" = some (some (.ref f_Lrows))) (l_Lrows : K.lookup f_Lrows = some ⟨oc_Lrows, od_Lrows, .func (PySem.W.fnOf "_law_rows" "_law_rows" (defArgs s_Lrows) (defBody s_Lrows) (defScope s_Lrows) .none kV_Lrows dc_Lrows pm_Lrows an_Lrows cd_Lrows ct_Lrows), sl_Lrows⟩) (c_Lrows : PySem.W.codeIn K cd_Lrows "_law_rows" = true) (k_Lrows : PySem.W.keepIn K (.ref f_Lrows) = true)
    (a_Lis_web : PySem.W.nsIn K mainGlobals "_law_is_web" = some (some (.ref f_Lis_web))) (l_Lis_web : K.lookup f_Lis_web = some ⟨oc_Lis_web, od_Lis_web, .func (PySem.W.fnOf "_law_is_web" "_law_is_web" (defArgs s_Lis_web) (defBody s_Lis_web) (defScope s_Lis_web) .none kV_Lis_web dc_Lis_web pm_Lis_web an_Lis_web cd_Lis_web ct_Lis_web), sl_Lis_web⟩) (c_Lis_web : PySem.W.codeIn K cd_Lis_web "_law_is_web" = true) (k_Lis_web : PySem.W.keepIn K (.ref f_Lis_web) = true)
    (a_Lspoilt : PySem.W.nsIn K mainGlobals "_law_spoilt" = some (some (.ref f_Lspoilt))) (l_Lspoilt : K.lookup f_Lspoilt = some ⟨oc_Lspoilt, od_Lspoilt, .func (PySem.W.fnOf "_law_spoilt" "_law_spoilt" (defArgs s_Lspoilt) (defBody s_Lspoilt) (defScope s_Lspoilt) .none kV_Lspoilt dc_Lspoilt pm_Lspoilt an_Lspoilt cd_Lspoilt ct_Lspoilt), sl_Lspoilt⟩) (c_Lspoilt : PySem.W.codeIn K cd_Lspoilt "_law_spoilt" = true) (k_Lspoilt : PySem.W.keepIn K (.ref f_Lspoilt) = true)
    (a_Lmore : PySem.W.nsIn K mainGlobals "_law_more" = some (some (.ref f_Lmore))) (l_Lmore : K.lookup f_Lmore = some ⟨oc_Lmore, od_Lmore, .func (PySem.W.fnOf "_law_more" "_law_more" (defArgs s_Lmore) (defBody s_Lmore) (defScope s_Lmore) .none kV_Lmore dc_Lmore pm_Lmore an_Lmore cd_Lmore ct_Lmore), sl_Lmore⟩) (c_Lmore : PySem.W.codeIn K cd_Lmore "_law_more" = true) (k_Lmore : PySem.W.keepIn K (.ref f_Lmore) = true)
    (a_Ltold : PySem.W.nsIn K mainGlobals "_law_told" = some (some (.ref f_Ltold))) (l_Ltold : K.lookup f_Ltold = some ⟨oc_Ltold, od_Ltold, .func (PySem.W.fnOf "_law_told" "_law_told" (defArgs s_Ltold) (defBody s_Ltold) (defScope s_Ltold) .none kV_Ltold dc_Ltold pm_Ltold an_Ltold cd_Ltold ct_Ltold), sl_Ltold⟩) (c_Ltold : PySem.W.codeIn K cd_Ltold "_law_told" = true) (k_Ltold : PySem.W.keepIn K (.ref f_Ltold) = true)
    (a_Lgreat : PySem.W.nsIn K mainGlobals "_law_great" = some (some (.ref f_Lgreat))) (l_Lgreat : K.lookup f_Lgreat = some ⟨oc_Lgreat, od_Lgreat, .func (PySem.W.fnOf "_law_great" "_law_great" (defArgs s_Lgreat) (defBody s_Lgreat) (defScope s_Lgreat) .none kV_Lgreat dc_Lgreat pm_Lgreat an_Lgreat cd_Lgreat ct_Lgreat), sl_Lgreat⟩) (c_Lgreat : PySem.W.codeIn K cd_Lgreat "_law_great" = true) (k_Lgreat : PySem.W.keepIn K (.ref f_Lgreat) = true)
    (a_law : PySem.W.nsIn K mainGlobals "law" = some (some (.ref f_law))) (l_law : K.lookup f_law = some ⟨oc_law, od_law, .func (PySem.W.fnOf "law" "law" (defArgs s_law) (defBody s_law) (defScope s_law) .none kV_law dc_law pm_law an_law cd_law ct_law), sl_law⟩) (c_law : PySem.W.codeIn K cd_law "law" = true) (k_law : PySem.W.keepIn K (.ref f_law) = true)
    (v_CHEST : PySem.W.nsIn K mainGlobals "CHEST" = some (some (.str "chest" t_CHEST)))
    (v_MOST_LETTERS : PySem.W.nsIn K mainGlobals "MOST_LETTERS" = some (some (.int 8 t_MOST_LETTERS)))
    (v_MOST_LOTS : PySem.W.nsIn K mainGlobals "MOST_LOTS" = some (some (.int 8 t_MOST_LOTS)))
    (v_MOST_PEOPLE : PySem.W.nsIn K mainGlobals "MOST_PEOPLE" = some (some (.int 8 t_MOST_PEOPLE)))
    (z_abs : PySem.W.nsIn K mainGlobals "abs" = some none)
    (z_all : PySem.W.nsIn K mainGlobals "all" = some none)
    (z_bool : PySem.W.nsIn K mainGlobals "bool" = some none)
    (z_divmod : PySem.W.nsIn K mainGlobals "divmod" = some none)
    (z_enumerate : PySem.W.nsIn K mainGlobals "enumerate" = some none)
    (z_int : PySem.W.nsIn K mainGlobals "int" = some none)
    (z_isinstance : PySem.W.nsIn K mainGlobals "isinstance" = some none)
    (z_len : PySem.W.nsIn K mainGlobals "len" = some none)
    (z_list : PySem.W.nsIn K mainGlobals "list" = some none)
    (z_max : PySem.W.nsIn K mainGlobals "max" = some none)
    (z_min : PySem.W.nsIn K mainGlobals "min" = some none)
    (z_range : PySem.W.nsIn K mainGlobals "range" = some none)
    (z_repr : PySem.W.nsIn K mainGlobals "repr" = some none)
    (z_set : PySem.W.nsIn K mainGlobals "set" = some none)
    (z_sorted : PySem.W.nsIn K mainGlobals "sorted" = some none)
    (z_str : PySem.W.nsIn K mainGlobals "str" = some none)
    (z_tuple : PySem.W.nsIn K mainGlobals "tuple" = some none)
    : ∃ fd : FuncData, (∀ (s : Shared) (v : Value), BindsTo s fd ⟨[v], []⟩ [("_law_script", v)]) ∧ ∀ base : Heap, K.In base → base.Ns mainGlobals mg → FnQ l.prog w K mg base CX0 8 fa fd ["_law_script"] (spLaw K) := by
  have e := hfa.symm.trans (PySem.W.mg_of X G a_law)
  cases e
  have F_is_whole := fun_mk (st := s_is_whole) l_is_whole c_is_whole k_is_whole
  have F_greatest_divisor := fun_mk (st := s_greatest_divisor) l_greatest_divisor c_greatest_divisor k_greatest_divisor
  have F_is_fraction := fun_mk (st := s_is_fraction) l_is_fraction c_is_fraction k_is_fraction
  have F_is_name := fun_mk (st := s_is_name) l_is_name c_is_name k_is_name
  have F_is_web := fun_mk (st := s_is_web) l_is_web c_is_web k_is_web
  have F_is_people := fun_mk (st := s_is_people) l_is_people c_is_people k_is_people
  have F_is_goods := fun_mk (st := s_is_goods) l_is_goods c_is_goods k_is_goods
  have F_is_thanks := fun_mk (st := s_is_thanks) l_is_thanks c_is_thanks k_is_thanks
  have F_person_fits := fun_mk (st := s_person_fits) l_person_fits c_person_fits k_person_fits
  have F_good_fits := fun_mk (st := s_good_fits) l_good_fits c_good_fits k_good_fits
  have F_thank_fits := fun_mk (st := s_thank_fits) l_thank_fits c_thank_fits k_thank_fits
  have F_is_amount_row := fun_mk (st := s_is_amount_row) l_is_amount_row c_is_amount_row k_is_amount_row
  have F_rises := fun_mk (st := s_rises) l_rises c_rises k_rises
  have F_is_one_of := fun_mk (st := s_is_one_of) l_is_one_of c_is_one_of k_is_one_of
  have F_is_held_by := fun_mk (st := s_is_held_by) l_is_held_by c_is_held_by k_is_held_by
  have F_Lcell := fun_mk (st := s_Lcell) l_Lcell c_Lcell k_Lcell
  have F_Lpool := fun_mk (st := s_Lpool) l_Lpool c_Lpool k_Lpool
  have F_Ltake := fun_mk (st := s_Ltake) l_Ltake c_Ltake k_Ltake
  have F_Llow := fun_mk (st := s_Llow) l_Llow c_Llow k_Llow
  have F_Lnames := fun_mk (st := s_Lnames) l_Lnames c_Lnames k_Lnames
  have F_Lmeasure := fun_mk (st := s_Lmeasure) l_Lmeasure c_Lmeasure k_Lmeasure
  have F_Lthanks := fun_mk (st := s_Lthanks) l_Lthanks c_Lthanks k_Lthanks
  have F_Lgoods := fun_mk (st := s_Lgoods) l_Lgoods c_Lgoods k_Lgoods
  have F_Lweb := fun_mk (st := s_Lweb) l_Lweb c_Lweb k_Lweb
  have F_Ldrawn := fun_mk (st := s_Ldrawn) l_Ldrawn c_Ldrawn k_Ldrawn
  have F_Lwhole := fun_mk (st := s_Lwhole) l_Lwhole c_Lwhole k_Lwhole
  have F_Lis_amount := fun_mk (st := s_Lis_amount) l_Lis_amount c_Lis_amount k_Lis_amount
  have F_Lis_name := fun_mk (st := s_Lis_name) l_Lis_name c_Lis_name k_Lis_name
  have F_Lrises := fun_mk (st := s_Lrises) l_Lrises c_Lrises k_Lrises
  have F_Lrows := fun_mk (st := s_Lrows) l_Lrows c_Lrows k_Lrows
  have F_Lis_web := fun_mk (st := s_Lis_web) l_Lis_web c_Lis_web k_Lis_web
  have F_Lspoilt := fun_mk (st := s_Lspoilt) l_Lspoilt c_Lspoilt k_Lspoilt
  have F_Lmore := fun_mk (st := s_Lmore) l_Lmore c_Lmore k_Lmore
  have F_Ltold := fun_mk (st := s_Ltold) l_Ltold c_Ltold k_Ltold
  have F_Lgreat := fun_mk (st := s_Lgreat) l_Lgreat c_Lgreat k_Lgreat
  have F_law := fun_mk (st := s_law) l_law c_law k_law
  have T : Tx K mg ⟨f_is_whole, _, f_greatest_divisor, _, f_is_fraction, _, f_is_name, _, f_is_web, _, f_is_people, _, f_is_goods, _, f_is_thanks, _, f_person_fits, _, f_good_fits, _, f_thank_fits, _, f_is_amount_row, _, f_rises, _, f_is_one_of, _, f_is_held_by, _, f_Lcell, _, f_Lpool, _, f_Ltake, _, f_Llow, _, f_Lnames, _, f_Lmeasure, _, f_Lthanks, _, f_Lgoods, _, f_Lweb, _, f_Ldrawn, _, f_Lwhole, _, f_Lis_amount, _, f_Lis_name, _, f_Lrises, _, f_Lrows, _, f_Lis_web, _, f_Lspoilt, _, f_Lmore, _, f_Ltold, _, f_Lgreat, _, t_CHEST, t_MOST_LETTERS, t_MOST_PEOPLE, t_MOST_LOTS⟩ := {
    c_CHEST := PySem.W.mg_of X G v_CHEST
    c_MOST_LETTERS := PySem.W.mg_of X G v_MOST_LETTERS
    c_MOST_LOTS := PySem.W.mg_of X G v_MOST_LOTS
    c_MOST_PEOPLE := PySem.W.mg_of X G v_MOST_PEOPLE
    m_abs := PySem.W.mg_none_of X G z_abs
    m_all := PySem.W.mg_none_of X G z_all
    m_bool := PySem.W.mg_none_of X G z_bool
    m_divmod := PySem.W.mg_none_of X G z_divmod
    m_enumerate := PySem.W.mg_none_of X G z_enumerate
    m_int := PySem.W.mg_none_of X G z_int
    m_isinstance := PySem.W.mg_none_of X G z_isinstance
    m_len := PySem.W.mg_none_of X G z_len
    m_list := PySem.W.mg_none_of X G z_list
    m_max := PySem.W.mg_none_of X G z_max
    m_min := PySem.W.mg_none_of X G z_min
    m_range := PySem.W.mg_none_of X G z_range
    m_repr := PySem.W.mg_none_of X G z_repr
    m_set := PySem.W.mg_none_of X G z_set
    m_sorted := PySem.W.mg_none_of X G z_sorted
    m_str := PySem.W.mg_none_of X G z_str
    m_tuple := PySem.W.mg_none_of X G z_tuple
    F_is_whole := F_is_whole
    g_is_whole := PySem.W.mg_of X G a_is_whole
    b_is_whole := F_is_whole.binds (ps := ["thing"]) fun _ _ _ _ _ _ us hl => match us, hl with | [_], _ => rfl
    F_greatest_divisor := F_greatest_divisor
    g_greatest_divisor := PySem.W.mg_of X G a_greatest_divisor
    b_greatest_divisor := F_greatest_divisor.binds (ps := ["one", "other"]) fun _ _ _ _ _ _ us hl => match us, hl with | [_, _], _ => rfl
    F_is_fraction := F_is_fraction
    g_is_fraction := PySem.W.mg_of X G a_is_fraction
    b_is_fraction := F_is_fraction.binds (ps := ["thing"]) fun _ _ _ _ _ _ us hl => match us, hl with | [_], _ => rfl
    F_is_name := F_is_name
    g_is_name := PySem.W.mg_of X G a_is_name
    b_is_name := F_is_name.binds (ps := ["thing"]) fun _ _ _ _ _ _ us hl => match us, hl with | [_], _ => rfl
    F_is_web := F_is_web
    g_is_web := PySem.W.mg_of X G a_is_web
    b_is_web := F_is_web.binds (ps := ["thing"]) fun _ _ _ _ _ _ us hl => match us, hl with | [_], _ => rfl
    F_is_people := F_is_people
    g_is_people := PySem.W.mg_of X G a_is_people
    b_is_people := F_is_people.binds (ps := ["thing"]) fun _ _ _ _ _ _ us hl => match us, hl with | [_], _ => rfl
    F_is_goods := F_is_goods
    g_is_goods := PySem.W.mg_of X G a_is_goods
    b_is_goods := F_is_goods.binds (ps := ["people", "thing"]) fun _ _ _ _ _ _ us hl => match us, hl with | [_, _], _ => rfl
    F_is_thanks := F_is_thanks
    g_is_thanks := PySem.W.mg_of X G a_is_thanks
    b_is_thanks := F_is_thanks.binds (ps := ["people", "thing"]) fun _ _ _ _ _ _ us hl => match us, hl with | [_, _], _ => rfl
    F_person_fits := F_person_fits
    g_person_fits := PySem.W.mg_of X G a_person_fits
    b_person_fits := F_person_fits.binds (ps := ["ahead", "thing"]) fun _ _ _ _ _ _ us hl => match us, hl with | [_, _], _ => rfl
    F_good_fits := F_good_fits
    g_good_fits := PySem.W.mg_of X G a_good_fits
    b_good_fits := F_good_fits.binds (ps := ["people", "ahead", "thing"]) fun _ _ _ _ _ _ us hl => match us, hl with | [_, _, _], _ => rfl
    F_thank_fits := F_thank_fits
    g_thank_fits := PySem.W.mg_of X G a_thank_fits
    b_thank_fits := F_thank_fits.binds (ps := ["people", "ahead", "thing"]) fun _ _ _ _ _ _ us hl => match us, hl with | [_, _, _], _ => rfl
    F_is_amount_row := F_is_amount_row
    g_is_amount_row := PySem.W.mg_of X G a_is_amount_row
    b_is_amount_row := F_is_amount_row.binds (ps := ["thing"]) fun _ _ _ _ _ _ us hl => match us, hl with | [_], _ => rfl
    F_rises := F_rises
    g_rises := PySem.W.mg_of X G a_rises
    b_rises := F_rises.binds (ps := ["ahead", "row"]) fun _ _ _ _ _ _ us hl => match us, hl with | [_, _], _ => rfl
    F_is_one_of := F_is_one_of
    g_is_one_of := PySem.W.mg_of X G a_is_one_of
    b_is_one_of := F_is_one_of.binds (ps := ["people", "thing"]) fun _ _ _ _ _ _ us hl => match us, hl with | [_, _], _ => rfl
    F_is_held_by := F_is_held_by
    g_is_held_by := PySem.W.mg_of X G a_is_held_by
    b_is_held_by := F_is_held_by.binds (ps := ["people", "thing"]) fun _ _ _ _ _ _ us hl => match us, hl with | [_, _], _ => rfl
    F_Lcell := F_Lcell
    g_Lcell := PySem.W.mg_of X G a_Lcell
    b_Lcell := F_Lcell.binds (ps := ["_law_script", "_law_k"]) fun _ _ _ _ _ _ us hl => match us, hl with | [_, _], _ => rfl
    F_Lpool := F_Lpool
    g_Lpool := PySem.W.mg_of X G a_Lpool
    b_Lpool := F_Lpool.binds (ps := ["_law_cell_here"]) fun _ _ _ _ _ _ us hl => match us, hl with | [_], _ => rfl
    F_Ltake := F_Ltake
    g_Ltake := PySem.W.mg_of X G a_Ltake
    b_Ltake := F_Ltake.binds (ps := ["_law_pool_here", "_law_many"]) fun _ _ _ _ _ _ us hl => match us, hl with | [_, _], _ => rfl
    F_Llow := F_Llow
    g_Llow := PySem.W.mg_of X G a_Llow
    b_Llow := F_Llow.binds (ps := ["_law_top", "_law_bottom"]) fun _ _ _ _ _ _ us hl => match us, hl with | [_, _], _ => rfl
    F_Lnames := F_Lnames
    g_Lnames := PySem.W.mg_of X G a_Lnames
    b_Lnames := F_Lnames.binds (ps := ["_law_pool_here", "_law_many"]) fun _ _ _ _ _ _ us hl => match us, hl with | [_, _], _ => rfl
    F_Lmeasure := F_Lmeasure
    g_Lmeasure := PySem.W.mg_of X G a_Lmeasure
    b_Lmeasure := F_Lmeasure.binds (ps := ["_law_pool_here"]) fun _ _ _ _ _ _ us hl => match us, hl with | [_], _ => rfl
    F_Lthanks := F_Lthanks
    g_Lthanks := PySem.W.mg_of X G a_Lthanks
    b_Lthanks := F_Lthanks.binds (ps := ["_law_pool_here", "_law_people"]) fun _ _ _ _ _ _ us hl => match us, hl with | [_, _], _ => rfl
    F_Lgoods := F_Lgoods
    g_Lgoods := PySem.W.mg_of X G a_Lgoods
    b_Lgoods := F_Lgoods.binds (ps := ["_law_pool_here", "_law_people", "_law_lots"]) fun _ _ _ _ _ _ us hl => match us, hl with | [_, _, _], _ => rfl
    F_Lweb := F_Lweb
    g_Lweb := PySem.W.mg_of X G a_Lweb
    b_Lweb := F_Lweb.binds (ps := ["_law_people", "_law_goods_here", "_law_thanks_here"]) fun _ _ _ _ _ _ us hl => match us, hl with | [_, _, _], _ => rfl
    F_Ldrawn := F_Ldrawn
    g_Ldrawn := PySem.W.mg_of X G a_Ldrawn
    b_Ldrawn := F_Ldrawn.binds (ps := ["_law_pool_here", "_law_upto"]) fun _ _ _ _ _ _ us hl => match us, hl with | [_, _], _ => rfl
    F_Lwhole := F_Lwhole
    g_Lwhole := PySem.W.mg_of X G a_Lwhole
    b_Lwhole := F_Lwhole.binds (ps := ["_law_thing"]) fun _ _ _ _ _ _ us hl => match us, hl with | [_], _ => rfl
    F_Lis_amount := F_Lis_amount
    g_Lis_amount := PySem.W.mg_of X G a_Lis_amount
    b_Lis_amount := F_Lis_amount.binds (ps := ["_law_thing"]) fun _ _ _ _ _ _ us hl => match us, hl with | [_], _ => rfl
    F_Lis_name := F_Lis_name
    g_Lis_name := PySem.W.mg_of X G a_Lis_name
    b_Lis_name := F_Lis_name.binds (ps := ["_law_thing"]) fun _ _ _ _ _ _ us hl => match us, hl with | [_], _ => rfl
    F_Lrises := F_Lrises
    g_Lrises := PySem.W.mg_of X G a_Lrises
    b_Lrises := F_Lrises.binds (ps := ["_law_things"]) fun _ _ _ _ _ _ us hl => match us, hl with | [_], _ => rfl
    F_Lrows := F_Lrows
    g_Lrows := PySem.W.mg_of X G a_Lrows
    b_Lrows := F_Lrows.binds (ps := ["_law_thing"]) fun _ _ _ _ _ _ us hl => match us, hl with | [_], _ => rfl
    F_Lis_web := F_Lis_web
    g_Lis_web := PySem.W.mg_of X G a_Lis_web
    b_Lis_web := F_Lis_web.binds (ps := ["_law_thing"]) fun _ _ _ _ _ _ us hl => match us, hl with | [_], _ => rfl
    F_Lspoilt := F_Lspoilt
    g_Lspoilt := PySem.W.mg_of X G a_Lspoilt
    b_Lspoilt := F_Lspoilt.binds (ps := ["_law_pool_here", "_law_old"]) fun _ _ _ _ _ _ us hl => match us, hl with | [_, _], _ => rfl
    F_Lmore := F_Lmore
    g_Lmore := PySem.W.mg_of X G a_Lmore
    b_Lmore := F_Lmore.binds (ps := ["_law_pool_here", "_law_web_here"]) fun _ _ _ _ _ _ us hl => match us, hl with | [_, _], _ => rfl
    F_Ltold := F_Ltold
    g_Ltold := PySem.W.mg_of X G a_Ltold
    b_Ltold := F_Ltold.binds (ps := ["_law_thing"]) fun _ _ _ _ _ _ us hl => match us, hl with | [_], _ => rfl
    F_Lgreat := F_Lgreat
    g_Lgreat := PySem.W.mg_of X G a_Lgreat
    b_Lgreat := F_Lgreat.binds (ps := []) fun _ _ _ _ _ _ us hl => match us, hl with | [], _ => rfl
  }
  exact ⟨PySem.W.fnOf "law" "law" (defArgs s_law) (defBody s_law) (defScope s_law) .none kV_law dc_law pm_law an_law cd_law ct_law, fun s v => .of_eq rfl, fun base _ _ => ok_law T F_law⟩
theorem walk {l : PySem.W.OpenLaw} {q : Program} {loose : List Str} {XP : (Str → Option Value) → Heap → Prop} {YP : World → Heap → Prop} {d : DefRec} {K : Params → PySem.W.Frag} (hn : l.most = some 63) (hdf : d.params.defaults = [])
    (hY : ∀ (w : World) (h : Heap), YP w h → (K w.params).In h)
    (F : ∀ (w : World) (mg : Str → Option Value) (fa : Addr) (h : Heap), (K w.params).In h → h.Ns mainGlobals mg → mg d.name = some (.ref fa) →
      ∃ fd : FuncData, (∀ (s : Shared) (u : Value), BindsTo s fd ⟨[u], []⟩ [("_law_script", u)]) ∧ ∀ base : Heap, (K w.params).In base → base.Ns mainGlobals mg → FnQ l.prog w (K w.params) mg base CX0 8 fa fd ["_law_script"] (spLaw (K w.params))) :
    PySem.W.WalkO q loose XP YP l.row.toRowW d [] (fun f vs => PySem.call f vs) :=
  walk_quiet (n := 63) (k := 8) (x := "_law_script") (C := fun _ => CX0) (sp := fun w => spLaw (K w.params)) hn (by decide) hdf ⟨⟨rfl, by decide, by decide⟩, rfl⟩ hY F (fun _ _ a ns hl _ hS => ⟨a, ns, rfl, hS, hl, fun _ => rfl⟩) fun _ _ _ _ _ z => z
end Ver
open PySem PySem.W PyProof.Rows in
set_option maxRecDepth 100000 in
set_option maxHeartbeats 0 in
theorem PySem.Challenge.cw_thankways_k07_what_webs_are_holds : PySem.Challenge.rw_thankways_k07_what_webs_are.Holds := by
  w_on; o_law; k_head; (case hw => w_witness2)
  k_fill
  refine Ver.walk (l := PySem.Challenge.rw_thankways_k07_what_webs_are) rfl rfl (fun w h Y => PySem.W.kIn_of Y) ?F
  case F =>
    intro w mg fa h KX G hmg
    refine' Ver.all_mk KX G hmg ?a_is_whole ?l_is_whole ?c_is_whole ?k_is_whole ?a_greatest_divisor ?l_greatest_divisor ?c_greatest_divisor ?k_greatest_divisor ?a_is_fraction ?l_is_fraction ?c_is_fraction ?k_is_fraction ?a_is_name ?l_is_name ?c_is_name ?k_is_name ?a_is_web ?l_is_web ?c_is_web ?k_is_web ?a_is_people ?l_is_people ?c_is_people ?k_is_people ?a_is_goods ?l_is_goods ?c_is_goods ?k_is_goods ?a_is_thanks ?l_is_thanks ?c_is_thanks ?k_is_thanks ?a_person_fits ?l_person_fits ?c_person_fits ?k_person_fits ?a_good_fits ?l_good_fits ?c_good_fits ?k_good_fits ?a_thank_fits ?l_thank_fits ?c_thank_fits ?k_thank_fits ?a_is_amount_row ?l_is_amount_row ?c_is_amount_row ?k_is_amount_row ?a_rises ?l_rises ?c_rises ?k_rises ?a_is_one_of ?l_is_one_of ?c_is_one_of ?k_is_one_of ?a_is_held_by ?l_is_held_by ?c_is_held_by ?k_is_held_by ?a_Lcell ?l_Lcell ?c_Lcell ?k_Lcell ?a_Lpool ?l_Lpool ?c_Lpool ?k_Lpool ?a_Ltake ?l_Ltake ?c_Ltake ?k_Ltake ?a_Llow ?l_Llow ?c_Llow ?k_Llow ?a_Lnames ?l_Lnames ?c_Lnames ?k_Lnames ?a_Lmeasure ?l_Lmeasure ?c_Lmeasure ?k_Lmeasure ?a_Lthanks ?l_Lthanks ?c_Lthanks ?k_Lthanks ?a_Lgoods ?l_Lgoods ?c_Lgoods ?k_Lgoods ?a_Lweb ?l_Lweb ?c_Lweb ?k_Lweb ?a_Ldrawn ?l_Ldrawn ?c_Ldrawn ?k_Ldrawn ?a_Lwhole ?l_Lwhole ?c_Lwhole ?k_Lwhole ?a_Lis_amount ?l_Lis_amount ?c_Lis_amount ?k_Lis_amount ?a_Lis_name ?l_Lis_name ?c_Lis_name ?k_Lis_name ?a_Lrises ?l_Lrises ?c_Lrises ?k_Lrises ?a_Lrows ?l_Lrows ?c_Lrows ?k_Lrows ?a_Lis_web ?l_Lis_web ?c_Lis_web ?k_Lis_web ?a_Lspoilt ?l_Lspoilt ?c_Lspoilt ?k_Lspoilt ?a_Lmore ?l_Lmore ?c_Lmore ?k_Lmore ?a_Ltold ?l_Ltold ?c_Ltold ?k_Ltold ?a_Lgreat ?l_Lgreat ?c_Lgreat ?k_Lgreat ?a_law ?l_law ?c_law ?k_law ?v_CHEST ?v_MOST_LETTERS ?v_MOST_LOTS ?v_MOST_PEOPLE ?z_abs ?z_all ?z_bool ?z_divmod ?z_enumerate ?z_int ?z_isinstance ?z_len ?z_list ?z_max ?z_min ?z_range ?z_repr ?z_set ?z_sorted ?z_str ?z_tuple
    (case a_is_whole => k_is)
    (case l_is_whole => k_is)
    (case c_is_whole => k_is)
    (case k_is_whole => k_is)
    (case a_greatest_divisor => k_is)
    (case l_greatest_divisor => k_is)
    (case c_greatest_divisor => k_is)
    (case k_greatest_divisor => k_is)
    (case a_is_fraction => k_is)
    (case l_is_fraction => k_is)
    (case c_is_fraction => k_is)
    (case k_is_fraction => k_is)
    (case a_is_name => k_is)
    (case l_is_name => k_is)
    (case c_is_name => k_is)
    (case k_is_name => k_is)
    (case a_is_web => k_is)
    (case l_is_web => k_is)
    (case c_is_web => k_is)
    (case k_is_web => k_is)
    (case a_is_people => k_is)
    (case l_is_people => k_is)
    (case c_is_people => k_is)
    (case k_is_people => k_is)
    (case a_is_goods => k_is)
    (case l_is_goods => k_is)
    (case c_is_goods => k_is)
    (case k_is_goods => k_is)
    (case a_is_thanks => k_is)
    (case l_is_thanks => k_is)
    (case c_is_thanks => k_is)
    (case k_is_thanks => k_is)
    (case a_person_fits => k_is)
    (case l_person_fits => k_is)
    (case c_person_fits => k_is)
    (case k_person_fits => k_is)
    (case a_good_fits => k_is)
    (case l_good_fits => k_is)
    (case c_good_fits => k_is)
    (case k_good_fits => k_is)
    (case a_thank_fits => k_is)
    (case l_thank_fits => k_is)
    (case c_thank_fits => k_is)
    (case k_thank_fits => k_is)
    (case a_is_amount_row => k_is)
    (case l_is_amount_row => k_is)
    (case c_is_amount_row => k_is)
    (case k_is_amount_row => k_is)
    (case a_rises => k_is)
    (case l_rises => k_is)
    (case c_rises => k_is)
    (case k_rises => k_is)
    (case a_is_one_of => k_is)
    (case l_is_one_of => k_is)
    (case c_is_one_of => k_is)
    (case k_is_one_of => k_is)
    (case a_is_held_by => k_is)
    (case l_is_held_by => k_is)
    (case c_is_held_by => k_is)
    (case k_is_held_by => k_is)
    (case a_Lcell => k_is)
    (case l_Lcell => k_is)
    (case c_Lcell => k_is)
    (case k_Lcell => k_is)
    (case a_Lpool => k_is)
    (case l_Lpool => k_is)
    (case c_Lpool => k_is)
    (case k_Lpool => k_is)
    (case a_Ltake => k_is)
    (case l_Ltake => k_is)
    (case c_Ltake => k_is)
    (case k_Ltake => k_is)
    (case a_Llow => k_is)
    (case l_Llow => k_is)
    (case c_Llow => k_is)
    (case k_Llow => k_is)
    (case a_Lnames => k_is)
    (case l_Lnames => k_is)
    (case c_Lnames => k_is)
    (case k_Lnames => k_is)
    (case a_Lmeasure => k_is)
    (case l_Lmeasure => k_is)
    (case c_Lmeasure => k_is)
    (case k_Lmeasure => k_is)
    (case a_Lthanks => k_is)
    (case l_Lthanks => k_is)
    (case c_Lthanks => k_is)
    (case k_Lthanks => k_is)
    (case a_Lgoods => k_is)
    (case l_Lgoods => k_is)
    (case c_Lgoods => k_is)
    (case k_Lgoods => k_is)
    (case a_Lweb => k_is)
    (case l_Lweb => k_is)
    (case c_Lweb => k_is)
    (case k_Lweb => k_is)
    (case a_Ldrawn => k_is)
    (case l_Ldrawn => k_is)
    (case c_Ldrawn => k_is)
    (case k_Ldrawn => k_is)
    (case a_Lwhole => k_is)
    (case l_Lwhole => k_is)
    (case c_Lwhole => k_is)
    (case k_Lwhole => k_is)
    (case a_Lis_amount => k_is)
    (case l_Lis_amount => k_is)
    (case c_Lis_amount => k_is)
    (case k_Lis_amount => k_is)
    (case a_Lis_name => k_is)
    (case l_Lis_name => k_is)
    (case c_Lis_name => k_is)
    (case k_Lis_name => k_is)
    (case a_Lrises => k_is)
    (case l_Lrises => k_is)
    (case c_Lrises => k_is)
    (case k_Lrises => k_is)
    (case a_Lrows => k_is)
    (case l_Lrows => k_is)
    (case c_Lrows => k_is)
    (case k_Lrows => k_is)
    (case a_Lis_web => k_is)
    (case l_Lis_web => k_is)
    (case c_Lis_web => k_is)
    (case k_Lis_web => k_is)
    (case a_Lspoilt => k_is)
    (case l_Lspoilt => k_is)
    (case c_Lspoilt => k_is)
    (case k_Lspoilt => k_is)
    (case a_Lmore => k_is)
    (case l_Lmore => k_is)
    (case c_Lmore => k_is)
    (case k_Lmore => k_is)
    (case a_Ltold => k_is)
    (case l_Ltold => k_is)
    (case c_Ltold => k_is)
    (case k_Ltold => k_is)
    (case a_Lgreat => k_is)
    (case l_Lgreat => k_is)
    (case c_Lgreat => k_is)
    (case k_Lgreat => k_is)
    (case a_law => k_is)
    (case l_law => k_is)
    (case c_law => k_is)
    (case k_law => k_is)
    (case v_CHEST => k_is)
    (case v_MOST_LETTERS => k_is)
    (case v_MOST_LOTS => k_is)
    (case v_MOST_PEOPLE => k_is)
    (case z_abs => k_is)
    (case z_all => k_is)
    (case z_bool => k_is)
    (case z_divmod => k_is)
    (case z_enumerate => k_is)
    (case z_int => k_is)
    (case z_isinstance => k_is)
    (case z_len => k_is)
    (case z_list => k_is)
    (case z_max => k_is)
    (case z_min => k_is)
    (case z_range => k_is)
    (case z_repr => k_is)
    (case z_set => k_is)
    (case z_sorted => k_is)
    (case z_str => k_is)
    (case z_tuple => k_is)
