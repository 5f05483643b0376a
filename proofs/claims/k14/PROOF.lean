import PyProof.Rows.All
import Wide.All
import OpenK.AllK
import Wide.FinOn
import HandS.ForMost
import HandS.IsInst
import HandS.WideBits
import HandS.Wide
import HandS.Defaults
import HandS.TupMul
import HandS.Flow
import HandS.Codes
import HandS.Style
import HandS.TupAny
import HandS.Zip
import KE.GoesZip
import KE.GoesMore
import KE.KRevSl
import KE.DataEq
import KE.LtData
import KE.SortData
import KE.KExcSuper
import KE.RegKSuper
import HandS.Exc
import HandS.ExcInit
import HandS.ExcIs
import HandS.ExcField
import HandS.ExcOwn
import HandS.HotCalls
import HandS.WordsExc
import KE.KExcIs
import HandS.Iter
import KE.IntTextLaws
import KE.KIntText
import HandS.RaiseMore
import KE.GoesEnum
import PySem.Challenge.RW_thankways_k14_texts_of_no_books
set_option Elab.async false
set_option linter.all false
set_option maxRecDepth 100000
set_option maxHeartbeats 4000000
/-! zip of a tuple and a text, walked by a for or a comprehension. -/
namespace ZipS
open PySem PySem.Spec PyProof.Rows L2
/-- the items of the tuple at a beside the signs of x, each pair in a new tuple -/
def ItzS (K : PySem.W.Frag) (a : Addr) (x : Str) : It where
  go := fun i H => ∃ (xs : List V) (v : V) (c : Nat), SqT K H a xs ∧ xs[i]? = some v ∧ x.cps[i]? = some c
  yld := fun i H v H' => ∃ (T : Addr) (y : V) (c : Nat), v = .ref T ∧ H T = none ∧ H' = upd H T (.tup [y, .str ⟨#[c]⟩]) ∧ (∀ xs, SqT K H a xs → xs[i]? = some y) ∧ x.cps[i]? = some c
  stop := fun i H => ∃ xs : List V, SqT K H a xs ∧ i ≤ xs.length ∧ i ≤ x.cps.size ∧ (i = xs.length ∨ i = x.cps.size)
/-- how the cells of such a zip stand ahead of the turn i -/
def StS (a z TI TO i1 i2 : Addr) (x : Str) (t : Tok) (i : Nat) (h : Heap) : Prop :=
  IsZip h z TI TO .none ∧ IsTupOf2 h TI (.ref i1) (.ref i2) ∧ (∃ a1 a2, IsTupOf2 h TO a1 a2) ∧ h.IsTupleIter i1 a i ∧ h.IsStrIter i2 (strIterType x) x t i
theorem turn_zipS {P : Program} {w : World} {K : PySem.W.Frag} {elts : List Expr} {kk : Nat} {tpos : Pos} {a z TI TO i1 i2 : Addr} {x : Str} {t : Tok} (D : ZipSep2 z TI TO i1 i2 [i1, a] [i2]) (hne : a ≠ i1) :
    Turn P w K (.Tuple elts kk tpos) (ItzS K a x) [z, TI, TO, i1, i2] z (StS a z TI TO i1 i2 x t) where
  mem := List.mem_cons_self
  obj := by
    rintro i h ⟨hz, hTI, ⟨b1, b2, hTO⟩, ⟨o1, e1, _, d1⟩, ⟨o2, e2, _, d2⟩⟩ c hc
    simp only [List.mem_cons, List.not_mem_nil, or_false] at hc
    rcases hc with rfl | rfl | rfl | rfl | rfl
    · exact ⟨_, hz, fun v q => by cases q⟩
    · exact ⟨_, hTI, fun v q => by cases q⟩
    · exact ⟨_, hTO, fun v q => by cases q⟩
    · exact ⟨o1, e1, fun v q => by rw [d1] at q; cases q⟩
    · exact ⟨o2, e2, fun v q => by rw [d2] at q; cases q⟩
  keep := by
    rintro i h h' ⟨hz, hTI, ⟨b1, b2, hTO⟩, h1, ⟨o2, e2, c2, d2⟩⟩ k
    exact ⟨k z (by simp) _ hz, k TI (by simp) _ hTI, ⟨b1, b2, k TO (by simp) _ hTO⟩, h1.at fun o q => k i1 (by simp) o q, ⟨o2, k i2 (by simp) _ e2, c2, d2⟩⟩
  item := by
    intro X hP hw hK hc i pins s σ H E I hf st hg
    subst hP hw hK
    obtain ⟨hz, hTI, ⟨b1, b2, hTO⟩, h1, h2⟩ := st
    obtain ⟨xs, y, c, hq, hy, hcx⟩ := hg
    obtain ⟨its, rv, p, _⟩ := I.tuple hq
    have hh : X.A.in1.handled = none := I.ok.hd hc
    have l1 : i < its.toArray.size := by
      have := (List.getElem?_eq_some_iff.mp hy).1
      have := rv.length
      simp only [List.size_toArray]
      omega
    have l2 : i < x.cps.size := (Array.getElem?_eq_some_iff.mp hcx).1
    refine wpAny_pyNext_zipD2_item (A := X.A) D (Draws.tuple hh i1 a hne its.toArray) (Draws.text hh i2 x t) hz hTI hTO ⟨h1, (show s.heap.IsTuple a its.toArray from p)⟩ h2 l1 l2 fun x1 x2 h' tk p1 p2 z' TO' s1 s2 hT hsz hk => ?_
    obtain ⟨c', u', hc', rfl⟩ := p2
    have ec : c' = c := Option.some.inj (hc'.symm.trans hcx)
    subst ec
    obtain ⟨u, hu, ru⟩ := rv.get hy
    have eu : x1 = u := by
      have : its[i]? = some x1 := by simpa using p1
      exact Option.some.inj (this.symm.trans hu)
    subst eu
    refine ⟨_, rfl, ?_⟩
    refine wpAny_letOwnedTupleGo_zip (s := { s with heap := h', toks := tk }) z' fun h2' z2 sb => ?_
    have zlt : z < s.heap.objs.size := Heap.lt_size hz
    have T2 : h2'.get? s.heap.objs.size = some { cls := .type "tuple", data := .seq #[x1, .str ⟨#[c']⟩ u'] } := (sb.2 _ (Nat.ne_of_gt zlt)).trans hT
    have new : ObjOk X.prog X.w (upd H s.heap.objs.size (.tup [y, .str ⟨#[c']⟩])) h2' s.heap.objs.size (.tup [y, .str ⟨#[c']⟩]) :=
      ⟨by show 2 ≤ sizeLine; decide, [x1, .str ⟨#[c']⟩ u'], .cons ru (.cons ⟨u', rfl⟩ .nil), ⟨_, T2, rfl, _, rfl⟩⟩
    have kk' : ∀ b o, b ∉ [z, TI, TO, i1, i2] → s.heap.get? b = some o → h2'.get? b = some o := fun b o hb q => by
      simp only [List.mem_cons, List.not_mem_nil, or_false, not_or] at hb
      exact (sb.2 b hb.1).trans (hk b o hb.1 hb.2.2.1 hb.2.2.2.1 hb.2.2.2.2 q)
    have I1 : Inv X pins σ (upd H s.heap.objs.size (.tup [y, .str ⟨#[c']⟩])) { s with heap := h2', toks := tk } := I.turnedNew (t' := tk) kk' hf (Nat.le_refl _) new
    refine ⟨.ref s.heap.objs.size, _, I1, rfl, ⟨_, y, c', rfl, I.hok.fresh (Nat.le_refl _), rfl, fun l hl => by rw [I.tuple_inj hl hq]; exact hy, hcx⟩, ⟨z2, ?_, ⟨x1, .str ⟨#[c']⟩ u', ?_⟩, ?_, ?_⟩, fun b hb => ?_⟩
    · exact (sb.2 _ D.TIz).trans (hk _ _ D.TIz D.TITO D.TIi1 D.TIi2 hTI)
    · exact (sb.2 _ D.TOz).trans TO'
    · exact s1.1.at fun o q => (sb.2 _ D.zi1.symm).trans q
    · obtain ⟨o, e, c0, d⟩ := s2
      exact ⟨o, (sb.2 _ D.zi2.symm).trans e, c0, d⟩
    · have lt : b < s.heap.objs.size := by
        simp only [List.mem_cons, List.not_mem_nil, or_false] at hb
        obtain ⟨o1, e1, _⟩ := h1
        obtain ⟨o2, e2, _⟩ := h2
        rcases hb with rfl | rfl | rfl | rfl | rfl
        · exact zlt
        · exact Heap.lt_size hTI
        · exact Heap.lt_size hTO
        · exact Heap.lt_size e1
        · exact Heap.lt_size e2
      rw [upd_ne (Nat.ne_of_lt lt)]
      exact (hf b hb).1
  done := by
    intro X hP hw hK hc i pins s σ H E I hf st hg
    subst hP hw hK
    obtain ⟨hz, hTI, ⟨b1, b2, hTO⟩, h1, h2⟩ := st
    obtain ⟨xs, hq, le1, le2, hend⟩ := hg
    obtain ⟨its, rv, p, _⟩ := I.tuple hq
    have hh : X.A.in1.handled = none := I.ok.hd hc
    have el : its.toArray.size = xs.length := by
      have := rv.length
      simp only [List.size_toArray]
      omega
    refine wpAny_pyNext_zipD2_end (A := X.A) D (Draws.tuple hh i1 a hne its.toArray) (Draws.text hh i2 x t) hz hTI hTO ⟨h1, (show s.heap.IsTuple a its.toArray from p)⟩ h2 (by omega) le2 (by omega) fun h' tk hk => ?_
    refine ⟨rfl, I.turnedL (t' := tk) (ch := [z, TI, TO, i1, i2]) (fun b o hb q => ?_) hf⟩
    simp only [List.mem_cons, List.not_mem_nil, or_false, not_or] at hb
    exact hk b o hb.1 hb.2.2.1 hb.2.2.2.1 hb.2.2.2.2 q
  self := fun A i s Q E st h => wpAny_pyIter_zip st.1 h
def iZipS (K : PySem.W.Frag) (ta : TA) : TI := fun σ H R => ta σ H fun vs H1 => ∃ (a : Addr) (x : Str) (xs : List V), vs = [.ref a, .str x] ∧ SqT K H1 a xs ∧ R (ItzS K a x) H1
theorem sep_new {n a : Nat} (h : a < n) : ZipSep2 (n + 4) (n + 2) (n + 3) n (n + 1) [n, a] [n + 1] where
  TIz := fun e => by have e : n + 2 = n + 4 := e; omega
  TOz := fun e => by have e : n + 3 = n + 4 := e; omega
  TITO := fun e => by have e : n + 2 = n + 3 := e; omega
  TIi1 := fun e => by have e : n + 2 = n := e; omega
  mem1 := List.mem_cons_self
  zf1 := fun e => by
    rcases List.mem_cons.mp e with e | e
    · have e : n + 4 = n := e
      omega
    · have e : n + 4 = a := by simpa using e
      omega
  Tf1 := fun e => by
    rcases List.mem_cons.mp e with e | e
    · have e : n + 3 = n := e
      omega
    · have e : n + 3 = a := by simpa using e
      omega
  TIi2 := fun e => by have e : n + 2 = n + 1 := e; omega
  mem2 := List.mem_cons_self
  zf2 := fun e => by
    have e : n + 4 = n + 1 := by simpa using e
    omega
  Tf2 := fun e => by
    have e : n + 3 = n + 1 := by simpa using e
    omega
  sep1_2 := fun e => by
    have e : n = n + 1 := by simpa using e
    omega
  sep2_1 := fun e => by
    rcases List.mem_cons.mp e with e | e
    · have e : n + 1 = n := e
      omega
    · have e : n + 1 = a := by simpa using e
      omega
theorem pi_zipS {X : Cx} {K : PySem.W.Frag} {e e2 : Expr} {ta : TA} {p pos tpos : Pos} {elts : List Expr} {kk : Nat} (hK : X.K = K) (hg : Gl X "zip") (hm : X.mg "zip" = none) (ha : PA X [e, e2] ta)
    (hs : starEach [e, e2] X.env = (false, eval e X.env) :: starEach [e2] X.env := by rfl) (hpl : (backTo pos (starEach [e2] X.env)).any (·.1) = false := by rfl) :
    PI X (.Tuple elts kk tpos) (.Call (.Name "zip" p) [e, e2] [] pos) (iZipS K ta) := by
  subst hK
  refine ⟨fun pins s σ H R I h => ?_⟩
  refine Call_ (ld_blt I hg hm PyProof.Rows.boot_zip (PyProof.Rows.callWith_type1 (thn (ha.run pos pins s σ H _ I h) fun us s1 ⟨vs, H1, I1, r1, q1⟩ => ?_) hs hpl))
  obtain ⟨a, x, xs, rfl, hq, q⟩ := q1
  obtain ⟨u1, u2, rfl, ra, t, rfl⟩ := vals2 r1
  cases ra
  obtain ⟨its, rv, p1, _⟩ := I1.tuple hq
  have la : a < s1.heap.objs.size := let ⟨_, e, _⟩ := p1; Heap.lt_size e
  refine zip_begins2 (begins_tuple a its.toArray) (begins_text x t) (show s1.heap.IsTuple a its.toArray from p1) trivial fun h' hz hTI hTO g1 g2 hsz hk => wpAny_pyIter_zip hz ?_
  have I2 : Inv X pins σ H1 { s1 with heap := h' } := I1.kept (t' := s1.toks) hk
  have D := sep_new la
  refine ⟨s1.heap.objs.size + 4, [s1.heap.objs.size + 4, s1.heap.objs.size + 2, s1.heap.objs.size + 3, s1.heap.objs.size, s1.heap.objs.size + 1], _, _, H1, rfl, I2, turn_zipS D (Nat.ne_of_lt la), ⟨hz, hTI, ⟨_, _, hTO⟩, ⟨_, g1, rfl, rfl⟩, ⟨_, g2, rfl, rfl⟩⟩, fun b hb => ?_, q⟩
  have hle : s1.heap.objs.size ≤ b := by
    simp only [List.mem_cons, List.not_mem_nil, or_false] at hb
    rcases hb with rfl | rfl | rfl | rfl | rfl
    · exact Nat.le_add_right _ _
    · exact Nat.le_add_right _ _
    · exact Nat.le_add_right _ _
    · exact Nat.le_refl _
    · exact Nat.le_add_right _ _
  exact I1.fpOk hle (I1.hok.fresh hle)
/-- a loop over such a zip -/
theorem for_zipS {K : PySem.W.Frag} {a : Addr} {x : Str} {xs : List V} {g : TG} {tb : TS} {D : Ends} {σ : L2.St} {H : Hp} (n : Nat) (hn : n = min xs.length x.cps.size) (Pv : Nat → L2.St → Hp → Prop) (h0 : Pv 0 σ H) (hq : ∀ i σ H, Pv i σ H → SqT K H a xs)
    (hs : ∀ (i : Nat) (y : V) (c : Nat) (T : Addr) (σ : L2.St) (H : Hp), xs[i]? = some y → x.cps[i]? = some c → Pv i σ H → H T = none → g (.ref T) σ (upd H T (.tup [y, .str ⟨#[c]⟩])) fun σ2 H2 => tb { D with nx := Pv (i + 1), ct := Pv (i + 1), bk := D.nx } σ2 H2)
    (hd : ∀ σ H, Pv n σ H → D.nx σ H) :
    ∃ W : Nat → Nat → L2.St → Hp → Prop, (∃ m, W 0 m σ H) ∧ ∀ i m σ H, W i m σ H →
      ((ItzS K a x).stop i H ∧ D.nx σ H) ∨ ((ItzS K a x).go i H ∧ ∃ N : L2.St → Hp → Prop, (∀ σ' H', N σ' H' → ∃ m', m' < m ∧ W (i + 1) m' σ' H') ∧ ∀ v H', (ItzS K a x).yld i H v H' → g v σ H' fun σ2 H2 => tb { D with nx := N, ct := N, bk := D.nx } σ2 H2) := by
  refine ⟨fun i m σ H => m = n - i ∧ i ≤ n ∧ Pv i σ H, ⟨n, by simp, Nat.zero_le _, h0⟩, ?_⟩
  rintro i m σ H ⟨rfl, hi, P⟩
  have q := hq i σ H P
  by_cases hlt : i < n
  · have l1 : i < xs.length := by omega
    have l2 : i < x.cps.size := by omega
    refine .inr ⟨⟨xs, xs[i], x.cps[i], q, List.getElem?_eq_getElem l1, Array.getElem?_eq_getElem l2⟩, Pv (i + 1), fun σ' H' P' => ⟨n - (i + 1), by omega, rfl, hlt, P'⟩, ?_⟩
    rintro v H' ⟨T, y, c, rfl, nT, rfl, f, hc⟩
    exact hs i y c T σ H (f xs q) hc P nT
  · have e : i = n := by omega
    subst e
    exact .inl ⟨⟨xs, q, by omega, by omega, by omega⟩, hd σ H P⟩
end ZipS
/-! The steps of a reading, one lemma a construct, and the heaps of a law with a pool. -/
namespace Ver
open PySem PySem.Spec PyProof.Rows L2

/-! ### heaps: all is kept but what stands at the one place -/
/-- all that was tracked is kept, but at p -/
def Kp (p : Addr) (H H' : Hp) : Prop := ∀ a o, a ≠ p → H a = some o → H' a = some o
/-- all is kept -/
def Ex (H H' : Hp) : Prop := ∀ a o, H a = some o → H' a = some o
theorem Ex.refl (H : Hp) : Ex H H := fun _ _ h => h
theorem Ex.trans {H H1 H2 : Hp} (a : Ex H H1) (b : Ex H1 H2) : Ex H H2 := fun x o h => b x o (a x o h)
theorem Ex.new {H : Hp} {p : Addr} {o : HO} (h : H p = none) : Ex H (upd H p o) := fun a u e => by
  rw [upd_ne (ne_of_none e h)]
  exact e
theorem Ex.kp {p : Addr} {H H' : Hp} (e : Ex H H') : Kp p H H' := fun a o _ h => e a o h
theorem Kp.refl (p : Addr) (H : Hp) : Kp p H H := fun _ _ _ h => h
theorem Kp.trans {p : Addr} {H H1 H2 : Hp} (a : Kp p H H1) (b : Kp p H1 H2) : Kp p H H2 := fun x o n h => b x o n (a x o n h)
theorem Kp.set {p : Addr} {H : Hp} {o : HO} : Kp p H (upd H p o) := fun a u n e => by
  rw [upd_ne n]
  exact e
theorem Kp.new {p q : Addr} {H : Hp} {o : HO} (h : H q = none) : Kp p H (upd H q o) := (Ex.new h).kp
/-- a thing that H does not know may change -/
theorem Ex.mut {H H' : Hp} {p : Addr} {o : HO} (e : Ex H H') (h : H p = none) : Ex H (upd H' p o) := fun a u ha => by
  rw [upd_ne (ne_of_none ha h)]
  exact e a u ha
theorem Kp.mut {q : Addr} {H H' : Hp} {p : Addr} {o : HO} (e : Kp q H H') (h : H p = none) : Kp q H (upd H' p o) := fun a u n ha => by
  rw [upd_ne (ne_of_none ha h)]
  exact e a u n ha
theorem Ex.free {H H' : Hp} {p : Addr} (e : Ex H H') (h : H' p = none) : H p = none := by
  cases h1 : H p with
  | none => rfl
  | some o =>
    rw [e p o h1] at h
    cases h
theorem Kp.free {q : Addr} {H H' : Hp} {p : Addr} (e : Kp q H H') (n : p ≠ q) (h : H' p = none) : H p = none := by
  cases h1 : H p with
  | none => rfl
  | some o =>
    rw [e p o n h1] at h
    cases h
theorem Kp.back {p : Addr} {H H1 H2 : Hp} (e : Ex H H1) (k : Kp p H1 H2) (n : H p = none) : Ex H H2 := fun a o h => k a o (ne_of_none h n) (e a o h)
theorem Ex.get {H H' : Hp} {a : Addr} {o : HO} (e : Ex H H') (h : H a = some o) : H' a = some o := e a o h
theorem Kp.get {p : Addr} {H H' : Hp} {a : Addr} {o : HO} (e : Kp p H H') (n : a ≠ p) (h : H a = some o) : H' a = some o := e a o n h
theorem Ex.rd {H H' : Hp} {a : Addr} {u : HO} (e : Ex H H') (h : Rd H a u) : Rd H' a u := by
  rcases h with h | ⟨o, h⟩
  · exact Or.inl (e a _ h)
  · exact Or.inr ⟨o, e a _ h⟩
theorem Ex.sq {K : PySem.W.Frag} {H H' : Hp} {a : Addr} {xs : List V} (e : Ex H H') (h : SqL K H a xs) : SqL K H' a xs := by
  rcases h with h | h
  · exact Or.inl (e.rd h)
  · exact Or.inr h
theorem Ex.st {K : PySem.W.Frag} {H H' : Hp} {a : Addr} {xs : List V} (e : Ex H H') (h : SqT K H a xs) : SqT K H' a xs := by
  rcases h with h | h
  · exact Or.inl (e.rd h)
  · exact Or.inr h
theorem sz6 {n : Nat} (h : n ≤ 100000) : n ≤ sizeLine := Nat.le_trans h (by decide)
theorem sz6' {n : Nat} (h : n ≤ 100000) : n < sizeLine := Nat.lt_of_le_of_lt h (by decide)

/-- a new object: what is wanted of its place and of the heap with it -/
def Al (Q : VK) (o : HO) (H : Hp) : Prop := ∀ p, H p = none → Q (.ref p) (upd H p o)
theorem alI {Q : VK} {o : HO} {H : Hp} (h : ∀ p H', H p = none → Ex H H' → H' p = some o → Q (.ref p) H') : Al Q o H := fun p hp => h p _ hp (Ex.new hp) upd_same

/-! ### the steps -/
section
variable {K : PySem.W.Frag} {σ : L2.St} {H : Hp} {Q : VK} {QT : Bool → Hp → Prop} {QA : List V → Hp → Prop} {QO : Option Int → Hp → Prop} {ta tb tc te : TE} {tt tu : TT} {v x y : V} {r r' : R2} {D : Ends} {ts us : TS} {g : TG} {tA tR : TA}
theorem wVar {i : Nat} (h : σ[i]? = some (some v)) (k : Q v H) : tVar i σ H Q := ⟨v, h, k⟩
theorem wC (k : Q v H) : tC v σ H Q := k
theorem wOp (k : ta σ H fun x H1 => tb σ H1 fun y H2 => r x y H2 Q) : tOp r ta tb σ H Q := k
theorem wUn {r : V → Hp → VK → Prop} (k : ta σ H fun x H1 => r x H1 Q) : tUn r ta σ H Q := k
theorem wCB {r : List V → Hp → VK → Prop} (k : tA σ H fun vs H1 => r vs H1 Q) : tCB r tA σ H Q := k
theorem wNil (k : QA [] H) : tNil σ H QA := k
theorem wCons (k : ta σ H fun x H1 => tR σ H1 fun xs H2 => QA (x :: xs) H2) : tCons ta tR σ H QA := k
theorem wCall {sp : Sp} {dvs : List V} {E : XK} (k : tA σ H fun vs H1 => sp (vs ++ dvs) H1 Q E) : tCall sp dvs E tA σ H Q := k
theorem wTest (k : te σ H fun x H' => ∃ k, x = .bl k ∧ QT k H') : tTest te σ H QT := k
theorem wB (k : te σ H fun x H' => ∃ k, x = .bl k ∧ QT k H') : tB te σ H QT := k
theorem wAnd (k : tt σ H fun c H1 => if c = true then tu σ H1 QT else QT false H1) : tAnd tt tu σ H QT := k
theorem wOr (k : tt σ H fun c H1 => if c = true then QT true H1 else tu σ H1 QT) : tOr tt tu σ H QT := k
theorem wNot (k : tt σ H fun c H1 => QT (!c) H1) : tNot tt σ H QT := k
theorem wAndV (k : ta σ H fun x H1 => ∃ c, x = .bl c ∧ if c = true then tb σ H1 Q else Q (.bl false) H1) : tAndV ta tb σ H Q := k
theorem wOrV (k : ta σ H fun x H1 => ∃ c, x = .bl c ∧ if c = true then Q (.bl true) H1 else tb σ H1 Q) : tOrV ta tb σ H Q := k
theorem wNotV (k : ta σ H fun x H1 => ∃ c, x = .bl c ∧ Q (.bl (!c)) H1) : tNotV ta σ H Q := k
theorem wIf (k : tt σ H fun c H1 => if c = true then ta σ H1 Q else tb σ H1 Q) : tIf tt ta tb σ H Q := k
theorem wChain (k : ta σ H fun x H1 => tb σ H1 fun y H2 => r x y H2 fun z H3 => ∃ k, z = .bl k ∧ (if k = true then tc σ H3 fun w' H4 => r' y w' H4 Q else Q (.bl false) H3)) : tChain r r' ta tb tc σ H Q := k
theorem wTup (k : tA σ H fun xs H1 => xs.length ≤ sizeLine ∧ Al Q (.tup xs) H1) : tTup tA σ H Q := k
theorem wLst (k : tA σ H fun xs H1 => xs.length ≤ sizeLine ∧ Al Q (.lst xs) H1) : tLst tA σ H Q := k
theorem wDnew (k : Al Q (.dK []) H) : tDNewK σ H Q := k
theorem wSl {r : V → Option Int → Option Int → Hp → VK → Prop} {tl th : TO} (k : te σ H fun x H1 => tl σ H1 fun l H2 => th σ H2 fun u H3 => r x l u H3 Q) : tSl r te tl th σ H Q := k
theorem wPart (k : te σ H fun x H1 => ∃ i, x = .int i ∧ QO (some i) H1) : tPart te σ H QO := k
theorem wNoPart (k : QO none H) : tNoPart σ H QO := k
theorem wBM {T : String} {r : V → List V → Hp → VK → Prop} (k : ta σ H fun x H1 => tyV K T x H1 ∧ tA σ H1 fun xs H2 => r x xs H2 Q) : tBM K T r ta tA σ H Q := k
theorem wBM0 {T : String} {r : V → List V → Hp → VK → Prop} (k : ta σ H fun x H1 => tyV K T x H1 ∧ r x [] H1 Q) : tBM0 K T r ta σ H Q := k
theorem wM0 {r : V → List V → Hp → VK → Prop} (k : ta σ H fun x H1 => (∃ a, x = .str a) ∧ r x [] H1 Q) : tM0 r ta σ H Q := k
theorem wM1 {r : V → List V → Hp → VK → Prop} (k : ta σ H fun x H1 => (∃ a, x = .str a) ∧ tb σ H1 fun y H2 => r x [y] H2 Q) : tM1 r ta tb σ H Q := k
-- statements
theorem wSeq (k : ts { D with nx := us D } σ H) : tSeq ts us D σ H := k
theorem wAsg (k : te σ H fun x H1 => g x σ H1 D.nx) : tAsg te g D σ H := k
theorem wRet (k : te σ H D.rt) : tRet te D σ H := k
theorem wDrop (k : te σ H fun _ H1 => D.nx σ H1) : tDrop te D σ H := k
theorem wIfS (k : tt σ H fun b H1 => if b = true then ts D σ H1 else us D σ H1) : tIfS tt ts us D σ H := k
theorem wNext (k : D.nx σ H) : tNext D σ H := k
theorem wPar {i j : Nat} (k : tA σ H fun vs H1 => ∃ v w, vs = [v, w] ∧ D.nx ((σ.set i (some v)).set j (some w)) H1) : tPar i j tA D σ H := k
variable {QS : L2.St → Hp → Prop} {QH : Hp → Prop}
theorem wName {i : Nat} (k : QS (σ.set i (some v)) H) : gName i v σ H QS := k
theorem wSub {to ti : TE} {t : TSet} (k : to σ H fun o H1 => ti σ H1 fun i H2 => t o i v H2 fun H3 => QS σ H3) : gSub to ti t v σ H QS := k
theorem wGTup {n : Nat} {t : TGs} {a : Addr} {xs : List V} (h : SqT K H a xs) (hl : xs.length = n) (k : t xs σ H QS) : gTup K n t (.ref a) σ H QS := ⟨a, xs, rfl, h, hl, k⟩
theorem wGCons {t : TG} {u : TGs} {vs : List V} (k : t v σ H fun σ' H' => u vs σ' H' QS) : gCons t u (v :: vs) σ H QS := ⟨v, vs, rfl, k⟩
theorem wGNil (k : QS σ H) : gNil [] σ H QS := ⟨rfl, k⟩
-- operations
theorem wI0 {f : Int → Int → V} {i j : Int} (k : Q (f i j) H) : rI0 f (.int i) (.int j) H Q := ⟨i, j, rfl, rfl, k⟩
theorem wI {C : Int → Int → Prop} {f : Int → Int → V} {i j : Int} (c : C i j) (k : Q (f i j) H) : rI C f (.int i) (.int j) H Q := ⟨i, j, rfl, rfl, c, k⟩
theorem wU {f : Int → V} {i : Int} (k : Q (f i) H) : rU f (.int i) H Q := ⟨i, rfl, k⟩
theorem wEq (h : scal x y = true) (k : Q (.bl (decide (x = y))) H) : rEq x y H Q := ⟨h, k⟩
theorem wNe (h : scal x y = true) (k : Q (.bl (!decide (x = y))) H) : rNe x y H Q := ⟨h, k⟩
theorem wIxL {p : Addr} {xs : List V} {i : Int} (h : SqL K H p xs) (ha : atI xs i = some v) (k : Q v H) : rIxL K (.ref p) (.int i) H Q := ⟨p, xs, i, v, rfl, rfl, h, ha, k⟩
theorem wIxT {p : Addr} {xs : List V} {i : Int} (h : SqT K H p xs) (ha : atI xs i = some v) (k : Q v H) : rIxT K (.ref p) (.int i) H Q := ⟨p, xs, i, v, rfl, rfl, h, ha, k⟩
theorem wIxS {z : Str} {i : Int} {c : Nat} (h : z.length ≤ sizeLine) (ha : atI z.cps.toList i = some c) (k : Q (.str ⟨#[c]⟩) H) : rIxS (.str z) (.int i) H Q := ⟨z, i, c, rfl, rfl, h, ha, k⟩
theorem wSetL {p : Addr} {xs : List V} {k : Int} {j : Nat} (h : H p = some (.lst xs)) (hj : ixN xs.length k = some j) (q : QH (upd H p (.lst (xs.set j v)))) : rSetL (.ref p) (.int k) v H QH := ⟨p, xs, k, j, rfl, rfl, h, hj, q⟩
theorem wSlL {a : Addr} {xs : List V} {lo hi : Option Int} (h : SqL K H a xs) (k : Al Q (.lst (cutV xs lo hi)) H) : rSlL K (.ref a) lo hi H Q := ⟨a, xs, rfl, h, k⟩
theorem wSlS {z : Str} {lo hi : Option Int} (h : z.length ≤ sizeLine) (k : Q (.str (cutS z lo hi)) H) : rSlS (.str z) lo hi H Q := ⟨z, rfl, h, k⟩
theorem wAppend {l : Addr} {xs : List V} {y : V} (h : H l = some (.lst xs)) (hl : xs.length ≤ 100000) (k : Q .non (upd H l (.lst (xs ++ [y])))) : rAppend (.ref l) [y] H Q := ⟨l, xs, y, rfl, rfl, h, sz6' hl, k⟩
theorem wAppendI {H0 : Hp} {l : Addr} {xs : List V} {y : V} (h : H l = some (.lst xs)) (hl : xs.length ≤ 100000) (n : H0 l = none) (e : Ex H0 H) (k : ∀ H', Ex H0 H' → Kp l H H' → H' l = some (.lst (xs ++ [y])) → Q .non H') : rAppend (.ref l) [y] H Q :=
  ⟨l, xs, y, rfl, rfl, h, sz6' hl, k _ (e.mut n) Kp.set upd_same⟩
theorem anTyL {l : Addr} {xs : List V} {P : Prop} (h : H l = some (.lst xs)) (k : P) : tyV K "list" (.ref l) H ∧ P := ⟨.inl ⟨rfl, xs, SqL.of h⟩, k⟩
theorem wCat {a b : Addr} {xs ys : List V} (h1 : H a = some (.lst xs)) (h2 : H b = some (.lst ys)) (hl : xs.length + ys.length ≤ sizeLine) (k : Al Q (.lst (xs ++ ys)) H) : rCat (.ref a) (.ref b) H Q := ⟨a, b, xs, ys, rfl, rfl, h1, h2, hl, k⟩
theorem wLenL {a : Addr} {xs : List V} {P : Nat → Prop} (h : SqL K H a xs) (k : P xs.length) : ∃ x n, [V.ref a] = [x] ∧ LenV K x H n ∧ P n := ⟨_, _, rfl, .inl ⟨_, h, rfl⟩, k⟩
theorem wLenT {a : Addr} {xs : List V} {P : Nat → Prop} (h : SqT K H a xs) (k : P xs.length) : ∃ x n, [V.ref a] = [x] ∧ LenV K x H n ∧ P n := ⟨_, _, rfl, .inr ⟨_, h, rfl⟩, k⟩
theorem wLenS {z : Str} {P : Nat → Prop} (h : z.length ≤ sizeLine) (k : P z.length) : ∃ x n, [V.str z] = [x] ∧ LenV K x H n ∧ P n := ⟨_, _, rfl, ⟨h, rfl⟩, k⟩
theorem exI1 {i : Int} {P : Int → Prop} (k : P i) : ∃ j, [V.int i] = [V.int j] ∧ P j := ⟨i, rfl, k⟩
theorem exI2 {i j : Int} {P : Int → Int → Prop} (k : P i j) : ∃ a b, [V.int i, V.int j] = [V.int a, V.int b] ∧ P a b := ⟨i, j, rfl, k⟩
theorem wAll {a : Addr} {bs : List Bool} (h : SqL K H a (bs.map V.bl)) (k : Q (.bl (bs.all id)) H) : rAll K [.ref a] H Q := ⟨a, bs, rfl, h, k⟩
theorem wAny {a : Addr} {bs : List Bool} (h : SqL K H a (bs.map V.bl)) (k : Q (.bl (bs.any id)) H) : rAny K [.ref a] H Q := ⟨a, bs, rfl, h, k⟩
theorem exBl {b : Bool} {P : Bool → Prop} (h : P b) : ∃ k, V.bl b = V.bl k ∧ P k := ⟨b, rfl, h⟩
theorem exInt {i : Int} {P : Int → Prop} (h : P i) : ∃ k, V.int i = V.int k ∧ P k := ⟨i, rfl, h⟩
theorem exStr {z : Str} {P : Str → Prop} (h : P z) : ∃ k, V.str z = V.str k ∧ P k := ⟨z, rfl, h⟩
theorem exSS {a b : Str} {P : Str → Str → Prop} (h : P a b) : ∃ i j, V.str a = V.str i ∧ V.str b = V.str j ∧ P i j := ⟨a, b, rfl, rfl, h⟩
theorem exCS {c : Nat} {b : Str} {P : Nat → Str → Prop} (h : P c b) : ∃ i j, V.str ⟨#[c]⟩ = V.str ⟨#[i]⟩ ∧ V.str b = V.str j ∧ P i j := ⟨c, b, rfl, rfl, h⟩
theorem anSum {a b : Nat} {P : Prop} (h : a + b ≤ sizeLine) (k : P) : a + b ≤ sizeLine ∧ P := ⟨h, k⟩
theorem anStr {z : Str} {P : Prop} (h : P) : (∃ a, V.str z = V.str a) ∧ P := ⟨⟨z, rfl⟩, h⟩
theorem anSz {n : Nat} {P : Prop} (h : n ≤ 100000) (k : P) : n ≤ sizeLine ∧ P := ⟨sz6 h, k⟩
theorem exTwo {v w : V} {P : V → V → Prop} (h : P v w) : ∃ a b, [v, w] = [a, b] ∧ P a b := ⟨v, w, rfl, h⟩
end
/-- a chain's comparison of two ints, of texts -/
theorem wLeS {i j : Str} {H : Hp} {Q : VK} (k : Q (.bl (!decide (j.cps.toList < i.cps.toList))) H) : (fun x y H Q => ∃ i j, x = V.str i ∧ y = V.str j ∧ Q (.bl (!decide (j.cps.toList < i.cps.toList))) H : R2) (.str i) (.str j) H Q := ⟨i, j, rfl, rfl, k⟩

/-! ### small rules of our own -/
/-- a text so many times -/
def rMulS : R2 := fun x y H Q => ∃ (z : Str) (n : Nat), x = .str z ∧ y = .int n ∧ 1 < n ∧ n ≤ 100 ∧ 0 < z.length ∧ z.length ≤ 1000 ∧ ∀ u : Str, u.cps.toList = (List.replicate n z.cps.toList).flatten → Q (.str u) H
theorem fold_cps (z : Str) : ∀ (n : Nat) (a : Array Nat), ((List.replicate n z.cps).foldl (· ++ ·) a).toList = a.toList ++ (List.replicate n z.cps.toList).flatten
  | 0, a => by simp
  | n + 1, a => by
    rw [List.replicate_succ, List.foldl_cons, fold_cps z n, List.replicate_succ, List.flatten_cons, Array.toList_append, List.append_assoc]
theorem op_mulS {X : Cx} : OpR X (binaryOp .Mult) rMulS := by
  intro pins s σ H x y v u Q I rx ry h
  obtain ⟨z, n, rfl, rfl, h1, h2, h3, h4, q⟩ := h
  obtain ⟨t, rfl⟩ := rx
  obtain ⟨t', rfl⟩ := ry
  have e1 : ¬ ((n : Int) < 1) := by omega
  have e2 : ((n : Int) == 1 || z.length == 0) = false := by
    rw [Bool.or_eq_false_iff]
    exact ⟨beq_eq_false_iff_ne.mpr (by omega), beq_eq_false_iff_ne.mpr (by omega)⟩
  have e3 : z.length * n ≤ 1000 * 100 := Nat.mul_le_mul h4 h2
  refine PySem.P.mul_str ?_ (fun _ _ => ?_) (fun _ _ => ?_) ?_
  · rw [decide_eq_false (by omega), decide_eq_false (by omega)]; rfl
  · have e4 : (92233720368547758 : Int) ≤ (2 ^ 63 - 1) / (n : Int) := by
      refine Int.le_ediv_of_mul_le (by omega) ?_
      have : (92233720368547758 : Int) * n ≤ 92233720368547758 * 100 := Int.mul_le_mul_of_nonneg_left (by omega) (by decide)
      omega
    omega
  · show decide (z.length * ((n : Int)).toNat > sizeLine) = false
    rw [Int.toNat_natCast]
    exact decide_eq_false (by have := sz6 (n := z.length * n) (by omega); omega)
  · rw [if_neg e1, e2]
    rw [if_neg (by decide)]
    have e5 : ((List.replicate ((n : Int)).toNat z.cps).foldl (· ++ ·) #[]).toList = (List.replicate n z.cps.toList).flatten := by
      rw [fold_cps, Int.toNat_natCast]
      simp
    refine ⟨?_, ?_⟩
    · have e6 : ((List.replicate ((n : Int)).toNat z.cps).foldl (· ++ ·) #[]).size = n * z.length := by
        rw [← Array.length_toList, e5, List.length_flatten, List.map_replicate, List.sum_replicate_nat]
        rfl
      refine Nat.le_trans (Nat.le_of_eq e6) (sz6 ?_)
      rw [Nat.mul_comm]
      exact e3
    · exact ⟨.str _, H, I.tok _, ⟨_, rfl⟩, q _ e5⟩
/-- // by any number that is not too great -/
def CDivZ (_ j : Int) : Prop := j ≠ 0 ∧ j.natAbs.log2 < 9000
theorem op_fdivZ {X : Cx} : OpR X (binaryOp .FloorDiv) (rI CDivZ fun i j => .int (i.fdiv j)) := opI fun _ _ _ _ _ _ _ hc q => floordiv_int hc.1 q (.inl (PyProof.noPylong_of_log2 hc.2))
theorem divz {i j : Int} {n : Nat} (h : j ≠ 0) (hb : j.natAbs < 2 ^ n) (h0 : 0 < n) (h9 : n ≤ 9000) : CDivZ i j := ⟨h, Nat.lt_of_lt_of_le (PySem.Flt.log2_lt_of h0 hb) h9⟩
theorem wWhile {c : TT} {tb : TS} {D : Ends} {σ : L2.St} {H : Hp} (k : ∃ W : Nat → L2.St → Hp → Prop, (∃ m, W m σ H) ∧ ∀ m σ H, W m σ H →
    c σ H fun b H1 => if b = true then ∃ N : L2.St → Hp → Prop, (∀ σ' H', N σ' H' → ∃ m', m' < m ∧ W m' σ' H') ∧ tb { D with nx := N, ct := N, bk := D.nx } σ H1 else D.nx σ H1) : tWhile c tb D σ H := k
theorem wOrT {K : PySem.W.Frag} {ta tb : TE} {σ : L2.St} {H : Hp} {Q : VK} (k : ta σ H fun x H1 => ∃ k, TruV K x H1 k ∧ if k = true then Q x H1 else tb σ H1 Q) : tOrT K ta tb σ H Q := k
theorem wCut {t u : TS} {D : Ends} {σ : L2.St} {H : Hp} (Mid : L2.St → Hp → Prop) (h : t { D with nx := Mid } σ H) (k : ∀ σ' H', Mid σ' H' → u D σ' H') : C8.tCut t u D σ H := ⟨Mid, h, k⟩
/-- == of things at any depth, by their data -/
theorem wNeD {K : PySem.W.Frag} {H : Hp} {Q : VK} {x y : V} {d e : PyData} (h1 : Dp K H x d) (h2 : Dp K H y e) (s1 : SeqAt.shaped d = true) (s2 : SeqAt.shaped e = true) (k : Q (.bl (!PyData.eqv d e)) H) : rNeD K x y H Q := ⟨d, e, h1, h2, s1, s2, k⟩
theorem wEqD {K : PySem.W.Frag} {H : Hp} {Q : VK} {x y : V} {d e : PyData} (h1 : Dp K H x d) (h2 : Dp K H y e) (s1 : SeqAt.shaped d = true) (s2 : SeqAt.shaped e = true) (k : Q (.bl (PyData.eqv d e)) H) : rEqD K x y H Q := ⟨d, e, h1, h2, s1, s2, k⟩
theorem dpPair {K : PySem.W.Frag} {H : Hp} {a : Addr} {p q : Int} (h : H a = some (.tup [.int p, .int q])) : Dp K H (.ref a) (.tuple [.int p, .int q]) := .tup (SqT.of h) (.cons (.int p) (.cons (.int q) .nil))
theorem eqvPair (p q : Int) : PyData.eqv (.tuple [.int p, .int q]) (.tuple [.int p, .int q]) = true := by
  rw [SeqAt.eqv_refl]
  rfl
/-! ### the library's rules with the written part named (in a comprehension's block it must not hang on the block) -/
section
variable {X : Cx} {K : PySem.W.Frag}
theorem ix_listV (h : X.K = K) : IxR X (rIxL K) := h ▸ ix_list
theorem ix_tupV (h : X.K = K) : IxR X (rIxT K) := h ▸ ix_tup
theorem sl_listV (h : X.K = K) : SlR X (rSlL K) := h ▸ sl_list
theorem sl_tupV (h : X.K = K) : SlR X (rSlA K) := h ▸ sl_tupA
theorem call_isiV (h : X.K = K) : CallR X (.builtin "isinstance") (rIsi K) := h ▸ call_isi
theorem call_lenV (h : X.K = K) : CallR X (.builtin "len") (fun xs H Q => ∃ x n, xs = [x] ∧ LenV K x H n ∧ Q (.int n) H) := h ▸ call_len
theorem cr_allV (h : X.K = K) (hc : X.calm = true) : CallR X (.builtin "all") (rAll K) := h ▸ cr_all hc
theorem cr_anyV (h : X.K = K) (hc : X.calm = true) : CallR X (.builtin "any") (rAny K) := h ▸ cr_any hc
theorem op_in_seqV (h : X.K = K) : OpR X (compareOp .In) (rIn K false) := h ▸ op_in_seq
theorem op_notIn_seqV (h : X.K = K) : OpR X (compareOp .NotIn) (rIn K true) := h ▸ op_notIn_seq
theorem op_eqDV (h : X.K = K) (hu : X.A.units + 64 < cLine) : OpR X (compareOp .Eq) (rEqD K) := h ▸ op_eqD hu
theorem op_neDV (h : X.K = K) (hu : X.A.units + 64 < cLine) : OpR X (compareOp .NotEq) (rNeD K) := h ▸ op_neD hu
theorem op_catTV (h : X.K = K) : OpR X (binaryOp .Add) (rCatA K) := h ▸ op_catA
theorem op_repTV (h : X.K = K) : OpR X (binaryOp .Mult) (rRepT K) := h ▸ op_repT
theorem pi_listV {tg l : Expr} {tl : TE} (h : X.K = K) (hl : PE X l tl) : PI X tg l (iList K tl) := h ▸ pi_list hl
theorem pi_tupV {tg l : Expr} {tl : TE} (h : X.K = K) (hl : PE X l tl) : PI X tg l (iTup K tl) := h ▸ pi_tup hl
theorem pg_tupV {es : List Expr} {k n : Nat} {t : TGs} {pos : Pos} (hK : X.K = K) (hc : X.calm = true) (h : PGs X es t)
    (hn : (assignEach es X.env).length = n) (hst : (assignEach es X.env).findIdx? (·.1) = none := by rfl) : PG X (.Tuple es k pos) (gTup K n t) := hK ▸ pg_tup hc h hn hst
end
section
variable {X : Cx} {CX : CXT} {k n : Nat} {f : Addr} {fd : FuncData} {ps ks : List Str} {sp : Sp} {E : XK} {x : Str} {p pos : Pos} {e : Expr} {es : List Expr} {kws : List Keyword} {t tk : TA} {g : List Value → List Value → List Value} {gV : List V → List V → List V}
/-- f(k = v, ..), by names alone -/
theorem pe_callN0 (F : FnOk X.prog X.w X.K X.mg X.base CX k f fd ps sp) (hr : Room k X.A) (hg : Gl X x) (hm : X.mg x = some (.ref f)) (hk : PySem.W.keepIn X.K (.ref f) = true) (hb : KBn X.K fd ps 0 ks g gV) (hx : Passes CX X E)
    (hkw : PK X kws tk) (hall : (backToKw pos (keywordEach kws X.env)).all (·.1.isSome) = true := by rfl) (hks : (backToKw pos (keywordEach kws X.env)).filterMap (·.1) = ks := by rfl)
    (hdb : (x == ("__debug__" : Str)) = false := by decide)
    (hpl : ((backTo pos (starEach [] X.env)).any (·.1) || (backToKw pos (keywordEach kws X.env)).any (·.1.isNone)) = false := by rfl) :
    PE X (.Call (.Name x p) [] kws pos) (tCallN 0 ks.length sp gV E tNil tk) := by
  refine ⟨fun pins s σ H Q I h => ?_⟩
  refine wpAny_Call_Name_kw (ld_glob I hg hm ?_ hdb)
  refine PySem.W.callWith_KW0 (h₀ := X.base) I.ok.mod.kin hk hall ?_ hpl
  have h : tk σ H fun zs H2 => ([] : List V).length = 0 ∧ zs.length = ks.length ∧ sp (gV [] zs) H2 Q E := h
  refine thn (hkw.run pos pins s σ H _ I h) fun ws s2 ⟨zs, H2, I2, rz, l1, l2, q2⟩ => ⟨I2.kIn, ?_⟩
  rw [hks]
  exact run_fnN (us := []) F hr hb hx I2 .nil rz l1 l2 q2
theorem wCallN {n m : Nat} {σ : L2.St} {H : Hp} {Q : VK} (k : t σ H fun vs H1 => tk σ H1 fun zs H2 => vs.length = n ∧ zs.length = m ∧ sp (gV vs zs) H2 Q E) : tCallN n m sp gV E t tk σ H Q := k
end
/-- the values named in another turn: by the parameters' order -/
def pick {α : Type} (ks : List Nat) (zs : List α) : List α := ks.filterMap fun k => zs[k]?
theorem pick_rel {zs : List V} {ws : List Value} (r : Vals zs ws) : ∀ ks : List Nat, Vals (pick ks zs) (pick ks ws)
  | [] => .nil
  | k :: ks => by
    unfold pick
    cases e : zs[k]? with
    | none =>
      rw [List.filterMap_cons_none e, List.filterMap_cons_none (r.none_of e)]
      exact pick_rel r ks
    | some x =>
      obtain ⟨u, hu, ru⟩ := r.get e
      rw [List.filterMap_cons_some e, List.filterMap_cons_some hu]
      exact .cons ru (pick_rel r ks)
/-- a call by names of a def with defaults (none of them by name alone) -/
theorem kbnD {K : PySem.W.Frag} {x qual : Str} {params : Arguments} {body : List Stmt} {scope : Scope} {dvs : List V} {f : Addr} {fd : FuncData} {ps : List Str} (F : FunD K x qual params body scope dvs [] f fd) (n : Nat) (ks : List Str)
    (g : {α : Type} → List α → List α → List α → List α) (hd : dvs ≠ []) (hrel : ∀ {vs ds zs : List V} {us its ws : List Value}, Vals vs us → Vals ds its → Vals zs ws → Vals (g vs ds zs) (g us its ws))
    (h : ∀ (T : Addr) (kV doc pm : Value) (an : Option Addr) (cdv ct : Value) (us its ws : List Value), us.length = n → its.length = dvs.length → ws.length = ks.length →
      ∃ k, bindArgs (PySem.W.fnOf x qual params body scope (.ref T) kV doc pm an cdv ct) ⟨us, ks.zip ws⟩ = seqItems? (.ref T) >>= k ∧ k (some its.toArray) = pure (ps.zip (g us its ws))) :
    ∃ its : List Value, KBn K fd ps n ks (fun us ws => g us its ws) (fun vs zs => g vs dvs zs) := by
  obtain ⟨oc, od, dV, kV, doc, pm, an, cdv, ct, osl, rfl, lk, hcd, hD, hK⟩ := F.ex
  rcases hD with ⟨e, _⟩ | ⟨_, T, o, its, m, rfl, lT, oT, rT⟩
  · exact absurd e hd
  · refine ⟨its, fun s us ws X l1 l2 => ?_, fun r1 r2 => hrel r1 rT r2⟩
    obtain ⟨k, e1, e2⟩ := h T kV doc pm an cdv ct us its ws l1 rT.length.symm l2
    refine BindsTo.of_looks fun M => ?_
    rw [e1]
    exact looks_items X lT oT (.of_pure e2)
/-- all of its parameters by place -/
theorem bndD {K : PySem.W.Frag} {x qual : Str} {params : Arguments} {body : List Stmt} {scope : Scope} {dvs : List V} {f : Addr} {fd : FuncData} {ps : List Str} (F : FunD K x qual params body scope dvs [] f fd) (hd : dvs ≠ [])
    (h : ∀ (T : Addr) (kV doc pm : Value) (an : Option Addr) (cdv ct : Value) (us its : List Value), us.length = ps.length → its.length = dvs.length →
      ∃ k, bindArgs (PySem.W.fnOf x qual params body scope (.ref T) kV doc pm an cdv ct) ⟨us, []⟩ = seqItems? (.ref T) >>= k ∧ k (some its.toArray) = pure (ps.zip (us ++ its.drop dvs.length))) : Binds K fd ps [] := by
  obtain ⟨ds, r, b⟩ := F.binds1 ps.length dvs.length hd (by omega) h
  rw [List.drop_length] at r
  cases r
  exact b
/-! ### isinstance -/
/-- a value's type by its name -/
inductive Ty (K : PySem.W.Frag) (H : Hp) : V → String → Prop where
  | non : Ty K H .non "NoneType"
  | bl (x : Bool) : Ty K H (.bl x) "bool"
  | int (i : Int) : Ty K H (.int i) "int"
  | str (x : Str) : Ty K H (.str x) "str"
  | lst {a : Addr} {xs : List V} (e : H a = some (.lst xs)) : Ty K H (.ref a) "list"
  | tup {a : Addr} {xs : List V} (e : H a = some (.tup xs)) : Ty K H (.ref a) "tuple"
  | dK {a : Addr} {kvs : List (Key × V)} (e : H a = some (.dK kvs)) : Ty K H (.ref a) "dict"
  | kT {a : Addr} {o : Obj} (e : K.lookup a = some o) (c : o.cls = .type "tuple") : Ty K H (.ref a) "tuple"
theorem Ty.x {K : PySem.W.Frag} {H : Hp} {v : V} {n : String} (h : Ty K H v n) : TyX K H v (.type n) := by
  cases h with
  | non => exact .base .non
  | bl x => exact .base (.bl x)
  | int x => exact .base (.int x)
  | str x => exact .base (.str x)
  | lst e => exact .base (.lst e)
  | tup e => exact .base (.tup e)
  | dK e => exact .base (.dK e)
  | kT e c => exact .kTuple e c
theorem Ty.ex {K : PySem.W.Frag} {H H' : Hp} {v : V} {n : String} (x : Ex H H') (h : Ty K H v n) : Ty K H' v n := by
  cases h with
  | non => exact .non
  | bl x => exact .bl x
  | int x => exact .int x
  | str x => exact .str x
  | lst e => exact .lst (x _ _ e)
  | tup e => exact .tup (x _ _ e)
  | dK e => exact .dK (x _ _ e)
  | kT e c => exact .kT e c
theorem wIsi {K : PySem.W.Frag} {H : Hp} {Q : VK} {v : V} {n T : String} {b : Bool} (h : Ty K H v n) (hb : kitB n T = some b) (k : Q (.bl b) H) : rIsi K [v, .ty T] H Q :=
  ⟨v, .ty T, .type n, .type T, b, rfl, .ty T, h.x, kit_ty hb, k⟩


theorem iteNT {A B : Prop} (h : B) : if (!true) = true then A else B := h
theorem iteNF {A B : Prop} (h : A) : if (!false) = true then A else B := h
def isStr : V → Bool
  | .str _ => true
  | _ => false
theorem Ty.str_is {K : PySem.W.Frag} {H : Hp} {v : V} {n : String} (h : Ty K H v n) : kitB n "str" = some (isStr v) := by
  have e1 : kitB "NoneType" "str" = some false := by decide +kernel
  have e2 : kitB "bool" "str" = some false := by decide +kernel
  have e3 : kitB "int" "str" = some false := by decide +kernel
  have e4 : kitB "str" "str" = some true := by decide +kernel
  have e5 : kitB "list" "str" = some false := by decide +kernel
  have e6 : kitB "tuple" "str" = some false := by decide +kernel
  have e7 : kitB "dict" "str" = some false := by decide +kernel
  cases h <;> first | exact e1 | exact e2 | exact e3 | exact e4 | exact e5 | exact e6 | exact e7
theorem wIsiS {K : PySem.W.Frag} {H : Hp} {Q : VK} {z : Str} (k : Q (.bl true) H) : rIsi K [.str z, .ty "str"] H Q := wIsi (.str z) (by decide +kernel) k
theorem wIsiB {K : PySem.W.Frag} {H : Hp} {Q : VK} {b : Bool} (k : Q (.bl true) H) : rIsi K [.bl b, .ty "bool"] H Q := wIsi (.bl b) (by decide +kernel) k

/-- a thing whose kind is known, a text not too long -/
structure Thing (K : PySem.W.Frag) (H : Hp) (v : V) : Prop where
  ty : ∃ n, Ty K H v n
  sz : ∀ z, v = .str z → z.length ≤ 30000
theorem Thing.ex {K : PySem.W.Frag} {H H' : Hp} {v : V} (e : Ex H H') (t : Thing K H v) : Thing K H' v := ⟨let ⟨n, h⟩ := t.ty; ⟨n, h.ex e⟩, t.sz⟩
section
variable {K : PySem.W.Frag}
theorem Thing.s {z : Str} {H : Hp} (h : z.length ≤ 30000) : Thing K H (.str z) := ⟨⟨_, .str z⟩, fun y e => by cases e; exact h⟩
theorem Thing.i {i : Int} {H : Hp} : Thing K H (.int i) := ⟨⟨_, .int i⟩, fun y e => by cases e⟩
theorem Thing.b {b : Bool} {H : Hp} : Thing K H (.bl b) := ⟨⟨_, .bl b⟩, fun y e => by cases e⟩
theorem Thing.n {H : Hp} : Thing K H .non := ⟨⟨_, .non⟩, fun y e => by cases e⟩
theorem Thing.t {H : Hp} {a : Addr} {xs : List V} (h : H a = some (.tup xs)) : Thing K H (.ref a) := ⟨⟨_, .tup h⟩, fun y e => by cases e⟩
theorem Thing.l {H : Hp} {a : Addr} {xs : List V} (h : H a = some (.lst xs)) : Thing K H (.ref a) := ⟨⟨_, .lst h⟩, fun y e => by cases e⟩
theorem Thing.d {H : Hp} {a : Addr} {kvs : List (Key × V)} (h : H a = some (.dK kvs)) : Thing K H (.ref a) := ⟨⟨_, .dK h⟩, fun y e => by cases e⟩
end

/-! ### loops and comprehensions -/
/-- what a comprehension's reading asks behind its source -/
abbrev LcG (J : It) (g : TG) (tt : TT) (te : TE) (vs : List Nat) (σ : L2.St) (H1 : Hp) (Q : VK) (D : Addr) : Prop :=
  ∃ W : Nat → Nat → Hp → Prop, (∃ m, W 0 m (upd H1 D (.lst []))) ∧ ∀ i m H, W i m H →
    (J.stop i H ∧ Q (.ref D) H) ∨ (J.go i H ∧ ∃ Nx : Hp → Prop, (∀ H', Nx H' → ∃ m', m' < m ∧ W (i + 1) m' H') ∧ ∀ x H', J.yld i H x H' → g x (wipe σ vs) H' fun σ2 H2 => wipe σ2 vs = wipe σ vs ∧ tt σ2 H2 fun b H3 =>
      if b = true then te σ2 H3 fun y H4 => ∃ acc, H4 D = some (.lst acc) ∧ acc.length < sizeLine ∧ Nx (upd H4 D (.lst (acc ++ [y]))) else Nx H3)
abbrev ForG (J : It) (g : TG) (tb : TS) (D : Ends) (σ : L2.St) (H1 : Hp) : Prop :=
  ∃ W : Nat → Nat → L2.St → Hp → Prop, (∃ m, W 0 m σ H1) ∧ ∀ i m σ H, W i m σ H →
    (J.stop i H ∧ D.nx σ H) ∨ (J.go i H ∧ ∃ N : L2.St → Hp → Prop, (∀ σ' H', N σ' H' → ∃ m', m' < m ∧ W (i + 1) m' σ' H') ∧ ∀ x H', J.yld i H x H' → g x σ H' fun σ2 H2 => tb { D with nx := N, ct := N, bk := D.nx } σ2 H2)
section
variable {K : PySem.W.Frag} {wi : TI} {g : TG} {tt : TT} {te tl : TE} {tb : TS} {vs : List Nat} {σ : L2.St} {H H1 : Hp} {Q : VK} {E : Ends} {D : Addr} {ta : TA}
theorem wLc (k : wi σ H fun J H1 => ∀ D, H1 D = none → LcG J g tt te vs σ H1 Q D) : tLc wi g tt te vs σ H Q := k
theorem wFor (k : wi σ H fun J H1 => ForG J g tb E σ H1) : tFor wi g tb E σ H := k
variable {R : It → Hp → Prop}
theorem wIList (k : tl σ H fun x H1 => ∃ a, x = .ref a ∧ (∃ xs, SqL K H1 a xs) ∧ R (Itl K a) H1) : iList K tl σ H R := k
theorem wITup (k : tl σ H fun x H1 => ∃ a, x = .ref a ∧ (∃ xs, SqT K H1 a xs) ∧ R (Itt K a) H1) : iTup K tl σ H R := k
theorem wIStr (k : tl σ H fun x H1 => ∃ z, x = .str z ∧ R (Its z) H1) : iStr tl σ H R := k
theorem wIRng1 (k : ta σ H fun vs H1 => ∃ j : Int, vs = [.int j] ∧ -(2 ^ 62) ≤ j ∧ j < 2 ^ 62 ∧ R (Itr 0 j.toNat) H1) : iRng1 ta σ H R := k
theorem exSq {p : Addr} {xs : List V} {P : Addr → Prop} (h : SqL K H p xs) (k : P p) : ∃ a, V.ref p = V.ref a ∧ (∃ xs, SqL K H a xs) ∧ P a := ⟨p, rfl, ⟨xs, h⟩, k⟩
theorem exSt {p : Addr} {xs : List V} {P : Addr → Prop} (h : SqT K H p xs) (k : P p) : ∃ a, V.ref p = V.ref a ∧ (∃ xs, SqT K H a xs) ∧ P a := ⟨p, rfl, ⟨xs, h⟩, k⟩
theorem exRng {n : Int} {P : Int → Prop} (h0 : -1000000 ≤ n) (h1 : n ≤ 1000000) (k : P n) : ∃ j : Int, [V.int n] = [V.int j] ∧ -(2 ^ 62) ≤ j ∧ j < 2 ^ 62 ∧ P j := ⟨n, rfl, by omega, by omega, k⟩

/-- over a text -/
theorem lc_str {z : Str} {Qd : Hp → Prop} (Pv : Nat → Hp → Prop) (h0 : Pv 0 (upd H1 D (.lst [])))
    (hs : ∀ i c H, z.cps[i]? = some c → Pv i H → g (.str ⟨#[c]⟩) (wipe σ vs) H fun σ2 H2 => wipe σ2 vs = wipe σ vs ∧ tt σ2 H2 fun b H3 =>
      if b = true then te σ2 H3 fun y H4 => ∃ acc, H4 D = some (.lst acc) ∧ acc.length < sizeLine ∧ Pv (i + 1) (upd H4 D (.lst (acc ++ [y]))) else Pv (i + 1) H3) (hd : ∀ H, Pv z.cps.size H → Qd H) :
    ∃ W : Nat → Nat → Hp → Prop, (∃ m, W 0 m (upd H1 D (.lst []))) ∧ ∀ i m H, W i m H →
      ((Its z).stop i H ∧ Qd H) ∨ ((Its z).go i H ∧ ∃ Nx : Hp → Prop, (∀ H', Nx H' → ∃ m', m' < m ∧ W (i + 1) m' H') ∧ ∀ x H', (Its z).yld i H x H' → g x (wipe σ vs) H' fun σ2 H2 => wipe σ2 vs = wipe σ vs ∧ tt σ2 H2 fun b H3 =>
        if b = true then te σ2 H3 fun y H4 => ∃ acc, H4 D = some (.lst acc) ∧ acc.length < sizeLine ∧ Nx (upd H4 D (.lst (acc ++ [y]))) else Nx H3) := by
  refine ⟨fun i m H => m = z.cps.size - i ∧ i ≤ z.cps.size ∧ Pv i H, ⟨z.cps.size, by simp, Nat.zero_le _, h0⟩, ?_⟩
  rintro i m H ⟨rfl, hi, p⟩
  by_cases hlt : i < z.cps.size
  · refine .inr ⟨hlt, Pv (i + 1), fun H' p' => ⟨z.cps.size - (i + 1), by omega, rfl, hlt, p'⟩, fun x H' y => ?_⟩
    obtain ⟨e, c, hc, rfl⟩ := y
    subst e
    exact hs i c _ hc p
  · have e : i = z.cps.size := by omega
    subst e
    exact .inl ⟨Nat.le_refl _, hd H p⟩
/-- the list that a comprehension has made so far: i items, each as R says, the heap as I says -/
structure LcP (I : Hp → Prop) (R : Nat → V → Hp → Prop) (D : Addr) (i : Nat) (H : Hp) : Prop where
  inv : I H
  made : ∃ acc, H D = some (.lst acc) ∧ acc.length = i ∧ ∀ j y, acc[j]? = some y → R j y H
theorem LcP.start {I : Hp → Prop} {R : Nat → V → Hp → Prop} (h : I (upd H1 D (.lst []))) : LcP I R D 0 (upd H1 D (.lst [])) := ⟨h, [], upd_same, rfl, fun j y e => by simp at e⟩
theorem LcP.next {I : Hp → Prop} {R : Nat → V → Hp → Prop} {i : Nat} {y : V} {acc : List V} (hD : H1 D = some (.lst acc)) (hl : acc.length = i) (hi : I (upd H1 D (.lst (acc ++ [y])))) (hR : ∀ j z, acc[j]? = some z → R j z (upd H1 D (.lst (acc ++ [y])))) (hy : R i y (upd H1 D (.lst (acc ++ [y])))) :
    LcP I R D (i + 1) (upd H1 D (.lst (acc ++ [y]))) := by
  refine ⟨hi, acc ++ [y], upd_same, by simp [hl], fun j z e => ?_⟩
  by_cases hj : j < acc.length
  · rw [List.getElem?_append_left hj] at e
    exact hR j z e
  · rw [List.getElem?_append_right (by omega)] at e
    have h0 : j - acc.length = 0 := by
      cases q : j - acc.length with
      | zero => rfl
      | succ n => rw [q] at e; simp at e
    rw [h0] at e
    have e1 : y = z := by simpa using e
    have e2 : j = i := by omega
    rw [← e1, e2]
    exact hy
theorem lcStr {z : Str} {slot : Nat} (I : Hp → Prop) (R : Nat → V → Hp → Prop) (hz : z.cps.size ≤ 100000) (hw : ∀ c, wipe ((wipe σ vs).set slot (some c)) vs = wipe σ vs) (h0 : I (upd H1 D (.lst [])))
    (hs : ∀ i c, z.cps[i]? = some c → ∀ H acc, I H → H D = some (.lst acc) → acc.length = i → (∀ j y, acc[j]? = some y → R j y H) →
      te ((wipe σ vs).set slot (some (.str ⟨#[c]⟩))) H fun y H' => ∃ acc', H' D = some (.lst acc') ∧ acc'.length < sizeLine ∧ LcP I R D (i + 1) (upd H' D (.lst (acc' ++ [y]))))
    (k : ∀ H ys, I H → H D = some (.lst ys) → ys.length = z.cps.size → (∀ j y, ys[j]? = some y → R j y H) → Q (.ref D) H) : LcG (Its z) (gName slot) tYes te vs σ H1 Q D := by
  refine lc_str (LcP I R D) (.start h0) (fun i c H hc P => ?_) (fun H P => ?_)
  · obtain ⟨hI, acc, hD, hl, hR⟩ := P
    exact ⟨hw _, hs i c hc H acc hI hD hl hR⟩
  · obtain ⟨hI, acc, hD, hl, hR⟩ := P
    exact k H acc hI hD hl hR
theorem lcList {a : Addr} {xs : List V} {slot : Nat} (I : Hp → Prop) (R : Nat → V → Hp → Prop) (hw : ∀ c, wipe ((wipe σ vs).set slot (some c)) vs = wipe σ vs) (h0 : I (upd H1 D (.lst []))) (hS : ∀ H, I H → SqL K H a xs)
    (hs : ∀ i x, xs[i]? = some x → ∀ H acc, I H → H D = some (.lst acc) → acc.length = i → (∀ j y, acc[j]? = some y → R j y H) →
      te ((wipe σ vs).set slot (some x)) H fun y H' => ∃ acc', H' D = some (.lst acc') ∧ acc'.length < sizeLine ∧ LcP I R D (i + 1) (upd H' D (.lst (acc' ++ [y]))))
    (k : ∀ H ys, I H → H D = some (.lst ys) → ys.length = xs.length → (∀ j y, ys[j]? = some y → R j y H) → Q (.ref D) H) : LcG (Itl K a) (gName slot) tYes te vs σ H1 Q D := by
  refine lc_list (K := K) (a := a) (xs := xs) (LcP I R D) (.start h0) (fun i H _ P => hS H P.inv) (fun i x H hx P => ?_) (fun H P => ?_)
  · obtain ⟨hI, acc, hD, hl, hR⟩ := P
    exact ⟨hw _, hs i x hx H acc hI hD hl hR⟩
  · obtain ⟨hI, acc, hD, hl, hR⟩ := P
    exact k H acc hI hD hl hR
theorem lcListG {a : Addr} {xs : List V} (I : Hp → Prop) (R : Nat → V → Hp → Prop) (h0 : I (upd H1 D (.lst []))) (hS : ∀ H, I H → SqL K H a xs)
    (hs : ∀ i x, xs[i]? = some x → ∀ H acc, I H → H D = some (.lst acc) → acc.length = i → (∀ j y, acc[j]? = some y → R j y H) →
      g x (wipe σ vs) H fun σ2 H2 => wipe σ2 vs = wipe σ vs ∧ te σ2 H2 fun y H' => ∃ acc', H' D = some (.lst acc') ∧ acc'.length < sizeLine ∧ LcP I R D (i + 1) (upd H' D (.lst (acc' ++ [y]))))
    (k : ∀ H ys, I H → H D = some (.lst ys) → ys.length = xs.length → (∀ j y, ys[j]? = some y → R j y H) → Q (.ref D) H) : LcG (Itl K a) g tYes te vs σ H1 Q D := by
  refine lc_list (K := K) (a := a) (xs := xs) (LcP I R D) (.start h0) (fun i H _ P => hS H P.inv) (fun i x H hx P => ?_) (fun H P => ?_)
  · obtain ⟨hI, acc, hD, hl, hR⟩ := P
    exact hs i x hx H acc hI hD hl hR
  · obtain ⟨hI, acc, hD, hl, hR⟩ := P
    exact k H acc hI hD hl hR
theorem lcTup {a : Addr} {xs : List V} {slot : Nat} (I : Hp → Prop) (R : Nat → V → Hp → Prop) (hw : ∀ c, wipe ((wipe σ vs).set slot (some c)) vs = wipe σ vs) (h0 : I (upd H1 D (.lst []))) (hS : ∀ H, I H → SqT K H a xs)
    (hs : ∀ i x, xs[i]? = some x → ∀ H acc, I H → H D = some (.lst acc) → acc.length = i → (∀ j y, acc[j]? = some y → R j y H) →
      te ((wipe σ vs).set slot (some x)) H fun y H' => ∃ acc', H' D = some (.lst acc') ∧ acc'.length < sizeLine ∧ LcP I R D (i + 1) (upd H' D (.lst (acc' ++ [y]))))
    (k : ∀ H ys, I H → H D = some (.lst ys) → ys.length = xs.length → (∀ j y, ys[j]? = some y → R j y H) → Q (.ref D) H) : LcG (Itt K a) (gName slot) tYes te vs σ H1 Q D := by
  refine lc_tup (K := K) (a := a) (xs := xs) (LcP I R D) (.start h0) (fun i H _ P => hS H P.inv) (fun i x H hx P => ?_) (fun H P => ?_)
  · obtain ⟨hI, acc, hD, hl, hR⟩ := P
    exact ⟨hw _, hs i x hx H acc hI hD hl hR⟩
  · obtain ⟨hI, acc, hD, hl, hR⟩ := P
    exact k H acc hI hD hl hR
theorem lcRng {n : Nat} {slot : Nat} (I : Hp → Prop) (R : Nat → V → Hp → Prop) (hw : ∀ c, wipe ((wipe σ vs).set slot (some c)) vs = wipe σ vs) (h0 : I (upd H1 D (.lst [])))
    (hs : ∀ i, i < n → ∀ H acc, I H → H D = some (.lst acc) → acc.length = i → (∀ j y, acc[j]? = some y → R j y H) →
      te ((wipe σ vs).set slot (some (.int (0 + i)))) H fun y H' => ∃ acc', H' D = some (.lst acc') ∧ acc'.length < sizeLine ∧ LcP I R D (i + 1) (upd H' D (.lst (acc' ++ [y]))))
    (k : ∀ H ys, I H → H D = some (.lst ys) → ys.length = n → (∀ j y, ys[j]? = some y → R j y H) → Q (.ref D) H) : LcG (Itr 0 n) (gName slot) tYes te vs σ H1 Q D := by
  refine lc_range (lo := 0) (n := n) (LcP I R D) (.start h0) (fun i H hx P => ?_) (fun H P => ?_)
  · obtain ⟨hI, acc, hD, hl, hR⟩ := P
    exact ⟨hw _, hs i hx H acc hI hD hl hR⟩
  · obtain ⟨hI, acc, hD, hl, hR⟩ := P
    exact k H acc hI hD hl hR
theorem lcAdd {I : Hp → Prop} {R : Nat → V → Hp → Prop} {i : Nat} {y : V} {acc : List V} (hD : H1 D = some (.lst acc)) (hl : acc.length = i) (hi : i ≤ 100000) (hI : I (upd H1 D (.lst (acc ++ [y])))) (hR : ∀ j z, acc[j]? = some z → R j z (upd H1 D (.lst (acc ++ [y])))) (hy : R i y (upd H1 D (.lst (acc ++ [y])))) :
    ∃ acc', H1 D = some (.lst acc') ∧ acc'.length < sizeLine ∧ LcP I R D (i + 1) (upd H1 D (.lst (acc' ++ [y]))) := ⟨acc, hD, sz6' (by omega), .next hD hl hI hR hy⟩
end

theorem at_ex {α : Type} {xs : List α} {i : Int} (h0 : 0 ≤ i) (h1 : i < xs.length) : ∃ v, atI xs i = some v ∧ v ∈ xs := by
  have h : i.toNat < xs.length := by omega
  refine ⟨xs[i.toNat], ?_, List.getElem_mem h⟩
  have e : ((i.toNat : Nat) : Int) = i := by omega
  have q := atI_nat (xs := xs) (j := i.toNat) (List.getElem?_eq_getElem h)
  rw [e] at q
  exact q
theorem join_cps : ∀ ys : List Str, (Str.join ⟨#[]⟩ ys).cps.toList = (ys.map fun y => y.cps.toList).flatten
  | [] => rfl
  | [x] => by
    show x.cps.toList = _
    simp
  | x :: y :: r => by
    show ((x.cps ++ #[]) ++ (Str.join ⟨#[]⟩ (y :: r)).cps).toList = _
    rw [Array.toList_append, join_cps (y :: r)]
    simp
/-- texts of one sign, joined -/
theorem join_ones {ys : List V} {P : Nat → Prop} (h : ∀ (j : Nat) y, ys[j]? = some y → ∃ c, P c ∧ y = .str ⟨#[c]⟩) : ∃ cs : List Nat, cs.length = ys.length ∧ (∀ c ∈ cs, P c) ∧ ys = (cs.map fun c => (⟨#[c]⟩ : Str)).map V.str := by
  induction ys with
  | nil => exact ⟨[], rfl, List.forall_mem_nil _, rfl⟩
  | cons y r ih =>
    obtain ⟨c, hc, rfl⟩ := h 0 y rfl
    obtain ⟨cs, h1, h2, h3⟩ := ih fun j z e => h (j + 1) z e
    refine ⟨c :: cs, congrArg Nat.succ h1, fun d hd => ?_, ?_⟩
    · rcases List.mem_cons.mp hd with e | hd
      · rw [e]; exact hc
      · exact h2 d hd
    · rw [h3]
      rfl
theorem ones_cps (cs : List Nat) : (Str.join ⟨#[]⟩ (cs.map fun c => (⟨#[c]⟩ : Str))).cps.toList = cs := by
  rw [join_cps]
  induction cs with
  | nil => rfl
  | cons c r ih =>
    simp only [List.map_cons, List.flatten_cons] at ih ⊢
    rw [ih]
    rfl
theorem ones_sum (cs : List Nat) : ((cs.map fun c => (⟨#[c]⟩ : Str)).map (·.length)).sum = cs.length := by
  induction cs with
  | nil => rfl
  | cons c r ih =>
    simp only [List.map_cons, List.sum_cons] at ih ⊢
    rw [ih]
    show 1 + r.length = r.length + 1
    omega
theorem app_len (x y : Str) : (x ++ y).length = x.length + y.length := by
  show (x.cps ++ y.cps).size = x.cps.size + y.cps.size
  exact Array.size_append
theorem rep_len {u z : Str} {n : Nat} (h : u.cps.toList = (List.replicate n z.cps.toList).flatten) : u.length = n * z.length := by
  show u.cps.size = n * z.cps.size
  rw [← Array.length_toList, h, List.length_flatten, List.map_replicate, List.sum_replicate_nat, Array.length_toList]
theorem all_true {ys : List V} (h : ∀ (j : Nat) y, ys[j]? = some y → y = .bl true) : ∃ bs : List Bool, ys = bs.map V.bl ∧ bs.all id = true := by
  refine ⟨ys.map fun _ => true, ?_, by simp⟩
  rw [List.map_map]
  refine List.ext_getElem? fun j => ?_
  rw [List.getElem?_map]
  cases e : ys[j]? with
  | none => rfl
  | some y => rw [h j y e]; rfl
end Ver
/-! Rules for laws about deeds and books: a tuple beside the empty one, displays of dicts, zips. -/
namespace Ver
open PySem PySem.Spec PyProof.Rows L2
/-- t == (), t any tuple -/
def rEqE (K : PySem.W.Frag) : R2 := fun x y H Q => ∃ a b xs, x = .ref a ∧ y = .ref b ∧ SqT K H a xs ∧ SqT K H b [] ∧ Q (.bl (decide (xs = []))) H
theorem op_eqEV {X : Cx} {K : PySem.W.Frag} (hK : X.K = K) (hu : X.A.units + 64 < cLine) : OpR X (compareOp .Eq) (rEqE K) := by
  subst hK
  intro pins s σ H x y v u Q I rx ry h
  obtain ⟨a, b, xs, rfl, rfl, ha, hb, q⟩ := h
  cases rx
  cases ry
  obtain ⟨its, r1, p1, _⟩ := I.tuple ha
  obtain ⟨its2, r2, p2, _⟩ := I.tuple hb
  cases r2
  refine SeqAt.eq_tupleAt (e := fun _ => true) p1 p2 (by omega) (fun j _ h2 => absurd h2 (by simp)) ⟨.bl (decide (xs = [])), H, I, ?_, q⟩
  have hl := r1.length
  show Value.bool _ = Value.bool _
  congr 1
  cases xs with
  | nil =>
    cases r1
    rfl
  | cons z zs =>
    cases r1 with
    | cons _ _ => simp
theorem call_list_ofV {X : Cx} {K : PySem.W.Frag} (h : X.K = K) : CallR X (.type "list") (fun xs H Q => ∃ p ys, xs = [.ref p] ∧ (SqL K H p ys ∨ SqT K H p ys) ∧ ∀ l, H l = none → Q (.ref l) (upd H l (.lst ys))) := h ▸ call_list_of
theorem call_tuple_ofV {X : Cx} {K : PySem.W.Frag} (h : X.K = K) : CallR X (.type "tuple") (fun xs H Q => ∃ p ys, xs = [.ref p] ∧ ((SqL K H p ys ∧ ∀ l, H l = none → Q (.ref l) (upd H l (.tup ys))) ∨ (SqT K H p ys ∧ Q (.ref p) H))) := h ▸ call_tuple_of
section
variable {K : PySem.W.Frag} {σ : L2.St} {H : Hp} {Q : VK} {td ty te : TE} {trs : List (TE × TE)}
theorem wDGet (k : td σ H fun x H1 => ty σ H1 fun y H2 => ∃ a v, x = .ref a ∧ DGet H2 a y (some v) ∧ Q v H2) : tDGet td ty σ H Q := k
theorem wDIn (k : ty σ H fun y H1 => td σ H1 fun x H2 => ∃ a o, x = .ref a ∧ DGet H2 a y o ∧ Q (.bl o.isSome) H2) : tDIn ty td σ H Q := k
theorem wDNotIn (k : ty σ H fun y H1 => td σ H1 fun x H2 => ∃ a o, x = .ref a ∧ DGet H2 a y o ∧ Q (.bl (!o.isSome)) H2) : tDNotIn ty td σ H Q := k
theorem wPairs {P : List (V × V) → Hp → Prop} {tk tv : TE} (k : tk σ H fun x H1 => tv σ H1 fun y H2 => tPairs trs σ H2 fun ps H3 => P ((x, y) :: ps) H3) : tPairs ((tk, tv) :: trs) σ H P := k
theorem wPairs0 {P : List (V × V) → Hp → Prop} (k : P [] H) : tPairs [] σ H P := k
theorem wPar3 {i j l : Nat} {ta : TA} {D : Ends} (k : ta σ H fun vs H1 => ∃ u v w, vs = [u, v, w] ∧ D.nx (((σ.set i (some u)).set j (some v)).set l (some w)) H1) : tPar3 i j l ta D σ H := k
theorem exThree {u v w : V} {P : V → V → V → Prop} (h : P u v w) : ∃ a b c, [u, v, w] = [a, b, c] ∧ P a b c := ⟨u, v, w, rfl, h⟩
theorem wEqE {a b : Addr} {xs : List V} (h : SqT K H a xs) (h0 : SqT K H b []) (k : Q (.bl (decide (xs = []))) H) : rEqE K (.ref a) (.ref b) H Q := ⟨a, b, xs, rfl, rfl, h, h0, k⟩
end
theorem tuple_mul1 (l : Addr) (items : Array Value) (n : Nat) (dd : Option Addr) (sl : Array (Option Value)) (u : Tok) :
    Meets (Builtin.«tuple.__mul__» ⟨[.ref l, .int 1 u], []⟩) (fun _ R s => s.heap.get? l = some { cls := .type "tuple", dict := dd, data := .seq items n, slots := sl } ∧ R (.ok (.ret (Value.ref l))) s) :=
  .of_wp fun prog w A R s h => by
    obtain ⟨hp, g, d, tk, os⟩ := s
    obtain ⟨hl, h⟩ := h
    have f1 := AutoSeq1.idx_int
    wp_walk using wpAny_loadPart' hl
    exact ⟨_, rfl, h⟩
theorem tuple_mul0 (l : Addr) (items : Array Value) (n : Nat) (dd : Option Addr) (sl : Array (Option Value)) (x : Int) (u : Tok) (c0 : (decide (x < -(2 ^ 63)) || decide (x ≥ 2 ^ 63)) = false) (c1 : (items.isEmpty || x == 1) = false) (c2 : (decide (x ≤ 0) || items.isEmpty) = true) :
    Meets (Builtin.«tuple.__mul__» ⟨[.ref l, .int x u], []⟩) (fun _ R s => s.heap.get? l = some { cls := .type "tuple", dict := dd, data := .seq items n, slots := sl } ∧
      R (.ok (.ret (Value.ref s.heap.objs.size))) { s with heap := s.heap.push { cls := Value.type "tuple", data := Data.seq #[] }, toks := s.toks }) :=
  .of_wp fun prog w A R s h => by
    obtain ⟨hp, g, d, tk, os⟩ := s
    obtain ⟨hl, h⟩ := h
    have f1 := AutoSeq1.idx_int
    wp_walk using wpAny_loadPart' hl
    repeat (first
      | (refine wpAny_ite_false (decide_eq_false (by rw [c0]; exact Bool.false_ne_true)) ?_; wp_walk using wpAny_loadPart' hl)
      | (refine wpAny_ite_false (decide_eq_false (by rw [c1]; exact Bool.false_ne_true)) ?_; wp_walk using wpAny_loadPart' hl)
      | (refine wpAny_ite_true (decide_eq_true c2) ?_; wp_walk using wpAny_loadPart' hl))
    exact ⟨_, rfl, h⟩
/-- a tuple once, or not at all -/
def rRepT01 (K : PySem.W.Frag) : R2 := fun x y H Q => ∃ l k xs, x = .ref l ∧ y = .int k ∧ SqT K H l xs ∧ xs ≠ [] ∧ (k = 1 → Q (.ref l) H) ∧ (k = 0 → ∀ p, H p = none → Q (.ref p) (upd H p (.tup []))) ∧ (k = 0 ∨ k = 1)
theorem op_repT01V {X : Cx} {K : PySem.W.Frag} (hK : X.K = K) : OpR X (binaryOp .Mult) (rRepT01 K) := by
  subst hK
  intro pins s σ H x y v u Q I rx ry h
  obtain ⟨l, k, xs, rfl, rfl, hT, hne, q1, q0, hk⟩ := h
  cases rx
  obtain ⟨t, rfl⟩ := ry
  obtain ⟨its, r, ⟨⟨cls, dd, data, sl⟩, ho, hc, n, hd⟩, hs⟩ := I.tuple hT
  simp only at hc hd
  subst hc hd
  have hn : its.toArray.isEmpty = false := by
    cases r with
    | nil => exact absurd rfl hne
    | cons _ _ => rfl
  rcases hk with rfl | rfl
  · refine wpAny_binaryOp_repeat_ref (T := "tuple") (U := "int") (by decide) ⟨_, ho, rfl⟩ (fun s' => typeIs_int s' 0 t) noFill_tuple_mul F.fills_int_mul F.slot_int_rmul repeat_tuple F.slot_int_index.lookup
      (call_meets F.slot_int_rmul (typeIs_int s 0 t) F.entry_int_rmul (F.args_int_rmul_2 _ _) (int_rmul_tuple 0 t l its.toArray n dd sl)
        ⟨ho, rfl, ⟨_, ho, rfl⟩, call_meets F.slot_tuple_mul ⟨_, ho, rfl⟩ F.entry_tuple_mul (F.args_tuple_mul_2 _ _) (tuple_mul0 l its.toArray n dd sl 0 t (by decide) (by rw [hn]; rfl) (by rfl)) ⟨ho, ?_⟩⟩)
    exact ⟨.ref s.heap.objs.size, _, I.laid (t' := s.toks) (o := .tup []) (fun b ob q => Heap.get?_push_of_some _ q) (Nat.le_refl _) ⟨by show 0 ≤ sizeLine; decide, [], .nil, IsTup.new _ _⟩, rfl, q0 rfl _ (I.hok.fresh (Nat.le_refl _))⟩
  · refine wpAny_binaryOp_repeat_ref (T := "tuple") (U := "int") (by decide) ⟨_, ho, rfl⟩ (fun s' => typeIs_int s' 1 t) noFill_tuple_mul F.fills_int_mul F.slot_int_rmul repeat_tuple F.slot_int_index.lookup
      (call_meets F.slot_int_rmul (typeIs_int s 1 t) F.entry_int_rmul (F.args_int_rmul_2 _ _) (int_rmul_tuple 1 t l its.toArray n dd sl)
        ⟨ho, rfl, ⟨_, ho, rfl⟩, call_meets F.slot_tuple_mul ⟨_, ho, rfl⟩ F.entry_tuple_mul (F.args_tuple_mul_2 _ _) (tuple_mul1 l its.toArray n dd sl t) ⟨ho, ?_⟩⟩)
    exact ⟨.ref l, H, I, rfl, q1 rfl⟩
end Ver
/-! t[::-1] of a tuple. -/
namespace Ver
open PySem PySem.Spec PyProof.Rows L2
section
variable {prog : Program} {w : World} {A : Around} {E : Value → Shared → Prop} {s : Shared}
theorem back_places (n : Nat) : Builtin.Slice.slicePlaces ((n : Int) - 1) (-1) (-1) = n := by
  unfold Builtin.Slice.slicePlaces
  have no : ¬ ((-1 : Int) > 0) := by decide
  by_cases z : n = 0
  · subst z; decide
  · simp only [no, if_false]
    rw [if_pos (by omega), show (- -1 : Int) = 1 by decide, Int.ediv_one]
    omega
theorem back_adjust (n : Nat) : Builtin.Slice.sliceAdjust none none (-1) (n : Int) = ((n : Int) - 1, -1) := by
  unfold Builtin.Slice.sliceAdjust
  first
    | rfl
    | simp
theorem applied_back {sl : Addr} {vl vu vs : Value} {n : Nat} {Q : Int × Int × Nat → Shared → Prop} (sl_at : s.heap.IsSliceOf sl vl vu vs) (pl : IsPart vl none) (pu : IsPart vu none) (ps : IsPart vs (some (-1)))
    (k : Q ((n : Int) - 1, -1, n) s) : wpAny (model prog w) A (Builtin.Slice.sliceApplied (.ref sl) (pure (n : Int))) Q E s := by
  obtain ⟨o, h1, _, h3⟩ := sl_at
  unfold Builtin.Slice.sliceApplied Builtin.Slice.sliceFields
  refine wpAny_bind (wpAny_bind (wpAny_field h1 h3 (x := vl) rfl ?_))
  refine wpAny_bind (wpAny_field h1 h3 (x := vu) rfl ?_)
  refine wpAny_bind (wpAny_field h1 h3 (x := vs) rfl (wpAny_pure ?_))
  refine wpAny_bind (HT.slicePart_ ps ?_)
  show wpAny _ _ (if ((-1 : Int) == 0) = true then _ else _) _ _ s
  rw [if_neg (by decide)]
  refine wpAny_bind (HT.slicePart_ pl ?_)
  refine wpAny_bind (HT.slicePart_ pu (wpAny_bind (wpAny_pure ?_)))
  show wpAny _ _ (match Builtin.Slice.sliceAdjust none none (-1) (n : Int) with | (lo, hi) => pure (lo, (-1 : Int), Builtin.Slice.slicePlaces lo hi (-1))) _ _ s
  rw [back_adjust]
  show wpAny _ _ (pure ((n : Int) - 1, (-1 : Int), Builtin.Slice.slicePlaces ((n : Int) - 1) (-1) (-1))) _ _ s
  rw [back_places]
  exact wpAny_pure k
theorem pick_same {α β : Type} {f g : α → Option β} : ∀ {l : List α}, (∀ a ∈ l, f a = g a) → l.filterMap f = l.filterMap g
  | [], _ => rfl
  | a :: r, h => by
    rw [List.filterMap_cons, List.filterMap_cons, h a List.mem_cons_self, pick_same fun b hb => h b (List.mem_cons_of_mem _ hb)]
theorem back_pick (xs : Array Value) : ((List.range xs.size).filterMap fun (m : Nat) => xs[((xs.size : Int) - 1 + (m : Int) * -1).toNat]?) = xs.toList.reverse := by
  have h := PySem.W.krv_all xs
  rw [← h, ← List.filterMap_reverse, ← PySem.W.krv_range, List.filterMap_map]
  refine pick_same fun m hm => ?_
  have := List.mem_range.mp hm
  have e : ((xs.size : Int) - 1 + (m : Int) * -1).toNat = xs.size - 1 - m := by omega
  show xs[_]? = xs[_]?
  rw [e]
theorem getItem_back {t sl : Addr} {items : Array Value} {vl vu vs : Value} {Q : Value → Shared → Prop} (tup : IsTup s.heap t items) (sl_at : s.heap.IsSliceOf sl vl vu vs) (pl : IsPart vl none) (pu : IsPart vu none) (ps : IsPart vs (some (-1)))
    (k : Q (.ref s.heap.objs.size) { s with heap := s.heap.push { cls := .type "tuple", data := .seq items.toList.reverse.toArray } }) (size : items.size ≤ sizeLine) : wpAny (model prog w) A (getItem (.ref t) (.ref sl)) Q E s := by
  have fits : sizeOk (.seq items.toList.reverse.toArray) := by
    show items.toList.reverse.toArray.size ≤ sizeLine
    simpa using size
  have ty : s.TypeIs (.ref sl) "slice" := sl_at.elim fun o h => ⟨o, h.1, h.2.1⟩
  unfold getItem
  try with_reducible refine wpAny_holding ?_
  try refine wpAny_bind (wpAny_pure ?_)
  refine wpAny_bind (wpAny_sequenceKey tup.typeIs (by decide) ?_)
  have slot := PyProof.Rows.slot_tuple_getitem
  refine wpAny_bind (wpAny_callSpecial?_slot (name := Str.ofString "__getitem__") tup.typeIs slot ?_)
  refine wpAny_call_entry slot tup.typeIs entry_tuple_getitem ?_ (args_tuple_getitem _ _)
  show wpAny _ _ (Builtin.Tuple.tupleItemsOf (.ref t) >>= _) _ _ s
  refine wpAny_bind (tupleItemsOf_ tup (wpAny_bind (wpAny_typeOf ty ?_)))
  rw [if_pos (by decide)]
  refine wpAny_bind (applied_back sl_at pl pu ps ?_)
  have no : ¬ ((((items.size : Int) - 1) == 0 && (-1 : Int) == 1 && items.size == items.size) = true) := by simp
  show wpAny _ _ (if (((items.size : Int) - 1) == 0 && (-1 : Int) == 1 && items.size == items.size) = true then _ else _) _ _ s
  rw [if_neg no, back_pick]
  first
    | exact wpAny_bind (m := Builtin.Tuple.tupleExact _) (wpAny_newObj_type (wpAny_pure ⟨_, rfl, wpAny_pure k⟩) fits)
    | exact wpAny_bind (wpAny_bind (m := Builtin.Tuple.tupleExact _) (wpAny_newObj_type (wpAny_pure ⟨_, rfl, wpAny_pure k⟩) fits))
end
def tRevT (K : PySem.W.Frag) (te : TE) : TE := fun σ H Q => te σ H fun x H1 => ∃ a xs, x = .ref a ∧ SqT K H1 a xs ∧ ∀ p, H1 p = none → Q (.ref p) (upd H1 p (.tup xs.reverse))
theorem pe_revT {X : Cx} {K : PySem.W.Frag} {e : Expr} {te : TE} {k : Nat} {p1 p2 p3 pos : Pos} (hK : X.K = K) (he : PE X e te) : PE X (.Subscript e (.Slice none none (some (.UnaryOp .USub (.Constant (.int 1) k p1) p2)) p3) pos) (tRevT K te) := by
  subst hK
  constructor
  intro pins s σ H Q I want
  refine Subscript_ (thn (he.run pins s σ H _ I want) ?_)
  rintro v s1 ⟨x, H1, I1, r1, a, xs, rfl, at_, q⟩
  cases r1
  have step : PO X (some (.UnaryOp .USub (.Constant (.int 1) k p1) p2)) (tPart (tUn (rU fun i => .int (-i)) (tC (.int 1)))) := po_some (pe_un un_neg pe_int)
  refine wpAny_Slice (thn (po_none.run pins s1 σ H1 (fun o G => o = none ∧ G = H1) I1 ⟨rfl, rfl⟩) ?_)
  rintro vl s2 ⟨_, _, I2, pl, rfl, rfl⟩
  refine thn (po_none.run pins s2 σ _ (fun o G => o = none ∧ G = _) I2 ⟨rfl, rfl⟩) ?_
  rintro vu s3 ⟨_, _, I3, pu, rfl, rfl⟩
  refine thn (step.run pins s3 σ _ (fun o G => o = some (-1) ∧ G = _) I3 ⟨1, rfl, -1, rfl, rfl, rfl⟩) ?_
  rintro vs s4 ⟨_, G, I4, ps, rfl, rfl⟩
  have I5 := I4.kept (t' := s4.toks) (h' := s4.heap.push { cls := .type "slice", data := .fields #[vl, vu, vs] }) fun b o z => Heap.get?_push_of_some _ z
  obtain ⟨its, r, tup, size⟩ := I5.tuple at_
  have len := r.length
  refine tail_any (ops := [.ref a, .ref s4.heap.objs.size]) tup.typeIs (PyProof.Rows.slot_tuple_getitem.lookup) ?_ (by with_unfolding_all rfl)
  refine getItem_back tup (Heap.IsSliceOf.new _ vl vu vs) pl pu ps ?_ (by rw [List.size_toArray]; omega)
  refine ⟨.ref _, _, I5.laid (t' := s4.toks) (o := .tup xs.reverse) (fun b o z => Heap.get?_push_of_some _ z) (Nat.le_refl _) ?_, rfl, q _ (I5.hok.fresh (Nat.le_refl _))⟩
  exact ⟨by rw [List.length_reverse]; exact size, its.reverse, r.reverse, IsTup.new _ _⟩
end Ver
/-! What repr shows of nested things, and the defs that are run where no repr is under way. -/
namespace Ver
open PySem PySem.Spec PyProof.Rows L2

/-! ### what repr shows -/
mutual
/-- v is shown as d: l tells whether lists may stand in it (else dicts may), k bounds its depth, n the length of its text -/
inductive Rp (H : Hp) (l : Bool) : Nat → V → PyData → Nat → Prop
  | non {k} : Rp H l k .non .none 4
  | bl {k} (b : Bool) : Rp H l k (.bl b) (.bool b) 5
  | int {k} (i : Int) (h : i.natAbs < 10 ^ 300) : Rp H l k (.int i) (.int i) 301
  | str {k} (z : Str) (h : ∀ c ∈ z.cps.toList, c < 16 ^ 8) : Rp H l k (.str z) (.str z) (10 * z.length + 2)
  | tup {k a xs ds n} : H a = some (.tup xs) → RpA H l k xs ds n → Rp H l (k + 1) (.ref a) (.tuple ds) (n + 4)
  | lst {k a xs ds n} : l = true → H a = some (.lst xs) → RpA H l k xs ds n → Rp H l (k + 1) (.ref a) (.list ds) (n + 4)
  | dct {k a kvs ds n} : l = false → H a = some (.dK kvs) → RpD H l k kvs ds n → Rp H l (k + 1) (.ref a) (.dict ds) (n + 4)
inductive RpA (H : Hp) (l : Bool) : Nat → List V → List PyData → Nat → Prop
  | nil {k} : RpA H l k [] [] 0
  | cons {k x d n xs ds m} : Rp H l k x d n → RpA H l k xs ds m → RpA H l k (x :: xs) (d :: ds) (n + 2 + m)
inductive RpD (H : Hp) (l : Bool) : Nat → List (Key × V) → List (PyData × PyData) → Nat → Prop
  | nil {k} : RpD H l k [] [] 0
  | cons {k y e o x d n xs ds m} : Rp H l k (kV y) e o → Rp H l k x d n → RpD H l k xs ds m → RpD H l k ((y, x) :: xs) ((e, d) :: ds) (o + 2 + n + 2 + m)
end

theorem tupleText_le (ts : List Str) : (tupleText ts).length ≤ piled ts + 4 := by
  unfold tupleText
  rw [strLen_append, strLen_append]
  have e1 : ((("(" : String) : Str)).length = 1 := rfl
  have e2 : (((if ts.length == 1 then ",)" else ")" : String) : Str)).length ≤ 2 := by split <;> decide
  cases ts with
  | nil =>
    have e3 : (Str.join ", " []).length = 0 := rfl
    omega
  | cons t r =>
    have e3 := join_length_add (t :: r) (by simp)
    omega
theorem dictText_le (ts : List Str) : (dictText ts).length ≤ piled ts + 4 := by
  unfold dictText
  rw [strLen_append, strLen_append]
  have e1 : ((("{" : String) : Str)).length = 1 := rfl
  have e2 : ((("}" : String) : Str)).length = 1 := rfl
  cases ts with
  | nil =>
    have e3 : (Str.join ", " []).length = 0 := rfl
    omega
  | cons t r =>
    have e3 := join_length_add (t :: r) (by simp)
    omega
theorem listText_le : ∀ ts : List Str, (listText ts).length ≤ piled ts + 4
  | [] => by rw [listText_nil]; decide
  | t :: r => by
    have h := textFrom_length_pos r 1 (("[" : Str) ++ ("" : String) ++ t) (Nat.succ_pos 0)
    have e : (("[" : Str) ++ ("" : String) ++ t).length = 1 + t.length := by
      rw [strLen_append, strLen_append]
      rfl
    have q : (listText (t :: r)).length = (textFrom 1 (("[" : Str) ++ ("" : String) ++ t) r).length + 1 := by
      unfold listText
      rw [strLen_append]
      rfl
    rw [q, h, e, piled_cons]
    omega
mutual
theorem Rp.ex {H G : Hp} {l : Bool} (e : Ex H G) : ∀ {k : Nat} {v : V} {d : PyData} {n : Nat}, Rp H l k v d n → Rp G l k v d n
  | _, _, _, _, .non => .non
  | _, _, _, _, .bl b => .bl b
  | _, _, _, _, .int i h => .int i h
  | _, _, _, _, .str z h => .str z h
  | _, _, _, _, .tup h q => .tup (e _ _ h) (RpA.ex e q)
  | _, _, _, _, .lst f h q => .lst f (e _ _ h) (RpA.ex e q)
  | _, _, _, _, .dct f h q => .dct f (e _ _ h) (RpD.ex e q)
theorem RpA.ex {H G : Hp} {l : Bool} (e : Ex H G) : ∀ {k : Nat} {xs : List V} {ds : List PyData} {n : Nat}, RpA H l k xs ds n → RpA G l k xs ds n
  | _, _, _, _, .nil => .nil
  | _, _, _, _, .cons q t => .cons (Rp.ex e q) (RpA.ex e t)
theorem RpD.ex {H G : Hp} {l : Bool} (e : Ex H G) : ∀ {k : Nat} {xs : List (Key × V)} {ds : List (PyData × PyData)} {n : Nat}, RpD H l k xs ds n → RpD G l k xs ds n
  | _, _, _, _, .nil => .nil
  | _, _, _, _, .cons p q t => .cons (Rp.ex e p) (Rp.ex e q) (RpD.ex e t)
end
/-- v is shown by a text of at most n signs, at most k deep -/
def Sh (H : Hp) (l : Bool) (k n : Nat) (v : V) : Prop := ∃ d m, Rp H l k v d m ∧ m ≤ n
section
variable {H : Hp} {l : Bool} {k n : Nat}
theorem Sh.ex {G : Hp} {v : V} (h : Sh H l k n v) (e : Ex H G) : Sh G l k n v := h.elim fun d h => h.elim fun m h => ⟨d, m, h.1.ex e, h.2⟩
theorem Sh.le {m : Nat} {v : V} (h : Sh H l k n v) (q : n ≤ m) : Sh H l k m v := h.elim fun d h => h.elim fun a h => ⟨d, a, h.1, Nat.le_trans h.2 q⟩
theorem sh_all : ∀ {xs : List V}, (∀ x ∈ xs, Sh H l k n x) → ∃ ds m, RpA H l k xs ds m ∧ m ≤ xs.length * (n + 2)
  | [], _ => ⟨_, _, .nil, by simp⟩
  | x :: xs, h => by
    obtain ⟨d, m, q, hm⟩ := h x List.mem_cons_self
    obtain ⟨ds, ms, t, ht⟩ := sh_all (xs := xs) fun y hy => h y (List.mem_cons_of_mem _ hy)
    refine ⟨_, _, .cons q t, ?_⟩
    rw [List.length_cons, Nat.succ_mul]
    omega
theorem Sh.non : Sh H l k 4 .non := ⟨_, _, .non, Nat.le_refl _⟩
theorem Sh.bl {b : Bool} : Sh H l k 5 (.bl b) := ⟨_, _, .bl b, Nat.le_refl _⟩
theorem Sh.int {i : Int} (h : i.natAbs < 10 ^ 300) : Sh H l k 301 (.int i) := ⟨_, _, .int i h, Nat.le_refl _⟩
theorem Sh.str {z : Str} (h : ∀ c ∈ z.cps.toList, c < 16 ^ 8) : Sh H l k (10 * z.length + 2) (.str z) := ⟨_, _, .str z h, Nat.le_refl _⟩
theorem Sh.tup {a : Addr} {xs : List V} (h : H a = some (.tup xs)) (q : ∀ x ∈ xs, Sh H l k n x) : Sh H l (k + 1) (xs.length * (n + 2) + 4) (.ref a) := by
  obtain ⟨ds, m, r, hm⟩ := sh_all q
  exact ⟨_, _, .tup h r, by omega⟩
theorem Sh.lst {a : Addr} {xs : List V} (h : H a = some (.lst xs)) (q : ∀ x ∈ xs, Sh H true k n x) : Sh H true (k + 1) (xs.length * (n + 2) + 4) (.ref a) := by
  obtain ⟨ds, m, r, hm⟩ := sh_all q
  exact ⟨_, _, .lst rfl h r, by omega⟩
theorem Sh.dct0 {a : Addr} (h : H a = some (.dK [])) : Sh H false (k + 1) 4 (.ref a) := ⟨_, _, .dct rfl h .nil, by omega⟩
theorem Sh.dct1 {a : Addr} {z : Str} {i : Int} (h : H a = some (.dK [(.inr z, .int i)])) (hz : ∀ c ∈ z.cps.toList, c < 16 ^ 8) (hi : i.natAbs < 10 ^ 300) : Sh H false (k + 1) (10 * z.length + 400) (.ref a) :=
  ⟨_, _, .dct rfl h (.cons (.str z hz) (.int i hi) .nil), by omega⟩
/-- a text is written with signs that there are -/
theorem signs_ok {z : Str} (h : (z.cps.toList.all fun c => decide (c < 16 ^ 8)) = true) : ∀ c ∈ z.cps.toList, c < 16 ^ 8 := fun c hc => of_decide_eq_true (List.all_eq_true.mp h c hc)
end
theorem log_small {i : Int} (h : i.natAbs < 10 ^ 300) : i.natAbs.log2 < 1920 := by
  by_cases q : i.natAbs = 0
  · rw [q]; decide
  · refine (Nat.log2_lt q).mpr (Nat.lt_trans h ?_)
    decide +kernel
theorem key_shape {y : Key} {u : Value} (h : keyIs y u = true) : RelV (kV y) u := by
  rcases keyIs_shape h with ⟨i, t, rfl, rfl⟩ | ⟨z, t, rfl, rfl⟩
  · exact ⟨t, rfl⟩
  · exact ⟨t, rfl⟩

section
variable {P : Program} {w : World} {H : Hp} {h : Heap} {l : Bool}
mutual
theorem Rp.reads (ok : HOk P w H h) : ∀ {k : Nat} {v : V} {d : PyData} {n : Nat} {u : Value}, Rp H l k v d n → RelV v u → ∃ as, Reads h u d as ∧ (l = false → sysModules ∉ as)
  | _, _, _, _, u, .non, r => by
    cases (show u = Value.none from r)
    exact ⟨_, .none, fun _ => by simp⟩
  | _, _, _, _, u, .bl b, r => by
    cases (show u = Value.bool b from r)
    exact ⟨_, .bool b, fun _ => by simp⟩
  | _, _, _, _, u, .int i _, r => by
    obtain ⟨t, rfl⟩ := (show ∃ t, u = Value.int i t from r)
    exact ⟨_, .int i t, fun _ => by simp⟩
  | _, _, _, _, u, .str z _, r => by
    obtain ⟨t, rfl⟩ := (show ∃ t, u = Value.str z t from r)
    exact ⟨_, .str z t, fun _ => by simp⟩
  | _, _, _, _, u, .tup (a := a) e q, r => by
    cases (show u = Value.ref a from r)
    obtain ⟨_, its, rv, o, h1, h2, m, h3⟩ := (show ObjOk P w H h a (.tup _) from ok a _ e)
    obtain ⟨as, q1, q2⟩ := RpA.reads ok q rv
    exact ⟨as, .tuple h1 h2 h3 (by simpa using q1), q2⟩
  | _, _, _, _, u, .lst (a := a) hl e q, r => by
    cases (show u = Value.ref a from r)
    obtain ⟨_, its, m, rv, h1⟩ := (show ObjOk P w H h a (.lst _) from ok a _ e)
    obtain ⟨as, q1, q2⟩ := RpA.reads ok q rv
    exact ⟨_, .list h1 rfl rfl (by simpa using q1), fun z => by rw [hl] at z; cases z⟩
  | _, _, _, _, u, .dct (a := a) hl e q, r => by
    cases (show u = Value.ref a from r)
    obtain ⟨_, hn, vs, kv, o, es, ep, h1, h2, h3, _, h5, _⟩ := (show ObjOk P w H h a (.dK _) from ok a _ e)
    obtain ⟨as, bs, q1, q2, q3⟩ := RpD.reads ok q kv h5
    refine ⟨_, .dict h1 h2.1 h3 q1 q2, fun z => ?_⟩
    have q4 := q3 z
    intro hm
    rcases List.mem_append.mp hm with hm | hm
    · rcases List.mem_cons.mp hm with hm | hm
      · rw [← hm] at hn
        simp at hn
      · exact q4.1 hm
    · exact q4.2 hm
theorem RpA.reads (ok : HOk P w H h) : ∀ {k : Nat} {xs : List V} {ds : List PyData} {n : Nat} {us : List Value}, RpA H l k xs ds n → Vals xs us → ∃ as, ReadsAll h us ds as ∧ (l = false → sysModules ∉ as)
  | _, _, _, _, _, .nil, r => by
    cases r
    exact ⟨_, .nil, fun _ => by simp⟩
  | _, _, _, _, _, .cons q t, r => by
    cases r with
    | cons r1 r2 =>
      obtain ⟨as, q1, q2⟩ := Rp.reads ok q r1
      obtain ⟨bs, t1, t2⟩ := RpA.reads ok t r2
      exact ⟨_, .cons q1 t1, fun z => by
        rw [List.mem_append]
        exact fun y => y.elim (q2 z) (t2 z)⟩
theorem RpD.reads (ok : HOk P w H h) : ∀ {k : Nat} {kvs : List (Key × V)} {ds : List (PyData × PyData)} {n : Nat} {vs : List (Key × Value)} {es : List DictEntry}, RpD H l k kvs ds n → KV kvs vs → Pairs (mixKind P w) es vs →
    ∃ as bs, ReadsAll h (es.map (·.key)) (ds.map (·.1)) as ∧ ReadsAll h (es.map (·.val)) (ds.map (·.2)) bs ∧ (l = false → sysModules ∉ as ∧ sysModules ∉ bs)
  | _, _, _, _, _, _, .nil, r, p => by
    cases r
    cases p
    exact ⟨_, _, .nil, .nil, fun _ => by simp⟩
  | _, _, _, _, _, _, .cons q1 q2 t, r, p => by
    cases r with
    | cons r1 r2 =>
      cases p with
      | cons p1 p2 p3 =>
        rename_i _ kv0 _ _ _
        obtain ⟨k0, v0⟩ := kv0
        obtain ⟨e1, e2⟩ := r1
        dsimp only at e1 e2 p1 p2
        obtain ⟨as, s1, s2⟩ := Rp.reads ok q1 (key_shape (y := _) (by rw [e1]; exact p1))
        subst p2
        obtain ⟨bs, s3, s4⟩ := Rp.reads ok q2 e2
        obtain ⟨cs, gs, s5, s6, s7⟩ := RpD.reads ok t r2 p3
        refine ⟨_, _, .cons s1 s5, .cons s3 s6, fun z => ⟨?_, ?_⟩⟩
        · rw [List.mem_append]
          exact fun y => y.elim (s2 z) (s7 z).1
        · rw [List.mem_append]
          exact fun y => y.elim (s4 z) (s7 z).2
end
end
section
variable {H : Hp} {l : Bool}
mutual
theorem Rp.able : ∀ {k : Nat} {v : V} {d : PyData} {n : Nat}, Rp H l k v d n → d.showable = true ∧ (d.hasDict = true → l = false) ∧ d.depth ≤ k ∧ d.shown.length ≤ n
  | _, _, _, _, .non => ⟨by simp [PyData.showable], by simp [PyData.hasDict], by simp [PyData.depth], by simp only [PyData.shown]; decide⟩
  | _, _, _, _, .bl b => ⟨by simp [PyData.showable], by simp [PyData.hasDict], by simp [PyData.depth], by simp only [PyData.shown]; cases b <;> decide⟩
  | _, _, _, _, .int i hi => ⟨by simp only [PyData.showable]; exact decide_eq_true (log_small hi), by simp [PyData.hasDict], by simp [PyData.depth], by
      simp only [PyData.shown]
      show (Str.ofString (toString i)).length ≤ 301
      rw [PySem.ofString_length]
      exact int_text_length_le10 (by decide) hi⟩
  | _, _, _, _, .str z hz => ⟨by simp [PyData.showable], by simp [PyData.hasDict], by simp [PyData.depth], by
      simp only [PyData.shown]
      exact StrLaws.reprText_len z hz⟩
  | _, _, _, _, .tup e q => by
    obtain ⟨h1, h2, h3, h4⟩ := q.able
    refine ⟨by simpa only [PyData.showable] using h1, by simpa only [PyData.hasDict] using h2, by simp only [PyData.depth]; omega, ?_⟩
    simp only [PyData.shown]
    refine Nat.le_trans (tupleText_le _) ?_
    omega
  | _, _, _, _, .lst hl e q => by
    obtain ⟨h1, h2, h3, h4⟩ := q.able
    refine ⟨by simpa only [PyData.showable] using h1, by simpa only [PyData.hasDict] using h2, by simp only [PyData.depth]; omega, ?_⟩
    simp only [PyData.shown]
    refine Nat.le_trans (listText_le _) ?_
    omega
  | _, _, _, _, .dct hl e q => by
    obtain ⟨h1, h3, h4⟩ := q.able
    refine ⟨by simpa only [PyData.showable] using h1, fun _ => hl, by simp only [PyData.depth]; omega, ?_⟩
    simp only [PyData.shown]
    refine Nat.le_trans (dictText_le _) ?_
    omega
theorem RpA.able : ∀ {k : Nat} {xs : List V} {ds : List PyData} {n : Nat}, RpA H l k xs ds n → PyData.showableAll ds = true ∧ (PyData.hasDictAll ds = true → l = false) ∧ PyData.depthAll ds ≤ k ∧ piled (PyData.shownAll ds) ≤ n
  | _, _, _, _, .nil => ⟨by simp [PyData.showableAll], by simp [PyData.hasDictAll], by simp [PyData.depthAll], by simp [PyData.shownAll, piled]⟩
  | _, _, _, _, .cons q t => by
    obtain ⟨h1, h2, h3, h4⟩ := q.able
    obtain ⟨g1, g2, g3, g4⟩ := t.able
    refine ⟨by simp only [PyData.showableAll, h1, g1, Bool.and_self], fun z => ?_, by simp only [PyData.depthAll]; omega, ?_⟩
    · simp only [PyData.hasDictAll, Bool.or_eq_true] at z
      exact z.elim h2 g2
    · simp only [PyData.shownAll]
      rw [piled_cons]
      omega
theorem RpD.able : ∀ {k : Nat} {kvs : List (Key × V)} {ds : List (PyData × PyData)} {n : Nat}, RpD H l k kvs ds n → PyData.showableKv ds = true ∧ PyData.depthKv ds ≤ k ∧ piled (PyData.shownKv ds) ≤ n
  | _, _, _, _, .nil => ⟨by simp [PyData.showableKv], by simp [PyData.depthKv], by simp [PyData.shownKv, piled]⟩
  | _, _, _, _, .cons q1 q2 t => by
    obtain ⟨h1, _, h3, h4⟩ := q1.able
    obtain ⟨f1, _, f3, f4⟩ := q2.able
    obtain ⟨g1, g3, g4⟩ := t.able
    refine ⟨by simp only [PyData.showableKv, h1, f1, g1, Bool.and_self], by simp only [PyData.depthKv]; omega, ?_⟩
    simp only [PyData.shownKv]
    rw [piled_cons, strLen_append, strLen_append]
    have e : ((": " : String) : Str).length = 2 := rfl
    omega
end
end

/-! ### defs that are run where no repr is under way -/
/-- room for k more levels, and no repr under way -/
structure Quiet (k : Nat) (A : Around) : Prop where
  room : Room k A
  still : A.guards = some []
theorem Quiet.mono {j k : Nat} {A : Around} (q : Quiet k A) (h : j ≤ k) : Quiet j A := ⟨q.room.mono h, q.still⟩
theorem Quiet.in {k : Nat} {A : Around} (q : Quiet (k + 1) A) (e : Env) : Quiet k (A.deeper e) := ⟨q.room.deeper e, q.still⟩

section
variable (P : Program) (w : World) (K : PySem.W.Frag) (mg : Str → Option Value) (base : Heap) (C : CXT)
/-- a def's promise, kept wherever it is quiet -/
structure FnQ (k : Nat) (f : Addr) (fd : FuncData) (ps : List Str) (sp : Sp) : Prop where
  arity : ∀ vs H Q E, sp vs H Q E → vs.length = ps.length
  goes : ∀ {A : Around} {outer : List Env} {s : Shared} {H : Hp} {args : Args} {us : List Value} {vs : List V} {Q : VK} {E : XK},
    Quiet k A → Env0 P w K mg base A outer s H → BindsTo s fd args (ps.zip us) → Vals vs us → sp vs H Q E →
      codeAny (model P w) A (.call (.ref f) args) (CR C outer P w H s Q E) s
end

section
variable {P : Program} {w : World} {K : PySem.W.Frag} {mg : Str → Option Value} {base : Heap} {C : CXT} {k : Nat} {f : Addr} {ps N : List Str} {sp : Sp}
/-- what a def's body has come to when it is left -/
theorem left_CE {X : Cx} {σ : L2.St} {H : Hp} {s' : Shared} {Q : VK} {v : V} {u : Value} (I : Inv X [] σ H s') (hx : X.ex = []) (r : RelV v u) (q : Q v H) : CE X.outer X.prog X.w X.H_0 X.s_0 Q u s' :=
  ⟨v, H, I.os, I.bare, by
    have z := I.base
    rw [hx] at z
    exact z, I.hok, r, q⟩
theorem quietFn {x qual : Str} {par : Arguments} {body : List Stmt} {sc : Scope} {dV kV doc pm cdv ct oc : Value} {an od : Option Addr} {osl : Array (Option Value)}
    (lk : K.lookup f = some ⟨oc, od, .func (PySem.W.fnOf x qual par body sc dV kV doc pm an cdv ct), osl⟩) (code : PySem.W.codeIn K cdv qual = true) (S : FnScope N ps sc)
    (arity : ∀ vs H Q E, sp vs H Q E → vs.length = ps.length)
    (reads : ∀ (A : Around) (outer : List Env) (s : Shared) (H : Hp) (vs : List V) (Q : VK) (E : XK), Quiet k (A.deeper (envOfC qual sc s.heap.objs.size f cdv)) → sp vs H Q E →
      ∃ t, PSs (cxOf C P w K mg base N qual sc f cdv A outer s H E) body t ∧ t { nx := fun _ H1 => Q .non H1, rt := Q } (start N vs) H) :
    FnQ P w K mg base C (k + 1) f (PySem.W.fnOf x qual par body sc dV kV doc pm an cdv ct) ps sp := by
  constructor
  · exact arity
  · intro A outer s H args us vs Q E quiet e0 bind rel want
    have count := arity _ _ _ _ want
    have same : ∀ b o, base.get? b = some o → s.heap.get? b = some o := fun b o e => (e0.bs b o e).1
    have inK := e0.mod.kin.keeps same
    have nolim := e0.mod.nolimit.keeps same
    have kinds : ∀ y ∈ ps.zip us, sc.names.lookup y.1 = some .local ∨ (sc.names.lookup y.1 = some .cell ∧ ((cellsFrom (s.heap.objs.size + 1) sc.names []).lookup y.1).isSome = true) := by
      rintro ⟨n, v⟩ hy
      refine (S.par n (List.of_mem_zip hy).1).imp id fun q => ⟨q, ?_⟩
      exact PySem.W.cellsFrom_some _ _ _ (.inl q)
    refine codeAny_call_function quiet.room.depth (inK _ _ lk) rfl S.co S.gen rfl (PySem.W.codeRec_of inK code) (bind _ _ _ _ ?_)
    refine wpAny_newFunctionEnv_cells S.kind kinds fun e he s1 x1 => ?_
    subst he
    refine ⟨nolim.keeps x1.toInCall.keep, codeAny_func ?_⟩
    obtain ⟨t, ht, hq⟩ := reads A outer s H vs Q E (quiet.in _) want
    have I0 := inv_start (CX := C) (E := E) S quiet.room.hd e0 count rel x1
    refine wpAny_mono (ht.run [] s1 _ H _ I0 hq) ?_ (fun e s2 h => h)
    intro fl s2 h
    match fl, h with
    | .ret u, h =>
      obtain ⟨v, σ1, H1, J, rv, q⟩ := h
      exact left_CE J rfl rv q
    | .next, h =>
      obtain ⟨σ1, H1, J, q⟩ := h
      exact left_CE (v := .non) (u := .none) J rfl rfl q
    | .brk, h =>
      obtain ⟨_, _, _, q⟩ := h
      exact q.elim
    | .cont, h =>
      obtain ⟨_, _, _, q⟩ := h
      exact q.elim
end

section
variable {X : Cx} {C : CXT} {k : Nat} {f : Addr} {fd : FuncData} {ps : List Str} {sp : Sp} {E : XK} {x : Str} {e : Expr} {es : List Expr} {p pos : Pos} {t : TA}
/-- f(e, ..), f such a def, all its arguments by place -/
theorem pe_callQ (F : FnQ X.prog X.w X.K X.mg X.base C k f fd ps sp) (quiet : Quiet k X.A) (hg : Gl X x) (hm : X.mg x = some (.ref f)) (hk : PySem.W.keepIn X.K (.ref f) = true) (hb : Binds X.K fd ps []) (hx : Passes C X E)
    (ha : PA X (e :: es) t) (hd : (x == ("__debug__" : Str)) = false := by decide) (he : starEach (e :: es) X.env = (false, eval e X.env) :: starEach es X.env := by rfl) (hp : (backTo pos (starEach es X.env)).any (·.1) = false := by rfl) :
    PE X (.Call (.Name x p) (e :: es) [] pos) (tCall sp [] E t) := by
  constructor
  intro pins s σ H Q I want
  refine wpAny_Call_Name_kw (ld_glob I hg hm ?_ hd)
  refine PySem.W.callWith_K (h₀ := X.base) I.ok.mod.kin hk (thn (ha.run pos pins s σ H _ I want) ?_) he hp
  rintro us s1 ⟨vs, H1, I1, rel, q⟩
  refine ⟨I1.kIn, ?_⟩
  rw [List.append_nil] at q
  have count := F.arity _ _ _ _ q
  have bind := hb s1 us I1.kIn (by rw [List.append_nil, ← rel.length]; exact count)
  rw [List.append_nil] at bind
  refine wpAny_call (codeAny_mono (F.goes quiet I1.env0 bind rel q) ?_)
  intro r s2 h
  match r, h with
  | .error z, h => exact hx pins σ H1 s1 z s2 I1 h
  | .ok (.ret u), h => exact I1.after h
  | .ok .next, h => exact h.elim
  | .ok .brk, h => exact h.elim
  | .ok .cont, h => exact h.elim
end

/-- the rule for a def of the text that is run where no repr is under way -/
theorem okQ {P : Program} {w : World} {K : PySem.W.Frag} {mg : Str → Option Value} {base : Heap} {x qual : Str} {st : Stmt} {f : Addr} {fd : FuncData} {N ps : List Str} {k : Nat} {sp : Sp} (F : Fun K x qual st f fd) (S : FnScope N ps (defScope st))
    (arity : ∀ vs H Q E, sp vs H Q E → vs.length = ps.length)
    (reads : ∀ (cdv : Value) (A : Around) (outer : List Env) (s : Shared) (H : Hp) (vs : List V) (Q : VK) (E : XK), Quiet k (A.deeper (envOfC qual (defScope st) s.heap.objs.size f cdv)) → sp vs H Q E →
      ∃ t, PSs (cxOf CX0 P w K mg base N qual (defScope st) f cdv A outer s H E).nox (defBody st) t ∧ t { nx := fun _ H1 => Q .non H1, rt := Q } (start N vs) H) : FnQ P w K mg base CX0 (k + 1) f fd ps sp := by
  obtain ⟨_, _, _, _, _, _, cdv, _, _, rfl, lk, code⟩ := F.ex
  refine quietFn lk code S arity fun A outer s H vs Q E quiet want => ?_
  obtain ⟨t, h, q⟩ := reads cdv A outer s H vs Q E quiet want
  exact ⟨t, h.nox, q⟩

/-! ### repr -/
/-- what is handed to repr is shown so -/
def rRepr : List V → Hp → VK → Prop := fun xs H Q => ∃ v l d n, xs = [v] ∧ Rp H l 64 v d n ∧ n ≤ 10000000 ∧ Q (.str d.shown) H
theorem call_repr {X : Cx} {k : Nat} (quiet : Quiet k X.A) : CallR X (.builtin "repr") rRepr := by
  have still := quiet.still
  have room : X.A.units + 65 < cLine := by have := quiet.room.un; omega
  intro pins s σ H xs us Q I rel want
  obtain ⟨v, l, d, n, rfl, rp, hn, q⟩ := want
  obtain ⟨u, rfl, r⟩ := vals1 rel
  obtain ⟨a1, a2, a3, a4⟩ := rp.able
  have size : d.shown.length ≤ sizeLine := by
    have : (10000000 : Nat) ≤ sizeLine := by decide
    omega
  obtain ⟨as, rd, hs⟩ := rp.reads I.hok r
  have done : ∀ tk tk', EP X pins σ Q (.str d.shown tk) { s with toks := tk' } := fun tk tk' => ⟨.str d.shown, H, I.tok _, ⟨_, rfl⟩, q⟩
  have deep : ∀ {a : Addr}, Reads s.heap (.ref a) d as → wpAny (model X.prog X.w) X.A (call (.builtin "repr") [.ref a]) (EP X pins σ Q) X.xe s := fun {a} rd => by
    refine repr_of_reads' (h₀ := s.heap) rd a1 (fun z => hs (a2 z)) still (by omega) (fun _ _ z => z) (fun h' u tk keep => ?_) size
    exact ⟨.str d.shown, H, I.kept keep, ⟨_, rfl⟩, q⟩
  cases rd with
  | none => exact PySem.P.repr_of_none (done _ _)
  | bool b => exact PySem.P.repr_of_bool (done _ _)
  | int i t => exact PySem.P.repr_of_int (by simpa [PyData.showable] using a1) (done _ _)
  | str z t => exact PySem.P.repr_of_str (done _ _) size
  | list h1 h2 h3 h4 => exact deep (.list h1 h2 h3 h4)
  | tuple h1 h2 h3 h4 => exact deep (.tuple h1 h2 h3 h4)
  | dict h1 h2 h3 h4 h5 => exact deep (.dict h1 h2 h3 h4 h5)

/-! ### the law's end -/
section
variable {P : Program} {w : World} {K : PySem.W.Frag} {mg mb : Str → Option Value} {C : CXT} {k : Nat} {fa a : Addr} {fd : FuncData} {x : Str} {sp : Sp} {s1 : Shared} {vs : List Value} {ns : List Int}
/-- what a law's call must come to -/
def EndOk (s1 : Shared) (r : Result) (s2 : Shared) : Prop := r = .ok (.ret (.bool true)) ∧ OldK s1.heap s2.heap ∧ s2.os = s1.os ∧ AllBare s2.gens
theorem quiet_from (H : Hp) (inK : K.In s1.heap) (gl : s1.heap.Ns mainGlobals mg) (bn : s1.heap.Ns builtinsNs mb) (bb : ∀ y : Str, y ≠ "__name__" → mb y = bootBuiltins y) (nl : s1.heap.NoLimit) (gens : s1.gens = #[])
    (obj : s1.heap.get? a = some { cls := .type "list", data := .seq vs.toArray }) (quiet : Quiet k callerA)
    (F : ∀ base : Heap, K.In base → base.Ns mainGlobals mg → FnQ P w K mg base C k fa fd [x] sp) (bind : ∀ (s : Shared) (u : Value), BindsTo s fd ⟨[u], []⟩ [(x, u)])
    (only : Only H) (begin_ : sp [.ref a] H (fun v _ => v = .bl true) fun _ _ _ => False) (never : ∀ H e s', C [] H s1 (fun _ _ _ => False) e s' → False)
    (hok : HOk P w H s1.heap) (just : ∀ b, H b ≠ none → b = a) (notK : H a ≠ none → K.lookup a = none) :
    codeAny (model P w) callerA (.call (.ref fa) ⟨[.ref a], []⟩) (EndOk s1) s1 := by
  have free : ∀ {b : Addr}, b ≠ a → H b = none := fun {b} n => by
    cases e : H b with
    | none => rfl
    | some o => exact absurd (just b (by rw [e]; exact Option.some_ne_none o)) n
  have names : ∀ {b : Addr} {m : Str → Option Value}, s1.heap.Ns b m → (hidT s1.heap H).Ns b m := by
    rintro b m ⟨o, es, ep, e, d, r⟩
    refine ⟨o, es, ep, hidT_get e (free ?_), d, r⟩
    rintro rfl
    rw [obj] at e
    cases e
    exact nomatch (show Data.seq vs.toArray _ = Data.dict es ep from d)
  have inB : K.In (hidT s1.heap H) := fun b o e => by
    refine hidT_get (inK b o e) ?_
    by_cases z : b = a
    · subst z
      cases q : H b with
      | none => rfl
      | some u =>
        have z := notK (by rw [q]; exact Option.some_ne_none u)
        rw [e] at z
        cases z
    · exact free z
  have mod : Mod K mg (hidT s1.heap H) := ⟨inB, names gl, ⟨mb, names bn, bb⟩, nl.elim fun mc z => ⟨mc, names z.1, z.2⟩⟩
  have none_ : ∀ b ∈ frs ([] : List Env), H b = none := fun b z => nomatch (show b ∈ ([] : List Addr) from z)
  have e0 : Env0 P w K mg (hidT s1.heap H) callerA [] s1 H := ⟨rfl, mod, fun _ _ e => of_hidT e, Nat.le_of_eq (hidT_size _ _), trivial, none_, hok, .of_eq gens⟩
  refine codeAny_mono ((F _ inB (names gl)).goes (us := [.ref a]) (vs := [.ref a]) quiet e0 (bind s1 (.ref a)) (.cons rfl .nil) begin_) ?_
  intro r s2 h
  match r, h with
  | .error e, h => exact (never H e s2 h).elim
  | .ok .next, h => exact h.elim
  | .ok .brk, h => exact h.elim
  | .ok .cont, h => exact h.elim
  | .ok (.ret u), h =>
    obtain ⟨v, H2, os, bare, un, hok2, rel, yes⟩ := h
    cases yes
    cases (show u = Value.bool true from rel)
    refine ⟨rfl, OldK.of_keep fun b o e => ?_, os, bare⟩
    rcases only b with z | ⟨ob, xs, z⟩
    · exact un.keep b o e z (fun y => nomatch (show b ∈ ([] : List Addr) from y)) (by simp)
    · have e1 := (hok b _ z).1
      rw [e] at e1
      cases e1
      exact (hok2 b _ (un.frzs b _ _ z)).1
theorem ints_vals : ∀ {vs : List Value} {ns : List Int}, IntsAre vs ns → Vals (ns.map V.int) vs
  | [], _, .nil => .nil
  | _ :: _, _, .cons _ t r => .cons ⟨t, rfl⟩ (ints_vals r)
theorem law_quiet (inK : K.In s1.heap) (gl : s1.heap.Ns mainGlobals mg) (bn : s1.heap.Ns builtinsNs mb) (bb : ∀ y : Str, y ≠ "__name__" → mb y = bootBuiltins y) (nl : s1.heap.NoLimit) (gens : s1.gens = #[])
    (obj : s1.heap.get? a = some { cls := .type "list", data := .seq vs.toArray }) (whole : IntsAre vs ns) (few : ns.length ≤ sizeLine) (quiet : Quiet k callerA)
    (F : ∀ base : Heap, K.In base → base.Ns mainGlobals mg → FnQ P w K mg base C k fa fd [x] sp) (bind : ∀ (s : Shared) (u : Value), BindsTo s fd ⟨[u], []⟩ [(x, u)])
    (begin_ : ∀ H : Hp, Only H → SqL K H a (ns.map V.int) → sp [.ref a] H (fun v _ => v = .bl true) fun _ _ _ => False) (never : ∀ H e s', C [] H s1 (fun _ _ _ => False) e s' → False) :
    codeAny (model P w) callerA (.call (.ref fa) ⟨[.ref a], []⟩) (EndOk s1) s1 := by
  have rel := ints_vals whole
  have len : (ns.map V.int).length ≤ sizeLine := by rw [List.length_map]; exact few
  cases look : K.lookup a with
  | some o =>
    have e := inK a o look
    rw [obj] at e
    cases e
    have nothing : Only fun _ => none := fun _ => .inl rfl
    have sq : SqL K (fun _ => none) a (ns.map V.int) := .inr ⟨_, vs.toArray, _, look, rfl, rfl, rfl, by rw [List.size_toArray, ← rel.length]; exact len, rel⟩
    exact quiet_from (fun _ => none) inK gl bn bb nl gens obj quiet F bind nothing (begin_ _ nothing sq) never (fun _ _ z => nomatch z) (fun _ z => (z rfl).elim) fun z => (z rfl).elim
  | none =>
    let ob : Obj := { cls := .type "list", data := .seq vs.toArray }
    let H : Hp := upd (fun _ => none) a (.frz ob (.lst (ns.map V.int)))
    have at_ : H a = some (.frz ob (.lst (ns.map V.int))) := upd_same
    have off : ∀ {b : Addr}, b ≠ a → H b = none := fun {b} n => upd_ne n
    have one : Only H := fun b => by
      by_cases z : b = a
      · rw [z]
        exact .inr ⟨_, _, at_⟩
      · exact .inl (off z)
    have hok : HOk P w H s1.heap := fun b u z => by
      by_cases y : b = a
      · subst y
        rw [at_] at z
        cases z
        exact ⟨obj, len, vs, 0, rel, obj⟩
      · rw [off y] at z
        cases z
    refine quiet_from H inK gl bn bb nl gens obj quiet F bind one (begin_ _ one (.inl (.inr ⟨_, at_⟩))) never hok (fun b z => ?_) fun _ => look
    by_cases y : b = a
    · exact y
    · exact (z (off y)).elim
end
/-- a law whose def is run where no repr is under way -/
theorem walk_quiet {l : PySem.W.OpenLaw} {n k : Nat} {q : Program} {loose : List Str} {XP : (Str → Option Value) → Heap → Prop} {YP : World → Heap → Prop} {d : DefRec} {K : Params → PySem.W.Frag} {C : World → CXT} {sp : World → Sp} {x : Str}
    (most : l.most = some n) (few : n ≤ sizeLine) (plain : d.params.defaults = []) (quiet : Quiet k callerA) (inK : ∀ (w : World) (h : Heap), YP w h → (K w.params).In h)
    (F : ∀ (w : World) (mg : Str → Option Value) (fa : Addr) (h : Heap), (K w.params).In h → h.Ns mainGlobals mg → mg d.name = some (.ref fa) →
      ∃ fd : FuncData, (∀ (s : Shared) (u : Value), BindsTo s fd ⟨[u], []⟩ [(x, u)]) ∧ ∀ base : Heap, (K w.params).In base → base.Ns mainGlobals mg → FnQ l.prog w (K w.params) mg base (C w) k fa fd [x] (sp w))
    (begin_ : ∀ (w : World) (H : Hp) (a : Addr) (ns : List Int), ns.length ≤ n → Only H → SqL (K w.params) H a (ns.map V.int) → sp w [.ref a] H (fun v _ => v = .bl true) fun _ _ _ => False)
    (never : ∀ (w : World) (H : Hp) (s : Shared) (e : Value) (s' : Shared), C w [] H s (fun _ _ _ => False) e s' → False) :
    PySem.W.WalkO q loose XP YP l.row.toRowW d [] (fun f vs => PySem.call f vs) := by
  refine Att.attach_call most plain ?_
  intro w s0 s1 mg mb fa o pm cd doc a vs ns G Y _ _ _ hmg obj whole len gens
  obtain ⟨fd, bind, fn⟩ := F w mg fa _ (inK w _ Y) G.T.g hmg
  exact law_quiet (inK w _ Y) G.T.g G.T.b G.T.builtins G.T.nolimit gens obj whole (Nat.le_trans len few) quiet fn bind (fun H one sq => begin_ w H a ns len one sq) fun H e s' => never w H s1 e s'
end Ver
/-! Nested data over the heap of a reading: ==, !=, <, in, sorted. -/
namespace Ver
open PySem PySem.Spec PyProof.Rows L2

mutual
/-- v is the datum d: numbers, truths, None, texts, tuples and lists of these, the dict without entries -/
inductive Dt (H : Hp) : V → PyData → Prop
  | non : Dt H .non .none
  | bl (b : Bool) : Dt H (.bl b) (.bool b)
  | int (i : Int) : Dt H (.int i) (.int i)
  | str (z : Str) : Dt H (.str z) (.str z)
  | tup {a xs ds} : H a = some (.tup xs) → DtA H xs ds → Dt H (.ref a) (.tuple ds)
  | lst {a xs ds} : H a = some (.lst xs) → DtA H xs ds → Dt H (.ref a) (.list ds)
  | dct {a} : H a = some (.dK []) → Dt H (.ref a) (.dict [])
inductive DtA (H : Hp) : List V → List PyData → Prop
  | nil : DtA H [] []
  | cons {x d xs ds} : Dt H x d → DtA H xs ds → DtA H (x :: xs) (d :: ds)
end
mutual
theorem Dt.ex {H G : Hp} (e : Ex H G) : ∀ {v : V} {d : PyData}, Dt H v d → Dt G v d
  | _, _, .non => .non
  | _, _, .bl b => .bl b
  | _, _, .int i => .int i
  | _, _, .str z => .str z
  | _, _, .tup h q => .tup (e _ _ h) (DtA.ex e q)
  | _, _, .lst h q => .lst (e _ _ h) (DtA.ex e q)
  | _, _, .dct h => .dct (e _ _ h)
theorem DtA.ex {H G : Hp} (e : Ex H G) : ∀ {xs : List V} {ds : List PyData}, DtA H xs ds → DtA G xs ds
  | _, _, .nil => .nil
  | _, _, .cons q t => .cons (Dt.ex e q) (DtA.ex e t)
end
section
variable {P : Program} {w : World} {H : Hp} {h : Heap}
mutual
theorem Dt.reads (ok : HOk P w H h) : ∀ {v : V} {d : PyData} {u : Value}, Dt H v d → RelV v u → ∃ as, Reads h u d as
  | _, _, u, .non, r => by
    cases (show u = Value.none from r)
    exact ⟨_, .none⟩
  | _, _, u, .bl b, r => by
    cases (show u = Value.bool b from r)
    exact ⟨_, .bool b⟩
  | _, _, u, .int i, r => by
    obtain ⟨t, rfl⟩ := (show ∃ t, u = Value.int i t from r)
    exact ⟨_, .int i t⟩
  | _, _, u, .str z, r => by
    obtain ⟨t, rfl⟩ := (show ∃ t, u = Value.str z t from r)
    exact ⟨_, .str z t⟩
  | _, _, u, .tup (a := a) e q, r => by
    cases (show u = Value.ref a from r)
    obtain ⟨_, its, rv, o, h1, h2, m, h3⟩ := (show ObjOk P w H h a (.tup _) from ok a _ e)
    obtain ⟨as, q1⟩ := DtA.reads ok q rv
    exact ⟨as, .tuple h1 h2 h3 (by simpa using q1)⟩
  | _, _, u, .lst (a := a) e q, r => by
    cases (show u = Value.ref a from r)
    obtain ⟨_, its, m, rv, h1⟩ := (show ObjOk P w H h a (.lst _) from ok a _ e)
    obtain ⟨as, q1⟩ := DtA.reads ok q rv
    exact ⟨_, .list h1 rfl rfl (by simpa using q1)⟩
  | _, _, u, .dct (a := a) e, r => by
    cases (show u = Value.ref a from r)
    obtain ⟨_, _, vs, kv, o, es, ep, h1, h2, h3, _, h5, _⟩ := (show ObjOk P w H h a (.dK _) from ok a _ e)
    cases kv
    have e0 : es.toList = [] := by
      generalize es.toList = l at h5
      cases h5
      rfl
    exact ⟨_, .dict h1 h2.1 h3 (by rw [e0]; exact .nil) (by rw [e0]; exact .nil)⟩
theorem DtA.reads (ok : HOk P w H h) : ∀ {xs : List V} {ds : List PyData} {us : List Value}, DtA H xs ds → Vals xs us → ∃ as, ReadsAll h us ds as
  | _, _, _, .nil, r => by
    cases r
    exact ⟨_, .nil⟩
  | _, _, _, .cons q t, r => by
    cases r with
    | cons r1 r2 =>
      obtain ⟨as, q1⟩ := Dt.reads ok q r1
      obtain ⟨bs, t1⟩ := DtA.reads ok t r2
      exact ⟨_, .cons q1 t1⟩
end
end
theorem DtA.length {H : Hp} : ∀ {xs : List V} {ds : List PyData}, DtA H xs ds → xs.length = ds.length
  | _, _, .nil => rfl
  | _, _, .cons _ t => congrArg Nat.succ t.length
theorem DtA.at_ {H : Hp} : ∀ {xs : List V} {ds : List PyData} {i : Nat} {x : V}, DtA H xs ds → xs[i]? = some x → ∃ d, ds[i]? = some d ∧ Dt H x d
  | _, _, 0, _, .cons q _, e => by cases e; exact ⟨_, rfl, q⟩
  | _, _, i + 1, _, .cons _ t, e => DtA.at_ (i := i) t e
theorem DtA.get {H : Hp} : ∀ {xs : List V} {ds : List PyData} {i : Nat} {d : PyData}, DtA H xs ds → ds[i]? = some d → ∃ x, xs[i]? = some x ∧ Dt H x d
  | _, _, 0, _, .cons q _, e => by cases e; exact ⟨_, rfl, q⟩
  | _, _, i + 1, _, .cons _ t, e => DtA.get (i := i) t e
theorem DtA.append {H : Hp} : ∀ {xs ys : List V} {ds es : List PyData}, DtA H xs ds → DtA H ys es → DtA H (xs ++ ys) (ds ++ es)
  | _, _, _, _, .nil, s => s
  | _, _, _, _, .cons q t, s => .cons q (t.append s)
theorem DtA.take {H : Hp} : ∀ {xs : List V} {ds : List PyData} (n : Nat), DtA H xs ds → DtA H (xs.take n) (ds.take n)
  | _, _, 0, _ => .nil
  | _, _, _ + 1, .nil => .nil
  | _, _, n + 1, .cons q t => .cons q (t.take n)
theorem DtA.drop {H : Hp} : ∀ {xs : List V} {ds : List PyData} (n : Nat), DtA H xs ds → DtA H (xs.drop n) (ds.drop n)
  | _, _, 0, h => h
  | _, _, _ + 1, .nil => .nil
  | _, _, n + 1, .cons _ t => t.drop n
theorem DtA.reverse {H : Hp} : ∀ {xs : List V} {ds : List PyData}, DtA H xs ds → DtA H xs.reverse ds.reverse
  | _, _, .nil => .nil
  | _, _, .cons q t => by
    rw [List.reverse_cons, List.reverse_cons]
    exact t.reverse.append (.cons q .nil)
theorem DtA.mem {H : Hp} : ∀ {xs : List V} {ds : List PyData} {x : V}, DtA H xs ds → x ∈ xs → ∃ d ∈ ds, Dt H x d
  | _, _, x, .cons (x := y) q t, h => by
    rcases List.mem_cons.mp h with rfl | h
    · exact ⟨_, List.mem_cons_self, q⟩
    · obtain ⟨d, hd, k⟩ := t.mem h
      exact ⟨d, List.mem_cons_of_mem _ hd, k⟩

/-- what a comparison of data may be made of -/
structure Cmp (H : Hp) (x : V) (d : PyData) : Prop where
  at_ : Dt H x d
  plain : d.plain = true
  deep : d.depth ≤ 40
def rEqD (f : Bool → Bool) : R2 := fun x y H Q => ∃ a b, Cmp H x a ∧ Cmp H y b ∧ Q (.bl (f (PyData.eqv a b))) H
theorem op_eqD {X : Cx} (room : X.A.units + 64 < cLine) : OpR X (compareOp .Eq) (rEqD id) := by
  intro pins s σ H x y v u Q I rx ry want
  obtain ⟨a, b, ha, hb, q⟩ := want
  obtain ⟨as, ra⟩ := ha.at_.reads I.hok rx
  obtain ⟨bs, rb⟩ := hb.at_.reads I.hok ry
  exact PySem.SeqAt.eq_plain ra rb ha.plain hb.plain (by have := ha.deep; omega) ⟨.bl _, H, I, rfl, q⟩
theorem op_neD {X : Cx} (room : X.A.units + 64 < cLine) : OpR X (compareOp .NotEq) (rEqD not) := by
  intro pins s σ H x y v u Q I rx ry want
  obtain ⟨a, b, ha, hb, q⟩ := want
  obtain ⟨as, ra⟩ := ha.at_.reads I.hok rx
  obtain ⟨bs, rb⟩ := hb.at_.reads I.hok ry
  exact PySem.SeqAt.ne_plain ra rb ha.plain hb.plain (by have := ha.deep; omega) ⟨.bl _, H, I, rfl, q⟩
/-- x < y, data of one kind place by place -/
def rLtD : R2 := fun x y H Q => ∃ a b, Dt H x a ∧ Dt H y b ∧ PySem.W.alike a b = true ∧ a ≠ .none ∧ a.depth ≤ 40 ∧ Q (.bl (PySem.W.dataLt a b)) H
theorem op_ltD {X : Cx} (room : X.A.units + 64 < cLine) : OpR X (compareOp .Lt) rLtD := by
  intro pins s σ H x y v u Q I rx ry want
  obtain ⟨a, b, ha, hb, al, nn, dp, q⟩ := want
  obtain ⟨as, ra⟩ := ha.reads I.hok rx
  obtain ⟨bs, rb⟩ := hb.reads I.hok ry
  exact PySem.W.rcLt_alike a b _ _ _ _ _ _ ra rb al nn (by omega) X.prog X.w X.xe _ ⟨.bl _, H, I, rfl, q⟩
/-- x in c, c a tuple or a list -/
def rInD (f : Bool → Bool) : R2 := fun x y H Q => ∃ d ds, Cmp H x d ∧ (Dt H y (.tuple ds) ∨ Dt H y (.list ds)) ∧ PyData.plainAll ds = true ∧ Q (.bl (f (ds.any fun e => PyData.eqv e d))) H
theorem op_inD {X : Cx} (room : X.A.units + 64 < cLine) : OpR X (compareOp .In) (rInD id) := by
  intro pins s σ H x y v u Q I rx ry want
  obtain ⟨d, ds, hd, hc, pl, q⟩ := want
  obtain ⟨as, ra⟩ := hd.at_.reads I.hok rx
  have dp := hd.deep
  rcases hc with hc | hc
  · obtain ⟨bs, rb⟩ := hc.reads I.hok ry
    exact PySem.SeqAt.in_tuple_data rb ra pl hd.plain (by omega) ⟨.bl _, H, I, rfl, q⟩
  · obtain ⟨bs, rb⟩ := hc.reads I.hok ry
    exact PySem.SeqAt.in_list_data rb ra pl hd.plain (by omega) ⟨.bl _, H, I, rfl, q⟩
theorem op_notInD {X : Cx} (room : X.A.units + 64 < cLine) : OpR X (compareOp .NotIn) (rInD not) := by
  intro pins s σ H x y v u Q I rx ry want
  obtain ⟨d, ds, hd, hc, pl, q⟩ := want
  obtain ⟨as, ra⟩ := hd.at_.reads I.hok rx
  have dp := hd.deep
  rcases hc with hc | hc
  · obtain ⟨bs, rb⟩ := hc.reads I.hok ry
    exact PySem.SeqAt.notIn_tuple_data rb ra pl hd.plain (by omega) ⟨.bl _, H, I, rfl, q⟩
  · obtain ⟨bs, rb⟩ := hc.reads I.hok ry
    exact PySem.SeqAt.notIn_list_data rb ra pl hd.plain (by omega) ⟨.bl _, H, I, rfl, q⟩

/-! ### sorted -/
theorem each_of {R : Value → V × PyData → Prop} : ∀ {bs : List (V × PyData)} {us : List Value}, Vals (bs.map (·.1)) us → (∀ b ∈ bs, ∀ u, RelV b.1 u → R u b) → PySem.W.EachIs R us bs
  | [], _, .nil, _ => .nil
  | b :: bs, _, .cons r t, k => .cons (k b List.mem_cons_self _ r) (each_of t fun c hc => k c (List.mem_cons_of_mem _ hc))
theorem vals_each : ∀ {bs : List (V × PyData)} {us : List Value}, PySem.W.EachIs (fun u b => RelV b.1 u) us bs → Vals (bs.map (·.1)) us
  | [], _, .nil => .nil
  | b :: bs, _, .cons r t => .cons r (vals_each t)
/-- sorted(xs): bs are the list's items with what they are; the new list has them in their order -/
def rSortedD (K : PySem.W.Frag) : List V → Hp → VK → Prop := fun vs H Q => ∃ (a : Addr) (bs : List (V × PyData)), vs = [.ref a] ∧ SqL K H a (bs.map (·.1)) ∧ (∀ b ∈ bs, Dt H b.1 b.2 ∧ b.2.depth ≤ 40) ∧
  PySem.W.AllAlike (bs.map (·.2)) ∧ PySem.W.Sortable (bs.map (·.2)) ∧ Al Q (.lst ((bs.mergeSort (PySem.W.dataLe false (·.2))).map (·.1))) H
theorem cr_sortedD {X : Cx} {K : PySem.W.Frag} (hK : X.K = K) (room : X.A.units + 64 < cLine) : CallR X (.builtin "sorted") (rSortedD K) := by
  subst hK
  intro pins s σ H vs us Q I r want
  obtain ⟨a, bs, rfl, sq, each, al, so, q⟩ := want
  obtain ⟨its, rv, hl, hz⟩ := I.list sq
  rw [Vals.ref1 r]
  have e1 : PySem.W.EachIs (fun u b => RelV b.1 u) its bs := each_of rv fun _ _ _ h => h
  have e2 : PySem.W.EachIs (fun u b => ∃ as, Reads s.heap u b.2 as) its bs := each_of rv fun b hb u h => (each b hb).1.reads I.hok h
  have len : bs.length ≤ sizeLine := by simpa using hz
  refine PySem.W.sorted_data (enc := (·.2)) hl.isList e1 e2 al so len (fun b hb => by have := (each b hb).2; omega) fun out h1 h2 => ?_
  obtain ⟨ep, he⟩ := PyProof.Rows.sortedAll_at s.heap its out.toArray
  have size : ((bs.mergeSort (PySem.W.dataLe false (·.2))).map (·.1)).length ≤ sizeLine := by
    rw [List.length_map, List.length_mergeSort]
    exact len
  refine ⟨.ref _, upd H (s.heap.objs.size + 1) (.lst ((bs.mergeSort (PySem.W.dataLe false (·.2))).map (·.1))), I.laid (t' := s.toks) (fun _ _ => PyProof.Rows.sortedAll_old) (Nat.le_succ _) ⟨size, out, ep, vals_each h2, by simpa using he⟩, rfl, q _ (I.hok.fresh (Nat.le_succ _))⟩
end Ver
/-! An own error over ValueError whose __init__ says super().__init__(text) and keeps its one argument in a field. -/
namespace PySem
namespace SupX
open PySem.W PySem.Calls PyProof.Rows PySem.HandSPX L2
/-- what the text of such an __init__ is -/
structure Ini (st : Stmt) (fld par : Str) : Prop where
  body : ∃ (txt : Str) (kk : Nat) (p0 p1 p2 p3 p4 p5 p6 p7 p8 p9 : Pos), (p2.endLine == p4.line) = true ∧ defBody st = [.Expr (.Call (.Attribute (.Call (.Name "super" p0) [] [] p1) "__init__" p2) [.Constant (.str txt) kk p3] [] p4) p5, .Assign [.Attribute (.Name "self" p6) fld p7] (.Name par p8) p9]
  par0 : ∃ (an : Option Expr) (q : Pos), ((defArgs st).posonlyargs ++ (defArgs st).args).head? = some { arg := "self", annotation := an, pos := q }
  kd : (defScope st).kind = .function
  co : (defScope st).isCoroutine = false
  ge : (defScope st).isGenerator = false
  cel : ∀ x ∈ (defScope st).names, x.2 ≠ .cell
  sS : (defScope st).names.lookup ("super" : Str) = some .globalImplicit
  sC : (defScope st).names.lookup ("__class__" : Str) = some .free
  sI : (defScope st).names.lookup ("self" : Str) = some .local
  sP : (defScope st).names.lookup par = some .local
  ne : par ≠ "self"
  db : (par == ("__debug__" : Str)) = false
  bnd : ∀ (qual : Str) (cc : Addr) (kV doc pm cdv ct : Value) (an : Option Addr) (s : Shared) (a b : Value), BindsTo s (fnX "__init__" qual (defArgs st) (defBody st) (defScope st) [("__class__", cc)] .none kV doc pm an cdv ct) ⟨[a, b], []⟩ [("self", a), (par, b)]
/-- what the written part says of the class called cn, at C, and of its __init__, at fI -/
structure Txt (P : Program) (K : Frag) (mg : Str → Option Value) (cn : Str) (st : Stmt) (fld par : Str) (C fI : Addr) : Prop where
  ini : Ini st fld par
  gC : mg cn = some (.ref C)
  noS : mg "super" = none
  cls : ∃ (nm q : Str) (N : Addr) (bs bm : List Value) (sn : List Str) (sub : List Value) (ab : Bool) (col : Option Bool) (dd : Option Addr) (k0 k1 k2 k3 k5 : Option Value), K.lookup C = some (excClassObj nm q C N bs bm true sn sub ab col dd k0 k1 k2 k3 k5 "ValueError.__new__") ∧ refsVE bm = true
  sa : findIn K (.ref C) "__setattr__" = some (some (.builtin "object.__setattr__"))
  ga : findIn K (.ref C) "__getattribute__" = some (some (.builtin "BaseException.__getattribute__"))
  gg : findIn K (.ref C) "__getattr__" = some none
  noN : findIn K (.ref C) fld = some none
  iC : findIn K (.ref C) "__init__" = some (some (.ref fI))
  tC : typeIn K (.ref fI) = some (.type "function")
  kC : keepIn K (.ref C) = true
  exC : subIn K (.ref C) (.type "BaseException") = some true
  tyC : typeIn K (.ref C) = some (.type "type")
  hdC : hasDictIn K C = true
  vE : subIn K (.ref C) (.type "ValueError") = some true
  slf : mroIn K C (.ref C) = some true
  sup : ks_superIn K C C "__init__" = some (some (.builtin "ValueError.__init__"))
  opq : nsIn K cStatics "thirdparty.any" = some none
  top : (P.main.scope.names.lookup ("super" : Str)).isSome = false
  fn : ∃ (oc : Value) (od : Option Addr) (qual : Str) (cc : Addr) (kV doc pm ct : Value) (an : Option Addr) (cda : Addr) (osl : Array (Option Value)), K.lookup fI = some ⟨oc, od, .func (fnX "__init__" qual (defArgs st) (defBody st) (defScope st) [("__class__", cc)] .none kV doc pm an (.ref cda) ct), osl⟩ ∧ codeIn K (.ref cda) qual = true ∧
    (∃ (cl : Value) (cld : Option Addr) (csl : Array (Option Value)), K.lookup cc = some ⟨cl, cld, .cell (some (.ref C)), csl⟩) ∧
    ∃ (ccl : Value) (cdd : Option Addr) (vs : Array Value) (ccs : Array (Option Value)) (file : Str) (tf : Tok), K.lookup cda = some ⟨ccl, cdd, .fields vs, ccs⟩ ∧ vs[2]? = some (.str file tf) ∧ ((P.main.file : Str) == file) = true

/-- what __init__ leaves of a new error at x: its dict at dx -/
structure Left (fld : Str) (h h' : Heap) (x C dx t1 : Addr) (v : Value) : Prop where
  keep : ∀ b o, b ≠ x → h.get? b = some o → h'.get? b = some o
  obj : h'.get? x = some { cls := .ref C, dict := some dx, data := .fields #[.ref t1, .none, .none, .none, .bool false, .none] }
  dbig : h.objs.size ≤ dx
  dne : dx ≠ x
  ns : h'.Ns1 dx (fun y => if y = fld then some v else none)
/-- an error that was made -/
structure Made (fld : Str) (h h' : Heap) (e C d : Addr) (v : Value) : Prop where
  keep : ∀ b o, h.get? b = some o → h'.get? b = some o
  new : h.objs.size ≤ e
  obj : ∃ oe vs, h'.get? e = some oe ∧ oe.cls = .ref C ∧ oe.dict = some d ∧ oe.data = .fields vs ∧ vs[1]? = some .none
  dbig : h.objs.size ≤ d
  dne : d ≠ e
  ns : h'.Ns1 d (fun y => if y = fld then some v else none)
section
variable {prog : Program} {w : World} {A : Around} {E : Value → Shared → Prop} {R : Result → Shared → Prop} {s : Shared} {K : Frag} {mg mb : Str → Option Value} {C fI : Addr} {cn fld par : Str} {st : Stmt}
/-- o.m(e), on one line -/
theorem meth_eq {o : Expr} {name : Str} {apos pos p3 : Pos} {env : Env} {txt : Str} {kk : Nat} (hl : (apos.endLine == pos.line) = true) :
    eval (.Call (.Attribute o name apos) [.Constant (.str txt) kk p3] [] pos) env = (do
      let ov ← attributeBase o name env (eval o env)
      standAt apos.atName
      let (f, first) ← holding [ov] (getMethod ov name (do return (← importBound o env).getD true))
      callWith pos f first (backTo pos (starEach [.Constant (.str txt) kk p3] env)) []) := by
  rw [arm_eval_Call]
  have form : methodCallForm (List.length [Expr.Constant (.str txt) kk p3] + List.length ([] : List Keyword)) (backTo pos (starEach [.Constant (.str txt) kk p3] env)) (backToKw pos (keywordEach [] env)) = true := rfl
  have at_ : methodCallPos true o env apos pos = pure pos := by unfold methodCallPos; simp [hl]
  unfold methodCall
  rw [form, at_]
  unfold calleeOf
  simp only [if_true, pure_bind]
  rfl
/-- the bound ValueError.__init__ is called -/
theorem wrapped {h : Heap} {g : Array GenState} {dr : Drawn} {tk : Nat} {os : OsState} {u x t0 : Addr} {us : List Value} {Q : Value → Shared → Prop} (T : Txt prog K mg cn st fld par C fI) (X : K.In h)
    (hx : h.get? x = some (excO C t0)) (hu : h.get? u = some (kxs_mw "ValueError.__init__" x)) (hl : us.length ≤ sizeLine)
    (k : ∀ h' t1, (∀ b o, b ≠ x → h.get? b = some o → h'.get? b = some o) → h'.get? x = some (excO C t1) → Q .none ⟨h', g, dr, tk, os⟩) :
    wpAny (model prog w) A (call (.ref u) us) Q E ⟨h, g, dr, tk, os⟩ := by
  obtain ⟨nm, q, N, bs, bm, sn, sub, ab, col, dd, k0, k1, k2, k3, k5, hC, hbm⟩ := T.cls
  have FB := F.excBase_ValueError
  refine wpAny_call (codeAny_of_tree ?_)
  show wpAny _ A.in1 (callAny (.ref u) ⟨us, []⟩) _ _ _
  unfold callAny
  refine wpAny_bind (wpAny_load hu ?_)
  have t1 : (Value.type "method-wrapper" == Value.type "method") = false := by decide
  have t2 : (Value.type "method-wrapper" == Value.type "builtin_function_or_method") = false := by decide
  have t3 : (Value.type "method-wrapper" == Value.type "method-wrapper") = true := by decide
  simp only [kxs_mw, t1, t2, t3, Bool.false_or, if_true]
  refine KFB.if_so (by decide) ?_
  refine wpAny_bind (check_bound_init FB.toExcCallFacts (X _ _ hC) hx rfl ?_)
  refine wpAny_bind (wpAny_pure (wpAny_pure ?_))
  refine And.intro (plainId_quiet FB.init.plain _) (codeAny_builtin FB.initEntry ?_)
  exact exc_init_tree (cls := .ref C) (t0 := t0) (dv := none) (c2 := .none) (c3 := .none) (b4 := .bool false) hx hl fun h' b1 b2 _ => k h' _ b1 b2
/-- __init__(x, v) on a new error at x -/
theorem init_ {x t0 : Addr} {v : Value} (T : Txt prog K mg cn st fld par C fI) (X : K.In s.heap) (G : s.heap.Ns mainGlobals mg) (B : s.heap.Ns builtinsNs mb) (hb : mb "super" = some (.type "super")) (hlim : s.heap.NoLimit)
    (hx : s.heap.get? x = some (excO C t0)) (hnx : K.lookup x = none) (hroom : A.depth < recursionLimit)
    (hq : ∀ h' tk dx t1, Left fld s.heap h' x C dx t1 v → R (.ok (.ret .none)) { s with heap := h', toks := tk }) :
    codeAny (model prog w) A (.call (.ref fI) ⟨[.ref x, v], []⟩) R s := by
  obtain ⟨oc, od, qual, cc, kV, doc, pm, ct, an, cda, osl, lk, hcd, ⟨cl, cld, csl, hcell⟩, ccl, cdd, vs, ccs, file, tf, hcode, hvs, hfile⟩ := T.fn
  obtain ⟨txt, kk, p0, p1, p2, p3, p4, p5, p6, p7, p8, p9, hline, hbody⟩ := T.ini.body
  obtain ⟨an0, q0, hp⟩ := T.ini.par0
  obtain ⟨nm, q, N, bs, bm, sn, sub, ab, col, dd, k0, k1, k2, k3, k5, hC, hbm⟩ := T.cls
  have hcl : clsIn K C = some { name := nm, bases := bs, mro := .ref C :: bm, ns := N, qualname := q, hasDict := true, slotNames := sn, subclasses := sub, abstract := ab, collection := col, hasDel := false } := by unfold clsIn; rw [hC] <;> rfl
  have hsup := T.sup
  unfold ks_superIn at hsup
  rw [hcl] at hsup
  obtain ⟨hp0, g, dr, tk, os⟩ := s
  refine ks_codeAny_call_defAt (binds := [("self", .ref x), (par, v)]) hroom (X _ _ lk) rfl hlim (codeRec_of X hcd) rfl (T.ini.bnd qual cc kV doc pm (.ref cda) ct an _ _ _) T.ini.cel (fun y hy => ?_) (fun h₁ hns k => ?_) T.ini.co T.ini.ge T.ini.kd
  · rcases List.mem_cons.mp hy with rfl | hy
    · exact T.ini.sI
    · rcases List.mem_cons.mp hy with rfl | hy
      · exact T.ini.sP
      · cases hy
  have X1 : K.In h₁ := X.keeps k
  have hx1 := k _ _ hx
  have I1 : InstAt h₁ x (excO C t0) C none := ⟨hx1, rfl, rfl, trivial⟩
  have L1 : hp0.objs.size ≠ x := Nat.ne_of_gt (Heap.lt_size hx)
  have mS : (fun y => (List.reverse [(("self" : Str), Value.ref x), (par, v)]).lookup y) "self" = some (.ref x) := by
    show (List.lookup ("self" : Str) [(par, v), ("self", Value.ref x)]) = _
    have z : (("self" : Str) == par) = false := by simpa using Ne.symm T.ini.ne
    simp only [List.lookup, z, beq_self_eq_true]
  have mP : (fun y => (List.reverse [(("self" : Str), Value.ref x), (par, v)]).lookup y) par = some v := by
    show (List.lookup par [(par, v), ("self", Value.ref x)]) = _
    simp only [List.lookup, beq_self_eq_true]
  have env_in : interactive (callEnv (fnX "__init__" qual (defArgs st) (defBody st) (defScope st) [("__class__", cc)] .none kV doc pm an (.ref cda) ct) hp0.objs.size fI) = false := by
    show ((defScope st).kind == .module && _) = false
    rw [T.ini.kd]
    rfl
  generalize hE : callEnv (fnX "__init__" qual (defArgs st) (defBody st) (defScope st) [("__class__", cc)] .none kV doc pm an (.ref cda) ct) hp0.objs.size fI = env at env_in ⊢
  have eF : env.func = some fI := by rw [← hE]; rfl
  have eC : env.code = .ref cda := by rw [← hE]; rfl
  have eS : env.scope = defScope st := by rw [← hE]; rfl
  have eL : env.locals = hp0.objs.size := by rw [← hE]; rfl
  have eG : env.globals = mainGlobals := by rw [← hE]; rfl
  have eB : env.builtins = builtinsNs := by rw [← hE]; rfl
  have eX : env.cells.lookup ("__class__" : Str) = some cc := by rw [← hE]; rfl
  have kS : env.kindOf "super" = some .globalImplicit := by show env.scope.names.lookup _ = _; rw [eS]; exact T.ini.sS
  have kC : env.kindOf "__class__" = some .free := by show env.scope.names.lookup _ = _; rw [eS]; exact T.ini.sC
  have kI : env.kindOf "self" = some .local := by show env.scope.names.lookup _ = _; rw [eS]; exact T.ini.sI
  have kP : env.kindOf par = some .local := by show env.scope.names.lookup _ = _; rw [eS]; exact T.ini.sP
  have kK : env.scope.kind = .function := by rw [eS]; exact T.ini.kd
  have n1 : h₁.Ns env.locals (fun y => (List.reverse [(("self" : Str), Value.ref x), (par, v)]).lookup y) := by rw [eL]; exact hns
  rw [hbody]
  refine ks_wpAt_execs_cons (ks_wpAt_Expr_any (ks_wpAt_MethodCall (pl := (do return (← importBound (.Call (.Name "super" p0) [] [] p1) env).getD true)) ?_ (meth_eq hline)) env_in)
  refine ks_wpAt_super_base (file := file) (tf := tf) kS kC (by decide) eF (X1 _ _ lk) rfl hp eC (X1 _ _ hcode) rfl hvs hfile T.top ?_
  refine ks_loadName_global kK kS (loadGlobal_builtin (mg := mg) (mb := mb) (by rw [eG]; exact G.keeps k) T.noS (by rw [eB]; exact B.keeps k) hb (And.intro rfl ?_))
  refine wpAny_loadName_free kK kC eX ⟨_, X1 _ _ hcell, rfl⟩ ?_
  refine wpAny_loadName_local kK kI n1 mS ?_
  obtain ⟨oD, hD1, hD2⟩ : ∃ oD, h₁.get? C = some oD ∧ ∃ cd, oD.data = .cls cd := ⟨_, X1 _ _ hC, _, rfl⟩
  obtain ⟨cdD, hD2⟩ := hD2
  refine ks_wpAny_isType_cls hD1 hD2 (And.intro rfl ?_)
  refine ks_wpAny_call_super hD1 hD2 hx1 rfl (fun c e => by cases e) (looks_mroIn X1 T.slf) (fun h2 e2 k2 => ?_)
  have X2 : K.In h2 := X1.keeps k2
  have hx2 := k2 _ _ hx1
  have I2 : InstAt h2 x (excO C t0) C none := ⟨hx2, rfl, rfl, trivial⟩
  refine kxs_getMethod kxs_ValueError e2 (looks_opaque X2 T.opq) ((looks_clsIn X2 hcl).andThen .now) rfl X2 hsup (I2.type.andThen (looks_subIn X2 T.vE)) (ks_ne X2 I2 hcl) (by decide) ?_
  have k3 : ∀ b o, h2.get? b = some o → (h2.push (kxs_mw "ValueError.__init__" x)).get? b = some o := fun b o e => Heap.get?_push_of_some _ e
  have hu3 : (h2.push (kxs_mw "ValueError.__init__" x)).get? h2.objs.size = some (kxs_mw "ValueError.__init__" x) := Heap.get?_push_at rfl rfl
  refine kxs_callWith (i := "ValueError.__init__") (x := x) rfl (evalArgs_plain (Calls.spliced_cons (Calls.Constant_str (x := txt) (k := kk) (pos := p3) (Calls.spliced_nil (And.intro hu3 ?_)))))
  refine wrapped T (X2.keeps k3) (k3 _ _ hx2) hu3 (by show 1 ≤ sizeLine; decide) fun h4 t4 k4 hx4 => ?_
  have up : ∀ b o, b ≠ x → h₁.get? b = some o → h4.get? b = some o := fun b o n e => k4 b o n (k3 _ _ (k2 _ _ e))
  have n4 : h4.Ns env.locals (fun y => (List.reverse [(("self" : Str), Value.ref x), (par, v)]).lookup y) := by
    rw [eL]
    obtain ⟨o, es, ep, ho, hr⟩ := hns
    exact ⟨o, es, ep, up _ _ L1 ho, hr⟩
  have X4 : K.In h4 := fun a o e => up a o (fun z => by rw [z, hnx] at e; cases e) (X1 _ _ e)
  refine ks_wpAt_execs_cons (wpAt_of_wpAny (plainObj_wpAny_Assign_Attribute ?_))
  refine wpAny_Name (wpAny_loadName_local kK kP n4 mP ?_) T.ini.db
  refine wpAny_Name (wpAny_loadName_local kK kI n4 mS ?_) (by decide)
  refine set_plain X4 (ox := excO C t4) (od := none) ⟨hx4, rfl, rfl, trivial⟩ T.sa ?_
  refine exc_osa X4 hx4 hcl (show refsVE (.ref C :: bm) = true from hbm) rfl T.noN (fun h5 tk5 dx k5 dn dne hx5 hn5 => ?_)
  refine wpAt_of_wpAny (wpAny_execs_nil (hq h5 tk5 dx t4 ⟨fun b o n e => k5 b o n (up b o n (k b o e)), hx5, ?_, dne, hn5⟩))
  have z : hp0.objs.size < h4.objs.size := by
    have := n4.lt
    rwa [eL] at this
  exact Nat.le_of_lt (Nat.lt_of_lt_of_le z dn)
/-- C(v) -/
theorem made_ {v : Value} (T : Txt prog K mg cn st fld par C fI) (X : K.In s.heap) (G : s.heap.Ns mainGlobals mg) (B : s.heap.Ns builtinsNs mb) (hb : mb "super" = some (.type "super")) (hlim : s.heap.NoLimit) (hroom : A.depth + 1 < recursionLimit)
    (hq : ∀ h' tk e d, Made fld s.heap h' e C d v → R (.ok (.ret (.ref e))) { s with heap := h', toks := tk }) :
    codeAny (model prog w) A (.call (.ref C) ⟨[v], []⟩) R s := by
  obtain ⟨nm, q, N, bs, bm, sn, sub, ab, col, dd, k0, k1, k2, k3, k5, hC, hbm⟩ := T.cls
  obtain ⟨hp, g, dr, tk, os⟩ := s
  have k : ∀ b o, hp.get? b = some o → ((hp.push (kdv_tup [v])).push (excO C hp.objs.size)).get? b = some o := fun b o e => Heap.get?_push_of_some _ (Heap.get?_push_of_some _ e)
  have hget : ((hp.push (kdv_tup [v])).push (excO C hp.objs.size)).get? (hp.objs.size + 1) = some (excO C hp.objs.size) := by heap_get
  have hnx : K.lookup (hp.objs.size + 1) = none := by
    cases e : K.lookup (hp.objs.size + 1) with
    | none => rfl
    | some o =>
      have z : hp.get? (hp.objs.size + 1) = some o := X _ _ e
      exact absurd (Nat.lt_of_succ_lt (Heap.lt_size z)) (Nat.lt_irrefl _)
  refine call_own F.excBase_ValueError (fun Y => refsVE_contains Y bm hbm) (X _ _ hC) (looks_findIn X T.iC) (fun self => bind_fn X self T.tC) (by show 1 ≤ sizeLine; decide) ?_
  refine init_ (mg := mg) (mb := mb) (s := ⟨(hp.push (kdv_tup [v])).push (excO C hp.objs.size), g, dr, tk, os⟩) T (X.keeps k) (G.keeps k) (B.keeps k) hb (hlim.keeps k) hget hnx ?_ fun h' tk' dx t1 ⟨k', hx, dn, dne, hns⟩ => ?_
  · show A.depth + 1 < recursionLimit
    exact hroom
  · have old : ∀ b o, hp.get? b = some o → h'.get? b = some o := fun b o e => k' b o (Nat.ne_of_lt (Nat.lt_succ_of_lt (Heap.lt_size e))) (k b o e)
    have z : hp.objs.size + 1 + 1 ≤ dx := by
      first
        | (simpa only [Heap.size_push] using dn)
        | exact dn
        | (have q := dn; rw [Heap.size_push, Heap.size_push] at q; exact q)
    exact ⟨rfl, hq h' tk' (hp.objs.size + 1) dx ⟨old, Nat.le_succ _, ⟨_, _, hx, rfl, rfl, rfl, rfl⟩, Nat.le_trans (Nat.le_trans (Nat.le_succ _) (Nat.le_succ _)) z, dne, hns⟩⟩
end
end SupX
end PySem
namespace Ver
open PySem PySem.Spec PyProof.Rows L2
section
variable {X : Cx} {C fI : Addr} {cn fld par : Str} {st : Stmt}
theorem relO_fld {v : V} {v' : Value} (r : RelV v v') (fld f : Str) : RelO (List.lookup f [(fld, v)]) (if f = fld then some v' else none) := by
  by_cases hw : f = fld
  · subst hw
    rw [if_pos rfl]
    have q : List.lookup f [(f, v)] = some v := by simp [List.lookup]
    rw [q]
    exact r
  · rw [if_neg hw]
    have qw : (f == fld) = false := by simpa using hw
    have q2 : List.lookup f [(fld, v)] = none := by simp [List.lookup, qw]
    rw [q2]
    trivial
/-- C(e): the new error's own dict d holds its field -/
def tMkSup (fld : Str) (C : Addr) (ta : TA) : L2.St → Hp → XK → Prop := fun σ H Q => ta σ H fun vs H1 => ∃ v, vs = [v] ∧ ∀ d, H1 d = none → Q (.ref C) (some d) (upd H1 d (.xd [(fld, v)]))
theorem pmk_sup {a : Expr} {ta : TA} {p pos : Pos} {k : Nat} (T : PySem.SupX.Txt X.prog X.K X.mg cn st fld par C fI) (hr : Room k X.A) (ha : PA X [a] ta) (hg : Gl X cn) (hdb : (cn == ("__debug__" : Str)) = false := by decide)
    (he : starEach (a :: []) X.env = (false, eval a X.env) :: starEach [] X.env := by rfl) (hpl : (backTo pos (starEach [] X.env)).any (·.1) = false := by rfl) :
    PMk X (.Call (.Name cn p) [a] [] pos) (tMkSup fld C ta) := by
  intro pins s σ H Q I h
  refine wpAny_Call_Name_kw (ld_glob I hg T.gC ?_ hdb)
  refine PySem.W.callWith_K (h₀ := X.base) I.ok.mod.kin T.kC (thn (ha.run pos pins s σ H _ I h) fun us s1 hh => ?_) he hpl
  obtain ⟨vs, H1, I1, r1, v, ev, q1⟩ := hh
  subst ev
  refine ⟨I1.kIn, ?_⟩
  cases r1 with
  | cons rv rn =>
    rename_i v' us'
    cases rn
    show wpAny _ _ (call (.ref C) [v']) _ _ _
    have hlim := I1.nolimit
    obtain ⟨mb, hmb, hbt⟩ := I1.ok.mod.blt
    have bk := I1.bk
    have G := I1.ok.mod.glob.keeps bk
    have B := hmb.keeps bk
    have hb : mb "super" = some (.type "super") := (hbt "super" (by decide)).trans PyProof.Rows.Boot.«super»
    obtain ⟨hp, g, dr, tk, os⟩ := s1
    refine wpAny_call (PySem.SupX.made_ (mg := X.mg) (mb := mb) T I1.kIn G B hb hlim (by have := hr.dp; omega) fun h' tk' e d M => ?_)
    show MkP X pins σ Q (.ref e) ⟨h', g, dr, tk', os⟩
    obtain ⟨oe, fv, hoe, hc, hd, hdat, h1⟩ := M.obj
    have hns := M.ns
    obtain ⟨G', g1, g2⟩ := restrict h' fun b => decide (b ≠ e)
    have gk : ∀ b, b ≠ e → G'.get? b = h'.get? b := fun b hb => g1 b (decide_eq_true hb)
    have ge : G'.get? e = none := g2 e (by simp)
    have old : ∀ b o, hp.get? b = some o → G'.get? b = some o := fun b o q => (gk b (Nat.ne_of_lt (Nat.lt_of_lt_of_le (Heap.lt_size q) M.new))).trans (M.keep b o q)
    have ob : ObjOk X.prog X.w (upd H1 d (.xd [(fld, v)])) G' d (.xd [(fld, v)]) :=
      ⟨_, hns.at (fun o q => (gk d M.dne).trans q), fun f => relO_fld rv fld f⟩
    have J : Inv X pins σ (upd H1 d (.xd [(fld, v)])) ⟨G', g, dr, tk', os⟩ := I1.laid (t' := tk') old M.dbig ob
    refine ⟨e, oe, fv, ⟨G', g, dr, tk', os⟩, _, .ref C, some d, rfl, J, fun b o q => ?_, ge, hoe, ⟨hc, hd⟩, hdat, h1, ?_, rfl, I1.bare, raises_own T.exC T.tyC, q1 d (I1.hok.fresh M.dbig)⟩
    · by_cases hb : b = e
      · have q' : G'.get? b = some o := q
        rw [hb, ge] at q'; cases q'
      · exact (gk b hb).symm.trans q
    · rw [upd_ne (Ne.symm M.dne)]
      exact I1.hok.fresh M.new
/-- raise C(e) -/
def tRaiseSup (fld : Str) (C : Addr) (W : WX) (ta : TA) : TS := fun _ σ H => tMkSup fld C ta σ H fun cls d H' => W cls d σ H'
theorem ps_raiseSup {a : Expr} {ta : TA} {W : WX} {p pos pos2 : Pos} {k : Nat} (hc : X.calm = true) (T : PySem.SupX.Txt X.prog X.K X.mg cn st fld par C fI) (hr : Room k X.A) (tk : Takes X W) (ha : PA X [a] ta) (hg : Gl X cn) (hdb : (cn == ("__debug__" : Str)) = false := by decide)
    (he : starEach (a :: []) X.env = (false, eval a X.env) :: starEach [] X.env := by rfl) (hpl : (backTo pos (starEach [] X.env)).any (·.1) = false := by rfl) :
    PS X (.Raise (some (.Call (.Name cn p) [a] [] pos)) none pos2) (tRaiseSup fld C W ta) := ps_raise hc tk (pmk_sup T hr ha hg hdb he hpl)
theorem sup_xf {P : Program} {K : PySem.W.Frag} {mg : Str → Option Value} (T : PySem.SupX.Txt P K mg cn st fld par C fI) : XfC K C := ⟨T.ga, T.gg, T.exC, T.hdC⟩
end
end Ver
/-! Defs that are handed the error that a suite holds; calls by names that may raise; isinstance of such an error. -/
namespace Ver
open PySem PySem.Spec PyProof.Rows L2

/-! ### f(k = v, ..), where f may raise -/
section
variable {X : Cx} {C : CXT} {k n : Nat} {f : Addr} {fd : FuncData} {ps ks : List Str} {sp : Sp} {E : L2.St → XK} {x : Str} {p pos : Pos} {kws : List Keyword} {tk : TA} {g : List Value → List Value → List Value} {gV : List V → List V → List V}
def tCallSN (n m : Nat) (sp : Sp) (gV : List V → List V → List V) (E : L2.St → XK) (t tk : TA) : TE := fun σ H Q => t σ H fun vs H1 => tk σ H1 fun zs H2 => vs.length = n ∧ zs.length = m ∧ sp (gV vs zs) H2 Q (E σ)
theorem pe_callSN0 (F : FnOk X.prog X.w X.K X.mg X.base C k f fd ps sp) (room : Room k X.A) (hg : Gl X x) (hm : X.mg x = some (.ref f)) (kp : PySem.W.keepIn X.K (.ref f) = true) (hb : KBn X.K fd ps 0 ks g gV) (hx : ∀ σ, PassesAt C X σ (E σ))
    (hkw : PK X kws tk) (hall : (backToKw pos (keywordEach kws X.env)).all (·.1.isSome) = true := by rfl) (hks : (backToKw pos (keywordEach kws X.env)).filterMap (·.1) = ks := by rfl) (hd : (x == ("__debug__" : Str)) = false := by decide)
    (hp : ((backTo pos (starEach [] X.env)).any (·.1) || (backToKw pos (keywordEach kws X.env)).any (·.1.isNone)) = false := by rfl) : PE X (.Call (.Name x p) [] kws pos) (tCallSN 0 ks.length sp gV E tNil tk) := by
  constructor
  intro pins s σ H Q I want
  refine wpAny_Call_Name_kw (ld_glob I hg hm ?_ hd)
  refine PySem.W.callWith_KW0 (h₀ := X.base) I.ok.mod.kin kp hall ?_ hp
  have want' : tk σ H fun zs H2 => ([] : List V).length = 0 ∧ zs.length = ks.length ∧ sp (gV [] zs) H2 Q (E σ) := want
  refine thn (hkw.run pos pins s σ H _ I want') ?_
  rintro ws s2 ⟨zs, H2, I2, rz, l1, l2, q⟩
  refine ⟨I2.kIn, ?_⟩
  rw [hks]
  have rel := hb.rel (vs := []) (us := []) .nil rz
  refine wpAny_call (codeAny_mono (F.run X.A X.stack s2 H2 ⟨[], ks.zip ws⟩ (g [] ws) (gV [] zs) Q (E σ) room I2.env0 (hb.to s2 [] ws I2.kIn rfl (rz.length.symm.trans l2)) rel q) ?_)
  intro r s3 h
  match r, h with
  | .error z, h => exact hx σ pins H2 s2 z s3 I2 h
  | .ok (.ret u), h => exact I2.after h
  | .ok .next, h => exact h.elim
  | .ok .brk, h => exact h.elim
  | .ok .cont, h => exact h.elim
theorem wCallSN {m : Nat} {σ : L2.St} {H : Hp} {Q : VK} {t : TA} (h : t σ H fun vs H1 => tk σ H1 fun zs H2 => vs.length = n ∧ zs.length = m ∧ sp (gV vs zs) H2 Q (E σ)) : tCallSN n m sp gV E t tk σ H Q := h
theorem wCallS {σ : L2.St} {H : Hp} {Q : VK} {t : TA} (h : t σ H fun vs H1 => sp vs H1 Q (E σ)) : tCallS sp E t σ H Q := h
end

/-! ### a def that is handed the error at p -/
/-- the context of such a def's body: an error is handled, p's object stands, nothing is raised -/
abbrev cxP (P : Program) (w : World) (K : PySem.W.Frag) (mg : Str → Option Value) (base : Heap) (N : List Str) (qual : Str) (sc : Scope) (f : Addr) (cdv : Value) (A : Around) (outer : List Env) (s : Shared) (H : Hp) (E : XK) (p : Addr × Obj) : Cx :=
  { cxOf CX0 P w K mg base N qual sc f cdv A outer s H E with calm := false, pn := [p], xe := fun _ _ => False }
structure FnP (P : Program) (w : World) (K : PySem.W.Frag) (mg : Str → Option Value) (base : Heap) (k : Nat) (f : Addr) (fd : FuncData) (ps : List Str) (sp : Addr × Obj → Sp) : Prop where
  arity : ∀ p vs H Q E, sp p vs H Q E → vs.length = ps.length
  goes : ∀ {A : Around} {outer : List Env} {s : Shared} {H : Hp} {args : Args} {us : List Value} {vs : List V} {Q : VK} {E : XK} {p : Addr × Obj},
    L2H.RoomH k A → L2H.PinOk outer H s p → Env0 P w K mg base A outer s H → BindsTo s fd args (ps.zip us) → Vals vs us → sp p vs H Q E →
      codeAny (model P w) A (.call (.ref f) args) (CR CX0 outer P w H s Q E) s
section
variable {P : Program} {w : World} {K : PySem.W.Frag} {mg : Str → Option Value} {base : Heap} {k : Nat} {f : Addr} {ps N : List Str} {sp : Addr × Obj → Sp}
theorem start_P {qual : Str} {sc : Scope} {cdv : Value} {A : Around} {outer : List Env} {s s1 : Shared} {H : Hp} {E : XK} {us : List Value} {vs : List V} {p : Addr × Obj} (S : FnScope N ps sc) (pin : L2H.PinOk outer H s p) (e0 : Env0 P w K mg base A outer s H) (count : vs.length = ps.length) (rel : Vals vs us)
    (x : InCallC s s.heap.objs.size (bindL (envOfC qual sc s.heap.objs.size f cdv).kindOf (ps.zip us) fun _ => none) (cellsFrom (s.heap.objs.size + 1) sc.names []) (bindC (envOfC qual sc s.heap.objs.size f cdv).kindOf (ps.zip us) fun _ => none) s1) :
    Inv (cxP P w K mg base N qual sc f cdv A outer s H E p) [] (L2.start N vs) H s1 := by
  have e1 : Env0 P w K mg base { A with handled := none } outer s H := ⟨e0.frames, e0.mod, e0.bs, e0.bsz, e0.funs, e0.frf, e0.hok, e0.bare⟩
  have I := inv_start (CX := CX0) (E := E) S (A := { A with handled := none }) rfl e1 count rel x
  have ok := I.ok
  refine ⟨⟨ok.mod, ok.kind, ok.glob, ok.blt, ok.above, ok.inj, ok.has, ok.cab, fun z => Bool.noConfusion (show false = true from z), Around.frames_deeper e0.frames, ok.stk, ok.exf, ok.bs, ok.bsz, ok.noex, ok.exfs, ok.funs, ok.frf⟩,
    I.os, I.bare, I.base, I.loc, I.cell, I.free, I.freeC, fun q hq => ?_, I.hok, I.len⟩
  obtain rfl : q = p := by simpa using (show q ∈ [p] ++ ([] : List (Addr × Obj)) from hq)
  exact ⟨x.toInCall.keep _ _ pin.get, pin.free, Nat.ne_of_lt (Heap.lt_size pin.get), pin.nofs, pin.nocell⟩
theorem pinFn {x qual : Str} {par : Arguments} {body : List Stmt} {sc : Scope} {dV kV doc pm cdv ct oc : Value} {an od : Option Addr} {osl : Array (Option Value)}
    (lk : K.lookup f = some ⟨oc, od, .func (PySem.W.fnOf x qual par body sc dV kV doc pm an cdv ct), osl⟩) (code : PySem.W.codeIn K cdv qual = true) (S : FnScope N ps sc)
    (arity : ∀ p vs H Q E, sp p vs H Q E → vs.length = ps.length)
    (reads : ∀ (A : Around) (outer : List Env) (s : Shared) (H : Hp) (vs : List V) (Q : VK) (E : XK) (p : Addr × Obj), L2H.RoomH k (A.deeper (envOfC qual sc s.heap.objs.size f cdv)) → sp p vs H Q E →
      ∃ t, PSs (cxP P w K mg base N qual sc f cdv A outer s H E p) body t ∧ t { nx := fun _ H1 => Q .non H1, rt := Q } (start N vs) H) :
    FnP P w K mg base (k + 1) f (PySem.W.fnOf x qual par body sc dV kV doc pm an cdv ct) ps sp := by
  constructor
  · exact arity
  · intro A outer s H args us vs Q E p room pin e0 bind rel want
    have count := arity _ _ _ _ _ want
    have same : ∀ b o, base.get? b = some o → s.heap.get? b = some o := fun b o e => (e0.bs b o e).1
    have inK := e0.mod.kin.keeps same
    have nolim := e0.mod.nolimit.keeps same
    have kinds : ∀ y ∈ ps.zip us, sc.names.lookup y.1 = some .local ∨ (sc.names.lookup y.1 = some .cell ∧ ((cellsFrom (s.heap.objs.size + 1) sc.names []).lookup y.1).isSome = true) := by
      rintro ⟨n, v⟩ hy
      refine (S.par n (List.of_mem_zip hy).1).imp id fun q => ⟨q, ?_⟩
      exact PySem.W.cellsFrom_some _ _ _ (.inl q)
    refine codeAny_call_function room.depth (inK _ _ lk) rfl S.co S.gen rfl (PySem.W.codeRec_of inK code) (bind _ _ _ _ ?_)
    refine wpAny_newFunctionEnv_cells S.kind kinds fun e he s1 x1 => ?_
    subst he
    refine ⟨nolim.keeps x1.toInCall.keep, codeAny_func ?_⟩
    obtain ⟨t, ht, hq⟩ := reads A outer s H vs Q E p (room.deeper _) want
    have I0 := start_P (E := E) S pin e0 count rel x1
    refine wpAny_mono (ht.run [] s1 _ H _ I0 hq) ?_ (fun e s2 h => h.elim)
    intro fl s2 h
    have out : ∀ {σ : L2.St} {H1 : Hp} {v : V} {u : Value}, Inv (cxP P w K mg base N qual sc f cdv A outer s H E p) [] σ H1 s2 → RelV v u → Q v H1 → CE outer P w H s Q u s2 := fun {σ H1 v u} J r q => ⟨v, H1, J.os, J.bare, J.base, J.hok, r, q⟩
    match fl, h with
    | .ret u, h =>
      obtain ⟨v, σ1, H1, J, rv, q⟩ := h
      exact out J rv q
    | .next, h =>
      obtain ⟨σ1, H1, J, q⟩ := h
      exact out (v := .non) (u := .none) J rfl q
    | .brk, h =>
      obtain ⟨_, _, _, q⟩ := h
      exact q.elim
    | .cont, h =>
      obtain ⟨_, _, _, q⟩ := h
      exact q.elim
end
theorem okP {P : Program} {w : World} {K : PySem.W.Frag} {mg : Str → Option Value} {base : Heap} {x qual : Str} {st : Stmt} {f : Addr} {fd : FuncData} {N ps : List Str} {k : Nat} {sp : Addr × Obj → Sp} (F : Fun K x qual st f fd) (S : FnScope N ps (defScope st))
    (arity : ∀ p vs H Q E, sp p vs H Q E → vs.length = ps.length)
    (reads : ∀ (cdv : Value) (A : Around) (outer : List Env) (s : Shared) (H : Hp) (vs : List V) (Q : VK) (E : XK) (p : Addr × Obj), L2H.RoomH k (A.deeper (envOfC qual (defScope st) s.heap.objs.size f cdv)) → sp p vs H Q E →
      ∃ t, PSs (cxP P w K mg base N qual (defScope st) f cdv A outer s H E p) (defBody st) t ∧ t { nx := fun _ H1 => Q .non H1, rt := Q } (start N vs) H) : FnP P w K mg base (k + 1) f fd ps sp := by
  obtain ⟨_, _, _, _, _, _, cdv, _, _, rfl, lk, code⟩ := F.ex
  exact pinFn lk code S arity fun A outer s H vs Q E p room want => reads cdv A outer s H vs Q E p room want

section
variable {X : Cx} {k : Nat} {f : Addr} {fd : FuncData} {ps : List Str} {sp : Addr × Obj → Sp} {x : Str} {e : Expr} {es : List Expr} {p pos : Pos} {t : TA} {a : Addr} {oe : Obj}
/-- f(e, ..) where the error at a is at hand -/
def tCallP (a : Addr) (cls : Value) (d : Option Addr) (sp : Addr × Obj → Sp) (t : TA) : TE := fun σ H Q => t σ H fun vs H1 => ∀ oe : Obj, Zc cls d oe → (∃ vs, oe.data = .fields vs) → sp (a, oe) vs H1 Q E0
theorem wCallP {cls : Value} {d : Option Addr} {σ : L2.St} {H : Hp} {Q : VK} (h : t σ H fun vs H1 => ∀ oe : Obj, Zc cls d oe → (∃ vs, oe.data = .fields vs) → sp (a, oe) vs H1 Q E0) : tCallP a cls d sp t σ H Q := h
theorem pe_callP {cls : Value} {d : Option Addr} (hz : Zc cls d oe) (hf : ∃ vs, oe.data = .fields vs) (F : FnP X.prog X.w X.K X.mg X.base k f fd ps sp) (room : L2H.RoomH k X.A) (here : (a, oe) ∈ X.pn) (hg : Gl X x) (hm : X.mg x = some (.ref f)) (kp : PySem.W.keepIn X.K (.ref f) = true) (hb : Binds X.K fd ps [])
    (ha : PA X (e :: es) t) (hd : (x == ("__debug__" : Str)) = false := by decide) (he : starEach (e :: es) X.env = (false, eval e X.env) :: starEach es X.env := by rfl) (hp : (backTo pos (starEach es X.env)).any (·.1) = false := by rfl) :
    PE X (.Call (.Name x p) (e :: es) [] pos) (tCallP a cls d sp t) := by
  constructor
  intro pins s σ H Q I want
  refine wpAny_Call_Name_kw (ld_glob I hg hm ?_ hd)
  refine PySem.W.callWith_K (h₀ := X.base) I.ok.mod.kin kp (thn (ha.run pos pins s σ H _ I want) ?_) he hp
  rintro us s1 ⟨vs, H1, I1, rel, q⟩
  refine ⟨I1.kIn, ?_⟩
  have q := q oe hz hf
  have count := F.arity _ _ _ _ _ q
  have bind := hb s1 us I1.kIn (by rw [List.append_nil, ← rel.length]; exact count)
  rw [List.append_nil] at bind
  obtain ⟨z1, z2, z3, z4, z5⟩ := I1.pin (a, oe) (List.mem_append_left _ here)
  have pin : L2H.PinOk X.stack H1 s1 (a, oe) := ⟨z1, z2, fun m => (List.mem_cons.mp (I1.stkSub a m)).elim z3 z4, z5⟩
  refine wpAny_call (codeAny_mono (F.goes room pin I1.env0 bind rel q) ?_)
  intro r s2 h
  match r, h with
  | .error z, h => exact h.elim
  | .ok (.ret u), h => exact I1.after h
  | .ok .next, h => exact h.elim
  | .ok .brk, h => exact h.elim
  | .ok .cont, h => exact h.elim

/-! ### isinstance(e, C), e the error at hand -/
/-- what the class D says of itself -/
structure ErrC (K : PySem.W.Frag) (D : Addr) : Prop where
  is_ : (PySem.W.clsIn K D).isSome = true
  ga : PySem.W.findIn K (.ref D) "__getattribute__" = some (some (.builtin "BaseException.__getattribute__"))
  gg : PySem.W.findIn K (.ref D) "__getattr__" = some none
  ex : PySem.W.subIn K (.ref D) (.type "BaseException") = some true
  ca : PySem.W.findIn K (.ref D) "__class__" = some (some (.builtin "object.__class__"))
  cn : PySem.W.specialIn K (.builtin "object.__class__") "__get__" = some (some (.builtin "getset_descriptor.__get__"))
  ct : PySem.W.takesIn K (.builtin "object.__class__") = some true
  ob : PySem.W.mroIn K D (.type "object") = some true
/-- one class: its answer b -/
def rIsEr (K : PySem.W.Frag) (D a d : Addr) : List V → Hp → VK → Prop := fun xs H Q => ∃ (c : V) (cv : Value) (b : Bool) (fs : List (Str × V)), xs = [.ref a, c] ∧ (∀ u, RelV c u → u = cv) ∧ PySem.W.kitOne K (.ref D) cv = some b ∧ H d = some (.xd fs) ∧ Q (.bl b) H
theorem call_isEr {D d : Addr} (C : ErrC X.K D) (here : (a, oe) ∈ X.pn) (hz : Zc (.ref D) (some d) oe) (hf : ∃ vs, oe.data = .fields vs) : CallR X (.builtin "isinstance") (rIsEr X.K D a d) := by
  intro pins s σ H xs us Q I r h
  obtain ⟨c, cv, b, fs, rfl, hcv, e, hd, q⟩ := h
  match us, r with
  | [u0, u1], .cons r0 (.cons r1 .nil) =>
    obtain rfl : u0 = Value.ref a := r0
    have e1 := hcv _ r1
    subst e1
    have at_ := (I.pin (a, oe) (List.mem_append_left _ here)).1
    obtain ⟨vs, hv⟩ := hf
    obtain ⟨mA, hns, _⟩ := (show ObjOk X.prog X.w H s.heap d (.xd fs) from I.hok d _ hd)
    obtain ⟨od, es, ep, ho, _⟩ := hns
    have J : PySem.W.InstAt s.heap a oe D (some od) := ⟨at_, hz.1, by unfold PySem.W.notCls; rw [hv] <;> rfl, by rw [hz.2]; exact ho⟩
    exact PySem.W.kia_one (PySem.W.kitx_exc C.is_ C.ga C.gg C.ex C.ca C.cn C.ct C.ob) I.kIn J e (fun z => nomatch z) fun tk => ⟨.bl b, H, I.kept (t' := tk) fun _ _ z => z, rfl, q⟩
end
end Ver
/-! Rules for laws about refusals: how often, and where first, a flat item stands in a list; a heap without one place. -/
namespace Ver
open PySem PySem.Spec PyProof.Rows L2
/-- the heap without p -/
def hide (p : Addr) (H : Hp) : Hp := fun a => if a = p then none else H a
theorem hide_ex {p : Addr} {H : Hp} : Ex (hide p H) H := fun a o h => by
  unfold hide at h
  split at h
  · cases h
  · exact h
theorem hide_at {p a : Addr} {H : Hp} {o : HO} (n : a ≠ p) (h : H a = some o) : hide p H a = some o := by
  unfold hide
  rw [if_neg n]
  exact h
theorem hide_ne {p a : Addr} {H : Hp} {o : HO} (h : hide p H a = some o) : a ≠ p := fun e => by
  unfold hide at h
  rw [if_pos e] at h
  cases h
theorem Kp.hide {p : Addr} {H H' : Hp} (e : Kp p H H') : Ex (Ver.hide p H) (Ver.hide p H') := fun a o h => hide_at (hide_ne h) (e a o (hide_ne h) (hide_ex a o h))
theorem Ex.hide {p : Addr} {H H' : Hp} (e : Ex H H') : Ex (Ver.hide p H) (Ver.hide p H') := Kp.hide e.kp

theorem roomS {k j : Nat} {A : Around} {v : Option Value} (r : Room j A) (h : k ≤ j) : L2H.RoomH k (A.mark v) :=
  ⟨by have := r.dp; show A.depth + 3 * k + 5 < _; omega, by have := r.un; show A.units + 16 * k + 200 < _; omega⟩

theorem roomU {k : Nat} {A : Around} (r : L2H.RoomH k A) : A.units + 64 < cLine := by have := r.un; omega
/-- xs.count(y), flat items -/
def rCountF (K : PySem.W.Frag) : V → List V → Hp → VK → Prop := fun x xs H Q => ∃ (a : Addr) (ys : List V) (y : V), x = .ref a ∧ xs = [y] ∧ SqL K H a ys ∧ flatV y = true ∧ ys.all flatV = true ∧ Q (.int ((ys.countP fun z => eqV z y : Nat) : Int)) H
theorem count_eqU {y : V} : ∀ {ys : List V} {us : List Value}, Vals ys us → ys.all flatV = true → us.countP (eqU y) = ys.countP fun z => eqV z y
  | _, _, .nil, _ => rfl
  | z :: ys, u :: us, .cons r t, f => by
    rw [List.all_cons, Bool.and_eq_true] at f
    rw [List.countP_cons, List.countP_cons, count_eqU t f.2, eqU_of r f.1]
theorem mt_countV {X : Cx} {K : PySem.W.Frag} (hK : X.K = K) : MtR X "list.count" (rCountF K) := by
  subst hK
  intro pins s σ H x xs v us Q I rx rxs want
  obtain ⟨a, ys, y, rfl, rfl, sq, fy, fys, q⟩ := want
  cases rx
  obtain ⟨u, rfl, ry⟩ := rxs.one
  obtain ⟨its, rel, ⟨⟨cls, dd, data, sl⟩, n, at_, ec, _, ed⟩, _⟩ := I.list sq
  simp only at ec ed
  subst ec ed
  have each := mem_eqAt (A := X.A.in1) (s := s) ry fy rel fys
  refine call_meets PySem.F.slot_list_count ⟨_, at_, rfl⟩ PySem.F.entry_list_count (PySem.F.args_list_count_2 _ _) (SeqAt.list_countAt a its.toArray n dd sl u (eqU y)) ⟨at_, fun z hz => ?_, ?_⟩
  · exact mem_eqAt ry fy rel fys z (by simpa using hz)
  · refine ⟨.int ((ys.countP fun z => eqV z y : Nat) : Int), H, I.tok _, ⟨s.toks, ?_⟩, q⟩
    show Value.int ((its.toArray.toList.countP (eqU y) : Nat) : Int) s.toks = Value.int ((ys.countP fun z => eqV z y : Nat) : Int) s.toks
    rw [← count_eqU rel fys]
theorem mt_indexV {X : Cx} {K : PySem.W.Frag} (hK : X.K = K) : MtR X "list.index" (rIndex K) := hK ▸ mt_index
section
variable {X : Cx} {a : Addr} {oe : Obj}
/-- isinstance(e, C) where a suite, or a def that was handed it, holds the error at a -/
def rIsH (K : PySem.W.Frag) (a : Addr) (cls : Value) (d : Option Addr) : List V → Hp → VK → Prop := fun xs H Q => ∃ (D dd : Addr) (c : V) (cv : Value) (b : Bool) (fs : List (Str × V)), cls = .ref D ∧ d = some dd ∧ ErrC K D ∧ xs = [.ref a, c] ∧ (∀ u, RelV c u → u = cv) ∧ PySem.W.kitOne K (.ref D) cv = some b ∧ H dd = some (.xd fs) ∧ Q (.bl b) H
theorem call_isH {K : PySem.W.Frag} (hK : X.K = K) {cls : Value} {d : Option Addr} (here : (a, oe) ∈ X.pn) (hz : Zc cls d oe) (hf : ∃ vs, oe.data = .fields vs) : CallR X (.builtin "isinstance") (rIsH K a cls d) := by
  subst hK
  intro pins s σ H xs us Q I r h
  obtain ⟨D, dd, c, cv, b, fs, rfl, rfl, C, rfl, hcv, e, hd, q⟩ := h
  exact call_isEr C here hz hf pins s σ H _ us Q I r ⟨c, cv, b, fs, rfl, hcv, e, hd, q⟩
theorem wIsH {K : PySem.W.Frag} {H : Hp} {Q : VK} {D dd C : Addr} {b : Bool} {fs : List (Str × V)} (er : ErrC K D) (e : PySem.W.kitOne K (.ref D) (.ref C) = some b) (hd : H dd = some (.xd fs)) (k : Q (.bl b) H) : rIsH K a (.ref D) (some dd) [.ref a, .ref C] H Q :=
  ⟨D, dd, _, .ref C, b, fs, rfl, rfl, er, rfl, fun u r => r, e, hd, k⟩
theorem wIsHT {K : PySem.W.Frag} {H : Hp} {Q : VK} {D dd : Addr} {T : String} {b : Bool} {fs : List (Str × V)} (er : ErrC K D) (e : PySem.W.kitOne K (.ref D) (.type T) = some b) (hd : H dd = some (.xd fs)) (k : Q (.bl b) H) : rIsH K a (.ref D) (some dd) [.ref a, .ty T] H Q :=
  ⟨D, dd, _, .type T, b, fs, rfl, rfl, er, rfl, fun u r => r, e, hd, k⟩
theorem wXfV {D dd : Addr} {fld : Str} {fs : List (Str × V)} {v : V} {σ : L2.St} {H : Hp} {Q : VK} {i : Nat} (h : σ[i]? = some (some (.ref a))) (hd : H dd = some (.xd fs)) (l : fs.lookup fld = some v) (k : Q v H) : tXf a (.ref D) (some dd) D fld (tVar i) σ H Q :=
  ⟨.ref a, h, rfl, rfl, dd, fs, v, rfl, hd, l, k⟩
end
end Ver
/-! enumerate of a tuple, walked by a for. -/
namespace EnT
open PySem PySem.Spec PyProof.Rows L2
/-- the items of the tuple at a, each behind its number in a new tuple -/
def Itet (K : PySem.W.Frag) (a : Addr) : It where
  go := fun i H => ∃ (xs : List V) (x : V), SqT K H a xs ∧ xs[i]? = some x
  yld := fun i H v H' => ∃ (T : Addr) (x : V), v = .ref T ∧ H T = none ∧ H' = upd H T (.tup [.int (i : Nat), x]) ∧ ∀ xs, SqT K H a xs → xs[i]? = some x
  stop := fun i H => ∃ xs : List V, SqT K H a xs ∧ i = xs.length
theorem new_one {v : Value} {o : Obj} {Hs : Heap → Prop} (B : Begins v o Hs) : Meets (Builtin.«enumerate.__new__» ⟨[.type "enumerate", v], []⟩) (fun _ R s => Hs s.heap ∧
    R (.ok (.ret (.ref (s.heap.push o).objs.size))) { s with heap := (s.heap.push o).push { cls := .type "enumerate", data := .fields #[.none, .bool false, .ref s.heap.objs.size, rawInt 0, .none, .none] } }) :=
  .of_wp fun prog w A R s want => by
    obtain ⟨hp, g, d, tk, os⟩ := s
    obtain ⟨h1, want⟩ := want
    have hsub := sub_enumerate
    have start_ : ∀ {A' : Around} {E : Value → Shared → Prop} {Q : Value → Shared → Prop}, Q (.ref hp.objs.size) ⟨hp.push o, g, d, tk, os⟩ → wpAny (model prog w) A' (pyIter v) Q E ⟨hp, g, d, tk, os⟩ := fun q => B.iter prog w _ _ ⟨hp, g, d, tk, os⟩ _ h1 q
    wp_walk using start_
    refine wpAny_stack_any fun st => wpAny_pure ?_
    split
    case h_1 c _ _ _ _ _ =>
      cases (c == Value.type "enumerate") <;> (wp_walk using start_; exact ⟨_, rfl, want⟩)
    case h_2 =>
      wp_walk using start_
      exact ⟨_, rfl, want⟩
theorem begins1 {prog : Program} {w : World} {A : Around} {E : Value → Shared → Prop} {s : Shared} {v : Value} {o : Obj} {Hs : Heap → Prop} {Q : Value → Shared → Prop} (B : Begins v o Hs) (h1 : Hs s.heap)
    (k : ∀ h', IsEnum h' (s.heap.objs.size + 1) s.heap.objs.size 0 .none → h'.get? s.heap.objs.size = some o → (∀ b u, s.heap.get? b = some u → h'.get? b = some u) → Q (.ref (s.heap.objs.size + 1)) { s with heap := h' }) :
    wpAny (model prog w) A (call (.type "enumerate") [v]) Q E s := by
  refine callType_new F.called_enumerate (by decide) (F.typeCall_enumerate_1 _) (F.newCall_enumerate_1 _) (fun obj => F.args_object_init_2 obj _) F.entry_enumerate_new (new_one B) ⟨h1, ?_⟩
  have size : (s.heap.push o).objs.size = s.heap.objs.size + 1 := Heap.size_push ..
  show _ ∧ _
  rw [size]
  have made := Heap.get?_push_size (s.heap.push o) (o := { cls := .type "enumerate", data := .fields #[.none, .bool false, .ref s.heap.objs.size, rawInt 0, .none, .none] }) rfl
  rw [size] at made
  exact ⟨⟨_, made, rfl⟩, k _ made (Heap.get?_push_of_some _ (Heap.get?_push_size _ B.free)) fun b u z => Heap.get?_push_of_some _ (Heap.get?_push_of_some _ z)⟩
theorem turn_enT {P : Program} {w : World} {K : PySem.W.Frag} {elts : List Expr} {kk : Nat} {tpos : Pos} {a e it : Addr} (ne : e ≠ it) (na : a ≠ it) (nea : e ≠ a) :
    Turn P w K (.Tuple elts kk tpos) (Itet K a) [e, it] e (fun i h => (∃ old, IsEnum h e it ((i : Nat) : Int) old) ∧ h.IsTupleIter it a i) where
  mem := List.mem_cons_self
  obj := by
    rintro i h ⟨⟨old, he⟩, o, ho, _, hd⟩ b hb
    simp only [List.mem_cons, List.not_mem_nil, or_false] at hb
    rcases hb with rfl | rfl
    · exact ⟨_, he, fun v q => by cases q⟩
    · exact ⟨o, ho, fun v q => by rw [hd] at q; cases q⟩
  keep := by
    rintro i h h' ⟨⟨old, he⟩, hi⟩ k
    exact ⟨⟨old, k e (by simp) _ he⟩, hi.at fun o q => k it (by simp) o q⟩
  item := by
    intro X hP hw hK hc i pins s σ H E I hf st hg
    subst hP hw hK
    obtain ⟨⟨old, he⟩, hi⟩ := st
    obtain ⟨xs, x, sq, hx⟩ := hg
    obtain ⟨its, rv, p, _⟩ := I.tuple sq
    obtain ⟨u, hu, ru⟩ := rv.get hx
    have hh : X.A.in1.handled = none := I.ok.hd hc
    have lt : i < its.toArray.size := by
      have := (List.getElem?_eq_some_iff.mp hu).1
      simpa using this
    have off : e ∉ [it, a] := by
      simp only [List.mem_cons, List.not_mem_nil, or_false, not_or]
      exact ⟨ne, nea⟩
    have elt : e < s.heap.objs.size := Heap.lt_size he
    have ilt : it < s.heap.objs.size := hi.elim fun o q => Heap.lt_size q.1
    refine wpAny_pyNext_enum_itemD (A := X.A) (Draws.tuple hh it a na its.toArray) he ⟨hi, (show s.heap.IsTuple a its.toArray from p)⟩ lt ne off ?_
    intro x1 h' tk p1 out st1 hT _ hk
    have eu : x1 = u := by
      have : its[i]? = some x1 := by simpa using p1
      exact Option.some.inj (this.symm.trans hu)
    subst eu
    refine ⟨_, rfl, wpAny_letOwnedTupleGo_enum (s := { s with heap := h', toks := tk + 1 }) out ?_⟩
    intro h2 e2 sb
    have T2 := (sb.2 _ (Nat.ne_of_gt elt)).trans hT
    have new : ObjOk X.prog X.w (upd H s.heap.objs.size (.tup [.int (i : Nat), x])) h2 s.heap.objs.size (.tup [.int (i : Nat), x]) :=
      ⟨by show 2 ≤ sizeLine; decide, [.int i tk, x1], .cons ⟨_, rfl⟩ (.cons ru .nil), ⟨_, T2, rfl, _, rfl⟩⟩
    have keep : ∀ b o, b ∉ [e, it] → s.heap.get? b = some o → h2.get? b = some o := fun b o hb q => by
      simp only [List.mem_cons, List.not_mem_nil, or_false, not_or] at hb
      exact (sb.2 b hb.1).trans (hk b o hb.1 hb.2 q)
    have I1 : Inv X pins σ (upd H s.heap.objs.size (.tup [.int (i : Nat), x])) { s with heap := h2, toks := tk + 1 } := I.turnedNew (t' := tk + 1) keep hf (Nat.le_refl _) new
    refine ⟨.ref s.heap.objs.size, _, I1, rfl, ⟨_, x, rfl, I.hok.fresh (Nat.le_refl _), rfl, fun l hl => by rw [I.tuple_inj hl sq]; exact hx⟩, ⟨⟨x1, ?_⟩, ?_⟩, fun b hb => ?_⟩
    · have e1 : ((i + 1 : Nat) : Int) = (i : Int) + 1 := by omega
      rw [e1]
      exact e2
    · exact st1.1.at fun o q => (sb.2 it ne.symm).trans q
    · have hb' : b < s.heap.objs.size := by
        simp only [List.mem_cons, List.not_mem_nil, or_false] at hb
        rcases hb with rfl | rfl
        · exact elt
        · exact ilt
      rw [upd_ne (Nat.ne_of_lt hb')]
      exact (hf b hb).1
  done := by
    intro X hP hw hK hc i pins s σ H E I hf st hg
    subst hP hw hK
    obtain ⟨⟨old, he⟩, hi⟩ := st
    obtain ⟨xs, sq, hend⟩ := hg
    obtain ⟨its, rv, p, _⟩ := I.tuple sq
    have hh : X.A.in1.handled = none := I.ok.hd hc
    have el : its.toArray.size = i := by
      have := rv.length
      simp only [List.size_toArray]
      omega
    have st' : (fun j h => h.IsTupleIter it a j ∧ h.IsTuple a its.toArray) its.toArray.size s.heap := by
      rw [el]
      exact ⟨hi, p⟩
    refine wpAny_pyNext_enum_endD (A := X.A) (Draws.tuple hh it a na its.toArray) he st' fun h' eb => ?_
    refine ⟨rfl, I.turnedL (t' := s.toks) (ch := [e, it]) (fun b o hb q => ?_) hf⟩
    simp only [List.mem_cons, List.not_mem_nil, or_false, not_or] at hb
    exact eb b o hb.2 q
  self := fun A i s Q E st h => let ⟨⟨_, he⟩, _⟩ := st; wpAny_pyIter_enum he h
def iEnT (K : PySem.W.Frag) (ta : TA) : TI := fun σ H R => ta σ H fun vs H1 => ∃ (a : Addr) (xs : List V), vs = [.ref a] ∧ SqT K H1 a xs ∧ R (Itet K a) H1
theorem pi_enT {X : Cx} {K : PySem.W.Frag} {e : Expr} {ta : TA} {p pos tpos : Pos} {elts : List Expr} {kk : Nat} (hK : X.K = K) (hg : Gl X "enumerate") (hm : X.mg "enumerate" = none) (ha : PA X [e] ta) (hs : starEach [e] X.env = [(false, eval e X.env)] := by rfl) :
    PI X (.Tuple elts kk tpos) (.Call (.Name "enumerate" p) [e] [] pos) (iEnT K ta) := by
  subst hK
  constructor
  intro pins s σ H R I want
  refine Call_ (ld_blt I hg hm boot_enumerate (PyProof.Rows.callWith_type1 (thn (ha.run pos pins s σ H _ I want) ?_) hs rfl))
  rintro us s1 ⟨vs, H1, I1, r1, a, xs, rfl, sq, q⟩
  obtain ⟨u, rfl, ra⟩ := vals1 r1
  cases ra
  obtain ⟨its, rv, p1, _⟩ := I1.tuple sq
  have la : a < s1.heap.objs.size := p1.elim fun o z => Heap.lt_size z.1
  refine begins1 (begins_tuple a its.toArray) (show s1.heap.IsTuple a its.toArray from p1) fun h' he hi hk => wpAny_pyIter_enum he ?_
  have I2 : Inv X pins σ H1 { s1 with heap := h' } := I1.kept (t' := s1.toks) hk
  refine ⟨s1.heap.objs.size + 1, [s1.heap.objs.size + 1, s1.heap.objs.size], _, _, H1, rfl, I2, turn_enT (Nat.succ_ne_self _) (Nat.ne_of_lt la) (Nat.ne_of_gt (Nat.lt_succ_of_lt la)), ⟨⟨_, he⟩, ⟨_, hi, rfl, rfl⟩⟩, fun b hb => ?_, q⟩
  have le : s1.heap.objs.size ≤ b := by
    simp only [List.mem_cons, List.not_mem_nil, or_false] at hb
    rcases hb with rfl | rfl
    · exact Nat.le_succ _
    · exact Nat.le_refl _
  exact I1.fpOk le (I1.hok.fresh le)
/-- a loop over such an enumeration -/
theorem for_enT {K : PySem.W.Frag} {a : Addr} {xs : List V} {g : TG} {tb : TS} {D : Ends} {σ : L2.St} {H : Hp} (Pv : Nat → L2.St → Hp → Prop) (h0 : Pv 0 σ H) (hq : ∀ i σ H, Pv i σ H → SqT K H a xs)
    (hs : ∀ (i : Nat) (x : V) (T : Addr) (σ : L2.St) (H : Hp), xs[i]? = some x → Pv i σ H → H T = none → g (.ref T) σ (upd H T (.tup [.int (i : Nat), x])) fun σ2 H2 => tb { D with nx := Pv (i + 1), ct := Pv (i + 1), bk := D.nx } σ2 H2)
    (hd : ∀ σ H, Pv xs.length σ H → D.nx σ H) :
    ∃ W : Nat → Nat → L2.St → Hp → Prop, (∃ m, W 0 m σ H) ∧ ∀ i m σ H, W i m σ H →
      ((Itet K a).stop i H ∧ D.nx σ H) ∨ ((Itet K a).go i H ∧ ∃ N : L2.St → Hp → Prop, (∀ σ' H', N σ' H' → ∃ m', m' < m ∧ W (i + 1) m' σ' H') ∧ ∀ v H', (Itet K a).yld i H v H' → g v σ H' fun σ2 H2 => tb { D with nx := N, ct := N, bk := D.nx } σ2 H2) := by
  refine ⟨fun i m σ H => m = xs.length - i ∧ i ≤ xs.length ∧ Pv i σ H, ⟨xs.length, by simp, Nat.zero_le _, h0⟩, ?_⟩
  rintro i m σ H ⟨rfl, hi, P⟩
  have q := hq i σ H P
  by_cases lt : i < xs.length
  · refine .inr ⟨⟨xs, xs[i], q, List.getElem?_eq_getElem lt⟩, Pv (i + 1), fun σ' H' P' => ⟨xs.length - (i + 1), by omega, rfl, lt, P'⟩, ?_⟩
    rintro v H' ⟨T, x, rfl, nT, rfl, f⟩
    exact hs i x T σ H (f xs q) P nT
  · have e : i = xs.length := by omega
    subst e
    exact .inl ⟨⟨xs, q, rfl⟩, hd σ H P⟩
end EnT
/-! Rules for laws about texts: str of a number or a text, a text once or not at all, xs[::-1] of a list, repr beside a held error; numbers read back. -/
namespace Ver
open PySem PySem.Spec PyProof.Rows L2
open TL (numL numL_lt numL_step tl_num)
theorem Quiet.u65 {k : Nat} {A : Around} (q : Quiet k A) : A.units + 65 < cLine := by have := q.room.un; omega
/-- str(x), x a number or a text -/
def rStrIS : List V → Hp → VK → Prop := fun xs H Q => (∃ i, xs = [.int i] ∧ i.natAbs.log2 < 1920 ∧ Q (.str (toString i)) H) ∨ ∃ a, xs = [.str a] ∧ Q (.str a) H
theorem call_strIS {X : Cx} : CallR X (.type "str") rStrIS := by
  intro pins s σ H xs us Q I r want
  rcases want with want | want
  · exact call_str_int pins s σ H xs us Q I r want
  · exact SkE.call_str_str pins s σ H xs us Q I r want
/-- z * k, k 0 or 1 -/
def rMulS01 : R2 := fun x y H Q => ∃ (z : Str) (b : Bool), x = .str z ∧ y = .int (if b = true then 1 else 0) ∧ Q (.str (if b = true then z else ⟨#[]⟩)) H
theorem op_mulS01 {X : Cx} : OpR X (binaryOp .Mult) rMulS01 := by
  intro pins s σ H x y v u Q I rx ry want
  obtain ⟨z, b, rfl, rfl, q⟩ := want
  obtain ⟨t, rfl⟩ := rx
  obtain ⟨t', rfl⟩ := ry
  cases b with
  | false =>
    refine PySem.P.mul_str (by decide) (fun h _ => absurd (show ((0 : Int) < 1) by decide) h) (fun h _ => absurd (show ((0 : Int) < 1) by decide) h) ?_
    rw [if_pos (by decide)]
    exact ⟨by decide, .str Str.empty, H, I.tok _, ⟨_, rfl⟩, q⟩
  | true =>
    refine PySem.P.mul_str (by decide) (fun _ h => absurd h (by simp)) (fun _ h => absurd h (by simp)) ?_
    rw [if_neg (by decide), if_pos (by simp)]
    exact ⟨.str z, H, I.tok _, ⟨t, rfl⟩, q⟩
/-- xs[::-1] of a list -/
def tRevL (K : PySem.W.Frag) (te : TE) : TE := fun σ H Q => te σ H fun x H1 => ∃ a xs, x = .ref a ∧ SqL K H1 a xs ∧ Al Q (.lst xs.reverse) H1
theorem pe_revL {X : Cx} {K : PySem.W.Frag} {e : Expr} {te : TE} {k : Nat} {p1 p2 p3 pos : Pos} (hK : X.K = K) (he : PE X e te) : PE X (.Subscript e (.Slice none none (some (.UnaryOp .USub (.Constant (.int 1) k p1) p2)) p3) pos) (tRevL K te) := by
  subst hK
  constructor
  intro pins s σ H Q I want
  refine Subscript_ (thn (he.run pins s σ H _ I want) ?_)
  rintro v s1 ⟨x, H1, I1, r1, a, xs, rfl, at_, q⟩
  cases r1
  have step : PO X (some (.UnaryOp .USub (.Constant (.int 1) k p1) p2)) (tPart (tUn (rU fun i => .int (-i)) (tC (.int 1)))) := po_some (pe_un un_neg pe_int)
  refine wpAny_Slice (thn (po_none.run pins s1 σ H1 (fun o G => o = none ∧ G = H1) I1 ⟨rfl, rfl⟩) ?_)
  rintro vl s2 ⟨_, _, I2, pl, rfl, rfl⟩
  refine thn (po_none.run pins s2 σ _ (fun o G => o = none ∧ G = _) I2 ⟨rfl, rfl⟩) ?_
  rintro vu s3 ⟨_, _, I3, pu, rfl, rfl⟩
  refine thn (step.run pins s3 σ _ (fun o G => o = some (-1) ∧ G = _) I3 ⟨1, rfl, -1, rfl, rfl, rfl⟩) ?_
  rintro vs s4 ⟨_, G, I4, ps, rfl, rfl⟩
  have I5 := I4.kept (t' := s4.toks) (h' := s4.heap.push { cls := .type "slice", data := .fields #[vl, vu, vs] }) fun b o z => Heap.get?_push_of_some _ z
  obtain ⟨its, r, lst, size⟩ := I5.list at_
  have len := r.length
  refine tail_any (ops := [.ref a, .ref s4.heap.objs.size]) lst.isList.typeIs slot_list_getitem.lookup ?_ (by with_unfolding_all rfl)
  refine wpAny_getItem_list_slice lst.isList (Heap.IsSliceOf.new _ vl vu vs) pl pu ps (by decide) ?_ (by rw [List.size_toArray]; omega)
  rw [PySem.W.krv_pick]
  refine ⟨.ref _, _, I5.laid (t' := s4.toks) (o := .lst xs.reverse) (fun b o z => Heap.get?_push_of_some _ z) (Nat.le_refl _) ?_, rfl, q _ (I5.hok.fresh (Nat.le_refl _))⟩
  refine ⟨by rw [List.length_reverse]; exact size, its.reverse, 0, r.reverse, ?_⟩
  exact Heap.get?_push_size _ rfl
section
variable {K : PySem.W.Frag} {σ : L2.St} {H : Hp} {Q : VK} {te : TE} {ta : TA} {R : It → Hp → Prop}
theorem wRevL (k : te σ H fun x H1 => ∃ a xs, x = .ref a ∧ SqL K H1 a xs ∧ Al Q (.lst xs.reverse) H1) : tRevL K te σ H Q := k
theorem wIRng3 (k : ta σ H fun vs H1 => ∃ (i j c : Int) (n : Nat), vs = [.int i, .int j, .int c] ∧ RgC i j c n ∧ R (Itc i c n) H1) : iRng3 ta σ H R := k
theorem wIEnum (k : ta σ H fun vs H1 => ∃ a xs, vs = [.ref a] ∧ SqL K H1 a xs ∧ R (Ite K a) H1) : iEnum K ta σ H R := k
theorem wIEnT (k : ta σ H fun vs H1 => ∃ (a : Addr) (xs : List V), vs = [.ref a] ∧ SqT K H1 a xs ∧ R (EnT.Itet K a) H1) : EnT.iEnT K ta σ H R := k
/-- a loop over the enumeration of a list -/
theorem for_enL {a : Addr} {xs : List V} {g : TG} {tb : TS} {D : Ends} (Pv : Nat → L2.St → Hp → Prop) (h0 : Pv 0 σ H) (hq : ∀ i σ H, Pv i σ H → SqL K H a xs)
    (hs : ∀ (i : Nat) (x : V) (T : Addr) (σ : L2.St) (H : Hp), xs[i]? = some x → Pv i σ H → H T = none → g (.ref T) σ (upd H T (.tup [.int (i : Nat), x])) fun σ2 H2 => tb { D with nx := Pv (i + 1), ct := Pv (i + 1), bk := D.nx } σ2 H2)
    (hd : ∀ σ H, Pv xs.length σ H → D.nx σ H) :
    ∃ W : Nat → Nat → L2.St → Hp → Prop, (∃ m, W 0 m σ H) ∧ ∀ i m σ H, W i m σ H →
      ((Ite K a).stop i H ∧ D.nx σ H) ∨ ((Ite K a).go i H ∧ ∃ N : L2.St → Hp → Prop, (∀ σ' H', N σ' H' → ∃ m', m' < m ∧ W (i + 1) m' σ' H') ∧ ∀ v H', (Ite K a).yld i H v H' → g v σ H' fun σ2 H2 => tb { D with nx := N, ct := N, bk := D.nx } σ2 H2) := by
  refine ⟨fun i m σ H => m = xs.length - i ∧ i ≤ xs.length ∧ Pv i σ H, ⟨xs.length, by simp, Nat.zero_le _, h0⟩, ?_⟩
  rintro i m σ H ⟨rfl, hi, P⟩
  have q := hq i σ H P
  by_cases lt : i < xs.length
  · refine .inr ⟨⟨xs, xs[i], q, List.getElem?_eq_getElem lt⟩, Pv (i + 1), fun σ' H' P' => ⟨xs.length - (i + 1), by omega, rfl, lt, P'⟩, ?_⟩
    rintro v H' ⟨T, x, rfl, nT, rfl, f⟩
    exact hs i x T σ H (f xs q) P nT
  · have e : i = xs.length := by omega
    subst e
    exact .inl ⟨⟨xs, q, Nat.le_refl _⟩, hd σ H P⟩
end
/-- repr(x), an error held or not -/
theorem call_reprH {X : Cx} (still : X.A.guards = some []) (room : X.A.units + 65 < cLine) : CallR X (.builtin "repr") rRepr := by
  intro pins s σ H xs us Q I rel want
  obtain ⟨v, l, d, n, rfl, rp, hn, q⟩ := want
  obtain ⟨u, rfl, r⟩ := vals1 rel
  obtain ⟨a1, a2, a3, a4⟩ := rp.able
  have size : d.shown.length ≤ sizeLine := by
    have : (10000000 : Nat) ≤ sizeLine := by decide
    omega
  obtain ⟨as, rd, hs⟩ := rp.reads I.hok r
  have done : ∀ tk tk', EP X pins σ Q (.str d.shown tk) { s with toks := tk' } := fun tk tk' => ⟨.str d.shown, H, I.tok _, ⟨_, rfl⟩, q⟩
  have deep : ∀ {a : Addr}, Reads s.heap (.ref a) d as → wpAny (model X.prog X.w) X.A (call (.builtin "repr") [.ref a]) (EP X pins σ Q) X.xe s := fun {a} rd => by
    refine repr_of_reads' (h₀ := s.heap) rd a1 (fun z => hs (a2 z)) still (by omega) (fun _ _ z => z) (fun h' u tk keep => ?_) size
    exact ⟨.str d.shown, H, I.kept keep, ⟨_, rfl⟩, q⟩
  cases rd with
  | none => exact PySem.P.repr_of_none (done _ _)
  | bool b => exact PySem.P.repr_of_bool (done _ _)
  | int i t => exact PySem.P.repr_of_int (by simpa [PyData.showable] using a1) (done _ _)
  | str z t => exact PySem.P.repr_of_str (done _ _) size
  | list h1 h2 h3 h4 => exact deep (.list h1 h2 h3 h4)
  | tuple h1 h2 h3 h4 => exact deep (.tuple h1 h2 h3 h4)
  | dict h1 h2 h3 h4 h5 => exact deep (.dict h1 h2 h3 h4 h5)

/-- join with the written part named -/
theorem pe_joinV {X : Cx} {K : PySem.W.Frag} {o e : Expr} {to te : TE} {apos pos : Pos} (hK : X.K = K) (ho : PE X o to) (he : PE X e te) (hs : starEach [e] X.env = [(false, eval e X.env)] := by rfl) (hbase : attributeBase o "join" X.env (eval o X.env) = eval o X.env := by rfl) (hline : (apos.endLine == pos.line) = true := by rfl) :
    PE X (.Call (.Attribute o "join" apos) [e] [] pos) (tM1 (fun x xs H Q => ∃ a p, ∃ ys : List Str, x = .str a ∧ xs = [.ref p] ∧ (SqL K H p (ys.map V.str) ∨ SqT K H p (ys.map V.str)) ∧
      (ys.map (·.length)).sum + ys.length * a.length ≤ 16777216 ∧ Q (.str (Txt.join a ys)) H) to te) := hK ▸ pe_join ho he hs hbase hline
/-! ### numbers of up to four figures, as texts -/
def numT (n : Nat) : Str := toString ((n : Nat) : Int)
structure NumT (n : Nat) (z : Str) : Prop where
  digits : ∀ c ∈ z.cps.toList, 48 ≤ c ∧ c ≤ 57
  len : 1 ≤ z.length ∧ z.length ≤ 4
  head : ∃ c r, z.cps.toList = c :: r ∧ c ≠ 48
  reads : intText? (("0" : Str) ++ z) = some (n : Int)
theorem numL_ok : ∀ k : Nat, ∀ n : Nat, 10 ^ k ≤ n → n < 10 ^ (k + 1) → (∀ c ∈ numL n, 48 ≤ c ∧ c ≤ 57) ∧ (numL n).length = k + 1 ∧ ∃ c r, numL n = c :: r ∧ c ≠ 48
  | 0, n, h0, h1 => by
    have h0 : 1 ≤ n := h0
    have h1 : n < 10 := h1
    rw [numL_lt h1]
    refine ⟨fun c hc => ?_, rfl, _, _, rfl, by omega⟩
    obtain rfl := List.mem_singleton.mp hc
    omega
  | k + 1, n, h0, h1 => by
    have p : 10 ≤ n := by
      have : 10 ^ 1 ≤ 10 ^ (k + 1) := Nat.pow_le_pow_right (by omega) (by omega)
      omega
    rw [numL_step p]
    have e1 : 10 ^ (k + 1) = 10 * 10 ^ k := by rw [Nat.pow_succ]; omega
    have e2 : 10 ^ (k + 1 + 1) = 10 * 10 ^ (k + 1) := by rw [Nat.pow_succ (n := 10) (m := k + 1)]; omega
    obtain ⟨q1, q2, c, r, q3, q4⟩ := numL_ok k (n / 10) (by omega) (by omega)
    refine ⟨fun d hd => ?_, by rw [List.length_append, q2]; rfl, c, r ++ [48 + n % 10], by rw [q3]; rfl, q4⟩
    rcases List.mem_append.mp hd with hd | hd
    · exact q1 d hd
    · obtain rfl := List.mem_singleton.mp hd
      have := Nat.mod_lt n (show 0 < 10 by decide)
      omega
theorem numT_ok {n : Nat} (h0 : 1 ≤ n) (h1 : n ≤ 9999) : NumT n (numT n) := by
  obtain ⟨k, hk, p0, p1⟩ : ∃ k, k ≤ 3 ∧ 10 ^ k ≤ n ∧ n < 10 ^ (k + 1) := by
    by_cases a : n < 10
    · exact ⟨0, by omega, h0, a⟩
    · by_cases b : n < 100
      · exact ⟨1, by omega, by omega, b⟩
      · by_cases c : n < 1000
        · exact ⟨2, by omega, by omega, c⟩
        · exact ⟨3, by omega, by omega, by omega⟩
  obtain ⟨q1, q2, c, r, q3, q4⟩ := numL_ok k n p0 p1
  have e : (numT n).cps.toList = numL n := tl_num n
  have len : (numT n).length = k + 1 := by
    show (numT n).cps.size = _
    rw [← Array.length_toList, e, q2]
  have dg : ∀ d ∈ (numT n).cps.toList, 48 ≤ d ∧ d ≤ 57 := by rw [e]; exact q1
  refine ⟨dg, by omega, ⟨c, r, by rw [e]; exact q3, q4⟩, ?_⟩
  have rd : intText? (numT n) = some (n : Int) := PySem.W.KIN.num_reads (by omega) (by omega)
  have ne : (numT n).cps.toList ≠ [] := by rw [e, q3]; exact List.cons_ne_nil _ _
  rw [PySem.intText_digits dg ne (by omega)] at rd
  have e0 : (("0" : Str) ++ numT n).cps.toList = 48 :: (numT n).cps.toList := by
    show ((("0" : Str).cps ++ (numT n).cps)).toList = _
    rw [Array.toList_append]
    rfl
  have l0 : (("0" : Str) ++ numT n).length = 1 + (numT n).length := by
    rw [app_len]
    rfl
  rw [PySem.intText_digits (x := ("0" : Str) ++ numT n) (by rw [e0]; intro d hd; rcases List.mem_cons.mp hd with rfl | hd; exact ⟨by decide, by decide⟩; exact dg d hd) (by rw [e0]; exact List.cons_ne_nil _ _) (by omega), e0]
  exact rd
end Ver
/-! zip of a list and a text, walked by a for or a comprehension. -/
namespace ZipL
open PySem PySem.Spec PyProof.Rows L2
/-- the items of the tuple at a beside the signs of x, each pair in a new tuple -/
def ItzL (K : PySem.W.Frag) (a : Addr) (x : Str) : It where
  go := fun i H => ∃ (xs : List V) (v : V) (c : Nat), SqL K H a xs ∧ xs[i]? = some v ∧ x.cps[i]? = some c
  yld := fun i H v H' => ∃ (T : Addr) (y : V) (c : Nat), v = .ref T ∧ H T = none ∧ H' = upd H T (.tup [y, .str ⟨#[c]⟩]) ∧ (∀ xs, SqL K H a xs → xs[i]? = some y) ∧ x.cps[i]? = some c
  stop := fun i H => ∃ xs : List V, SqL K H a xs ∧ i ≤ xs.length ∧ i ≤ x.cps.size ∧ (i = xs.length ∨ i = x.cps.size)
/-- how the cells of such a zip stand ahead of the turn i -/
def StL (a z TI TO i1 i2 : Addr) (x : Str) (t : Tok) (i : Nat) (h : Heap) : Prop :=
  IsZip h z TI TO .none ∧ IsTupOf2 h TI (.ref i1) (.ref i2) ∧ (∃ a1 a2, IsTupOf2 h TO a1 a2) ∧ h.IsListIter i1 a i ∧ h.IsStrIter i2 (strIterType x) x t i
theorem turn_zipL {P : Program} {w : World} {K : PySem.W.Frag} {elts : List Expr} {kk : Nat} {tpos : Pos} {a z TI TO i1 i2 : Addr} {x : Str} {t : Tok} (D : ZipSep2 z TI TO i1 i2 [i1, a] [i2]) (hne : a ≠ i1) :
    Turn P w K (.Tuple elts kk tpos) (ItzL K a x) [z, TI, TO, i1, i2] z (StL a z TI TO i1 i2 x t) where
  mem := List.mem_cons_self
  obj := by
    rintro i h ⟨hz, hTI, ⟨b1, b2, hTO⟩, ⟨o1, e1, _, d1⟩, ⟨o2, e2, _, d2⟩⟩ c hc
    simp only [List.mem_cons, List.not_mem_nil, or_false] at hc
    rcases hc with rfl | rfl | rfl | rfl | rfl
    · exact ⟨_, hz, fun v q => by cases q⟩
    · exact ⟨_, hTI, fun v q => by cases q⟩
    · exact ⟨_, hTO, fun v q => by cases q⟩
    · exact ⟨o1, e1, fun v q => by rw [d1] at q; cases q⟩
    · exact ⟨o2, e2, fun v q => by rw [d2] at q; cases q⟩
  keep := by
    rintro i h h' ⟨hz, hTI, ⟨b1, b2, hTO⟩, h1, ⟨o2, e2, c2, d2⟩⟩ k
    exact ⟨k z (by simp) _ hz, k TI (by simp) _ hTI, ⟨b1, b2, k TO (by simp) _ hTO⟩, h1.at fun o q => k i1 (by simp) o q, ⟨o2, k i2 (by simp) _ e2, c2, d2⟩⟩
  item := by
    intro X hP hw hK hc i pins s σ H E I hf st hg
    subst hP hw hK
    obtain ⟨hz, hTI, ⟨b1, b2, hTO⟩, h1, h2⟩ := st
    obtain ⟨xs, y, c, hq, hy, hcx⟩ := hg
    obtain ⟨its, rv, p, _⟩ := I.list hq
    have hh : X.A.in1.handled = none := I.ok.hd hc
    have l1 : i < its.toArray.size := by
      have := (List.getElem?_eq_some_iff.mp hy).1
      have := rv.length
      simp only [List.size_toArray]
      omega
    have l2 : i < x.cps.size := (Array.getElem?_eq_some_iff.mp hcx).1
    refine wpAny_pyNext_zipD2_item (A := X.A) D (Draws.list hh i1 a hne its.toArray) (Draws.text hh i2 x t) hz hTI hTO ⟨h1, p.isList⟩ h2 l1 l2 fun x1 x2 h' tk p1 p2 z' TO' s1 s2 hT hsz hk => ?_
    obtain ⟨c', u', hc', rfl⟩ := p2
    have ec : c' = c := Option.some.inj (hc'.symm.trans hcx)
    subst ec
    obtain ⟨u, hu, ru⟩ := rv.get hy
    have eu : x1 = u := by
      have : its[i]? = some x1 := by simpa using p1
      exact Option.some.inj (this.symm.trans hu)
    subst eu
    refine ⟨_, rfl, ?_⟩
    refine wpAny_letOwnedTupleGo_zip (s := { s with heap := h', toks := tk }) z' fun h2' z2 sb => ?_
    have zlt : z < s.heap.objs.size := Heap.lt_size hz
    have T2 : h2'.get? s.heap.objs.size = some { cls := .type "tuple", data := .seq #[x1, .str ⟨#[c']⟩ u'] } := (sb.2 _ (Nat.ne_of_gt zlt)).trans hT
    have new : ObjOk X.prog X.w (upd H s.heap.objs.size (.tup [y, .str ⟨#[c']⟩])) h2' s.heap.objs.size (.tup [y, .str ⟨#[c']⟩]) :=
      ⟨by show 2 ≤ sizeLine; decide, [x1, .str ⟨#[c']⟩ u'], .cons ru (.cons ⟨u', rfl⟩ .nil), ⟨_, T2, rfl, _, rfl⟩⟩
    have kk' : ∀ b o, b ∉ [z, TI, TO, i1, i2] → s.heap.get? b = some o → h2'.get? b = some o := fun b o hb q => by
      simp only [List.mem_cons, List.not_mem_nil, or_false, not_or] at hb
      exact (sb.2 b hb.1).trans (hk b o hb.1 hb.2.2.1 hb.2.2.2.1 hb.2.2.2.2 q)
    have I1 : Inv X pins σ (upd H s.heap.objs.size (.tup [y, .str ⟨#[c']⟩])) { s with heap := h2', toks := tk } := I.turnedNew (t' := tk) kk' hf (Nat.le_refl _) new
    refine ⟨.ref s.heap.objs.size, _, I1, rfl, ⟨_, y, c', rfl, I.hok.fresh (Nat.le_refl _), rfl, fun l hl => by rw [I.list_inj hl hq]; exact hy, hcx⟩, ⟨z2, ?_, ⟨x1, .str ⟨#[c']⟩ u', ?_⟩, ?_, ?_⟩, fun b hb => ?_⟩
    · exact (sb.2 _ D.TIz).trans (hk _ _ D.TIz D.TITO D.TIi1 D.TIi2 hTI)
    · exact (sb.2 _ D.TOz).trans TO'
    · exact s1.1.at fun o q => (sb.2 _ D.zi1.symm).trans q
    · obtain ⟨o, e, c0, d⟩ := s2
      exact ⟨o, (sb.2 _ D.zi2.symm).trans e, c0, d⟩
    · have lt : b < s.heap.objs.size := by
        simp only [List.mem_cons, List.not_mem_nil, or_false] at hb
        obtain ⟨o1, e1, _⟩ := h1
        obtain ⟨o2, e2, _⟩ := h2
        rcases hb with rfl | rfl | rfl | rfl | rfl
        · exact zlt
        · exact Heap.lt_size hTI
        · exact Heap.lt_size hTO
        · exact Heap.lt_size e1
        · exact Heap.lt_size e2
      rw [upd_ne (Nat.ne_of_lt lt)]
      exact (hf b hb).1
  done := by
    intro X hP hw hK hc i pins s σ H E I hf st hg
    subst hP hw hK
    obtain ⟨hz, hTI, ⟨b1, b2, hTO⟩, h1, h2⟩ := st
    obtain ⟨xs, hq, le1, le2, hend⟩ := hg
    obtain ⟨its, rv, p, _⟩ := I.list hq
    have hh : X.A.in1.handled = none := I.ok.hd hc
    have el : its.toArray.size = xs.length := by
      have := rv.length
      simp only [List.size_toArray]
      omega
    refine wpAny_pyNext_zipD2_end (A := X.A) D (Draws.list hh i1 a hne its.toArray) (Draws.text hh i2 x t) hz hTI hTO ⟨h1, p.isList⟩ h2 (by omega) le2 (by omega) fun h' tk hk => ?_
    refine ⟨rfl, I.turnedL (t' := tk) (ch := [z, TI, TO, i1, i2]) (fun b o hb q => ?_) hf⟩
    simp only [List.mem_cons, List.not_mem_nil, or_false, not_or] at hb
    exact hk b o hb.1 hb.2.2.1 hb.2.2.2.1 hb.2.2.2.2 q
  self := fun A i s Q E st h => wpAny_pyIter_zip st.1 h
def iZipL (K : PySem.W.Frag) (ta : TA) : TI := fun σ H R => ta σ H fun vs H1 => ∃ (a : Addr) (x : Str) (xs : List V), vs = [.ref a, .str x] ∧ SqL K H1 a xs ∧ R (ItzL K a x) H1
theorem pi_zipL {X : Cx} {K : PySem.W.Frag} {e e2 : Expr} {ta : TA} {p pos tpos : Pos} {elts : List Expr} {kk : Nat} (hK : X.K = K) (hg : Gl X "zip") (hm : X.mg "zip" = none) (ha : PA X [e, e2] ta)
    (hs : starEach [e, e2] X.env = (false, eval e X.env) :: starEach [e2] X.env := by rfl) (hpl : (backTo pos (starEach [e2] X.env)).any (·.1) = false := by rfl) :
    PI X (.Tuple elts kk tpos) (.Call (.Name "zip" p) [e, e2] [] pos) (iZipL K ta) := by
  subst hK
  refine ⟨fun pins s σ H R I h => ?_⟩
  refine Call_ (ld_blt I hg hm PyProof.Rows.boot_zip (PyProof.Rows.callWith_type1 (thn (ha.run pos pins s σ H _ I h) fun us s1 ⟨vs, H1, I1, r1, q1⟩ => ?_) hs hpl))
  obtain ⟨a, x, xs, rfl, hq, q⟩ := q1
  obtain ⟨u1, u2, rfl, ra, t, rfl⟩ := vals2 r1
  cases ra
  obtain ⟨its, rv, p1, _⟩ := I1.list hq
  have la : a < s1.heap.objs.size := p1.lt
  refine zip_begins2 (begins_list a its.toArray) (begins_text x t) p1.isList trivial fun h' hz hTI hTO g1 g2 hsz hk => wpAny_pyIter_zip hz ?_
  have I2 : Inv X pins σ H1 { s1 with heap := h' } := I1.kept (t' := s1.toks) hk
  have D := ZipS.sep_new la
  refine ⟨s1.heap.objs.size + 4, [s1.heap.objs.size + 4, s1.heap.objs.size + 2, s1.heap.objs.size + 3, s1.heap.objs.size, s1.heap.objs.size + 1], _, _, H1, rfl, I2, turn_zipL D (Nat.ne_of_lt la), ⟨hz, hTI, ⟨_, _, hTO⟩, ⟨_, g1, rfl, rfl⟩, ⟨_, g2, rfl, rfl⟩⟩, fun b hb => ?_, q⟩
  have hle : s1.heap.objs.size ≤ b := by
    simp only [List.mem_cons, List.not_mem_nil, or_false] at hb
    rcases hb with rfl | rfl | rfl | rfl | rfl
    · exact Nat.le_add_right _ _
    · exact Nat.le_add_right _ _
    · exact Nat.le_add_right _ _
    · exact Nat.le_refl _
    · exact Nat.le_add_right _ _
  exact I1.fpOk hle (I1.hok.fresh hle)
/-- a loop over such a zip -/
theorem for_zipL {K : PySem.W.Frag} {a : Addr} {x : Str} {xs : List V} {g : TG} {tb : TS} {D : Ends} {σ : L2.St} {H : Hp} (n : Nat) (hn : n = min xs.length x.cps.size) (Pv : Nat → L2.St → Hp → Prop) (h0 : Pv 0 σ H) (hq : ∀ i σ H, Pv i σ H → SqL K H a xs)
    (hs : ∀ (i : Nat) (y : V) (c : Nat) (T : Addr) (σ : L2.St) (H : Hp), xs[i]? = some y → x.cps[i]? = some c → Pv i σ H → H T = none → g (.ref T) σ (upd H T (.tup [y, .str ⟨#[c]⟩])) fun σ2 H2 => tb { D with nx := Pv (i + 1), ct := Pv (i + 1), bk := D.nx } σ2 H2)
    (hd : ∀ σ H, Pv n σ H → D.nx σ H) :
    ∃ W : Nat → Nat → L2.St → Hp → Prop, (∃ m, W 0 m σ H) ∧ ∀ i m σ H, W i m σ H →
      ((ItzL K a x).stop i H ∧ D.nx σ H) ∨ ((ItzL K a x).go i H ∧ ∃ N : L2.St → Hp → Prop, (∀ σ' H', N σ' H' → ∃ m', m' < m ∧ W (i + 1) m' σ' H') ∧ ∀ v H', (ItzL K a x).yld i H v H' → g v σ H' fun σ2 H2 => tb { D with nx := N, ct := N, bk := D.nx } σ2 H2) := by
  refine ⟨fun i m σ H => m = n - i ∧ i ≤ n ∧ Pv i σ H, ⟨n, by simp, Nat.zero_le _, h0⟩, ?_⟩
  rintro i m σ H ⟨rfl, hi, P⟩
  have q := hq i σ H P
  by_cases hlt : i < n
  · have l1 : i < xs.length := by omega
    have l2 : i < x.cps.size := by omega
    refine .inr ⟨⟨xs, xs[i], x.cps[i], q, List.getElem?_eq_getElem l1, Array.getElem?_eq_getElem l2⟩, Pv (i + 1), fun σ' H' P' => ⟨n - (i + 1), by omega, rfl, hlt, P'⟩, ?_⟩
    rintro v H' ⟨T, y, c, rfl, nT, rfl, f, hc⟩
    exact hs i y c T σ H (f xs q) hc P nT
  · have e : i = n := by omega
    subst e
    exact .inl ⟨⟨xs, q, by omega, by omega, by omega⟩, hd σ H P⟩
end ZipL
namespace Ver
open PySem PySem.Spec PyProof.Rows L2
def top (i : Nat) : Stmt := PySem.Challenge.pw_thankways_k14_texts_of_no_books.main.body.getD i (.Pass ⟨0, 0, 0, 0⟩)
abbrev s_is_whole : Stmt := top 21
abbrev s_is_name : Stmt := top 27
abbrev s_is_holder : Stmt := top 28
abbrev s_is_measure : Stmt := top 29
abbrev s_is_deed : Stmt := top 30
abbrev s_is_short_deed : Stmt := top 31
abbrev s_is_deed_between_two : Stmt := top 32
abbrev s_is_figures : Stmt := top 36
abbrev s_read_whole : Stmt := top 37
abbrev s_lines_of : Stmt := top 38
abbrev s_read_part : Stmt := top 39
abbrev s_read_deed : Stmt := top 40
abbrev s_read_book : Stmt := top 41
abbrev s_Lcell : Stmt := top 43
abbrev s_Lpool : Stmt := top 44
abbrev s_Ltake : Stmt := top 45
abbrev s_Lnames : Stmt := top 46
abbrev s_Lsort : Stmt := top 47
abbrev s_Lline : Stmt := top 48
abbrev s_Lis_name : Stmt := top 49
abbrev s_Ldeed_of : Stmt := top 50
abbrev s_Ldue : Stmt := top 51
abbrev s_Ltold : Stmt := top 52
abbrev s_Lspoilt : Stmt := top 53
abbrev s_law : Stmt := top 54
theorem sc_is_whole : FnScope ["thing"] ["thing"] (defScope s_is_whole) := ⟨rfl, rfl, rfl, by decide +kernel, rfl, by decide +kernel, by decide +kernel⟩
theorem sc_is_name : FnScope ["thing", "sign"] ["thing"] (defScope s_is_name) := ⟨rfl, rfl, rfl, by decide +kernel, rfl, by decide +kernel, by decide +kernel⟩
theorem sc_is_holder : FnScope ["thing"] ["thing"] (defScope s_is_holder) := ⟨rfl, rfl, rfl, by decide +kernel, rfl, by decide +kernel, by decide +kernel⟩
theorem sc_is_measure : FnScope ["thing"] ["thing"] (defScope s_is_measure) := ⟨rfl, rfl, rfl, by decide +kernel, rfl, by decide +kernel, by decide +kernel⟩
theorem sc_is_deed : FnScope ["thing"] ["thing"] (defScope s_is_deed) := ⟨rfl, rfl, rfl, by decide +kernel, rfl, by decide +kernel, by decide +kernel⟩
theorem sc_is_short_deed : FnScope ["row", "word"] ["row"] (defScope s_is_short_deed) := ⟨rfl, rfl, rfl, by decide +kernel, rfl, by decide +kernel, by decide +kernel⟩
theorem sc_is_deed_between_two : FnScope ["row"] ["row"] (defScope s_is_deed_between_two) := ⟨rfl, rfl, rfl, by decide +kernel, rfl, by decide +kernel, by decide +kernel⟩
theorem sc_is_figures : FnScope ["text", "sign"] ["text"] (defScope s_is_figures) := ⟨rfl, rfl, rfl, by decide +kernel, rfl, by decide +kernel, by decide +kernel⟩
theorem sc_read_whole : FnScope ["text", "end", "number", "start"] ["text"] (defScope s_read_whole) := ⟨rfl, rfl, rfl, by decide +kernel, rfl, by decide +kernel, by decide +kernel⟩
theorem sc_lines_of : FnScope ["text"] ["text"] (defScope s_lines_of) := ⟨rfl, rfl, rfl, by decide +kernel, rfl, by decide +kernel, by decide +kernel⟩
theorem sc_read_part : FnScope ["word", "number"] ["word"] (defScope s_read_part) := ⟨rfl, rfl, rfl, by decide +kernel, rfl, by decide +kernel, by decide +kernel⟩
theorem sc_read_deed : FnScope ["line", "deed", "word"] ["line"] (defScope s_read_deed) := ⟨rfl, rfl, rfl, by decide +kernel, rfl, by decide +kernel, by decide +kernel⟩
theorem sc_read_book : FnScope ["text", "book", "number", "line", "deed"] ["text"] (defScope s_read_book) := ⟨rfl, rfl, rfl, by decide +kernel, rfl, by decide +kernel, by decide +kernel⟩
theorem sc_Lcell : FnScope ["_law_script", "_law_k", "_law_state", "_law_cell_here"] ["_law_script", "_law_k"] (defScope s_Lcell) := ⟨rfl, rfl, rfl, by decide +kernel, rfl, by decide +kernel, by decide +kernel⟩
theorem sc_Lpool : FnScope ["_law_cell_here", "_law_digits"] ["_law_cell_here"] (defScope s_Lpool) := ⟨rfl, rfl, rfl, by decide +kernel, rfl, by decide +kernel, by decide +kernel⟩
theorem sc_Ltake : FnScope ["_law_pool_here", "_law_many", "_law_state", "_law_digit"] ["_law_pool_here", "_law_many"] (defScope s_Ltake) := ⟨rfl, rfl, rfl, by decide +kernel, rfl, by decide +kernel, by decide +kernel⟩
theorem sc_Lnames : FnScope ["_law_pool_here", "_law_many", "_law_words", "_law_at", "_law_step", "_law_letters", "_law_stem", "_law_put", "_law_first", "_law_found", "_law_k", "_law_name"] ["_law_pool_here", "_law_many"] (defScope s_Lnames) := ⟨rfl, rfl, rfl, by decide +kernel, rfl, by decide +kernel, by decide +kernel⟩
theorem sc_Lsort : FnScope ["_law_e", "_law_some", "_law_bases", "_law_python", "_law_at", "_law_words"] ["_law_e"] (defScope s_Lsort) := ⟨rfl, rfl, rfl, by decide +kernel, rfl, by decide +kernel, by decide +kernel⟩
theorem sc_Lline : FnScope ["_law_pool_here", "_law_names_here", "_law_word", "_law_at", "_law_bits"] ["_law_pool_here", "_law_names_here"] (defScope s_Lline) := ⟨rfl, rfl, rfl, by decide +kernel, rfl, by decide +kernel, by decide +kernel⟩
theorem sc_Lis_name : FnScope ["_law_word", "_law_letters", "_law_sign"] ["_law_word"] (defScope s_Lis_name) := ⟨rfl, rfl, rfl, by decide +kernel, rfl, by decide +kernel, by decide +kernel⟩
theorem sc_Ldeed_of : FnScope ["_law_line_here", "_law_forms", "_law_words", "_law_word", "_law_sort_here", "_law_good", "_law_sign"] ["_law_line_here"] (defScope s_Ldeed_of) := ⟨rfl, rfl, rfl, by decide +kernel, rfl, by decide +kernel, by decide +kernel⟩
theorem sc_Ldue : FnScope ["_law_text", "_law_found", "_law_number", "_law_line_here"] ["_law_text"] (defScope s_Ldue) := ⟨rfl, rfl, rfl, by decide +kernel, rfl, by decide +kernel, by decide +kernel⟩
theorem sc_Ltold : FnScope ["_law_matter", "_law_e", "_law_word"] ["_law_matter"] (defScope s_Ltold) := ⟨rfl, rfl, rfl, by decide +kernel, rfl, by decide +kernel, by decide +kernel⟩
theorem sc_Lspoilt : FnScope ["_law_pool_here", "_law_text", "_law_signs", "_law_lines", "_law_at", "_law_row", "_law_mode", "_law_sign", "_law_turned", "_law_words", "_law_near", "_law_some", "_law_fresh"] ["_law_pool_here", "_law_text"] (defScope s_Lspoilt) := ⟨rfl, rfl, rfl, by decide +kernel, rfl, by decide +kernel, by decide +kernel⟩
theorem sc_law : FnScope ["_law_script", "_law_matter", "_law_k", "_law_pool_here", "_law_names_here", "_law_many", "_law_good", "_law_texts", "_law_turn", "_law_text", "_law_due_here"] ["_law_script"] (defScope s_law) := ⟨rfl, rfl, rfl, by decide +kernel, rfl, by decide +kernel, by decide +kernel⟩
abbrev s_NoText : Stmt := top 11
theorem ini_NoText : PySem.SupX.Ini (inClass s_NoText 0) "row" "row" where
  body := by
    refine ⟨_, _, _, _, _, _, _, _, _, _, _, _, ?_, by with_unfolding_all rfl⟩
    with_unfolding_all rfl
  par0 := ⟨_, _, by with_unfolding_all rfl⟩
  kd := by with_unfolding_all rfl
  co := by with_unfolding_all rfl
  ge := by with_unfolding_all rfl
  cel := by decide +kernel
  sS := by with_unfolding_all rfl
  sC := by with_unfolding_all rfl
  sI := by with_unfolding_all rfl
  sP := by with_unfolding_all rfl
  ne := by decide
  db := by decide
  bnd := fun _ _ _ _ _ _ _ _ _ _ _ => .of_eq (by with_unfolding_all rfl)
structure Adr where
  f_is_whole : Addr
  d_is_whole : FuncData
  f_is_name : Addr
  d_is_name : FuncData
  f_is_holder : Addr
  d_is_holder : FuncData
  f_is_measure : Addr
  d_is_measure : FuncData
  f_is_deed : Addr
  d_is_deed : FuncData
  f_is_short_deed : Addr
  d_is_short_deed : FuncData
  f_is_deed_between_two : Addr
  d_is_deed_between_two : FuncData
  f_is_figures : Addr
  d_is_figures : FuncData
  f_read_whole : Addr
  d_read_whole : FuncData
  f_lines_of : Addr
  d_lines_of : FuncData
  f_read_part : Addr
  d_read_part : FuncData
  f_read_deed : Addr
  d_read_deed : FuncData
  f_read_book : Addr
  d_read_book : FuncData
  f_Lcell : Addr
  d_Lcell : FuncData
  f_Lpool : Addr
  d_Lpool : FuncData
  f_Ltake : Addr
  d_Ltake : FuncData
  f_Lnames : Addr
  d_Lnames : FuncData
  f_Lsort : Addr
  d_Lsort : FuncData
  f_Lline : Addr
  d_Lline : FuncData
  f_Lis_name : Addr
  d_Lis_name : FuncData
  f_Ldeed_of : Addr
  d_Ldeed_of : FuncData
  f_Ldue : Addr
  d_Ldue : FuncData
  f_Ltold : Addr
  d_Ltold : FuncData
  f_Lspoilt : Addr
  d_Lspoilt : FuncData
  t_CHEST : Tok
  t_MOST_LETTERS : Tok
  t_MOST_MEASURES : Tok
  t_MOST_DEEDS : Tok
  t_FIGURES_AT_ONCE : Tok
  t_LIMIT_AT_ONCE : Tok
  c_ThankError : Addr
  c_LostError : Addr
  c_StandError : Addr
  c_NoNumber : Addr
  c_NoDeed : Addr
  c_NoBook : Addr
  c_NoWeb : Addr
  c_NoNames : Addr
  c_NoAmount : Addr
  c_NoMany : Addr
  c_NoText : Addr
  i_NoText : Addr
  c_NoRow : Addr
  c_NoName : Addr
  c_NoLot : Addr
  c_NoPlace : Addr
  c_NoBack : Addr
  c_Fails : Addr
  c_NoMates : Addr
  c_TooMany : Addr
/-- what the top has left -/
structure Tx (P : Program) (K : PySem.W.Frag) (mg : Str → Option Value) (A : Adr) : Prop where
  g_ThankError : mg "ThankError" = some (.ref A.c_ThankError)
  g_LostError : mg "LostError" = some (.ref A.c_LostError)
  g_StandError : mg "StandError" = some (.ref A.c_StandError)
  g_NoNumber : mg "NoNumber" = some (.ref A.c_NoNumber)
  g_NoDeed : mg "NoDeed" = some (.ref A.c_NoDeed)
  g_NoBook : mg "NoBook" = some (.ref A.c_NoBook)
  g_NoWeb : mg "NoWeb" = some (.ref A.c_NoWeb)
  g_NoNames : mg "NoNames" = some (.ref A.c_NoNames)
  g_NoAmount : mg "NoAmount" = some (.ref A.c_NoAmount)
  g_NoMany : mg "NoMany" = some (.ref A.c_NoMany)
  g_NoText : mg "NoText" = some (.ref A.c_NoText)
  g_NoRow : mg "NoRow" = some (.ref A.c_NoRow)
  g_NoName : mg "NoName" = some (.ref A.c_NoName)
  g_NoLot : mg "NoLot" = some (.ref A.c_NoLot)
  g_NoPlace : mg "NoPlace" = some (.ref A.c_NoPlace)
  g_NoBack : mg "NoBack" = some (.ref A.c_NoBack)
  g_Fails : mg "Fails" = some (.ref A.c_Fails)
  g_NoMates : mg "NoMates" = some (.ref A.c_NoMates)
  g_TooMany : mg "TooMany" = some (.ref A.c_TooMany)
  sup_NoText : PySem.SupX.Txt P K mg "NoText" (inClass s_NoText 0) "row" "row" A.c_NoText A.i_NoText
  err_NoText : ErrC K A.c_NoText
  ko_NoText_NoNumber : PySem.W.kitOne K (.ref A.c_NoText) (.ref A.c_NoNumber) = some false
  ko_NoText_NoDeed : PySem.W.kitOne K (.ref A.c_NoText) (.ref A.c_NoDeed) = some false
  ko_NoText_NoBook : PySem.W.kitOne K (.ref A.c_NoText) (.ref A.c_NoBook) = some false
  ko_NoText_NoWeb : PySem.W.kitOne K (.ref A.c_NoText) (.ref A.c_NoWeb) = some false
  ko_NoText_NoNames : PySem.W.kitOne K (.ref A.c_NoText) (.ref A.c_NoNames) = some false
  ko_NoText_NoAmount : PySem.W.kitOne K (.ref A.c_NoText) (.ref A.c_NoAmount) = some false
  ko_NoText_NoMany : PySem.W.kitOne K (.ref A.c_NoText) (.ref A.c_NoMany) = some false
  ko_NoText_NoText : PySem.W.kitOne K (.ref A.c_NoText) (.ref A.c_NoText) = some true
  ko_NoText_NoRow : PySem.W.kitOne K (.ref A.c_NoText) (.ref A.c_NoRow) = some false
  ko_NoText_NoName : PySem.W.kitOne K (.ref A.c_NoText) (.ref A.c_NoName) = some false
  ko_NoText_NoLot : PySem.W.kitOne K (.ref A.c_NoText) (.ref A.c_NoLot) = some false
  ko_NoText_NoPlace : PySem.W.kitOne K (.ref A.c_NoText) (.ref A.c_NoPlace) = some false
  ko_NoText_NoBack : PySem.W.kitOne K (.ref A.c_NoText) (.ref A.c_NoBack) = some false
  ko_NoText_Fails : PySem.W.kitOne K (.ref A.c_NoText) (.ref A.c_Fails) = some false
  ko_NoText_NoMates : PySem.W.kitOne K (.ref A.c_NoText) (.ref A.c_NoMates) = some false
  ko_NoText_TooMany : PySem.W.kitOne K (.ref A.c_NoText) (.ref A.c_TooMany) = some false
  ko_NoText_ThankError : PySem.W.kitOne K (.ref A.c_NoText) (.ref A.c_ThankError) = some true
  ko_NoText_LostError : PySem.W.kitOne K (.ref A.c_NoText) (.ref A.c_LostError) = some false
  ko_NoText_StandError : PySem.W.kitOne K (.ref A.c_NoText) (.ref A.c_StandError) = some false
  ko_NoText_ValueError : PySem.W.kitOne K (.ref A.c_NoText) (.type "ValueError") = some true
  ko_NoText_LookupError : PySem.W.kitOne K (.ref A.c_NoText) (.type "LookupError") = some false
  ko_NoText_ArithmeticError : PySem.W.kitOne K (.ref A.c_NoText) (.type "ArithmeticError") = some false
  ex_NoText_ThankError : PySem.W.exmOne K (.ref A.c_NoText) (.ref A.c_ThankError) = some true
  m_ArithmeticError : mg "ArithmeticError" = none
  c_CHEST : mg "CHEST" = some (.str "chest" A.t_CHEST)
  c_FIGURES_AT_ONCE : mg "FIGURES_AT_ONCE" = some (.int 60 A.t_FIGURES_AT_ONCE)
  c_LIMIT_AT_ONCE : mg "LIMIT_AT_ONCE" = some (.int 1000000000000000000000000000000000000000000000000000000000000 A.t_LIMIT_AT_ONCE)
  m_LookupError : mg "LookupError" = none
  c_MOST_DEEDS : mg "MOST_DEEDS" = some (.int 60 A.t_MOST_DEEDS)
  c_MOST_LETTERS : mg "MOST_LETTERS" = some (.int 8 A.t_MOST_LETTERS)
  c_MOST_MEASURES : mg "MOST_MEASURES" = some (.int 9999 A.t_MOST_MEASURES)
  m_ValueError : mg "ValueError" = none
  m_abs : mg "abs" = none
  m_all : mg "all" = none
  m_bool : mg "bool" = none
  m_divmod : mg "divmod" = none
  m_enumerate : mg "enumerate" = none
  m_int : mg "int" = none
  m_isinstance : mg "isinstance" = none
  m_len : mg "len" = none
  m_max : mg "max" = none
  m_min : mg "min" = none
  m_range : mg "range" = none
  m_repr : mg "repr" = none
  m_sorted : mg "sorted" = none
  m_str : mg "str" = none
  m_tuple : mg "tuple" = none
  m_zip : mg "zip" = none
  F_is_whole : Fun K "is_whole" "is_whole" s_is_whole A.f_is_whole A.d_is_whole
  g_is_whole : mg "is_whole" = some (.ref A.f_is_whole)
  b_is_whole : Binds K A.d_is_whole ["thing"] []
  F_is_name : Fun K "is_name" "is_name" s_is_name A.f_is_name A.d_is_name
  g_is_name : mg "is_name" = some (.ref A.f_is_name)
  b_is_name : Binds K A.d_is_name ["thing"] []
  F_is_holder : Fun K "is_holder" "is_holder" s_is_holder A.f_is_holder A.d_is_holder
  g_is_holder : mg "is_holder" = some (.ref A.f_is_holder)
  b_is_holder : Binds K A.d_is_holder ["thing"] []
  F_is_measure : Fun K "is_measure" "is_measure" s_is_measure A.f_is_measure A.d_is_measure
  g_is_measure : mg "is_measure" = some (.ref A.f_is_measure)
  b_is_measure : Binds K A.d_is_measure ["thing"] []
  F_is_deed : Fun K "is_deed" "is_deed" s_is_deed A.f_is_deed A.d_is_deed
  g_is_deed : mg "is_deed" = some (.ref A.f_is_deed)
  b_is_deed : Binds K A.d_is_deed ["thing"] []
  F_is_short_deed : Fun K "is_short_deed" "is_short_deed" s_is_short_deed A.f_is_short_deed A.d_is_short_deed
  g_is_short_deed : mg "is_short_deed" = some (.ref A.f_is_short_deed)
  b_is_short_deed : Binds K A.d_is_short_deed ["row"] []
  F_is_deed_between_two : Fun K "is_deed_between_two" "is_deed_between_two" s_is_deed_between_two A.f_is_deed_between_two A.d_is_deed_between_two
  g_is_deed_between_two : mg "is_deed_between_two" = some (.ref A.f_is_deed_between_two)
  b_is_deed_between_two : Binds K A.d_is_deed_between_two ["row"] []
  F_is_figures : Fun K "is_figures" "is_figures" s_is_figures A.f_is_figures A.d_is_figures
  g_is_figures : mg "is_figures" = some (.ref A.f_is_figures)
  b_is_figures : Binds K A.d_is_figures ["text"] []
  F_read_whole : Fun K "read_whole" "read_whole" s_read_whole A.f_read_whole A.d_read_whole
  g_read_whole : mg "read_whole" = some (.ref A.f_read_whole)
  b_read_whole : Binds K A.d_read_whole ["text"] []
  F_lines_of : Fun K "lines_of" "lines_of" s_lines_of A.f_lines_of A.d_lines_of
  g_lines_of : mg "lines_of" = some (.ref A.f_lines_of)
  b_lines_of : Binds K A.d_lines_of ["text"] []
  F_read_part : Fun K "read_part" "read_part" s_read_part A.f_read_part A.d_read_part
  g_read_part : mg "read_part" = some (.ref A.f_read_part)
  b_read_part : Binds K A.d_read_part ["word"] []
  F_read_deed : Fun K "read_deed" "read_deed" s_read_deed A.f_read_deed A.d_read_deed
  g_read_deed : mg "read_deed" = some (.ref A.f_read_deed)
  b_read_deed : Binds K A.d_read_deed ["line"] []
  F_read_book : Fun K "read_book" "read_book" s_read_book A.f_read_book A.d_read_book
  g_read_book : mg "read_book" = some (.ref A.f_read_book)
  b_read_book : Binds K A.d_read_book ["text"] []
  F_Lcell : Fun K "_law_cell" "_law_cell" s_Lcell A.f_Lcell A.d_Lcell
  g_Lcell : mg "_law_cell" = some (.ref A.f_Lcell)
  b_Lcell : Binds K A.d_Lcell ["_law_script", "_law_k"] []
  F_Lpool : Fun K "_law_pool" "_law_pool" s_Lpool A.f_Lpool A.d_Lpool
  g_Lpool : mg "_law_pool" = some (.ref A.f_Lpool)
  b_Lpool : Binds K A.d_Lpool ["_law_cell_here"] []
  F_Ltake : Fun K "_law_take" "_law_take" s_Ltake A.f_Ltake A.d_Ltake
  g_Ltake : mg "_law_take" = some (.ref A.f_Ltake)
  b_Ltake : Binds K A.d_Ltake ["_law_pool_here", "_law_many"] []
  F_Lnames : Fun K "_law_names" "_law_names" s_Lnames A.f_Lnames A.d_Lnames
  g_Lnames : mg "_law_names" = some (.ref A.f_Lnames)
  b_Lnames : Binds K A.d_Lnames ["_law_pool_here", "_law_many"] []
  F_Lsort : Fun K "_law_sort" "_law_sort" s_Lsort A.f_Lsort A.d_Lsort
  g_Lsort : mg "_law_sort" = some (.ref A.f_Lsort)
  b_Lsort : Binds K A.d_Lsort ["_law_e"] []
  F_Lline : Fun K "_law_line" "_law_line" s_Lline A.f_Lline A.d_Lline
  g_Lline : mg "_law_line" = some (.ref A.f_Lline)
  b_Lline : Binds K A.d_Lline ["_law_pool_here", "_law_names_here"] []
  F_Lis_name : Fun K "_law_is_name" "_law_is_name" s_Lis_name A.f_Lis_name A.d_Lis_name
  g_Lis_name : mg "_law_is_name" = some (.ref A.f_Lis_name)
  b_Lis_name : Binds K A.d_Lis_name ["_law_word"] []
  F_Ldeed_of : Fun K "_law_deed_of" "_law_deed_of" s_Ldeed_of A.f_Ldeed_of A.d_Ldeed_of
  g_Ldeed_of : mg "_law_deed_of" = some (.ref A.f_Ldeed_of)
  b_Ldeed_of : Binds K A.d_Ldeed_of ["_law_line_here"] []
  F_Ldue : Fun K "_law_due" "_law_due" s_Ldue A.f_Ldue A.d_Ldue
  g_Ldue : mg "_law_due" = some (.ref A.f_Ldue)
  b_Ldue : Binds K A.d_Ldue ["_law_text"] []
  F_Ltold : Fun K "_law_told" "_law_told" s_Ltold A.f_Ltold A.d_Ltold
  g_Ltold : mg "_law_told" = some (.ref A.f_Ltold)
  b_Ltold : Binds K A.d_Ltold ["_law_matter"] []
  F_Lspoilt : Fun K "_law_spoilt" "_law_spoilt" s_Lspoilt A.f_Lspoilt A.d_Lspoilt
  g_Lspoilt : mg "_law_spoilt" = some (.ref A.f_Lspoilt)
  b_Lspoilt : Binds K A.d_Lspoilt ["_law_pool_here", "_law_text"] []
local macro_rules | `(tactic| walk_at "w") => `(tactic| first
  | with_reducible refine wSeq ?_
  | with_reducible refine wAsg ?_
  | with_reducible refine wOp ?_
  | with_reducible refine wVar (by with_unfolding_all exact rfl) ?_
  | with_reducible refine wC ?_
  | with_reducible refine wRet ?_
  | with_reducible refine wIfS ?_
  | with_reducible refine wI0 ?_
  | with_reducible refine wCons ?_
  | with_reducible refine wNil ?_
  | with_reducible refine wCB ?_
  | with_reducible refine wCall ?_
  | with_reducible refine wCallN ?_
  | with_reducible refine wTest ?_
  | with_reducible refine wB ?_
  | with_reducible refine exBl ?_
  | with_reducible refine exInt ?_
  | with_reducible refine exI1 ?_
  | with_reducible refine exI2 ?_
  | with_reducible refine exStr ?_
  | with_reducible refine wSlS (by with_unfolding_all walk_at "sl") ?_
  | with_reducible refine anSum (by with_unfolding_all walk_at "sl") ?_
  | with_reducible refine exSS ?_
  | with_reducible refine exCS ?_
  | with_reducible refine wLc ?_
  | with_reducible refine wFor ?_
  | with_reducible refine wWhile ?_
  | with_reducible refine wOrT ?_
  | with_reducible refine wIList ?_
  | with_reducible refine wITup ?_
  | with_reducible refine wIStr ?_
  | with_reducible refine wIRng1 ?_
  | with_reducible refine anSz (by with_unfolding_all exact Nat.le_of_ble_eq_true rfl) ?_
  | with_reducible refine anStr ?_
  | with_reducible refine wName ?_
  | with_reducible refine iteT ?_
  | with_reducible refine iteF ?_
  | with_reducible refine iteNT ?_
  | with_reducible refine iteNF ?_
  | with_reducible refine wIsiS ?_
  | with_reducible refine wIsiB ?_
  | with_reducible refine wAnd ?_
  | with_reducible refine wOr ?_
  | with_reducible refine wNot ?_
  | with_reducible refine wAndV ?_
  | with_reducible refine wOrV ?_
  | with_reducible refine wNotV ?_
  | with_reducible refine wIf ?_
  | with_reducible refine wChain ?_
  | with_reducible refine wTup ?_
  | with_reducible refine wLst ?_
  | with_reducible refine wSl ?_
  | with_reducible refine wDnew ?_
  | with_reducible refine wPart ?_
  | with_reducible refine wNoPart ?_
  | with_reducible refine wBM ?_
  | with_reducible refine wBM0 ?_
  | with_reducible refine wM0 ?_
  | with_reducible refine wM1 ?_
  | with_reducible refine wUn ?_
  | with_reducible refine wU ?_
  | with_reducible refine wDrop ?_
  | with_reducible refine wNext ?_
  | with_reducible refine wPar ?_
  | with_reducible refine exTwo ?_
  | with_reducible refine wSub ?_
  | with_reducible refine wGCons ?_
  | with_reducible refine wGNil ?_
  | with_reducible refine wDGet ?_
  | with_reducible refine wDIn ?_
  | with_reducible refine wDNotIn ?_
  | with_reducible refine wPairs ?_
  | with_reducible refine wPairs0 ?_
  | with_reducible refine wPar3 ?_
  | with_reducible refine wCallS ?_
  | with_reducible refine wCallSN ?_
  | with_reducible refine wCallP ?_
  | with_reducible refine wIRng3 ?_
  | with_reducible refine wIEnum ?_
  | with_reducible refine wIEnT ?_
  | with_reducible refine wRevL ?_
  | with_reducible refine exThree ?_
  | ((with_reducible refine wEq ?h1 ?_); (case h1 => exact rfl))
  | ((with_reducible refine wNe ?h1 ?_); (case h1 => exact rfl))
  | with_reducible refine wIxL (SqL.of (by with_unfolding_all assumption)) (by with_unfolding_all exact rfl) ?_
  | with_reducible refine wIxT (SqT.of (by with_unfolding_all assumption)) (by with_unfolding_all exact rfl) ?_
  | with_reducible refine wIxL (SqL.of upd_same) (by with_unfolding_all exact rfl) ?_
  | with_reducible refine wSetL upd_same (by with_unfolding_all exact rfl) ?_
  | with_reducible refine wSetL (by with_unfolding_all assumption) (by with_unfolding_all exact rfl) ?_
  | ((with_reducible refine wI ?h1 ?_); (case h1 => walk_at "wc"))
  | with_reducible refine iteNS (by with_unfolding_all exact rfl) ?_
  | dsimp only [])
local macro_rules | `(tactic| walk_at "ww") => `(tactic| repeat (walk_at "w"))
local macro_rules | `(tactic| walk_at "wc") => `(tactic| first
  | exact wide_mul (by assumption) (by assumption) (by omega) (by omega) (by omega)
  | exact .inl ⟨by omega, by omega⟩
  | exact .inr ⟨by omega, by omega⟩
  | exact ⟨by omega, by omega⟩
  | exact ⟨by decide, by decide⟩
  | exact ⟨by decide, by decide, by decide⟩
  | (show (0 : Int) < _; omega)
  | (show _ ≠ (0 : Int); omega))
local macro_rules | `(tactic| walk_at "sl") => `(tactic| (refine sz6 ?_; (try simp only [app_len]); omega))
local macro_rules | `(tactic| walk_at "lk") => `(tactic| first | assumption | exact Ex.get (by assumption) (by walk_at "lk"))
local macro_rules | `(tactic| walk_at "things") => `(tactic| ((repeat' (first | exact List.forall_mem_nil _ | refine List.forall_mem_append.mpr ⟨?_, ?_⟩ | refine List.forall_mem_cons.mpr ⟨?_, ?_⟩)) <;> first
  | exact Thing.n | exact Thing.b | exact Thing.i | exact Thing.s (by decide +kernel) | exact Thing.t (by walk_at "lk") | exact Thing.l (by walk_at "lk") | exact Thing.d (by walk_at "lk")))
local macro_rules | `(tactic| walk_at "q") => `(tactic| first
  | with_reducible refine wSeq ?_
  | with_reducible refine wAsg ?_
  | with_reducible refine wOp ?_
  | with_reducible refine wVar (by with_unfolding_all exact rfl) ?_
  | with_reducible refine wC ?_
  | with_reducible refine wRet ?_
  | with_reducible refine wIfS ?_
  | with_reducible refine wI0 ?_
  | with_reducible refine wCons ?_
  | with_reducible refine wNil ?_
  | with_reducible refine wCB ?_
  | with_reducible refine wCall ?_
  | with_reducible refine wCallN ?_
  | with_reducible refine wTest ?_
  | with_reducible refine wB ?_
  | with_reducible refine exBl ?_
  | with_reducible refine exInt ?_
  | with_reducible refine exI1 ?_
  | with_reducible refine exI2 ?_
  | with_reducible refine exStr ?_
  | with_reducible refine wSlS (by with_unfolding_all walk_at "sl") ?_
  | with_reducible refine anSum (by with_unfolding_all walk_at "sl") ?_
  | with_reducible refine exSS ?_
  | with_reducible refine exCS ?_
  | with_reducible refine wLc ?_
  | with_reducible refine wFor ?_
  | with_reducible refine wWhile ?_
  | with_reducible refine wOrT ?_
  | with_reducible refine wIList ?_
  | with_reducible refine wITup ?_
  | with_reducible refine wIStr ?_
  | with_reducible refine wIRng1 ?_
  | with_reducible refine anSz (by with_unfolding_all exact Nat.le_of_ble_eq_true rfl) ?_
  | with_reducible refine anStr ?_
  | with_reducible refine wName ?_
  | with_reducible refine iteT ?_
  | with_reducible refine iteF ?_
  | with_reducible refine iteNT ?_
  | with_reducible refine iteNF ?_
  | with_reducible refine wIsiS ?_
  | with_reducible refine wIsiB ?_
  | with_reducible refine wAnd ?_
  | with_reducible refine wOr ?_
  | with_reducible refine wNot ?_
  | with_reducible refine wAndV ?_
  | with_reducible refine wOrV ?_
  | with_reducible refine wNotV ?_
  | with_reducible refine wIf ?_
  | with_reducible refine wChain ?_
  | with_reducible refine wTup ?_
  | with_reducible refine wLst ?_
  | with_reducible refine wSl ?_
  | with_reducible refine wDnew ?_
  | with_reducible refine wPart ?_
  | with_reducible refine wNoPart ?_
  | with_reducible refine wBM ?_
  | with_reducible refine wBM0 ?_
  | with_reducible refine wM0 ?_
  | with_reducible refine wM1 ?_
  | with_reducible refine wUn ?_
  | with_reducible refine wU ?_
  | with_reducible refine wDrop ?_
  | with_reducible refine wNext ?_
  | with_reducible refine wPar ?_
  | with_reducible refine exTwo ?_
  | with_reducible refine wSub ?_
  | with_reducible refine wGCons ?_
  | with_reducible refine wGNil ?_
  | with_reducible refine wDGet ?_
  | with_reducible refine wDIn ?_
  | with_reducible refine wDNotIn ?_
  | with_reducible refine wPairs ?_
  | with_reducible refine wPairs0 ?_
  | with_reducible refine wPar3 ?_
  | with_reducible refine wCallS ?_
  | with_reducible refine wCallSN ?_
  | with_reducible refine wCallP ?_
  | with_reducible refine wIRng3 ?_
  | with_reducible refine wIEnum ?_
  | with_reducible refine wIEnT ?_
  | with_reducible refine wRevL ?_
  | with_reducible refine exThree ?_
  | ((with_reducible refine wEq ?h1 ?_); (case h1 => exact rfl))
  | ((with_reducible refine wNe ?h1 ?_); (case h1 => exact rfl))
  | ((with_reducible refine wI ?h1 ?_); (case h1 => walk_at "wc"))
  | dsimp only [])
local macro_rules | `(tactic| walk_at "qq") => `(tactic| repeat (walk_at "q"))
section
variable {P : Program} {w : World} {K : PySem.W.Frag} {mg : Str → Option Value} {base : Heap} {A : Adr}
/-- a pool: a state, digits, how many were taken -/
def Pool (H : Hp) (p : Addr) : Prop := ∃ s g n : Int, H p = some (.lst [.int s, .int g, .int n]) ∧ 0 ≤ s ∧ s < 2147483423 ∧ 0 ≤ g
theorem Pool.ne {H : Hp} {p q : Addr} (h : Pool H p) (hq : H q = none) : q ≠ p := fun e => by
  obtain ⟨_, _, _, h, _⟩ := h
  rw [← e, hq] at h
  cases h
theorem Pool.upd {H : Hp} {p q : Addr} {o : HO} (h : Pool H p) (n : q ≠ p) : Pool (upd H q o) p := by
  obtain ⟨s, g, m, h, r⟩ := h
  exact ⟨s, g, m, (upd_ne n.symm).trans h, r⟩
theorem Pool.ex {H H' : Hp} {p : Addr} (h : Pool H p) (e : Ex H H') : Pool H' p := by
  obtain ⟨s, g, m, h, r⟩ := h
  exact ⟨s, g, m, e _ _ h, r⟩
def spTake : Sp := fun vs H Q _ => ∃ (p : Addr) (m : Int), vs = [.ref p, .int m] ∧ Pool H p ∧ 0 < m ∧ m < 1073741824 ∧ ∀ d H', 0 ≤ d → d < m → Kp p H H' → Pool H' p → Q (.int d) H'
def spPool : Sp := fun vs H Q _ => ∃ c : Int, vs = [.int c] ∧ ∀ p H', H p = none → Ex H H' → Pool H' p → Q (.ref p) H'
def spCell (K : PySem.W.Frag) : Sp := fun vs H Q _ => ∃ (a : Addr) (ns : List Int) (k : Int), vs = [.ref a, .int k] ∧ SqL K H a (ns.map V.int) ∧ ns.length ≤ 63 ∧ 0 ≤ k ∧ k ≤ 63 ∧ ∀ c H', Ex H H' → Q (.int c) H'
theorem ok_Ltake (T : Tx P K mg A) : FnOk P w K mg base CX0 1 A.f_Ltake A.d_Ltake ["_law_pool_here", "_law_many"] spTake := by
  refine T.F_Ltake.ok sc_Ltake (fun vs H Q E h => ?_) (fun cdv A' outer s H vs Q E hr h => ?_)
  · obtain ⟨p, m, rfl, _⟩ := h
    rfl
  · obtain ⟨p, m, rfl, ⟨s, g, n, hp, hs0, hs1, hg⟩, hm0, hm1, k⟩ := h
    refine ⟨_, (pss_cons (ps_asg (pe_op op_add (pe_ix (ix_listV (K := K) rfl) (pv 0) pe_int (fun _ _ => rfl)) pe_int) (pg_sub (pv 0) pe_int set_list))
    (pss_cons (ps_set (i := 2) sc_Ltake.nd rfl (Or.inl rfl) (pe_ix (ix_listV (K := K) rfl) (pv 0) pe_int (fun _ _ => rfl)))
    (pss_cons (ps_asg (pe_op op_mod (pe_op op_add (pe_op op_mul (pv 2) (pe_op op_add (pe_op op_mod (pv 2) pe_int) pe_int)) (pe_op op_mul pe_int (pe_ix (ix_listV (K := K) rfl) (pv 0) pe_int (fun _ _ => rfl)))) pe_int) (pg_sub (pv 0) pe_int set_list))
    (pss_cons (ps_if (pt_cmpR op_gt (pe_ix (ix_listV (K := K) rfl) (pv 0) pe_int (fun _ _ => rfl)) pe_int (nomark _))
    (pss_cons (ps_asg (pe_callB call_divmod (by rfl) T.m_divmod (by decide +kernel) (pa_cons (pe_ix (ix_listV (K := K) rfl) (pv 0) pe_int (fun _ _ => rfl)) (pa_cons (pv 1) pa_nil))) (pg_tupV (K := K) (n := 2) rfl rfl (pgs_cons (pg_sub (pv 0) pe_int set_list) (pgs_cons (pg_name (i := 3) sc_Ltake.nd rfl (Or.inl rfl)) pgs_nil)) rfl))
      (pss_one (ps_ret (pv 3))))
    pss_nil)
    (pss_one (ps_ret (pe_op op_mod (pe_op op_fdiv (pe_ix (ix_listV (K := K) rfl) (pv 0) pe_int (fun _ _ => rfl)) pe_int) (pv 1)))))))), ?_⟩
    walk_at "ww"
    have q1 : ∀ x : Int, 0 ≤ x % 2147483423 ∧ x % 2147483423 < 2147483423 := fun x => by omega
    have keep : ∀ (o : HO) (H1 : Hp), Kp p H H1 → Kp p H (upd H1 p o) := fun o H1 e => e.trans Kp.set
    refine ite2 (fun c => ?_) (fun c => ?_)
    · walk_at "ww"
      refine ⟨⟨hm0, hm1⟩, fun t nt => ?_⟩
      have ntp : p ≠ t := fun e => by
        rw [← e, upd_same] at nt
        cases nt
      refine wGTup (SqT.of upd_same) rfl ?_
      walk_at "ww"
      refine wSetL ((upd_ne ntp).trans upd_same) rfl ?_
      walk_at "ww"
      refine k _ _ (Int.emod_nonneg _ (by omega)) (Int.emod_lt_of_pos _ hm0) ?_ ⟨_, _, _, upd_same, (q1 _).1, (q1 _).2, Int.ediv_nonneg hg (by omega)⟩
      refine Kp.trans (Kp.trans (keep _ _ Kp.set) (Kp.new nt)) Kp.set
    · walk_at "ww"
      exact k _ _ (Int.emod_nonneg _ (by omega)) (Int.emod_lt_of_pos _ hm0) (keep _ _ Kp.set) ⟨_, _, _, upd_same, (q1 _).1, (q1 _).2, hg⟩
theorem ok_Lpool (T : Tx P K mg A) : FnOk P w K mg base CX0 1 A.f_Lpool A.d_Lpool ["_law_cell_here"] spPool := by
  refine T.F_Lpool.ok sc_Lpool (fun vs H Q E h => ?_) (fun cdv A' outer s H vs Q E hr h => ?_)
  · obtain ⟨c, rfl, _⟩ := h
    rfl
  · obtain ⟨c, rfl, k⟩ := h
    refine ⟨_, (pss_cons (ps_set (i := 1) sc_Lpool.nd rfl (Or.inl rfl) pe_int)
    (pss_cons (ps_if (PW.pt (pw_or (pt_cmpR op_lt (pv 0) pe_int (nomark _)) (pw_or1 (pt_cmpR op_ge (pv 0) (pe_op op_pow pe_int pe_int) (nomark _)))))
    (pss_one (ps_set (i := 1) sc_Lpool.nd rfl (Or.inl rfl) (pe_callB call_abs (by rfl) T.m_abs (by decide +kernel) (pa_cons (pv 0) pa_nil))))
    pss_nil)
    (pss_one (ps_ret (pe_lst (pa_cons (pe_op op_mod (pv 0) pe_int) (pa_cons (pv 1) (pa_cons pe_int pa_nil)))))))), ?_⟩
    have fin : ∀ g : Int, 0 ≤ g → ∀ p, H p = none → Q (.ref p) (upd H p (.lst [.int (c % 2147483423), .int g, .int 0])) := fun g hg p hp =>
      k p _ hp (Ex.new hp) ⟨_, _, _, upd_same, by omega, by omega, hg⟩
    walk_at "ww"
    refine ite2 (fun c1 => ?_) (fun c1 => ?_)
    · walk_at "ww"
      exact fun p hp => fin _ (by split <;> omega) p hp
    · walk_at "ww"
      refine ite2 (fun c2 => ?_) (fun c2 => ?_)
      · walk_at "ww"
        exact fun p hp => fin _ (by split <;> omega) p hp
      · walk_at "ww"
        exact fun p hp => fin _ (by omega) p hp
theorem ok_Lcell (T : Tx P K mg A) : FnOk P w K mg base CX0 1 A.f_Lcell A.d_Lcell ["_law_script", "_law_k"] (spCell K) := by
  refine T.F_Lcell.ok sc_Lcell (fun vs H Q E h => ?_) (fun cdv A' outer s H vs Q E hr h => ?_)
  · obtain ⟨a, ns, c, rfl, _⟩ := h
    rfl
  · obtain ⟨a, ns, c, rfl, hS, hlen, h0, h63, k⟩ := h
    refine ⟨_, (pss_cons (ps_if (pt_cmpR op_lt (pv 1) (pe_callB (call_lenV (K := K) rfl) (by rfl) T.m_len (by decide +kernel) (pa_cons (pv 0) pa_nil)) (nomark _))
    (pss_one (ps_ret (pe_ix (ix_listV (K := K) rfl) (pv 0) (pv 1) (fun _ _ => rfl))))
    pss_nil)
    (pss_cons (ps_set (i := 2) sc_Lcell.nd rfl (Or.inl rfl) (pe_op op_mod (pe_op op_mul pe_int (pe_op op_add (pe_op op_add (pe_op op_mul (pv 1) (pv 1)) (pe_op op_mul pe_int (pv 1))) pe_int)) pe_int))
    (pss_cons (ps_for PassesOwn.never rfl (pi_listV (K := K) rfl (pe_slice (sl_listV (K := K) rfl) (pv 0) po_none (po_some pe_int))) (pg_name (i := 3) sc_Lcell.nd rfl (Or.inl rfl))
    (pss_one (ps_set (i := 2) sc_Lcell.nd rfl (Or.inl rfl) (pe_op op_mod (pe_op op_add (pe_op op_mul (pv 2) pe_int) (pv 3)) pe_int))))
    (pss_one (ps_ret (pv 2)))))), ?_⟩
    walk_at "ww"
    refine wLenL hS ?_
    walk_at "ww"
    refine ite2 (fun c1 => ?_) (fun c1 => ?_)
    · walk_at "ww"
      have h1 : c.toNat < ns.length := by
        have := of_decide_eq_true c1
        rw [List.length_map] at this
        omega
      refine wIxL hS (at_of (j := c.toNat) (by omega) (by rw [List.getElem?_map, List.getElem?_eq_getElem h1]; rfl)) ?_
      exact k _ _ (Ex.refl H)
    · walk_at "ww"
      refine wSlL hS fun l hl => ?_
      walk_at "ww"
      refine exSq (SqL.of upd_same) ?_
      have el : cutV (ns.map V.int) none (some 3) = (ns.take 3).map V.int := by
        unfold cutV
        rw [HT.sIx_none, show HT.sIx (ns.map V.int).length (ns.map V.int).length (some 3) = min 3 (ns.map V.int).length from HT.sIx_nat _ _ 3, List.map_take]
        simp
      rw [el]
      refine for_list (K := K) (a := l) (xs := (ns.take 3).map V.int) (fun i σ H2 => ∃ (s : Int) (v : Option V), σ = [some (.ref a), some (.int c), some (.int s), v] ∧ 0 ≤ s ∧ s < 2147483423 ∧ Ex (upd H l (.lst ((ns.take 3).map V.int))) H2)
        ⟨_, none, rfl, by omega, by omega, Ex.refl _⟩ (fun i σ H2 _ ⟨_, _, _, _, _, e⟩ => SqL.of (e _ _ upd_same)) ?_ ?_
      · rintro i y σ H2 hi ⟨s, v, rfl, hs0, hs1, e⟩
        obtain ⟨z, rfl⟩ : ∃ z, y = V.int z := by
          rw [List.getElem?_map] at hi
          obtain ⟨z, _, hz⟩ := Option.map_eq_some_iff.mp hi
          exact ⟨z, hz.symm⟩
        walk_at "ww"
        exact ⟨_, _, rfl, by omega, by omega, e⟩
      · rintro σ H2 ⟨s, v, rfl, hs0, hs1, e⟩
        walk_at "ww"
        exact k _ _ ((Ex.new hl).trans e)
def nameS (z : Str) : Bool := decide (1 ≤ z.length) && decide (z.length ≤ 8) && !decide (z = ("chest" : Str)) && z.cps.toList.all fun c => decide (97 ≤ c ∧ c ≤ 122)
def nameV : V → Bool
  | .str z => nameS z
  | _ => false
def spName (K : PySem.W.Frag) : Sp := fun vs H Q _ => ∃ v, vs = [v] ∧ Thing K H v ∧ ∀ H', Ex H H' → Q (.bl (nameV v)) H'
theorem map_bl {ys : List V} {z : Str} {f : Nat → Bool} (hl : ys.length = z.cps.size) (h : ∀ (j : Nat) y, ys[j]? = some y → ∃ c, z.cps[j]? = some c ∧ y = .bl (f c)) : ys = (z.cps.toList.map f).map V.bl := by
  refine List.ext_getElem? fun j => ?_
  cases e : ys[j]? with
  | none =>
    rw [List.getElem?_eq_none_iff] at e
    rw [List.map_map, List.getElem?_map, List.getElem?_eq_none (by rw [Array.length_toList]; omega)]
    rfl
  | some y =>
    obtain ⟨c, hc, rfl⟩ := h j y e
    rw [List.map_map, List.getElem?_map, Array.getElem?_toList, hc]
    rfl
theorem lt_one (a c : Nat) : decide (([c] : List Nat) < [a]) = decide (c < a) := by
  by_cases h : c < a
  · rw [decide_eq_true h, decide_eq_true]
    exact List.Lex.rel h
  · rw [decide_eq_false h, decide_eq_false]
    intro q
    cases q with
    | rel q => exact h q
    | cons q => cases q
theorem name_chest {z : Str} (h : decide (V.str z = V.str ("chest" : Str)) = true) : nameV (.str z) = false := by
  have e : z = ("chest" : Str) := V.str.inj (of_decide_eq_true h)
  show nameS z = false
  unfold nameS
  rw [decide_eq_true e]
  simp
theorem name_long {z : Str} (h : ¬ z.length ≤ 8) : nameV (.str z) = false := by
  show nameS z = false
  unfold nameS
  rw [decide_eq_false h]
  simp
theorem name_short {z : Str} (h : ¬ 1 ≤ z.length) : nameV (.str z) = false := by
  show nameS z = false
  unfold nameS
  rw [decide_eq_false h]
  simp
theorem name_all {z : Str} (h1 : 1 ≤ z.length) (h2 : z.length ≤ 8) (h3 : ¬ decide (V.str z = V.str ("chest" : Str)) = true) : nameV (.str z) = z.cps.toList.all fun c => decide (97 ≤ c ∧ c ≤ 122) := by
  have h4 : ¬ z = ("chest" : Str) := fun e => h3 (decide_eq_true (by rw [e]))
  show nameS z = _
  unfold nameS
  rw [decide_eq_true h1, decide_eq_true h2, decide_eq_false h4]
  simp
theorem ok_is_name (T : Tx P K mg A) : FnOk P w K mg base CX0 1 A.f_is_name A.d_is_name ["thing"] (spName K) := by
  refine T.F_is_name.ok sc_is_name (fun vs H Q E h => ?_) (fun cdv A' outer s H vs Q E hr h => ?_)
  · obtain ⟨v, rfl, _⟩ := h
    rfl
  · obtain ⟨v, rfl, ⟨⟨n, ty⟩, sz⟩, k⟩ := h
    refine ⟨_, (pss_cons (ps_if (PW.pt (pw_or (pt_not (pt_val (pe_callB (call_isiV (K := K) rfl) (by rfl) T.m_isinstance (by decide +kernel) (pa_cons (pv 0) (pa_cons (pe_bltn (v := .ty "str") (by rfl) T.m_str (by decide +kernel) rfl) pa_nil))))) (pw_or1 (pt_cmpR op_eq (pv 0) (pe_glob (v := .str "chest") rfl T.c_CHEST ⟨_, rfl⟩) (nomark _)))))
    (pss_one (ps_ret pe_bl))
    pss_nil)
    (pss_cons (ps_if (pt_not (pt_chain op_le op_le pe_int (pe_callB (call_lenV (K := K) rfl) (by rfl) T.m_len (by decide +kernel) (pa_cons (pv 0) pa_nil)) (pe_glob (v := .int 8) rfl T.c_MOST_LETTERS ⟨_, rfl⟩)))
    (pss_one (ps_ret pe_bl))
    pss_nil)
    (pss_one (ps_ret (pe_callB (cr_allV (K := K) rfl rfl) (by rfl) T.m_all (by decide +kernel) (pa_cons (pe_lc rfl sc_is_name.nd (g := gName 1) (pi_str (pv 0)) (blkOk_by (own := [("sign", 1)]) (N := ["thing", "sign"]) (sc := defScope s_is_name) (by decide +kernel)) (fun _ _ _ _ _ => (pg_name (i := 1) sc_is_name.nd rfl (Or.inl rfl))) (fun _ _ _ _ _ => pts_nil) (fun _ _ _ _ _ => (pe_chain op_le_str op_le_str pe_str (pv 1) pe_str))) pa_nil)))))), ?_⟩
    walk_at "ww"
    by_cases hv : isStr v = true
    · obtain ⟨z, rfl⟩ : ∃ z, v = .str z := by
        cases v <;> first | exact ⟨_, rfl⟩ | cases hv
      have hz : z.length ≤ sizeLine := sz6 (by have := sz z rfl; omega)
      walk_at "ww"
      refine ite2 (fun c1 => ?_) (fun c1 => ?_)
      · walk_at "ww"
        rw [show false = nameV (.str z) from (name_chest c1).symm]
        exact k H (Ex.refl H)
      · walk_at "ww"
        refine wLenS hz ?_
        walk_at "ww"
        refine ite2 (fun c2 => ?_) (fun c2 => ?_)
        · walk_at "ww"
          refine ite2 (fun c3 => ?_) (fun c3 => ?_)
          · walk_at "ww"
            rw [show false = nameV (.str z) from (name_long (by simp at c3; omega)).symm]
            exact k H (Ex.refl H)
          · walk_at "ww"
            intro D hD
            refine lcStr (fun H' => Ex H H') (fun i y _ => ∃ c, z.cps[i]? = some c ∧ y = .bl (decide (97 ≤ c ∧ c ≤ 122))) (by have := sz z rfl; show z.length ≤ _; omega) (fun _ => rfl) (Ex.new hD) (fun i c hc H' acc e hD' hl hR => ?_) (fun H' ys e hD' hl hR => ?_)
            · have hi : i ≤ 100000 := by
                have h1 := (Array.getElem?_eq_some_iff.mp hc).1
                have h2 : z.cps.size ≤ 30000 := sz z rfl
                omega
              have ea : (("a" : Str)).cps.toList = [97] := by decide +kernel
              have ez : (("z" : Str)).cps.toList = [122] := by decide +kernel
              walk_at "ww"
              rw [ea, lt_one]
              refine ite2 (fun d1 => ?_) (fun d1 => ?_)
              · walk_at "ww"
                refine lcAdd hD' hl hi (e.mut hD) hR ⟨c, hc, ?_⟩
                rw [ez]
                show V.bl (!decide (([122] : List Nat) < [c])) = _
                rw [lt_one]
                simp only [Bool.not_eq_true', decide_eq_false_iff_not] at d1
                congr 1
                rw [Bool.eq_iff_iff]
                simp
                omega
              · refine lcAdd hD' hl hi (e.mut hD) hR ⟨c, hc, ?_⟩
                simp only [Bool.not_eq_true', decide_eq_false_iff_not, Classical.not_not] at d1
                rw [decide_eq_false (by omega)]
            · have em := map_bl hl hR
              subst em
              refine wAll (SqL.of hD') ?_
              rw [name_all (by have := of_decide_eq_true c2; omega) (by simp at c3; omega) c1] at k
              rw [List.all_map] at *
              exact k H' e
        · walk_at "ww"
          rw [show false = nameV (.str z) from (name_short (by simp at c2; omega)).symm]
          exact k H (Ex.refl H)
    · have hf : isStr v = false := by simpa using hv
      refine wIsi ty (ty.str_is.trans (by rw [hf])) ?_
      walk_at "ww"
      have e : nameV v = false := by
        cases v <;> first | rfl | cases hf
      rw [← e]
      exact k H (Ex.refl H)
theorem letters_in (c : Nat) : decide (c ∈ (("abcdefghijklmnopqrstuvwxyz" : Str)).cps.toList) = decide (97 ≤ c ∧ c ≤ 122) := by
  have e : (("abcdefghijklmnopqrstuvwxyz" : Str)).cps.toList = (List.range 26).map (· + 97) := by decide +kernel
  rw [e, Bool.eq_iff_iff]
  simp only [decide_eq_true_eq, List.mem_map, List.mem_range]
  constructor
  · rintro ⟨a, h, rfl⟩
    omega
  · intro h
    exact ⟨c - 97, by omega, by omega⟩
/-- a def of one thing of any kind -/
def spV (K : PySem.W.Frag) (f : V → Bool) : Sp := fun vs H Q _ => ∃ v, vs = [v] ∧ Thing K H v ∧ ∀ H', Ex H H' → Q (.bl (f v)) H'
def isBlV : V → Bool
  | .bl _ => true
  | _ => false
def isIntV : V → Bool
  | .int _ => true
  | .bl _ => true
  | _ => false
def wholeV : V → Bool
  | .int _ => true
  | _ => false
def measV : V → Bool
  | .int i => decide (1 ≤ i) && decide (i ≤ 9999)
  | _ => false
def isW (v : V) (s : Str) : Bool := decide (v = .str s)
def holdV (v : V) : Bool := nameV v || isW v "chest"
theorem Ty.bl_is {K : PySem.W.Frag} {H : Hp} {v : V} {n : String} (h : Ty K H v n) : kitB n "bool" = some (isBlV v) := by
  have e1 : kitB "NoneType" "bool" = some false := by decide +kernel
  have e2 : kitB "bool" "bool" = some true := by decide +kernel
  have e3 : kitB "int" "bool" = some false := by decide +kernel
  have e4 : kitB "str" "bool" = some false := by decide +kernel
  have e5 : kitB "list" "bool" = some false := by decide +kernel
  have e6 : kitB "tuple" "bool" = some false := by decide +kernel
  have e7 : kitB "dict" "bool" = some false := by decide +kernel
  cases h <;> first | exact e1 | exact e2 | exact e3 | exact e4 | exact e5 | exact e6 | exact e7
theorem Ty.int_is {K : PySem.W.Frag} {H : Hp} {v : V} {n : String} (h : Ty K H v n) : kitB n "int" = some (isIntV v) := by
  have e1 : kitB "NoneType" "int" = some false := by decide +kernel
  have e2 : kitB "bool" "int" = some true := by decide +kernel
  have e3 : kitB "int" "int" = some true := by decide +kernel
  have e4 : kitB "str" "int" = some false := by decide +kernel
  have e5 : kitB "list" "int" = some false := by decide +kernel
  have e6 : kitB "tuple" "int" = some false := by decide +kernel
  have e7 : kitB "dict" "int" = some false := by decide +kernel
  cases h <;> first | exact e1 | exact e2 | exact e3 | exact e4 | exact e5 | exact e6 | exact e7
theorem Ty.tup_is {K : PySem.W.Frag} {H : Hp} {v : V} {n : String} (h : Ty K H v n) : kitB n "tuple" = some (decide (n = "tuple")) := by
  have e1 : kitB "NoneType" "tuple" = some (decide ("NoneType" = "tuple")) := by decide +kernel
  have e2 : kitB "bool" "tuple" = some (decide ("bool" = "tuple")) := by decide +kernel
  have e3 : kitB "int" "tuple" = some (decide ("int" = "tuple")) := by decide +kernel
  have e4 : kitB "str" "tuple" = some (decide ("str" = "tuple")) := by decide +kernel
  have e5 : kitB "list" "tuple" = some (decide ("list" = "tuple")) := by decide +kernel
  have e6 : kitB "tuple" "tuple" = some (decide ("tuple" = "tuple")) := by decide +kernel
  have e7 : kitB "dict" "tuple" = some (decide ("dict" = "tuple")) := by decide +kernel
  cases h <;> first | exact e1 | exact e2 | exact e3 | exact e4 | exact e5 | exact e6 | exact e7
theorem ok_is_whole (T : Tx P K mg A) : FnOk P w K mg base CX0 1 A.f_is_whole A.d_is_whole ["thing"] (spV K wholeV) := by
  refine T.F_is_whole.ok sc_is_whole (fun vs H Q E h => ?_) (fun cdv A' outer s H vs Q E hr h => ?_)
  · obtain ⟨v, rfl, _⟩ := h
    rfl
  · obtain ⟨v, rfl, ⟨⟨n, ty⟩, sz⟩, k⟩ := h
    refine ⟨_, (pss_one (ps_ret (pe_and (pe_callB (call_isiV (K := K) rfl) (by rfl) T.m_isinstance (by decide +kernel) (pa_cons (pv 0) (pa_cons (pe_bltn (v := .ty "int") (by rfl) T.m_int (by decide +kernel) rfl) pa_nil))) (pe_one (pe_not (pe_callB (call_isiV (K := K) rfl) (by rfl) T.m_isinstance (by decide +kernel) (pa_cons (pv 0) (pa_cons (pe_bltn (v := .ty "bool") (by rfl) T.m_bool (by decide +kernel) rfl) pa_nil)))))))), ?_⟩
    walk_at "ww"
    refine wIsi ty ty.int_is ?_
    walk_at "ww"
    refine ite2 (fun c => ?_) (fun c => ?_)
    · walk_at "ww"
      refine wIsi ty ty.bl_is ?_
      walk_at "ww"
      have e : (!isBlV v) = wholeV v := by cases v <;> first | rfl | cases c
      rw [e]
      exact k H (Ex.refl H)
    · have e : false = wholeV v := by cases v <;> first | rfl | exact absurd rfl c
      rw [e]
      exact k H (Ex.refl H)
theorem ok_is_measure (T : Tx P K mg A) : FnOk P w K mg base CX0 2 A.f_is_measure A.d_is_measure ["thing"] (spV K measV) := by
  refine T.F_is_measure.ok sc_is_measure (fun vs H Q E h => ?_) (fun cdv A' outer s H vs Q E hr h => ?_)
  · obtain ⟨v, rfl, _⟩ := h
    rfl
  · obtain ⟨v, rfl, th, k⟩ := h
    refine ⟨_, (pss_one (ps_ret (pe_and (pe_call (ok_is_whole T) (hr.mono (by decide)) (by rfl) T.g_is_whole T.F_is_whole.kp T.b_is_whole .nil pass0 (pa_cons (pv 0) pa_nil)) (pe_one (pe_chain op_le op_le pe_int (pv 0) (pe_glob (v := .int 9999) rfl T.c_MOST_MEASURES ⟨_, rfl⟩)))))), ?_⟩
    walk_at "ww"
    refine ⟨v, rfl, th, fun H1 e1 => ?_⟩
    walk_at "ww"
    by_cases c : wholeV v = true
    · obtain ⟨i, rfl⟩ : ∃ i, v = .int i := by
        cases v <;> first | exact ⟨_, rfl⟩ | cases c
      rw [if_pos c]
      walk_at "ww"
      refine ite2 (fun c1 => ?_) (fun c1 => ?_)
      · walk_at "ww"
        rw [show decide (i ≤ 9999) = measV (.int i) from by show _ = (decide (1 ≤ i) && decide (i ≤ 9999)); rw [c1]; rfl]
        exact k H1 e1
      · walk_at "ww"
        rw [show false = measV (.int i) from by show _ = (decide (1 ≤ i) && decide (i ≤ 9999)); rw [Bool.not_eq_true] at c1; rw [c1]; rfl]
        exact k H1 e1
    · rw [if_neg c]
      have e : false = measV v := by cases v <;> first | rfl | exact absurd rfl c
      rw [e]
      exact k H1 e1
theorem ok_is_holder (T : Tx P K mg A) : FnOk P w K mg base CX0 2 A.f_is_holder A.d_is_holder ["thing"] (spV K holdV) := by
  refine T.F_is_holder.ok sc_is_holder (fun vs H Q E h => ?_) (fun cdv A' outer s H vs Q E hr h => ?_)
  · obtain ⟨v, rfl, _⟩ := h
    rfl
  · obtain ⟨v, rfl, th, k⟩ := h
    refine ⟨_, (pss_one (ps_ret (pe_or (pe_call (ok_is_name T) (hr.mono (by decide)) (by rfl) T.g_is_name T.F_is_name.kp T.b_is_name .nil pass0 (pa_cons (pv 0) pa_nil)) (pe_one (pe_and (pe_callB (call_isiV (K := K) rfl) (by rfl) T.m_isinstance (by decide +kernel) (pa_cons (pv 0) (pa_cons (pe_bltn (v := .ty "str") (by rfl) T.m_str (by decide +kernel) rfl) pa_nil))) (pe_one (pe_cmpR op_eq (pv 0) (pe_glob (v := .str "chest") rfl T.c_CHEST ⟨_, rfl⟩) (nomark _)))))))), ?_⟩
    walk_at "ww"
    refine ⟨v, rfl, th, fun H1 e1 => ?_⟩
    walk_at "ww"
    refine ite2 (fun c => ?_) (fun c => ?_)
    · rw [show true = holdV v from by unfold holdV; rw [c]; rfl]
      exact k H1 e1
    · walk_at "ww"
      obtain ⟨n, ty⟩ := (th.ex e1).ty
      refine wIsi ty ty.str_is ?_
      walk_at "ww"
      rw [Bool.not_eq_true] at c
      by_cases hv : isStr v = true
      · obtain ⟨z, rfl⟩ : ∃ z, v = .str z := by
          cases v <;> first | exact ⟨_, rfl⟩ | cases hv
        rw [if_pos hv]
        walk_at "ww"
        rw [show decide (V.str z = V.str "chest") = holdV (.str z) from by unfold holdV isW; rw [c]; rfl]
        exact k H1 e1
      · rw [if_neg hv]
        rw [show false = holdV v from by unfold holdV isW; rw [c]; cases v <;> first | rfl | exact absurd rfl hv]
        exact k H1 e1
def shortL : List V → Bool
  | [w, x] => (isW w "come" || isW w "go") && nameV x
  | [w, x, y, m] => isW w "bring" && nameV x && nameV y && measV m
  | _ => false
def twoL : List V → Bool
  | [w, x, y, m] => measV m && nameV x && holdV y && !decide (x = y) && (isW w "forget" || (isW w "give" && !isW y "chest"))
  | [w, x, y, l, m] => measV m && nameV x && holdV y && !decide (x = y) && (isW w "hand" && !isW y "chest" && nameV l)
  | _ => false
def deedL (xs : List V) : Bool := shortL xs || twoL xs
/-- a tuple with things in it -/
structure Tp (K : PySem.W.Frag) (H : Hp) (a : Addr) (xs : List V) : Prop where
  at_ : H a = some (.tup xs)
  len : xs.length ≤ 40000
  each : ∀ x ∈ xs, Thing K H x
theorem Tp.ex {K : PySem.W.Frag} {H H' : Hp} {a : Addr} {xs : List V} (t : Tp K H a xs) (e : Ex H H') : Tp K H' a xs := ⟨e _ _ t.at_, t.len, fun x hx => (t.each x hx).ex e⟩
def spRow (K : PySem.W.Frag) (f : List V → Bool) : Sp := fun vs H Q _ => ∃ a xs, vs = [.ref a] ∧ Tp K H a xs ∧ (∃ z r, xs = V.str z :: r) ∧ ∀ H', Ex H H' → Q (.bl (f xs)) H'
theorem exW {z a b : Str} (h : isW (.str z) a = true) (n : decide (a = b) = false) : isW (.str z) b = false := by
  unfold isW at *
  have e : z = a := V.str.inj (of_decide_eq_true h)
  rw [e]
  refine decide_eq_false fun q => ?_
  exact of_decide_eq_false n (V.str.inj q)
theorem in2 (z a b : Str) : inV (.str z) [.str a, .str b] = (isW (.str z) a || isW (.str z) b) := by
  have h : ∀ a : Str, eqV (.str a) (.str z) = isW (.str z) a := fun a => by
    show (a == z) = decide (V.str z = V.str a)
    rw [Bool.eq_iff_iff]
    simp
    exact eq_comm
  show (eqV (.str a) (.str z) || (eqV (.str b) (.str z) || false)) = _
  rw [h, h, Bool.or_false]
theorem inI2 (z a b : Int) : inV (.int z) [.int a, .int b] = decide (z = a ∨ z = b) := by
  show ((a == z) || ((b == z) || false)) = _
  rw [Bool.eq_iff_iff]
  simp
  constructor <;> (intro h; rcases h with h | h <;> simp [h])
theorem len_int (xs : List V) (n : Nat) : decide (V.int (xs.length : Int) = V.int (n : Int)) = decide (xs.length = n) := by
  rw [Bool.eq_iff_iff]
  simp
  omega
theorem w2 {w : V} {r : List V} (h : (w :: r).length = 2) : ∃ x, r = [x] := by
  match r, h with
  | [x], _ => exact ⟨x, rfl⟩
theorem w4 {w : V} {r : List V} (h : (w :: r).length = 4) : ∃ x y m, r = [x, y, m] := by
  match r, h with
  | [x, y, m], _ => exact ⟨x, y, m, rfl⟩
theorem w5 {w : V} {r : List V} (h : (w :: r).length = 5) : ∃ x y l m, r = [x, y, l, m] := by
  match r, h with
  | [x, y, l, m], _ => exact ⟨x, y, l, m, rfl⟩
theorem short_not {xs : List V} (h2 : xs.length ≠ 2) (h4 : xs.length ≠ 4) : shortL xs = false := by
  unfold shortL
  split
  · exact absurd rfl h2
  · exact absurd rfl h4
  · rfl
theorem two_not {xs : List V} (h4 : xs.length ≠ 4) (h5 : xs.length ≠ 5) : twoL xs = false := by
  unfold twoL
  split
  · exact absurd rfl h4
  · exact absurd rfl h5
  · rfl
theorem short_cg {z : Str} {r : List V} (c : isW (.str z) "bring" = false) (h2 : (V.str z :: r).length ≠ 2) : shortL (.str z :: r) = false := by
  by_cases h4 : (V.str z :: r).length = 4
  · obtain ⟨x, y, m, rfl⟩ := w4 h4
    show (isW (.str z) "bring" && nameV x && nameV y && measV m) = false
    rw [c]
    rfl
  · exact short_not h2 h4
theorem short_b {z : Str} {r : List V} (c : (isW (.str z) "come" || isW (.str z) "go") = false) (h4 : (V.str z :: r).length ≠ 4) : shortL (.str z :: r) = false := by
  by_cases h2 : (V.str z :: r).length = 2
  · obtain ⟨x, rfl⟩ := w2 h2
    show ((isW (.str z) "come" || isW (.str z) "go") && nameV x) = false
    rw [c]
    rfl
  · exact short_not h2 h4
theorem ok_is_short_deed (T : Tx P K mg A) : FnOk P w K mg base CX0 3 A.f_is_short_deed A.d_is_short_deed ["row"] (spRow K shortL) := by
  refine T.F_is_short_deed.ok sc_is_short_deed (fun vs H Q E h => ?_) (fun cdv A' outer s H vs Q E hr h => ?_)
  · obtain ⟨a, xs, rfl, _⟩ := h
    rfl
  · obtain ⟨a, xs, rfl, hT, ⟨z, r, rfl⟩, k⟩ := h
    have h0 := hT.at_
    have kk : ∀ b H', b = shortL (.str z :: r) → Ex H H' → Q (.bl b) H' := fun b H' hb e => hb ▸ k H' e
    refine ⟨_, (pss_cons (ps_set (i := 1) sc_is_short_deed.nd rfl (Or.inl rfl) (pe_ix (ix_tupV (K := K) rfl) (pv 0) pe_int (fun _ _ => rfl)))
    (pss_cons (ps_if (pt_cmpR (op_in_seqV (K := K) rfl) (pv 1) (pe_tup (pa_cons pe_str (pa_cons pe_str pa_nil))) (by rfl))
    (pss_one (ps_ret (pe_and (pe_cmpR op_eq (pe_callB (call_lenV (K := K) rfl) (by rfl) T.m_len (by decide +kernel) (pa_cons (pv 0) pa_nil)) pe_int (nomark _)) (pe_one (pe_call (ok_is_name T) (hr.mono (by decide)) (by rfl) T.g_is_name T.F_is_name.kp T.b_is_name .nil pass0 (pa_cons (pe_ix (ix_tupV (K := K) rfl) (pv 0) pe_int (fun _ _ => rfl)) pa_nil))))))
    pss_nil)
    (pss_cons (ps_if (pt_cmpR op_eq (pv 1) pe_str (nomark _))
    (pss_one (ps_ret (pe_and (pe_cmpR op_eq (pe_callB (call_lenV (K := K) rfl) (by rfl) T.m_len (by decide +kernel) (pa_cons (pv 0) pa_nil)) pe_int (nomark _)) (pe_and (pe_call (ok_is_name T) (hr.mono (by decide)) (by rfl) T.g_is_name T.F_is_name.kp T.b_is_name .nil pass0 (pa_cons (pe_ix (ix_tupV (K := K) rfl) (pv 0) pe_int (fun _ _ => rfl)) pa_nil)) (pe_and (pe_call (ok_is_name T) (hr.mono (by decide)) (by rfl) T.g_is_name T.F_is_name.kp T.b_is_name .nil pass0 (pa_cons (pe_ix (ix_tupV (K := K) rfl) (pv 0) pe_int (fun _ _ => rfl)) pa_nil)) (pe_one (pe_call (ok_is_measure T) (hr.mono (by decide)) (by rfl) T.g_is_measure T.F_is_measure.kp T.b_is_measure .nil pass0 (pa_cons (pe_ix (ix_tupV (K := K) rfl) (pv 0) pe_int (fun _ _ => rfl)) pa_nil))))))))
    pss_nil)
    (pss_one (ps_ret pe_bl))))), ?_⟩
    walk_at "ww"
    refine wIxT (SqT.of h0) (at_of (j := 0) rfl rfl) ?_
    walk_at "ww"
    refine alI fun t H1 n1 e1 f1 => ?_
    refine ⟨t, _, rfl, .inr (SqT.of f1), rfl, rfl, ?_⟩
    rw [if_neg (by decide), in2]
    walk_at "ww"
    have h1 := e1 _ _ h0
    refine ite2 (fun c1 => ?_) (fun c1 => ?_)
    · walk_at "ww"
      have nb : isW (.str z) "bring" = false := by
        rcases (Bool.or_eq_true _ _).mp c1 with c | c
        · exact exW c (by decide +kernel)
        · exact exW c (by decide +kernel)
      refine wLenT (SqT.of h1) ?_
      walk_at "ww"
      rw [show (2 : Int) = ((2 : Nat) : Int) from rfl, len_int]
      refine ite2 (fun c2 => ?_) (fun c2 => ?_)
      · obtain ⟨x, rfl⟩ := w2 (of_decide_eq_true c2)
        walk_at "ww"
        refine ⟨x, rfl, (hT.each x (by simp)).ex e1, fun H2 e2 => ?_⟩
        refine kk _ _ ?_ (e1.trans e2)
        show _ = ((isW (.str z) "come" || isW (.str z) "go") && nameV x)
        rw [c1]
        rfl
      · exact kk _ _ (short_cg nb (by simpa using c2)).symm e1
    · rw [Bool.not_eq_true] at c1
      walk_at "ww"
      refine ite2 (fun c3 => ?_) (fun c3 => ?_)
      · walk_at "ww"
        refine wLenT (SqT.of h1) ?_
        walk_at "ww"
        rw [show (4 : Int) = ((4 : Nat) : Int) from rfl, len_int]
        refine ite2 (fun c2 => ?_) (fun c2 => ?_)
        · obtain ⟨x, y, m, rfl⟩ := w4 (of_decide_eq_true c2)
          have kv : ∀ b H', b = (nameV x && nameV y && measV m) → Ex H H' → Q (.bl b) H' := fun b H' hb e => by
            refine kk b H' ?_ e
            show _ = (isW (.str z) "bring" && nameV x && nameV y && measV m)
            rw [show isW (.str z) "bring" = true from c3, hb]
            rfl
          walk_at "ww"
          refine ⟨x, rfl, (hT.each x (by simp)).ex e1, fun H2 e2 => ?_⟩
          have h2 := e2 _ _ h1
          walk_at "ww"
          refine ite2 (fun cx => ?_) (fun cx => ?_)
          · walk_at "ww"
            refine ⟨y, rfl, ((hT.each y (by simp)).ex e1).ex e2, fun H3 e3 => ?_⟩
            have h3 := e3 _ _ h2
            walk_at "ww"
            refine ite2 (fun cy => ?_) (fun cy => ?_)
            · walk_at "ww"
              refine ⟨m, rfl, (((hT.each m (by simp)).ex e1).ex e2).ex e3, fun H4 e4 => ?_⟩
              exact kv _ _ (by rw [cx, cy]; rfl) (((e1.trans e2).trans e3).trans e4)
            · exact kv _ _ (by rw [cx, Bool.eq_false_iff.mpr cy]; rfl) ((e1.trans e2).trans e3)
          · exact kv _ _ (by rw [Bool.eq_false_iff.mpr cx]; rfl) (e1.trans e2)
        · exact kk _ _ (short_b c1 (by simpa using c2)).symm e1
      · walk_at "ww"
        refine kk _ _ ?_ e1
        have c3 : isW (.str z) "bring" = false := Bool.eq_false_iff.mpr c3
        by_cases h2 : (V.str z :: r).length = 2
        · exact (short_b c1 (by omega)).symm
        · exact (short_cg c3 h2).symm
theorem name_str {v : V} (h : nameV v = true) : ∃ z, v = .str z := by
  cases v <;> first | exact ⟨_, rfl⟩ | cases h
theorem hold_str {v : V} (h : holdV v = true) : ∃ z, v = .str z := by
  cases v <;> first | exact ⟨_, rfl⟩ | cases h
theorem ok_is_deed_between_two (T : Tx P K mg A) : FnOk P w K mg base CX0 3 A.f_is_deed_between_two A.d_is_deed_between_two ["row"] (spRow K twoL) := by
  refine T.F_is_deed_between_two.ok sc_is_deed_between_two (fun vs H Q E h => ?_) (fun cdv A' outer s H vs Q E hr h => ?_)
  · obtain ⟨a, xs, rfl, _⟩ := h
    rfl
  · obtain ⟨a, xs, rfl, hT, ⟨z, r, rfl⟩, k⟩ := h
    have h0 := hT.at_
    refine ⟨_, (pss_cons (ps_if (PW.pt (pw_or (pt_cmpR (op_notIn_seqV (K := K) rfl) (pe_callB (call_lenV (K := K) rfl) (by rfl) T.m_len (by decide +kernel) (pa_cons (pv 0) pa_nil)) (pe_tup (pa_cons pe_int (pa_cons pe_int pa_nil))) (by rfl)) (pw_or1 (pt_not (pt_val (pe_call (ok_is_measure T) (hr.mono (by decide)) (by rfl) T.g_is_measure T.F_is_measure.kp T.b_is_measure .nil pass0 (pa_cons (pe_ix (ix_tupV (K := K) rfl) (pv 0) (pe_un un_neg pe_int) (fun _ _ => rfl)) pa_nil)))))))
    (pss_one (ps_ret pe_bl))
    pss_nil)
    (pss_cons (ps_if (PW.pt (pw_or (pt_not (pt_val (pe_call (ok_is_name T) (hr.mono (by decide)) (by rfl) T.g_is_name T.F_is_name.kp T.b_is_name .nil pass0 (pa_cons (pe_ix (ix_tupV (K := K) rfl) (pv 0) pe_int (fun _ _ => rfl)) pa_nil)))) (pw_or (pt_not (pt_val (pe_call (ok_is_holder T) (hr.mono (by decide)) (by rfl) T.g_is_holder T.F_is_holder.kp T.b_is_holder .nil pass0 (pa_cons (pe_ix (ix_tupV (K := K) rfl) (pv 0) pe_int (fun _ _ => rfl)) pa_nil)))) (pw_or1 (pt_cmpR op_eq (pe_ix (ix_tupV (K := K) rfl) (pv 0) pe_int (fun _ _ => rfl)) (pe_ix (ix_tupV (K := K) rfl) (pv 0) pe_int (fun _ _ => rfl)) (nomark _))))))
    (pss_one (ps_ret pe_bl))
    pss_nil)
    (pss_cons (ps_if (pt_cmpR op_eq (pe_ix (ix_tupV (K := K) rfl) (pv 0) pe_int (fun _ _ => rfl)) pe_str (nomark _))
    (pss_one (ps_ret (pe_cmpR op_eq (pe_callB (call_lenV (K := K) rfl) (by rfl) T.m_len (by decide +kernel) (pa_cons (pv 0) pa_nil)) pe_int (nomark _))))
    pss_nil)
    (pss_cons (ps_if (pt_cmpR op_eq (pe_ix (ix_tupV (K := K) rfl) (pv 0) pe_int (fun _ _ => rfl)) pe_str (nomark _))
    (pss_one (ps_ret (pe_and (pe_cmpR op_eq (pe_callB (call_lenV (K := K) rfl) (by rfl) T.m_len (by decide +kernel) (pa_cons (pv 0) pa_nil)) pe_int (nomark _)) (pe_one (pe_cmpR op_ne (pe_ix (ix_tupV (K := K) rfl) (pv 0) pe_int (fun _ _ => rfl)) (pe_glob (v := .str "chest") rfl T.c_CHEST ⟨_, rfl⟩) (nomark _))))))
    pss_nil)
    (pss_cons (ps_if (pt_cmpR op_eq (pe_ix (ix_tupV (K := K) rfl) (pv 0) pe_int (fun _ _ => rfl)) pe_str (nomark _))
    (pss_one (ps_ret (pe_and (pe_cmpR op_eq (pe_callB (call_lenV (K := K) rfl) (by rfl) T.m_len (by decide +kernel) (pa_cons (pv 0) pa_nil)) pe_int (nomark _)) (pe_and (pe_cmpR op_ne (pe_ix (ix_tupV (K := K) rfl) (pv 0) pe_int (fun _ _ => rfl)) (pe_glob (v := .str "chest") rfl T.c_CHEST ⟨_, rfl⟩) (nomark _)) (pe_one (pe_call (ok_is_name T) (hr.mono (by decide)) (by rfl) T.g_is_name T.F_is_name.kp T.b_is_name .nil pass0 (pa_cons (pe_ix (ix_tupV (K := K) rfl) (pv 0) pe_int (fun _ _ => rfl)) pa_nil)))))))
    pss_nil)
    (pss_one (ps_ret pe_bl))))))), ?_⟩
    walk_at "ww"
    refine wLenT (SqT.of h0) ?_
    walk_at "ww"
    refine alI fun t H1 n1 e1 f1 => ?_
    refine ⟨t, _, rfl, .inr (SqT.of f1), rfl, rfl, ?_⟩
    rw [if_pos rfl, inI2]
    have h1 := e1 _ _ h0
    by_cases l4 : (V.str z :: r).length = 4
    · obtain ⟨x, y, m, rfl⟩ := w4 l4
      have kv : ∀ b H', b = (measV m && nameV x && holdV y && !decide (x = y) && (isW (.str z) "forget" || (isW (.str z) "give" && !isW y "chest"))) → Ex H H' → Q (.bl b) H' := fun b H' hb e => hb ▸ k H' e
      rw [show decide ((([V.str z, x, y, m].length : Nat) : Int) = 4 ∨ (([V.str z, x, y, m].length : Nat) : Int) = 5) = true from rfl]
      walk_at "ww"
      refine ⟨m, rfl, (hT.each m (by simp)).ex e1, fun H2 e2 => ?_⟩
      have h2 := e2 _ _ h1
      walk_at "ww"
      cases cm : measV m with
      | false =>
        walk_at "ww"
        exact kv _ _ (by rw [cm]; rfl) (e1.trans e2)
      | true =>
        walk_at "ww"
        refine ⟨x, rfl, ((hT.each x (by simp)).ex e1).ex e2, fun H3 e3 => ?_⟩
        have h3 := e3 _ _ h2
        walk_at "ww"
        cases cx : nameV x with
        | false =>
          walk_at "ww"
          exact kv _ _ (by rw [cm, cx]; rfl) ((e1.trans e2).trans e3)
        | true =>
          walk_at "ww"
          refine ⟨y, rfl, (((hT.each y (by simp)).ex e1).ex e2).ex e3, fun H4 e4 => ?_⟩
          have h4 := e4 _ _ h3
          have E4 := ((e1.trans e2).trans e3).trans e4
          walk_at "ww"
          cases cy : holdV y with
          | false =>
            walk_at "ww"
            exact kv _ _ (by rw [cm, cx, cy]; rfl) E4
          | true =>
            obtain ⟨zx, rfl⟩ := name_str cx
            obtain ⟨zy, rfl⟩ := hold_str cy
            walk_at "ww"
            refine ite2 (fun c => ?_) (fun c => ?_)
            · walk_at "ww"
              exact kv _ _ (by rw [cm, cx, cy, c]; rfl) E4
            · rw [Bool.not_eq_true] at c
              have kw : ∀ b H', b = (isW (.str z) "forget" || (isW (.str z) "give" && !isW (.str zy) "chest")) → Ex H H' → Q (.bl b) H' := fun b H' hb e => kv b H' (by rw [cm, cx, cy, c, hb]; rfl) e
              walk_at "ww"
              refine ite2 (fun cf => ?_) (fun cf => ?_)
              · walk_at "ww"
                refine wLenT (SqT.of h4) ?_
                walk_at "ww"
                exact kw _ _ (by rw [show isW (.str z) "forget" = true from cf]; rfl) E4
              · have cf : isW (.str z) "forget" = false := Bool.eq_false_iff.mpr cf
                walk_at "ww"
                refine ite2 (fun cg => ?_) (fun cg => ?_)
                · walk_at "ww"
                  refine wLenT (SqT.of h4) ?_
                  walk_at "ww"
                  rw [if_pos (by rfl)]
                  walk_at "ww"
                  exact kw _ _ (by rw [cf, show isW (.str z) "give" = true from cg]; rfl) E4
                · have cg : isW (.str z) "give" = false := Bool.eq_false_iff.mpr cg
                  walk_at "ww"
                  refine ite2 (fun ch => ?_) (fun ch => ?_)
                  · walk_at "ww"
                    refine wLenT (SqT.of h4) ?_
                    walk_at "ww"
                    rw [if_neg (by with_unfolding_all exact Bool.false_ne_true)]
                    exact kw _ _ (by rw [cf, cg]; rfl) E4
                  · walk_at "ww"
                    exact kw _ _ (by rw [cf, cg]; rfl) E4
    · by_cases l5 : (V.str z :: r).length = 5
      · obtain ⟨x, y, l, m, rfl⟩ := w5 l5
        have kv : ∀ b H', b = (measV m && nameV x && holdV y && !decide (x = y) && (isW (.str z) "hand" && !isW y "chest" && nameV l)) → Ex H H' → Q (.bl b) H' := fun b H' hb e => hb ▸ k H' e
        rw [show decide ((([V.str z, x, y, l, m].length : Nat) : Int) = 4 ∨ (([V.str z, x, y, l, m].length : Nat) : Int) = 5) = true from rfl]
        walk_at "ww"
        refine ⟨m, rfl, (hT.each m (by simp)).ex e1, fun H2 e2 => ?_⟩
        have h2 := e2 _ _ h1
        walk_at "ww"
        cases cm : measV m with
        | false =>
          walk_at "ww"
          exact kv _ _ (by rw [cm]; rfl) (e1.trans e2)
        | true =>
          walk_at "ww"
          refine ⟨x, rfl, ((hT.each x (by simp)).ex e1).ex e2, fun H3 e3 => ?_⟩
          have h3 := e3 _ _ h2
          walk_at "ww"
          cases cx : nameV x with
          | false =>
            walk_at "ww"
            exact kv _ _ (by rw [cm, cx]; rfl) ((e1.trans e2).trans e3)
          | true =>
            walk_at "ww"
            refine ⟨y, rfl, (((hT.each y (by simp)).ex e1).ex e2).ex e3, fun H4 e4 => ?_⟩
            have h4 := e4 _ _ h3
            have E4 := ((e1.trans e2).trans e3).trans e4
            walk_at "ww"
            cases cy : holdV y with
            | false =>
              walk_at "ww"
              exact kv _ _ (by rw [cm, cx, cy]; rfl) E4
            | true =>
              obtain ⟨zx, rfl⟩ := name_str cx
              obtain ⟨zy, rfl⟩ := hold_str cy
              walk_at "ww"
              refine ite2 (fun c => ?_) (fun c => ?_)
              · walk_at "ww"
                exact kv _ _ (by rw [cm, cx, cy, c]; rfl) E4
              · rw [Bool.not_eq_true] at c
                have kw : ∀ b H', b = (isW (.str z) "hand" && !isW (.str zy) "chest" && nameV l) → Ex H H' → Q (.bl b) H' := fun b H' hb e => kv b H' (by rw [cm, cx, cy, c, hb]; rfl) e
                walk_at "ww"
                refine ite2 (fun cf => ?_) (fun cf => ?_)
                · have ch : isW (.str z) "hand" = false := exW cf (by decide +kernel)
                  walk_at "ww"
                  refine wLenT (SqT.of h4) ?_
                  walk_at "ww"
                  exact kw _ _ (by rw [ch]; rfl) E4
                · walk_at "ww"
                  refine ite2 (fun cg => ?_) (fun cg => ?_)
                  · have ch : isW (.str z) "hand" = false := exW cg (by decide +kernel)
                    walk_at "ww"
                    refine wLenT (SqT.of h4) ?_
                    walk_at "ww"
                    rw [if_neg (by with_unfolding_all exact Bool.false_ne_true)]
                    exact kw _ _ (by rw [ch]; rfl) E4
                  · walk_at "ww"
                    refine ite2 (fun ch => ?_) (fun ch => ?_)
                    · have ch : isW (.str z) "hand" = true := ch
                      walk_at "ww"
                      refine wLenT (SqT.of h4) ?_
                      walk_at "ww"
                      rw [if_pos (by rfl)]
                      walk_at "ww"
                      refine ite2 (fun cc => ?_) (fun cc => ?_)
                      · walk_at "ww"
                        refine ⟨l, rfl, ((((hT.each l (by simp)).ex e1).ex e2).ex e3).ex e4, fun H5 e5 => ?_⟩
                        exact kw _ _ (by rw [ch, show (!isW (.str zy) "chest") = true from cc]; rfl) (E4.trans e5)
                      · exact kw _ _ (by rw [ch, show (!isW (.str zy) "chest") = false from Bool.eq_false_iff.mpr cc]; rfl) E4
                    · have ch : isW (.str z) "hand" = false := Bool.eq_false_iff.mpr ch
                      walk_at "ww"
                      exact kw _ _ (by rw [ch]; rfl) E4
      · rw [show decide ((((V.str z :: r).length : Nat) : Int) = 4 ∨ (((V.str z :: r).length : Nat) : Int) = 5) = false from decide_eq_false (by omega)]
        walk_at "ww"
        rw [show false = twoL (.str z :: r) from (two_not l4 l5).symm]
        exact k H1 e1
/-- a thing beside deeds: what is_deed tells of it -/
inductive Dd (K : PySem.W.Frag) (H : Hp) : V → Bool → Prop where
  | tup {a : Addr} {xs : List V} (h : Tp K H a xs) : Dd K H (.ref a) (deedL xs)
  | oth {v : V} {n : String} (h : Ty K H v n) (ne : n ≠ "tuple") : Dd K H v false
theorem Dd.ex {K : PySem.W.Frag} {H H' : Hp} {v : V} {b : Bool} (d : Dd K H v b) (e : Ex H H') : Dd K H' v b := by
  cases d with
  | tup h => exact .tup (h.ex e)
  | oth h ne => exact .oth (h.ex e) ne
def spDeed (K : PySem.W.Frag) : Sp := fun vs H Q _ => ∃ v b, vs = [v] ∧ Dd K H v b ∧ ∀ H', Ex H H' → Q (.bl b) H'
theorem isW_no {v : V} {s : Str} (h : isStr v = false) : isW v s = false := by
  refine decide_eq_false fun e => ?_
  rw [e] at h
  cases h
theorem deed_nostr {w : V} {r : List V} (h : isStr w = false) : deedL (w :: r) = false := by
  have e : ∀ s, isW w s = false := fun s => isW_no h
  unfold deedL
  rw [Bool.or_eq_false_iff]
  constructor
  · unfold shortL
    split
    · rename_i q
      cases q
      rw [e, e]
      rfl
    · rename_i q
      cases q
      rw [e]
      rfl
    · rfl
  · unfold twoL
    split
    · rename_i q
      cases q
      rw [e, e]
      simp
    · rename_i q
      cases q
      rw [e]
      simp
    · rfl
theorem ok_is_deed (T : Tx P K mg A) : FnOk P w K mg base CX0 4 A.f_is_deed A.d_is_deed ["thing"] (spDeed K) := by
  refine T.F_is_deed.ok sc_is_deed (fun vs H Q E h => ?_) (fun cdv A' outer s H vs Q E hr h => ?_)
  · obtain ⟨v, b, rfl, _⟩ := h
    rfl
  · obtain ⟨v, b, rfl, d, k⟩ := h
    refine ⟨_, (pss_cons (ps_if (PW.pt (pw_or (pt_not (pt_val (pe_callB (call_isiV (K := K) rfl) (by rfl) T.m_isinstance (by decide +kernel) (pa_cons (pv 0) (pa_cons (pe_bltn (v := .ty "tuple") (by rfl) T.m_tuple (by decide +kernel) rfl) pa_nil))))) (pw_or1 (pt_cmpR op_eq (pe_callB (call_lenV (K := K) rfl) (by rfl) T.m_len (by decide +kernel) (pa_cons (pv 0) pa_nil)) pe_int (nomark _)))))
    (pss_one (ps_ret pe_bl))
    pss_nil)
    (pss_cons (ps_if (pt_not (pt_val (pe_callB (call_isiV (K := K) rfl) (by rfl) T.m_isinstance (by decide +kernel) (pa_cons (pe_ix (ix_tupV (K := K) rfl) (pv 0) pe_int (fun _ _ => rfl)) (pa_cons (pe_bltn (v := .ty "str") (by rfl) T.m_str (by decide +kernel) rfl) pa_nil)))))
    (pss_one (ps_ret pe_bl))
    pss_nil)
    (pss_one (ps_ret (pe_or (pe_call (ok_is_short_deed T) (hr.mono (by decide)) (by rfl) T.g_is_short_deed T.F_is_short_deed.kp T.b_is_short_deed .nil pass0 (pa_cons (pv 0) pa_nil)) (pe_one (pe_call (ok_is_deed_between_two T) (hr.mono (by decide)) (by rfl) T.g_is_deed_between_two T.F_is_deed_between_two.kp T.b_is_deed_between_two .nil pass0 (pa_cons (pv 0) pa_nil)))))))), ?_⟩
    walk_at "ww"
    cases d with
    | oth ty ne =>
      refine wIsi ty ty.tup_is ?_
      rw [decide_eq_false ne]
      walk_at "ww"
      exact k H (Ex.refl H)
    | @tup a xs hT =>
      have h0 := hT.at_
      refine wIsi (b := true) (.tup h0) (by decide +kernel) ?_
      walk_at "ww"
      refine wLenT (SqT.of h0) ?_
      walk_at "ww"
      cases xs with
      | nil =>
        rw [show decide (V.int ((([] : List V).length : Nat) : Int) = V.int 0) = true from rfl]
        walk_at "ww"
        exact k H (Ex.refl H)
      | cons w r =>
        rw [show decide (V.int (((w :: r).length : Nat) : Int) = V.int 0) = false from decide_eq_false fun q => by
          have := V.int.inj q
          simp at this
          omega]
        walk_at "ww"
        refine wIxT (SqT.of h0) (at_of (j := 0) rfl rfl) ?_
        walk_at "ww"
        obtain ⟨⟨n, ty⟩, sz⟩ := hT.each w (by simp)
        refine wIsi ty ty.str_is ?_
        walk_at "ww"
        cases hv : isStr w with
        | false =>
          walk_at "ww"
          rw [show false = deedL (w :: r) from (deed_nostr hv).symm]
          exact k H (Ex.refl H)
        | true =>
          obtain ⟨z, rfl⟩ : ∃ z, w = .str z := by
            cases w <;> first | exact ⟨_, rfl⟩ | cases hv
          walk_at "ww"
          refine ⟨a, _, rfl, hT, ⟨z, r, rfl⟩, fun H1 e1 => ?_⟩
          walk_at "ww"
          refine ite2 (fun c => ?_) (fun c => ?_)
          · rw [show true = deedL (.str z :: r) from by unfold deedL; rw [c]; rfl]
            exact k H1 e1
          · walk_at "ww"
            refine ⟨a, _, rfl, hT.ex e1, ⟨z, r, rfl⟩, fun H2 e2 => ?_⟩
            rw [show twoL (.str z :: r) = deedL (.str z :: r) from by unfold deedL; rw [Bool.eq_false_iff.mpr c]; rfl]
            exact k H2 (e1.trans e2)
/-! ### numbers in texts -/
open PySem.NumText (digitsVal AllDigits)
theorem at_nat {α : Type} {xs : List α} {j : Nat} {v : α} (h : xs[j]? = some v) : atI xs (j : Int) = some v := atI_nat h
theorem dv_from : ∀ (b : List Nat) (acc : Nat), b.foldl (fun acc c => acc * 10 + (c - 48)) acc = acc * 10 ^ b.length + digitsVal b
  | [], acc => by
    show acc = acc * 1 + 0
    omega
  | c :: b, acc => by
    show b.foldl (fun acc c => acc * 10 + (c - 48)) (acc * 10 + (c - 48)) = acc * 10 ^ (b.length + 1) + b.foldl (fun acc c => acc * 10 + (c - 48)) (0 * 10 + (c - 48))
    rw [dv_from b (acc * 10 + (c - 48)), dv_from b (0 * 10 + (c - 48)), Nat.pow_succ, Nat.add_mul, Nat.add_mul, Nat.zero_mul, Nat.zero_add, Nat.mul_assoc, Nat.mul_comm 10 (10 ^ b.length)]
    omega
theorem dv_app (a b : List Nat) : digitsVal (a ++ b) = digitsVal a * 10 ^ b.length + digitsVal b := by
  show (a ++ b).foldl (fun acc c => acc * 10 + (c - 48)) 0 = _
  rw [List.foldl_append]
  exact dv_from b _
theorem dv_cons (c : Nat) (b : List Nat) : digitsVal (c :: b) = (c - 48) * 10 ^ b.length + digitsVal b := by
  show b.foldl (fun acc c => acc * 10 + (c - 48)) (0 * 10 + (c - 48)) = _
  rw [dv_from, Nat.zero_mul, Nat.zero_add]
theorem dv_lt : ∀ {cs : List Nat}, AllDigits cs → digitsVal cs < 10 ^ cs.length
  | [], _ => by
    show 0 < 1
    omega
  | c :: cs, h => by
    have ih := dv_lt (cs := cs) fun d hd => h d (List.mem_cons_of_mem _ hd)
    have hc := h c List.mem_cons_self
    rw [dv_cons, List.length_cons, Nat.pow_succ]
    have q : (c - 48) * 10 ^ cs.length ≤ 9 * 10 ^ cs.length := Nat.mul_le_mul_right _ (by omega)
    omega
theorem dv_ge {c : Nat} {cs : List Nat} (h : 49 ≤ c) : 10 ^ cs.length ≤ digitsVal (c :: cs) := by
  rw [dv_cons]
  have q : 1 * 10 ^ cs.length ≤ (c - 48) * 10 ^ cs.length := Nat.mul_le_mul_right _ (by omega)
  omega
def digL (cs : List Nat) : Bool := cs.all fun c => decide (48 ≤ c ∧ c ≤ 57)
def figL (cs : List Nat) : Bool := !decide (cs = []) && digL cs && (decide (cs = [48]) || !decide (cs.head? = some 48))
def figS (z : Str) : Bool := figL z.cps.toList
def rdV (z : Str) : V := if figS z = true then .int (digitsVal z.cps.toList : Nat) else .str z
def measL (cs : List Nat) : Bool := decide (1 ≤ cs.length) && decide (cs.length ≤ 4) && (!decide (cs.head? = some 48) && digL cs)
theorem dig_of {cs : List Nat} (h : digL cs = true) : AllDigits cs := fun c hc => of_decide_eq_true (List.all_eq_true.mp h c hc)
theorem fig_of {cs : List Nat} (h : figL cs = true) : cs ≠ [] ∧ AllDigits cs ∧ (cs = [48] ∨ cs.head? ≠ some 48) := by
  unfold figL at h
  rw [Bool.and_eq_true, Bool.and_eq_true, Bool.or_eq_true] at h
  refine ⟨?_, dig_of h.1.2, ?_⟩
  · have := h.1.1
    simpa using this
  · rcases h.2 with q | q
    · exact .inl (of_decide_eq_true q)
    · exact .inr (by simpa using q)
/-- a measure's text is just four figures at most, no nought ahead -/
theorem meas_rd (z : Str) : measV (rdV z) = measL z.cps.toList := by
  unfold rdV figS
  generalize z.cps.toList = cs
  cases hf : figL cs with
  | true =>
    rw [if_pos rfl]
    obtain ⟨ne, dg, hd⟩ := fig_of hf
    have dl : digL cs = true := List.all_eq_true.mpr fun c hc => decide_eq_true (dg c hc)
    show (decide (1 ≤ ((digitsVal cs : Nat) : Int)) && decide (((digitsVal cs : Nat) : Int) ≤ 9999)) = _
    unfold measL
    rw [dl]
    cases cs with
    | nil => exact absurd rfl ne
    | cons c r =>
      by_cases c48 : c = 48
      · subst c48
        have e : r = [] := by
          rcases hd with hd | hd
          · exact (List.cons.inj hd).2
          · exact absurd rfl hd
        subst e
        rfl
      · have g := dv_ge (c := c) (cs := r) (by have := dg c List.mem_cons_self; omega)
        have l := dv_lt dg
        rw [List.length_cons] at l
        have p1 : 1 ≤ 10 ^ r.length := Nat.pos_of_ne_zero (by simp)
        rw [show decide ((c :: r).head? = some 48) = false from decide_eq_false (by simpa using c48), List.length_cons]
        by_cases l4 : r.length + 1 ≤ 4
        · have : 10 ^ (r.length + 1) ≤ 10 ^ 4 := Nat.pow_le_pow_right (by decide) l4
          rw [decide_eq_true (by omega : (1 : Int) ≤ ((digitsVal (c :: r) : Nat) : Int)), decide_eq_true (by omega : ((digitsVal (c :: r) : Nat) : Int) ≤ 9999), decide_eq_true l4, decide_eq_true (by omega : 1 ≤ r.length + 1)]
          rfl
        · have : 10 ^ 4 ≤ 10 ^ r.length := Nat.pow_le_pow_right (by decide) (by omega)
          rw [decide_eq_false (by omega : ¬ ((digitsVal (c :: r) : Nat) : Int) ≤ 9999), decide_eq_false l4]
          simp
  | false =>
    rw [if_neg Bool.false_ne_true]
    show false = _
    symm
    cases hm : measL cs with
    | false => rfl
    | true =>
      exfalso
      unfold measL at hm
      rw [Bool.and_eq_true, Bool.and_eq_true, Bool.and_eq_true] at hm
      have : figL cs = true := by
        unfold figL
        rw [hm.2.2, hm.2.1, decide_eq_false (fun e => by
          have := of_decide_eq_true hm.1.1
          rw [e] at this
          exact absurd this (by decide))]
        simp
      rw [this] at hf
      cases hf
/-- a text of figures holds no letter ahead -/
theorem fig_letter {z : Str} {c : Nat} {r : List Nat} (e : z.cps.toList = c :: r) (h : 97 ≤ c) : figS z = false := by
  cases hf : figS z with
  | false => rfl
  | true =>
    have q := (fig_of hf).2.1 c (by rw [e]; exact List.mem_cons_self)
    omega
theorem name_letter {z : Str} (h : nameS z = true) : ∃ c r, z.cps.toList = c :: r ∧ 97 ≤ c := by
  unfold nameS at h
  rw [Bool.and_eq_true, Bool.and_eq_true, Bool.and_eq_true] at h
  have l := of_decide_eq_true h.1.1.1
  have l : 0 < z.cps.toList.length := by rw [Array.length_toList]; exact l
  obtain ⟨c, r, e⟩ := List.exists_cons_of_length_pos l
  refine ⟨c, r, e, ?_⟩
  have q := of_decide_eq_true (List.all_eq_true.mp h.2 c (by rw [e]; exact List.mem_cons_self))
  exact q.1
theorem rd_name {z : Str} (h : nameS z = true) : rdV z = .str z := by
  obtain ⟨c, r, e, hc⟩ := name_letter h
  unfold rdV
  rw [fig_letter e hc]
  rfl
theorem name_rd (z : Str) : nameV (rdV z) = nameS z := by
  cases hn : nameS z with
  | true =>
    rw [rd_name hn]
    exact hn
  | false =>
    unfold rdV
    split
    · rfl
    · exact hn
theorem w_rd (z : Str) {s : Str} (h : figS s = false) : isW (rdV z) s = decide (z = s) := by
  unfold rdV
  split
  · rename_i hf
    have : z ≠ s := fun e => by
      rw [e, h] at hf
      cases hf
    rw [decide_eq_false this]
    exact decide_eq_false fun e => by cases e
  · show decide (V.str z = V.str s) = _
    rw [Bool.eq_iff_iff]
    simp
theorem hold_rd (z : Str) : holdV (rdV z) = (nameS z || decide (z = "chest")) := by
  unfold holdV
  rw [name_rd, w_rd z (by decide +kernel)]
/-! ### read -/
def spFig : Sp := fun vs H Q _ => ∃ z : Str, vs = [.str z] ∧ z.length ≤ 30000 ∧ ∀ H', Ex H H' → Q (.bl (figS z)) H'
theorem ok_is_figures (T : Tx P K mg A) : FnOk P w K mg base CX0 1 A.f_is_figures A.d_is_figures ["text"] spFig := by
  refine T.F_is_figures.ok sc_is_figures (fun vs H Q E h => ?_) (fun cdv A' outer s H vs Q E hr h => ?_)
  · obtain ⟨z, rfl, _⟩ := h
    rfl
  · obtain ⟨t, rfl, hl, k⟩ := h
    refine ⟨_, (pss_cons (ps_if (PW.pt (pw_or (pt_cmpR op_eq (pv 0) pe_str (nomark _)) (pw_or1 (pt_not (pt_val (pe_callB (cr_allV (K := K) rfl rfl) (by rfl) T.m_all (by decide +kernel) (pa_cons (pe_lc rfl sc_is_figures.nd (g := gName 1) (pi_str (pv 0)) (blkOk_by (own := [("sign", 1)]) (N := ["text", "sign"]) (sc := defScope s_is_figures) (by decide +kernel)) (fun _ _ _ _ _ => (pg_name (i := 1) sc_is_figures.nd rfl (Or.inl rfl))) (fun _ _ _ _ _ => pts_nil) (fun _ _ _ _ _ => (pe_chain op_le_str op_le_str pe_str (pv 1) pe_str))) pa_nil)))))))
    (pss_one (ps_ret pe_bl))
    pss_nil)
    (pss_one (ps_ret (pe_or (pe_cmpR op_eq (pv 0) pe_str (nomark _)) (pe_one (pe_cmpR op_ne (pe_ix ix_str (pv 0) pe_int (fun _ _ => rfl)) pe_str (nomark _))))))), ?_⟩
    walk_at "ww"
    refine ite2 (fun c0 => ?_) (fun c0 => ?_)
    · have e0 : t = "" := V.str.inj (of_decide_eq_true c0)
      subst e0
      walk_at "ww"
      rw [show false = figS (Str.ofString "") from by decide +kernel]
      exact k H (Ex.refl H)
    · have ne : t.cps.toList ≠ [] := fun e => c0 (decide_eq_true (by
        have : t = "" := TL.ext_tl (by show t.cps.toList = _; rw [e]; decide +kernel)
        rw [this]))
      walk_at "ww"
      intro D hD
      refine lcStr (fun H' => Ex H H') (fun i y _ => ∃ c, t.cps[i]? = some c ∧ y = .bl (decide (48 ≤ c ∧ c ≤ 57))) (by show t.length ≤ _; omega) (fun _ => rfl) (Ex.new hD) (fun i c hc H' acc e hD' hl' hR => ?_) (fun H' ys e hD' hl' hR => ?_)
      · have hi : i ≤ 100000 := by
          have h1 := (Array.getElem?_eq_some_iff.mp hc).1
          have h2 : t.cps.size ≤ 30000 := hl
          omega
        have ea : (("0" : Str)).cps.toList = [48] := by decide +kernel
        have ez : (("9" : Str)).cps.toList = [57] := by decide +kernel
        walk_at "ww"
        rw [ea, lt_one]
        refine ite2 (fun d1 => ?_) (fun d1 => ?_)
        · walk_at "ww"
          refine lcAdd hD' hl' hi (e.mut hD) hR ⟨c, hc, ?_⟩
          rw [ez]
          show V.bl (!decide (([57] : List Nat) < [c])) = _
          rw [lt_one]
          simp only [Bool.not_eq_true', decide_eq_false_iff_not] at d1
          congr 1
          rw [Bool.eq_iff_iff]
          simp
          omega
        · refine lcAdd hD' hl' hi (e.mut hD) hR ⟨c, hc, ?_⟩
          simp only [Bool.not_eq_true', decide_eq_false_iff_not, Classical.not_not] at d1
          rw [decide_eq_false (by omega)]
      · have em := map_bl hl' hR
        subst em
        walk_at "ww"
        refine wAll (SqL.of hD') ?_
        rw [List.all_map, show t.cps.toList.all (id ∘ fun c => decide (48 ≤ c ∧ c ≤ 57)) = digL t.cps.toList from rfl]
        have ef : figS t = (digL t.cps.toList && (decide (t.cps.toList = [48]) || !decide (t.cps.toList.head? = some 48))) := by
          unfold figS figL
          rw [decide_eq_false ne]
          rfl
        cases hd : digL t.cps.toList with
        | false =>
          walk_at "ww"
          rw [show false = figS t from by rw [ef, hd]; rfl]
          exact k H' e
        | true =>
          rw [hd, Bool.true_and] at ef
          walk_at "ww"
          have e48 : decide (V.str t = V.str "0") = decide (t.cps.toList = [48]) := by
            rw [Bool.eq_iff_iff, decide_eq_true_eq, decide_eq_true_eq]
            constructor
            · intro q
              rw [V.str.inj q]
              decide +kernel
            · intro q
              have : t = "0" := TL.ext_tl (by show t.cps.toList = _; rw [q]; decide +kernel)
              rw [this]
          rw [e48]
          refine ite2 (fun c1 => ?_) (fun c1 => ?_)
          · rw [show true = figS t from by rw [ef, c1]; rfl]
            exact k H' e
          · walk_at "ww"
            obtain ⟨c, r, ec⟩ := List.exists_cons_of_ne_nil ne
            refine wIxS (c := c) (sz6 (by omega)) (at_nat (j := 0) (by rw [ec]; rfl)) ?_
            walk_at "ww"
            have n2 : (!decide (V.str ⟨#[c]⟩ = V.str "0")) = figS t := by
              rw [ef, Bool.eq_false_iff.mpr c1, ec, Bool.false_or, List.head?_cons]
              congr 1
              rw [Bool.eq_iff_iff, decide_eq_true_eq, decide_eq_true_eq]
              constructor
              · intro q
                have e1 : ([c] : List Nat) = [48] := congrArg (fun z : Str => z.cps.toList) (V.str.inj q)
                rw [(List.cons.inj e1).1]
              · intro q
                rw [Option.some.inj q]
                decide +kernel
            rw [n2]
            exact k H' e
open PySem.NumText (digitsVal AllDigits)
def numV (z : Str) : V := if figS z = true then .int (digitsVal z.cps.toList : Nat) else .non
def spRead (f : Str → V) : Sp := fun vs H Q _ => ∃ z : Str, vs = [.str z] ∧ z.length ≤ 30000 ∧ ∀ H', Ex H H' → Q (f z) H'
theorem cut_pre {z : Str} {n : Nat} (h : n ≤ z.length) : (cutS z none (some (n : Int))).cps.toList = z.cps.toList.take n := by
  unfold cutS
  rw [HT.sIx_none, HT.sIx_nat, Nat.min_eq_left h, List.drop_zero, Nat.sub_zero]
theorem cut_mid {z : Str} {n m : Nat} (h : n + m ≤ z.length) : (cutS z (some (n : Int)) (some ((n + m : Nat) : Int))).cps.toList = (z.cps.toList.drop n).take m := by
  unfold cutS
  rw [HT.sIx_nat, HT.sIx_nat, Nat.min_eq_left h, Nat.min_eq_left (show n ≤ z.length by omega), Nat.add_sub_cancel_left]
theorem str_len (z : Str) : z.cps.toList.length = z.length := Array.length_toList
theorem dv_bits {cs : List Nat} (h : AllDigits cs) : digitsVal cs < 2 ^ (4 * cs.length + 1) := by
  refine Nat.lt_of_lt_of_le (dv_lt h) ?_
  refine Nat.le_trans (Nat.pow_le_pow_left (show 10 ≤ 2 ^ 4 by decide) _) ?_
  rw [← Nat.pow_mul]
  exact Nat.pow_le_pow_right (by decide) (by omega)
theorem reads_of {z : Str} {cs : List Nat} (e : z.cps.toList = cs) (d : AllDigits cs) (ne : cs ≠ []) (l : cs.length ≤ 100) : intText? z = some ((digitsVal cs : Nat) : Int) := by
  have := PySem.intText_digits (x := z) (by rw [e]; exact d) (by rw [e]; exact ne) (by rw [← str_len, e]; omega)
  rw [e] at this
  exact this
theorem rg60 (L : Nat) (h : L ≤ 30000) : RgC ((L % 60 : Nat) : Int) (L : Int) 60 (L / 60) := by
  have sz : PySem.Builtin.Range.rangeSize ((L % 60 : Nat) : Int) (L : Int) 60 = ((L / 60 : Nat) : Int) := by
    unfold PySem.Builtin.Range.rangeSize
    rw [if_pos (by decide)]
    split <;> omega
  refine ⟨by decide, by decide, ?_, sz⟩
  have fit : ∀ x : Int, -(100000 : Int) ≤ x → x ≤ 100000 → PySem.Builtin.Range.rangeFitsLong x = true := fun x h0 h1 => by
    unfold PySem.Builtin.Range.rangeFitsLong
    rw [decide_eq_true (by omega), decide_eq_true (by omega)]
    rfl
  unfold PySem.Builtin.Range.small
  rw [sz]
  rw [fit ((L % 60 : Nat) : Int) (by omega) (by omega), fit (L : Int) (by omega) (by omega), fit 60 (by decide) (by decide), fit ((L / 60 : Nat) : Int) (by omega) (by omega), if_pos (by decide), fit ((L : Int) + (60 - 1)) (by omega) (by omega)]
  simp
theorem ok_read_whole (T : Tx P K mg A) : FnOk P w K mg base CX0 2 A.f_read_whole A.d_read_whole ["text"] (spRead numV) := by
  refine T.F_read_whole.ok sc_read_whole (fun vs H Q E h => ?_) (fun cdv A' outer s H vs Q E hr h => ?_)
  · obtain ⟨z, rfl, _⟩ := h
    rfl
  · obtain ⟨t, rfl, hl, k⟩ := h
    refine ⟨_, (pss_cons (ps_if (pt_not (pt_val (pe_call (ok_is_figures T) (hr.mono (by decide)) (by rfl) T.g_is_figures T.F_is_figures.kp T.b_is_figures .nil pass0 (pa_cons (pv 0) pa_nil))))
    (pss_one (ps_ret pe_non))
    pss_nil)
    (pss_cons (ps_set (i := 1) sc_read_whole.nd rfl (Or.inl rfl) (pe_op op_mod (pe_callB (call_lenV (K := K) rfl) (by rfl) T.m_len (by decide +kernel) (pa_cons (pv 0) pa_nil)) (pe_glob (v := .int 60) rfl T.c_FIGURES_AT_ONCE ⟨_, rfl⟩)))
    (pss_cons (ps_set (i := 2) sc_read_whole.nd rfl (Or.inl rfl) (pe_callTy call_int_str (by rfl) T.m_int (by decide +kernel) (pa_cons (pe_op op_add_str pe_str (pe_slice sl_str (pv 0) po_none (po_some (pv 1)))) pa_nil)))
    (pss_cons (ps_for PassesOwn.never rfl (pi_range3 (by rfl) T.m_range (pa_cons (pv 1) (pa_cons (pe_callB (call_lenV (K := K) rfl) (by rfl) T.m_len (by decide +kernel) (pa_cons (pv 0) pa_nil)) (pa_cons (pe_glob (v := .int 60) rfl T.c_FIGURES_AT_ONCE ⟨_, rfl⟩) pa_nil)))) (pg_name (i := 3) sc_read_whole.nd rfl (Or.inl rfl))
    (pss_one (ps_set (i := 2) sc_read_whole.nd rfl (Or.inl rfl) (pe_op op_add (pe_op op_mulW (pv 2) (pe_glob (v := .int 1000000000000000000000000000000000000000000000000000000000000) rfl T.c_LIMIT_AT_ONCE ⟨_, rfl⟩)) (pe_callTy call_int_str (by rfl) T.m_int (by decide +kernel) (pa_cons (pe_slice sl_str (pv 0) (po_some (pv 3)) (po_some (pe_op op_add (pv 3) (pe_glob (v := .int 60) rfl T.c_FIGURES_AT_ONCE ⟨_, rfl⟩)))) pa_nil))))))
    (pss_one (ps_ret (pv 2))))))), ?_⟩
    walk_at "ww"
    refine ⟨t, rfl, hl, fun H1 e1 => ?_⟩
    cases hf : figS t with
    | false =>
      have e0 : numV t = .non := by unfold numV; rw [hf]; rfl
      rw [e0] at k
      walk_at "ww"
      exact k _ e1
    | true =>
      have e0 : numV t = .int (digitsVal t.cps.toList : Nat) := by unfold numV; rw [hf]; rfl
      rw [e0] at k
      obtain ⟨ne, dg, _⟩ := fig_of hf
      have sl := str_len t
      walk_at "ww"
      refine wLenS (sz6 (by omega)) ?_
      walk_at "ww"
      obtain ⟨r, hr2⟩ : ∃ r : Nat, r = t.length % 60 := ⟨_, rfl⟩
      rw [show ((t.length : Nat) : Int) % 60 = (r : Int) by omega]
      have rl : r ≤ t.length := by omega
      walk_at "ww"
      have c1 : (cutS t none (some (r : Int))).length = r := by
        rw [← str_len, cut_pre rl, List.length_take]
        omega
      have l0 : ((Str.ofString "0")).length = 1 := by decide +kernel
      refine ⟨sz6 (by omega), ?_⟩
      have e1' : (Str.ofString "0" ++ cutS t none (some (r : Int))).cps.toList = 48 :: t.cps.toList.take r := by
        show ((Str.ofString "0").cps ++ (cutS t none (some (r : Int))).cps).toList = _
        rw [Array.toList_append, cut_pre rl]
        rfl
      have d1 : AllDigits (48 :: t.cps.toList.take r) := fun c hc => by
        rcases List.mem_cons.mp hc with rfl | hc
        · exact ⟨by decide, by decide⟩
        · exact dg c (List.mem_of_mem_take hc)
      walk_at "ww"
      refine ⟨_, _, rfl, reads_of e1' d1 (List.cons_ne_nil _ _) (by rw [List.length_cons, List.length_take]; omega), by rw [app_len]; omega, ?_⟩
      rw [show digitsVal (48 :: t.cps.toList.take r) = digitsVal (t.cps.toList.take r) from rfl]
      walk_at "ww"
      refine wLenS (sz6 (by omega)) ?_
      walk_at "ww"
      refine ⟨_, _, _, t.length / 60, rfl, by rw [hr2]; exact rg60 _ hl, ?_⟩
      have q60 : t.length = r + 60 * (t.length / 60) := by omega
      refine for_rangeC (fun i σ H' => ∃ v3, σ = [some (.str t), some (.int (r : Int)), some (.int (digitsVal (t.cps.toList.take (r + 60 * i)) : Nat)), v3] ∧ H' = H1) ⟨_, rfl, rfl⟩ (fun i σ H' hi q => ?_) (fun σ H' q => ?_)
      · obtain ⟨v3, rfl, rfl⟩ := q
        obtain ⟨n, hn⟩ : ∃ n : Nat, n = r + 60 * i := ⟨_, rfl⟩
        rw [show (r : Int) + (i : Int) * 60 = (n : Int) by omega, show r + 60 * (i + 1) = n + 60 by omega, ← hn]
        have n60 : n + 60 ≤ t.length := by omega
        have d2 : AllDigits (t.cps.toList.take n) := fun c hc => dg c (List.mem_of_mem_take hc)
        have d3 : AllDigits ((t.cps.toList.drop n).take 60) := fun c hc => dg c (List.mem_of_mem_drop (List.mem_of_mem_take hc))
        have l3 : ((t.cps.toList.drop n).take 60).length = 60 := by rw [List.length_take, List.length_drop]; omega
        have b2 := dv_bits d2
        walk_at "ww"
        refine ⟨_, _, rfl, rfl, wide_mul (a := 4 * (t.cps.toList.take n).length + 1) (b := 200) b2 (by decide +kernel) (by omega) (by decide) (by rw [List.length_take]; omega), ?_⟩
        walk_at "ww"
        rw [show (n : Int) + 60 = ((n + 60 : Nat) : Int) by omega]
        have e3 : (cutS t (some (n : Int)) (some ((n + 60 : Nat) : Int))).cps.toList = (t.cps.toList.drop n).take 60 := cut_mid n60
        refine ⟨_, _, rfl, reads_of e3 d3 (fun q => by rw [q] at l3; cases l3) (by omega), by rw [← str_len, e3, l3]; decide, ?_⟩
        walk_at "ww"
        have ev : digitsVal (t.cps.toList.take (n + 60)) = digitsVal (t.cps.toList.take n) * 10 ^ 60 + digitsVal ((t.cps.toList.drop n).take 60) := by
          rw [List.take_add, dv_app, l3]
        rw [ev]
        exact ⟨_, rfl, rfl⟩
      · obtain ⟨v3, rfl, rfl⟩ := q
        walk_at "ww"
        rw [List.take_of_length_le (by omega)]
        exact k _ e1
theorem ok_read_part (T : Tx P K mg A) : FnOk P w K mg base CX0 3 A.f_read_part A.d_read_part ["word"] (spRead rdV) := by
  refine T.F_read_part.ok sc_read_part (fun vs H Q E h => ?_) (fun cdv A' outer s H vs Q E hr h => ?_)
  · obtain ⟨z, rfl, _⟩ := h
    rfl
  · obtain ⟨t, rfl, hl, k⟩ := h
    refine ⟨_, (pss_cons (ps_set (i := 1) sc_read_part.nd rfl (Or.inl rfl) (pe_call (ok_read_whole T) (hr.mono (by decide)) (by rfl) T.g_read_whole T.F_read_whole.kp T.b_read_whole .nil pass0 (pa_cons (pv 0) pa_nil)))
    (pss_one (ps_ret (pe_ifExp (pt_cmpR op_isN (pv 1) pe_non (nomark _)) (pv 0) (pv 1))))), ?_⟩
    walk_at "ww"
    refine ⟨t, rfl, hl, fun H1 e1 => ?_⟩
    unfold rdV at k
    unfold numV
    cases hf : figS t with
    | false =>
      rw [hf] at k
      rw [if_neg Bool.false_ne_true]
      walk_at "ww"
      refine ⟨rfl, ?_⟩
      walk_at "ww"
      rw [decide_eq_true (rfl : V.non = V.non)]
      walk_at "ww"
      exact k _ e1
    | true =>
      rw [hf] at k
      rw [if_pos rfl]
      walk_at "ww"
      refine ⟨rfl, ?_⟩
      walk_at "ww"
      rw [show decide (V.int (digitsVal t.cps.toList : Nat) = V.non) = false from decide_eq_false (fun z => nomatch z)]
      walk_at "ww"
      exact k _ e1
/-! ### texts cut -/
theorem spl1 (s : Nat) : ∀ (xs acc : List Nat), TL.spl [s] 0 acc xs ≠ [] ∧ ((TL.spl [s] 0 acc xs).map List.length).sum + (TL.spl [s] 0 acc xs).length = acc.length + xs.length + 1
  | [], acc => by
    rw [TL.spl_nil]
    exact ⟨List.cons_ne_nil _ _, by simp⟩
  | c :: r, acc => by
    cases h : TL.pre [s] (c :: r) with
    | true =>
      rw [TL.spl_hit h, TL.spl_pass]
      obtain ⟨q1, q2⟩ := spl1 s r []
      refine ⟨List.cons_ne_nil _ _, ?_⟩
      simp only [Nat.sub_self, List.drop_zero, List.length_cons, List.map_cons, List.sum_cons, List.length_nil] at q2 ⊢
      omega
    | false =>
      rw [TL.spl_miss h]
      obtain ⟨q1, q2⟩ := spl1 s r (acc ++ [c])
      refine ⟨q1, ?_⟩
      rw [q2, List.length_append, List.length_cons, List.length_cons, List.length_nil]
      omega
theorem split_sum {z y : Str} {s : Nat} (ey : y.cps.toList = [s]) (hk : y.cps.all (· < 256) = true) : Txt.split z y ≠ [] ∧ ((Txt.split z y).map (·.length)).sum + (Txt.split z y).length = z.length + 1 := by
  have ey : TL.tl y = [s] := ey
  have e := TL.split_spl z y (by rw [ey]; simp) (TL.kind_ok hk)
  rw [ey] at e
  obtain ⟨q1, q2⟩ := spl1 s (TL.tl z) []
  rw [← e] at q1 q2
  refine ⟨fun q => q1 (by rw [q]; rfl), ?_⟩
  rw [List.map_map, List.length_map, List.length_nil] at q2
  have e2 : List.length ∘ TL.tl = fun z : Str => z.length := funext fun z => str_len z
  rw [e2, show (TL.tl z).length = z.length from str_len z] at q2
  omega
theorem sp_sum (z : Str) : Txt.split z " " ≠ [] ∧ ((Txt.split z " ").map (·.length)).sum + (Txt.split z " ").length = z.length + 1 := split_sum (s := 32) (by decide +kernel) (by decide +kernel)
theorem nl_sum (z : Str) : Txt.split z "\n" ≠ [] ∧ ((Txt.split z "\n").map (·.length)).sum + (Txt.split z "\n").length = z.length + 1 := split_sum (s := 10) (by decide +kernel) (by decide +kernel)
theorem le_sum : ∀ {xs : List Str} {x : Str}, x ∈ xs → x.length ≤ (xs.map (·.length)).sum
  | y :: xs, x, h => by
    rw [List.map_cons, List.sum_cons]
    rcases List.mem_cons.mp h with rfl | h
    · omega
    · have := le_sum h
      omega
theorem sp_part {z x : Str} (h : x ∈ Txt.split z " ") : x.length ≤ z.length := by
  have := le_sum h
  have q := (sp_sum z).2
  have : 0 < (Txt.split z " ").length := List.length_pos_iff.mpr (sp_sum z).1
  omega
theorem nl_part {z x : Str} (h : x ∈ Txt.split z "\n") : x.length ≤ z.length := by
  have := le_sum h
  have q := (nl_sum z).2
  have : 0 < (Txt.split z "\n").length := List.length_pos_iff.mpr (nl_sum z).1
  omega
/-- rows of deeds -/
inductive Dl (H : Hp) : List Addr → List (List V) → Prop
  | nil : Dl H [] []
  | cons {r xs rs pp} (h : H r = some (.tup xs)) (t : Dl H rs pp) : Dl H (r :: rs) (xs :: pp)
theorem Dl.ex {H G : Hp} (e : Ex H G) : ∀ {rs : List Addr} {pp : List (List V)}, Dl H rs pp → Dl G rs pp
  | _, _, .nil => .nil
  | _, _, .cons h t => .cons (e _ _ h) (t.ex e)
theorem Dl.length {H : Hp} : ∀ {rs : List Addr} {pp : List (List V)}, Dl H rs pp → rs.length = pp.length
  | _, _, .nil => rfl
  | _, _, .cons _ t => congrArg Nat.succ t.length
theorem Dl.snoc {H : Hp} {r : Addr} {xs : List V} (h : H r = some (.tup xs)) : ∀ {rs : List Addr} {pp : List (List V)}, Dl H rs pp → Dl H (rs ++ [r]) (pp ++ [xs])
  | _, _, .nil => .cons h .nil
  | _, _, .cons q t => .cons q (t.snoc h)
theorem Dl.at_ {H : Hp} : ∀ {rs : List Addr} {pp : List (List V)} {i : Nat} {v : V}, Dl H rs pp → (rs.map V.ref)[i]? = some v → ∃ r xs, v = .ref r ∧ pp[i]? = some xs ∧ H r = some (.tup xs)
  | _, _, 0, _, .cons h _, e => ⟨_, _, (Option.some.inj e).symm, rfl, h⟩
  | _, _, i + 1, _, .cons _ t, e => Dl.at_ (i := i) t e
theorem Dl.kp {H G : Hp} {l : Addr} {ys : List V} (hl : H l = some (.lst ys)) (e : Kp l H G) : ∀ {rs : List Addr} {pp : List (List V)}, Dl H rs pp → Dl G rs pp
  | _, _, .nil => .nil
  | _, _, .cons h t => .cons (e _ _ (fun z => by rw [z, hl] at h; cases h) h) (t.kp hl e)
/-- a book at a -/
def Bk (H : Hp) (a : Addr) (pp : List (List V)) : Prop := ∃ rs, H a = some (.tup (rs.map V.ref)) ∧ Dl H rs pp
theorem Bk.ex {H G : Hp} {a : Addr} {pp : List (List V)} (e : Ex H G) (h : Bk H a pp) : Bk G a pp := h.elim fun rs q => ⟨rs, e _ _ q.1, q.2.ex e⟩
theorem take_snoc {α : Type} : ∀ {xs : List α} {i : Nat} {x : α}, xs[i]? = some x → xs.take (i + 1) = xs.take i ++ [x]
  | _ :: _, 0, _, h => by cases h; rfl
  | a :: xs, i + 1, x, h => by
    show a :: xs.take (i + 1) = a :: (xs.take i) ++ [x]
    rw [take_snoc (xs := xs) (i := i) h]
    rfl

/-! ### lines -/
def rowOf (l : Str) : List V := (Txt.split l " ").map rdV
def goodLn (l : Str) : Bool := deedL (rowOf l)
def linesOf (z : Str) : List Str := if z = "" then [] else Txt.split z "\n"
/-- the number of the first line that is no deed, or comes behind sixty -/
def fb : Nat → List Str → Option Nat
  | _, [] => none
  | i, l :: r => if (goodLn l && decide (i < 60)) = true then fb (i + 1) r else some i
theorem fb_at : ∀ {ls : List Str} {k i : Nat} {l : Str}, (∀ j m, j < i → ls[j]? = some m → goodLn m = true ∧ k + j < 60) → ls[i]? = some l → (goodLn l && decide (k + i < 60)) = false → fb k ls = some (k + i)
  | x :: r, k, 0, l, _, e, h => by
    cases e
    unfold fb
    rw [Nat.add_zero] at h ⊢
    rw [h]
    rfl
  | x :: r, k, i + 1, l, g, e, h => by
    have g0 := g 0 x (Nat.succ_pos _) rfl
    unfold fb
    rw [g0.1, decide_eq_true (by have := g0.2; omega), Bool.and_self, if_pos rfl]
    have := fb_at (ls := r) (k := k + 1) (i := i) (l := l) (fun j m hj q => by
      have := g (j + 1) m (by omega) q
      exact ⟨this.1, by omega⟩) e (by rw [show k + 1 + i = k + (i + 1) by omega]; exact h)
    rw [this]
    congr 1
    omega
theorem fb_all : ∀ {ls : List Str} {k : Nat}, (∀ j m, ls[j]? = some m → goodLn m = true ∧ k + j < 60) → fb k ls = none
  | [], _, _ => rfl
  | x :: r, k, g => by
    have g0 := g 0 x rfl
    unfold fb
    rw [g0.1, decide_eq_true (by have := g0.2; omega), Bool.and_self, if_pos rfl]
    exact fb_all fun j m q => by
      have := g (j + 1) m q
      exact ⟨this.1, by omega⟩
theorem fb_lt : ∀ {ls : List Str} {k i : Nat}, fb k ls = some i → i < k + ls.length
  | x :: r, k, i, h => by
    unfold fb at h
    split at h
    · have := fb_lt h
      rw [List.length_cons]
      omega
    · cases h
      rw [List.length_cons]
      omega
theorem rd_thing {K : PySem.W.Frag} {H : Hp} {z : Str} (h : z.length ≤ 30000) : Thing K H (rdV z) := by
  unfold rdV
  split
  · exact .i
  · exact .s h
theorem row_tp {K : PySem.W.Frag} {H : Hp} {a : Addr} {l : Str} (h : H a = some (.tup (rowOf l))) (hl : l.length ≤ 30000) : Tp K H a (rowOf l) := by
  refine ⟨h, ?_, fun x hx => ?_⟩
  · have := (sp_sum l).2
    unfold rowOf
    rw [List.length_map]
    omega
  · obtain ⟨w, hw, rfl⟩ := List.mem_map.mp hx
    exact rd_thing (Nat.le_trans (sp_part hw) hl)
def spReadDeed : Sp := fun vs H Q _ => ∃ l : Str, vs = [.str l] ∧ l.length ≤ 30000 ∧ ∀ t H', Ex H H' → H' t = some (.tup (rowOf l)) → Q (if goodLn l = true then .ref t else .non) H'
theorem ok_read_deed (T : Tx P K mg A) : FnOk P w K mg base CX0 5 A.f_read_deed A.d_read_deed ["line"] spReadDeed := by
  refine T.F_read_deed.ok sc_read_deed (fun vs H Q E h => ?_) (fun cdv A' outer s H vs Q E hr h => ?_)
  · obtain ⟨l, rfl, _⟩ := h
    rfl
  · obtain ⟨z, rfl, hl, k⟩ := h
    refine ⟨_, (pss_cons (ps_set (i := 1) sc_read_deed.nd rfl (Or.inl rfl) (pe_callTy (call_tuple_ofV (K := K) rfl) (by rfl) T.m_tuple (by decide +kernel) (pa_cons (pe_lc rfl sc_read_deed.nd (g := gName 2) (pi_listV (K := K) rfl (pe_split (pv 0) pe_str)) (blkOk_by (own := [("word", 2)]) (N := ["line", "deed", "word"]) (sc := defScope s_read_deed) (by decide +kernel)) (fun _ _ _ _ _ => (pg_name (i := 2) sc_read_deed.nd rfl (Or.inl rfl))) (fun _ _ _ _ _ => pts_nil) (fun _ _ _ _ _ => (pe_call (ok_read_part T) (hr.mono (by decide)) (by rfl) T.g_read_part T.F_read_part.kp T.b_read_part .nil pass0 (pa_cons (pv 2) pa_nil)))) pa_nil)))
    (pss_one (ps_ret (pe_ifExp (pt_val (pe_call (ok_is_deed T) (hr.mono (by decide)) (by rfl) T.g_is_deed T.F_is_deed.kp T.b_is_deed .nil pass0 (pa_cons (pv 1) pa_nil))) (pv 1) pe_non)))), ?_⟩
    walk_at "ww"
    refine ⟨_, _, rfl, rfl, rfl, sz6 (by omega), fun l nl => ?_⟩
    have el : Ex H (upd H l (.lst ((Txt.split z " ").map V.str))) := Ex.new nl
    have fl : (upd H l (.lst ((Txt.split z " ").map V.str))) l = some (.lst ((Txt.split z " ").map V.str)) := upd_same
    generalize upd H l (.lst ((Txt.split z " ").map V.str)) = H1 at el fl ⊢
    refine exSq (SqL.of fl) ?_
    intro D hD
    have sm := (sp_sum z).2
    refine lcList (K := K) (a := l) (xs := (Txt.split z " ").map V.str) (fun H' => Ex H1 H') (fun i y _ => (rowOf z)[i]? = some y) (fun _ => rfl) (Ex.new hD) (fun H' e => SqL.of (e _ _ fl)) (fun i y hy H2 acc hI hD2 hl2 hR => ?_) (fun H2 ys hI hD2 hl2 hR => ?_)
    · rw [List.getElem?_map] at hy
      obtain ⟨x, hx, rfl⟩ := Option.map_eq_some_iff.mp hy
      have hi : i < (Txt.split z " ").length := (List.getElem?_eq_some_iff.mp hx).1
      walk_at "ww"
      refine ⟨x, rfl, Nat.le_trans (sp_part (List.mem_of_getElem? hx)) hl, fun H3 e3 => ?_⟩
      exact lcAdd (e3 _ _ hD2) hl2 (by omega) ((hI.trans e3).mut hD) hR (by unfold rowOf; rw [List.getElem?_map, hx]; rfl)
    · have ey : ys = rowOf z := by
        rw [List.length_map] at hl2
        refine List.ext_getElem? fun j => ?_
        cases e : ys[j]? with
        | none =>
          rw [List.getElem?_eq_none_iff] at e
          rw [List.getElem?_eq_none (by unfold rowOf; rw [List.length_map]; omega)]
        | some y => exact (hR j y e).symm
      subst ey
      walk_at "ww"
      refine ⟨D, rowOf z, rfl, .inl ⟨SqL.of hD2, fun t nt => ?_⟩⟩
      have et : Ex H2 (upd H2 t (.tup (rowOf z))) := Ex.new nt
      have ft : (upd H2 t (.tup (rowOf z))) t = some (.tup (rowOf z)) := upd_same
      generalize upd H2 t (.tup (rowOf z)) = H3 at et ft ⊢
      walk_at "ww"
      refine ⟨_, _, rfl, .tup (row_tp ft hl), fun H4 e4 => ?_⟩
      have k := k t H4 (((el.trans hI).trans et).trans e4) (e4 _ _ ft)
      unfold goodLn at k
      cases hg : deedL (rowOf z) with
      | true =>
        rw [hg] at k
        walk_at "ww"
        exact k
      | false =>
        rw [hg] at k
        walk_at "ww"
        exact k
def numB : Option Nat → V
  | none => .non
  | some i => .int (i : Int)
/-- why a thing is no text of a book: the number of its row -/
inductive Nt (K : PySem.W.Frag) (H : Hp) : V → Option Nat → Prop
  | kind {v n} (h : Ty K H v n) (ne : isStr v = false) : Nt K H v none
  | bad {z i} (l : z.length ≤ 30000) (h : fb 0 (linesOf z) = some i) : Nt K H (.str z) (some i)
theorem Nt.ex {K : PySem.W.Frag} {H H' : Hp} {v : V} {o : Option Nat} (e : Ex H H') (h : Nt K H v o) : Nt K H' v o := by
  cases h with
  | kind h ne => exact .kind (h.ex e) ne
  | bad l h => exact .bad l h
def Bad (C : Addr) (H : Hp) (E : XK) (o : Option Nat) : Prop := ∀ H' d, Ex H H' → H' d = none → E (.ref C) (some d) (upd H' d (.xd [("row", numB o)]))
theorem lines_len {z l : Str} (h : l ∈ linesOf z) : l.length ≤ z.length := by
  unfold linesOf at h
  split at h
  · cases h
  · exact nl_part h
theorem lines_many (z : Str) : (linesOf z).length ≤ z.length + 1 := by
  unfold linesOf
  split
  · exact Nat.zero_le _
  · have := (nl_sum z).2
    omega
def spLines (K : PySem.W.Frag) (C : Addr) : Sp := fun vs H Q E => ∃ v, vs = [v] ∧ ((∃ z, v = .str z ∧ z.length ≤ 30000 ∧ ∀ l H', H l = none → Ex H H' → H' l = some (.lst ((linesOf z).map V.str)) → Q (.ref l) H') ∨ ∃ n, Ty K H v n ∧ isStr v = false ∧ Bad C H E none)
theorem ok_lines_of (T : Tx P K mg A) : FnOk P w K mg base (L2.CX P w) 5 A.f_lines_of A.d_lines_of ["text"] (spLines K A.c_NoText) := by
  refine T.F_lines_of.okX sc_lines_of (fun vs H Q E h => ?_) (fun cdv A' outer s H vs Q E hr h => ?_)
  · obtain ⟨v, rfl, _⟩ := h
    rfl
  · obtain ⟨v, rfl, h⟩ := h
    refine ⟨_, (pss_cons (ps_if (pt_not (pt_val (pe_callB (call_isiV (K := K) rfl) (by rfl) T.m_isinstance (by decide +kernel) (pa_cons (pv 0) (pa_cons (pe_bltn (v := .ty "str") (by rfl) T.m_str (by decide +kernel) rfl) pa_nil)))))
    (pss_one (ps_raiseSup rfl T.sup_NoText hr (takes_of rfl rfl rfl rfl) (pa_cons pe_non pa_nil) (by rfl)))
    pss_nil)
    (pss_cons (ps_if (pt_cmpR op_eq (pv 0) pe_str (nomark _))
    (pss_one (ps_ret (pe_lst pa_nil)))
    pss_nil)
    (pss_one (ps_ret (pe_split (pv 0) pe_str))))), ?_⟩
    walk_at "ww"
    rcases h with ⟨z, rfl, hl, k⟩ | ⟨n, ty, ns, kE⟩
    · refine wIsiS ?_
      walk_at "ww"
      refine ite2 (fun c => ?_) (fun c => ?_)
      · have e : linesOf z = [] := by
          unfold linesOf
          rw [if_pos (V.str.inj (of_decide_eq_true c))]
        rw [e] at k
        walk_at "ww"
        exact alI fun l H1 n1 e1 f1 => k l H1 n1 e1 f1
      · have e : linesOf z = Txt.split z "\n" := by
          unfold linesOf
          rw [if_neg fun q => c (decide_eq_true (by rw [q]))]
        rw [e] at k
        walk_at "ww"
        refine ⟨_, _, rfl, rfl, rfl, sz6 (by omega), fun l nl => ?_⟩
        exact k l _ nl (Ex.new nl) upd_same
    · refine wIsi ty (ty.str_is.trans (by rw [ns])) ?_
      walk_at "ww"
      exact ⟨_, rfl, fun d hd => kE _ d (Ex.refl _) hd⟩
def ppOf (z : Str) : List (List V) := (linesOf z).map rowOf
def spReadBook (K : PySem.W.Frag) (C : Addr) : Sp := fun vs H Q E => ∃ v, vs = [v] ∧ ((∃ z, v = .str z ∧ z.length ≤ 30000 ∧ fb 0 (linesOf z) = none ∧ ∀ t H', Ex H H' → Bk H' t (ppOf z) → Q (.ref t) H') ∨ ∃ o, Nt K H v o ∧ Bad C H E o)
theorem ok_read_book (T : Tx P K mg A) : FnOk P w K mg base (L2.CX P w) 6 A.f_read_book A.d_read_book ["text"] (spReadBook K A.c_NoText) := by
  refine T.F_read_book.okX sc_read_book (fun vs H Q E h => ?_) (fun cdv A' outer s H vs Q E hr h => ?_)
  · obtain ⟨v, rfl, _⟩ := h
    rfl
  · obtain ⟨v, rfl, h⟩ := h
    refine ⟨_, (pss_cons (ps_set (i := 1) sc_read_book.nd rfl (Or.inl rfl) (pe_lst pa_nil))
    (pss_cons (ps_for (passes_of rfl) rfl (pi_enum (by rfl) T.m_enumerate (pa_cons (pe_callS (ok_lines_of T) (hr.mono (by decide)) (by rfl) T.g_lines_of T.F_lines_of.kp T.b_lines_of (fun σ => passAt (takes_of rfl rfl rfl rfl) σ) (pa_cons (pv 0) pa_nil)) pa_nil)) (pg_tupV (K := K) (n := 2) rfl rfl (pgs_cons (pg_name (i := 2) sc_read_book.nd rfl (Or.inl rfl)) (pgs_cons (pg_name (i := 3) sc_read_book.nd rfl (Or.inl rfl)) pgs_nil)) rfl)
    (pss_cons (ps_set (i := 4) sc_read_book.nd rfl (Or.inl rfl) (pe_call (ok_read_deed T) (hr.mono (by decide)) (by rfl) T.g_read_deed T.F_read_deed.kp T.b_read_deed .nil pass0 (pa_cons (pv 3) pa_nil)))
      (pss_cons (ps_if (PW.pt (pw_or (pt_cmpR op_isN (pv 4) pe_non (nomark _)) (pw_or1 (pt_cmpR op_ge (pv 2) (pe_glob (v := .int 60) rfl T.c_MOST_DEEDS ⟨_, rfl⟩) (nomark _)))))
      (pss_one (ps_raiseSup rfl T.sup_NoText hr (takes_of rfl rfl rfl rfl) (pa_cons (pv 2) pa_nil) (by rfl)))
      pss_nil)
      (pss_one (ps_expr (pe_bm PySem.F.plainAttrs_list PySem.F.slot_list_append PySem.F.type_list_append mt_append (pv 1) (pa_cons (pv 4) pa_nil)))))))
    (pss_one (ps_ret (pe_callTy (call_tuple_ofV (K := K) rfl) (by rfl) T.m_tuple (by decide +kernel) (pa_cons (pv 1) pa_nil)))))), ?_⟩
    walk_at "ww"
    refine alI fun b H1 nb e1 fb1 => ?_
    walk_at "ww"
    have kind : (∃ n, Ty K H v n ∧ isStr v = false ∧ Bad A.c_NoText H E none) ∨ ∃ z, v = .str z ∧ z.length ≤ 30000 ∧ (fb 0 (linesOf z) = none → ∀ t H', Ex H H' → Bk H' t (ppOf z) → Q (.ref t) H') ∧ ∀ i, fb 0 (linesOf z) = some i → Bad A.c_NoText H E (some i) := by
      rcases h with ⟨z, rfl, hl, hf, k⟩ | ⟨o, hn, kE⟩
      · exact .inr ⟨z, rfl, hl, fun _ => k, fun i q => by rw [hf] at q; cases q⟩
      · cases hn with
        | kind ty ns => exact .inl ⟨_, ty, ns, kE⟩
        | bad l hf => exact .inr ⟨_, rfl, l, fun q => (by rw [hf] at q; cases q), fun i q => (by rw [hf] at q; cases q; exact kE)⟩
    clear h
    rcases kind with ⟨n, ty, ns, kE⟩ | ⟨z, rfl, hl, k, kE⟩
    · refine ⟨_, rfl, .inr ⟨n, ty.ex e1, ns, fun H' d e hd => ?_⟩⟩
      exact kE H' d (e1.trans e) hd
    · refine ⟨_, rfl, .inl ⟨z, rfl, hl, fun l H2 nl e2 fl => ?_⟩⟩
      walk_at "ww"
      refine ⟨_, _, rfl, SqL.of fl, ?_⟩
      have nlb : l ≠ b := fun z => by rw [z, fb1] at nl; cases nl
      have lm := lines_many z
      refine for_enL (K := K) (a := l) (xs := (linesOf z).map V.str) (fun i σ H' => ∃ v2 v3 v4 rs, σ = [some (.str z), some (.ref b), v2, v3, v4] ∧ Ex H H' ∧ H' l = some (.lst ((linesOf z).map V.str)) ∧ H' b = some (.lst (rs.map V.ref)) ∧ Dl H' rs ((ppOf z).take i) ∧ ∀ j m, j < i → (linesOf z)[j]? = some m → goodLn m = true ∧ 0 + j < 60) ⟨none, none, none, [], rfl, e1.trans e2, fl, e2 _ _ fb1, .nil, fun j m hj _ => absurd hj (Nat.not_lt_zero _)⟩ (fun i σ H' ⟨_, _, _, _, _, _, q, _⟩ => SqL.of q) ?_ ?_
      · rintro i x T0 σ H3 hx ⟨v2, v3, v4, rs, rfl, e3, fl3, fb3, dl, gd⟩ nT
        rw [List.getElem?_map] at hx
        obtain ⟨ln, hxs, rfl⟩ := Option.map_eq_some_iff.mp hx
        have hi : i < (linesOf z).length := (List.getElem?_eq_some_iff.mp hxs).1
        have hll := Nat.le_trans (lines_len (List.mem_of_getElem? hxs)) hl
        have eT : Ex H3 (upd H3 T0 (.tup [.int (i : Nat), .str ln])) := Ex.new nT
        have fT : (upd H3 T0 (.tup [.int (i : Nat), .str ln])) T0 = some (.tup [.int (i : Nat), .str ln]) := upd_same
        show gTup K 2 _ _ _ (upd H3 T0 (.tup [.int (i : Nat), .str ln])) _
        generalize upd H3 T0 (.tup [.int (i : Nat), .str ln]) = H4 at eT fT ⊢
        refine wGTup (SqT.of fT) rfl ?_
        walk_at "ww"
        refine ⟨ln, rfl, hll, fun t H5 e5 ft => ?_⟩
        have fb5 := (eT.trans e5) _ _ fb3
        have fl5 := (eT.trans e5) _ _ fl3
        cases hg : goodLn ln with
        | false =>
          rw [if_neg Bool.false_ne_true]
          walk_at "ww"
          refine ⟨rfl, ?_⟩
          walk_at "ww"
          rw [decide_eq_true (rfl : V.non = V.non)]
          walk_at "ww"
          have hf := fb_at gd hxs (by rw [hg]; rfl)
          rw [Nat.zero_add] at hf
          exact ⟨_, rfl, _, rfl, fun d hd => kE i hf _ d (e3.trans (eT.trans e5)) hd⟩
        | true =>
          rw [if_pos rfl]
          walk_at "ww"
          refine ⟨rfl, ?_⟩
          walk_at "ww"
          rw [show decide (V.ref t = V.non) = false from decide_eq_false (fun z => nomatch z)]
          walk_at "ww"
          by_cases i60 : i < 60
          · rw [decide_eq_false (show ¬ (60 : Int) ≤ ((i : Nat) : Int) by omega)]
            walk_at "ww"
            refine anTyL fb5 ?_
            walk_at "ww"
            have len := dl.length
            rw [List.length_take] at len
            refine wAppend fb5 (by rw [List.length_map]; omega) ?_
            have hp : (ppOf z)[i]? = some (rowOf ln) := by unfold ppOf; rw [List.getElem?_map, hxs]; rfl
            have D5 := (dl.ex (eT.trans e5)).snoc ft
            refine ⟨_, _, _, rs ++ [t], rfl, (e3.trans (eT.trans e5)).mut nb, (upd_ne nlb).trans fl5, by rw [List.map_append]; exact upd_same, ?_, ?_⟩
            · rw [take_snoc hp]
              exact D5.kp fb5 Kp.set
            · intro j m hj q
              by_cases c : j = i
              · subst c
                rw [hxs] at q
                cases q
                exact ⟨hg, by omega⟩
              · exact gd j m (by omega) q
          · rw [decide_eq_true (show (60 : Int) ≤ ((i : Nat) : Int) by omega)]
            walk_at "ww"
            have hf := fb_at gd hxs (by rw [decide_eq_false (by omega)]; exact Bool.and_false _)
            rw [Nat.zero_add] at hf
            exact ⟨_, rfl, _, rfl, fun d hd => kE i hf _ d (e3.trans (eT.trans e5)) hd⟩
      · rintro σ H3 ⟨v2, v3, v4, rs, rfl, e3, fl3, fb3, dl, gd⟩
        have hp : (ppOf z).length = (linesOf z).length := List.length_map ..
        rw [List.length_map, ← hp, List.take_length] at dl
        rw [List.length_map] at gd
        walk_at "ww"
        refine ⟨b, _, rfl, .inl ⟨SqL.of fb3, fun t nt => ?_⟩⟩
        refine k (fb_all fun j m q => gd j m ((List.getElem?_eq_some_iff.mp q).1) q) t _ (e3.trans (Ex.new nt)) ⟨rs, upd_same, dl.ex (Ex.new nt)⟩
theorem cmp_bls {H : Hp} {x : Addr} {a b c : Bool} (h : H x = some (.lst [.bl a, .bl b, .bl c])) : Cmp H (.ref x) (.list [.bool a, .bool b, .bool c]) :=
  ⟨.lst h (.cons (.bl a) (.cons (.bl b) (.cons (.bl c) .nil))), by simp [PyData.plain, PyData.plainAll], by simp [PyData.depth, PyData.depthAll]⟩
theorem eqv_bls (a b c : Bool) : PyData.eqv (.list [.bool a, .bool b, .bool c]) (.list [.bool a, .bool b, .bool c]) = true := by
  simp only [PyData.eqv, PyData.eqvAll, Bool.and_true, beq_self_eq_true]
def spSort (C : Addr) : Addr × Obj → Sp := fun p vs H Q _ => ∃ (d : Addr) (fs : List (Str × V)), vs = [.ref p.1] ∧ Zc (.ref C) (some d) p.2 ∧ (∃ fv, p.2.data = .fields fv) ∧ H d = some (.xd fs) ∧ ∀ H', Ex H H' → Q (.str "text") H'
theorem ok_Lsort (T : Tx P K mg A) : FnP P w K mg base 1 A.f_Lsort A.d_Lsort ["_law_e"] (spSort A.c_NoText) := by
  refine okP T.F_Lsort sc_Lsort (fun p vs H Q E h => ?_) (fun cdv A' outer s H vs Q E p rm h => ?_)
  · obtain ⟨d, fs, rfl, _⟩ := h
    rfl
  · obtain ⟨a, oe⟩ := p
    obtain ⟨d, fs, rfl, hz, hf, hd, k⟩ := h
    dsimp only at hz hf
    refine ⟨_, (pss_cons (ps_set (i := 1) sc_Lsort.nd rfl (Or.inl rfl) (pe_lst (pa_cons (pe_callB (call_isH (K := K) rfl List.mem_cons_self hz hf) (by rfl) T.m_isinstance (by decide +kernel) (pa_cons (pv 0) (pa_cons (pe_glob (v := .ref A.c_NoNumber) rfl T.g_NoNumber rfl) pa_nil))) (pa_cons (pe_callB (call_isH (K := K) rfl List.mem_cons_self hz hf) (by rfl) T.m_isinstance (by decide +kernel) (pa_cons (pv 0) (pa_cons (pe_glob (v := .ref A.c_NoDeed) rfl T.g_NoDeed rfl) pa_nil))) (pa_cons (pe_callB (call_isH (K := K) rfl List.mem_cons_self hz hf) (by rfl) T.m_isinstance (by decide +kernel) (pa_cons (pv 0) (pa_cons (pe_glob (v := .ref A.c_NoBook) rfl T.g_NoBook rfl) pa_nil))) (pa_cons (pe_callB (call_isH (K := K) rfl List.mem_cons_self hz hf) (by rfl) T.m_isinstance (by decide +kernel) (pa_cons (pv 0) (pa_cons (pe_glob (v := .ref A.c_NoWeb) rfl T.g_NoWeb rfl) pa_nil))) pa_nil))))))
    (pss_cons (ps_set (i := 1) sc_Lsort.nd rfl (Or.inl rfl) (pe_op op_cat (pv 1) (pe_lst (pa_cons (pe_callB (call_isH (K := K) rfl List.mem_cons_self hz hf) (by rfl) T.m_isinstance (by decide +kernel) (pa_cons (pv 0) (pa_cons (pe_glob (v := .ref A.c_NoNames) rfl T.g_NoNames rfl) pa_nil))) (pa_cons (pe_callB (call_isH (K := K) rfl List.mem_cons_self hz hf) (by rfl) T.m_isinstance (by decide +kernel) (pa_cons (pv 0) (pa_cons (pe_glob (v := .ref A.c_NoAmount) rfl T.g_NoAmount rfl) pa_nil))) (pa_cons (pe_callB (call_isH (K := K) rfl List.mem_cons_self hz hf) (by rfl) T.m_isinstance (by decide +kernel) (pa_cons (pv 0) (pa_cons (pe_glob (v := .ref A.c_NoMany) rfl T.g_NoMany rfl) pa_nil))) (pa_cons (pe_callB (call_isH (K := K) rfl List.mem_cons_self hz hf) (by rfl) T.m_isinstance (by decide +kernel) (pa_cons (pv 0) (pa_cons (pe_glob (v := .ref A.c_NoText) rfl T.g_NoText rfl) pa_nil))) pa_nil)))))))
    (pss_cons (ps_set (i := 1) sc_Lsort.nd rfl (Or.inl rfl) (pe_op op_cat (pv 1) (pe_lst (pa_cons (pe_callB (call_isH (K := K) rfl List.mem_cons_self hz hf) (by rfl) T.m_isinstance (by decide +kernel) (pa_cons (pv 0) (pa_cons (pe_glob (v := .ref A.c_NoRow) rfl T.g_NoRow rfl) pa_nil))) (pa_cons (pe_callB (call_isH (K := K) rfl List.mem_cons_self hz hf) (by rfl) T.m_isinstance (by decide +kernel) (pa_cons (pv 0) (pa_cons (pe_glob (v := .ref A.c_NoName) rfl T.g_NoName rfl) pa_nil))) (pa_cons (pe_callB (call_isH (K := K) rfl List.mem_cons_self hz hf) (by rfl) T.m_isinstance (by decide +kernel) (pa_cons (pv 0) (pa_cons (pe_glob (v := .ref A.c_NoLot) rfl T.g_NoLot rfl) pa_nil))) (pa_cons (pe_callB (call_isH (K := K) rfl List.mem_cons_self hz hf) (by rfl) T.m_isinstance (by decide +kernel) (pa_cons (pv 0) (pa_cons (pe_glob (v := .ref A.c_NoPlace) rfl T.g_NoPlace rfl) pa_nil))) pa_nil)))))))
    (pss_cons (ps_set (i := 1) sc_Lsort.nd rfl (Or.inl rfl) (pe_op op_cat (pv 1) (pe_lst (pa_cons (pe_callB (call_isH (K := K) rfl List.mem_cons_self hz hf) (by rfl) T.m_isinstance (by decide +kernel) (pa_cons (pv 0) (pa_cons (pe_glob (v := .ref A.c_NoBack) rfl T.g_NoBack rfl) pa_nil))) (pa_cons (pe_callB (call_isH (K := K) rfl List.mem_cons_self hz hf) (by rfl) T.m_isinstance (by decide +kernel) (pa_cons (pv 0) (pa_cons (pe_glob (v := .ref A.c_Fails) rfl T.g_Fails rfl) pa_nil))) (pa_cons (pe_callB (call_isH (K := K) rfl List.mem_cons_self hz hf) (by rfl) T.m_isinstance (by decide +kernel) (pa_cons (pv 0) (pa_cons (pe_glob (v := .ref A.c_NoMates) rfl T.g_NoMates rfl) pa_nil))) (pa_cons (pe_callB (call_isH (K := K) rfl List.mem_cons_self hz hf) (by rfl) T.m_isinstance (by decide +kernel) (pa_cons (pv 0) (pa_cons (pe_glob (v := .ref A.c_TooMany) rfl T.g_TooMany rfl) pa_nil))) pa_nil)))))))
    (pss_cons (ps_set (i := 2) sc_Lsort.nd rfl (Or.inl rfl) (pe_lst (pa_cons (pe_callB (call_isH (K := K) rfl List.mem_cons_self hz hf) (by rfl) T.m_isinstance (by decide +kernel) (pa_cons (pv 0) (pa_cons (pe_glob (v := .ref A.c_ThankError) rfl T.g_ThankError rfl) pa_nil))) (pa_cons (pe_callB (call_isH (K := K) rfl List.mem_cons_self hz hf) (by rfl) T.m_isinstance (by decide +kernel) (pa_cons (pv 0) (pa_cons (pe_glob (v := .ref A.c_LostError) rfl T.g_LostError rfl) pa_nil))) (pa_cons (pe_callB (call_isH (K := K) rfl List.mem_cons_self hz hf) (by rfl) T.m_isinstance (by decide +kernel) (pa_cons (pv 0) (pa_cons (pe_glob (v := .ref A.c_StandError) rfl T.g_StandError rfl) pa_nil))) pa_nil)))))
    (pss_cons (ps_set (i := 3) sc_Lsort.nd rfl (Or.inl rfl) (pe_lst (pa_cons (pe_callB (call_isH (K := K) rfl List.mem_cons_self hz hf) (by rfl) T.m_isinstance (by decide +kernel) (pa_cons (pv 0) (pa_cons (pe_bltn (v := .ty "ValueError") (by rfl) T.m_ValueError (by decide +kernel) rfl) pa_nil))) (pa_cons (pe_callB (call_isH (K := K) rfl List.mem_cons_self hz hf) (by rfl) T.m_isinstance (by decide +kernel) (pa_cons (pv 0) (pa_cons (pe_bltn (v := .ty "LookupError") (by rfl) T.m_LookupError (by decide +kernel) rfl) pa_nil))) (pa_cons (pe_callB (call_isH (K := K) rfl List.mem_cons_self hz hf) (by rfl) T.m_isinstance (by decide +kernel) (pa_cons (pv 0) (pa_cons (pe_bltn (v := .ty "ArithmeticError") (by rfl) T.m_ArithmeticError (by decide +kernel) rfl) pa_nil))) pa_nil)))))
    (pss_cons (ps_if (PW.pt (pw_or (pt_cmpR op_ne (pe_bm PySem.F.plainAttrs_list PySem.F.slot_list_count PySem.F.type_list_count (mt_countV (K := K) rfl) (pv 1) (pa_cons pe_bl pa_nil)) pe_int (nomark _)) (pw_or1 (pt_cmpR (op_neD (roomU rm)) (pv 2) (pv 3) (nomark _)))))
    (pss_one (ps_ret pe_str))
    pss_nil)
    (pss_cons (ps_set (i := 4) sc_Lsort.nd rfl (Or.inl rfl) (pe_bm PySem.F.plainAttrs_list PySem.F.slot_list_index PySem.F.type_list_index (mt_indexV (K := K) rfl) (pv 1) (pa_cons pe_bl pa_nil)))
    (pss_cons (ps_if (pt_cmpR (op_neD (roomU rm)) (pv 2) (pe_lst (pa_cons (pe_cmpR op_lt (pv 4) pe_int (nomark _)) (pa_cons (pe_chain op_lt op_lt pe_int (pv 4) pe_int) (pa_cons (pe_cmpR op_gt (pv 4) pe_int (nomark _)) pa_nil)))) (nomark _))
    (pss_one (ps_ret pe_str))
    pss_nil)
    (pss_cons (ps_set (i := 5) sc_Lsort.nd rfl (Or.inl rfl) pe_str)
    (pss_one (ps_ret (pe_ix (ix_listV (K := K) rfl) (pe_split (pv 5) pe_str) (pv 4) (fun _ _ => rfl)))))))))))))), ?_⟩
    walk_at "ww"
    refine wIsH T.err_NoText T.ko_NoText_NoNumber (by walk_at "lk") ?_
    walk_at "ww"
    refine wIsH T.err_NoText T.ko_NoText_NoDeed (by walk_at "lk") ?_
    walk_at "ww"
    refine wIsH T.err_NoText T.ko_NoText_NoBook (by walk_at "lk") ?_
    walk_at "ww"
    refine wIsH T.err_NoText T.ko_NoText_NoWeb (by walk_at "lk") ?_
    walk_at "ww"
    refine alI fun a1 H1 n1 e1 f1 => ?_
    walk_at "ww"
    refine wIsH T.err_NoText T.ko_NoText_NoNames (by walk_at "lk") ?_
    walk_at "ww"
    refine wIsH T.err_NoText T.ko_NoText_NoAmount (by walk_at "lk") ?_
    walk_at "ww"
    refine wIsH T.err_NoText T.ko_NoText_NoMany (by walk_at "lk") ?_
    walk_at "ww"
    refine wIsH T.err_NoText T.ko_NoText_NoText (by walk_at "lk") ?_
    walk_at "ww"
    refine alI fun a2 H2 n2 e2 f2 => ?_
    walk_at "ww"
    refine wCat (by walk_at "lk") (by walk_at "lk") (by with_unfolding_all exact Nat.le_of_ble_eq_true rfl) (alI fun a3 H3 n3 e3 f3 => ?_)
    walk_at "ww"
    refine wIsH T.err_NoText T.ko_NoText_NoRow (by walk_at "lk") ?_
    walk_at "ww"
    refine wIsH T.err_NoText T.ko_NoText_NoName (by walk_at "lk") ?_
    walk_at "ww"
    refine wIsH T.err_NoText T.ko_NoText_NoLot (by walk_at "lk") ?_
    walk_at "ww"
    refine wIsH T.err_NoText T.ko_NoText_NoPlace (by walk_at "lk") ?_
    walk_at "ww"
    refine alI fun a4 H4 n4 e4 f4 => ?_
    walk_at "ww"
    refine wCat (by walk_at "lk") (by walk_at "lk") (by with_unfolding_all exact Nat.le_of_ble_eq_true rfl) (alI fun a5 H5 n5 e5 f5 => ?_)
    walk_at "ww"
    refine wIsH T.err_NoText T.ko_NoText_NoBack (by walk_at "lk") ?_
    walk_at "ww"
    refine wIsH T.err_NoText T.ko_NoText_Fails (by walk_at "lk") ?_
    walk_at "ww"
    refine wIsH T.err_NoText T.ko_NoText_NoMates (by walk_at "lk") ?_
    walk_at "ww"
    refine wIsH T.err_NoText T.ko_NoText_TooMany (by walk_at "lk") ?_
    walk_at "ww"
    refine alI fun a6 H6 n6 e6 f6 => ?_
    walk_at "ww"
    refine wCat (by walk_at "lk") (by walk_at "lk") (by with_unfolding_all exact Nat.le_of_ble_eq_true rfl) (alI fun a7 H7 n7 e7 f7 => ?_)
    walk_at "ww"
    refine wIsH T.err_NoText T.ko_NoText_ThankError (by walk_at "lk") ?_
    walk_at "ww"
    refine wIsH T.err_NoText T.ko_NoText_LostError (by walk_at "lk") ?_
    walk_at "ww"
    refine wIsH T.err_NoText T.ko_NoText_StandError (by walk_at "lk") ?_
    walk_at "ww"
    refine alI fun a8 H8 n8 e8 f8 => ?_
    walk_at "ww"
    refine wIsHT T.err_NoText T.ko_NoText_ValueError (by walk_at "lk") ?_
    walk_at "ww"
    refine wIsHT T.err_NoText T.ko_NoText_LookupError (by walk_at "lk") ?_
    walk_at "ww"
    refine wIsHT T.err_NoText T.ko_NoText_ArithmeticError (by walk_at "lk") ?_
    walk_at "ww"
    refine alI fun a9 H9 n9 e9 f9 => ?_
    walk_at "ww"
    have hs : H9 a7 = some (.lst ([V.bl false, V.bl false, V.bl false, V.bl false, V.bl false, V.bl false, V.bl false, V.bl true, V.bl false, V.bl false, V.bl false, V.bl false, V.bl false, V.bl false, V.bl false, V.bl false])) := by walk_at "lk"
    have hb : H9 a8 = some (.lst [V.bl true, V.bl false, V.bl false]) := by walk_at "lk"
    have hp : H9 a9 = some (.lst [V.bl true, V.bl false, V.bl false]) := by walk_at "lk"
    refine anTyL hs ?_
    walk_at "ww"
    refine ⟨_, _, _, rfl, rfl, SqL.of hs, rfl, rfl, ?_⟩
    walk_at "ww"
    refine ⟨_, _, cmp_bls hb, cmp_bls hp, ?_⟩
    rw [eqv_bls]
    walk_at "ww"
    refine anTyL hs ?_
    walk_at "ww"
    refine ⟨_, _, _, 7, _, rfl, rfl, SqL.of hs, rfl, rfl, rfl, rfl, ?_, ?_⟩
    · intro m z q1 q2
      match m, q1 with
      | 0, _ => cases q2; rfl
      | 1, _ => cases q2; rfl
      | 2, _ => cases q2; rfl
      | 3, _ => cases q2; rfl
      | 4, _ => cases q2; rfl
      | 5, _ => cases q2; rfl
      | 6, _ => cases q2; rfl
    walk_at "ww"
    rw [show decide ((8 : Int) < ((7 : Nat) : Int)) = false by decide]
    walk_at "ww"
    refine alI fun a10 H10 n10 e10 f10 => ?_
    walk_at "ww"
    refine ⟨_, _, cmp_bls (by walk_at "lk"), cmp_bls (by walk_at "lk"), ?_⟩
    rw [show (not (PyData.eqv (.list [.bool true, .bool false, .bool false]) (.list [.bool (decide (((7 : Nat) : Int) < 9)), .bool false, .bool (decide ((12 : Int) < ((7 : Nat) : Int)))]))) = false by decide]
    walk_at "ww"
    refine ⟨_, _, rfl, rfl, rfl, by decide, fun l19 n19 => ?_⟩
    walk_at "ww"
    have eS : Builtin.Str.strSub (Str.ofString "number deed book web names amount many text row name lot place back fails mates toomany") (0 + 1 + 1 + 1 + 1 + 1 + 1 + 1 + 1 + 1 + 1 + 1 + 1 + 1 + 1 + 1 + 1 + 1 + 1 + 1 + 1 + 1 + 1 + 1 + 1 + 1 + 1 + 1 + 1 + 1 + 1 + 1 + 1 + 1 + 1 + 1 + 1 + 1 + 1 + (Str.ofString " ").length) (0 + 1 + 1 + 1 + 1 + 1 + 1 + 1 + 1 + 1 + 1 + 1 + 1 + 1 + 1 + 1 + 1 + 1 + 1 + 1 + 1 + 1 + 1 + 1 + 1 + 1 + 1 + 1 + 1 + 1 + 1 + 1 + 1 + 1 + 1 + 1 + 1 + 1 + 1 + 1 + 1 + 1 + 1 + 1) = Str.ofString "text" := by decide +kernel
    rw [eS]
    exact k _ ((((((((((e1.trans e2).trans e3).trans e4).trans e5).trans e6).trans e7).trans e8).trans e9).trans e10).trans (Ex.new n19))
def sortOk (c : Nat) (v : V) : Bool := if c = 109 then measV v else if c = 99 then holdV v else nameV v
def good (S : List Nat) (r : List V) : Bool := (r.zip S).all fun p => sortOk p.2 p.1
def three (z : Str) : Bool := isW (.str z) "give" || (isW (.str z) "hand" || isW (.str z) "forget")
def forms : List (Key × V) := [(.inr "come", .str "n"), (.inr "bring", .str "nnm"), (.inr "give", .str "nnm"), (.inr "hand", .str "nnnm"), (.inr "forget", .str "ncm"), (.inr "go", .str "n")]
theorem forms_merge : mergeK [] forms = forms := by with_unfolding_all rfl
structure Form (z S : Str) : Prop where
  len : S.cps.toList.length ≤ 4
  no : ∀ r : List V, r.length ≠ S.cps.toList.length → deedL (.str z :: r) = false
  bad : ∀ r : List V, r.length = S.cps.toList.length → good S.cps.toList r = false → deedL (.str z :: r) = false
  ok : ∀ r : List V, r.length = S.cps.toList.length → good S.cps.toList r = true → three z = false → deedL (.str z :: r) = true
  two : ∀ r : List V, r.length = S.cps.toList.length → good S.cps.toList r = true → three z = true → ∃ x y r', r = .str x :: .str y :: r' ∧ deedL (.str z :: r) = !decide (V.str x = V.str y)
theorem name_chest2 {v : V} (h : nameV v = true) : isW v "chest" = false := by
  cases e : isW v "chest" with
  | false => rfl
  | true =>
    have q : v = .str "chest" := of_decide_eq_true e
    rw [q, name_chest (z := "chest") (by decide +kernel)] at h
    cases h
theorem sk109 (v : V) : sortOk 109 v = measV v := rfl
theorem sk99 (v : V) : sortOk 99 v = holdV v := rfl
theorem sk110 (v : V) : sortOk 110 v = nameV v := rfl
theorem r1 {r : List V} (h : r.length = 1) : ∃ x, r = [x] := by
  match r, h with
  | [x], _ => exact ⟨x, rfl⟩
theorem r3 {r : List V} (h : r.length = 3) : ∃ x y m, r = [x, y, m] := by
  match r, h with
  | [x, y, m], _ => exact ⟨x, y, m, rfl⟩
theorem r4 {r : List V} (h : r.length = 4) : ∃ x y l m, r = [x, y, l, m] := by
  match r, h with
  | [x, y, l, m], _ => exact ⟨x, y, l, m, rfl⟩
theorem short_w {z : Str} {r : List V} (h1 : isW (.str z) "come" = false) (h2 : isW (.str z) "go" = false) (h3 : isW (.str z) "bring" = false) : shortL (.str z :: r) = false := by
  by_cases l4 : (V.str z :: r).length = 4
  · obtain ⟨x, y, m, rfl⟩ := w4 l4
    show (isW (.str z) "bring" && nameV x && nameV y && measV m) = false
    rw [h3]
    rfl
  · exact short_b (by rw [h1, h2]; rfl) l4
theorem two_w {z : Str} {r : List V} (h1 : isW (.str z) "forget" = false) (h2 : isW (.str z) "give" = false) (h3 : isW (.str z) "hand" = false) : twoL (.str z :: r) = false := by
  by_cases l4 : (V.str z :: r).length = 4
  · obtain ⟨x, y, m, rfl⟩ := w4 l4
    show (measV m && nameV x && holdV y && !decide (x = y) && (isW (.str z) "forget" || (isW (.str z) "give" && !isW y "chest"))) = false
    rw [h1, h2]
    simp
  · by_cases l5 : (V.str z :: r).length = 5
    · obtain ⟨x, y, l, m, rfl⟩ := w5 l5
      show (measV m && nameV x && holdV y && !decide (x = y) && (isW (.str z) "hand" && !isW y "chest" && nameV l)) = false
      rw [h3]
      simp
    · exact two_not l4 l5
theorem two_hand {z : Str} {r : List V} (h1 : isW (.str z) "forget" = false) (h2 : isW (.str z) "give" = false) (l5 : (V.str z :: r).length ≠ 5) : twoL (.str z :: r) = false := by
  by_cases l4 : (V.str z :: r).length = 4
  · obtain ⟨x, y, m, rfl⟩ := w4 l4
    show (measV m && nameV x && holdV y && !decide (x = y) && (isW (.str z) "forget" || (isW (.str z) "give" && !isW y "chest"))) = false
    rw [h1, h2]
    simp
  · exact two_not l4 l5
theorem two_four {z : Str} {r : List V} (h3 : isW (.str z) "hand" = false) (l4 : (V.str z :: r).length ≠ 4) : twoL (.str z :: r) = false := by
  by_cases l5 : (V.str z :: r).length = 5
  · obtain ⟨x, y, l, m, rfl⟩ := w5 l5
    show (measV m && nameV x && holdV y && !decide (x = y) && (isW (.str z) "hand" && !isW y "chest" && nameV l)) = false
    rw [h3]
    simp
  · exact two_not l4 l5
theorem form_come : Form "come" "n" := by
  have i_come : isW (.str "come") "come" = true := by decide +kernel
  have i_bring : isW (.str "come") "bring" = false := by decide +kernel
  have i_give : isW (.str "come") "give" = false := by decide +kernel
  have i_hand : isW (.str "come") "hand" = false := by decide +kernel
  have i_forget : isW (.str "come") "forget" = false := by decide +kernel
  have i_go : isW (.str "come") "go" = false := by decide +kernel
  have eS : (("n" : Str)).cps.toList = [110] := by decide +kernel
  have eT : three "come" = false := by unfold three; rw [i_give, i_hand, i_forget]; rfl
  have dd : ∀ x, deedL [.str "come", x] = nameV x := fun x => by
    show (((isW (.str "come") "come" || isW (.str "come") "go") && nameV x) || twoL _) = _
    rw [two_w i_forget i_give i_hand, i_come, i_go]
    simp
  refine ⟨by rw [eS]; decide, fun r h => ?_, fun r h g => ?_, fun r h g _ => ?_, fun r h g t => ?_⟩
  · rw [eS] at h
    unfold deedL
    rw [two_w i_forget i_give i_hand, short_cg i_bring (by simp at h ⊢; omega)]
    rfl
  · rw [eS] at h g
    obtain ⟨x, rfl⟩ := r1 h
    rw [dd]
    simpa [good, sk110] using g
  · rw [eS] at h g
    obtain ⟨x, rfl⟩ := r1 h
    rw [dd]
    simpa [good, sk110] using g
  · rw [eT] at t
    cases t
theorem form_bring : Form "bring" "nnm" := by
  have i_come : isW (.str "bring") "come" = false := by decide +kernel
  have i_bring : isW (.str "bring") "bring" = true := by decide +kernel
  have i_give : isW (.str "bring") "give" = false := by decide +kernel
  have i_hand : isW (.str "bring") "hand" = false := by decide +kernel
  have i_forget : isW (.str "bring") "forget" = false := by decide +kernel
  have i_go : isW (.str "bring") "go" = false := by decide +kernel
  have eS : (("nnm" : Str)).cps.toList = [110, 110, 109] := by decide +kernel
  have eT : three "bring" = false := by unfold three; rw [i_give, i_hand, i_forget]; rfl
  have dd : ∀ x y m, deedL [.str "bring", x, y, m] = (nameV x && nameV y && measV m) := fun x y m => by
    show ((isW (.str "bring") "bring" && nameV x && nameV y && measV m) || twoL _) = _
    rw [two_w i_forget i_give i_hand, i_bring]
    simp
  refine ⟨by rw [eS]; decide, fun r h => ?_, fun r h g => ?_, fun r h g _ => ?_, fun r h g t => ?_⟩
  · rw [eS] at h
    unfold deedL
    rw [two_w i_forget i_give i_hand, short_b (by rw [i_come, i_go]; rfl) (by simp at h ⊢; omega)]
    rfl
  · rw [eS] at h g
    obtain ⟨x, y, m, rfl⟩ := r3 h
    rw [dd]
    simp [good, sk110, sk109] at g
    cases a : nameV x <;> cases b : nameV y <;> cases c : measV m <;> simp_all
  · rw [eS] at h g
    obtain ⟨x, y, m, rfl⟩ := r3 h
    rw [dd]
    simp [good, sk110, sk109] at g
    cases a : nameV x <;> cases b : nameV y <;> cases c : measV m <;> simp_all
  · rw [eT] at t
    cases t
theorem form_give : Form "give" "nnm" := by
  have i_come : isW (.str "give") "come" = false := by decide +kernel
  have i_bring : isW (.str "give") "bring" = false := by decide +kernel
  have i_give : isW (.str "give") "give" = true := by decide +kernel
  have i_hand : isW (.str "give") "hand" = false := by decide +kernel
  have i_forget : isW (.str "give") "forget" = false := by decide +kernel
  have i_go : isW (.str "give") "go" = false := by decide +kernel
  have eS : (("nnm" : Str)).cps.toList = [110, 110, 109] := by decide +kernel
  have eT : three "give" = true := by unfold three; rw [i_give, i_hand, i_forget]; rfl
  have dd : ∀ x y m, deedL [.str "give", x, y, m] = (measV m && nameV x && holdV y && !decide (x = y) && !isW y "chest") := fun x y m => by
    unfold deedL
    rw [short_w i_come i_go i_bring]
    show (false || (measV m && nameV x && holdV y && !decide (x = y) && (isW (.str "give") "forget" || (isW (.str "give") "give" && !isW y "chest")))) = _
    rw [i_forget, i_give]
    simp
  refine ⟨by rw [eS]; decide, fun r h => ?_, fun r h g => ?_, fun r h g t => ?_, fun r h g _ => ?_⟩
  · rw [eS] at h
    unfold deedL
    rw [short_w i_come i_go i_bring, two_four i_hand (by simp at h ⊢; omega)]
    rfl
  · rw [eS] at h g
    obtain ⟨x, y, m, rfl⟩ := r3 h
    rw [dd]
    have hy := @name_chest2 y
    unfold holdV
    simp [good, sk110, sk109, sk99] at g
    cases a : nameV x <;> cases b : measV m <;> cases c : nameV y <;> cases d : isW y "chest" <;> simp_all
  · rw [eT] at t
    cases t
  · rw [eS] at h g
    obtain ⟨x, y, m, rfl⟩ := r3 h
    rw [dd]
    simp [good, sk110, sk109, sk99] at g
    obtain ⟨g1, g2, g3⟩ := g
    obtain ⟨zx, rfl⟩ := name_str g1
    obtain ⟨zy, rfl⟩ := name_str g2
    refine ⟨zx, zy, _, rfl, ?_⟩
    unfold holdV
    rw [g1, g2, g3, name_chest2 g2]
    simp
theorem form_hand : Form "hand" "nnnm" := by
  have i_come : isW (.str "hand") "come" = false := by decide +kernel
  have i_bring : isW (.str "hand") "bring" = false := by decide +kernel
  have i_give : isW (.str "hand") "give" = false := by decide +kernel
  have i_hand : isW (.str "hand") "hand" = true := by decide +kernel
  have i_forget : isW (.str "hand") "forget" = false := by decide +kernel
  have i_go : isW (.str "hand") "go" = false := by decide +kernel
  have eS : (("nnnm" : Str)).cps.toList = [110, 110, 110, 109] := by decide +kernel
  have eT : three "hand" = true := by unfold three; rw [i_give, i_hand, i_forget]; rfl
  have dd : ∀ x y l m, deedL [.str "hand", x, y, l, m] = (measV m && nameV x && holdV y && !decide (x = y) && (!isW y "chest" && nameV l)) := fun x y l m => by
    unfold deedL
    rw [short_w i_come i_go i_bring]
    show (false || (measV m && nameV x && holdV y && !decide (x = y) && (isW (.str "hand") "hand" && !isW y "chest" && nameV l))) = _
    rw [i_hand]
    simp
  refine ⟨by rw [eS]; decide, fun r h => ?_, fun r h g => ?_, fun r h g t => ?_, fun r h g _ => ?_⟩
  · rw [eS] at h
    unfold deedL
    rw [short_w i_come i_go i_bring, two_hand i_forget i_give (by simp at h ⊢; omega)]
    rfl
  · rw [eS] at h g
    obtain ⟨x, y, l, m, rfl⟩ := r4 h
    rw [dd]
    have hy := @name_chest2 y
    unfold holdV
    simp [good, sk110, sk109, sk99] at g
    cases a : nameV x <;> cases b : measV m <;> cases c : nameV y <;> cases d : isW y "chest" <;> cases e : nameV l <;> simp_all
  · rw [eT] at t
    cases t
  · rw [eS] at h g
    obtain ⟨x, y, l, m, rfl⟩ := r4 h
    rw [dd]
    simp [good, sk110, sk109, sk99] at g
    obtain ⟨g1, g2, g4, g3⟩ := g
    obtain ⟨zx, rfl⟩ := name_str g1
    obtain ⟨zy, rfl⟩ := name_str g2
    refine ⟨zx, zy, _, rfl, ?_⟩
    unfold holdV
    rw [g1, g2, g3, g4, name_chest2 g2]
    simp
theorem form_forget : Form "forget" "ncm" := by
  have i_come : isW (.str "forget") "come" = false := by decide +kernel
  have i_bring : isW (.str "forget") "bring" = false := by decide +kernel
  have i_give : isW (.str "forget") "give" = false := by decide +kernel
  have i_hand : isW (.str "forget") "hand" = false := by decide +kernel
  have i_forget : isW (.str "forget") "forget" = true := by decide +kernel
  have i_go : isW (.str "forget") "go" = false := by decide +kernel
  have eS : (("ncm" : Str)).cps.toList = [110, 99, 109] := by decide +kernel
  have eT : three "forget" = true := by unfold three; rw [i_give, i_hand, i_forget]; rfl
  have dd : ∀ x y m, deedL [.str "forget", x, y, m] = (measV m && nameV x && holdV y && !decide (x = y) && true) := fun x y m => by
    unfold deedL
    rw [short_w i_come i_go i_bring]
    show (false || (measV m && nameV x && holdV y && !decide (x = y) && (isW (.str "forget") "forget" || (isW (.str "forget") "give" && !isW y "chest")))) = _
    rw [i_forget, i_give]
    simp
  refine ⟨by rw [eS]; decide, fun r h => ?_, fun r h g => ?_, fun r h g t => ?_, fun r h g _ => ?_⟩
  · rw [eS] at h
    unfold deedL
    rw [short_w i_come i_go i_bring, two_four i_hand (by simp at h ⊢; omega)]
    rfl
  · rw [eS] at h g
    obtain ⟨x, y, m, rfl⟩ := r3 h
    rw [dd]
    simp [good, sk110, sk109, sk99] at g
    cases a : nameV x <;> cases b : measV m <;> cases c : holdV y <;> simp_all
  · rw [eT] at t
    cases t
  · rw [eS] at h g
    obtain ⟨x, y, m, rfl⟩ := r3 h
    rw [dd]
    simp [good, sk110, sk109, sk99] at g
    obtain ⟨g1, g2, g3⟩ := g
    obtain ⟨zx, rfl⟩ := name_str g1
    obtain ⟨zy, rfl⟩ := hold_str g2
    refine ⟨zx, zy, _, rfl, ?_⟩
    rw [g1, g2, g3]
    simp
theorem form_go : Form "go" "n" := by
  have i_come : isW (.str "go") "come" = false := by decide +kernel
  have i_bring : isW (.str "go") "bring" = false := by decide +kernel
  have i_give : isW (.str "go") "give" = false := by decide +kernel
  have i_hand : isW (.str "go") "hand" = false := by decide +kernel
  have i_forget : isW (.str "go") "forget" = false := by decide +kernel
  have i_go : isW (.str "go") "go" = true := by decide +kernel
  have eS : (("n" : Str)).cps.toList = [110] := by decide +kernel
  have eT : three "go" = false := by unfold three; rw [i_give, i_hand, i_forget]; rfl
  have dd : ∀ x, deedL [.str "go", x] = nameV x := fun x => by
    show (((isW (.str "go") "come" || isW (.str "go") "go") && nameV x) || twoL _) = _
    rw [two_w i_forget i_give i_hand, i_come, i_go]
    simp
  refine ⟨by rw [eS]; decide, fun r h => ?_, fun r h g => ?_, fun r h g _ => ?_, fun r h g t => ?_⟩
  · rw [eS] at h
    unfold deedL
    rw [two_w i_forget i_give i_hand, short_cg i_bring (by simp at h ⊢; omega)]
    rfl
  · rw [eS] at h g
    obtain ⟨x, rfl⟩ := r1 h
    rw [dd]
    simpa [good, sk110] using g
  · rw [eS] at h g
    obtain ⟨x, rfl⟩ := r1 h
    rw [dd]
    simpa [good, sk110] using g
  · rw [eT] at t
    cases t
theorem form_none {z : Str} (h : valV forms (.inr z) = none) (r : List V) : deedL (.str z :: r) = false := by
  have e : ∀ a : Str, (∃ v, ((.inr a : Key), v) ∈ forms) → isW (.str z) a = false := fun a ⟨v, hv⟩ => by
    refine decide_eq_false fun q => ?_
    have q : z = a := V.str.inj q
    subst q
    unfold valV at h
    rw [Option.map_eq_none_iff, List.find?_eq_none] at h
    exact h _ hv (decide_eq_true rfl)
  unfold deedL
  rw [short_w (e _ ⟨_, .head _⟩) (e _ ⟨_, .tail _ (.tail _ (.tail _ (.tail _ (.tail _ (.head _)))))⟩) (e _ ⟨_, .tail _ (.head _)⟩), two_w (e _ ⟨_, .tail _ (.tail _ (.tail _ (.tail _ (.head _))))⟩) (e _ ⟨_, .tail _ (.tail _ (.head _))⟩) (e _ ⟨_, .tail _ (.tail _ (.tail _ (.head _)))⟩)]
  rfl
theorem form_some {z : Str} {v : V} (h : valV forms (.inr z) = some v) : ∃ S, v = .str S ∧ Form z S := by
  unfold valV at h
  obtain ⟨p, hp, rfl⟩ := Option.map_eq_some_iff.mp h
  have e0 := List.find?_some hp
  have e : p.1 = .inr z := of_decide_eq_true (show decide (p.1 = .inr z) = true from e0)
  have hm := List.mem_of_find?_eq_some hp
  obtain ⟨k, v⟩ := p
  subst e
  unfold forms at hm
  simp only [List.mem_cons, List.not_mem_nil, or_false, Prod.mk.injEq] at hm
  rcases hm with ⟨a, b⟩ | ⟨a, b⟩ | ⟨a, b⟩ | ⟨a, b⟩ | ⟨a, b⟩ | ⟨a, b⟩
  · cases Sum.inr.inj a
    exact ⟨_, b, form_come⟩
  · cases Sum.inr.inj a
    exact ⟨_, b, form_bring⟩
  · cases Sum.inr.inj a
    exact ⟨_, b, form_give⟩
  · cases Sum.inr.inj a
    exact ⟨_, b, form_hand⟩
  · cases Sum.inr.inj a
    exact ⟨_, b, form_forget⟩
  · cases Sum.inr.inj a
    exact ⟨_, b, form_go⟩
theorem one_sign (c d : Nat) : decide (V.str ⟨#[c]⟩ = V.str ⟨#[d]⟩) = decide (c = d) := by
  rw [Bool.eq_iff_iff]
  simp
theorem in3 (z : Str) : inV (.str z) [.str "give", .str "hand", .str "forget"] = three z := by
  have h : ∀ a : Str, eqV (.str a) (.str z) = isW (.str z) a := fun a => by
    show (a == z) = decide (V.str z = V.str a)
    rw [Bool.eq_iff_iff]
    simp
    exact eq_comm
  show (eqV (.str "give") (.str z) || (eqV (.str "hand") (.str z) || (eqV (.str "forget") (.str z) || false))) = _
  rw [h, h, h, Bool.or_false]
  rfl
theorem good_bad {r : List V} {S : Str} {i : Nat} {y : V} {c : Nat} (hy : r[i]? = some y) (hc : S.cps[i]? = some c) (h : sortOk c y = false) : good S.cps.toList r = false := by
  have hm : (y, c) ∈ r.zip S.cps.toList := by
    refine List.mem_of_getElem? (i := i) ?_
    rw [List.getElem?_zip_eq_some]
    exact ⟨hy, by rw [Array.getElem?_toList]; exact hc⟩
  cases e : good S.cps.toList r with
  | false => rfl
  | true =>
    have := List.all_eq_true.mp e _ hm
    rw [h] at this
    cases this
theorem good_all {r : List V} {S : Str} (h : ∀ (j : Nat) v c, r[j]? = some v → S.cps[j]? = some c → sortOk c v = true) : good S.cps.toList r = true := by
  refine List.all_eq_true.mpr fun p hp => ?_
  obtain ⟨j, hj⟩ := List.mem_iff_getElem?.mp hp
  rw [List.getElem?_zip_eq_some] at hj
  exact h j p.1 p.2 hj.1 (by rw [← Array.getElem?_toList]; exact hj.2)
theorem cut1 (w : V) (r : List V) : cutV (w :: r) (some 1) none = r := by
  have e : HT.sIx (w :: r).length 0 (some 1) = min 1 (w :: r).length := HT.sIx_nat _ _ 1
  unfold cutV
  rw [HT.sIx_none, e]
  simp

theorem wIZipL {K : PySem.W.Frag} {ta : TA} {σ : L2.St} {H : Hp} {R : It → Hp → Prop} (k : ta σ H fun vs H1 => ∃ (a : Addr) (x : Str) (xs : List V), vs = [.ref a, .str x] ∧ SqL K H1 a xs ∧ R (ZipL.ItzL K a x) H1) : ZipL.iZipL K ta σ H R := k
/-- how a deed's word sorts its other parts -/
inductive Sorts : Str → Str → Prop
  | short {z S : Str} (h : z = "come" ∨ z = "go") (e : S.cps.toList = [110]) : Sorts z S
  | long {z S : Str} (h : z ≠ "come" ∧ z ≠ "go") (p : List Nat) (e : S.cps.toList = p ++ [109]) (hp : ∀ c ∈ p, c = 110 ∨ c = 99) (l : 2 ≤ p.length) : Sorts z S
theorem form_sorts {z : Str} {v : V} (h : valV forms (.inr z) = some v) : ∃ S, v = .str S ∧ Form z S ∧ Sorts z S ∧ nameS z = true := by
  unfold valV at h
  obtain ⟨p, hp, rfl⟩ := Option.map_eq_some_iff.mp h
  have e0 := List.find?_some hp
  have e : p.1 = .inr z := of_decide_eq_true (show decide (p.1 = .inr z) = true from e0)
  have hm := List.mem_of_find?_eq_some hp
  obtain ⟨k, v⟩ := p
  subst e
  unfold forms at hm
  simp only [List.mem_cons, List.not_mem_nil, or_false, Prod.mk.injEq] at hm
  rcases hm with ⟨a, b⟩ | ⟨a, b⟩ | ⟨a, b⟩ | ⟨a, b⟩ | ⟨a, b⟩ | ⟨a, b⟩
  · cases Sum.inr.inj a
    exact ⟨_, b, form_come, .short (.inl rfl) (by decide +kernel), by decide +kernel⟩
  · cases Sum.inr.inj a
    exact ⟨_, b, form_bring, .long (by decide +kernel) [110, 110] (by decide +kernel) (by decide) (by decide), by decide +kernel⟩
  · cases Sum.inr.inj a
    exact ⟨_, b, form_give, .long (by decide +kernel) [110, 110] (by decide +kernel) (by decide) (by decide), by decide +kernel⟩
  · cases Sum.inr.inj a
    exact ⟨_, b, form_hand, .long (by decide +kernel) [110, 110, 110] (by decide +kernel) (by decide) (by decide), by decide +kernel⟩
  · cases Sum.inr.inj a
    exact ⟨_, b, form_forget, .long (by decide +kernel) [110, 99] (by decide +kernel) (by decide) (by decide), by decide +kernel⟩
  · cases Sum.inr.inj a
    exact ⟨_, b, form_go, .short (.inr rfl) (by decide +kernel), by decide +kernel⟩
theorem rd_str {z x : Str} (h : rdV z = .str x) : z = x := by
  unfold rdV at h
  split at h
  · cases h
  · exact V.str.inj h
theorem rd_hold {z : Str} (h : holdV (rdV z) = true) : rdV z = .str z := by
  rw [hold_rd, Bool.or_eq_true] at h
  rcases h with h | h
  · exact rd_name h
  · rw [of_decide_eq_true h]
    decide +kernel
theorem rd_meas {z : Str} (h : measV (rdV z) = true) : rdV z = .int (PySem.NumText.digitsVal z.cps.toList : Nat) := by
  unfold rdV at h ⊢
  split at h
  · rename_i hf
    rw [if_pos hf]
  · cases h
/-- a good deed's row: all but the last are texts as they stand -/
theorem row_shape {z S : Str} (s : Sorts z S) {r : List Str} (hl : r.length = S.cps.toList.length) (g : good S.cps.toList (r.map rdV) = true) : ∃ (q : List Str) (w : Str), r = q ++ [w] ∧ q.map rdV = q.map V.str ∧
    (((z = "come" ∨ z = "go") ∧ rdV w = .str w) ∨ ((z ≠ "come" ∧ z ≠ "go") ∧ measV (rdV w) = true)) := by
  have key : ∀ (j : Nat) w c, r[j]? = some w → S.cps.toList[j]? = some c → sortOk c (rdV w) = true := fun j w c hw hc => by
    have hm : (rdV w, c) ∈ (r.map rdV).zip S.cps.toList := by
      refine List.mem_of_getElem? (i := j) ?_
      rw [List.getElem?_zip_eq_some]
      exact ⟨by rw [List.getElem?_map, hw]; rfl, hc⟩
    exact List.all_eq_true.mp g _ hm
  cases s with
  | short h e =>
    rw [e] at hl key
    obtain ⟨w, rfl⟩ : ∃ w, r = [w] := by
      match r, hl with
      | [w], _ => exact ⟨w, rfl⟩
    refine ⟨[], w, rfl, rfl, .inl ⟨h, ?_⟩⟩
    have k0 : nameV (rdV w) = true := key 0 w 110 rfl rfl
    rw [name_rd] at k0
    exact rd_name k0
  | long h p e hp l =>
    rw [e] at hl key
    rw [List.length_append, List.length_singleton] at hl
    have ne : r ≠ [] := fun q => by rw [q] at hl; cases hl
    obtain ⟨q, w, rfl⟩ : ∃ q w, r = q ++ [w] := ⟨r.dropLast, r.getLast ne, (List.dropLast_concat_getLast ne).symm⟩
    rw [List.length_append, List.length_singleton] at hl
    have hq : q.length = p.length := by omega
    refine ⟨q, w, rfl, List.map_congr_left fun x hx => ?_, .inr ⟨h, ?_⟩⟩
    · obtain ⟨j, hj⟩ := List.mem_iff_getElem?.mp hx
      have jl : j < q.length := (List.getElem?_eq_some_iff.mp hj).1
      have hc : p[j]? = some p[j] := List.getElem?_eq_getElem (by omega)
      have k1 := key j x p[j] (by rw [List.getElem?_append_left jl]; exact hj) (by rw [List.getElem?_append_left (by omega)]; exact hc)
      rcases hp p[j] (List.getElem_mem (by omega)) with c | c
      · rw [c] at k1
        have k1 : nameV (rdV x) = true := k1
        rw [name_rd] at k1
        exact rd_name k1
      · rw [c] at k1
        exact rd_hold k1
    · have k1 := key q.length w 109 (by rw [List.getElem?_append_right (Nat.le_refl _), Nat.sub_self]; rfl) (by rw [hq, List.getElem?_append_right (Nat.le_refl _), Nat.sub_self]; rfl)
      exact k1
def spIsName : Sp := fun vs H Q _ => ∃ z : Str, vs = [.str z] ∧ z.length ≤ 30000 ∧ ∀ H', Ex H H' → Q (.bl (nameS z)) H'
theorem ok_Lis_name (T : Tx P K mg A) : FnOk P w K mg base CX0 1 A.f_Lis_name A.d_Lis_name ["_law_word"] spIsName := by
  refine T.F_Lis_name.ok sc_Lis_name (fun vs H Q E h => ?_) (fun cdv A' outer s H vs Q E hr h => ?_)
  · obtain ⟨z, rfl, _⟩ := h
    rfl
  · obtain ⟨z, rfl, hl, k⟩ := h
    refine ⟨_, (pss_cons (ps_set (i := 1) sc_Lis_name.nd rfl (Or.inr rfl) pe_str)
    (pss_one (ps_ret (pe_and (pe_chain op_le op_le pe_int (pe_callB (call_lenV (K := K) rfl) (by rfl) T.m_len (by decide +kernel) (pa_cons (pv 0) pa_nil)) pe_int) (pe_and (pe_cmpR op_ne (pv 0) pe_str (nomark _)) (pe_one (pe_callB (cr_allV (K := K) rfl rfl) (by rfl) T.m_all (by decide +kernel) (pa_cons (pe_lc rfl sc_Lis_name.nd (g := gName 2) (pi_str (pv 0)) (blkOk_by (own := [("_law_sign", 2)]) (N := ["_law_word", "_law_letters", "_law_sign"]) (sc := defScope s_Lis_name) (by decide +kernel)) (fun _ _ _ _ _ => (pg_name (i := 2) sc_Lis_name.nd rfl (Or.inl rfl))) (fun _ _ _ _ _ => pts_nil) (fun _ _ _ _ _ => (pe_cmpR op_in_sign (pv 2) (pv 1) (by rfl)))) pa_nil)))))))), ?_⟩
    walk_at "ww"
    refine wLenS (sz6 (by omega)) ?_
    walk_at "ww"
    refine ite2 (fun c2 => ?_) (fun c2 => ?_)
    · walk_at "ww"
      refine ite2 (fun c3 => ?_) (fun c3 => ?_)
      · walk_at "ww"
        refine ite2 (fun c1 => ?_) (fun c1 => ?_)
        · walk_at "ww"
          intro D hD
          refine lcStr (fun H' => Ex H H') (fun i y _ => ∃ c, z.cps[i]? = some c ∧ y = .bl (decide (97 ≤ c ∧ c ≤ 122))) (by show z.length ≤ _; omega) (fun _ => rfl) (Ex.new hD) (fun i c hc H' acc e hD' hl' hR => ?_) (fun H' ys e hD' hl' hR => ?_)
          · have hi : i ≤ 100000 := by
              have h1 := (Array.getElem?_eq_some_iff.mp hc).1
              have h2 : z.cps.size ≤ 30000 := hl
              omega
            walk_at "ww"
            rw [letters_in]
            exact lcAdd hD' hl' hi (e.mut hD) hR ⟨c, hc, rfl⟩
          · have em := map_bl hl' hR
            subst em
            refine wAll (SqL.of hD') ?_
            rw [List.all_map]
            have q : nameS z = z.cps.toList.all fun c => decide (97 ≤ c ∧ c ≤ 122) := name_all (by simp at c2; omega) (by simp at c3; omega) (by simpa using c1)
            rw [q] at k
            exact k H' e
        · rw [show false = nameS z from (name_chest (by simpa using c1)).symm]
          exact k H (Ex.refl H)
      · rw [show false = nameS z from (name_long (by simp at c3; omega)).symm]
        exact k H (Ex.refl H)
    · walk_at "ww"
      rw [show false = nameS z from (name_short (by simp at c2; omega)).symm]
      exact k H (Ex.refl H)
section
variable {K : PySem.W.Frag} {H : Hp} {a : Addr}
theorem wCatAny {Q : VK} {b : Addr} {xs ys : List V} (h1 : H a = some (.tup xs)) (h2 : H b = some (.tup ys)) (hl : xs.length + ys.length ≤ 100000) (k : ∀ c H', Ex H H' → H' c = some (.tup (xs ++ ys)) → Q (.ref c) H') : rCatA K (.ref a) (.ref b) H Q :=
  ⟨a, b, xs, ys, rfl, rfl, SqT.of h1, SqT.of h2, sz6 hl, fun e => k b H (Ex.refl H) (by rw [e]; exact h2), fun _ e => k a H (Ex.refl H) (by rw [e, List.append_nil]; exact h1), fun _ _ q hq => k q _ (Ex.new hq) upd_same⟩
theorem wCatL {Q : VK} {b : Addr} {xs ys : List V} (h1 : H a = some (.lst xs)) (h2 : H b = some (.lst ys)) (hl : xs.length + ys.length ≤ 100000) (k : ∀ c H', Ex H H' → H' c = some (.lst (xs ++ ys)) → H c = none → Q (.ref c) H') : rCat (.ref a) (.ref b) H Q :=
  wCat h1 h2 (sz6 hl) fun q hq => k q _ (Ex.new hq) upd_same hq
end
theorem digits_in (c : Nat) : decide (c ∈ (("0123456789" : Str)).cps.toList) = decide (48 ≤ c ∧ c ≤ 57) := by
  have e : (("0123456789" : Str)).cps.toList = (List.range 10).map (· + 48) := by decide +kernel
  rw [e, Bool.eq_iff_iff]
  simp only [decide_eq_true_eq, List.mem_map, List.mem_range]
  constructor
  · rintro ⟨a, h, rfl⟩
    omega
  · intro h
    exact ⟨c - 48, by omega, by omega⟩
theorem cutV_last (xs : List V) (w : V) : cutV (xs ++ [w]) none (some (-1)) = xs := by
  have e : HT.sIx (xs ++ [w]).length (xs ++ [w]).length (some (-1)) = xs.length := by
    show (if (-1 : Int) < 0 then ((-1 : Int) + (((xs ++ [w]).length : Nat) : Int)).toNat else min (-1 : Int).toNat (xs ++ [w]).length) = _
    rw [if_pos (by decide), List.length_append, List.length_singleton]
    omega
  unfold cutV
  rw [HT.sIx_none, e]
  simp
def sortS (c : Nat) (w : Str) : Bool := if c = 109 then measL w.cps.toList else (nameS w || (decide (c = 99) && decide (w = "chest")))
theorem sort_rd (c : Nat) (w : Str) : sortOk c (rdV w) = true → sortS c w = true := by
  unfold sortOk sortS
  split
  · rw [meas_rd]; exact id
  · split
    · rename_i h
      rw [hold_rd, decide_eq_true h, Bool.true_and]
      exact id
    · rw [name_rd]
      intro h
      rw [h]
      rfl
theorem rd_sort (c : Nat) (w : Str) : sortS c w = true → sortOk c (rdV w) = true := by
  unfold sortOk sortS
  split
  · rw [meas_rd]; exact id
  · split
    · rename_i h
      rw [hold_rd, decide_eq_true h, Bool.true_and]
      exact id
    · rename_i h
      rw [name_rd, decide_eq_false h, Bool.false_and, Bool.or_false]
      exact id
def spDeedOf : Sp := fun vs H Q _ => ∃ l : Str, vs = [.str l] ∧ l.length ≤ 30000 ∧ (goodLn l = false → ∀ H', Ex H H' → Q .non H') ∧ (goodLn l = true → ∀ t H', Ex H H' → H' t = some (.tup (rowOf l)) → Q (.ref t) H')
theorem ok_Ldeed_of (T : Tx P K mg A) : FnOk P w K mg base CX0 2 A.f_Ldeed_of A.d_Ldeed_of ["_law_line_here"] spDeedOf := by
  refine T.F_Ldeed_of.ok sc_Ldeed_of (fun vs H Q E h => ?_) (fun cdv A' outer s H vs Q E hr h => ?_)
  · obtain ⟨l, rfl, _⟩ := h
    rfl
  · obtain ⟨ln, rfl, hln, kN, kT⟩ := h
    refine ⟨_, (pss_cons (ps_set (i := 1) sc_Ldeed_of.nd rfl (Or.inl rfl) (pe_disp (pps_cons pe_str pe_str (pps_cons pe_str pe_str (pps_cons pe_str pe_str (pps_cons pe_str pe_str (pps_cons pe_str pe_str (pps_cons pe_str pe_str pps_nil)))))) rfl rfl (by simp) (by decide)))
    (pss_cons (ps_set (i := 2) sc_Ldeed_of.nd rfl (Or.inl rfl) (pe_split (pv 0) pe_str))
    (pss_cons (ps_if (PW.pt (pw_or (pt_cmp (pc_dnotin (hu_of hr) (pe_ix (ix_listV (K := K) rfl) (pv 2) pe_int (fun _ _ => rfl)) (pv 1))) (pw_or1 (pt_cmpR op_ne (pe_callB (call_lenV (K := K) rfl) (by rfl) T.m_len (by decide +kernel) (pa_cons (pv 2) pa_nil)) (pe_op op_add pe_int (pe_callB (call_lenV (K := K) rfl) (by rfl) T.m_len (by decide +kernel) (pa_cons (pe_dget (hu_of hr) (pv 1) (pe_ix (ix_listV (K := K) rfl) (pv 2) pe_int (fun _ _ => rfl)) (fun _ _ => rfl)) pa_nil))) (nomark _)))))
    (pss_one (ps_ret pe_non))
    pss_nil)
    (pss_cons (ps_for PassesOwn.never rfl (ZipL.pi_zipL (K := K) rfl (by rfl) T.m_zip (pa_cons (pe_slice (sl_listV (K := K) rfl) (pv 2) (po_some pe_int) po_none) (pa_cons (pe_dget (hu_of hr) (pv 1) (pe_ix (ix_listV (K := K) rfl) (pv 2) pe_int (fun _ _ => rfl)) (fun _ _ => rfl)) pa_nil))) (pg_tupV (K := K) (n := 2) rfl rfl (pgs_cons (pg_name (i := 3) sc_Ldeed_of.nd rfl (Or.inl rfl)) (pgs_cons (pg_name (i := 4) sc_Ldeed_of.nd rfl (Or.inl rfl)) pgs_nil)) rfl)
    (C8.pss_cut (ps_set (i := 5) sc_Ldeed_of.nd rfl (Or.inl rfl) (pe_or (pe_call (ok_Lis_name T) (hr.mono (by decide)) (by rfl) T.g_Lis_name T.F_Lis_name.kp T.b_Lis_name .nil pass0 (pa_cons (pv 3) pa_nil)) (pe_one (pe_and (pe_cmpR op_eq (pv 4) pe_str (nomark _)) (pe_one (pe_cmpR op_eq (pv 3) pe_str (nomark _)))))))
      (C8.pss_cut (ps_if (pt_cmpR op_eq (pv 4) pe_str (nomark _))
      (pss_one (ps_set (i := 5) sc_Ldeed_of.nd rfl (Or.inl rfl) (pe_and (pe_chain op_le op_le pe_int (pe_callB (call_lenV (K := K) rfl) (by rfl) T.m_len (by decide +kernel) (pa_cons (pv 3) pa_nil)) pe_int) (pe_and (pe_cmpR op_ne (pe_slice sl_str (pv 3) po_none (po_some pe_int)) pe_str (nomark _)) (pe_one (pe_callB (cr_allV (K := K) rfl rfl) (by rfl) T.m_all (by decide +kernel) (pa_cons (pe_lc rfl sc_Ldeed_of.nd (g := gName 6) (pi_str (pv 3)) (blkOk_by (own := [("_law_sign", 6)]) (N := ["_law_line_here", "_law_forms", "_law_words", "_law_word", "_law_sort_here", "_law_good", "_law_sign"]) (sc := defScope s_Ldeed_of) (by decide +kernel)) (fun _ _ _ _ _ => (pg_name (i := 6) sc_Ldeed_of.nd rfl (Or.inl rfl))) (fun _ _ _ _ _ => pts_nil) (fun _ _ _ _ _ => (pe_cmpR op_in_sign (pv 6) pe_str (by rfl)))) pa_nil)))))))
      pss_nil)
      (pss_one (ps_if (pt_not (pt_val (pv 5)))
      (pss_one (ps_ret pe_non))
      pss_nil)))))
    (C8.pss_cut (ps_if (PW.pt (pw_and (pt_cmpR (op_in_seqV (K := K) rfl) (pe_ix (ix_listV (K := K) rfl) (pv 2) pe_int (fun _ _ => rfl)) (pe_lst (pa_cons pe_str (pa_cons pe_str (pa_cons pe_str pa_nil)))) (by rfl)) (pw_and1 (pt_cmpR op_eq (pe_ix (ix_listV (K := K) rfl) (pv 2) pe_int (fun _ _ => rfl)) (pe_ix (ix_listV (K := K) rfl) (pv 2) pe_int (fun _ _ => rfl)) (nomark _)))))
    (pss_one (ps_ret pe_non))
    pss_nil)
    (pss_one (ps_ret (pe_op (op_catTV (K := K) rfl) (pe_callTy (call_tuple_ofV (K := K) rfl) (by rfl) T.m_tuple (by decide +kernel) (pa_cons (pe_slice (sl_listV (K := K) rfl) (pv 2) po_none (po_some (pe_un un_neg pe_int))) pa_nil)) (pe_tup (pa_cons (pe_ifExp (pt_cmpR (op_notIn_seqV (K := K) rfl) (pe_ix (ix_listV (K := K) rfl) (pv 2) pe_int (fun _ _ => rfl)) (pe_lst (pa_cons pe_str (pa_cons pe_str pa_nil))) (by rfl)) (pe_callTy call_int_str (by rfl) T.m_int (by decide +kernel) (pa_cons (pe_ix (ix_listV (K := K) rfl) (pv 2) (pe_un un_neg pe_int) (fun _ _ => rfl)) pa_nil)) (pe_ix (ix_listV (K := K) rfl) (pv 2) (pe_un un_neg pe_int) (fun _ _ => rfl))) pa_nil)))))))))), ?_⟩
    walk_at "ww"
    intro D hD
    walk_at "ww"
    refine ⟨upd_same, forms, rfl, by decide, ?_⟩
    rw [forms_merge]
    have e1 : Ex H (upd (upd H D (.dK [])) D (.dK forms)) := (Ex.new hD).mut hD
    have f1 : (upd (upd H D (.dK [])) D (.dK forms)) D = some (.dK forms) := upd_same
    generalize upd (upd H D (.dK [])) D (.dK forms) = H1 at e1 f1 ⊢
    walk_at "ww"
    refine ⟨_, _, rfl, rfl, rfl, sz6 (by omega), fun l nl => ?_⟩
    have hw : ∀ x ∈ Txt.split ln " ", x.length ≤ 30000 := fun x hx => Nat.le_trans (sp_part hx) hln
    have sm := (sp_sum ln).2
    obtain ⟨z, r, ews⟩ := List.exists_cons_of_ne_nil (sp_sum ln).1
    have hgd : goodLn ln = deedL (rdV z :: r.map rdV) := by unfold goodLn rowOf; rw [ews]; rfl
    have hrow : rowOf ln = rdV z :: r.map rdV := by unfold rowOf; rw [ews]; rfl
    rw [hgd] at kN kT
    rw [hrow] at kT
    rw [ews] at sm hw
    rw [ews]
    clear hgd hrow ews
    have rlen : r.length ≤ 30001 := by rw [List.length_cons] at sm; omega
    have e2 : Ex H1 (upd H1 l (.lst ((z :: r).map V.str))) := Ex.new nl
    have fl : (upd H1 l (.lst ((z :: r).map V.str))) l = some (.lst (V.str z :: r.map V.str)) := upd_same
    generalize upd H1 l (.lst ((z :: r).map V.str)) = H2 at e2 fl ⊢
    have f12 := e2 _ _ f1
    have E2 := e1.trans e2
    walk_at "ww"
    refine wIxL (SqL.of fl) (at_of (j := 0) rfl rfl) ?_
    walk_at "ww"
    refine ⟨D, _, rfl, DGet.k (k := .inr z) f12, ?_⟩
    cases hf : valV forms (.inr z) with
    | none =>
      rw [show (!(none : Option V).isSome) = true from rfl]
      walk_at "ww"
      refine kN ?_ H2 E2
      unfold rdV
      split
      · exact deed_nostr rfl
      · exact form_none hf _
    | some v =>
      obtain ⟨S, rfl, F, So, nz⟩ := form_sorts hf
      rw [rd_name nz] at kN kT
      rw [show (!(some (V.str S) : Option V).isSome) = false from rfl]
      walk_at "ww"
      refine wLenL (SqL.of fl) ?_
      walk_at "ww"
      refine wIxL (SqL.of fl) (at_of (j := 0) rfl rfl) ?_
      walk_at "ww"
      refine ⟨D, .str S, rfl, by rw [← hf]; exact DGet.k (k := .inr z) f12, ?_⟩
      walk_at "ww"
      have hS : S.cps.size ≤ 4 := by
        have := F.len
        rw [Array.length_toList] at this
        exact this
      refine wLenS (sz6 (by show S.cps.size ≤ _; omega)) ?_
      walk_at "ww"
      by_cases hl : r.length = S.cps.toList.length
      · have hl' : r.length = S.cps.size := by rw [Array.length_toList (xs := S.cps)] at hl; exact hl
        have hlm : (r.map rdV).length = S.cps.toList.length := by rw [List.length_map]; exact hl
        rw [show decide (V.int (((V.str z :: r.map V.str).length : Nat) : Int) = V.int (1 + (S.length : Int))) = true from decide_eq_true (by
          congr 1
          have : S.length = S.cps.size := rfl
          rw [List.length_cons, List.length_map]
          omega)]
        walk_at "ww"
        refine wIZipL ?_
        walk_at "ww"
        refine wSlL (SqL.of fl) (alI fun t3 H3 n3 e3 f3 => ?_)
        rw [cut1] at f3
        have fl3 := e3 _ _ fl
        have f13 := e3 _ _ f12
        have E3 := E2.trans e3
        walk_at "ww"
        refine wIxL (SqL.of fl3) (at_of (j := 0) rfl rfl) ?_
        walk_at "ww"
        refine ⟨D, .str S, rfl, by rw [← hf]; exact DGet.k (k := .inr z) f13, ?_⟩
        walk_at "ww"
        refine ⟨t3, S, r.map V.str, rfl, SqL.of f3, ?_⟩
        refine ZipL.for_zipL (K := K) (xs := r.map V.str) S.cps.size (by rw [List.length_map]; omega) (fun i σ H' => ∃ v3 v4 v5, σ = [some (.str ln), some (.ref D), some (.ref l), v3, v4, v5, none] ∧ Ex H3 H' ∧ ∀ j, j < i → ∀ v c, r[j]? = some v → S.cps[j]? = some c → sortOk c (rdV v) = true)
          ⟨_, _, _, rfl, Ex.refl _, fun j hj => absurd hj (by omega)⟩ (fun i σ H' ⟨_, _, _, _, e, _⟩ => SqL.of (e _ _ f3)) ?_ ?_
        · rintro i y c T5 σ H4 hy hc ⟨v3, v4, v5, rfl, e4, hall⟩ n5
          rw [List.getElem?_map] at hy
          obtain ⟨wd, hyw, rfl⟩ := Option.map_eq_some_iff.mp hy
          clear hy
          refine wGTup (SqT.of upd_same) rfl ?_
          have e5 : Ex H4 (upd H4 T5 (.tup [.str wd, .str ⟨#[c]⟩])) := Ex.new n5
          generalize upd H4 T5 (.tup [.str wd, .str ⟨#[c]⟩]) = H5 at e5 ⊢
          have E5 : Ex H H5 := (E3.trans e4).trans e5
          have wl : wd.length ≤ 30000 := hw wd (List.mem_cons_of_mem _ (List.mem_of_getElem? hyw))
          have fail : sortS c wd = false → ∀ H', Ex H H' → Q .non H' := fun q H' e => by
            refine kN (F.bad _ hlm (good_bad (y := rdV wd) (by rw [List.getElem?_map, hyw]; rfl) hc ?_)) H' e
            cases h : sortOk c (rdV wd) with
            | false => rfl
            | true =>
              rw [sort_rd c wd h] at q
              cases q
          have next : sortS c wd = true → ∀ j, j < i + 1 → ∀ v c', r[j]? = some v → S.cps[j]? = some c' → sortOk c' (rdV v) = true := fun q j hj v c' hv' hc' => by
            by_cases hji : j < i
            · exact hall j hji v c' hv' hc'
            · obtain rfl : j = i := by omega
              rw [hyw] at hv'
              rw [hc] at hc'
              cases hv'
              cases hc'
              exact rd_sort c wd q
          have em : (("m" : Str)) = ⟨#[109]⟩ := by decide +kernel
          have ec : (("c" : Str)) = ⟨#[99]⟩ := by decide +kernel
          walk_at "ww"
          refine wCut (fun σ H' => σ = [some (.str ln), some (.ref D), some (.ref l), some (.str wd), some (.str ⟨#[c]⟩), some (.bl (nameS wd || (decide (c = 99) && decide (wd = "chest")))), none] ∧ Ex H5 H') ?_ ?_
          · walk_at "ww"
            refine ⟨wd, rfl, wl, fun H6 e6 => ?_⟩
            cases hn : nameS wd with
            | true =>
              walk_at "ww"
              exact ⟨rfl, e6⟩
            | false =>
              walk_at "ww"
              rw [ec, one_sign]
              cases h99 : decide (c = 99) with
              | true =>
                walk_at "ww"
                refine ⟨?_, e6⟩
                rw [show decide (V.str wd = V.str "chest") = decide (wd = "chest") from by rw [Bool.eq_iff_iff]; simp]
                rfl
              | false =>
                walk_at "ww"
                exact ⟨rfl, e6⟩
          · rintro σ H6 ⟨rfl, e6⟩
            refine wCut (fun σ H' => ∃ v6, σ = [some (.str ln), some (.ref D), some (.ref l), some (.str wd), some (.str ⟨#[c]⟩), some (.bl (sortS c wd)), v6] ∧ v6 = none ∧ Ex H5 H') ?_ ?_
            · walk_at "ww"
              rw [em, one_sign]
              refine ite2 (fun cm => ?_) (fun cm => ?_)
              · have cm : c = 109 := of_decide_eq_true cm
                have es : sortS c wd = measL wd.cps.toList := by unfold sortS; rw [if_pos cm]
                rw [es]
                clear es
                have sl := str_len wd
                have em2 : measL wd.cps.toList = (decide (1 ≤ wd.length) && decide (wd.length ≤ 4) && (!decide (wd.cps.toList.head? = some 48) && digL wd.cps.toList)) := by unfold measL; rw [sl]
                walk_at "ww"
                refine wLenS (sz6 (by omega)) ?_
                walk_at "ww"
                refine ite2 (fun c2 => ?_) (fun c2 => ?_)
                · have l1 : 1 ≤ wd.length := by simp at c2; omega
                  walk_at "ww"
                  refine ite2 (fun c3 => ?_) (fun c3 => ?_)
                  · have l4 : wd.length ≤ 4 := by simp at c3; omega
                    walk_at "ww"
                    obtain ⟨x, xs, ex⟩ := List.exists_cons_of_length_pos (show 0 < wd.cps.toList.length by omega)
                    have ecut : (cutS wd none (some (1 : Int))) = ⟨#[x]⟩ := TL.ext_tl (by
                      show (cutS wd none (some ((1 : Nat) : Int))).cps.toList = [x]
                      rw [cut_pre (by omega), ex]
                      rfl)
                    rw [ecut, show (Str.ofString "0") = ⟨#[48]⟩ from by decide +kernel, one_sign]
                    have eh : decide (wd.cps.toList.head? = some 48) = decide (x = 48) := by
                      rw [ex, List.head?_cons, Bool.eq_iff_iff]
                      simp
                    rw [eh, decide_eq_true l1, decide_eq_true l4] at em2
                    cases h48 : decide (x = 48) with
                    | true =>
                      walk_at "ww"
                      rw [h48] at em2
                      exact ⟨_, by rw [em2]; rfl, rfl, e6⟩
                    | false =>
                      walk_at "ww"
                      intro D7 hD7
                      refine lcStr (fun H' => Ex H6 H') (fun i y _ => ∃ c, wd.cps[i]? = some c ∧ y = .bl (decide (48 ≤ c ∧ c ≤ 57))) (by show wd.length ≤ _; omega) (fun _ => rfl) (Ex.new hD7) (fun i c hc H' acc e hD' hl' hR => ?_) (fun H' ys e hD' hl' hR => ?_)
                      · have hi : i ≤ 100000 := by
                          have h1 := (Array.getElem?_eq_some_iff.mp hc).1
                          have h2 : wd.cps.size ≤ 30000 := wl
                          omega
                        walk_at "ww"
                        rw [digits_in]
                        exact lcAdd hD' hl' hi (e.mut hD7) hR ⟨c, hc, rfl⟩
                      · have emb := map_bl hl' hR
                        subst emb
                        walk_at "ww"
                        refine wAll (SqL.of hD') ?_
                        rw [List.all_map]
                        walk_at "ww"
                        rw [h48] at em2
                        exact ⟨_, by rw [em2]; rfl, rfl, e6.trans e⟩
                  · walk_at "ww"
                    have l4 : ¬ wd.length ≤ 4 := by simp at c3; omega
                    rw [decide_eq_false l4, Bool.and_false] at em2
                    exact ⟨_, by rw [em2]; rfl, rfl, e6⟩
                · walk_at "ww"
                  have l1 : ¬ 1 ≤ wd.length := by simp at c2; omega
                  rw [decide_eq_false l1] at em2
                  exact ⟨_, by rw [em2]; rfl, rfl, e6⟩
              · have cm : c ≠ 109 := fun q => cm (decide_eq_true q)
                have es : sortS c wd = (nameS wd || (decide (c = 99) && decide (wd = "chest"))) := by unfold sortS; rw [if_neg cm]
                rw [es]
                walk_at "ww"
                exact ⟨_, rfl, rfl, e6⟩
            · rintro σ H7 ⟨v6, rfl, rfl, e7⟩
              walk_at "ww"
              cases hs : sortS c wd with
              | false =>
                walk_at "ww"
                exact fail hs _ (E5.trans e7)
              | true =>
                walk_at "ww"
                exact ⟨_, _, _, rfl, (e4.trans e5).trans e7, next hs⟩
        · rintro σ H4 ⟨v3, v4, v5, rfl, e4, hall⟩
          have hg : good S.cps.toList (r.map rdV) = true := good_all fun j v c hv hc => by
            rw [List.getElem?_map] at hv
            obtain ⟨x, hx, rfl⟩ := Option.map_eq_some_iff.mp hv
            exact hall j (Array.getElem?_eq_some_iff.mp hc).1 x c hx hc
          have fl4 := e4 _ _ fl3
          have E4 := E3.trans e4
          clear hall e4 e3 f3 f13 f12 f1
          refine wCut (fun σ H' => ∃ v3 v4 v5, σ = [some (.str ln), some (.ref D), some (.ref l), v3, v4, v5, none] ∧ deedL (.str z :: r.map rdV) = true ∧ Ex H4 H') ?_ ?_
          · walk_at "ww"
            refine wIxL (SqL.of fl4) (at_of (j := 0) rfl rfl) ?_
            walk_at "ww"
            refine alI fun t5 H5 n5 e5 f5 => ?_
            refine ⟨t5, _, rfl, .inl (SqL.of f5), rfl, rfl, ?_⟩
            rw [if_neg (by decide), in3]
            walk_at "ww"
            cases h3z : three z with
            | false =>
              walk_at "ww"
              exact ⟨_, _, _, rfl, F.ok _ hlm hg h3z, e5⟩
            | true =>
              obtain ⟨x, y, r', er, hd⟩ := F.two _ hlm hg h3z
              obtain ⟨x1, r1, rfl, ex, er1⟩ := List.map_eq_cons_iff.mp er
              obtain ⟨y1, r2, rfl, ey, er2⟩ := List.map_eq_cons_iff.mp er1
              have ex := rd_str ex
              have ey := rd_str ey
              subst ex ey
              walk_at "ww"
              refine wIxL (SqL.of (e5 _ _ fl4)) (at_of (j := 1) rfl rfl) ?_
              walk_at "ww"
              refine wIxL (SqL.of (e5 _ _ fl4)) (at_of (j := 2) rfl rfl) ?_
              walk_at "ww"
              cases hxy : decide (V.str x1 = V.str y1) with
              | true =>
                walk_at "ww"
                refine kN ?_ _ (E4.trans e5)
                rw [hd, hxy]
                rfl
              | false =>
                walk_at "ww"
                refine ⟨_, _, _, rfl, ?_, e5⟩
                rw [hd, hxy]
                rfl
          · rintro σ H5 ⟨v3, v4, v5, rfl, hd, e5⟩
            have kT := kT hd
            obtain ⟨q, w, er, hq, hcase⟩ := row_shape So hl hg
            have fl5 : H5 l = some (.lst ((V.str z :: q.map V.str) ++ [V.str w])) := by
              have := e5 _ _ fl4
              rw [er, List.map_append] at this
              exact this
            have E5 := E4.trans e5
            rw [er, List.map_append, hq, List.map_cons, List.map_nil] at kT
            have wl : w.length ≤ 30000 := hw w (by rw [er]; simp)
            clear hg hd fl4 hl hlm hl' kN F So
            walk_at "ww"
            refine wSlL (SqL.of fl5) (alI fun t6 H6 n6 e6 f6 => ?_)
            rw [cutV_last] at f6
            walk_at "ww"
            refine ⟨t6, _, rfl, .inl ⟨SqL.of f6, fun t7 n7 => ?_⟩⟩
            have e7 : Ex H6 (upd H6 t7 (.tup (V.str z :: q.map V.str))) := Ex.new n7
            have f7 : (upd H6 t7 (.tup (V.str z :: q.map V.str))) t7 = some (.tup (V.str z :: q.map V.str)) := upd_same
            generalize upd H6 t7 (.tup (V.str z :: q.map V.str)) = H7 at e7 f7 ⊢
            have fl7 := (e6.trans e7) _ _ fl5
            have E7 := E5.trans (e6.trans e7)
            walk_at "ww"
            refine wIxL (SqL.of fl7) (at_of (j := 0) rfl rfl) ?_
            walk_at "ww"
            refine alI fun t8 H8 n8 e8 f8 => ?_
            refine ⟨t8, _, rfl, .inl (SqL.of f8), rfl, rfl, ?_⟩
            rw [if_pos rfl, in2]
            have fl8 := e8 _ _ fl7
            rcases hcase with ⟨hz, hv⟩ | ⟨hz, hv⟩
            · have hb : (isW (.str z) "come" || isW (.str z) "go") = true := by
                rcases hz with rfl | rfl <;> decide +kernel
              rw [hb]
              walk_at "ww"
              refine wIxL (SqL.of fl8) (atI_last _ _) ?_
              walk_at "ww"
              refine alI fun t9 H9 n9 e9 f9 => ?_
              rw [hv] at kT
              refine wCatAny ((e8.trans e9) _ _ f7) f9 (by simp only [List.length_cons, List.length_map, List.length_nil]; rw [er, List.length_append] at rlen; omega) fun t10 H10 e10 f10 => ?_
              exact kT t10 H10 (((E7.trans e8).trans e9).trans e10) f10
            · have hb : (isW (.str z) "come" || isW (.str z) "go") = false := by
                have no : ∀ s : Str, z ≠ s → isW (.str z) s = false := fun s h => decide_eq_false fun e => h (V.str.inj e)
                rw [no _ hz.1, no _ hz.2]
                rfl
              rw [hb]
              walk_at "ww"
              refine wIxL (SqL.of fl8) (atI_last _ _) ?_
              walk_at "ww"
              rw [rd_meas hv] at kT
              rw [meas_rd] at hv
              have hm : 1 ≤ w.cps.toList.length ∧ w.cps.toList.length ≤ 4 ∧ PySem.NumText.AllDigits w.cps.toList := by
                unfold measL at hv
                rw [Bool.and_eq_true, Bool.and_eq_true, Bool.and_eq_true] at hv
                exact ⟨of_decide_eq_true hv.1.1, of_decide_eq_true hv.1.2, dig_of hv.2.2⟩
              refine ⟨_, _, rfl, reads_of rfl hm.2.2 (fun e => by rw [e] at hm; exact absurd hm.1 (by decide)) (by omega), by rw [← str_len]; omega, ?_⟩
              walk_at "ww"
              refine alI fun t9 H9 n9 e9 f9 => ?_
              refine wCatAny ((e8.trans e9) _ _ f7) f9 (by simp only [List.length_cons, List.length_map, List.length_nil]; rw [er, List.length_append] at rlen; omega) fun t10 H10 e10 f10 => ?_
              exact kT t10 H10 (((E7.trans e8).trans e9).trans e10) f10
      · rw [show decide (V.int (((V.str z :: r.map V.str).length : Nat) : Int) = V.int (1 + (S.length : Int))) = false from decide_eq_false (fun q => by
          have q := V.int.inj q
          have : S.length = S.cps.size := rfl
          rw [Array.length_toList (xs := S.cps)] at hl
          rw [List.length_cons, List.length_map] at q
          omega)]
        walk_at "ww"
        refine kN (F.no _ ?_) H2 E2
        rw [List.length_map]
        exact hl
/-- at l: what is told of the text z -/
def ToldT (H : Hp) (l : Addr) (z : Str) : Prop :=
  (fb 0 (linesOf z) = none ∧ ∃ t, H l = some (.lst [.str "told", .ref t]) ∧ Bk H t (ppOf z)) ∨ ∃ i : Nat, fb 0 (linesOf z) = some i ∧ H l = some (.lst [.str "text", .int (i : Int)])
theorem ToldT.ex {H G : Hp} {l : Addr} {z : Str} (e : Ex H G) (h : ToldT H l z) : ToldT G l z := by
  rcases h with ⟨f, t, h1, h2⟩ | ⟨i, f, h⟩
  · exact .inl ⟨f, t, e _ _ h1, h2.ex e⟩
  · exact .inr ⟨i, f, e _ _ h⟩
def spTold (K : PySem.W.Frag) : Sp := fun vs H Q _ => ∃ v, vs = [v] ∧ ((∃ z, v = .str z ∧ z.length ≤ 30000 ∧ ∀ l H', Ex H H' → ToldT H' l z → Q (.ref l) H') ∨ ∃ n, Ty K H v n ∧ isStr v = false ∧ ∀ l H', Ex H H' → H' l = some (.lst [.str "text", .non]) → Q (.ref l) H')
theorem ok_Ltold (T : Tx P K mg A) : FnOk P w K mg base CX0 7 A.f_Ltold A.d_Ltold ["_law_matter"] (spTold K) := by
  refine T.F_Ltold.ok sc_Ltold (fun vs H Q E h => ?_) (fun cdv A' outer s H vs Q E hr h => ?_)
  · obtain ⟨v, rfl, _⟩ := h
    rfl
  · obtain ⟨v, rfl, h⟩ := h
    refine ⟨_, (pss_one (ps_try_as (i := 1) (Wout := fun _ _ _ _ => False) rfl rfl sc_Ltold.nd rfl rfl ⟨rfl, by decide, Or.inl T.g_ThankError⟩ takes0
    (fun W pn xe tk _ => (pss_one (ps_ret (pe_lst (pa_cons pe_str (pa_cons (pe_callS (ok_read_book T) (hr.mono (by decide)) (by rfl) T.g_read_book T.F_read_book.kp T.b_read_book (fun σ => passAt tk σ) (pa_cons (pv 0) pa_nil)) pa_nil))))))
    (fun a oe cls d pn hz hf => (pss_cons (ps_set (i := 2) sc_Ltold.nd rfl (Or.inl rfl) (pe_callP hz hf (ok_Lsort T) (roomS hr (by decide)) List.mem_cons_self (by rfl) T.g_Lsort T.F_Lsort.kp T.b_Lsort (pa_cons (pv 1) pa_nil)))
      (pss_one (ps_ret (pe_lst (pa_cons (pv 2) (pa_cons (pe_ifExp (pt_cmpR op_eq (pv 2) pe_str (nomark _)) (pe_xf (sup_xf T.sup_NoText) T.sup_NoText.noN hz hf (pv 1)) pe_non) pa_nil))))))))), ?_⟩
    walk_at "ww"
    rcases h with ⟨z, rfl, hl, k⟩ | ⟨n, ty, ns, k⟩
    · cases hf : fb 0 (linesOf z) with
      | none =>
        refine ⟨_, rfl, .inl ⟨z, rfl, hl, hf, fun t H1 e1 b1 => ?_⟩⟩
        walk_at "ww"
        exact alI fun l H2 n2 e2 f2 => k l H2 (e1.trans e2) (.inl ⟨hf, t, f2, b1.ex e2⟩)
      | some i =>
        refine ⟨_, rfl, .inr ⟨some i, .bad hl hf, fun H' d e hd => ⟨true, T.ex_NoText_ThankError, fun _ a ha => ?_, fun z => nomatch z⟩⟩⟩
        have e1 : Ex H' (upd H' d (.xd [("row", numB (some i))])) := Ex.new hd
        have f1 : upd H' d (.xd [("row", numB (some i))]) d = some (.xd [("row", numB (some i))]) := upd_same
        generalize upd H' d (.xd [("row", numB (some i))]) = H1 at e1 f1 ha ⊢
        show tSeq _ _ _ _ H1
        walk_at "ww"
        intro oe hz hf2
        refine ⟨d, _, rfl, hz, hf2, f1, fun H2 e2 => ?_⟩
        walk_at "ww"
        rw [decide_eq_true (rfl : V.str (Str.ofString "text") = V.str (Str.ofString "text"))]
        walk_at "ww"
        refine wXfV rfl (e2 _ _ f1) rfl (wNil ⟨(by show 2 ≤ sizeLine; decide), alI fun l H3 n3 e3 f3 => ?_⟩)
        exact k l H3 (((e.trans e1).trans e2).trans e3) (.inr ⟨i, hf, f3⟩)
    · refine ⟨_, rfl, .inr ⟨none, .kind ty ns, fun H' d e hd => ⟨true, T.ex_NoText_ThankError, fun _ a ha => ?_, fun z => nomatch z⟩⟩⟩
      have e1 : Ex H' (upd H' d (.xd [("row", numB none)])) := Ex.new hd
      have f1 : upd H' d (.xd [("row", numB none)]) d = some (.xd [("row", numB none)]) := upd_same
      generalize upd H' d (.xd [("row", numB none)]) = H1 at e1 f1 ha ⊢
      show tSeq _ _ _ _ H1
      walk_at "ww"
      intro oe hz hf2
      refine ⟨d, _, rfl, hz, hf2, f1, fun H2 e2 => ?_⟩
      walk_at "ww"
      rw [decide_eq_true (rfl : V.str (Str.ofString "text") = V.str (Str.ofString "text"))]
      walk_at "ww"
      refine wXfV rfl (e2 _ _ f1) rfl (wNil ⟨(by show 2 ≤ sizeLine; decide), alI fun l H3 n3 e3 f3 => ?_⟩)
      exact k l H3 (((e.trans e1).trans e2).trans e3) f3
def spDue : Sp := fun vs H Q _ => ∃ z : Str, vs = [.str z] ∧ z.length ≤ 30000 ∧ ∀ l H', Ex H H' → ToldT H' l z → Q (.ref l) H'
theorem ok_Ldue (T : Tx P K mg A) : FnOk P w K mg base CX0 3 A.f_Ldue A.d_Ldue ["_law_text"] spDue := by
  refine T.F_Ldue.ok sc_Ldue (fun vs H Q E h => ?_) (fun cdv A' outer s H vs Q E hr h => ?_)
  · obtain ⟨z, rfl, _⟩ := h
    rfl
  · obtain ⟨z, rfl, hl, k⟩ := h
    refine ⟨_, (pss_cons (ps_set (i := 1) sc_Ldue.nd rfl (Or.inl rfl) (pe_lst pa_nil))
    (pss_cons (ps_for PassesOwn.never rfl (pi_enum (by rfl) T.m_enumerate (pa_cons (pe_ifExp (pt_cmpR op_ne (pv 0) pe_str (nomark _)) (pe_split (pv 0) pe_str) (pe_lst pa_nil)) pa_nil)) (pg_tupV (K := K) (n := 2) rfl rfl (pgs_cons (pg_name (i := 2) sc_Ldue.nd rfl (Or.inl rfl)) (pgs_cons (pg_name (i := 3) sc_Ldue.nd rfl (Or.inl rfl)) pgs_nil)) rfl)
    (pss_cons (ps_expr (pe_bm PySem.F.plainAttrs_list PySem.F.slot_list_append PySem.F.type_list_append mt_append (pv 1) (pa_cons (pe_call (ok_Ldeed_of T) (hr.mono (by decide)) (by rfl) T.g_Ldeed_of T.F_Ldeed_of.kp T.b_Ldeed_of .nil pass0 (pa_cons (pv 3) pa_nil)) pa_nil)))
      (pss_one (ps_if (PW.pt (pw_or (pt_cmpR op_isN (pe_ix (ix_listV (K := K) rfl) (pv 1) (pe_un un_neg pe_int) (fun _ _ => rfl)) pe_non (nomark _)) (pw_or1 (pt_cmpR op_gt (pv 2) pe_int (nomark _)))))
      (pss_one (ps_ret (pe_lst (pa_cons pe_str (pa_cons (pv 2) pa_nil)))))
      pss_nil))))
    (pss_one (ps_ret (pe_lst (pa_cons pe_str (pa_cons (pe_callTy (call_tuple_ofV (K := K) rfl) (by rfl) T.m_tuple (by decide +kernel) (pa_cons (pv 1) pa_nil)) pa_nil))))))), ?_⟩
    walk_at "ww"
    refine alI fun b H1 nb e1 fb1 => ?_
    walk_at "ww"
    have lm := lines_many z
    cases hc : decide (V.str z = V.str "") with
    | true =>
      have el : linesOf z = [] := by
        unfold linesOf
        rw [if_pos (V.str.inj (of_decide_eq_true hc))]
      walk_at "ww"
      refine alI fun l H2 nl e2 fl => ?_
      have fl : H2 l = some (.lst ((linesOf z).map V.str)) := by rw [el]; exact fl
      walk_at "ww"
      refine ⟨_, _, rfl, SqL.of fl, ?_⟩
      have nlb : l ≠ b := fun z => by rw [z, fb1] at nl; cases nl
      refine for_enL (K := K) (a := l) (xs := (linesOf z).map V.str) (fun i σ H' => ∃ v2 v3 rs, σ = [some (.str z), some (.ref b), v2, v3] ∧ Ex H H' ∧ H' l = some (.lst ((linesOf z).map V.str)) ∧ H' b = some (.lst (rs.map V.ref)) ∧ Dl H' rs ((ppOf z).take i) ∧ ∀ j m, j < i → (linesOf z)[j]? = some m → goodLn m = true ∧ 0 + j < 60) ⟨none, none, [], rfl, e1.trans e2, fl, e2 _ _ fb1, .nil, fun j m hj _ => absurd hj (Nat.not_lt_zero _)⟩ (fun i σ H' ⟨_, _, _, _, _, q, _⟩ => SqL.of q) ?_ ?_
      · rintro i x T0 σ H3 hx ⟨v2, v3, rs, rfl, e3, fl3, fb3, dl, gd⟩ nT
        rw [List.getElem?_map] at hx
        obtain ⟨ln, hxs, rfl⟩ := Option.map_eq_some_iff.mp hx
        have hi : i < (linesOf z).length := (List.getElem?_eq_some_iff.mp hxs).1
        have hll := Nat.le_trans (lines_len (List.mem_of_getElem? hxs)) hl
        have eT : Ex H3 (upd H3 T0 (.tup [.int (i : Nat), .str ln])) := Ex.new nT
        have fT : (upd H3 T0 (.tup [.int (i : Nat), .str ln])) T0 = some (.tup [.int (i : Nat), .str ln]) := upd_same
        show gTup K 2 _ _ _ (upd H3 T0 (.tup [.int (i : Nat), .str ln])) _
        generalize upd H3 T0 (.tup [.int (i : Nat), .str ln]) = H4 at eT fT ⊢
        refine wGTup (SqT.of fT) rfl ?_
        have len := dl.length
        rw [List.length_take] at len
        walk_at "ww"
        refine anTyL (eT _ _ fb3) ?_
        walk_at "ww"
        refine ⟨ln, rfl, hll, fun hg H5 e5 => ?_, fun hg t H5 e5 ft => ?_⟩
        · have fb5 := (eT.trans e5) _ _ fb3
          walk_at "ww"
          refine wAppend fb5 (by rw [List.length_map]; omega) ?_
          walk_at "ww"
          refine wIxL (SqL.of upd_same) (atI_last _ _) ?_
          walk_at "ww"
          refine ⟨rfl, ?_⟩
          walk_at "ww"
          rw [decide_eq_true (rfl : V.non = V.non)]
          walk_at "ww"
          have hf := fb_at gd hxs (by rw [hg]; rfl)
          rw [Nat.zero_add] at hf
          exact alI fun l6 H6 n6 e6 f6 => k l6 H6 (((e3.trans (eT.trans e5)).mut nb).trans e6) (.inr ⟨i, hf, f6⟩)
        · have fb5 := (eT.trans e5) _ _ fb3
          have fl5 := (eT.trans e5) _ _ fl3
          walk_at "ww"
          refine wAppend fb5 (by rw [List.length_map]; omega) ?_
          walk_at "ww"
          refine wIxL (SqL.of upd_same) (atI_last _ _) ?_
          walk_at "ww"
          refine ⟨rfl, ?_⟩
          walk_at "ww"
          rw [show decide (V.ref t = V.non) = false from decide_eq_false (fun z => nomatch z)]
          walk_at "ww"
          by_cases i60 : i < 60
          · rw [decide_eq_false (show ¬ (59 : Int) < ((i : Nat) : Int) by omega)]
            walk_at "ww"
            have hp : (ppOf z)[i]? = some (rowOf ln) := by unfold ppOf; rw [List.getElem?_map, hxs]; rfl
            have D5 := (dl.ex (eT.trans e5)).snoc ft
            refine ⟨_, _, rs ++ [t], rfl, (e3.trans (eT.trans e5)).mut nb, (upd_ne nlb).trans fl5, by rw [List.map_append]; exact upd_same, ?_, ?_⟩
            · rw [take_snoc hp]
              exact D5.kp fb5 Kp.set
            · intro j m hj q
              by_cases c : j = i
              · subst c
                rw [hxs] at q
                cases q
                exact ⟨hg, by omega⟩
              · exact gd j m (by omega) q
          · rw [decide_eq_true (show (59 : Int) < ((i : Nat) : Int) by omega)]
            walk_at "ww"
            have hf := fb_at gd hxs (by rw [decide_eq_false (by omega)]; exact Bool.and_false _)
            rw [Nat.zero_add] at hf
            exact alI fun l6 H6 n6 e6 f6 => k l6 H6 (((e3.trans (eT.trans e5)).mut nb).trans e6) (.inr ⟨i, hf, f6⟩)
      · rintro σ H3 ⟨v2, v3, rs, rfl, e3, fl3, fb3, dl, gd⟩
        have hp : (ppOf z).length = (linesOf z).length := List.length_map ..
        rw [List.length_map, ← hp, List.take_length] at dl
        rw [List.length_map] at gd
        walk_at "ww"
        refine ⟨b, _, rfl, .inl ⟨SqL.of fb3, fun t nt => ?_⟩⟩
        have e4 : Ex H3 (upd H3 t (.tup (rs.map V.ref))) := Ex.new nt
        have f4 : (upd H3 t (.tup (rs.map V.ref))) t = some (.tup (rs.map V.ref)) := upd_same
        generalize upd H3 t (.tup (rs.map V.ref)) = H4 at e4 f4 ⊢
        walk_at "ww"
        refine alI fun l6 H6 n6 e6 f6 => k l6 H6 ((e3.trans e4).trans e6) (.inl ⟨fb_all fun j m q => gd j m ((List.getElem?_eq_some_iff.mp q).1) q, t, f6, rs, e6 _ _ f4, (dl.ex e4).ex e6⟩)
    | false =>
      have el : linesOf z = Txt.split z "\n" := by
        unfold linesOf
        rw [if_neg fun q => by rw [q, decide_eq_true rfl] at hc; cases hc]
      walk_at "ww"
      refine ⟨_, _, rfl, rfl, rfl, sz6 (by omega), fun l nl => ?_⟩
      have e2 : Ex H1 (upd H1 l (.lst ((Txt.split z "\n").map V.str))) := Ex.new nl
      have fl : (upd H1 l (.lst ((Txt.split z "\n").map V.str))) l = some (.lst ((linesOf z).map V.str)) := by rw [el]; exact upd_same
      generalize upd H1 l (.lst ((Txt.split z "\n").map V.str)) = H2 at e2 fl ⊢
      walk_at "ww"
      refine ⟨_, _, rfl, SqL.of fl, ?_⟩
      have nlb : l ≠ b := fun z => by rw [z, fb1] at nl; cases nl
      refine for_enL (K := K) (a := l) (xs := (linesOf z).map V.str) (fun i σ H' => ∃ v2 v3 rs, σ = [some (.str z), some (.ref b), v2, v3] ∧ Ex H H' ∧ H' l = some (.lst ((linesOf z).map V.str)) ∧ H' b = some (.lst (rs.map V.ref)) ∧ Dl H' rs ((ppOf z).take i) ∧ ∀ j m, j < i → (linesOf z)[j]? = some m → goodLn m = true ∧ 0 + j < 60) ⟨none, none, [], rfl, e1.trans e2, fl, e2 _ _ fb1, .nil, fun j m hj _ => absurd hj (Nat.not_lt_zero _)⟩ (fun i σ H' ⟨_, _, _, _, _, q, _⟩ => SqL.of q) ?_ ?_
      · rintro i x T0 σ H3 hx ⟨v2, v3, rs, rfl, e3, fl3, fb3, dl, gd⟩ nT
        rw [List.getElem?_map] at hx
        obtain ⟨ln, hxs, rfl⟩ := Option.map_eq_some_iff.mp hx
        have hi : i < (linesOf z).length := (List.getElem?_eq_some_iff.mp hxs).1
        have hll := Nat.le_trans (lines_len (List.mem_of_getElem? hxs)) hl
        have eT : Ex H3 (upd H3 T0 (.tup [.int (i : Nat), .str ln])) := Ex.new nT
        have fT : (upd H3 T0 (.tup [.int (i : Nat), .str ln])) T0 = some (.tup [.int (i : Nat), .str ln]) := upd_same
        show gTup K 2 _ _ _ (upd H3 T0 (.tup [.int (i : Nat), .str ln])) _
        generalize upd H3 T0 (.tup [.int (i : Nat), .str ln]) = H4 at eT fT ⊢
        refine wGTup (SqT.of fT) rfl ?_
        have len := dl.length
        rw [List.length_take] at len
        walk_at "ww"
        refine anTyL (eT _ _ fb3) ?_
        walk_at "ww"
        refine ⟨ln, rfl, hll, fun hg H5 e5 => ?_, fun hg t H5 e5 ft => ?_⟩
        · have fb5 := (eT.trans e5) _ _ fb3
          walk_at "ww"
          refine wAppend fb5 (by rw [List.length_map]; omega) ?_
          walk_at "ww"
          refine wIxL (SqL.of upd_same) (atI_last _ _) ?_
          walk_at "ww"
          refine ⟨rfl, ?_⟩
          walk_at "ww"
          rw [decide_eq_true (rfl : V.non = V.non)]
          walk_at "ww"
          have hf := fb_at gd hxs (by rw [hg]; rfl)
          rw [Nat.zero_add] at hf
          exact alI fun l6 H6 n6 e6 f6 => k l6 H6 (((e3.trans (eT.trans e5)).mut nb).trans e6) (.inr ⟨i, hf, f6⟩)
        · have fb5 := (eT.trans e5) _ _ fb3
          have fl5 := (eT.trans e5) _ _ fl3
          walk_at "ww"
          refine wAppend fb5 (by rw [List.length_map]; omega) ?_
          walk_at "ww"
          refine wIxL (SqL.of upd_same) (atI_last _ _) ?_
          walk_at "ww"
          refine ⟨rfl, ?_⟩
          walk_at "ww"
          rw [show decide (V.ref t = V.non) = false from decide_eq_false (fun z => nomatch z)]
          walk_at "ww"
          by_cases i60 : i < 60
          · rw [decide_eq_false (show ¬ (59 : Int) < ((i : Nat) : Int) by omega)]
            walk_at "ww"
            have hp : (ppOf z)[i]? = some (rowOf ln) := by unfold ppOf; rw [List.getElem?_map, hxs]; rfl
            have D5 := (dl.ex (eT.trans e5)).snoc ft
            refine ⟨_, _, rs ++ [t], rfl, (e3.trans (eT.trans e5)).mut nb, (upd_ne nlb).trans fl5, by rw [List.map_append]; exact upd_same, ?_, ?_⟩
            · rw [take_snoc hp]
              exact D5.kp fb5 Kp.set
            · intro j m hj q
              by_cases c : j = i
              · subst c
                rw [hxs] at q
                cases q
                exact ⟨hg, by omega⟩
              · exact gd j m (by omega) q
          · rw [decide_eq_true (show (59 : Int) < ((i : Nat) : Int) by omega)]
            walk_at "ww"
            have hf := fb_at gd hxs (by rw [decide_eq_false (by omega)]; exact Bool.and_false _)
            rw [Nat.zero_add] at hf
            exact alI fun l6 H6 n6 e6 f6 => k l6 H6 (((e3.trans (eT.trans e5)).mut nb).trans e6) (.inr ⟨i, hf, f6⟩)
      · rintro σ H3 ⟨v2, v3, rs, rfl, e3, fl3, fb3, dl, gd⟩
        have hp : (ppOf z).length = (linesOf z).length := List.length_map ..
        rw [List.length_map, ← hp, List.take_length] at dl
        rw [List.length_map] at gd
        walk_at "ww"
        refine ⟨b, _, rfl, .inl ⟨SqL.of fb3, fun t nt => ?_⟩⟩
        have e4 : Ex H3 (upd H3 t (.tup (rs.map V.ref))) := Ex.new nt
        have f4 : (upd H3 t (.tup (rs.map V.ref))) t = some (.tup (rs.map V.ref)) := upd_same
        generalize upd H3 t (.tup (rs.map V.ref)) = H4 at e4 f4 ⊢
        walk_at "ww"
        refine alI fun l6 H6 n6 e6 f6 => k l6 H6 ((e3.trans e4).trans e6) (.inl ⟨fb_all fun j m q => gd j m ((List.getElem?_eq_some_iff.mp q).1) q, t, f6, rs, e6 _ _ f4, (dl.ex e4).ex e6⟩)
/-- small letters, one to eight -/
structure Lw (z : Str) : Prop where
  sm : ∀ c ∈ z.cps.toList, 97 ≤ c ∧ c ≤ 122
  l : 1 ≤ z.length ∧ z.length ≤ 8
theorem lw_of {z : Str} (h : (decide (1 ≤ z.length) && decide (z.length ≤ 8) && z.cps.toList.all fun c => decide (97 ≤ c ∧ c ≤ 122)) = true) : Lw z := by
  rw [Bool.and_eq_true, Bool.and_eq_true] at h
  exact ⟨fun c hc => of_decide_eq_true (List.all_eq_true.mp h.2 c hc), of_decide_eq_true h.1.1, of_decide_eq_true h.1.2⟩
theorem lw_name {z : Str} (h : nameV (.str z) = true) : Lw z := by
  have h : nameS z = true := h
  unfold nameS at h
  rw [Bool.and_eq_true, Bool.and_eq_true] at h
  exact lw_of (by rw [Bool.and_eq_true]; exact ⟨h.1.1, h.2⟩)
/-! ### names drawn -/
/-- sorted of texts -/
theorem wSortS {K : PySem.W.Frag} {H : Hp} {Q : VK} {a : Addr} {zs : List Str} (h : SqL K H a (zs.map V.str)) (k : ∀ ys : List V, ys.Perm (zs.map V.str) → Al Q (.lst ys) H) : rSortedD K [.ref a] H Q := by
  have e1 : ((zs.map fun z => (V.str z, PyData.str z)).map (·.1)) = zs.map V.str := by rw [List.map_map]; rfl
  refine ⟨a, zs.map fun z => (V.str z, PyData.str z), rfl, by rw [e1]; exact h, ?_, ?_, ?_, ?_⟩
  · intro b hb
    obtain ⟨z, _, rfl⟩ := List.mem_map.mp hb
    exact ⟨.str z, by simp [PyData.depth]⟩
  · rw [List.map_map]
    exact PySem.W.AllAlike.of fun _ _ => by simp [PySem.W.alike]
  · rw [List.map_map]
    exact PySem.W.Sortable.others fun _ => ⟨fun q => (by cases q), fun _ q => (by cases q)⟩
  · exact k _ (e1 ▸ (List.mergeSort_perm _ _).map _)
theorem nodup_map_range {f : Nat → V} {m : Nat} (h : ∀ i j, i < j → j < m → f i ≠ f j) : ((List.range m).map f).Nodup := by
  rw [List.Nodup, List.pairwise_map]
  exact List.Pairwise.imp_of_mem (fun {a b} _ hb lt => h a b lt (List.mem_range.mp hb)) List.pairwise_lt_range
theorem cut_suf {z : Str} {n : Nat} (h : n ≤ z.length) : (cutS z (some (n : Int)) none).cps.toList = z.cps.toList.drop n := by
  unfold cutS
  rw [HT.sIx_none, HT.sIx_nat, Nat.min_eq_left h]
  show ((z.cps.toList.drop n).take (z.length - n)) = _
  refine List.take_of_length_le ?_
  rw [List.length_drop, Array.length_toList]
  exact Nat.le_refl _
def mkN (st : Str) (put : Int) (c : Nat) : Str := cutS st none (some put) ++ ⟨#[c]⟩ ++ cutS st (some put) none
theorem mkN_cps {st : Str} {put : Int} {c : Nat} (h0 : 0 ≤ put) (h1 : put ≤ st.length) : (mkN st put c).cps.toList = st.cps.toList.take put.toNat ++ [c] ++ st.cps.toList.drop put.toNat := by
  obtain ⟨n, rfl⟩ : ∃ n : Nat, put = (n : Int) := ⟨put.toNat, by omega⟩
  have hn : n ≤ st.length := by omega
  show (((cutS st none (some (n : Int))).cps ++ #[c]) ++ (cutS st (some (n : Int)) none).cps).toList = _
  rw [Array.toList_append, Array.toList_append, cut_pre hn, cut_suf hn]
  rfl
theorem mkN_len {st : Str} {put : Int} {c : Nat} (h0 : 0 ≤ put) (h1 : put ≤ st.length) : (mkN st put c).length = st.length + 1 := by
  show (mkN st put c).cps.size = _
  rw [← Array.length_toList, mkN_cps h0 h1, List.length_append, List.length_append, List.length_take, List.length_drop, Array.length_toList]
  show min put.toNat st.length + 1 + (st.length - put.toNat) = _
  omega
theorem mkN_inj {st : Str} {put : Int} {c d : Nat} (h0 : 0 ≤ put) (h1 : put ≤ st.length) (h : mkN st put c = mkN st put d) : c = d := by
  have e : (mkN st put c).cps.toList = (mkN st put d).cps.toList := congrArg (fun z : Str => z.cps.toList) h
  rw [mkN_cps h0 h1, mkN_cps h0 h1, List.append_assoc, List.append_assoc] at e
  exact (List.cons.inj (List.append_cancel_left e)).1
theorem mkN_lw {st : Str} {put : Int} {c : Nat} (h0 : 0 ≤ put) (h1 : put ≤ st.length) (hs : ∀ c ∈ st.cps.toList, 97 ≤ c ∧ c ≤ 122) (l7 : st.length ≤ 7) (hc : 97 ≤ c ∧ c ≤ 122) : Lw (mkN st put c) := by
  refine ⟨fun x hx => ?_, by rw [mkN_len h0 h1]; omega⟩
  rw [mkN_cps h0 h1] at hx
  rcases List.mem_append.mp hx with hx | hx
  · rcases List.mem_append.mp hx with hx | hx
    · exact hs x (List.mem_of_mem_take hx)
    · rw [List.mem_singleton.mp hx]
      exact hc
  · exact hs x (List.mem_of_mem_drop hx)
def fixN (z : Str) : Str := z ++ (if decide (V.str z = V.str "chest") = true then ("y" : Str) else ⟨#[]⟩)
theorem app_nil (z : Str) : z ++ (⟨#[]⟩ : Str) = z := by
  cases z with
  | mk c =>
    show (⟨c ++ #[]⟩ : Str) = _
    rw [Array.append_empty]
theorem fixN_of {z : Str} (h : z = "chest") : fixN z = "chesty" := by
  subst h
  decide +kernel
theorem fixN_not {z : Str} (h : z ≠ "chest") : fixN z = z := by
  unfold fixN
  rw [decide_eq_false fun e => h (V.str.inj e)]
  exact app_nil z
theorem fixN_name {z : Str} (h : Lw z) : nameV (.str (fixN z)) = true := by
  by_cases c : z = "chest"
  · rw [fixN_of c]
    decide +kernel
  · rw [fixN_not c]
    rw [name_all h.l.1 h.l.2 (by rw [decide_eq_false fun e => c (V.str.inj e)]; exact Bool.false_ne_true)]
    exact List.all_eq_true.mpr fun x hx => decide_eq_true (h.sm x hx)
theorem fixN_inj {y z : Str} (l : y.length = z.length) (h : fixN y = fixN z) : y = z := by
  have cl : ("chest" : Str).length = 5 := by decide +kernel
  have cl6 : ("chesty" : Str).length = 6 := by decide +kernel
  by_cases cy : y = "chest"
  · by_cases cz : z = "chest"
    · rw [cy, cz]
    · rw [fixN_of cy, fixN_not cz] at h
      rw [cy, cl, ← h, cl6] at l
      cases l
  · by_cases cz : z = "chest"
    · rw [fixN_not cy, fixN_of cz] at h
      rw [cz, cl, h, cl6] at l
      cases l
    · rwa [fixN_not cy, fixN_not cz] at h
def words12 : List Str := ["come", "bring", "give", "hand", "forget", "go", "person", "has", "thanks", "none", "now", "so"]
theorem words12_nodup : words12.Nodup := by decide +kernel
theorem words12_name : ∀ z ∈ words12, nameV (.str z) = true := by decide +kernel
/-- the k-th word -/
def wordK (at_ st : Int) (k : Nat) : Str := (words12[((at_ + st * (k : Int)) % 12).toNat]?).getD ""
def letK (f st : Int) (k : Nat) : Nat := 97 + ((f + st * (k : Int)) % 26).toNat
inductive Step : Int → Prop
  | a : Step 1
  | b : Step 5
  | c : Step 7
  | d : Step 11
theorem wordK_at (at_ : Int) {st : Int} (k : Nat) : words12[((at_ + st * (k : Int)) % 12).toNat]? = some (wordK at_ st k) := by
  unfold wordK
  have h : ((at_ + st * (k : Int)) % 12).toNat < words12.length := by
    show _ < 12
    omega
  rw [List.getElem?_eq_getElem h]
  rfl
theorem wordK_inj {at_ st : Int} (s : Step st) {i j : Nat} (hi : i < 6) (hj : j < 6) (h : wordK at_ st i = wordK at_ st j) : i = j := by
  have e := (wordK_at at_ i).trans ((congrArg some h).trans (wordK_at (st := st) at_ j).symm)
  have hl : ((at_ + st * (i : Int)) % 12).toNat < words12.length := by
    show _ < 12
    omega
  have q := (List.getElem?_inj hl words12_nodup).mp e
  cases s <;> omega
theorem letK_inj {f st : Int} (s : Step st) {i j : Nat} (hi : i < 6) (hj : j < 6) (h : letK f st i = letK f st j) : i = j := by
  unfold letK at h
  cases s <;> omega
/-- a row of names -/
structure Nms (ys : List V) : Prop where
  l : 2 ≤ ys.length ∧ ys.length ≤ 6
  nm : ∀ y ∈ ys, nameV y = true
  nd : ys.Nodup
theorem Nms.perm {xs ys : List V} (h : Nms xs) (p : ys.Perm xs) : Nms ys := ⟨by rw [p.length_eq]; exact h.l, fun y hy => h.nm y (p.mem_iff.mp hy), p.nodup_iff.mpr h.nd⟩
theorem nms_words {at_ st : Int} (s : Step st) {m : Nat} (m0 : 2 ≤ m) (m1 : m ≤ 6) : Nms ((List.range m).map fun k => V.str (wordK at_ st k)) := by
  refine ⟨by rw [List.length_map, List.length_range]; omega, fun y hy => ?_, nodup_map_range fun i j lt hj e => ?_⟩
  · obtain ⟨k, _, rfl⟩ := List.mem_map.mp hy
    exact words12_name _ (List.mem_of_getElem? (wordK_at at_ k))
  · have := wordK_inj s (by omega) (by omega) (V.str.inj e)
    omega
theorem nms_names {st : Str} {put f sp : Int} (s : Step sp) (h0 : 0 ≤ put) (h1 : put ≤ st.length) (hs : ∀ c ∈ st.cps.toList, 97 ≤ c ∧ c ≤ 122) (l7 : st.length ≤ 7) {m : Nat} (m0 : 2 ≤ m) (m1 : m ≤ 6) : Nms ((List.range m).map fun k => V.str (fixN (mkN st put (letK f sp k)))) := by
  refine ⟨by rw [List.length_map, List.length_range]; omega, fun y hy => ?_, nodup_map_range fun i j lt hj e => ?_⟩
  · obtain ⟨k, _, rfl⟩ := List.mem_map.mp hy
    exact fixN_name (mkN_lw h0 h1 hs l7 (by unfold letK; omega))
  · have e1 := fixN_inj (by rw [mkN_len h0 h1, mkN_len h0 h1]) (V.str.inj e)
    have := letK_inj s (by omega) (by omega) (mkN_inj h0 h1 e1)
    omega
theorem let26 (k : Nat) (h : k < 26) : (("abcdefghijklmnopqrstuvwxyz" : Str)).cps.toList[k]? = some (97 + k) := by
  have e : (("abcdefghijklmnopqrstuvwxyz" : Str)).cps.toList = (List.range 26).map (97 + ·) := by decide +kernel
  rw [e, List.getElem?_map, List.getElem?_range h]
  rfl
def spNames : Sp := fun vs H Q _ => ∃ (p : Addr) (m : Int), vs = [.ref p, .int m] ∧ Pool H p ∧ 2 ≤ m ∧ m ≤ 6 ∧ ∀ l ys H', Kp p H H' → Pool H' p → H l = none → H' l = some (.lst ys) → Nms ys → Q (.ref l) H'
theorem ok_Lnames (T : Tx P K mg A) : FnOk P w K mg base CX0 2 A.f_Lnames A.d_Lnames ["_law_pool_here", "_law_many"] spNames := by
  refine T.F_Lnames.ok sc_Lnames (fun vs H Q E h => ?_) (fun cdv A' outer s H vs Q E hr h => ?_)
  · obtain ⟨p, m, rfl, _⟩ := h
    rfl
  · obtain ⟨p, mi, rfl, hP, m0, m1, k⟩ := h
    obtain ⟨m, rfl⟩ : ∃ m : Nat, mi = (m : Int) := ⟨mi.toNat, by omega⟩
    have fin : ∀ (zs : List Str) (l : Addr) (H9 : Hp), SqL K H9 l (zs.map V.str) → Nms (zs.map V.str) → Kp p H H9 → Pool H9 p → rSortedD K [.ref l] H9 Q := fun zs l H9 hl nm kp hp =>
      wSortS hl fun ys pm t ht => k t ys _ (kp.trans (Kp.new ht)) (hp.upd (hp.ne ht)) (kp.free (hp.ne ht) ht) upd_same (nm.perm pm)
    refine ⟨_, (pss_cons (ps_set (i := 2) sc_Lnames.nd rfl (Or.inr rfl) (pe_lst (pa_cons pe_str (pa_cons pe_str (pa_cons pe_str (pa_cons pe_str (pa_cons pe_str (pa_cons pe_str (pa_cons pe_str (pa_cons pe_str (pa_cons pe_str (pa_cons pe_str (pa_cons pe_str (pa_cons pe_str pa_nil))))))))))))))
    (pss_cons (ps_asg (pe_tup (pa_cons (pe_call (ok_Ltake T) (hr.mono (by decide)) (by rfl) T.g_Ltake T.F_Ltake.kp T.b_Ltake .nil pass0 (pa_cons (pv 0) (pa_cons pe_int pa_nil))) (pa_cons (pe_ix (ix_listV (K := K) rfl) (pe_lst (pa_cons pe_int (pa_cons pe_int (pa_cons pe_int (pa_cons pe_int pa_nil))))) (pe_call (ok_Ltake T) (hr.mono (by decide)) (by rfl) T.g_Ltake T.F_Ltake.kp T.b_Ltake .nil pass0 (pa_cons (pv 0) (pa_cons pe_int pa_nil))) (fun _ _ => rfl)) pa_nil))) (pg_tupV (K := K) (n := 2) rfl rfl (pgs_cons (pg_name (i := 3) sc_Lnames.nd rfl (Or.inr rfl)) (pgs_cons (pg_name (i := 4) sc_Lnames.nd rfl (Or.inr rfl)) pgs_nil)) rfl))
    (pss_cons (ps_if (pt_cmpR op_eq (pe_call (ok_Ltake T) (hr.mono (by decide)) (by rfl) T.g_Ltake T.F_Ltake.kp T.b_Ltake .nil pass0 (pa_cons (pv 0) (pa_cons pe_int pa_nil))) pe_int (nomark _))
    (pss_one (ps_ret (pe_callB (cr_sortedD (K := K) rfl hr.units) (by rfl) T.m_sorted (by decide +kernel) (pa_cons (pe_lc rfl sc_Lnames.nd (g := gName 10) (pi_range1 (by rfl) T.m_range (pa_cons (pv 1) pa_nil)) (blkOk_by (own := [("_law_k", 10)]) (N := ["_law_pool_here", "_law_many", "_law_words", "_law_at", "_law_step", "_law_letters", "_law_stem", "_law_put", "_law_first", "_law_found", "_law_k", "_law_name"]) (sc := defScope s_Lnames) (by decide +kernel)) (fun _ _ _ _ _ => (pg_name (i := 10) sc_Lnames.nd rfl (Or.inl rfl))) (fun _ _ _ _ _ => pts_nil) (fun _ _ _ _ _ => (pe_ix (ix_listV (K := K) rfl) (pv 2) (pe_op op_mod (pe_op op_add (pv 3) (pe_op op_mul (pv 4) (pv 10))) pe_int) (fun _ _ => rfl)))) pa_nil))))
    pss_nil)
    (pss_cons (ps_set (i := 5) sc_Lnames.nd rfl (Or.inr rfl) pe_str)
    (pss_cons (ps_set (i := 6) sc_Lnames.nd rfl (Or.inl rfl) (pe_joinV (K := K) rfl pe_str (pe_lc rfl sc_Lnames.nd (g := gName 10) (pi_range1 (by rfl) T.m_range (pa_cons (pe_call (ok_Ltake T) (hr.mono (by decide)) (by rfl) T.g_Ltake T.F_Ltake.kp T.b_Ltake .nil pass0 (pa_cons (pv 0) (pa_cons pe_int pa_nil))) pa_nil)) (blkOk_by (own := [("_law_k", 10)]) (N := ["_law_pool_here", "_law_many", "_law_words", "_law_at", "_law_step", "_law_letters", "_law_stem", "_law_put", "_law_first", "_law_found", "_law_k", "_law_name"]) (sc := defScope s_Lnames) (by decide +kernel)) (fun _ _ _ _ _ => (pg_name (i := 10) sc_Lnames.nd rfl (Or.inl rfl))) (fun _ _ _ _ _ => pts_nil) (fun _ _ _ _ _ => (pe_ix ix_str (pv 5) (pe_call (ok_Ltake T) (hr.mono (by decide)) (by rfl) T.g_Ltake T.F_Ltake.kp T.b_Ltake .nil pass0 (pa_cons (pv 0) (pa_cons pe_int pa_nil))) (fun _ _ => rfl))))))
    (pss_cons (ps_par3 (i := 7) (j := 8) (l := 9) rfl sc_Lnames.nd rfl rfl rfl (by decide) (by decide) (by decide) rfl rfl rfl (pa_cons (pe_call (ok_Ltake T) (hr.mono (by decide)) (by rfl) T.g_Ltake T.F_Ltake.kp T.b_Ltake .nil pass0 (pa_cons (pv 0) (pa_cons (pe_op op_add (pe_callB (call_lenV (K := K) rfl) (by rfl) T.m_len (by decide +kernel) (pa_cons (pv 6) pa_nil)) pe_int) pa_nil))) (pa_cons (pe_call (ok_Ltake T) (hr.mono (by decide)) (by rfl) T.g_Ltake T.F_Ltake.kp T.b_Ltake .nil pass0 (pa_cons (pv 0) (pa_cons pe_int pa_nil))) (pa_cons (pe_lst pa_nil) pa_nil))) rfl)
    (pss_cons (ps_for PassesOwn.never rfl (pi_range1 (by rfl) T.m_range (pa_cons (pv 1) pa_nil)) (pg_name (i := 10) sc_Lnames.nd rfl (Or.inl rfl))
    (pss_cons (ps_set (i := 11) sc_Lnames.nd rfl (Or.inl rfl) (pe_op op_add_str (pe_op op_add_str (pe_slice sl_str (pv 6) po_none (po_some (pv 7))) (pe_ix ix_str (pv 5) (pe_op op_mod (pe_op op_add (pv 8) (pe_op op_mul (pv 4) (pv 10))) pe_int) (fun _ _ => rfl))) (pe_slice sl_str (pv 6) (po_some (pv 7)) po_none)))
      (pss_one (ps_expr (pe_bm PySem.F.plainAttrs_list PySem.F.slot_list_append PySem.F.type_list_append mt_append (pv 9) (pa_cons (pe_op op_add_str (pv 11) (pe_op op_mulS01 pe_str (pe_callTy call_int1 (by rfl) T.m_int (by decide +kernel) (pa_cons (pe_cmpR op_eq (pv 11) pe_str (nomark _)) pa_nil)))) pa_nil))))))
    (pss_one (ps_ret (pe_callB (cr_sortedD (K := K) rfl hr.units) (by rfl) T.m_sorted (by decide +kernel) (pa_cons (pv 9) pa_nil))))))))))), ?_⟩
    walk_at "ww"
    refine alI fun l1 H1 n1 e1 f1 => ?_
    have hP1 := hP.ex e1
    have m1p : l1 ≠ p := hP.ne n1
    walk_at "ww"
    refine ⟨p, 12, rfl, hP1, by omega, by omega, fun d H2 d0 d1 e2 hP2 => ?_⟩
    have K2 : Kp p H H2 := e1.kp.trans e2
    walk_at "ww"
    refine alI fun l3 H3 n3 e3 f3 => ?_
    have hP3 := hP2.ex e3
    have n3p : l3 ≠ p := hP2.ne n3
    walk_at "ww"
    refine ⟨p, 4, rfl, hP3, by omega, by omega, fun d4 H4o d40 d41 e4o hP4o => ?_⟩
    obtain ⟨sv, hsv, hsm⟩ := at_ex (xs := [V.int 1, V.int 5, V.int 7, V.int 11]) d40 (by show d4 < 4; omega)
    refine wIxL (SqL.of (e4o _ _ n3p f3)) hsv ?_
    obtain ⟨sp, rfl, hst⟩ : ∃ sp, sv = .int sp ∧ Step sp := by
      simp only [List.mem_cons, List.not_mem_nil, or_false] at hsm
      rcases hsm with rfl | rfl | rfl | rfl
      · exact ⟨_, rfl, .a⟩
      · exact ⟨_, rfl, .b⟩
      · exact ⟨_, rfl, .c⟩
      · exact ⟨_, rfl, .d⟩
    walk_at "ww"
    refine alI fun tq H4 nq e4q fq => ?_
    refine wGTup (SqT.of fq) rfl ?_
    have hP4 := hP4o.ex e4q
    have e4 := e4o.trans e4q.kp
    have K4 : Kp p H H4 := (K2.trans e3.kp).trans e4
    have f14 : H4 l1 = some (.lst (words12.map V.str)) := e4 _ _ m1p (e3 _ _ (e2 _ _ m1p f1))
    walk_at "ww"
    refine ⟨p, 4, rfl, hP4, by omega, by omega, fun d5 H5 d50 d51 e5 hP5 => ?_⟩
    have K5 : Kp p H H5 := K4.trans e5
    have f15 := e5 _ _ m1p f14
    walk_at "ww"
    refine ite2 (fun c => ?_) (fun c => ?_)
    · walk_at "ww"
      refine ⟨by omega, by omega, ?_⟩
      intro D hD
      have nDp : D ≠ p := hP5.ne hD
      refine lcRng (fun H' => Kp p H5 H' ∧ Pool H' p) (fun i y _ => y = .str (wordK d sp i)) (fun _ => rfl) ⟨Kp.new hD, hP5.upd nDp⟩ (fun i hi H6 acc hI hD6 hl hR => ?_) (fun H6 ys hI hD6 hl hR => ?_)
      · walk_at "ww"
        have ew : atI (words12.map V.str) ((d + sp * (0 + (i : Int))) % 12) = some (.str (wordK d sp i)) := by
          rw [Int.zero_add]
          refine at_of (j := ((d + sp * (i : Int)) % 12).toNat) (by omega) ?_
          rw [List.getElem?_map, wordK_at]
          rfl
        refine wIxL (SqL.of (hI.1 _ _ m1p f15)) ew ?_
        exact lcAdd hD6 hl (by omega) ⟨hI.1.mut hD, hI.2.upd nDp⟩ hR rfl
      · have ey : ys = ((List.range m).map fun k => wordK d sp k).map V.str := by
          refine List.ext_getElem? fun j => ?_
          rw [List.map_map, List.getElem?_map]
          by_cases h : j < m
          · rw [List.getElem?_range h]
            obtain ⟨y, hy⟩ : ∃ y, ys[j]? = some y := ⟨_, List.getElem?_eq_getElem (by omega)⟩
            rw [hy, hR j y hy]
            rfl
          · rw [List.getElem?_eq_none (by omega), List.getElem?_eq_none (by rw [List.length_range]; omega)]
            rfl
        rw [ey] at hD6
        exact fin _ _ _ (SqL.of hD6) (by rw [List.map_map]; exact nms_words hst (by omega) (by omega)) (K5.trans hI.1) hI.2
    · walk_at "ww"
      refine ⟨p, 8, rfl, hP5, by omega, by omega, fun d6 H6 d60 d61 e6 hP6 => ?_⟩
      walk_at "ww"
      refine ⟨by omega, by omega, ?_⟩
      intro D hD
      have nDp : D ≠ p := hP6.ne hD
      have e0 : (("" : Str)) = ⟨#[]⟩ := by decide +kernel
      have letL : (("abcdefghijklmnopqrstuvwxyz" : Str)).cps.toList.length = 26 := by decide +kernel
      have letS : (("abcdefghijklmnopqrstuvwxyz" : Str)).length ≤ sizeLine := by decide +kernel
      have K6 : Kp p H H6 := K5.trans e6
      refine lcRng (fun H' => Kp p H6 H' ∧ Pool H' p) (fun i y _ => ∃ c, (97 ≤ c ∧ c ≤ 122) ∧ y = .str ⟨#[c]⟩) (fun _ => rfl) ⟨Kp.new hD, hP6.upd nDp⟩ (fun i hi H7 acc hI hD7 hl hR => ?_) (fun H7 ys hI hD7 hl hR => ?_)
      · walk_at "ww"
        refine ⟨p, 26, rfl, hI.2, by omega, by omega, fun d8 H8 d80 d81 e8 hP8 => ?_⟩
        have ea : atI (Str.ofString "abcdefghijklmnopqrstuvwxyz").cps.toList d8 = some (97 + d8.toNat) := by
          have ej : d8 = ((d8.toNat : Nat) : Int) := by omega
          have el := let26 d8.toNat (by omega)
          exact (congrArg (atI _) ej).trans (at_nat el)
        refine wIxS letS ea ?_
        exact lcAdd (e8 _ _ nDp hD7) hl (by omega) ⟨(hI.1.trans e8).mut hD, hP8.upd nDp⟩ hR ⟨97 + d8.toNat, by omega, rfl⟩
      · obtain ⟨cs, c1, c2, rfl⟩ := join_ones (P := fun c => 97 ≤ c ∧ c ≤ 122) hR
        refine ⟨_, D, _, rfl, rfl, .inl (SqL.of hD7), ?_, ?_⟩
        · rw [ones_sum, e0]
          have : ((⟨#[]⟩ : Str)).length = 0 := rfl
          rw [this]
          omega
        have hj : (Txt.join ("" : Str) (cs.map fun c => (⟨#[c]⟩ : Str))).cps.toList = cs := by
          rw [e0, TL.join_eq]
          exact ones_cps cs
        generalize Txt.join ("" : Str) (cs.map fun c => (⟨#[c]⟩ : Str)) = st at hj ⊢
        have hsm : ∀ c ∈ st.cps.toList, 97 ≤ c ∧ c ≤ 122 := by rw [hj]; exact c2
        have hl7 : st.length ≤ 7 := by
          show st.cps.size ≤ 7
          rw [← Array.length_toList, hj]
          omega
        have K7 : Kp p H H7 := K6.trans hI.1
        walk_at "ww"
        refine wLenS (sz6 (by omega)) ?_
        walk_at "ww"
        refine ⟨p, (st.length : Int) + 1, rfl, hI.2, by omega, by omega, fun put H8 p0 p1 e8 hP8 => ?_⟩
        walk_at "ww"
        refine ⟨p, 26, rfl, hP8, by omega, by omega, fun f H9 f0 f1' e9 hP9 => ?_⟩
        walk_at "ww"
        refine alI fun fd H10 n10 e10 f10 => ?_
        have hP10 := hP9.ex e10
        have nfp : fd ≠ p := hP9.ne n10
        have K9 : Kp p H H9 := (K7.trans e8).trans e9
        walk_at "ww"
        refine ⟨by omega, by omega, ?_⟩
        refine for_range (lo := 0) (n := m) (fun i σ H' => ∃ v10 v11, σ = [some (.ref p), some (.int (m : Int)), some (.ref l1), some (.int d), some (.int sp), some (.str "abcdefghijklmnopqrstuvwxyz"), some (.str st), some (.int put), some (.int f), some (.ref fd), v10, v11] ∧ Kp p H9 H' ∧ Pool H' p ∧ H' fd = some (.lst ((List.range i).map fun k => V.str (fixN (mkN st put (letK f sp k)))))) ⟨_, _, rfl, e10.kp, hP10, f10⟩ ?_ ?_
        · rintro i σ H' hi ⟨v10, v11, rfl, kk, hPi, ff⟩
          walk_at "ww"
          have ea : atI (Str.ofString "abcdefghijklmnopqrstuvwxyz").cps.toList ((f + sp * (0 + (i : Int))) % 26) = some (letK f sp i) := by
            rw [Int.zero_add]
            have ej : (f + sp * (i : Int)) % 26 = ((((f + sp * (i : Int)) % 26).toNat : Nat) : Int) := by omega
            have el := let26 ((f + sp * (i : Int)) % 26).toNat (by omega)
            exact (congrArg (atI _) ej).trans (at_nat el)
          refine wIxS letS ea ?_
          have q1 := cutS_length st none (some put)
          have q2 := cutS_length st (some put) none
          have q4 : ((⟨#[letK f sp i]⟩ : Str)).length = 1 := rfl
          walk_at "ww"
          have len1 := mkN_len (st := st) (put := put) (c := letK f sp i) p0 (by omega)
          refine anTyL ff ?_
          have em : cutS st none (some put) ++ ⟨#[letK f sp i]⟩ ++ cutS st (some put) none = mkN st put (letK f sp i) := rfl
          rw [em]
          generalize ez : mkN st put (letK f sp i) = z at len1 ⊢
          walk_at "ww"
          refine .inr ⟨_, rfl, _, _, rfl, rfl, ?_⟩
          have yl : (if decide (V.str z = V.str "chest") = true then ("y" : Str) else ⟨#[]⟩).length ≤ 1 := by
            split
            · decide +kernel
            · decide +kernel
          refine ⟨_, _, rfl, rfl, sz6 (by omega), wNil ?_⟩
          refine wAppend ff (by rw [List.length_map, List.length_range]; omega) ?_
          refine ⟨_, _, rfl, kk.mut n10, hPi.upd nfp, ?_⟩
          rw [upd_same, List.range_succ, List.map_append, ← ez]
          rfl
        · rintro σ H' ⟨v10, v11, rfl, kk, hPi, ff⟩
          walk_at "ww"
          have e1 : ((List.range m).map fun k => V.str (fixN (mkN st put (letK f sp k)))) = ((List.range m).map fun k => fixN (mkN st put (letK f sp k))).map V.str := by rw [List.map_map]; rfl
          refine fin _ _ _ (SqL.of (e1 ▸ ff)) (e1 ▸ nms_names hst p0 (by omega) hsm hl7 (by omega) (by omega)) (K9.trans kk) hPi
theorem Nms.pick {ys : List V} (h : Nms ys) {i : Int} (h0 : 0 ≤ i) (h1 : i < ys.length) : ∃ a, atI ys i = some a ∧ nameV a = true := by
  obtain ⟨a, ha, hm⟩ := at_ex h0 h1
  exact ⟨a, ha, h.nm a hm⟩
theorem Nms.pick2 {ys : List V} (h : Nms ys) {i : Int} (h0 : 0 ≤ i) (h1 : i < ys.length) : ∃ a b, atI ys i = some a ∧ atI ys (i - 1) = some b ∧ nameV a = true ∧ nameV b = true ∧ a ≠ b := by
  obtain ⟨l2, l6⟩ := h.l
  obtain ⟨n, rfl⟩ : ∃ n : Nat, i = (n : Int) := ⟨i.toNat, by omega⟩
  have hn : n < ys.length := by omega
  obtain ⟨j, hj, hij, ej⟩ : ∃ j, ∃ hj : j < ys.length, n ≠ j ∧ atI ys ((n : Int) - 1) = some ys[j] := by
    by_cases c : n = 0
    · subst c
      refine ⟨ys.length - 1, by omega, by omega, ?_⟩
      have e := atI_last ys.dropLast (ys.getLast (fun e => by rw [e] at l2; exact absurd l2 (by decide)))
      rw [List.dropLast_concat_getLast, List.getLast_eq_getElem] at e
      exact e
    · refine ⟨n - 1, by omega, by omega, ?_⟩
      have e : (n : Int) - 1 = ((n - 1 : Nat) : Int) := by omega
      rw [e]
      exact atI_nat (List.getElem?_eq_getElem (by omega))
  refine ⟨ys[n], ys[j], atI_nat (List.getElem?_eq_getElem hn), ej, h.nm _ (List.getElem_mem hn), h.nm _ (List.getElem_mem hj), fun e => hij ?_⟩
  have q : ys[n]? = ys[j]? := by rw [List.getElem?_eq_getElem hn, List.getElem?_eq_getElem hj, e]
  exact (List.getElem?_inj hn h.nd).mp q
theorem name_len {v : V} (h : nameV v = true) : ∃ z, v = .str z ∧ z.length ≤ 8 := by
  obtain ⟨z, rfl⟩ := name_str h
  exact ⟨z, rfl, (lw_name h).l.2⟩
theorem join_len (y : Str) : ∀ (ps : List Str), (Str.join y ps).length ≤ (ps.map (·.length)).sum + ps.length * y.length
  | [] => by
    show 0 ≤ _
    exact Nat.zero_le _
  | [p] => by
    show p.length ≤ _
    simp
  | p :: q :: r => by
    have ih := join_len y (q :: r)
    show ((p ++ y) ++ Str.join y (q :: r)).length ≤ _
    rw [app_len, app_len]
    simp only [List.map_cons, List.sum_cons, List.length_cons] at ih ⊢
    have : (r.length + 1 + 1) * y.length = (r.length + 1) * y.length + y.length := by rw [Nat.add_mul, Nat.one_mul]
    omega
theorem sum_le {xs : List Str} {n : Nat} (h : ∀ x ∈ xs, x.length ≤ n) : (xs.map (·.length)).sum ≤ xs.length * n := by
  induction xs with
  | nil => simp
  | cons x r ih =>
    have h1 := h x List.mem_cons_self
    have h2 := ih fun y hy => h y (List.mem_cons_of_mem _ hy)
    simp only [List.map_cons, List.sum_cons, List.length_cons]
    rw [Nat.add_mul, Nat.one_mul]
    omega
def spLine : Sp := fun vs H Q _ => ∃ (p nl : Addr) (ys : List V), vs = [.ref p, .ref nl] ∧ Pool H p ∧ nl ≠ p ∧ H nl = some (.lst ys) ∧ Nms ys ∧ ∀ z H', Kp p H H' → Pool H' p → z.length ≤ 60 → Q (.str z) H'
theorem ok_Lline (T : Tx P K mg A) : FnOk P w K mg base CX0 2 A.f_Lline A.d_Lline ["_law_pool_here", "_law_names_here"] spLine := by
  refine T.F_Lline.ok sc_Lline (fun vs H Q E h => ?_) (fun cdv A' outer s H vs Q E hr h => ?_)
  · obtain ⟨p, nl, ys, rfl, _⟩ := h
    rfl
  · obtain ⟨p, nl, ys, rfl, hP, nnp, hN, nm, k⟩ := h
    refine ⟨_, (pss_cons (ps_set (i := 2) sc_Lline.nd rfl (Or.inl rfl) (pe_ix (ix_listV (K := K) rfl) (pe_lst (pa_cons pe_str (pa_cons pe_str (pa_cons pe_str (pa_cons pe_str (pa_cons pe_str (pa_cons pe_str pa_nil))))))) (pe_call (ok_Ltake T) (hr.mono (by decide)) (by rfl) T.g_Ltake T.F_Ltake.kp T.b_Ltake .nil pass0 (pa_cons (pv 0) (pa_cons pe_int pa_nil))) (fun _ _ => rfl)))
    (pss_cons (ps_set (i := 3) sc_Lline.nd rfl (Or.inl rfl) (pe_call (ok_Ltake T) (hr.mono (by decide)) (by rfl) T.g_Ltake T.F_Ltake.kp T.b_Ltake .nil pass0 (pa_cons (pv 0) (pa_cons (pe_callB (call_lenV (K := K) rfl) (by rfl) T.m_len (by decide +kernel) (pa_cons (pv 1) pa_nil)) pa_nil))))
    (pss_cons (ps_set (i := 4) sc_Lline.nd rfl (Or.inl rfl) (pe_lst (pa_cons (pv 2) (pa_cons (pe_ix (ix_listV (K := K) rfl) (pv 1) (pv 3) (fun _ _ => rfl)) pa_nil))))
    (pss_cons (ps_if (pt_cmpR (op_notIn_seqV (K := K) rfl) (pv 2) (pe_lst (pa_cons pe_str (pa_cons pe_str pa_nil))) (by rfl))
    (C8.pss_cut (ps_expr (pe_bm PySem.F.plainAttrs_list PySem.F.slot_list_append PySem.F.type_list_append mt_append (pv 4) (pa_cons (pe_ix (ix_listV (K := K) rfl) (pe_lst (pa_cons (pe_ix (ix_listV (K := K) rfl) (pv 1) (pe_op op_sub (pv 3) pe_int) (fun _ _ => rfl)) (pa_cons pe_str pa_nil))) (pe_callTy call_int1 (by rfl) T.m_int (by decide +kernel) (pa_cons (pe_and (pe_cmpR op_eq (pv 2) pe_str (nomark _)) (pe_one (pe_cmpR op_eq (pe_call (ok_Ltake T) (hr.mono (by decide)) (by rfl) T.g_Ltake T.F_Ltake.kp T.b_Ltake .nil pass0 (pa_cons (pv 0) (pa_cons pe_int pa_nil))) pe_int (nomark _)))) pa_nil)) (fun _ _ => rfl)) pa_nil)))
      (pss_cons (ps_set (i := 4) sc_Lline.nd rfl (Or.inl rfl) (pe_op op_cat (pv 4) (pe_op op_rep (pe_lst (pa_cons (pe_ix (ix_listV (K := K) rfl) (pv 1) (pe_call (ok_Ltake T) (hr.mono (by decide)) (by rfl) T.g_Ltake T.F_Ltake.kp T.b_Ltake .nil pass0 (pa_cons (pv 0) (pa_cons (pe_callB (call_lenV (K := K) rfl) (by rfl) T.m_len (by decide +kernel) (pa_cons (pv 1) pa_nil)) pa_nil))) (fun _ _ => rfl)) pa_nil)) (pe_callTy call_int1 (by rfl) T.m_int (by decide +kernel) (pa_cons (pe_cmpR op_eq (pv 2) pe_str (nomark _)) pa_nil)))))
      (pss_one (ps_expr (pe_bm PySem.F.plainAttrs_list PySem.F.slot_list_append PySem.F.type_list_append mt_append (pv 4) (pa_cons (pe_callTy call_strIS (by rfl) T.m_str (by decide +kernel) (pa_cons (pe_ix (ix_listV (K := K) rfl) (pe_lst (pa_cons pe_int (pa_cons pe_int (pa_cons (pe_op op_add pe_int (pe_call (ok_Ltake T) (hr.mono (by decide)) (by rfl) T.g_Ltake T.F_Ltake.kp T.b_Ltake .nil pass0 (pa_cons (pv 0) (pa_cons pe_int pa_nil)))) pa_nil)))) (pe_call (ok_Ltake T) (hr.mono (by decide)) (by rfl) T.g_Ltake T.F_Ltake.kp T.b_Ltake .nil pass0 (pa_cons (pv 0) (pa_cons pe_int pa_nil))) (fun _ _ => rfl)) pa_nil)) pa_nil))))))
    pss_nil)
    (pss_one (ps_ret (pe_joinV (K := K) rfl pe_str (pv 4)))))))), ?_⟩
    have l6 := nm.l
    have fin : ∀ (zs : List Str) (l : Addr) (H9 : Hp), H9 l = some (.lst (zs.map V.str)) → zs.length ≤ 5 → (∀ z ∈ zs, z.length ≤ 8) → Kp p H H9 → Pool H9 p →
        ∃ a q, ∃ us : List Str, V.str (Str.ofString " ") = .str a ∧ [V.ref l] = [.ref q] ∧ (SqL K H9 q (us.map V.str) ∨ SqT K H9 q (us.map V.str)) ∧ (us.map (·.length)).sum + us.length * a.length ≤ 16777216 ∧ Q (.str (Txt.join a us)) H9 := fun zs l H9 hl l5 h8 kp hp => by
      have q := sum_le h8
      have e1 : ((Str.ofString " ")).length = 1 := by decide +kernel
      refine ⟨_, _, zs, rfl, rfl, .inl (SqL.of hl), by rw [e1]; omega, k _ _ kp hp ?_⟩
      rw [TL.join_eq]
      have := join_len (Str.ofString " ") zs
      rw [e1] at this
      omega
    walk_at "ww"
    refine alI fun l1 H1 n1 e1 f1 => ?_
    have hP1 := hP.ex e1
    have m1p : l1 ≠ p := hP.ne n1
    walk_at "ww"
    refine ⟨p, 6, rfl, hP1, by omega, by omega, fun d H2 d0 d1 e2 hP2 => ?_⟩
    have K2 : Kp p H H2 := e1.kp.trans e2
    obtain ⟨wv, hwv, hwm⟩ := at_ex (xs := [V.str "come", V.str "bring", V.str "give", V.str "hand", V.str "forget", V.str "go"]) d0 (by show d < 6; omega)
    refine wIxL (SqL.of (e2 _ _ m1p f1)) hwv ?_
    obtain ⟨wz, rfl, wl⟩ : ∃ z, wv = .str z ∧ z.length ≤ 8 := by
      simp only [List.mem_cons, List.not_mem_nil, or_false] at hwm
      rcases hwm with rfl | rfl | rfl | rfl | rfl | rfl <;> exact ⟨_, rfl, by decide +kernel⟩
    clear hwv hwm f1
    have N2 := K2 _ _ nnp hN
    walk_at "ww"
    refine wLenL (SqL.of N2) ?_
    walk_at "ww"
    refine ⟨p, _, rfl, hP2, by omega, by omega, fun at_ H3 a0 a1 e3 hP3 => ?_⟩
    have K3 := K2.trans e3
    have N3 := K3 _ _ nnp hN
    obtain ⟨one, two, ho, ht, no, nt, _⟩ := nm.pick2 a0 a1
    obtain ⟨z1, rfl, l1z⟩ := name_len no
    obtain ⟨z2, rfl, l2z⟩ := name_len nt
    walk_at "ww"
    refine wIxL (SqL.of N3) ho ?_
    walk_at "ww"
    refine alI fun b H4 n4 e4 f4 => ?_
    have hP4 := hP3.ex e4
    have nbp : b ≠ p := hP3.ne n4
    have nb : H b = none := K3.free nbp n4
    have K4 := K3.trans e4.kp
    walk_at "ww"
    refine alI fun l5 H5 n5 e5 f5 => ?_
    refine ⟨l5, _, rfl, .inl (SqL.of f5), rfl, rfl, ?_⟩
    rw [if_pos rfl, in2]
    have K5 := K4.trans e5.kp
    have hP5 := hP4.ex e5
    have f45 := e5 _ _ f4
    walk_at "ww"
    cases hc : (isW (.str wz) "come" || isW (.str wz) "go") with
    | true =>
      walk_at "ww"
      exact fin [wz, z1] b H5 f45 (by show 2 ≤ 5; decide) (List.forall_mem_cons.mpr ⟨wl, List.forall_mem_cons.mpr ⟨l1z, List.forall_mem_nil _⟩⟩) K5 hP5
    | false =>
      walk_at "ww"
      refine wCut (fun σ H' => ∃ x, σ = [some (.ref p), some (.ref nl), some (.str wz), some (.int at_), some (.ref b)] ∧ x.length ≤ 8 ∧ H' b = some (.lst [.str wz, .str z1, .str x]) ∧ Kp p H H' ∧ Pool H' p) ?_ ?_
      · walk_at "ww"
        refine anTyL f45 ?_
        walk_at "ww"
        refine wIxL (SqL.of (K5 _ _ nnp hN)) ht ?_
        walk_at "ww"
        refine alI fun l6 H6 n6 e6 f6 => ?_
        have m6p : l6 ≠ p := hP5.ne n6
        have K6 := K5.trans e6.kp
        have hP6 := hP5.ex e6
        have pk : ∀ b : Bool, ∃ x : Str, atI [V.str z2, V.str "chest"] (if b = true then 1 else 0) = some (.str x) ∧ x.length ≤ 8 := fun b => by
          cases b with
          | true => exact ⟨_, rfl, by decide +kernel⟩
          | false => exact ⟨z2, rfl, l2z⟩
        walk_at "ww"
        cases hfz : decide (V.str wz = V.str "forget") with
        | true =>
          walk_at "ww"
          refine ⟨p, 3, rfl, hP6, by omega, by omega, fun d7 H7 d70 d71 e7 hP7 => ?_⟩
          walk_at "ww"
          obtain ⟨x, hx, xl⟩ := pk (decide (V.int d7 = V.int 0))
          refine .inr ⟨_, rfl, ?_⟩
          refine wIxL (SqL.of (e7 _ _ m6p f6)) hx ?_
          refine wNil ?_
          refine wAppend (e7 _ _ nbp (e6 _ _ f45)) (by simp) ?_
          exact ⟨x, rfl, xl, upd_same, (K6.trans e7).mut nb, hP7.upd nbp⟩
        | false =>
          walk_at "ww"
          obtain ⟨x, hx, xl⟩ := pk false
          refine .inr ⟨_, rfl, ?_⟩
          refine wIxL (SqL.of f6) hx ?_
          refine wNil ?_
          refine wAppend (e6 _ _ f45) (by simp) ?_
          exact ⟨x, rfl, xl, upd_same, K6.mut nb, hP6.upd nbp⟩
      · rintro σ H6 ⟨x, rfl, xl, f6, K6, hP6⟩
        have N6 := K6 _ _ nnp hN
        walk_at "ww"
        refine wLenL (SqL.of N6) ?_
        walk_at "ww"
        refine ⟨p, _, rfl, hP6, by omega, by omega, fun d7 H7 d70 d71 e7 hP7 => ?_⟩
        obtain ⟨lot, hlo, nlo⟩ := nm.pick d70 d71
        obtain ⟨z3, rfl, l3z⟩ := name_len nlo
        have K7 := K6.trans e7
        have f7 := e7 _ _ nbp f6
        refine wIxL (SqL.of (K7 _ _ nnp hN)) hlo ?_
        walk_at "ww"
        refine alI fun l8 H8 n8 e8 f8 => ?_
        walk_at "ww"
        refine .inr ⟨_, rfl, ?_⟩
        have mm : ∃ ms : List Str, ms.length ≤ 1 ∧ (∀ m ∈ ms, m.length ≤ 8) ∧ (List.replicate (Int.toNat (if decide (V.str wz = V.str "hand") = true then 1 else 0)) [V.str z3]).flatten = ms.map V.str := by
          cases decide (V.str wz = V.str "hand") with
          | true => exact ⟨[z3], by simp, by simpa using l3z, rfl⟩
          | false => exact ⟨[], by simp, fun m h => (by cases h), rfl⟩
        obtain ⟨ms, ml, m8, em⟩ := mm
        have kb : -(2 ^ 63) ≤ (if decide (V.str wz = V.str "hand") = true then (1 : Int) else 0) ∧ (if decide (V.str wz = V.str "hand") = true then (1 : Int) else 0) < 2 ^ 63 ∧ (Int.toNat (if decide (V.str wz = V.str "hand") = true then (1 : Int) else 0)) ≤ 1 := by
          split <;> decide
        refine ⟨_, _, _, rfl, rfl, f8, kb.1, kb.2.1, sz6 (by have := kb.2.2; rw [List.length_singleton, Nat.one_mul]; omega), fun l9 n9 => ?_⟩
        rw [em]
        have e9 : Ex H8 (upd H8 l9 (.lst (ms.map V.str))) := Ex.new n9
        have f9 : (upd H8 l9 (.lst (ms.map V.str))) l9 = some (.lst (ms.map V.str)) := upd_same
        generalize upd H8 l9 (.lst (ms.map V.str)) = H9 at e9 f9 ⊢
        refine wCatL ((e8.trans e9) _ _ f7) f9 (by rw [List.length_map]; simp; omega) fun b2 H10 e10 f10 n10 => ?_
        have E10 := (e8.trans e9).trans e10
        have hP10 := hP7.ex E10
        have K10 := K7.trans E10.kp
        have nb2p : b2 ≠ p := (hP7.ex (e8.trans e9)).ne n10
        have nb2 : H b2 = none := (K7.trans (e8.trans e9).kp).free nb2p n10
        walk_at "ww"
        refine anTyL f10 ?_
        walk_at "ww"
        refine ⟨p, 9999, rfl, hP10, by omega, by omega, fun d11 H11 d110 d111 e11 hP11 => ?_⟩
        walk_at "ww"
        refine alI fun l12 H12 n12 e12 f12 => ?_
        have m12 : l12 ≠ p := hP11.ne n12
        walk_at "ww"
        refine ⟨p, 3, rfl, hP11.ex e12, by omega, by omega, fun d13 H13 d130 d131 e13 hP13 => ?_⟩
        obtain ⟨nv, hnv, hnm⟩ := at_ex (xs := [V.int 1, V.int 9999, V.int (1 + d11)]) d130 (by show d13 < 3; omega)
        obtain ⟨n, rfl, n0, n1⟩ : ∃ n : Nat, nv = .int (n : Int) ∧ 1 ≤ n ∧ n ≤ 9999 := by
          simp only [List.mem_cons, List.not_mem_nil, or_false] at hnm
          rcases hnm with rfl | rfl | rfl
          · exact ⟨1, rfl, by omega, by omega⟩
          · exact ⟨9999, rfl, by omega, by omega⟩
          · refine ⟨(1 + d11).toNat, by rw [show (((1 + d11).toNat : Nat) : Int) = 1 + d11 by omega], by omega, by omega⟩
        refine wIxL (SqL.of (e13 _ _ m12 f12)) hnv ?_
        walk_at "ww"
        refine .inl ⟨_, rfl, log_small (Nat.lt_of_le_of_lt (show ((n : Nat) : Int).natAbs ≤ 9999 by omega) (by decide +kernel)), ?_⟩
        walk_at "ww"
        have N := (numT_ok n0 n1).len
        refine wAppend (e13 _ _ nb2p (e12 _ _ (e11 _ _ nb2p f10))) (by rw [List.length_append, List.length_map]; simp; omega) ?_
        walk_at "ww"
        refine fin ([wz, z1, x] ++ ms ++ [numT n]) b2 _ (by rw [upd_same, List.map_append, List.map_append]; rfl) (by simp only [List.length_append, List.length_cons, List.length_nil]; omega) ?_ (((K10.trans e11).trans (e12.kp.trans e13)).mut nb2) (hP13.upd nb2p)
        intro y hy
        rcases List.mem_append.mp hy with hy | hy
        · rcases List.mem_append.mp hy with hy | hy
          · simp only [List.mem_cons, List.not_mem_nil, or_false] at hy
            rcases hy with rfl | rfl | rfl
            · exact wl
            · exact l1z
            · exact xl
          · exact m8 y hy
        · rw [List.mem_singleton.mp hy]
          omega
def Wt (xs : List Str) : Nat := (xs.map (·.length)).sum + xs.length
theorem Wt.app (a b : List Str) : Wt (a ++ b) = Wt a + Wt b := by
  unfold Wt
  rw [List.map_append, List.sum_append, List.length_append]
  omega
theorem Wt.td (n : Nat) (xs : List Str) : Wt (xs.take n) + Wt (xs.drop n) = Wt xs := by
  rw [← Wt.app, List.take_append_drop]
theorem Wt.mid (n : Nat) (xs : List Str) : Wt ((xs.drop n).take 1) + Wt (xs.drop (n + 1)) = Wt (xs.drop n) := by
  have := Wt.td 1 (xs.drop n)
  rw [List.drop_drop] at this
  exact this
theorem Wt.join {y : Str} (hy : y.length = 1) (xs : List Str) : (Txt.join y xs).length ≤ Wt xs := by
  rw [TL.join_eq]
  have := join_len y xs
  rw [hy] at this
  unfold Wt
  omega
theorem Wt.mem {xs : List Str} {x : Str} (h : x ∈ xs) : x.length + 1 ≤ Wt xs := by
  have := le_sum h
  have : 0 < xs.length := List.length_pos_of_mem h
  unfold Wt
  omega
theorem Wt.set : ∀ {xs : List Str} {i : Nat} {o n : Str}, xs[i]? = some o → Wt (xs.set i n) + o.length = Wt xs + n.length
  | x :: xs, 0, o, n, h => by
    cases h
    show Wt (n :: xs) + x.length = Wt (x :: xs) + n.length
    unfold Wt
    simp only [List.map_cons, List.sum_cons, List.length_cons]
    omega
  | x :: xs, i + 1, o, n, h => by
    have := Wt.set (xs := xs) (i := i) (n := n) h
    show Wt (x :: xs.set i n) + o.length = Wt (x :: xs) + n.length
    unfold Wt at this ⊢
    simp only [List.map_cons, List.sum_cons, List.length_cons] at this ⊢
    omega
theorem nl_wt (z : Str) : Wt (Txt.split z "\n") = z.length + 1 := (nl_sum z).2
theorem sp_wt (z : Str) : Wt (Txt.split z " ") = z.length + 1 := (sp_sum z).2
theorem cv_pre (zs : List Str) (k : Nat) : cutV (zs.map V.str) none (some (k : Int)) = (zs.take k).map V.str := by
  unfold cutV
  rw [HT.sIx_none, HT.sIx_nat, List.map_take]
  simp
theorem cv_suf (zs : List Str) (k : Nat) : cutV (zs.map V.str) (some (k : Int)) none = (zs.drop k).map V.str := by
  unfold cutV
  rw [HT.sIx_none, HT.sIx_nat, List.map_drop]
  by_cases h : k ≤ (zs.map V.str).length
  · rw [Nat.min_eq_left h]
    first
      | exact List.take_of_length_le (by rw [List.length_drop]; exact Nat.le_refl _)
      | simp
  · rw [Nat.min_eq_right (by omega), List.drop_eq_nil_of_le (by omega), List.drop_eq_nil_of_le (by rw [List.length_map] at h; rw [List.length_map]; omega)]
    simp
theorem cv_mid (zs : List Str) (k : Nat) : cutV (zs.map V.str) (some (k : Int)) (some ((k + 1 : Nat) : Int)) = ((zs.drop k).take 1).map V.str := by
  unfold cutV
  rw [HT.sIx_nat, HT.sIx_nat, List.map_take, List.map_drop]
  by_cases h : k + 1 ≤ (zs.map V.str).length
  · rw [Nat.min_eq_left h, Nat.min_eq_left (by omega), show k + 1 - k = 1 by omega]
  · rw [Nat.min_eq_right (by omega)]
    have e : (zs.map V.str).drop k = [] := List.drop_eq_nil_of_le (by omega)
    by_cases h2 : k ≤ (zs.map V.str).length
    · rw [Nat.min_eq_left h2, e]
      simp
    · rw [Nat.min_eq_right (by omega), e]
      simp
def spSpoilt : Sp := fun vs H Q _ => ∃ (p : Addr) (z : Str), vs = [.ref p, .str z] ∧ Pool H p ∧ z.length ≤ 12000 ∧ ∀ y H', Kp p H H' → Pool H' p → y.length ≤ 2 * z.length + 100 → Q (.str y) H'
theorem ok_Lspoilt (T : Tx P K mg A) : FnOk P w K mg base CX0 2 A.f_Lspoilt A.d_Lspoilt ["_law_pool_here", "_law_text"] spSpoilt := by
  refine T.F_Lspoilt.ok sc_Lspoilt (fun vs H Q E h => ?_) (fun cdv A' outer s H vs Q E hr h => ?_)
  · obtain ⟨p, z, rfl, _⟩ := h
    rfl
  · obtain ⟨p, z, rfl, hP, hl, k⟩ := h
    refine ⟨_, (pss_cons (ps_set (i := 2) sc_Lspoilt.nd rfl (Or.inl rfl) pe_str)
    (pss_cons (ps_par (i := 3) (j := 4) (by rfl) sc_Lspoilt.nd rfl rfl (by decide) rfl rfl (pa_cons (pe_split (pv 1) pe_str) (pa_cons (pe_call (ok_Ltake T) (hr.mono (by decide)) (by rfl) T.g_Ltake T.F_Ltake.kp T.b_Ltake .nil pass0 (pa_cons (pv 0) (pa_cons (pe_op op_add (pe_callB (call_lenV (K := K) rfl) (by rfl) T.m_len (by decide +kernel) (pa_cons (pv 1) pa_nil)) pe_int) pa_nil))) pa_nil)) (by rfl))
    (pss_cons (ps_par (i := 5) (j := 6) (by rfl) sc_Lspoilt.nd rfl rfl (by decide) rfl rfl (pa_cons (pe_call (ok_Ltake T) (hr.mono (by decide)) (by rfl) T.g_Ltake T.F_Ltake.kp T.b_Ltake .nil pass0 (pa_cons (pv 0) (pa_cons (pe_callB (call_lenV (K := K) rfl) (by rfl) T.m_len (by decide +kernel) (pa_cons (pv 3) pa_nil)) pa_nil))) (pa_cons (pe_call (ok_Ltake T) (hr.mono (by decide)) (by rfl) T.g_Ltake T.F_Ltake.kp T.b_Ltake .nil pass0 (pa_cons (pv 0) (pa_cons pe_int pa_nil))) pa_nil)) (by rfl))
    (pss_cons (ps_set (i := 7) sc_Lspoilt.nd rfl (Or.inl rfl) (pe_ix (ix_listV (K := K) rfl) (pe_lst (pa_cons pe_str (pa_cons (pv 2) pa_nil))) (pe_call (ok_Ltake T) (hr.mono (by decide)) (by rfl) T.g_Ltake T.F_Ltake.kp T.b_Ltake .nil pass0 (pa_cons (pv 0) (pa_cons pe_int pa_nil))) (fun _ _ => rfl)))
    (pss_cons (ps_set (i := 7) sc_Lspoilt.nd rfl (Or.inl rfl) (pe_ix ix_str (pv 7) (pe_call (ok_Ltake T) (hr.mono (by decide)) (by rfl) T.g_Ltake T.F_Ltake.kp T.b_Ltake .nil pass0 (pa_cons (pv 0) (pa_cons (pe_callB (call_lenV (K := K) rfl) (by rfl) T.m_len (by decide +kernel) (pa_cons (pv 7) pa_nil)) pa_nil))) (fun _ _ => rfl)))
    (pss_cons (ps_if (pt_cmpR op_lt (pv 6) pe_int (nomark _))
    (pss_one (ps_ret (pe_op op_add_str (pe_op op_add_str (pe_slice sl_str (pv 1) po_none (po_some (pv 4))) (pe_ix (ix_listV (K := K) rfl) (pe_lst (pa_cons (pv 7) (pa_cons pe_str (pa_cons (pv 7) pa_nil)))) (pv 6) (fun _ _ => rfl))) (pe_slice sl_str (pv 1) (po_some (pe_op op_add (pv 4) (pe_ix (ix_listV (K := K) rfl) (pe_lst (pa_cons pe_int (pa_cons pe_int (pa_cons pe_int pa_nil)))) (pv 6) (fun _ _ => rfl)))) po_none))))
    pss_nil)
    (pss_cons (ps_if (pt_cmpR op_eq (pv 6) pe_int (nomark _))
    (pss_one (ps_ret (pe_joinV (K := K) rfl pe_str (pe_op op_cat (pe_op op_cat (pe_slice (sl_listV (K := K) rfl) (pv 3) po_none (po_some (pv 5))) (pe_slice (sl_listV (K := K) rfl) (pv 3) (po_some (pv 5)) (po_some (pe_op op_add (pv 5) pe_int)))) (pe_slice (sl_listV (K := K) rfl) (pv 3) (po_some (pv 5)) po_none)))))
    pss_nil)
    (pss_cons (ps_if (pt_cmpR op_eq (pv 6) pe_int (nomark _))
    (pss_one (ps_ret (pe_joinV (K := K) rfl pe_str (pe_op op_cat (pe_slice (sl_listV (K := K) rfl) (pv 3) po_none (po_some (pv 5))) (pe_slice (sl_listV (K := K) rfl) (pv 3) (po_some (pe_op op_add (pv 5) pe_int)) po_none)))))
    pss_nil)
    (pss_cons (ps_if (pt_cmpR op_eq (pv 6) pe_int (nomark _))
    (pss_cons (ps_set (i := 8) sc_Lspoilt.nd rfl (Or.inl rfl) (pe_op op_cat (pe_slice (sl_listV (K := K) rfl) (pv 3) (po_some (pe_op op_add (pv 5) pe_int)) (po_some (pe_op op_add (pv 5) pe_int))) (pe_slice (sl_listV (K := K) rfl) (pv 3) (po_some (pv 5)) (po_some (pe_op op_add (pv 5) pe_int)))))
      (pss_one (ps_ret (pe_joinV (K := K) rfl pe_str (pe_op op_cat (pe_op op_cat (pe_slice (sl_listV (K := K) rfl) (pv 3) po_none (po_some (pv 5))) (pv 8)) (pe_slice (sl_listV (K := K) rfl) (pv 3) (po_some (pe_op op_add (pv 5) pe_int)) po_none))))))
    pss_nil)
    (pss_cons (ps_set (i := 9) sc_Lspoilt.nd rfl (Or.inl rfl) (pe_split (pe_ix (ix_listV (K := K) rfl) (pv 3) (pv 5) (fun _ _ => rfl)) pe_str))
    (pss_cons (ps_set (i := 10) sc_Lspoilt.nd rfl (Or.inl rfl) (pe_call (ok_Ltake T) (hr.mono (by decide)) (by rfl) T.g_Ltake T.F_Ltake.kp T.b_Ltake .nil pass0 (pa_cons (pv 0) (pa_cons (pe_callB (call_lenV (K := K) rfl) (by rfl) T.m_len (by decide +kernel) (pa_cons (pv 9) pa_nil)) pa_nil))))
    (pss_cons (ps_set (i := 11) sc_Lspoilt.nd rfl (Or.inl rfl) (pe_lst (pa_cons pe_str (pa_cons pe_str (pa_cons pe_str (pa_cons pe_str (pa_cons pe_str (pa_cons pe_str (pa_cons pe_str (pa_cons pe_str (pa_cons (pe_op op_mulS pe_str pe_int) (pa_cons pe_str (pa_cons pe_str (pa_cons pe_str pa_nil))))))))))))))
    (pss_cons (ps_set (i := 11) sc_Lspoilt.nd rfl (Or.inl rfl) (pe_op op_cat (pv 11) (pe_lst (pa_cons pe_str (pa_cons pe_str (pa_cons pe_str (pa_cons pe_str pa_nil)))))))
    (pss_cons (ps_set (i := 11) sc_Lspoilt.nd rfl (Or.inl rfl) (pe_op op_cat (pv 11) (pe_lst (pa_cons pe_str (pa_cons pe_str (pa_cons pe_str (pa_cons (pe_ix (ix_listV (K := K) rfl) (pv 9) (pe_op op_mod pe_int (pe_callB (call_lenV (K := K) rfl) (by rfl) T.m_len (by decide +kernel) (pa_cons (pv 9) pa_nil))) (fun _ _ => rfl)) (pa_cons (pe_ix (ix_listV (K := K) rfl) (pv 9) pe_int (fun _ _ => rfl)) (pa_cons pe_str pa_nil)))))))))
    (pss_cons (ps_set (i := 12) sc_Lspoilt.nd rfl (Or.inl rfl) (pe_ix (ix_listV (K := K) rfl) (pe_lst (pa_cons (pe_lst (pa_cons (pe_ix (ix_listV (K := K) rfl) (pv 11) (pe_call (ok_Ltake T) (hr.mono (by decide)) (by rfl) T.g_Ltake T.F_Ltake.kp T.b_Ltake .nil pass0 (pa_cons (pv 0) (pa_cons pe_int pa_nil))) (fun _ _ => rfl)) pa_nil)) (pa_cons (pe_lst pa_nil) (pa_cons (pe_op op_rep (pe_slice (sl_listV (K := K) rfl) (pv 9) (po_some (pv 10)) (po_some (pe_op op_add (pv 10) pe_int))) pe_int) pa_nil)))) (pe_ix (ix_listV (K := K) rfl) (pe_lst (pa_cons pe_int (pa_cons pe_int (pa_cons pe_int (pa_cons pe_int (pa_cons pe_int (pa_cons pe_int pa_nil))))))) (pe_op op_sub (pv 6) pe_int) (fun _ _ => rfl)) (fun _ _ => rfl)))
    (pss_cons (ps_asg (pe_joinV (K := K) rfl pe_str (pe_op op_cat (pe_op op_cat (pe_slice (sl_listV (K := K) rfl) (pv 9) po_none (po_some (pv 10))) (pv 12)) (pe_slice (sl_listV (K := K) rfl) (pv 9) (po_some (pe_op op_add (pv 10) pe_int)) po_none))) (pg_sub (pv 3) (pv 5) set_list))
    (pss_one (ps_ret (pe_joinV (K := K) rfl pe_str (pv 3)))))))))))))))))))), ?_⟩
    have nl1 : ((Str.ofString "\n")).length = 1 := by decide +kernel
    have sp1 : ((Str.ofString " ")).length = 1 := by decide +kernel
    have fin : ∀ (zs : List Str) (l : Addr) (H9 : Hp), H9 l = some (.lst (zs.map V.str)) → Wt zs ≤ 2 * z.length + 100 → Kp p H H9 → Pool H9 p →
        ∃ a q, ∃ us : List Str, V.str (Str.ofString "\n") = .str a ∧ [V.ref l] = [.ref q] ∧ (SqL K H9 q (us.map V.str) ∨ SqT K H9 q (us.map V.str)) ∧ (us.map (·.length)).sum + us.length * a.length ≤ 16777216 ∧ Q (.str (Txt.join a us)) H9 := fun zs l H9 hl5 hw kp hp => by
      refine ⟨_, _, zs, rfl, rfl, .inl (SqL.of hl5), ?_, k _ _ kp hp (Nat.le_trans (Wt.join nl1 zs) hw)⟩
      rw [nl1]
      unfold Wt at hw
      omega
    walk_at "qq"
    refine ⟨_, _, rfl, rfl, rfl, sz6 (by omega), fun l nl => ?_⟩
    have wtl := nl_wt z
    have nel := (nl_sum z).1
    generalize Txt.split z (Str.ofString "\n") = ls at wtl nel ⊢
    have lls : ls.length ≤ z.length + 1 := by unfold Wt at wtl; omega
    have lpos : 0 < ls.length := List.length_pos_iff.mpr nel
    have e1 : Ex H (upd H l (.lst (ls.map V.str))) := Ex.new nl
    have f1 : (upd H l (.lst (ls.map V.str))) l = some (.lst (ls.map V.str)) := upd_same
    have nlp : l ≠ p := hP.ne nl
    generalize upd H l (.lst (ls.map V.str)) = H1 at e1 f1 ⊢
    have hP1 := hP.ex e1
    walk_at "qq"
    refine wLenS (sz6 (by omega)) ?_
    walk_at "qq"
    refine ⟨p, _, rfl, hP1, by omega, by omega, fun at_ H2 a0 a1 e2 hP2 => ?_⟩
    have K2 : Kp p H H2 := e1.kp.trans e2
    have f2 := e2 _ _ nlp f1
    walk_at "qq"
    refine wLenL (SqL.of f2) ?_
    walk_at "qq"
    refine ⟨p, _, rfl, hP2, by rw [List.length_map]; omega, by rw [List.length_map]; omega, fun ri H3 r0 r1 e3 hP3 => ?_⟩
    rw [List.length_map] at r1
    obtain ⟨r, rfl⟩ : ∃ r : Nat, ri = (r : Int) := ⟨ri.toNat, by omega⟩
    have rl : r < ls.length := by omega
    walk_at "qq"
    refine ⟨p, 12, rfl, hP3, by omega, by omega, fun m H4 m0 m1 e4 hP4 => ?_⟩
    have K4 : Kp p H H4 := (K2.trans e3).trans e4
    have f4 := e4 _ _ nlp (e3 _ _ nlp f2)
    walk_at "qq"
    refine alI fun l5 H5 n5 e5 f5 => ?_
    have m5 : l5 ≠ p := hP4.ne n5
    walk_at "qq"
    refine ⟨p, 2, rfl, hP4.ex e5, by omega, by omega, fun d6 H6 d60 d61 e6 hP6 => ?_⟩
    obtain ⟨sv, hsv, hsm⟩ := at_ex (xs := [V.str " \n0123456789-", V.str " \n0123456789-+/abcdefghijklmnopqrstuvwxyzABCDEFGHIJKLMNOPQRSTUVWXYZ.,;:!_~'"]) d60 (by show d6 < 2; omega)
    obtain ⟨ss, rfl, s1, s2⟩ : ∃ ss : Str, sv = .str ss ∧ 1 ≤ ss.length ∧ ss.length ≤ 100 := by
      simp only [List.mem_cons, List.not_mem_nil, or_false] at hsm
      rcases hsm with rfl | rfl <;> exact ⟨_, rfl, by decide +kernel, by decide +kernel⟩
    refine wIxL (SqL.of (e6 _ _ m5 f5)) hsv ?_
    clear hsv hsm f5
    have K6 : Kp p H H6 := (K4.trans e5.kp).trans e6
    have f6 := e6 _ _ nlp (e5 _ _ f4)
    walk_at "qq"
    refine wLenS (sz6 (by omega)) ?_
    walk_at "qq"
    refine ⟨p, _, rfl, hP6, by omega, by omega, fun d7 H7 d70 d71 e7 hP7 => ?_⟩
    obtain ⟨sg, hsg, _⟩ := at_ex (xs := ss.cps.toList) d70 (by rw [str_len]; omega)
    refine wIxS (sz6 (by omega)) hsg ?_
    have K7 : Kp p H H7 := K6.trans e7
    have f7 := e7 _ _ nlp f6
    clear f6 f4 f2 f1 e1 e2 e3 e4 e5 e6 e7 hP6 hP4 hP3 hP2 hP1
    have sg1 : ((⟨#[sg]⟩ : Str)).length = 1 := rfl
    have q1 := cutS_length z none (some at_)
    walk_at "qq"
    refine ite2 (fun c => ?_) (fun c => ?_)
    · have c : m < 3 := of_decide_eq_true c
      walk_at "qq"
      refine alI fun l8 H8 n8 e8 f8 => ?_
      obtain ⟨x, hx, hxm⟩ := at_ex (xs := [V.str ⟨#[sg]⟩, V.str "", V.str ⟨#[sg]⟩]) m0 (by show m < 3; omega)
      obtain ⟨xs, rfl, xl⟩ : ∃ xs : Str, x = .str xs ∧ xs.length ≤ 1 := by
        simp only [List.mem_cons, List.not_mem_nil, or_false] at hxm
        rcases hxm with rfl | rfl | rfl
        · exact ⟨_, rfl, by omega⟩
        · exact ⟨_, rfl, by decide +kernel⟩
        · exact ⟨_, rfl, by omega⟩
      walk_at "qq"
      refine wIxL (SqL.of f8) hx ?_
      walk_at "qq"
      refine alI fun l9 H9 n9 e9 f9 => ?_
      obtain ⟨o, ho, hom⟩ := at_ex (xs := [V.int 0, V.int 1, V.int 1]) m0 (by show m < 3; omega)
      obtain ⟨oi, rfl⟩ : ∃ oi, o = .int oi := by
        simp only [List.mem_cons, List.not_mem_nil, or_false] at hom
        rcases hom with rfl | rfl | rfl <;> exact ⟨_, rfl⟩
      walk_at "qq"
      refine wIxL (SqL.of f9) ho ?_
      have q2 := cutS_length z (some (at_ + oi)) none
      walk_at "qq"
      exact k _ _ ((K7.trans e8.kp).trans e9.kp) ((hP7.ex e8).ex e9) (by simp only [app_len]; omega)
    · walk_at "qq"
      refine ite2 (fun c3 => ?_) (fun c3 => ?_)
      · have c3 : m = 3 := V.int.inj (of_decide_eq_true c3)
        walk_at "qq"
        refine wSlL (SqL.of f7) (alI fun l8 H8 n8 e8 f8 => ?_)
        rw [cv_pre] at f8
        walk_at "qq"
        rw [show ((r : Nat) : Int) + 1 = ((r + 1 : Nat) : Int) from rfl]
        refine wSlL (SqL.of (e8 _ _ f7)) (alI fun l9 H9 n9 e9 f9 => ?_)
        rw [cv_mid] at f9
        have t1 : ((ls.drop r).take 1).length ≤ 1 := by rw [List.length_take]; omega
        have t2 : (ls.take r).length ≤ ls.length := by rw [List.length_take]; omega
        have t3 : (ls.drop r).length ≤ ls.length := by rw [List.length_drop]; omega
        refine wCatL (e9 _ _ f8) f9 (by rw [List.length_map, List.length_map]; omega) fun l10 H10 e10 f10 n10 => ?_
        walk_at "qq"
        refine wSlL (SqL.of ((e8.trans (e9.trans e10)) _ _ f7)) (alI fun l11 H11 n11 e11 f11 => ?_)
        rw [cv_suf] at f11
        refine wCatL (e11 _ _ f10) f11 (by simp only [List.length_append, List.length_map]; omega) fun l12 H12 e12 f12 n12 => ?_
        have EE := (e8.trans (e9.trans e10)).trans (e11.trans e12)
        walk_at "qq"
        refine fin (ls.take r ++ (ls.drop r).take 1 ++ ls.drop r) l12 H12 (by rw [List.map_append, List.map_append]; exact f12) ?_ (K7.trans EE.kp) (hP7.ex EE)
        have w1 := Wt.td r ls
        have w2 := Wt.mid r ls
        rw [Wt.app, Wt.app]
        omega
      · walk_at "qq"
        refine ite2 (fun c4 => ?_) (fun c4 => ?_)
        · walk_at "qq"
          refine wSlL (SqL.of f7) (alI fun l8 H8 n8 e8 f8 => ?_)
          rw [cv_pre] at f8
          walk_at "qq"
          rw [show ((r : Nat) : Int) + 1 = ((r + 1 : Nat) : Int) from rfl]
          refine wSlL (SqL.of (e8 _ _ f7)) (alI fun l9 H9 n9 e9 f9 => ?_)
          rw [cv_suf] at f9
          have t2 : (ls.take r).length ≤ ls.length := by rw [List.length_take]; omega
          have t3 : (ls.drop (r + 1)).length ≤ ls.length := by rw [List.length_drop]; omega
          refine wCatL (e9 _ _ f8) f9 (by rw [List.length_map, List.length_map]; omega) fun l10 H10 e10 f10 n10 => ?_
          have EE := e8.trans (e9.trans e10)
          walk_at "qq"
          refine fin (ls.take r ++ ls.drop (r + 1)) l10 H10 (by rw [List.map_append]; exact f10) ?_ (K7.trans EE.kp) (hP7.ex EE)
          have w1 := Wt.td r ls
          have w2 := Wt.mid r ls
          rw [Wt.app]
          omega
        · walk_at "qq"
          refine ite2 (fun c5 => ?_) (fun c5 => ?_)
          · walk_at "qq"
            rw [show ((r : Nat) : Int) + 1 = ((r + 1 : Nat) : Int) from rfl]
            try rw [show ((r : Nat) : Int) + 2 = ((r + 1 + 1 : Nat) : Int) from rfl]
            refine wSlL (SqL.of f7) (alI fun l8 H8 n8 e8 f8 => ?_)
            rw [cv_mid] at f8
            walk_at "qq"
            rw [show ((r : Nat) : Int) + 1 = ((r + 1 : Nat) : Int) from rfl]
            refine wSlL (SqL.of (e8 _ _ f7)) (alI fun l9 H9 n9 e9 f9 => ?_)
            rw [cv_mid] at f9
            have t1 : ((ls.drop r).take 1).length ≤ 1 := by rw [List.length_take]; omega
            have t2 : ((ls.drop (r + 1)).take 1).length ≤ 1 := by rw [List.length_take]; omega
            refine wCatL (e9 _ _ f8) f9 (by rw [List.length_map, List.length_map]; omega) fun l10 H10 e10 f10 n10 => ?_
            have E10 := e8.trans (e9.trans e10)
            have f710 := E10 _ _ f7
            walk_at "qq"
            refine wSlL (SqL.of f710) (alI fun l11 H11 n11 e11 f11 => ?_)
            rw [cv_pre] at f11
            have t3 : (ls.take r).length ≤ ls.length := by rw [List.length_take]; omega
            walk_at "qq"
            refine wCatL f11 (e11 _ _ f10) (by simp only [List.length_append, List.length_map]; omega) fun l12 H12 e12 f12 n12 => ?_
            walk_at "qq"
            rw [show ((r : Nat) : Int) + 2 = ((r + 1 + 1 : Nat) : Int) from rfl]
            refine wSlL (SqL.of ((e11.trans e12) _ _ f710)) (alI fun l13 H13 n13 e13 f13 => ?_)
            rw [cv_suf] at f13
            have t4 : (ls.drop (r + 1 + 1)).length ≤ ls.length := by rw [List.length_drop]; omega
            refine wCatL (e13 _ _ f12) f13 (by simp only [List.length_append, List.length_map]; omega) fun l14 H14 e14 f14 n14 => ?_
            have EE := E10.trans ((e11.trans e12).trans (e13.trans e14))
            walk_at "qq"
            refine fin (ls.take r ++ ((ls.drop (r + 1)).take 1 ++ (ls.drop r).take 1) ++ ls.drop (r + 1 + 1)) l14 H14 (by rw [List.map_append, List.map_append, List.map_append]; exact f14) ?_ (K7.trans EE.kp) (hP7.ex EE)
            have w1 := Wt.td r ls
            have w2 := Wt.mid r ls
            have w3 := Wt.mid (r + 1) ls
            rw [Wt.app, Wt.app, Wt.app]
            omega
          · have m6 : 6 ≤ m := by
              have a3 : ¬ m < 3 := fun q => c (decide_eq_true q)
              have b3 : m ≠ 3 := fun q => c3 (decide_eq_true (by rw [q]))
              have b4 : m ≠ 4 := fun q => c4 (decide_eq_true (by rw [q]))
              have b5 : m ≠ 5 := fun q => c5 (decide_eq_true (by rw [q]))
              omega
            clear c c3 c4 c5
            walk_at "qq"
            obtain ⟨ln, hln⟩ : ∃ ln, ls[r]? = some ln := ⟨_, List.getElem?_eq_getElem rl⟩
            have lnl := Wt.mem (List.mem_of_getElem? hln)
            refine wIxL (SqL.of f7) (at_of (j := r) rfl (by rw [List.getElem?_map, hln]; rfl)) ?_
            refine ⟨⟨_, rfl⟩, ?_⟩
            walk_at "qq"
            refine ⟨_, _, rfl, rfl, rfl, sz6 (by omega), fun l8 n8 => ?_⟩
            have wtw := sp_wt ln
            have new := (sp_sum ln).1
            generalize Txt.split ln (Str.ofString " ") = ws at wtw new ⊢
            have e8 : Ex H7 (upd H7 l8 (.lst (ws.map V.str))) := Ex.new n8
            have f8 : (upd H7 l8 (.lst (ws.map V.str))) l8 = some (.lst (ws.map V.str)) := upd_same
            have m8 : l8 ≠ p := hP7.ne n8
            generalize upd H7 l8 (.lst (ws.map V.str)) = H8 at e8 f8 ⊢
            have wpos : 0 < ws.length := List.length_pos_iff.mpr new
            have wlen : ws.length ≤ z.length + 1 := by unfold Wt at wtw; omega
            walk_at "qq"
            refine wLenL (SqL.of f8) ?_
            walk_at "qq"
            refine ⟨p, _, rfl, hP7.ex e8, by rw [List.length_map]; omega, by rw [List.length_map]; omega, fun ni H9 a90 a91 e9 hP9 => ?_⟩
            rw [List.length_map] at a91
            obtain ⟨n, rfl⟩ : ∃ n : Nat, ni = (n : Int) := ⟨ni.toNat, by omega⟩
            have nw : n < ws.length := by omega
            have K9 : Kp p H H9 := (K7.trans e8.kp).trans e9
            have f9 := e9 _ _ m8 f8
            have g9 := e9 _ _ nlp (e8 _ _ f7)
            clear e8 f8 f7 K7 hP7
            walk_at "qq"
            refine ⟨_, 40, rfl, rfl, by decide, by decide, by decide +kernel, by decide +kernel, fun u hu => ?_⟩
            have ul := rep_len hu
            have o1 : ((Str.ofString "1")).length = 1 := by decide +kernel
            rw [o1] at ul
            clear hu
            walk_at "qq"
            refine alI fun l10 H10 n10 e10 f10 => ?_
            walk_at "qq"
            refine alI fun l11 H11 n11 e11 f11 => ?_
            refine wCatL (e11 _ _ f10) f11 (by simp) fun l12 H12 e12 f12 n12 => ?_
            have E12 := (e10.trans e11).trans e12
            walk_at "qq"
            refine wLenL (SqL.of (E12 _ _ f9)) ?_
            walk_at "qq"
            refine ⟨_, _, rfl, rfl, by rw [List.length_map]; omega, ?_⟩
            obtain ⟨wa, hwa, hma⟩ := at_ex (xs := ws) (i := 1 % ((ws.length : Nat) : Int)) (Int.emod_nonneg _ (by omega)) (Int.emod_lt_of_pos _ (by omega))
            have hwa : atI (ws.map V.str) (1 % (((ws.map V.str).length : Nat) : Int)) = some (.str wa) := by
              rw [List.length_map]
              have q0 : 0 ≤ 1 % ((ws.length : Nat) : Int) := Int.emod_nonneg _ (by omega)
              have q1 : 1 % ((ws.length : Nat) : Int) < (ws.length : Int) := Int.emod_lt_of_pos _ (by omega)
              obtain ⟨j, hj⟩ : ∃ j : Nat, 1 % ((ws.length : Nat) : Int) = (j : Int) := ⟨(1 % ((ws.length : Nat) : Int)).toNat, by omega⟩
              rw [hj] at hwa ⊢
              have jl : j < ws.length := by omega
              rw [at_nat (List.getElem?_eq_getElem jl)] at hwa
              rw [at_nat (v := V.str ws[j]) (by rw [List.getElem?_map, List.getElem?_eq_getElem jl]; rfl), Option.some.inj hwa]
            refine wIxL (SqL.of (E12 _ _ f9)) hwa ?_
            walk_at "qq"
            obtain ⟨w0, hw0⟩ : ∃ w0, ws[0]? = some w0 := ⟨_, List.getElem?_eq_getElem wpos⟩
            refine wIxL (SqL.of (E12 _ _ f9)) (at_of (j := 0) rfl (by rw [List.getElem?_map, hw0]; rfl)) ?_
            have wal := Wt.mem hma
            have w0l := Wt.mem (List.mem_of_getElem? hw0)
            clear hwa hma
            walk_at "qq"
            refine alI fun l13 H13 n13 e13 f13 => ?_
            refine wCatL (e13 _ _ f12) f13 (by simp) fun l14 H14 e14 f14 n14 => ?_
            have E14 := E12.trans (e13.trans e14)
            have hP14 := hP9.ex E14
            have m14 : l14 ≠ p := (hP9.ex (E12.trans e13)).ne n14
            have K14 := K9.trans E14.kp
            have f914 := E14 _ _ f9
            have g914 := E14 _ _ g9
            clear E14 E12 e10 e11 e12 e13 e14 f10 f11 f12 f13 f9 g9 K9 hP9
            walk_at "qq"
            refine ⟨p, 22, rfl, hP14, by omega, by omega, fun d15 H15 d150 d151 e15 hP15 => ?_⟩
            have lc : ∀ q : Str, q.length ≤ 9 → q.length ≤ ln.length + 40 := fun q h => by omega
            obtain ⟨zs, z14, z22, zall⟩ : ∃ zs : List V, H14 l14 = some (.lst zs) ∧ zs.length = 22 ∧ ∀ xv ∈ zs, ∃ x : Str, xv = .str x ∧ x.length ≤ ln.length + 40 := by
              refine ⟨_, f14, rfl, ?_⟩
              intro xv hxm
              simp only [List.cons_append, List.nil_append, List.mem_cons, List.not_mem_nil, or_false] at hxm
              rcases hxm with rfl | rfl | rfl | rfl | rfl | rfl | rfl | rfl | rfl | rfl | rfl | rfl | rfl | rfl | rfl | rfl | rfl | rfl | rfl | rfl | rfl | rfl
              · refine ⟨_, rfl, lc _ ?_⟩
                decide +kernel
              · refine ⟨_, rfl, lc _ ?_⟩
                decide +kernel
              · refine ⟨_, rfl, lc _ ?_⟩
                decide +kernel
              · refine ⟨_, rfl, lc _ ?_⟩
                decide +kernel
              · refine ⟨_, rfl, lc _ ?_⟩
                decide +kernel
              · refine ⟨_, rfl, lc _ ?_⟩
                decide +kernel
              · refine ⟨_, rfl, lc _ ?_⟩
                decide +kernel
              · refine ⟨_, rfl, lc _ ?_⟩
                decide +kernel
              · refine ⟨_, rfl, ?_⟩
                omega
              · refine ⟨_, rfl, lc _ ?_⟩
                decide +kernel
              · refine ⟨_, rfl, lc _ ?_⟩
                decide +kernel
              · refine ⟨_, rfl, lc _ ?_⟩
                decide +kernel
              · refine ⟨_, rfl, lc _ ?_⟩
                decide +kernel
              · refine ⟨_, rfl, lc _ ?_⟩
                decide +kernel
              · refine ⟨_, rfl, lc _ ?_⟩
                decide +kernel
              · refine ⟨_, rfl, lc _ ?_⟩
                decide +kernel
              · refine ⟨_, rfl, lc _ ?_⟩
                decide +kernel
              · refine ⟨_, rfl, lc _ ?_⟩
                decide +kernel
              · refine ⟨_, rfl, lc _ ?_⟩
                decide +kernel
              · refine ⟨_, rfl, ?_⟩
                omega
              · refine ⟨_, rfl, ?_⟩
                omega
              · refine ⟨_, rfl, lc _ ?_⟩
                decide +kernel
            clear f14
            have f14 := z14
            obtain ⟨xv, hxv, hxm⟩ := at_ex (xs := zs) d150 (by omega)
            obtain ⟨x, rfl, xl⟩ := zall xv hxm
            refine wIxL (SqL.of (e15 _ _ m14 f14)) hxv ?_
            have f15 := e15 _ _ m8 f914
            have g15 := e15 _ _ nlp g914
            have K15 := K14.trans e15
            clear hxv hxm f14 f914 g914 e15 K14 hP14
            walk_at "qq"
            refine alI fun l16 H16 n16 e16 f16 => ?_
            walk_at "qq"
            refine alI fun l17 H17 n17 e17 f17 => ?_
            walk_at "qq"
            rw [show ((n : Nat) : Int) + 1 = ((n + 1 : Nat) : Int) from rfl]
            refine wSlL (SqL.of ((e16.trans e17) _ _ f15)) (alI fun l18 H18 n18 e18 f18 => ?_)
            rw [cv_mid] at f18
            walk_at "qq"
            refine ⟨l18, 2, _, rfl, rfl, f18, by decide, by decide, sz6 (by rw [List.length_map, List.length_take]; show min 1 _ * 2 ≤ _; omega), fun l19 n19 => ?_⟩
            obtain ⟨w, hw⟩ : ∃ w, ws[n]? = some w := ⟨_, List.getElem?_eq_getElem nw⟩
            have wl := Wt.mem (List.mem_of_getElem? hw)
            have et : (ws.drop n).take 1 = [w] := by
              rw [List.drop_eq_getElem_cons nw]
              rw [List.getElem?_eq_getElem nw] at hw
              rw [Option.some.inj hw]
              rfl
            have e19 : Ex H18 (upd H18 l19 (.lst (List.replicate (Int.toNat 2) (((ws.drop n).take 1).map V.str)).flatten)) := Ex.new n19
            have f19 : (upd H18 l19 (.lst (List.replicate (Int.toNat 2) (((ws.drop n).take 1).map V.str)).flatten)) l19 = some (.lst ([w, w].map V.str)) := by
              rw [upd_same, et]
              rfl
            generalize upd H18 l19 (.lst (List.replicate (Int.toNat 2) (((ws.drop n).take 1).map V.str)).flatten) = H19 at e19 f19 ⊢
            walk_at "qq"
            refine alI fun l20 H20 n20 e20 f20 => ?_
            walk_at "qq"
            refine alI fun l21 H21 n21 e21 f21 => ?_
            walk_at "qq"
            obtain ⟨jv, hjv, hjm⟩ := at_ex (xs := [V.int 0, V.int 0, V.int 0, V.int 0, V.int 1, V.int 2]) (i := m - 6) (by omega) (by show m - 6 < 6; omega)
            refine wIxL (SqL.of f21) hjv ?_
            have E1721 := e17.trans (e18.trans (e19.trans (e20.trans e21)))
            have fr : ∃ (fa : Addr) (fs : List Str), (∃ ji, jv = .int ji ∧ atI [V.ref l16, V.ref l17, V.ref l19] ji = some (.ref fa)) ∧ H21 fa = some (.lst (fs.map V.str)) ∧ fs.length ≤ 2 ∧ Wt (ws.take n) + Wt fs + Wt (ws.drop (n + 1)) ≤ 2 * ln.length + 45 := by
              have w1 := Wt.td n ws
              have w2 := Wt.mid n ws
              rw [et] at w2
              have ww : Wt [w] = w.length + 1 := by
                unfold Wt
                simp
              have ww2 : Wt [w, w] = 2 * (w.length + 1) := by
                unfold Wt
                simp
                omega
              have wx : Wt [x] = x.length + 1 := by
                unfold Wt
                simp
              have w0 : Wt [] = 0 := rfl
              simp only [List.mem_cons, List.not_mem_nil, or_false] at hjm
              have A0 : H21 l16 = some (.lst ([x].map V.str)) := E1721 _ _ f16
              have A1 : H21 l17 = some (.lst (([] : List Str).map V.str)) := (e18.trans (e19.trans (e20.trans e21))) _ _ f17
              have A2 : H21 l19 = some (.lst ([w, w].map V.str)) := (e20.trans e21) _ _ f19
              rcases hjm with rfl | rfl | rfl | rfl | rfl | rfl
              · exact ⟨l16, [x], ⟨0, rfl, rfl⟩, A0, by simp, by rw [wx]; omega⟩
              · exact ⟨l16, [x], ⟨0, rfl, rfl⟩, A0, by simp, by rw [wx]; omega⟩
              · exact ⟨l16, [x], ⟨0, rfl, rfl⟩, A0, by simp, by rw [wx]; omega⟩
              · exact ⟨l16, [x], ⟨0, rfl, rfl⟩, A0, by simp, by rw [wx]; omega⟩
              · exact ⟨l17, [], ⟨1, rfl, rfl⟩, A1, by simp, by rw [w0]; omega⟩
              · exact ⟨l19, [w, w], ⟨2, rfl, rfl⟩, A2, by simp, by rw [ww2]; omega⟩
            obtain ⟨fa, fs, ⟨ji, rfl, hji⟩, ffa, fsl, fsw⟩ := fr
            refine wIxL (SqL.of (e21 _ _ f20)) hji ?_
            have E21 := e16.trans E1721
            have f2121 := E21 _ _ f15
            have g2121 := E21 _ _ g15
            have K21 := K15.trans E21.kp
            have hP21 := hP15.ex E21
            clear hjv hjm hji E21 E1721 e16 e17 e18 e19 e20 e21 f16 f17 f18 f19 f20 f21 f15 g15 K15 hP15 et wl hw
            walk_at "qq"
            refine wSlL (SqL.of f2121) (alI fun l22 H22 n22 e22 f22 => ?_)
            rw [cv_pre] at f22
            have t2 : (ws.take n).length ≤ ws.length := by rw [List.length_take]; omega
            have t3 : (ws.drop (n + 1)).length ≤ ws.length := by rw [List.length_drop]; omega
            walk_at "qq"
            refine wCatL f22 (e22 _ _ ffa) (by rw [List.length_map, List.length_map]; omega) fun l23 H23 e23 f23 n23 => ?_
            walk_at "qq"
            rw [show ((n : Nat) : Int) + 1 = ((n + 1 : Nat) : Int) from rfl]
            refine wSlL (SqL.of ((e22.trans e23) _ _ f2121)) (alI fun l24 H24 n24 e24 f24 => ?_)
            rw [cv_suf] at f24
            refine wCatL (e24 _ _ f23) f24 (by simp only [List.length_append, List.length_map]; omega) fun l25 H25 e25 f25 n25 => ?_
            have E25 := (e22.trans e23).trans (e24.trans e25)
            have g25 := E25 _ _ g2121
            walk_at "qq"
            have wt : Wt (ws.take n ++ fs ++ ws.drop (n + 1)) ≤ 2 * ln.length + 45 := by
              rw [Wt.app, Wt.app]
              omega
            refine ⟨_, _, ws.take n ++ fs ++ ws.drop (n + 1), rfl, rfl, .inl (SqL.of (by rw [List.map_append, List.map_append]; exact f25)), ?_, ?_⟩
            · rw [sp1]
              unfold Wt at wt
              omega
            have nll := Nat.le_trans (Wt.join sp1 (ws.take n ++ fs ++ ws.drop (n + 1))) wt
            generalize Txt.join (Str.ofString " ") (ws.take n ++ fs ++ ws.drop (n + 1)) = nln at nll ⊢
            walk_at "qq"
            have hix : ixN (ls.map V.str).length ((r : Nat) : Int) = some r := by
              unfold ixN
              rw [if_pos (by omega), if_pos (by rw [List.length_map]; omega), Int.toNat_natCast]
            refine wSetL g25 hix ?_
            walk_at "qq"
            have ws2 := Wt.set (n := nln) hln
            refine fin (ls.set r nln) l _ (by rw [upd_same, List.map_set]) (by omega) ((K21.trans E25.kp).mut nl) ((hP21.ex E25).upd nlp)
/-- a part of a deed -/
inductive Pt : V → Prop
  | s {z : Str} (h : Lw z) : Pt (.str z)
  | i {n : Nat} (h0 : 1 ≤ n) (h1 : n ≤ 9999) : Pt (.int (n : Int))
def partT : V → Str
  | .str z => z
  | .int i => toString i
  | _ => ⟨#[]⟩
theorem Pt.len {v : V} (h : Pt v) : 1 ≤ (partT v).length ∧ (partT v).length ≤ 8 := by
  cases h with
  | s h => exact h.l
  | i h0 h1 =>
    have := (numT_ok h0 h1).len
    exact ⟨this.1, Nat.le_trans this.2 (by decide)⟩
theorem Pt.signs {v : V} (h : Pt v) : ∀ c ∈ (partT v).cps.toList, 48 ≤ c := by
  cases h with
  | s h => exact fun c hc => Nat.le_trans (by decide) (h.sm c hc).1
  | i h0 h1 => exact fun c hc => ((numT_ok h0 h1).digits c hc).1
theorem pt_name {v : V} (h : nameV v = true) : Pt v := by
  cases v with
  | str z => exact .s (lw_name h)
  | _ => cases h
theorem lw_word {z : Str} {s : Str} (h : isW (.str z) s = true) (w : Lw s) : Lw z := by
  have e : z = s := V.str.inj (of_decide_eq_true h)
  rw [e]
  exact w
theorem pt_w {v : V} {s : Str} (h : isW v s = true) (w : Lw s) : Pt v := by
  have e : v = .str s := of_decide_eq_true h
  rw [e]
  exact .s w
theorem pt_hold {v : V} (h : holdV v = true) : Pt v := by
  unfold holdV at h
  rw [Bool.or_eq_true] at h
  rcases h with h | h
  · exact pt_name h
  · exact pt_w h (lw_of (by decide +kernel))
theorem pt_meas {v : V} (h : measV v = true) : Pt v := by
  cases v with
  | int i =>
    have h : (decide (1 ≤ i) && decide (i ≤ 9999)) = true := h
    rw [Bool.and_eq_true] at h
    have h0 := of_decide_eq_true h.1
    have h1 := of_decide_eq_true h.2
    obtain ⟨n, rfl⟩ : ∃ n : Nat, i = (n : Int) := ⟨i.toNat, by omega⟩
    exact .i (by omega) (by omega)
  | _ => cases h
/-- the parts of a deed -/
theorem deed_parts {xs : List V} (h : deedL xs = true) : (∀ x ∈ xs, Pt x) ∧ 2 ≤ xs.length ∧ xs.length ≤ 5 := by
  have wc : Lw "come" := lw_of (by decide +kernel)
  have wg : Lw "go" := lw_of (by decide +kernel)
  have wb : Lw "bring" := lw_of (by decide +kernel)
  have wf : Lw "forget" := lw_of (by decide +kernel)
  have wi : Lw "give" := lw_of (by decide +kernel)
  have wh : Lw "hand" := lw_of (by decide +kernel)
  unfold deedL at h
  rw [Bool.or_eq_true] at h
  rcases h with h | h
  · unfold shortL at h
    split at h
    · simp only [Bool.and_eq_true, Bool.or_eq_true] at h
      refine ⟨List.forall_mem_cons.mpr ⟨h.1.elim (pt_w · wc) (pt_w · wg), List.forall_mem_cons.mpr ⟨pt_name h.2, List.forall_mem_nil _⟩⟩, Nat.le_of_ble_eq_true rfl, Nat.le_of_ble_eq_true rfl⟩
    · simp only [Bool.and_eq_true] at h
      refine ⟨List.forall_mem_cons.mpr ⟨pt_w h.1.1.1 wb, List.forall_mem_cons.mpr ⟨pt_name h.1.1.2, List.forall_mem_cons.mpr ⟨pt_name h.1.2, List.forall_mem_cons.mpr ⟨pt_meas h.2, List.forall_mem_nil _⟩⟩⟩⟩, Nat.le_of_ble_eq_true rfl, Nat.le_of_ble_eq_true rfl⟩
    · cases h
  · unfold twoL at h
    split at h
    · simp only [Bool.and_eq_true, Bool.or_eq_true] at h
      refine ⟨List.forall_mem_cons.mpr ⟨h.2.elim (pt_w · wf) (fun q => pt_w q.1 wi), List.forall_mem_cons.mpr ⟨pt_name h.1.1.1.2, List.forall_mem_cons.mpr ⟨pt_hold h.1.1.2, List.forall_mem_cons.mpr ⟨pt_meas h.1.1.1.1, List.forall_mem_nil _⟩⟩⟩⟩, Nat.le_of_ble_eq_true rfl, Nat.le_of_ble_eq_true rfl⟩
    · simp only [Bool.and_eq_true] at h
      refine ⟨List.forall_mem_cons.mpr ⟨pt_w h.2.1.1 wh, List.forall_mem_cons.mpr ⟨pt_name h.1.1.1.2, List.forall_mem_cons.mpr ⟨pt_hold h.1.1.2, List.forall_mem_cons.mpr ⟨pt_name h.2.2, List.forall_mem_cons.mpr ⟨pt_meas h.1.1.1.1, List.forall_mem_nil _⟩⟩⟩⟩⟩, Nat.le_of_ble_eq_true rfl, Nat.le_of_ble_eq_true rfl⟩
    · cases h
def Deeds (pp : List (List V)) : Prop := (∀ xs ∈ pp, deedL xs = true) ∧ pp.length ≤ 60
def partD : V → PyData
  | .str z => .str z
  | .int i => .int i
  | _ => .none
def deedD (xs : List V) : PyData := .tuple (xs.map partD)
def bookD (pp : List (List V)) : PyData := .tuple (pp.map deedD)
theorem Pt.rp {H : Hp} {k : Nat} {v : V} (h : Pt v) : ∃ n, n ≤ 301 ∧ Rp H true k v (partD v) n := by
  cases h with
  | s h => exact ⟨_, by have := h.l.2; omega, .str _ fun c hc => Nat.lt_of_le_of_lt (h.sm c hc).2 (by decide +kernel)⟩
  | i h0 h1 => exact ⟨_, Nat.le_refl _, .int _ (Nat.lt_of_le_of_lt (by omega : _ ≤ 9999) (by decide +kernel))⟩
theorem parts_rp {H : Hp} {k : Nat} : ∀ {xs : List V}, (∀ x ∈ xs, Pt x) → ∃ n, n ≤ xs.length * 303 ∧ RpA H true k xs (xs.map partD) n
  | [], _ => ⟨_, Nat.zero_le _, .nil⟩
  | x :: xs, h => by
    obtain ⟨n, hn, r⟩ := (h x List.mem_cons_self).rp (H := H) (k := k)
    obtain ⟨m, hm, q⟩ := parts_rp (H := H) (k := k) (xs := xs) fun y hy => h y (List.mem_cons_of_mem _ hy)
    refine ⟨_, ?_, .cons r q⟩
    rw [List.length_cons]
    omega
theorem deed_rp {H : Hp} {k : Nat} {r : Addr} {xs : List V} (h : H r = some (.tup xs)) (d : deedL xs = true) : ∃ n, n ≤ 1519 ∧ Rp H true (k + 1) (.ref r) (deedD xs) n := by
  obtain ⟨p1, p2, p3⟩ := deed_parts d
  obtain ⟨n, hn, q⟩ := parts_rp (H := H) (k := k) p1
  exact ⟨_, by omega, .tup h q⟩
theorem dl_rp {H : Hp} {k : Nat} : ∀ {rs : List Addr} {pp : List (List V)}, Dl H rs pp → (∀ xs ∈ pp, deedL xs = true) → ∃ n, n ≤ pp.length * 1521 ∧ RpA H true (k + 1) (rs.map V.ref) (pp.map deedD) n
  | _, _, .nil, _ => ⟨_, Nat.zero_le _, .nil⟩
  | _, _, .cons (xs := xs) (pp := pp) h t, d => by
    obtain ⟨n, hn, r⟩ := deed_rp (k := k) h (d _ List.mem_cons_self)
    obtain ⟨m, hm, q⟩ := dl_rp (k := k) t fun y hy => d y (List.mem_cons_of_mem _ hy)
    refine ⟨_, ?_, .cons r q⟩
    rw [List.length_cons]
    omega
theorem bk_rp {H : Hp} {a : Addr} {pp : List (List V)} (h : Bk H a pp) (d : Deeds pp) : ∃ n, n ≤ 10000000 ∧ Rp H true 64 (.ref a) (bookD pp) n := by
  obtain ⟨rs, ha, dl⟩ := h
  obtain ⟨n, hn, q⟩ := dl_rp (k := 62) dl d.1
  have := d.2
  exact ⟨_, by omega, .tup ha q⟩

theorem fb_none : ∀ {ls : List Str} {k : Nat}, fb k ls = none → (∀ l ∈ ls, goodLn l = true) ∧ (ls ≠ [] → k + ls.length ≤ 60)
  | [], _, _ => ⟨fun _ h => (by cases h), fun h => absurd rfl h⟩
  | x :: r, k, h => by
    unfold fb at h
    split at h
    · rename_i c
      rw [Bool.and_eq_true] at c
      obtain ⟨q1, q2⟩ := fb_none h
      refine ⟨List.forall_mem_cons.mpr ⟨c.1, q1⟩, fun _ => ?_⟩
      have k60 := of_decide_eq_true c.2
      rw [List.length_cons]
      cases r with
      | nil =>
        rw [List.length_nil]
        omega
      | cons y r =>
        have := q2 (List.cons_ne_nil _ _)
        omega
    · cases h
theorem fb_deeds {z : Str} (h : fb 0 (linesOf z) = none) : Deeds (ppOf z) := by
  obtain ⟨q1, q2⟩ := fb_none h
  refine ⟨fun xs hx => ?_, ?_⟩
  · obtain ⟨l, hl, rfl⟩ := List.mem_map.mp hx
    exact q1 l hl
  · unfold ppOf
    rw [List.length_map]
    by_cases e : linesOf z = []
    · rw [e]
      exact Nat.zero_le _
    · have := q2 e
      omega
def toldD (z : Str) : PyData := match fb 0 (linesOf z) with
  | none => .list [.str "told", bookD (ppOf z)]
  | some i => .list [.str "text", .int (i : Int)]
theorem told_rp {H : Hp} {l : Addr} {z : Str} (hz : z.length ≤ 30000) (h : ToldT H l z) : ∃ n, n ≤ 10000000 ∧ Rp H true 64 (.ref l) (toldD z) n := by
  unfold toldD
  rcases h with ⟨f, t, h1, rs, h2, dl⟩ | ⟨i, f, h⟩
  · rw [f]
    have hd := fb_deeds f
    obtain ⟨n, hn, q⟩ := dl_rp (k := 61) dl hd.1
    have := hd.2
    have s1 : ((Str.ofString "told")).length = 4 := by decide +kernel
    exact ⟨_, by rw [s1]; omega, .lst rfl h1 (.cons (.str _ (signs_ok (by decide +kernel))) (.cons (.tup h2 q) .nil))⟩
  · rw [f]
    have := fb_lt f
    have lm := lines_many z
    have s1 : ((Str.ofString "text")).length = 4 := by decide +kernel
    exact ⟨_, by rw [s1]; omega, .lst rfl h (.cons (.str _ (signs_ok (by decide +kernel))) (.cons (.int _ (Nat.lt_of_le_of_lt (by omega : ((i : Nat) : Int).natAbs ≤ 40000) (by decide +kernel))) .nil))⟩
theorem cmp_text {H : Hp} {l : Addr} (h : H l = some (.lst [.str "text", .non])) : Cmp H (.ref l) (.list [.str "text", .none]) :=
  ⟨.lst h (.cons (.str _) (.cons .non .nil)), by simp [PyData.plain, PyData.plainAll], by simp [PyData.depth, PyData.depthAll]⟩
def spLaw (K : PySem.W.Frag) : Sp := fun vs H Q _ => ∃ (a : Addr) (ns : List Int), vs = [.ref a] ∧ SqL K H a (ns.map V.int) ∧ ns.length ≤ 63 ∧ ∀ H', Q (.bl true) H'
theorem ok_law (T : Tx P K mg A) {f : Addr} {fd : FuncData} (F : Fun K "law" "law" s_law f fd) : FnQ P w K mg base CX0 8 f fd ["_law_script"] (spLaw K) := by
  refine okQ F sc_law (fun vs H Q E h => ?_) (fun cdv A' outer s H vs Q E hq h => ?_)
  · obtain ⟨a, ns, rfl, _⟩ := h
    rfl
  · obtain ⟨a, ns, rfl, hS, hlen, k⟩ := h
    have hr := hq.room
    refine ⟨_, (pss_cons (ps_for PassesOwn.never rfl (pi_listV (K := K) rfl (pe_lst (pa_cons pe_non (pa_cons pe_int (pa_cons pe_bl (pa_cons (pe_tup pa_nil) (pa_cons (pe_lst pa_nil) (pa_cons pe_dnewK (pa_cons (pe_tup (pa_cons pe_str pa_nil)) (pa_cons (pe_lst (pa_cons pe_str pa_nil)) (pa_cons (pe_tup (pa_cons (pe_lst pa_nil) pa_nil)) (pa_cons pe_int pa_nil)))))))))))) (pg_name (i := 1) sc_law.nd rfl (Or.inl rfl))
    (pss_one (ps_if (pt_cmpR (op_neD hr.units) (pe_call (ok_Ltold T) (hr.mono (by decide)) (by rfl) T.g_Ltold T.F_Ltold.kp T.b_Ltold .nil pass0 (pa_cons (pv 1) pa_nil)) (pe_lst (pa_cons pe_str (pa_cons pe_non pa_nil))) (nomark _))
      (pss_one (ps_ret pe_bl))
      pss_nil)))
    (pss_cons (ps_for PassesOwn.never rfl (pi_range1 (by rfl) T.m_range (pa_cons (pe_callB (call_max2 rfl) (by rfl) T.m_max (by decide +kernel) (pa_cons pe_int (pa_cons (pe_callB (call_min2 rfl) (by rfl) T.m_min (by decide +kernel) (pa_cons (pe_callB (call_lenV (K := K) rfl) (by rfl) T.m_len (by decide +kernel) (pa_cons (pv 0) pa_nil)) (pa_cons pe_int pa_nil))) pa_nil))) pa_nil)) (pg_name (i := 2) sc_law.nd rfl (Or.inl rfl))
    (pss_cons (ps_set (i := 3) sc_law.nd rfl (Or.inr rfl) (pe_call (ok_Lpool T) (hr.mono (by decide)) (by rfl) T.g_Lpool T.F_Lpool.kp T.b_Lpool .nil pass0 (pa_cons (pe_call (ok_Lcell T) (hr.mono (by decide)) (by rfl) T.g_Lcell T.F_Lcell.kp T.b_Lcell .nil pass0 (pa_cons (pv 0) (pa_cons (pv 2) pa_nil))) pa_nil)))
      (pss_cons (ps_set (i := 4) sc_law.nd rfl (Or.inr rfl) (pe_call (ok_Lnames T) (hr.mono (by decide)) (by rfl) T.g_Lnames T.F_Lnames.kp T.b_Lnames .nil pass0 (pa_cons (pv 3) (pa_cons (pe_op op_add pe_int (pe_call (ok_Ltake T) (hr.mono (by decide)) (by rfl) T.g_Ltake T.F_Ltake.kp T.b_Ltake .nil pass0 (pa_cons (pv 3) (pa_cons pe_int pa_nil)))) pa_nil))))
      (pss_cons (ps_set (i := 5) sc_law.nd rfl (Or.inl rfl) (pe_ix (ix_listV (K := K) rfl) (pe_lst (pa_cons (pe_call (ok_Ltake T) (hr.mono (by decide)) (by rfl) T.g_Ltake T.F_Ltake.kp T.b_Ltake .nil pass0 (pa_cons (pv 3) (pa_cons pe_int pa_nil))) (pa_cons pe_int (pa_cons pe_int pa_nil)))) (pe_ix (ix_listV (K := K) rfl) (pe_lst (pa_cons pe_int (pa_cons pe_int (pa_cons pe_int (pa_cons pe_int (pa_cons pe_int (pa_cons pe_int (pa_cons pe_int (pa_cons pe_int pa_nil))))))))) (pe_call (ok_Ltake T) (hr.mono (by decide)) (by rfl) T.g_Ltake T.F_Ltake.kp T.b_Ltake .nil pass0 (pa_cons (pv 3) (pa_cons pe_int pa_nil))) (fun _ _ => rfl)) (fun _ _ => rfl)))
      (pss_cons (ps_set (i := 6) sc_law.nd rfl (Or.inl rfl) (pe_joinV (K := K) rfl pe_str (pe_lc rfl sc_law.nd (g := gName 8) (pi_range1 (by rfl) T.m_range (pa_cons (pv 5) pa_nil)) (blkOk_by (own := [("_law_turn", 8)]) (N := ["_law_script", "_law_matter", "_law_k", "_law_pool_here", "_law_names_here", "_law_many", "_law_good", "_law_texts", "_law_turn", "_law_text", "_law_due_here"]) (sc := defScope s_law) (by decide +kernel)) (fun _ _ _ _ _ => (pg_name (i := 8) sc_law.nd rfl (Or.inl rfl))) (fun _ _ _ _ _ => pts_nil) (fun _ _ _ _ _ => (pe_call (ok_Lline T) (hr.mono (by decide)) (by rfl) T.g_Lline T.F_Lline.kp T.b_Lline .nil pass0 (pa_cons (pv 3) (pa_cons (pv 4) pa_nil)))))))
      (pss_cons (ps_set (i := 7) sc_law.nd rfl (Or.inl rfl) (pe_lst (pa_cons (pv 6) (pa_cons (pe_op op_add_str (pv 6) pe_str) (pa_cons (pe_op op_add_str pe_str (pv 6)) pa_nil)))))
      (pss_cons (ps_for PassesOwn.never rfl (pi_range1 (by rfl) T.m_range (pa_cons (pe_ix (ix_listV (K := K) rfl) (pe_lst (pa_cons pe_int (pa_cons pe_int pa_nil))) (pe_callTy call_int1 (by rfl) T.m_int (by decide +kernel) (pa_cons (pe_cmpR op_gt (pv 5) pe_int (nomark _)) pa_nil)) (fun _ _ => rfl)) pa_nil)) (pg_name (i := 8) sc_law.nd rfl (Or.inl rfl))
      (pss_cons (ps_set (i := 9) sc_law.nd rfl (Or.inl rfl) (pe_call (ok_Lspoilt T) (hr.mono (by decide)) (by rfl) T.g_Lspoilt T.F_Lspoilt.kp T.b_Lspoilt .nil pass0 (pa_cons (pv 3) (pa_cons (pv 6) pa_nil))))
        (pss_one (ps_set (i := 7) sc_law.nd rfl (Or.inl rfl) (pe_op op_cat (pv 7) (pe_lst (pa_cons (pv 9) (pa_cons (pe_call (ok_Lspoilt T) (hr.mono (by decide)) (by rfl) T.g_Lspoilt T.F_Lspoilt.kp T.b_Lspoilt .nil pass0 (pa_cons (pv 3) (pa_cons (pv 9) pa_nil))) pa_nil))))))))
      (pss_one (ps_for PassesOwn.never rfl (pi_listV (K := K) rfl (pv 7)) (pg_name (i := 9) sc_law.nd rfl (Or.inl rfl))
      (pss_cons (ps_set (i := 10) sc_law.nd rfl (Or.inl rfl) (pe_call (ok_Ldue T) (hr.mono (by decide)) (by rfl) T.g_Ldue T.F_Ldue.kp T.b_Ldue .nil pass0 (pa_cons (pv 9) pa_nil)))
        (pss_one (ps_if (PW.pt (pw_or (pt_cmpR op_ne (pe_callB (call_repr hq) (by rfl) T.m_repr (by decide +kernel) (pa_cons (pe_call (ok_Ltold T) (hr.mono (by decide)) (by rfl) T.g_Ltold T.F_Ltold.kp T.b_Ltold .nil pass0 (pa_cons (pv 9) pa_nil)) pa_nil)) (pe_callB (call_repr hq) (by rfl) T.m_repr (by decide +kernel) (pa_cons (pv 10) pa_nil)) (nomark _)) (pw_or1 (pt_cmpR op_ne (pe_callB (call_repr hq) (by rfl) T.m_repr (by decide +kernel) (pa_cons (pe_call (ok_Ltold T) (hr.mono (by decide)) (by rfl) T.g_Ltold T.F_Ltold.kp T.b_Ltold .nil pass0 (pa_cons (pv 9) pa_nil)) pa_nil)) (pe_callB (call_repr hq) (by rfl) T.m_repr (by decide +kernel) (pa_cons (pv 10) pa_nil)) (nomark _)))))
        (pss_one (ps_ret pe_bl))
        pss_nil))))))))))))
    (pss_one (ps_ret pe_bl)))), ?_⟩
    walk_at "ww"
    refine alI fun t1 H1 n1 e1 f1 => ?_
    walk_at "ww"
    refine alI fun l2 H2 n2 e2 f2 => ?_
    walk_at "ww"
    refine alI fun d3 H3 n3 e3 f3 => ?_
    walk_at "ww"
    refine alI fun t4 H4 n4 e4 f4 => ?_
    walk_at "ww"
    refine alI fun l5 H5 n5 e5 f5 => ?_
    walk_at "ww"
    refine alI fun l6 H6 n6 e6 f6 => ?_
    walk_at "ww"
    refine alI fun t7 H7 n7 e7 f7 => ?_
    walk_at "ww"
    refine alI fun l8 H8 n8 e8 f8 => ?_
    have odd : ∀ x ∈ [V.non, V.int 0, V.bl true, V.ref t1, V.ref l2, V.ref d3, V.ref t4, V.ref l5, V.ref t7, V.int 7], (∃ n, Ty K H8 x n) ∧ isStr x = false := by
      intro x hx
      simp only [List.mem_cons, List.not_mem_nil, or_false] at hx
      rcases hx with rfl | rfl | rfl | rfl | rfl | rfl | rfl | rfl | rfl | rfl
      · exact ⟨⟨_, .non⟩, rfl⟩
      · exact ⟨⟨_, .int 0⟩, rfl⟩
      · exact ⟨⟨_, .bl true⟩, rfl⟩
      · exact ⟨⟨_, .tup (by walk_at "lk")⟩, rfl⟩
      · exact ⟨⟨_, .lst (by walk_at "lk")⟩, rfl⟩
      · exact ⟨⟨_, .dK (by walk_at "lk")⟩, rfl⟩
      · exact ⟨⟨_, .tup (by walk_at "lk")⟩, rfl⟩
      · exact ⟨⟨_, .lst (by walk_at "lk")⟩, rfl⟩
      · exact ⟨⟨_, .tup (by walk_at "lk")⟩, rfl⟩
      · exact ⟨⟨_, .int 7⟩, rfl⟩
    have E8 : Ex H H8 := ((((((e1.trans e2).trans e3).trans e4).trans e5).trans e6).trans e7).trans e8
    clear e1 e2 e3 e4 e5 e6 e7 e8 f1 f2 f3 f4 f5 f6 f7 n1 n2 n3 n4 n5 n6 n7 n8
    generalize [V.non, V.int 0, V.bl true, V.ref t1, V.ref l2, V.ref d3, V.ref t4, V.ref l5, V.ref t7, V.int 7] = xs at f8 odd
    walk_at "ww"
    refine exSq (SqL.of f8) ?_
    refine for_list (K := K) (a := l8) (xs := xs) (fun i σ H2 => ∃ v1, σ = [some (.ref a), v1, none, none, none, none, none, none, none, none, none] ∧ Ex H8 H2) ⟨_, rfl, Ex.refl _⟩ (fun i σ H2 _ ⟨_, _, e⟩ => SqL.of (e _ _ f8)) ?_ ?_
    · rintro i y σ H9 hi ⟨v1, rfl, e9⟩
      obtain ⟨⟨n, ty⟩, ns⟩ := odd y (List.mem_of_getElem? hi)
      walk_at "ww"
      refine ⟨y, rfl, .inr ⟨n, ty.ex e9, ns, fun l H10 e10 f10 => ?_⟩⟩
      walk_at "ww"
      refine alI fun l11 H11 n11 e11 f11 => ?_
      refine ⟨_, _, cmp_text (e11 _ _ f10), cmp_text f11, ?_⟩
      rw [show (not (PyData.eqv (.list [.str "text", .none]) (.list [.str "text", .none]))) = false by simp [PyData.eqv, PyData.eqvAll]]
      walk_at "ww"
      exact ⟨_, rfl, (e9.trans e10).trans e11⟩
    · rintro σ H9 ⟨v1, rfl, e9⟩
      have E9 := E8.trans e9
      walk_at "ww"
      refine wLenL (E9.sq hS) ?_
      walk_at "ww"
      obtain ⟨N, hN1, hN2, hN⟩ : ∃ N : Int, 1 ≤ N ∧ N ≤ 8 ∧ (if (if 6 < ((ns.map V.int).length : Int) then (6 : Int) else ((ns.map V.int).length : Int)) > 2 then (if 6 < ((ns.map V.int).length : Int) then (6 : Int) else ((ns.map V.int).length : Int)) else 2) = N := by
        refine ⟨_, ?_, ?_, rfl⟩ <;> (split <;> split <;> omega)
      rw [hN]
      refine ⟨by omega, by omega, ?_⟩
      clear f8 odd E8 e9
      refine for_range (lo := 0) (n := N.toNat) (fun i σ H2 => ∃ v1 v2 v3 v4 v5 v6 v7 v8 v9 v10, σ = [some (.ref a), v1, v2, v3, v4, v5, v6, v7, v8, v9, v10] ∧ Ex H H2) ⟨_, _, _, _, _, _, _, _, _, _, rfl, E9⟩ ?_ ?_
      · rintro i σ H10 hi ⟨v1, v2, v3, v4, v5, v6, v7, v8, v9, v10, rfl, e10⟩
        walk_at "ww"
        refine ⟨a, ns, 0 + i, rfl, e10.sq hS, hlen, by omega, by omega, fun c H11 e11 => ?_⟩
        walk_at "ww"
        refine ⟨c, rfl, fun p H12 np e12 hP => ?_⟩
        have E12 : Ex H H12 := (e10.trans e11).trans e12
        have np0 : H p = none := (e10.trans e11).free np
        walk_at "ww"
        refine ⟨p, 4, rfl, hP, by omega, by omega, fun d13 H13 d130 d131 k13 hP13 => ?_⟩
        walk_at "ww"
        refine ⟨p, _, rfl, hP13, by omega, by omega, fun nl ys H14 k14 hP14 nn hN14 nm => ?_⟩
        have nnp : nl ≠ p := hP13.ne nn
        walk_at "ww"
        refine ⟨p, 10, rfl, hP14, by omega, by omega, fun d15 H15 d150 d151 k15 hP15 => ?_⟩
        walk_at "ww"
        refine alI fun l16 H16 n16 e16 f16 => ?_
        have m16 : l16 ≠ p := hP15.ne n16
        walk_at "ww"
        refine alI fun l17 H17 n17 e17 f17 => ?_
        have m17 : l17 ≠ p := (hP15.ex e16).ne n17
        walk_at "ww"
        refine ⟨p, 8, rfl, (hP15.ex e16).ex e17, by omega, by omega, fun d18 H18 d180 d181 k18 hP18 => ?_⟩
        obtain ⟨jv, hjv, hjm⟩ := at_ex (xs := [V.int 0, V.int 0, V.int 0, V.int 0, V.int 0, V.int 0, V.int 1, V.int 2]) d180 (by show d18 < 8; omega)
        refine wIxL (SqL.of (k18 _ _ m17 f17)) hjv ?_
        obtain ⟨ji, rfl, many, hmany, m61⟩ : ∃ ji, jv = .int ji ∧ ∃ many : Nat, atI [V.int d15, V.int 59, V.int 61] ji = some (.int (many : Int)) ∧ many ≤ 61 := by
          have A0 : atI [V.int d15, V.int 59, V.int 61] 0 = some (.int ((d15.toNat : Nat) : Int)) := by
            rw [show ((d15.toNat : Nat) : Int) = d15 by omega]
            rfl
          simp only [List.mem_cons, List.not_mem_nil, or_false] at hjm
          rcases hjm with rfl | rfl | rfl | rfl | rfl | rfl | rfl | rfl
          · exact ⟨0, rfl, _, A0, by omega⟩
          · exact ⟨0, rfl, _, A0, by omega⟩
          · exact ⟨0, rfl, _, A0, by omega⟩
          · exact ⟨0, rfl, _, A0, by omega⟩
          · exact ⟨0, rfl, _, A0, by omega⟩
          · exact ⟨0, rfl, _, A0, by omega⟩
          · exact ⟨1, rfl, 59, rfl, by omega⟩
          · exact ⟨2, rfl, 61, rfl, by omega⟩
        refine wIxL (SqL.of (k18 _ _ m16 (e17 _ _ f16))) hmany ?_
        have K14 : Kp p H12 H14 := k13.trans k14
        have K18 : Kp p H12 H18 := (K14.trans k15).trans ((e16.trans e17).kp.trans k18)
        have hN18 : H18 nl = some (.lst ys) := k18 _ _ nnp ((e16.trans e17) _ _ (k15 _ _ nnp hN14))
        clear hjv hjm hmany f16 f17 k13 k14 k15 e16 e17 k18 hP13 hP14 hP15 n16 n17 nn hN14 K14
        walk_at "ww"
        refine ⟨by omega, by omega, ?_⟩
        intro D hD
        have nDp : D ≠ p := hP18.ne hD
        refine lcRng (n := many) (fun H' => Kp p H18 H' ∧ Pool H' p) (fun i y _ => ∃ z : Str, y = .str z ∧ z.length ≤ 60) (fun _ => rfl) ⟨Kp.new hD, hP18.upd nDp⟩ (fun i hi H' acc hI hD' hl hR => ?_) (fun H19 zs hI hD19 hl hR => ?_)
        · walk_at "ww"
          refine ⟨p, nl, ys, rfl, hI.2, nnp, hI.1 _ _ nnp hN18, nm, fun z H'' k' hP' zl => ?_⟩
          exact lcAdd (k' _ _ nDp hD') hl (by omega) ⟨(hI.1.trans k').mut hD, hP'.upd nDp⟩ hR ⟨z, rfl, zl⟩
        · obtain ⟨us, rfl, ul⟩ : ∃ us : List Str, zs = us.map V.str ∧ ∀ u ∈ us, u.length ≤ 60 := by
            clear hD19 hl
            induction zs with
            | nil => exact ⟨[], rfl, fun _ h => (by cases h)⟩
            | cons y r ih =>
              obtain ⟨z, rfl, zl⟩ := hR 0 y rfl
              obtain ⟨us, rfl, ul⟩ := ih fun j v e => hR (j + 1) v e
              exact ⟨z :: us, rfl, List.forall_mem_cons.mpr ⟨zl, ul⟩⟩
          rw [List.length_map] at hl
          have hl : us.length = many := hl
          have sm := sum_le ul
          have nl1 : ((Str.ofString "\n")).length = 1 := by decide +kernel
          walk_at "ww"
          refine ⟨_, _, us, rfl, rfl, .inl (SqL.of hD19), by rw [nl1]; omega, ?_⟩
          have gl : (Txt.join (Str.ofString "\n") us).length ≤ 3800 := by
            rw [TL.join_eq]
            have := join_len (Str.ofString "\n") us
            rw [nl1] at this
            omega
          generalize Txt.join (Str.ofString "\n") us = good at gl ⊢
          have K19 := K18.trans hI.1
          have hP19 := hI.2
          clear hD19 hR sm ul hl hI
          walk_at "ww"
          refine alI fun lt H20 n20 e20 f20 => ?_
          have mlt : lt ≠ p := hP19.ne n20
          have hP20 := hP19.ex e20
          have K20 := K19.trans e20.kp
          walk_at "ww"
          refine alI fun l21 H21 n21 e21 f21 => ?_
          walk_at "ww"
          refine .inr ⟨_, rfl, ?_⟩
          obtain ⟨tn, htn, t20⟩ : ∃ tn : Nat, atI [V.int 20, V.int 8] (if decide ((20 : Int) < ((many : Nat) : Int)) = true then 1 else 0) = some (.int (tn : Int)) ∧ tn ≤ 20 := by
            split
            · exact ⟨8, rfl, by omega⟩
            · exact ⟨20, rfl, by omega⟩
          refine wIxL (SqL.of f21) htn ?_
          have hP21 := hP20.ex e21
          have f2021 := e21 _ _ f20
          have K21 := K20.trans e21.kp
          clear f21 f20 e21 e20 n20 n21 htn hP20 hP19 K20 K19 K18 hP18 hN18
          refine wNil ⟨_, rfl, by omega, by omega, ?_⟩
          have ap : ∀ a b : Str, (a ++ b).length = a.length + b.length := fun a b => app_len a b
          refine for_range (lo := 0) (n := tn) (fun j σ H' => ∃ v8 v9 lx tx, σ = [some (.ref a), v1, some (.int (0 + i)), some (.ref p), some (.ref nl), some (.int (many : Int)), some (.str good), some (.ref lx), v8, v9, v10] ∧ Kp p H12 H' ∧ Pool H' p ∧ lx ≠ p ∧ H' lx = some (.lst (tx.map V.str)) ∧ tx.length ≤ 3 + 2 * j ∧ ∀ t ∈ tx, t.length ≤ 30000)
            ⟨_, _, lt, [good, good ++ Str.ofString "\n", Str.ofString "\n" ++ good], rfl, K21, hP21, mlt, f2021, by show 3 ≤ _; omega, List.forall_mem_cons.mpr ⟨by omega, List.forall_mem_cons.mpr ⟨by rw [ap, nl1]; omega, List.forall_mem_cons.mpr ⟨by rw [ap, nl1]; omega, List.forall_mem_nil _⟩⟩⟩⟩ ?_ ?_
          · rintro j σ H22 hj ⟨v8, v9, lx, tx, rfl, K22, hP22, mlx, f22, txl, tx3⟩
            walk_at "ww"
            refine ⟨p, good, rfl, hP22, by omega, fun y H23 k23 hP23 yl => ?_⟩
            walk_at "ww"
            refine ⟨p, y, rfl, hP23, by omega, fun y2 H24 k24 hP24 y2l => ?_⟩
            walk_at "ww"
            refine alI fun l25 H25 n25 e25 f25 => ?_
            refine wCatL (e25 _ _ (k24 _ _ mlx (k23 _ _ mlx f22))) f25 (by rw [List.length_map]; show _ + 2 ≤ _; omega) fun l26 H26 e26 f26 n26 => ?_
            walk_at "ww"
            refine ⟨_, _, l26, tx ++ [y, y2], rfl, (K22.trans k23).trans (k24.trans (e25.trans e26).kp), hP24.ex (e25.trans e26), (hP24.ex e25).ne n26, by rw [List.map_append]; exact f26, by rw [List.length_append]; show _ + 2 ≤ _; omega, ?_⟩
            exact List.forall_mem_append.mpr ⟨tx3, List.forall_mem_cons.mpr ⟨by omega, List.forall_mem_cons.mpr ⟨by omega, List.forall_mem_nil _⟩⟩⟩
          · rintro σ H22 ⟨v8, v9, lx, tx, rfl, K22, hP22, mlx, f22, txl, tx3⟩
            walk_at "ww"
            refine exSq (SqL.of f22) ?_
            refine for_list (K := K) (a := lx) (xs := tx.map V.str) (fun j σ H' => ∃ v9 v10, σ = [some (.ref a), v1, some (.int (0 + i)), some (.ref p), some (.ref nl), some (.int (many : Int)), some (.str good), some (.ref lx), v8, v9, v10] ∧ Ex H22 H') ⟨_, _, rfl, Ex.refl _⟩ (fun j σ H' _ ⟨_, _, _, e⟩ => SqL.of (e _ _ f22)) ?_ ?_
            · rintro j y σ H23 hj ⟨v9', v10', rfl, e23⟩
              rw [List.getElem?_map] at hj
              obtain ⟨t, ht, rfl⟩ := Option.map_eq_some_iff.mp hj
              have tl := tx3 t (List.mem_of_getElem? ht)
              walk_at "ww"
              refine ⟨t, rfl, tl, fun l24 H24 e24 td => ?_⟩
              walk_at "ww"
              refine ⟨_, rfl, .inl ⟨t, rfl, tl, fun l25 H25 e25 tt => ?_⟩⟩
              walk_at "ww"
              obtain ⟨n1, hn1, rp1⟩ := told_rp tl tt
              refine ⟨_, _, _, n1, rfl, rp1, hn1, ?_⟩
              walk_at "ww"
              obtain ⟨n2, hn2, rp2⟩ := told_rp tl (td.ex e25)
              refine ⟨_, _, _, n2, rfl, rp2, hn2, ?_⟩
              walk_at "ww"
              refine ⟨_, rfl, .inl ⟨t, rfl, tl, fun l26 H26 e26 tt2 => ?_⟩⟩
              walk_at "ww"
              obtain ⟨n3, hn3, rp3⟩ := told_rp tl tt2
              refine ⟨_, _, _, n3, rfl, rp3, hn3, ?_⟩
              walk_at "ww"
              obtain ⟨n4, hn4, rp4⟩ := told_rp tl ((td.ex e25).ex e26)
              refine ⟨_, _, _, n4, rfl, rp4, hn4, ?_⟩
              walk_at "ww"
              exact ⟨_, _, rfl, ((e23.trans e24).trans e25).trans e26⟩
            · rintro σ H23 ⟨v9', v10', rfl, e23⟩
              exact ⟨_, _, _, _, _, _, _, _, _, _, rfl, Kp.back E12 (K22.trans e23.kp) np0⟩
      · rintro σ H2 ⟨v1, v2, v3, v4, v5, v6, v7, v8, v9, v10, rfl, e5⟩
        walk_at "ww"
        exact k _
end
theorem all_mk {l : PySem.W.OpenLaw} {w : World} {K : PySem.W.Frag} {h : Heap} {mg : Str → Option Value} {fa f_is_whole f_is_name f_is_holder f_is_measure f_is_deed f_is_short_deed f_is_deed_between_two f_is_figures f_read_whole f_lines_of f_read_part f_read_deed f_read_book f_Lcell f_Lpool f_Ltake f_Lnames f_Lsort f_Lline f_Lis_name f_Ldeed_of f_Ldue f_Ltold f_Lspoilt f_law : Addr} (X : K.In h) (G : h.Ns mainGlobals mg) (hfa : mg "law" = some (.ref fa))
    {od_is_whole an_is_whole od_is_name an_is_name od_is_holder an_is_holder od_is_measure an_is_measure od_is_deed an_is_deed od_is_short_deed an_is_short_deed od_is_deed_between_two an_is_deed_between_two od_is_figures an_is_figures od_read_whole an_read_whole od_lines_of an_lines_of od_read_part an_read_part od_read_deed an_read_deed od_read_book an_read_book od_Lcell an_Lcell od_Lpool an_Lpool od_Ltake an_Ltake od_Lnames an_Lnames od_Lsort an_Lsort od_Lline an_Lline od_Lis_name an_Lis_name od_Ldeed_of an_Ldeed_of od_Ldue an_Ldue od_Ltold an_Ltold od_Lspoilt an_Lspoilt od_law an_law : Option Addr} {sl_is_whole sl_is_name sl_is_holder sl_is_measure sl_is_deed sl_is_short_deed sl_is_deed_between_two sl_is_figures sl_read_whole sl_lines_of sl_read_part sl_read_deed sl_read_book sl_Lcell sl_Lpool sl_Ltake sl_Lnames sl_Lsort sl_Lline sl_Lis_name sl_Ldeed_of sl_Ldue sl_Ltold sl_Lspoilt sl_law : Array (Option Value)} {oc_is_whole kV_is_whole dc_is_whole pm_is_whole cd_is_whole ct_is_whole oc_is_name kV_is_name dc_is_name pm_is_name cd_is_name ct_is_name oc_is_holder kV_is_holder dc_is_holder pm_is_holder cd_is_holder ct_is_holder oc_is_measure kV_is_measure dc_is_measure pm_is_measure cd_is_measure ct_is_measure oc_is_deed kV_is_deed dc_is_deed pm_is_deed cd_is_deed ct_is_deed oc_is_short_deed kV_is_short_deed dc_is_short_deed pm_is_short_deed cd_is_short_deed ct_is_short_deed oc_is_deed_between_two kV_is_deed_between_two dc_is_deed_between_two pm_is_deed_between_two cd_is_deed_between_two ct_is_deed_between_two oc_is_figures kV_is_figures dc_is_figures pm_is_figures cd_is_figures ct_is_figures oc_read_whole kV_read_whole dc_read_whole pm_read_whole cd_read_whole ct_read_whole oc_lines_of kV_lines_of dc_lines_of pm_lines_of cd_lines_of ct_lines_of oc_read_part kV_read_part dc_read_part pm_read_part cd_read_part ct_read_part oc_read_deed kV_read_deed dc_read_deed pm_read_deed cd_read_deed ct_read_deed oc_read_book kV_read_book dc_read_book pm_read_book cd_read_book ct_read_book oc_Lcell kV_Lcell dc_Lcell pm_Lcell cd_Lcell ct_Lcell oc_Lpool kV_Lpool dc_Lpool pm_Lpool cd_Lpool ct_Lpool oc_Ltake kV_Ltake dc_Ltake pm_Ltake cd_Ltake ct_Ltake oc_Lnames kV_Lnames dc_Lnames pm_Lnames cd_Lnames ct_Lnames oc_Lsort kV_Lsort dc_Lsort pm_Lsort cd_Lsort ct_Lsort oc_Lline kV_Lline dc_Lline pm_Lline cd_Lline ct_Lline oc_Lis_name kV_Lis_name dc_Lis_name pm_Lis_name cd_Lis_name ct_Lis_name oc_Ldeed_of kV_Ldeed_of dc_Ldeed_of pm_Ldeed_of cd_Ldeed_of ct_Ldeed_of oc_Ldue kV_Ldue dc_Ldue pm_Ldue cd_Ldue ct_Ldue oc_Ltold kV_Ltold dc_Ltold pm_Ltold cd_Ltold ct_Ltold oc_Lspoilt kV_Lspoilt dc_Lspoilt pm_Lspoilt cd_Lspoilt ct_Lspoilt oc_law kV_law dc_law pm_law cd_law ct_law : Value}
    {t_CHEST t_MOST_LETTERS t_MOST_MEASURES t_MOST_DEEDS t_FIGURES_AT_ONCE t_LIMIT_AT_ONCE : Tok}
    (a_is_whole : PySem.W.nsIn K mainGlobals "is_whole" = some (some (.ref f_is_whole))) (l_is_whole : K.lookup f_is_whole = some ⟨oc_is_whole, od_is_whole, .func (PySem.W.fnOf "is_whole" "is_whole" (defArgs s_is_whole) (defBody s_is_whole) (defScope s_is_whole) .none kV_is_whole dc_is_whole pm_is_whole an_is_whole cd_is_whole ct_is_whole), sl_is_whole⟩) (c_is_whole : PySem.W.codeIn K cd_is_whole "is_whole" = true) (k_is_whole : PySem.W.keepIn K (.ref f_is_whole) = true)
    (a_is_name : PySem.W.nsIn K mainGlobals "is_name" = some (some (.ref f_is_name))) (l_is_name : K.lookup f_is_name = some ⟨oc_is_name, od_is_name, .func (PySem.W.fnOf "is_name" "is_name" (defArgs s_is_name) (defBody s_is_name) (defScope s_is_name) .none kV_is_name dc_is_name pm_is_name an_is_name cd_is_name ct_is_name), sl_is_name⟩) (c_is_name : PySem.W.codeIn K cd_is_name "is_name" = true) (k_is_name : PySem.W.keepIn K (.ref f_is_name) = true)
    (a_is_holder : PySem.W.nsIn K mainGlobals "is_holder" = some (some (.ref f_is_holder))) (l_is_holder : K.lookup f_is_holder = some ⟨oc_is_holder, od_is_holder, .func (PySem.W.fnOf "is_holder" "is_holder" (defArgs s_is_holder) (defBody s_is_holder) (defScope s_is_holder) .none kV_is_holder dc_is_holder pm_is_holder an_is_holder cd_is_holder ct_is_holder), sl_is_holder⟩) (c_is_holder : PySem.W.codeIn K cd_is_holder "is_holder" = true) (k_is_holder : PySem.W.keepIn K (.ref f_is_holder) = true)
    (a_is_measure : PySem.W.nsIn K mainGlobals "is_measure" = some (some (.ref f_is_measure))) (l_is_measure : K.lookup f_is_measure = some ⟨oc_is_measure, od_is_measure, .func (PySem.W.fnOf "is_measure" "is_measure" (defArgs s_is_measure) (defBody s_is_measure) (defScope s_is_measure) .none kV_is_measure dc_is_measure pm_is_measure an_is_measure cd_is_measure ct_is_measure), sl_is_measure⟩) (c_is_measure : PySem.W.codeIn K cd_is_measure "is_measure" = true) (k_is_measure : PySem.W.keepIn K (.ref f_is_measure) = true)
    (a_is_deed : PySem.W.nsIn K mainGlobals "is_deed" = some (some (.ref f_is_deed))) (l_is_deed : K.lookup f_is_deed = some ⟨oc_is_deed, od_is_deed, .func (PySem.W.fnOf "is_deed" "is_deed" (defArgs s_is_deed) (defBody s_is_deed) (defScope s_is_deed) .none kV_is_deed dc_is_deed pm_is_deed an_is_deed cd_is_deed ct_is_deed), sl_is_deed⟩) (c_is_deed : PySem.W.codeIn K cd_is_deed "is_deed" = true) (k_is_deed : PySem.W.keepIn K (.ref f_is_deed) = true)
    (a_is_short_deed : PySem.W.nsIn K mainGlobals "is_short_deed" = some (some (.ref f_is_short_deed))) (l_is_short_deed : K.lookup f_is_short_deed = some ⟨oc_is_short_deed, od_is_short_deed, .func (PySem.W.fnOf "is_short_deed" "is_short_deed" (defArgs s_is_short_deed) (defBody s_is_short_deed) (defScope s_is_short_deed) .none kV_is_short_deed dc_is_short_deed pm_is_short_deed an_is_short_deed cd_is_short_deed ct_is_short_deed), sl_is_short_deed⟩) (c_is_short_deed : PySem.W.codeIn K cd_is_short_deed "is_short_deed" = true) (k_is_short_deed : PySem.W.keepIn K (.ref f_is_short_deed) = true)
    (a_is_deed_between_two : PySem.W.nsIn K mainGlobals "is_deed_between_two" = some (some (.ref f_is_deed_between_two))) (l_is_deed_between_two : K.lookup f_is_deed_between_two = some ⟨oc_is_deed_between_two, od_is_deed_between_two, .func (PySem.W.fnOf "is_deed_between_two" "is_deed_between_two" (defArgs s_is_deed_between_two) (defBody s_is_deed_between_two) (defScope s_is_deed_between_two) .none kV_is_deed_between_two dc_is_deed_between_two pm_is_deed_between_two an_is_deed_between_two cd_is_deed_between_two ct_is_deed_between_two), sl_is_deed_between_two⟩) (c_is_deed_between_two : PySem.W.codeIn K cd_is_deed_between_two "is_deed_between_two" = true) (k_is_deed_between_two : PySem.W.keepIn K (.ref f_is_deed_between_two) = true)
    (a_is_figures : PySem.W.nsIn K mainGlobals "is_figures" = some (some (.ref f_is_figures))) (l_is_figures : K.lookup f_is_figures = some ⟨oc_is_figures, od_is_figures, .func (PySem.W.fnOf "is_figures" "is_figures" (defArgs s_is_figures) (defBody s_is_figures) (defScope s_is_figures) .none kV_is_figures dc_is_figures pm_is_figures an_is_figures cd_is_figures ct_is_figures), sl_is_figures⟩) (c_is_figures : PySem.W.codeIn K cd_is_figures "is_figures" = true) (k_is_figures : PySem.W.keepIn K (.ref f_is_figures) = true)
    (a_read_whole : PySem.W.nsIn K mainGlobals "read_whole" = some (some (.ref f_read_whole))) (l_read_whole : K.lookup f_read_whole = some ⟨oc_read_whole, od_read_whole, .func (PySem.W.fnOf "read_whole" "read_whole" (defArgs s_read_whole) (defBody s_read_whole) (defScope s_read_whole) .none kV_read_whole dc_read_whole pm_read_whole an_read_whole cd_read_whole ct_read_whole), sl_read_whole⟩) (c_read_whole : PySem.W.codeIn K cd_read_whole "read_whole" = true) (k_read_whole : PySem.W.keepIn K (.ref f_read_whole) = true)
    (a_lines_of : PySem.W.nsIn K mainGlobals "lines_of" = some (some (.ref f_lines_of))) (l_lines_of : K.lookup f_lines_of = some ⟨oc_lines_of, od_lines_of, .func (PySem.W.fnOf "lines_of" "lines_of" (defArgs s_lines_of) (defBody s_lines_of) (defScope s_lines_of) .none kV_lines_of dc_lines_of pm_lines_of an_lines_of cd_lines_of ct_lines_of), sl_lines_of⟩) (c_lines_of : PySem.W.codeIn K cd_lines_of "lines_of" = true) (k_lines_of : PySem.W.keepIn K (.ref f_lines_of) = true)
    (a_read_part : PySem.W.nsIn K mainGlobals "read_part" = some (some (.ref f_read_part))) (l_read_part : K.lookup f_read_part = some ⟨oc_read_part, od_read_part, .func (PySem.W.fnOf "read_part" "read_part" (defArgs s_read_part) (defBody s_read_part) (defScope s_read_part) .none kV_read_part dc_read_part pm_read_part an_read_part cd_read_part ct_read_part), sl_read_part⟩) (c_read_part : PySem.W.codeIn K cd_read_part "read_part" = true) (k_read_part : PySem.W.keepIn K (.ref f_read_part) = true)
    (a_read_deed : PySem.W.nsIn K mainGlobals "read_deed" = some (some (.ref f_read_deed))) (l_read_deed : K.lookup f_read_deed = some ⟨oc_read_deed, od_read_deed, .func (PySem.W.fnOf "read_deed" "read_deed" (defArgs s_read_deed) (defBody s_read_deed) (defScope s_read_deed) .none kV_read_deed dc_read_deed pm_read_deed an_read_deed cd_read_deed ct_read_deed), sl_read_deed⟩) (c_read_deed : PySem.W.codeIn K cd_read_deed "read_deed" = true) (k_read_deed : PySem.W.keepIn K (.ref f_read_deed) = true)
    (a_read_book : PySem.W.nsIn K mainGlobals "read_book" = some (some (.ref f_read_book))) (l_read_book : K.lookup f_read_book = some ⟨oc_read_book, od_read_book, .func (PySem.W.fnOf "read_book" "read_book" (defArgs s_read_book) (defBody s_read_book) (defScope s_read_book) .none kV_read_book dc_read_book pm_read_book an_read_book cd_read_book ct_read_book), sl_read_book⟩) (c_read_book : PySem.W.codeIn K cd_read_book "read_book" = true) (k_read_book : PySem.W.keepIn K (.ref f_read_book) = true)
    (a_Lcell : PySem.W.nsIn K mainGlobals "_law_cell" = some (some (.ref f_Lcell))) (l_Lcell : K.lookup f_Lcell = some ⟨oc_Lcell, od_Lcell, .func (PySem.W.fnOf "_law_cell" "_law_cell" (defArgs s_Lcell) (defBody s_Lcell) (defScope s_Lcell) .none kV_Lcell dc_Lcell pm_Lcell an_Lcell cd_Lcell ct_Lcell), sl_Lcell⟩) (c_Lcell : PySem.W.codeIn K cd_Lcell "_law_cell" = true) (k_Lcell : PySem.W.keepIn K (.ref f_Lcell) = true)
    (a_Lpool : PySem.W.nsIn K mainGlobals "_law_pool" = some (some (.ref f_Lpool))) (l_Lpool : K.lookup f_Lpool = some ⟨oc_Lpool, od_Lpool, .func (PySem.W.fnOf "_law_pool" "_law_pool" (defArgs s_Lpool) (defBody s_Lpool) (defScope s_Lpool) .none kV_Lpool dc_Lpool pm_Lpool an_Lpool cd_Lpool ct_Lpool), sl_Lpool⟩) (c_Lpool : PySem.W.codeIn K cd_Lpool "_law_pool" = true) (k_Lpool : PySem.W.keepIn K (.ref f_Lpool) = true)
    (a_Ltake : PySem.W.nsIn K mainGlobals "_law_take" = some (some (.ref f_Ltake))) (l_Ltake : K.lookup f_Ltake = some ⟨oc_Ltake, od_Ltake, .func (PySem.W.fnOf "_law_take" "_law_take" (defArgs s_Ltake) (defBody s_Ltake) (defScope s_Ltake) .none kV_Ltake dc_Ltake pm_Ltake an_Ltake cd_Ltake ct_Ltake), sl_Ltake⟩) (c_Ltake : PySem.W.codeIn K cd_Ltake "_law_take" = true) (k_Ltake : PySem.W.keepIn K (.ref f_Ltake) = true)
    (a_Lnames : PySem.W.nsIn K mainGlobals "_law_names" = some (some (.ref f_Lnames))) (l_Lnames : K.lookup f_Lnames = some ⟨oc_Lnames, od_Lnames, .func (PySem.W.fnOf "_law_names" "_law_names" (defArgs s_Lnames) (defBody s_Lnames) (defScope s_Lnames) .none kV_Lnames dc_Lnames pm_Lnames an_Lnames cd_Lnames ct_Lnames), sl_Lnames⟩) (c_Lnames : PySem.W.codeIn K cd_Lnames "_law_names" = true) (k_Lnames : PySem.W.keepIn K (.ref f_Lnames) = true)
    (a_Lsort : PySem.W.nsIn K mainGlobals "_law_sort" = some (some (.ref f_Lsort))) (l_Lsort : K.lookup f_Lsort = some ⟨oc_Lsort, od_Lsort, .func (PySem.W.fnOf "_law_sort" "_law_sort" (defArgs s_Lsort) (defBody s_Lsort) (defScope s_Lsort) .none kV_Lsort dc_Lsort pm_Lsort an_Lsort cd_Lsort ct_Lsort), sl_Lsort⟩) (c_Lsort : PySem.W.codeIn K cd_Lsort "_law_sort" = true) (k_Lsort : PySem.W.keepIn K (.ref f_Lsort) = true)
    (a_Lline : PySem.W.nsIn K mainGlobals "_law_line" = some (some (.ref f_Lline))) (l_Lline : K.lookup f_Lline = some ⟨oc_Lline, od_Lline, .func (PySem.W.fnOf "_law_line" "_law_line" (defArgs s_Lline) (defBody s_Lline) (defScope s_Lline) .none kV_Lline dc_Lline pm_Lline an_Lline cd_Lline ct_Lline), sl_Lline⟩) (c_Lline : PySem.W.codeIn K cd_Lline "_law_line" = true) (k_Lline : PySem.W.keepIn K (.ref f_Lline) = true)
    (a_Lis_name : PySem.W.nsIn K mainGlobals "_law_is_name" = some (some (.ref f_Lis_name))) (l_Lis_name : K.lookup f_Lis_name = some ⟨oc_Lis_name, od_Lis_name, .func (PySem.W.fnOf "_law_is_name" "_law_is_name" (defArgs s_Lis_name) (defBody s_Lis_name) (defScope s_Lis_name) .none kV_Lis_name dc_Lis_name pm_Lis_name an_Lis_name cd_Lis_name ct_Lis_name), sl_Lis_name⟩) (c_Lis_name : PySem.W.codeIn K cd_Lis_name "_law_is_name" = true) (k_Lis_name : PySem.W.keepIn K (.ref f_Lis_name) = true)
    (a_Ldeed_of : PySem.W.nsIn K mainGlobals "_law_deed_of" = some (some (.ref f_Ldeed_of))) (l_Ldeed_of : K.lookup f_Ldeed_of = some ⟨oc_Ldeed_of, od_Ldeed_of, .func (PySem.W.fnOf "_law_deed_of" "_law_deed_of" (defArgs s_Ldeed_of) (defBody s_Ldeed_of) (defScope s_Ldeed_of) .none kV_Ldeed_of dc_Ldeed_of pm_Ldeed_of an_Ldeed_of cd_Ldeed_of ct_Ldeed_of), sl_Ldeed_of⟩) (c_Ldeed_of : PySem.W.codeIn K cd_Ldeed_of "_law_deed_of" = true) (k_Ldeed_of : PySem.W.keepIn K (.ref f_Ldeed_of) = true)
    (a_Ldue : PySem.W.nsIn K mainGlobals "_law_due" = some (some (.ref f_Ldue))) (l_Ldue : K.lookup f_Ldue = some ⟨oc_Ldue, od_Ldue, .func (PySem.W.fnOf "_law_due" "_law_due" (defArgs s_Ldue) (defBody s_Ldue) (defScope s_Ldue) .none kV_Ldue dc_Ldue pm_Ldue an_Ldue cd_Ldue ct_Ldue), sl_Ldue⟩) (c_Ldue : PySem.W.codeIn K cd_Ldue "_law_due" = true) (k_Ldue : PySem.W.keepIn K (.ref f_Ldue) = true)
    (a_Ltold : PySem.W.nsIn K mainGlobals "_law_told" = some (some (.ref f_Ltold))) (l_Ltold : K.lookup f_Ltold = some ⟨oc_Ltold, od_Ltold, .func (PySem.W.fnOf "_law_told" "_law_told" (defArgs s_Ltold) (defBody s_Ltold) (defScope s_Ltold) .none kV_Ltold dc_Ltold pm_Ltold an_Ltold cd_Ltold ct_Ltold), sl_Ltold⟩) (c_Ltold : PySem.W.codeIn K cd_Ltold "_law_told" = true) (k_Ltold : PySem.W.keepIn K (.ref f_Ltold) = true)
    (a_Lspoilt : PySem.W.nsIn K mainGlobals "_law_spoilt" = some (some (.ref f_Lspoilt))) (l_Lspoilt : K.lookup f_Lspoilt = some ⟨oc_Lspoilt, od_Lspoilt, .func (PySem.W.fnOf "_law_spoilt" "_law_spoilt" (defArgs s_Lspoilt) (defBody s_Lspoilt) (defScope s_Lspoilt) .none kV_Lspoilt dc_Lspoilt pm_Lspoilt an_Lspoilt cd_Lspoilt ct_Lspoilt), sl_Lspoilt⟩) (c_Lspoilt : PySem.W.codeIn K cd_Lspoilt "_law_spoilt" = true) (k_Lspoilt : PySem.W.keepIn K (.ref f_Lspoilt) = true)
    (a_law : PySem.W.nsIn K mainGlobals "law" = some (some (.ref f_law))) (l_law : K.lookup f_law = some ⟨oc_law, od_law, .func (PySem.W.fnOf "law" "law" (defArgs s_law) (defBody s_law) (defScope s_law) .none kV_law dc_law pm_law an_law cd_law ct_law), sl_law⟩) (c_law : PySem.W.codeIn K cd_law "law" = true) (k_law : PySem.W.keepIn K (.ref f_law) = true)
    {c_ThankError c_LostError c_StandError c_NoNumber c_NoDeed c_NoBook c_NoWeb c_NoNames c_NoAmount c_NoMany c_NoText c_NoRow c_NoName c_NoLot c_NoPlace c_NoBack c_Fails c_NoMates c_TooMany : Addr}
    (a_ThankError : PySem.W.nsIn K mainGlobals "ThankError" = some (some (.ref c_ThankError)))
    (a_LostError : PySem.W.nsIn K mainGlobals "LostError" = some (some (.ref c_LostError)))
    (a_StandError : PySem.W.nsIn K mainGlobals "StandError" = some (some (.ref c_StandError)))
    (a_NoNumber : PySem.W.nsIn K mainGlobals "NoNumber" = some (some (.ref c_NoNumber)))
    (a_NoDeed : PySem.W.nsIn K mainGlobals "NoDeed" = some (some (.ref c_NoDeed)))
    (a_NoBook : PySem.W.nsIn K mainGlobals "NoBook" = some (some (.ref c_NoBook)))
    (a_NoWeb : PySem.W.nsIn K mainGlobals "NoWeb" = some (some (.ref c_NoWeb)))
    (a_NoNames : PySem.W.nsIn K mainGlobals "NoNames" = some (some (.ref c_NoNames)))
    (a_NoAmount : PySem.W.nsIn K mainGlobals "NoAmount" = some (some (.ref c_NoAmount)))
    (a_NoMany : PySem.W.nsIn K mainGlobals "NoMany" = some (some (.ref c_NoMany)))
    (a_NoText : PySem.W.nsIn K mainGlobals "NoText" = some (some (.ref c_NoText)))
    (a_NoRow : PySem.W.nsIn K mainGlobals "NoRow" = some (some (.ref c_NoRow)))
    (a_NoName : PySem.W.nsIn K mainGlobals "NoName" = some (some (.ref c_NoName)))
    (a_NoLot : PySem.W.nsIn K mainGlobals "NoLot" = some (some (.ref c_NoLot)))
    (a_NoPlace : PySem.W.nsIn K mainGlobals "NoPlace" = some (some (.ref c_NoPlace)))
    (a_NoBack : PySem.W.nsIn K mainGlobals "NoBack" = some (some (.ref c_NoBack)))
    (a_Fails : PySem.W.nsIn K mainGlobals "Fails" = some (some (.ref c_Fails)))
    (a_NoMates : PySem.W.nsIn K mainGlobals "NoMates" = some (some (.ref c_NoMates)))
    (a_TooMany : PySem.W.nsIn K mainGlobals "TooMany" = some (some (.ref c_TooMany)))
    {nm_NoText q_NoText ql_NoText : Str} {i_NoText N_NoText cc_NoText ca_NoText : Addr} {bs_NoText sub_NoText : List Value} {sn_NoText : List Str} {ab_NoText : Bool} {col_NoText : Option Bool} {dd_NoText od_NoText an_NoText cld_NoText cdd_NoText : Option Addr} {m0_NoText m1_NoText m2_NoText m3_NoText m5_NoText : Option Value}
    {oc_NoText kV_NoText dc_NoText pm_NoText ct_NoText cl_NoText ccl_NoText : Value} {sl_NoText csl_NoText ccs_NoText : Array (Option Value)} {vs_NoText : Array Value} {file_NoText : Str} {tf_NoText : Tok}
    (exL_NoText : K.lookup c_NoText = some (excClassObj nm_NoText q_NoText c_NoText N_NoText bs_NoText [.ref c_ThankError, .type "ValueError", .type "Exception", .type "BaseException", .type "object"] true sn_NoText sub_NoText ab_NoText col_NoText dd_NoText m0_NoText m1_NoText m2_NoText m3_NoText m5_NoText "ValueError.__new__"))
    (esa_NoText : PySem.W.findIn K (.ref c_NoText) "__setattr__" = some (some (.builtin "object.__setattr__")))
    (ega_NoText : PySem.W.findIn K (.ref c_NoText) "__getattribute__" = some (some (.builtin "BaseException.__getattribute__")))
    (egg_NoText : PySem.W.findIn K (.ref c_NoText) "__getattr__" = some none)
    (enb_NoText : PySem.W.findIn K (.ref c_NoText) "row" = some none)
    (eiC_NoText : PySem.W.findIn K (.ref c_NoText) "__init__" = some (some (.ref i_NoText)))
    (etI_NoText : PySem.W.typeIn K (.ref i_NoText) = some (.type "function"))
    (ekC_NoText : PySem.W.keepIn K (.ref c_NoText) = true)
    (eeC_NoText : PySem.W.subIn K (.ref c_NoText) (.type "BaseException") = some true)
    (etC_NoText : PySem.W.typeIn K (.ref c_NoText) = some (.type "type"))
    (ehC_NoText : PySem.W.hasDictIn K c_NoText = true)
    (evE_NoText : PySem.W.subIn K (.ref c_NoText) (.type "ValueError") = some true)
    (esf_NoText : PySem.W.mroIn K c_NoText (.ref c_NoText) = some true)
    (esu_NoText : PySem.W.ks_superIn K c_NoText c_NoText "__init__" = some (some (.builtin "ValueError.__init__")))
    (efn_NoText : K.lookup i_NoText = some ⟨oc_NoText, od_NoText, .func (PySem.W.fnX "__init__" ql_NoText (defArgs (inClass s_NoText 0)) (defBody (inClass s_NoText 0)) (defScope (inClass s_NoText 0)) [("__class__", cc_NoText)] .none kV_NoText dc_NoText pm_NoText an_NoText (.ref ca_NoText) ct_NoText), sl_NoText⟩)
    (ecd_NoText : PySem.W.codeIn K (.ref ca_NoText) ql_NoText = true)
    (elc_NoText : K.lookup cc_NoText = some ⟨cl_NoText, cld_NoText, .cell (some (.ref c_NoText)), csl_NoText⟩)
    (elk_NoText : K.lookup ca_NoText = some ⟨ccl_NoText, cdd_NoText, .fields vs_NoText, ccs_NoText⟩)
    (ehv_NoText : vs_NoText[2]? = some (.str file_NoText tf_NoText))
    (ehf_NoText : ((l.prog.main.file : Str) == file_NoText) = true)
    (eic_NoText : PySem.W.isClsIn K c_NoText = true)
    (eca_NoText : PySem.W.findIn K (.ref c_NoText) "__class__" = some (some (.builtin "object.__class__")))
    (ecn_NoText : PySem.W.specialIn K (.builtin "object.__class__") "__get__" = some (some (.builtin "getset_descriptor.__get__")))
    (ect_NoText : PySem.W.takesIn K (.builtin "object.__class__") = some true)
    (eob_NoText : PySem.W.mroIn K c_NoText (.type "object") = some true)
    (o_NoText_NoNumber : PySem.W.kitOne K (.ref c_NoText) (.ref c_NoNumber) = some false)
    (o_NoText_NoDeed : PySem.W.kitOne K (.ref c_NoText) (.ref c_NoDeed) = some false)
    (o_NoText_NoBook : PySem.W.kitOne K (.ref c_NoText) (.ref c_NoBook) = some false)
    (o_NoText_NoWeb : PySem.W.kitOne K (.ref c_NoText) (.ref c_NoWeb) = some false)
    (o_NoText_NoNames : PySem.W.kitOne K (.ref c_NoText) (.ref c_NoNames) = some false)
    (o_NoText_NoAmount : PySem.W.kitOne K (.ref c_NoText) (.ref c_NoAmount) = some false)
    (o_NoText_NoMany : PySem.W.kitOne K (.ref c_NoText) (.ref c_NoMany) = some false)
    (o_NoText_NoText : PySem.W.kitOne K (.ref c_NoText) (.ref c_NoText) = some true)
    (o_NoText_NoRow : PySem.W.kitOne K (.ref c_NoText) (.ref c_NoRow) = some false)
    (o_NoText_NoName : PySem.W.kitOne K (.ref c_NoText) (.ref c_NoName) = some false)
    (o_NoText_NoLot : PySem.W.kitOne K (.ref c_NoText) (.ref c_NoLot) = some false)
    (o_NoText_NoPlace : PySem.W.kitOne K (.ref c_NoText) (.ref c_NoPlace) = some false)
    (o_NoText_NoBack : PySem.W.kitOne K (.ref c_NoText) (.ref c_NoBack) = some false)
    (o_NoText_Fails : PySem.W.kitOne K (.ref c_NoText) (.ref c_Fails) = some false)
    (o_NoText_NoMates : PySem.W.kitOne K (.ref c_NoText) (.ref c_NoMates) = some false)
    (o_NoText_TooMany : PySem.W.kitOne K (.ref c_NoText) (.ref c_TooMany) = some false)
    (o_NoText_ThankError : PySem.W.kitOne K (.ref c_NoText) (.ref c_ThankError) = some true)
    (o_NoText_LostError : PySem.W.kitOne K (.ref c_NoText) (.ref c_LostError) = some false)
    (o_NoText_StandError : PySem.W.kitOne K (.ref c_NoText) (.ref c_StandError) = some false)
    (o_NoText_ValueError : PySem.W.kitOne K (.ref c_NoText) (.type "ValueError") = some true)
    (o_NoText_LookupError : PySem.W.kitOne K (.ref c_NoText) (.type "LookupError") = some false)
    (o_NoText_ArithmeticError : PySem.W.kitOne K (.ref c_NoText) (.type "ArithmeticError") = some false)
    (xb_NoText_ThankError : PySem.W.subIn K (.ref c_ThankError) (.type "BaseException") = some true)
    (xh_NoText_ThankError : PySem.W.hasDictIn K c_ThankError = true)
    (xt_NoText_ThankError : PySem.W.typeIn K (.ref c_ThankError) = some (.type "type"))
    (xs_NoText_ThankError : PySem.W.subIn K (.ref c_NoText) (.ref c_ThankError) = some true)
    (z_super : PySem.W.nsIn K mainGlobals "super" = some none) (z_stat : PySem.W.nsIn K cStatics "thirdparty.any" = some none) (z_top : (l.prog.main.scope.names.lookup ("super" : Str)).isSome = false)
    (z_ArithmeticError : PySem.W.nsIn K mainGlobals "ArithmeticError" = some none)
    (v_CHEST : PySem.W.nsIn K mainGlobals "CHEST" = some (some (.str "chest" t_CHEST)))
    (v_FIGURES_AT_ONCE : PySem.W.nsIn K mainGlobals "FIGURES_AT_ONCE" = some (some (.int 60 t_FIGURES_AT_ONCE)))
    (v_LIMIT_AT_ONCE : PySem.W.nsIn K mainGlobals "LIMIT_AT_ONCE" = some (some (.int 1000000000000000000000000000000000000000000000000000000000000 t_LIMIT_AT_ONCE)))
    (z_LookupError : PySem.W.nsIn K mainGlobals "LookupError" = some none)
    (v_MOST_DEEDS : PySem.W.nsIn K mainGlobals "MOST_DEEDS" = some (some (.int 60 t_MOST_DEEDS)))
    (v_MOST_LETTERS : PySem.W.nsIn K mainGlobals "MOST_LETTERS" = some (some (.int 8 t_MOST_LETTERS)))
    (v_MOST_MEASURES : PySem.W.nsIn K mainGlobals "MOST_MEASURES" = some (some (.int 9999 t_MOST_MEASURES)))
    (z_ValueError : PySem.W.nsIn K mainGlobals "ValueError" = some none)
    (z_abs : PySem.W.nsIn K mainGlobals "abs" = some none)
    (z_all : PySem.W.nsIn K mainGlobals "all" = some none)
    (z_bool : PySem.W.nsIn K mainGlobals "bool" = some none)
    (z_divmod : PySem.W.nsIn K mainGlobals "divmod" = some none)
    (z_enumerate : PySem.W.nsIn K mainGlobals "enumerate" = some none)
    (z_int : PySem.W.nsIn K mainGlobals "int" = some none)
    (z_isinstance : PySem.W.nsIn K mainGlobals "isinstance" = some none)
    (z_len : PySem.W.nsIn K mainGlobals "len" = some none)
    (z_max : PySem.W.nsIn K mainGlobals "max" = some none)
    (z_min : PySem.W.nsIn K mainGlobals "min" = some none)
    (z_range : PySem.W.nsIn K mainGlobals "range" = some none)
    (z_repr : PySem.W.nsIn K mainGlobals "repr" = some none)
    (z_sorted : PySem.W.nsIn K mainGlobals "sorted" = some none)
    (z_str : PySem.W.nsIn K mainGlobals "str" = some none)
    (z_tuple : PySem.W.nsIn K mainGlobals "tuple" = some none)
    (z_zip : PySem.W.nsIn K mainGlobals "zip" = some none)
    : ∃ fd : FuncData, (∀ (s : Shared) (v : Value), BindsTo s fd ⟨[v], []⟩ [("_law_script", v)]) ∧ ∀ base : Heap, K.In base → base.Ns mainGlobals mg → FnQ l.prog w K mg base CX0 8 fa fd ["_law_script"] (spLaw K) := by
  have e := hfa.symm.trans (PySem.W.mg_of X G a_law)
  cases e
  have F_is_whole := fun_mk (st := s_is_whole) l_is_whole c_is_whole k_is_whole
  have F_is_name := fun_mk (st := s_is_name) l_is_name c_is_name k_is_name
  have F_is_holder := fun_mk (st := s_is_holder) l_is_holder c_is_holder k_is_holder
  have F_is_measure := fun_mk (st := s_is_measure) l_is_measure c_is_measure k_is_measure
  have F_is_deed := fun_mk (st := s_is_deed) l_is_deed c_is_deed k_is_deed
  have F_is_short_deed := fun_mk (st := s_is_short_deed) l_is_short_deed c_is_short_deed k_is_short_deed
  have F_is_deed_between_two := fun_mk (st := s_is_deed_between_two) l_is_deed_between_two c_is_deed_between_two k_is_deed_between_two
  have F_is_figures := fun_mk (st := s_is_figures) l_is_figures c_is_figures k_is_figures
  have F_read_whole := fun_mk (st := s_read_whole) l_read_whole c_read_whole k_read_whole
  have F_lines_of := fun_mk (st := s_lines_of) l_lines_of c_lines_of k_lines_of
  have F_read_part := fun_mk (st := s_read_part) l_read_part c_read_part k_read_part
  have F_read_deed := fun_mk (st := s_read_deed) l_read_deed c_read_deed k_read_deed
  have F_read_book := fun_mk (st := s_read_book) l_read_book c_read_book k_read_book
  have F_Lcell := fun_mk (st := s_Lcell) l_Lcell c_Lcell k_Lcell
  have F_Lpool := fun_mk (st := s_Lpool) l_Lpool c_Lpool k_Lpool
  have F_Ltake := fun_mk (st := s_Ltake) l_Ltake c_Ltake k_Ltake
  have F_Lnames := fun_mk (st := s_Lnames) l_Lnames c_Lnames k_Lnames
  have F_Lsort := fun_mk (st := s_Lsort) l_Lsort c_Lsort k_Lsort
  have F_Lline := fun_mk (st := s_Lline) l_Lline c_Lline k_Lline
  have F_Lis_name := fun_mk (st := s_Lis_name) l_Lis_name c_Lis_name k_Lis_name
  have F_Ldeed_of := fun_mk (st := s_Ldeed_of) l_Ldeed_of c_Ldeed_of k_Ldeed_of
  have F_Ldue := fun_mk (st := s_Ldue) l_Ldue c_Ldue k_Ldue
  have F_Ltold := fun_mk (st := s_Ltold) l_Ltold c_Ltold k_Ltold
  have F_Lspoilt := fun_mk (st := s_Lspoilt) l_Lspoilt c_Lspoilt k_Lspoilt
  have F_law := fun_mk (st := s_law) l_law c_law k_law
  have T : Tx l.prog K mg ⟨f_is_whole, _, f_is_name, _, f_is_holder, _, f_is_measure, _, f_is_deed, _, f_is_short_deed, _, f_is_deed_between_two, _, f_is_figures, _, f_read_whole, _, f_lines_of, _, f_read_part, _, f_read_deed, _, f_read_book, _, f_Lcell, _, f_Lpool, _, f_Ltake, _, f_Lnames, _, f_Lsort, _, f_Lline, _, f_Lis_name, _, f_Ldeed_of, _, f_Ldue, _, f_Ltold, _, f_Lspoilt, _, t_CHEST, t_MOST_LETTERS, t_MOST_MEASURES, t_MOST_DEEDS, t_FIGURES_AT_ONCE, t_LIMIT_AT_ONCE, c_ThankError, c_LostError, c_StandError, c_NoNumber, c_NoDeed, c_NoBook, c_NoWeb, c_NoNames, c_NoAmount, c_NoMany, c_NoText, i_NoText, c_NoRow, c_NoName, c_NoLot, c_NoPlace, c_NoBack, c_Fails, c_NoMates, c_TooMany⟩ := {
    g_ThankError := PySem.W.mg_of X G a_ThankError
    g_LostError := PySem.W.mg_of X G a_LostError
    g_StandError := PySem.W.mg_of X G a_StandError
    g_NoNumber := PySem.W.mg_of X G a_NoNumber
    g_NoDeed := PySem.W.mg_of X G a_NoDeed
    g_NoBook := PySem.W.mg_of X G a_NoBook
    g_NoWeb := PySem.W.mg_of X G a_NoWeb
    g_NoNames := PySem.W.mg_of X G a_NoNames
    g_NoAmount := PySem.W.mg_of X G a_NoAmount
    g_NoMany := PySem.W.mg_of X G a_NoMany
    g_NoText := PySem.W.mg_of X G a_NoText
    g_NoRow := PySem.W.mg_of X G a_NoRow
    g_NoName := PySem.W.mg_of X G a_NoName
    g_NoLot := PySem.W.mg_of X G a_NoLot
    g_NoPlace := PySem.W.mg_of X G a_NoPlace
    g_NoBack := PySem.W.mg_of X G a_NoBack
    g_Fails := PySem.W.mg_of X G a_Fails
    g_NoMates := PySem.W.mg_of X G a_NoMates
    g_TooMany := PySem.W.mg_of X G a_TooMany
    sup_NoText := { ini := ini_NoText, gC := PySem.W.mg_of X G a_NoText, noS := PySem.W.mg_none_of X G z_super, cls := ⟨_, _, _, _, _, _, _, _, _, _, _, _, _, _, _, exL_NoText, by first | rfl | with_unfolding_all rfl | decide⟩, sa := esa_NoText, ga := ega_NoText, gg := egg_NoText, noN := enb_NoText, iC := eiC_NoText, tC := etI_NoText, kC := ekC_NoText, exC := eeC_NoText, tyC := etC_NoText, hdC := ehC_NoText, vE := evE_NoText, slf := esf_NoText, sup := esu_NoText, opq := z_stat, top := z_top, fn := ⟨_, _, _, _, _, _, _, _, _, _, _, efn_NoText, ecd_NoText, ⟨_, _, _, elc_NoText⟩, _, _, _, _, _, _, elk_NoText, ehv_NoText, ehf_NoText⟩ }
    err_NoText := ⟨eic_NoText, ega_NoText, egg_NoText, eeC_NoText, eca_NoText, ecn_NoText, ect_NoText, eob_NoText⟩
    ko_NoText_NoNumber := o_NoText_NoNumber
    ko_NoText_NoDeed := o_NoText_NoDeed
    ko_NoText_NoBook := o_NoText_NoBook
    ko_NoText_NoWeb := o_NoText_NoWeb
    ko_NoText_NoNames := o_NoText_NoNames
    ko_NoText_NoAmount := o_NoText_NoAmount
    ko_NoText_NoMany := o_NoText_NoMany
    ko_NoText_NoText := o_NoText_NoText
    ko_NoText_NoRow := o_NoText_NoRow
    ko_NoText_NoName := o_NoText_NoName
    ko_NoText_NoLot := o_NoText_NoLot
    ko_NoText_NoPlace := o_NoText_NoPlace
    ko_NoText_NoBack := o_NoText_NoBack
    ko_NoText_Fails := o_NoText_Fails
    ko_NoText_NoMates := o_NoText_NoMates
    ko_NoText_TooMany := o_NoText_TooMany
    ko_NoText_ThankError := o_NoText_ThankError
    ko_NoText_LostError := o_NoText_LostError
    ko_NoText_StandError := o_NoText_StandError
    ko_NoText_ValueError := o_NoText_ValueError
    ko_NoText_LookupError := o_NoText_LookupError
    ko_NoText_ArithmeticError := o_NoText_ArithmeticError
    ex_NoText_ThankError := PySem.W.exm_ref xb_NoText_ThankError xh_NoText_ThankError xt_NoText_ThankError xs_NoText_ThankError
    m_ArithmeticError := PySem.W.mg_none_of X G z_ArithmeticError
    c_CHEST := PySem.W.mg_of X G v_CHEST
    c_FIGURES_AT_ONCE := PySem.W.mg_of X G v_FIGURES_AT_ONCE
    c_LIMIT_AT_ONCE := PySem.W.mg_of X G v_LIMIT_AT_ONCE
    m_LookupError := PySem.W.mg_none_of X G z_LookupError
    c_MOST_DEEDS := PySem.W.mg_of X G v_MOST_DEEDS
    c_MOST_LETTERS := PySem.W.mg_of X G v_MOST_LETTERS
    c_MOST_MEASURES := PySem.W.mg_of X G v_MOST_MEASURES
    m_ValueError := PySem.W.mg_none_of X G z_ValueError
    m_abs := PySem.W.mg_none_of X G z_abs
    m_all := PySem.W.mg_none_of X G z_all
    m_bool := PySem.W.mg_none_of X G z_bool
    m_divmod := PySem.W.mg_none_of X G z_divmod
    m_enumerate := PySem.W.mg_none_of X G z_enumerate
    m_int := PySem.W.mg_none_of X G z_int
    m_isinstance := PySem.W.mg_none_of X G z_isinstance
    m_len := PySem.W.mg_none_of X G z_len
    m_max := PySem.W.mg_none_of X G z_max
    m_min := PySem.W.mg_none_of X G z_min
    m_range := PySem.W.mg_none_of X G z_range
    m_repr := PySem.W.mg_none_of X G z_repr
    m_sorted := PySem.W.mg_none_of X G z_sorted
    m_str := PySem.W.mg_none_of X G z_str
    m_tuple := PySem.W.mg_none_of X G z_tuple
    m_zip := PySem.W.mg_none_of X G z_zip
    F_is_whole := F_is_whole
    g_is_whole := PySem.W.mg_of X G a_is_whole
    b_is_whole := F_is_whole.binds (ps := ["thing"]) fun _ _ _ _ _ _ us hl => match us, hl with | [_], _ => rfl
    F_is_name := F_is_name
    g_is_name := PySem.W.mg_of X G a_is_name
    b_is_name := F_is_name.binds (ps := ["thing"]) fun _ _ _ _ _ _ us hl => match us, hl with | [_], _ => rfl
    F_is_holder := F_is_holder
    g_is_holder := PySem.W.mg_of X G a_is_holder
    b_is_holder := F_is_holder.binds (ps := ["thing"]) fun _ _ _ _ _ _ us hl => match us, hl with | [_], _ => rfl
    F_is_measure := F_is_measure
    g_is_measure := PySem.W.mg_of X G a_is_measure
    b_is_measure := F_is_measure.binds (ps := ["thing"]) fun _ _ _ _ _ _ us hl => match us, hl with | [_], _ => rfl
    F_is_deed := F_is_deed
    g_is_deed := PySem.W.mg_of X G a_is_deed
    b_is_deed := F_is_deed.binds (ps := ["thing"]) fun _ _ _ _ _ _ us hl => match us, hl with | [_], _ => rfl
    F_is_short_deed := F_is_short_deed
    g_is_short_deed := PySem.W.mg_of X G a_is_short_deed
    b_is_short_deed := F_is_short_deed.binds (ps := ["row"]) fun _ _ _ _ _ _ us hl => match us, hl with | [_], _ => rfl
    F_is_deed_between_two := F_is_deed_between_two
    g_is_deed_between_two := PySem.W.mg_of X G a_is_deed_between_two
    b_is_deed_between_two := F_is_deed_between_two.binds (ps := ["row"]) fun _ _ _ _ _ _ us hl => match us, hl with | [_], _ => rfl
    F_is_figures := F_is_figures
    g_is_figures := PySem.W.mg_of X G a_is_figures
    b_is_figures := F_is_figures.binds (ps := ["text"]) fun _ _ _ _ _ _ us hl => match us, hl with | [_], _ => rfl
    F_read_whole := F_read_whole
    g_read_whole := PySem.W.mg_of X G a_read_whole
    b_read_whole := F_read_whole.binds (ps := ["text"]) fun _ _ _ _ _ _ us hl => match us, hl with | [_], _ => rfl
    F_lines_of := F_lines_of
    g_lines_of := PySem.W.mg_of X G a_lines_of
    b_lines_of := F_lines_of.binds (ps := ["text"]) fun _ _ _ _ _ _ us hl => match us, hl with | [_], _ => rfl
    F_read_part := F_read_part
    g_read_part := PySem.W.mg_of X G a_read_part
    b_read_part := F_read_part.binds (ps := ["word"]) fun _ _ _ _ _ _ us hl => match us, hl with | [_], _ => rfl
    F_read_deed := F_read_deed
    g_read_deed := PySem.W.mg_of X G a_read_deed
    b_read_deed := F_read_deed.binds (ps := ["line"]) fun _ _ _ _ _ _ us hl => match us, hl with | [_], _ => rfl
    F_read_book := F_read_book
    g_read_book := PySem.W.mg_of X G a_read_book
    b_read_book := F_read_book.binds (ps := ["text"]) fun _ _ _ _ _ _ us hl => match us, hl with | [_], _ => rfl
    F_Lcell := F_Lcell
    g_Lcell := PySem.W.mg_of X G a_Lcell
    b_Lcell := F_Lcell.binds (ps := ["_law_script", "_law_k"]) fun _ _ _ _ _ _ us hl => match us, hl with | [_, _], _ => rfl
    F_Lpool := F_Lpool
    g_Lpool := PySem.W.mg_of X G a_Lpool
    b_Lpool := F_Lpool.binds (ps := ["_law_cell_here"]) fun _ _ _ _ _ _ us hl => match us, hl with | [_], _ => rfl
    F_Ltake := F_Ltake
    g_Ltake := PySem.W.mg_of X G a_Ltake
    b_Ltake := F_Ltake.binds (ps := ["_law_pool_here", "_law_many"]) fun _ _ _ _ _ _ us hl => match us, hl with | [_, _], _ => rfl
    F_Lnames := F_Lnames
    g_Lnames := PySem.W.mg_of X G a_Lnames
    b_Lnames := F_Lnames.binds (ps := ["_law_pool_here", "_law_many"]) fun _ _ _ _ _ _ us hl => match us, hl with | [_, _], _ => rfl
    F_Lsort := F_Lsort
    g_Lsort := PySem.W.mg_of X G a_Lsort
    b_Lsort := F_Lsort.binds (ps := ["_law_e"]) fun _ _ _ _ _ _ us hl => match us, hl with | [_], _ => rfl
    F_Lline := F_Lline
    g_Lline := PySem.W.mg_of X G a_Lline
    b_Lline := F_Lline.binds (ps := ["_law_pool_here", "_law_names_here"]) fun _ _ _ _ _ _ us hl => match us, hl with | [_, _], _ => rfl
    F_Lis_name := F_Lis_name
    g_Lis_name := PySem.W.mg_of X G a_Lis_name
    b_Lis_name := F_Lis_name.binds (ps := ["_law_word"]) fun _ _ _ _ _ _ us hl => match us, hl with | [_], _ => rfl
    F_Ldeed_of := F_Ldeed_of
    g_Ldeed_of := PySem.W.mg_of X G a_Ldeed_of
    b_Ldeed_of := F_Ldeed_of.binds (ps := ["_law_line_here"]) fun _ _ _ _ _ _ us hl => match us, hl with | [_], _ => rfl
    F_Ldue := F_Ldue
    g_Ldue := PySem.W.mg_of X G a_Ldue
    b_Ldue := F_Ldue.binds (ps := ["_law_text"]) fun _ _ _ _ _ _ us hl => match us, hl with | [_], _ => rfl
    F_Ltold := F_Ltold
    g_Ltold := PySem.W.mg_of X G a_Ltold
    b_Ltold := F_Ltold.binds (ps := ["_law_matter"]) fun _ _ _ _ _ _ us hl => match us, hl with | [_], _ => rfl
    F_Lspoilt := F_Lspoilt
    g_Lspoilt := PySem.W.mg_of X G a_Lspoilt
    b_Lspoilt := F_Lspoilt.binds (ps := ["_law_pool_here", "_law_text"]) fun _ _ _ _ _ _ us hl => match us, hl with | [_, _], _ => rfl
  }
  exact ⟨PySem.W.fnOf "law" "law" (defArgs s_law) (defBody s_law) (defScope s_law) .none kV_law dc_law pm_law an_law cd_law ct_law, fun s v => .of_eq rfl, fun base _ _ => ok_law T F_law⟩
theorem walk {l : PySem.W.OpenLaw} {q : Program} {loose : List Str} {XP : (Str → Option Value) → Heap → Prop} {YP : World → Heap → Prop} {d : DefRec} {K : Params → PySem.W.Frag} (hn : l.most = some 63) (hdf : d.params.defaults = [])
    (hY : ∀ (w : World) (h : Heap), YP w h → (K w.params).In h)
    (F : ∀ (w : World) (mg : Str → Option Value) (fa : Addr) (h : Heap), (K w.params).In h → h.Ns mainGlobals mg → mg d.name = some (.ref fa) →
      ∃ fd : FuncData, (∀ (s : Shared) (u : Value), BindsTo s fd ⟨[u], []⟩ [("_law_script", u)]) ∧ ∀ base : Heap, (K w.params).In base → base.Ns mainGlobals mg → FnQ l.prog w (K w.params) mg base CX0 8 fa fd ["_law_script"] (spLaw (K w.params))) :
    PySem.W.WalkO q loose XP YP l.row.toRowW d [] (fun f vs => PySem.call f vs) :=
  walk_quiet (n := 63) (k := 8) (x := "_law_script") (C := fun _ => CX0) (sp := fun w => spLaw (K w.params)) hn (by decide) hdf ⟨⟨rfl, by decide, by decide⟩, rfl⟩ hY F (fun _ _ a ns hl _ hS => ⟨a, ns, rfl, hS, hl, fun _ => rfl⟩) fun _ _ _ _ _ z => z
end Ver
open PySem PySem.W PyProof.Rows in
set_option maxRecDepth 100000 in
set_option maxHeartbeats 0 in
theorem PySem.Challenge.cw_thankways_k14_texts_of_no_books_holds : PySem.Challenge.rw_thankways_k14_texts_of_no_books.Holds := by
  w_on; o_law; k_head; (case hw => w_witness2)
  k_fill
  refine Ver.walk (l := PySem.Challenge.rw_thankways_k14_texts_of_no_books) rfl rfl (fun w h Y => PySem.W.kIn_of Y) ?F
  case F =>
    intro w mg fa h KX G hmg
    refine' Ver.all_mk KX G hmg ?a_is_whole ?l_is_whole ?c_is_whole ?k_is_whole ?a_is_name ?l_is_name ?c_is_name ?k_is_name ?a_is_holder ?l_is_holder ?c_is_holder ?k_is_holder ?a_is_measure ?l_is_measure ?c_is_measure ?k_is_measure ?a_is_deed ?l_is_deed ?c_is_deed ?k_is_deed ?a_is_short_deed ?l_is_short_deed ?c_is_short_deed ?k_is_short_deed ?a_is_deed_between_two ?l_is_deed_between_two ?c_is_deed_between_two ?k_is_deed_between_two ?a_is_figures ?l_is_figures ?c_is_figures ?k_is_figures ?a_read_whole ?l_read_whole ?c_read_whole ?k_read_whole ?a_lines_of ?l_lines_of ?c_lines_of ?k_lines_of ?a_read_part ?l_read_part ?c_read_part ?k_read_part ?a_read_deed ?l_read_deed ?c_read_deed ?k_read_deed ?a_read_book ?l_read_book ?c_read_book ?k_read_book ?a_Lcell ?l_Lcell ?c_Lcell ?k_Lcell ?a_Lpool ?l_Lpool ?c_Lpool ?k_Lpool ?a_Ltake ?l_Ltake ?c_Ltake ?k_Ltake ?a_Lnames ?l_Lnames ?c_Lnames ?k_Lnames ?a_Lsort ?l_Lsort ?c_Lsort ?k_Lsort ?a_Lline ?l_Lline ?c_Lline ?k_Lline ?a_Lis_name ?l_Lis_name ?c_Lis_name ?k_Lis_name ?a_Ldeed_of ?l_Ldeed_of ?c_Ldeed_of ?k_Ldeed_of ?a_Ldue ?l_Ldue ?c_Ldue ?k_Ldue ?a_Ltold ?l_Ltold ?c_Ltold ?k_Ltold ?a_Lspoilt ?l_Lspoilt ?c_Lspoilt ?k_Lspoilt ?a_law ?l_law ?c_law ?k_law ?a_ThankError ?a_LostError ?a_StandError ?a_NoNumber ?a_NoDeed ?a_NoBook ?a_NoWeb ?a_NoNames ?a_NoAmount ?a_NoMany ?a_NoText ?a_NoRow ?a_NoName ?a_NoLot ?a_NoPlace ?a_NoBack ?a_Fails ?a_NoMates ?a_TooMany ?exL_NoText ?esa_NoText ?ega_NoText ?egg_NoText ?enb_NoText ?eiC_NoText ?etI_NoText ?ekC_NoText ?eeC_NoText ?etC_NoText ?ehC_NoText ?evE_NoText ?esf_NoText ?esu_NoText ?efn_NoText ?ecd_NoText ?elc_NoText ?elk_NoText ?ehv_NoText ?ehf_NoText ?eic_NoText ?eca_NoText ?ecn_NoText ?ect_NoText ?eob_NoText ?o_NoText_NoNumber ?o_NoText_NoDeed ?o_NoText_NoBook ?o_NoText_NoWeb ?o_NoText_NoNames ?o_NoText_NoAmount ?o_NoText_NoMany ?o_NoText_NoText ?o_NoText_NoRow ?o_NoText_NoName ?o_NoText_NoLot ?o_NoText_NoPlace ?o_NoText_NoBack ?o_NoText_Fails ?o_NoText_NoMates ?o_NoText_TooMany ?o_NoText_ThankError ?o_NoText_LostError ?o_NoText_StandError ?o_NoText_ValueError ?o_NoText_LookupError ?o_NoText_ArithmeticError ?xb_NoText_ThankError ?xh_NoText_ThankError ?xt_NoText_ThankError ?xs_NoText_ThankError ?z_super ?z_stat ?z_top ?z_ArithmeticError ?v_CHEST ?v_FIGURES_AT_ONCE ?v_LIMIT_AT_ONCE ?z_LookupError ?v_MOST_DEEDS ?v_MOST_LETTERS ?v_MOST_MEASURES ?z_ValueError ?z_abs ?z_all ?z_bool ?z_divmod ?z_enumerate ?z_int ?z_isinstance ?z_len ?z_max ?z_min ?z_range ?z_repr ?z_sorted ?z_str ?z_tuple ?z_zip
    (case a_is_whole => k_is)
    (case l_is_whole => k_is)
    (case c_is_whole => k_is)
    (case k_is_whole => k_is)
    (case a_is_name => k_is)
    (case l_is_name => k_is)
    (case c_is_name => k_is)
    (case k_is_name => k_is)
    (case a_is_holder => k_is)
    (case l_is_holder => k_is)
    (case c_is_holder => k_is)
    (case k_is_holder => k_is)
    (case a_is_measure => k_is)
    (case l_is_measure => k_is)
    (case c_is_measure => k_is)
    (case k_is_measure => k_is)
    (case a_is_deed => k_is)
    (case l_is_deed => k_is)
    (case c_is_deed => k_is)
    (case k_is_deed => k_is)
    (case a_is_short_deed => k_is)
    (case l_is_short_deed => k_is)
    (case c_is_short_deed => k_is)
    (case k_is_short_deed => k_is)
    (case a_is_deed_between_two => k_is)
    (case l_is_deed_between_two => k_is)
    (case c_is_deed_between_two => k_is)
    (case k_is_deed_between_two => k_is)
    (case a_is_figures => k_is)
    (case l_is_figures => k_is)
    (case c_is_figures => k_is)
    (case k_is_figures => k_is)
    (case a_read_whole => k_is)
    (case l_read_whole => k_is)
    (case c_read_whole => k_is)
    (case k_read_whole => k_is)
    (case a_lines_of => k_is)
    (case l_lines_of => k_is)
    (case c_lines_of => k_is)
    (case k_lines_of => k_is)
    (case a_read_part => k_is)
    (case l_read_part => k_is)
    (case c_read_part => k_is)
    (case k_read_part => k_is)
    (case a_read_deed => k_is)
    (case l_read_deed => k_is)
    (case c_read_deed => k_is)
    (case k_read_deed => k_is)
    (case a_read_book => k_is)
    (case l_read_book => k_is)
    (case c_read_book => k_is)
    (case k_read_book => k_is)
    (case a_Lcell => k_is)
    (case l_Lcell => k_is)
    (case c_Lcell => k_is)
    (case k_Lcell => k_is)
    (case a_Lpool => k_is)
    (case l_Lpool => k_is)
    (case c_Lpool => k_is)
    (case k_Lpool => k_is)
    (case a_Ltake => k_is)
    (case l_Ltake => k_is)
    (case c_Ltake => k_is)
    (case k_Ltake => k_is)
    (case a_Lnames => k_is)
    (case l_Lnames => k_is)
    (case c_Lnames => k_is)
    (case k_Lnames => k_is)
    (case a_Lsort => k_is)
    (case l_Lsort => k_is)
    (case c_Lsort => k_is)
    (case k_Lsort => k_is)
    (case a_Lline => k_is)
    (case l_Lline => k_is)
    (case c_Lline => k_is)
    (case k_Lline => k_is)
    (case a_Lis_name => k_is)
    (case l_Lis_name => k_is)
    (case c_Lis_name => k_is)
    (case k_Lis_name => k_is)
    (case a_Ldeed_of => k_is)
    (case l_Ldeed_of => k_is)
    (case c_Ldeed_of => k_is)
    (case k_Ldeed_of => k_is)
    (case a_Ldue => k_is)
    (case l_Ldue => k_is)
    (case c_Ldue => k_is)
    (case k_Ldue => k_is)
    (case a_Ltold => k_is)
    (case l_Ltold => k_is)
    (case c_Ltold => k_is)
    (case k_Ltold => k_is)
    (case a_Lspoilt => k_is)
    (case l_Lspoilt => k_is)
    (case c_Lspoilt => k_is)
    (case k_Lspoilt => k_is)
    (case a_law => k_is)
    (case l_law => k_is)
    (case c_law => k_is)
    (case k_law => k_is)
    (case a_ThankError => k_is)
    (case a_LostError => k_is)
    (case a_StandError => k_is)
    (case a_NoNumber => k_is)
    (case a_NoDeed => k_is)
    (case a_NoBook => k_is)
    (case a_NoWeb => k_is)
    (case a_NoNames => k_is)
    (case a_NoAmount => k_is)
    (case a_NoMany => k_is)
    (case a_NoText => k_is)
    (case a_NoRow => k_is)
    (case a_NoName => k_is)
    (case a_NoLot => k_is)
    (case a_NoPlace => k_is)
    (case a_NoBack => k_is)
    (case a_Fails => k_is)
    (case a_NoMates => k_is)
    (case a_TooMany => k_is)
    (case exL_NoText => k_is)
    (case esa_NoText => k_is)
    (case ega_NoText => k_is)
    (case egg_NoText => k_is)
    (case enb_NoText => k_is)
    (case eiC_NoText => k_is)
    (case etI_NoText => k_is)
    (case ekC_NoText => k_is)
    (case eeC_NoText => k_is)
    (case etC_NoText => k_is)
    (case ehC_NoText => k_is)
    (case evE_NoText => k_is)
    (case esf_NoText => k_is)
    (case esu_NoText => ks_is)
    (case efn_NoText => k_is)
    (case ecd_NoText => k_is)
    (case elc_NoText => k_is)
    (case elk_NoText => k_is)
    (case ehv_NoText => rfl)
    (case ehf_NoText => first | rfl | decide +kernel)
    (case eic_NoText => k_is)
    (case eca_NoText => k_is)
    (case ecn_NoText => k_is)
    (case ect_NoText => k_is)
    (case eob_NoText => k_is)
    (case o_NoText_NoNumber => kit_is)
    (case o_NoText_NoDeed => kit_is)
    (case o_NoText_NoBook => kit_is)
    (case o_NoText_NoWeb => kit_is)
    (case o_NoText_NoNames => kit_is)
    (case o_NoText_NoAmount => kit_is)
    (case o_NoText_NoMany => kit_is)
    (case o_NoText_NoText => kit_is)
    (case o_NoText_NoRow => kit_is)
    (case o_NoText_NoName => kit_is)
    (case o_NoText_NoLot => kit_is)
    (case o_NoText_NoPlace => kit_is)
    (case o_NoText_NoBack => kit_is)
    (case o_NoText_Fails => kit_is)
    (case o_NoText_NoMates => kit_is)
    (case o_NoText_TooMany => kit_is)
    (case o_NoText_ThankError => kit_is)
    (case o_NoText_LostError => kit_is)
    (case o_NoText_StandError => kit_is)
    (case o_NoText_ValueError => kit_is)
    (case o_NoText_LookupError => kit_is)
    (case o_NoText_ArithmeticError => kit_is)
    (case xb_NoText_ThankError => k_is)
    (case xh_NoText_ThankError => k_is)
    (case xt_NoText_ThankError => k_is)
    (case xs_NoText_ThankError => k_is)
    (case z_super => k_is)
    (case z_stat => k_is)
    (case z_top => first | rfl | decide +kernel)
    (case z_ArithmeticError => k_is)
    (case v_CHEST => k_is)
    (case v_FIGURES_AT_ONCE => k_is)
    (case v_LIMIT_AT_ONCE => k_is)
    (case z_LookupError => k_is)
    (case v_MOST_DEEDS => k_is)
    (case v_MOST_LETTERS => k_is)
    (case v_MOST_MEASURES => k_is)
    (case z_ValueError => k_is)
    (case z_abs => k_is)
    (case z_all => k_is)
    (case z_bool => k_is)
    (case z_divmod => k_is)
    (case z_enumerate => k_is)
    (case z_int => k_is)
    (case z_isinstance => k_is)
    (case z_len => k_is)
    (case z_max => k_is)
    (case z_min => k_is)
    (case z_range => k_is)
    (case z_repr => k_is)
    (case z_sorted => k_is)
    (case z_str => k_is)
    (case z_tuple => k_is)
    (case z_zip => k_is)
