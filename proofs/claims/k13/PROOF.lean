import PyProof.Rows.All
import Wide.All
import OpenK.AllK
import Wide.FinOn
import HandS.ForMost
import HandS.IsInst
import HandS.WideBits
import HandS.Wide
import HandS.Defaults
import HandS.TupMul
import HandS.Flow
import HandS.Codes
import HandS.Style
import HandS.TupAny
import HandS.Zip
import KE.GoesZip
import KE.GoesMore
import KE.KRevSl
import KE.DataEq
import KE.LtData
import KE.SortData
import KE.KExcSuper
import KE.RegKSuper
import HandS.Exc
import HandS.ExcInit
import HandS.ExcIs
import HandS.ExcField
import HandS.ExcOwn
import HandS.HotCalls
import HandS.WordsExc
import KE.KExcIs
import HandS.Iter
import KE.IntTextLaws
import KE.KIntText
import HandS.RaiseMore
import KE.GoesEnum
import PySem.Challenge.RW_thankways_k13_books_as_texts
set_option Elab.async false
set_option linter.all false
set_option maxRecDepth 100000
set_option maxHeartbeats 4000000
/-! zip of a tuple and a text, walked by a for or a comprehension. -/
namespace ZipS
open PySem PySem.Spec PyProof.Rows L2
/-- the items of the tuple at a beside the signs of x, each pair in a new tuple -/
def ItzS (K : PySem.W.Frag) (a : Addr) (x : Str) : It where
  go := fun i H => ∃ (xs : List V) (v : V) (c : Nat), SqT K H a xs ∧ xs[i]? = some v ∧ x.cps[i]? = some c
  yld := fun i H v H' => ∃ (T : Addr) (y : V) (c : Nat), v = .ref T ∧ H T = none ∧ H' = upd H T (.tup [y, .str ⟨#[c]⟩]) ∧ (∀ xs, SqT K H a xs → xs[i]? = some y) ∧ x.cps[i]? = some c
  stop := fun i H => ∃ xs : List V, SqT K H a xs ∧ i ≤ xs.length ∧ i ≤ x.cps.size ∧ (i = xs.length ∨ i = x.cps.size)
/-- how the cells of such a zip stand ahead of the turn i -/
def StS (a z TI TO i1 i2 : Addr) (x : Str) (t : Tok) (i : Nat) (h : Heap) : Prop :=
  IsZip h z TI TO .none ∧ IsTupOf2 h TI (.ref i1) (.ref i2) ∧ (∃ a1 a2, IsTupOf2 h TO a1 a2) ∧ h.IsTupleIter i1 a i ∧ h.IsStrIter i2 (strIterType x) x t i
theorem turn_zipS {P : Program} {w : World} {K : PySem.W.Frag} {elts : List Expr} {kk : Nat} {tpos : Pos} {a z TI TO i1 i2 : Addr} {x : Str} {t : Tok} (D : ZipSep2 z TI TO i1 i2 [i1, a] [i2]) (hne : a ≠ i1) :
    Turn P w K (.Tuple elts kk tpos) (ItzS K a x) [z, TI, TO, i1, i2] z (StS a z TI TO i1 i2 x t) where
  mem := List.mem_cons_self
  obj := by
    rintro i h ⟨hz, hTI, ⟨b1, b2, hTO⟩, ⟨o1, e1, _, d1⟩, ⟨o2, e2, _, d2⟩⟩ c hc
    simp only [List.mem_cons, List.not_mem_nil, or_false] at hc
    rcases hc with rfl | rfl | rfl | rfl | rfl
    · exact ⟨_, hz, fun v q => by cases q⟩
    · exact ⟨_, hTI, fun v q => by cases q⟩
    · exact ⟨_, hTO, fun v q => by cases q⟩
    · exact ⟨o1, e1, fun v q => by rw [d1] at q; cases q⟩
    · exact ⟨o2, e2, fun v q => by rw [d2] at q; cases q⟩
  keep := by
    rintro i h h' ⟨hz, hTI, ⟨b1, b2, hTO⟩, h1, ⟨o2, e2, c2, d2⟩⟩ k
    exact ⟨k z (by simp) _ hz, k TI (by simp) _ hTI, ⟨b1, b2, k TO (by simp) _ hTO⟩, h1.at fun o q => k i1 (by simp) o q, ⟨o2, k i2 (by simp) _ e2, c2, d2⟩⟩
  item := by
    intro X hP hw hK hc i pins s σ H E I hf st hg
    subst hP hw hK
    obtain ⟨hz, hTI, ⟨b1, b2, hTO⟩, h1, h2⟩ := st
    obtain ⟨xs, y, c, hq, hy, hcx⟩ := hg
    obtain ⟨its, rv, p, _⟩ := I.tuple hq
    have hh : X.A.in1.handled = none := I.ok.hd hc
    have l1 : i < its.toArray.size := by
      have := (List.getElem?_eq_some_iff.mp hy).1
      have := rv.length
      simp only [List.size_toArray]
      omega
    have l2 : i < x.cps.size := (Array.getElem?_eq_some_iff.mp hcx).1
    refine wpAny_pyNext_zipD2_item (A := X.A) D (Draws.tuple hh i1 a hne its.toArray) (Draws.text hh i2 x t) hz hTI hTO ⟨h1, (show s.heap.IsTuple a its.toArray from p)⟩ h2 l1 l2 fun x1 x2 h' tk p1 p2 z' TO' s1 s2 hT hsz hk => ?_
    obtain ⟨c', u', hc', rfl⟩ := p2
    have ec : c' = c := Option.some.inj (hc'.symm.trans hcx)
    subst ec
    obtain ⟨u, hu, ru⟩ := rv.get hy
    have eu : x1 = u := by
      have : its[i]? = some x1 := by simpa using p1
      exact Option.some.inj (this.symm.trans hu)
    subst eu
    refine ⟨_, rfl, ?_⟩
    refine wpAny_letOwnedTupleGo_zip (s := { s with heap := h', toks := tk }) z' fun h2' z2 sb => ?_
    have zlt : z < s.heap.objs.size := Heap.lt_size hz
    have T2 : h2'.get? s.heap.objs.size = some { cls := .type "tuple", data := .seq #[x1, .str ⟨#[c']⟩ u'] } := (sb.2 _ (Nat.ne_of_gt zlt)).trans hT
    have new : ObjOk X.prog X.w (upd H s.heap.objs.size (.tup [y, .str ⟨#[c']⟩])) h2' s.heap.objs.size (.tup [y, .str ⟨#[c']⟩]) :=
      ⟨by show 2 ≤ sizeLine; decide, [x1, .str ⟨#[c']⟩ u'], .cons ru (.cons ⟨u', rfl⟩ .nil), ⟨_, T2, rfl, _, rfl⟩⟩
    have kk' : ∀ b o, b ∉ [z, TI, TO, i1, i2] → s.heap.get? b = some o → h2'.get? b = some o := fun b o hb q => by
      simp only [List.mem_cons, List.not_mem_nil, or_false, not_or] at hb
      exact (sb.2 b hb.1).trans (hk b o hb.1 hb.2.2.1 hb.2.2.2.1 hb.2.2.2.2 q)
    have I1 : Inv X pins σ (upd H s.heap.objs.size (.tup [y, .str ⟨#[c']⟩])) { s with heap := h2', toks := tk } := I.turnedNew (t' := tk) kk' hf (Nat.le_refl _) new
    refine ⟨.ref s.heap.objs.size, _, I1, rfl, ⟨_, y, c', rfl, I.hok.fresh (Nat.le_refl _), rfl, fun l hl => by rw [I.tuple_inj hl hq]; exact hy, hcx⟩, ⟨z2, ?_, ⟨x1, .str ⟨#[c']⟩ u', ?_⟩, ?_, ?_⟩, fun b hb => ?_⟩
    · exact (sb.2 _ D.TIz).trans (hk _ _ D.TIz D.TITO D.TIi1 D.TIi2 hTI)
    · exact (sb.2 _ D.TOz).trans TO'
    · exact s1.1.at fun o q => (sb.2 _ D.zi1.symm).trans q
    · obtain ⟨o, e, c0, d⟩ := s2
      exact ⟨o, (sb.2 _ D.zi2.symm).trans e, c0, d⟩
    · have lt : b < s.heap.objs.size := by
        simp only [List.mem_cons, List.not_mem_nil, or_false] at hb
        obtain ⟨o1, e1, _⟩ := h1
        obtain ⟨o2, e2, _⟩ := h2
        rcases hb with rfl | rfl | rfl | rfl | rfl
        · exact zlt
        · exact Heap.lt_size hTI
        · exact Heap.lt_size hTO
        · exact Heap.lt_size e1
        · exact Heap.lt_size e2
      rw [upd_ne (Nat.ne_of_lt lt)]
      exact (hf b hb).1
  done := by
    intro X hP hw hK hc i pins s σ H E I hf st hg
    subst hP hw hK
    obtain ⟨hz, hTI, ⟨b1, b2, hTO⟩, h1, h2⟩ := st
    obtain ⟨xs, hq, le1, le2, hend⟩ := hg
    obtain ⟨its, rv, p, _⟩ := I.tuple hq
    have hh : X.A.in1.handled = none := I.ok.hd hc
    have el : its.toArray.size = xs.length := by
      have := rv.length
      simp only [List.size_toArray]
      omega
    refine wpAny_pyNext_zipD2_end (A := X.A) D (Draws.tuple hh i1 a hne its.toArray) (Draws.text hh i2 x t) hz hTI hTO ⟨h1, (show s.heap.IsTuple a its.toArray from p)⟩ h2 (by omega) le2 (by omega) fun h' tk hk => ?_
    refine ⟨rfl, I.turnedL (t' := tk) (ch := [z, TI, TO, i1, i2]) (fun b o hb q => ?_) hf⟩
    simp only [List.mem_cons, List.not_mem_nil, or_false, not_or] at hb
    exact hk b o hb.1 hb.2.2.1 hb.2.2.2.1 hb.2.2.2.2 q
  self := fun A i s Q E st h => wpAny_pyIter_zip st.1 h
def iZipS (K : PySem.W.Frag) (ta : TA) : TI := fun σ H R => ta σ H fun vs H1 => ∃ (a : Addr) (x : Str) (xs : List V), vs = [.ref a, .str x] ∧ SqT K H1 a xs ∧ R (ItzS K a x) H1
theorem sep_new {n a : Nat} (h : a < n) : ZipSep2 (n + 4) (n + 2) (n + 3) n (n + 1) [n, a] [n + 1] where
  TIz := fun e => by have e : n + 2 = n + 4 := e; omega
  TOz := fun e => by have e : n + 3 = n + 4 := e; omega
  TITO := fun e => by have e : n + 2 = n + 3 := e; omega
  TIi1 := fun e => by have e : n + 2 = n := e; omega
  mem1 := List.mem_cons_self
  zf1 := fun e => by
    rcases List.mem_cons.mp e with e | e
    · have e : n + 4 = n := e
      omega
    · have e : n + 4 = a := by simpa using e
      omega
  Tf1 := fun e => by
    rcases List.mem_cons.mp e with e | e
    · have e : n + 3 = n := e
      omega
    · have e : n + 3 = a := by simpa using e
      omega
  TIi2 := fun e => by have e : n + 2 = n + 1 := e; omega
  mem2 := List.mem_cons_self
  zf2 := fun e => by
    have e : n + 4 = n + 1 := by simpa using e
    omega
  Tf2 := fun e => by
    have e : n + 3 = n + 1 := by simpa using e
    omega
  sep1_2 := fun e => by
    have e : n = n + 1 := by simpa using e
    omega
  sep2_1 := fun e => by
    rcases List.mem_cons.mp e with e | e
    · have e : n + 1 = n := e
      omega
    · have e : n + 1 = a := by simpa using e
      omega
theorem pi_zipS {X : Cx} {K : PySem.W.Frag} {e e2 : Expr} {ta : TA} {p pos tpos : Pos} {elts : List Expr} {kk : Nat} (hK : X.K = K) (hg : Gl X "zip") (hm : X.mg "zip" = none) (ha : PA X [e, e2] ta)
    (hs : starEach [e, e2] X.env = (false, eval e X.env) :: starEach [e2] X.env := by rfl) (hpl : (backTo pos (starEach [e2] X.env)).any (·.1) = false := by rfl) :
    PI X (.Tuple elts kk tpos) (.Call (.Name "zip" p) [e, e2] [] pos) (iZipS K ta) := by
  subst hK
  refine ⟨fun pins s σ H R I h => ?_⟩
  refine Call_ (ld_blt I hg hm PyProof.Rows.boot_zip (PyProof.Rows.callWith_type1 (thn (ha.run pos pins s σ H _ I h) fun us s1 ⟨vs, H1, I1, r1, q1⟩ => ?_) hs hpl))
  obtain ⟨a, x, xs, rfl, hq, q⟩ := q1
  obtain ⟨u1, u2, rfl, ra, t, rfl⟩ := vals2 r1
  cases ra
  obtain ⟨its, rv, p1, _⟩ := I1.tuple hq
  have la : a < s1.heap.objs.size := let ⟨_, e, _⟩ := p1; Heap.lt_size e
  refine zip_begins2 (begins_tuple a its.toArray) (begins_text x t) (show s1.heap.IsTuple a its.toArray from p1) trivial fun h' hz hTI hTO g1 g2 hsz hk => wpAny_pyIter_zip hz ?_
  have I2 : Inv X pins σ H1 { s1 with heap := h' } := I1.kept (t' := s1.toks) hk
  have D := sep_new la
  refine ⟨s1.heap.objs.size + 4, [s1.heap.objs.size + 4, s1.heap.objs.size + 2, s1.heap.objs.size + 3, s1.heap.objs.size, s1.heap.objs.size + 1], _, _, H1, rfl, I2, turn_zipS D (Nat.ne_of_lt la), ⟨hz, hTI, ⟨_, _, hTO⟩, ⟨_, g1, rfl, rfl⟩, ⟨_, g2, rfl, rfl⟩⟩, fun b hb => ?_, q⟩
  have hle : s1.heap.objs.size ≤ b := by
    simp only [List.mem_cons, List.not_mem_nil, or_false] at hb
    rcases hb with rfl | rfl | rfl | rfl | rfl
    · exact Nat.le_add_right _ _
    · exact Nat.le_add_right _ _
    · exact Nat.le_add_right _ _
    · exact Nat.le_refl _
    · exact Nat.le_add_right _ _
  exact I1.fpOk hle (I1.hok.fresh hle)
/-- a loop over such a zip -/
theorem for_zipS {K : PySem.W.Frag} {a : Addr} {x : Str} {xs : List V} {g : TG} {tb : TS} {D : Ends} {σ : L2.St} {H : Hp} (n : Nat) (hn : n = min xs.length x.cps.size) (Pv : Nat → L2.St → Hp → Prop) (h0 : Pv 0 σ H) (hq : ∀ i σ H, Pv i σ H → SqT K H a xs)
    (hs : ∀ (i : Nat) (y : V) (c : Nat) (T : Addr) (σ : L2.St) (H : Hp), xs[i]? = some y → x.cps[i]? = some c → Pv i σ H → H T = none → g (.ref T) σ (upd H T (.tup [y, .str ⟨#[c]⟩])) fun σ2 H2 => tb { D with nx := Pv (i + 1), ct := Pv (i + 1), bk := D.nx } σ2 H2)
    (hd : ∀ σ H, Pv n σ H → D.nx σ H) :
    ∃ W : Nat → Nat → L2.St → Hp → Prop, (∃ m, W 0 m σ H) ∧ ∀ i m σ H, W i m σ H →
      ((ItzS K a x).stop i H ∧ D.nx σ H) ∨ ((ItzS K a x).go i H ∧ ∃ N : L2.St → Hp → Prop, (∀ σ' H', N σ' H' → ∃ m', m' < m ∧ W (i + 1) m' σ' H') ∧ ∀ v H', (ItzS K a x).yld i H v H' → g v σ H' fun σ2 H2 => tb { D with nx := N, ct := N, bk := D.nx } σ2 H2) := by
  refine ⟨fun i m σ H => m = n - i ∧ i ≤ n ∧ Pv i σ H, ⟨n, by simp, Nat.zero_le _, h0⟩, ?_⟩
  rintro i m σ H ⟨rfl, hi, P⟩
  have q := hq i σ H P
  by_cases hlt : i < n
  · have l1 : i < xs.length := by omega
    have l2 : i < x.cps.size := by omega
    refine .inr ⟨⟨xs, xs[i], x.cps[i], q, List.getElem?_eq_getElem l1, Array.getElem?_eq_getElem l2⟩, Pv (i + 1), fun σ' H' P' => ⟨n - (i + 1), by omega, rfl, hlt, P'⟩, ?_⟩
    rintro v H' ⟨T, y, c, rfl, nT, rfl, f, hc⟩
    exact hs i y c T σ H (f xs q) hc P nT
  · have e : i = n := by omega
    subst e
    exact .inl ⟨⟨xs, q, by omega, by omega, by omega⟩, hd σ H P⟩
end ZipS
/-! The steps of a reading, one lemma a construct, and the heaps of a law with a pool. -/
namespace Ver
open PySem PySem.Spec PyProof.Rows L2

/-! ### heaps: all is kept but what stands at the one place -/
/-- all that was tracked is kept, but at p -/
def Kp (p : Addr) (H H' : Hp) : Prop := ∀ a o, a ≠ p → H a = some o → H' a = some o
/-- all is kept -/
def Ex (H H' : Hp) : Prop := ∀ a o, H a = some o → H' a = some o
theorem Ex.refl (H : Hp) : Ex H H := fun _ _ h => h
theorem Ex.trans {H H1 H2 : Hp} (a : Ex H H1) (b : Ex H1 H2) : Ex H H2 := fun x o h => b x o (a x o h)
theorem Ex.new {H : Hp} {p : Addr} {o : HO} (h : H p = none) : Ex H (upd H p o) := fun a u e => by
  rw [upd_ne (ne_of_none e h)]
  exact e
theorem Ex.kp {p : Addr} {H H' : Hp} (e : Ex H H') : Kp p H H' := fun a o _ h => e a o h
theorem Kp.refl (p : Addr) (H : Hp) : Kp p H H := fun _ _ _ h => h
theorem Kp.trans {p : Addr} {H H1 H2 : Hp} (a : Kp p H H1) (b : Kp p H1 H2) : Kp p H H2 := fun x o n h => b x o n (a x o n h)
theorem Kp.set {p : Addr} {H : Hp} {o : HO} : Kp p H (upd H p o) := fun a u n e => by
  rw [upd_ne n]
  exact e
theorem Kp.new {p q : Addr} {H : Hp} {o : HO} (h : H q = none) : Kp p H (upd H q o) := (Ex.new h).kp
/-- a thing that H does not know may change -/
theorem Ex.mut {H H' : Hp} {p : Addr} {o : HO} (e : Ex H H') (h : H p = none) : Ex H (upd H' p o) := fun a u ha => by
  rw [upd_ne (ne_of_none ha h)]
  exact e a u ha
theorem Kp.mut {q : Addr} {H H' : Hp} {p : Addr} {o : HO} (e : Kp q H H') (h : H p = none) : Kp q H (upd H' p o) := fun a u n ha => by
  rw [upd_ne (ne_of_none ha h)]
  exact e a u n ha
theorem Ex.free {H H' : Hp} {p : Addr} (e : Ex H H') (h : H' p = none) : H p = none := by
  cases h1 : H p with
  | none => rfl
  | some o =>
    rw [e p o h1] at h
    cases h
theorem Kp.free {q : Addr} {H H' : Hp} {p : Addr} (e : Kp q H H') (n : p ≠ q) (h : H' p = none) : H p = none := by
  cases h1 : H p with
  | none => rfl
  | some o =>
    rw [e p o n h1] at h
    cases h
theorem Kp.back {p : Addr} {H H1 H2 : Hp} (e : Ex H H1) (k : Kp p H1 H2) (n : H p = none) : Ex H H2 := fun a o h => k a o (ne_of_none h n) (e a o h)
theorem Ex.get {H H' : Hp} {a : Addr} {o : HO} (e : Ex H H') (h : H a = some o) : H' a = some o := e a o h
theorem Kp.get {p : Addr} {H H' : Hp} {a : Addr} {o : HO} (e : Kp p H H') (n : a ≠ p) (h : H a = some o) : H' a = some o := e a o n h
theorem Ex.rd {H H' : Hp} {a : Addr} {u : HO} (e : Ex H H') (h : Rd H a u) : Rd H' a u := by
  rcases h with h | ⟨o, h⟩
  · exact Or.inl (e a _ h)
  · exact Or.inr ⟨o, e a _ h⟩
theorem Ex.sq {K : PySem.W.Frag} {H H' : Hp} {a : Addr} {xs : List V} (e : Ex H H') (h : SqL K H a xs) : SqL K H' a xs := by
  rcases h with h | h
  · exact Or.inl (e.rd h)
  · exact Or.inr h
theorem Ex.st {K : PySem.W.Frag} {H H' : Hp} {a : Addr} {xs : List V} (e : Ex H H') (h : SqT K H a xs) : SqT K H' a xs := by
  rcases h with h | h
  · exact Or.inl (e.rd h)
  · exact Or.inr h
theorem sz6 {n : Nat} (h : n ≤ 100000) : n ≤ sizeLine := Nat.le_trans h (by decide)
theorem sz6' {n : Nat} (h : n ≤ 100000) : n < sizeLine := Nat.lt_of_le_of_lt h (by decide)

/-- a new object: what is wanted of its place and of the heap with it -/
def Al (Q : VK) (o : HO) (H : Hp) : Prop := ∀ p, H p = none → Q (.ref p) (upd H p o)
theorem alI {Q : VK} {o : HO} {H : Hp} (h : ∀ p H', H p = none → Ex H H' → H' p = some o → Q (.ref p) H') : Al Q o H := fun p hp => h p _ hp (Ex.new hp) upd_same

/-! ### the steps -/
section
variable {K : PySem.W.Frag} {σ : L2.St} {H : Hp} {Q : VK} {QT : Bool → Hp → Prop} {QA : List V → Hp → Prop} {QO : Option Int → Hp → Prop} {ta tb tc te : TE} {tt tu : TT} {v x y : V} {r r' : R2} {D : Ends} {ts us : TS} {g : TG} {tA tR : TA}
theorem wVar {i : Nat} (h : σ[i]? = some (some v)) (k : Q v H) : tVar i σ H Q := ⟨v, h, k⟩
theorem wC (k : Q v H) : tC v σ H Q := k
theorem wOp (k : ta σ H fun x H1 => tb σ H1 fun y H2 => r x y H2 Q) : tOp r ta tb σ H Q := k
theorem wUn {r : V → Hp → VK → Prop} (k : ta σ H fun x H1 => r x H1 Q) : tUn r ta σ H Q := k
theorem wCB {r : List V → Hp → VK → Prop} (k : tA σ H fun vs H1 => r vs H1 Q) : tCB r tA σ H Q := k
theorem wNil (k : QA [] H) : tNil σ H QA := k
theorem wCons (k : ta σ H fun x H1 => tR σ H1 fun xs H2 => QA (x :: xs) H2) : tCons ta tR σ H QA := k
theorem wCall {sp : Sp} {dvs : List V} {E : XK} (k : tA σ H fun vs H1 => sp (vs ++ dvs) H1 Q E) : tCall sp dvs E tA σ H Q := k
theorem wTest (k : te σ H fun x H' => ∃ k, x = .bl k ∧ QT k H') : tTest te σ H QT := k
theorem wB (k : te σ H fun x H' => ∃ k, x = .bl k ∧ QT k H') : tB te σ H QT := k
theorem wAnd (k : tt σ H fun c H1 => if c = true then tu σ H1 QT else QT false H1) : tAnd tt tu σ H QT := k
theorem wOr (k : tt σ H fun c H1 => if c = true then QT true H1 else tu σ H1 QT) : tOr tt tu σ H QT := k
theorem wNot (k : tt σ H fun c H1 => QT (!c) H1) : tNot tt σ H QT := k
theorem wAndV (k : ta σ H fun x H1 => ∃ c, x = .bl c ∧ if c = true then tb σ H1 Q else Q (.bl false) H1) : tAndV ta tb σ H Q := k
theorem wOrV (k : ta σ H fun x H1 => ∃ c, x = .bl c ∧ if c = true then Q (.bl true) H1 else tb σ H1 Q) : tOrV ta tb σ H Q := k
theorem wNotV (k : ta σ H fun x H1 => ∃ c, x = .bl c ∧ Q (.bl (!c)) H1) : tNotV ta σ H Q := k
theorem wIf (k : tt σ H fun c H1 => if c = true then ta σ H1 Q else tb σ H1 Q) : tIf tt ta tb σ H Q := k
theorem wChain (k : ta σ H fun x H1 => tb σ H1 fun y H2 => r x y H2 fun z H3 => ∃ k, z = .bl k ∧ (if k = true then tc σ H3 fun w' H4 => r' y w' H4 Q else Q (.bl false) H3)) : tChain r r' ta tb tc σ H Q := k
theorem wTup (k : tA σ H fun xs H1 => xs.length ≤ sizeLine ∧ Al Q (.tup xs) H1) : tTup tA σ H Q := k
theorem wLst (k : tA σ H fun xs H1 => xs.length ≤ sizeLine ∧ Al Q (.lst xs) H1) : tLst tA σ H Q := k
theorem wDnew (k : Al Q (.dK []) H) : tDNewK σ H Q := k
theorem wSl {r : V → Option Int → Option Int → Hp → VK → Prop} {tl th : TO} (k : te σ H fun x H1 => tl σ H1 fun l H2 => th σ H2 fun u H3 => r x l u H3 Q) : tSl r te tl th σ H Q := k
theorem wPart (k : te σ H fun x H1 => ∃ i, x = .int i ∧ QO (some i) H1) : tPart te σ H QO := k
theorem wNoPart (k : QO none H) : tNoPart σ H QO := k
theorem wBM {T : String} {r : V → List V → Hp → VK → Prop} (k : ta σ H fun x H1 => tyV K T x H1 ∧ tA σ H1 fun xs H2 => r x xs H2 Q) : tBM K T r ta tA σ H Q := k
theorem wBM0 {T : String} {r : V → List V → Hp → VK → Prop} (k : ta σ H fun x H1 => tyV K T x H1 ∧ r x [] H1 Q) : tBM0 K T r ta σ H Q := k
theorem wM0 {r : V → List V → Hp → VK → Prop} (k : ta σ H fun x H1 => (∃ a, x = .str a) ∧ r x [] H1 Q) : tM0 r ta σ H Q := k
theorem wM1 {r : V → List V → Hp → VK → Prop} (k : ta σ H fun x H1 => (∃ a, x = .str a) ∧ tb σ H1 fun y H2 => r x [y] H2 Q) : tM1 r ta tb σ H Q := k
-- statements
theorem wSeq (k : ts { D with nx := us D } σ H) : tSeq ts us D σ H := k
theorem wAsg (k : te σ H fun x H1 => g x σ H1 D.nx) : tAsg te g D σ H := k
theorem wRet (k : te σ H D.rt) : tRet te D σ H := k
theorem wDrop (k : te σ H fun _ H1 => D.nx σ H1) : tDrop te D σ H := k
theorem wIfS (k : tt σ H fun b H1 => if b = true then ts D σ H1 else us D σ H1) : tIfS tt ts us D σ H := k
theorem wNext (k : D.nx σ H) : tNext D σ H := k
theorem wPar {i j : Nat} (k : tA σ H fun vs H1 => ∃ v w, vs = [v, w] ∧ D.nx ((σ.set i (some v)).set j (some w)) H1) : tPar i j tA D σ H := k
variable {QS : L2.St → Hp → Prop} {QH : Hp → Prop}
theorem wName {i : Nat} (k : QS (σ.set i (some v)) H) : gName i v σ H QS := k
theorem wSub {to ti : TE} {t : TSet} (k : to σ H fun o H1 => ti σ H1 fun i H2 => t o i v H2 fun H3 => QS σ H3) : gSub to ti t v σ H QS := k
theorem wGTup {n : Nat} {t : TGs} {a : Addr} {xs : List V} (h : SqT K H a xs) (hl : xs.length = n) (k : t xs σ H QS) : gTup K n t (.ref a) σ H QS := ⟨a, xs, rfl, h, hl, k⟩
theorem wGCons {t : TG} {u : TGs} {vs : List V} (k : t v σ H fun σ' H' => u vs σ' H' QS) : gCons t u (v :: vs) σ H QS := ⟨v, vs, rfl, k⟩
theorem wGNil (k : QS σ H) : gNil [] σ H QS := ⟨rfl, k⟩
-- operations
theorem wI0 {f : Int → Int → V} {i j : Int} (k : Q (f i j) H) : rI0 f (.int i) (.int j) H Q := ⟨i, j, rfl, rfl, k⟩
theorem wI {C : Int → Int → Prop} {f : Int → Int → V} {i j : Int} (c : C i j) (k : Q (f i j) H) : rI C f (.int i) (.int j) H Q := ⟨i, j, rfl, rfl, c, k⟩
theorem wU {f : Int → V} {i : Int} (k : Q (f i) H) : rU f (.int i) H Q := ⟨i, rfl, k⟩
theorem wEq (h : scal x y = true) (k : Q (.bl (decide (x = y))) H) : rEq x y H Q := ⟨h, k⟩
theorem wNe (h : scal x y = true) (k : Q (.bl (!decide (x = y))) H) : rNe x y H Q := ⟨h, k⟩
theorem wIxL {p : Addr} {xs : List V} {i : Int} (h : SqL K H p xs) (ha : atI xs i = some v) (k : Q v H) : rIxL K (.ref p) (.int i) H Q := ⟨p, xs, i, v, rfl, rfl, h, ha, k⟩
theorem wIxT {p : Addr} {xs : List V} {i : Int} (h : SqT K H p xs) (ha : atI xs i = some v) (k : Q v H) : rIxT K (.ref p) (.int i) H Q := ⟨p, xs, i, v, rfl, rfl, h, ha, k⟩
theorem wIxS {z : Str} {i : Int} {c : Nat} (h : z.length ≤ sizeLine) (ha : atI z.cps.toList i = some c) (k : Q (.str ⟨#[c]⟩) H) : rIxS (.str z) (.int i) H Q := ⟨z, i, c, rfl, rfl, h, ha, k⟩
theorem wSetL {p : Addr} {xs : List V} {k : Int} {j : Nat} (h : H p = some (.lst xs)) (hj : ixN xs.length k = some j) (q : QH (upd H p (.lst (xs.set j v)))) : rSetL (.ref p) (.int k) v H QH := ⟨p, xs, k, j, rfl, rfl, h, hj, q⟩
theorem wSlL {a : Addr} {xs : List V} {lo hi : Option Int} (h : SqL K H a xs) (k : Al Q (.lst (cutV xs lo hi)) H) : rSlL K (.ref a) lo hi H Q := ⟨a, xs, rfl, h, k⟩
theorem wSlS {z : Str} {lo hi : Option Int} (h : z.length ≤ sizeLine) (k : Q (.str (cutS z lo hi)) H) : rSlS (.str z) lo hi H Q := ⟨z, rfl, h, k⟩
theorem wAppend {l : Addr} {xs : List V} {y : V} (h : H l = some (.lst xs)) (hl : xs.length ≤ 100000) (k : Q .non (upd H l (.lst (xs ++ [y])))) : rAppend (.ref l) [y] H Q := ⟨l, xs, y, rfl, rfl, h, sz6' hl, k⟩
theorem wAppendI {H0 : Hp} {l : Addr} {xs : List V} {y : V} (h : H l = some (.lst xs)) (hl : xs.length ≤ 100000) (n : H0 l = none) (e : Ex H0 H) (k : ∀ H', Ex H0 H' → Kp l H H' → H' l = some (.lst (xs ++ [y])) → Q .non H') : rAppend (.ref l) [y] H Q :=
  ⟨l, xs, y, rfl, rfl, h, sz6' hl, k _ (e.mut n) Kp.set upd_same⟩
theorem anTyL {l : Addr} {xs : List V} {P : Prop} (h : H l = some (.lst xs)) (k : P) : tyV K "list" (.ref l) H ∧ P := ⟨.inl ⟨rfl, xs, SqL.of h⟩, k⟩
theorem wCat {a b : Addr} {xs ys : List V} (h1 : H a = some (.lst xs)) (h2 : H b = some (.lst ys)) (hl : xs.length + ys.length ≤ sizeLine) (k : Al Q (.lst (xs ++ ys)) H) : rCat (.ref a) (.ref b) H Q := ⟨a, b, xs, ys, rfl, rfl, h1, h2, hl, k⟩
theorem wLenL {a : Addr} {xs : List V} {P : Nat → Prop} (h : SqL K H a xs) (k : P xs.length) : ∃ x n, [V.ref a] = [x] ∧ LenV K x H n ∧ P n := ⟨_, _, rfl, .inl ⟨_, h, rfl⟩, k⟩
theorem wLenT {a : Addr} {xs : List V} {P : Nat → Prop} (h : SqT K H a xs) (k : P xs.length) : ∃ x n, [V.ref a] = [x] ∧ LenV K x H n ∧ P n := ⟨_, _, rfl, .inr ⟨_, h, rfl⟩, k⟩
theorem wLenS {z : Str} {P : Nat → Prop} (h : z.length ≤ sizeLine) (k : P z.length) : ∃ x n, [V.str z] = [x] ∧ LenV K x H n ∧ P n := ⟨_, _, rfl, ⟨h, rfl⟩, k⟩
theorem exI1 {i : Int} {P : Int → Prop} (k : P i) : ∃ j, [V.int i] = [V.int j] ∧ P j := ⟨i, rfl, k⟩
theorem exI2 {i j : Int} {P : Int → Int → Prop} (k : P i j) : ∃ a b, [V.int i, V.int j] = [V.int a, V.int b] ∧ P a b := ⟨i, j, rfl, k⟩
theorem wAll {a : Addr} {bs : List Bool} (h : SqL K H a (bs.map V.bl)) (k : Q (.bl (bs.all id)) H) : rAll K [.ref a] H Q := ⟨a, bs, rfl, h, k⟩
theorem wAny {a : Addr} {bs : List Bool} (h : SqL K H a (bs.map V.bl)) (k : Q (.bl (bs.any id)) H) : rAny K [.ref a] H Q := ⟨a, bs, rfl, h, k⟩
theorem exBl {b : Bool} {P : Bool → Prop} (h : P b) : ∃ k, V.bl b = V.bl k ∧ P k := ⟨b, rfl, h⟩
theorem exInt {i : Int} {P : Int → Prop} (h : P i) : ∃ k, V.int i = V.int k ∧ P k := ⟨i, rfl, h⟩
theorem exStr {z : Str} {P : Str → Prop} (h : P z) : ∃ k, V.str z = V.str k ∧ P k := ⟨z, rfl, h⟩
theorem exSS {a b : Str} {P : Str → Str → Prop} (h : P a b) : ∃ i j, V.str a = V.str i ∧ V.str b = V.str j ∧ P i j := ⟨a, b, rfl, rfl, h⟩
theorem exCS {c : Nat} {b : Str} {P : Nat → Str → Prop} (h : P c b) : ∃ i j, V.str ⟨#[c]⟩ = V.str ⟨#[i]⟩ ∧ V.str b = V.str j ∧ P i j := ⟨c, b, rfl, rfl, h⟩
theorem anSum {a b : Nat} {P : Prop} (h : a + b ≤ sizeLine) (k : P) : a + b ≤ sizeLine ∧ P := ⟨h, k⟩
theorem anStr {z : Str} {P : Prop} (h : P) : (∃ a, V.str z = V.str a) ∧ P := ⟨⟨z, rfl⟩, h⟩
theorem anSz {n : Nat} {P : Prop} (h : n ≤ 100000) (k : P) : n ≤ sizeLine ∧ P := ⟨sz6 h, k⟩
theorem exTwo {v w : V} {P : V → V → Prop} (h : P v w) : ∃ a b, [v, w] = [a, b] ∧ P a b := ⟨v, w, rfl, h⟩
end
/-- a chain's comparison of two ints, of texts -/
theorem wLeS {i j : Str} {H : Hp} {Q : VK} (k : Q (.bl (!decide (j.cps.toList < i.cps.toList))) H) : (fun x y H Q => ∃ i j, x = V.str i ∧ y = V.str j ∧ Q (.bl (!decide (j.cps.toList < i.cps.toList))) H : R2) (.str i) (.str j) H Q := ⟨i, j, rfl, rfl, k⟩

/-! ### small rules of our own -/
/-- a text so many times -/
def rMulS : R2 := fun x y H Q => ∃ (z : Str) (n : Nat), x = .str z ∧ y = .int n ∧ 1 < n ∧ n ≤ 100 ∧ 0 < z.length ∧ z.length ≤ 1000 ∧ ∀ u : Str, u.cps.toList = (List.replicate n z.cps.toList).flatten → Q (.str u) H
theorem fold_cps (z : Str) : ∀ (n : Nat) (a : Array Nat), ((List.replicate n z.cps).foldl (· ++ ·) a).toList = a.toList ++ (List.replicate n z.cps.toList).flatten
  | 0, a => by simp
  | n + 1, a => by
    rw [List.replicate_succ, List.foldl_cons, fold_cps z n, List.replicate_succ, List.flatten_cons, Array.toList_append, List.append_assoc]
theorem op_mulS {X : Cx} : OpR X (binaryOp .Mult) rMulS := by
  intro pins s σ H x y v u Q I rx ry h
  obtain ⟨z, n, rfl, rfl, h1, h2, h3, h4, q⟩ := h
  obtain ⟨t, rfl⟩ := rx
  obtain ⟨t', rfl⟩ := ry
  have e1 : ¬ ((n : Int) < 1) := by omega
  have e2 : ((n : Int) == 1 || z.length == 0) = false := by
    rw [Bool.or_eq_false_iff]
    exact ⟨beq_eq_false_iff_ne.mpr (by omega), beq_eq_false_iff_ne.mpr (by omega)⟩
  have e3 : z.length * n ≤ 1000 * 100 := Nat.mul_le_mul h4 h2
  refine PySem.P.mul_str ?_ (fun _ _ => ?_) (fun _ _ => ?_) ?_
  · rw [decide_eq_false (by omega), decide_eq_false (by omega)]; rfl
  · have e4 : (92233720368547758 : Int) ≤ (2 ^ 63 - 1) / (n : Int) := by
      refine Int.le_ediv_of_mul_le (by omega) ?_
      have : (92233720368547758 : Int) * n ≤ 92233720368547758 * 100 := Int.mul_le_mul_of_nonneg_left (by omega) (by decide)
      omega
    omega
  · show decide (z.length * ((n : Int)).toNat > sizeLine) = false
    rw [Int.toNat_natCast]
    exact decide_eq_false (by have := sz6 (n := z.length * n) (by omega); omega)
  · rw [if_neg e1, e2]
    rw [if_neg (by decide)]
    have e5 : ((List.replicate ((n : Int)).toNat z.cps).foldl (· ++ ·) #[]).toList = (List.replicate n z.cps.toList).flatten := by
      rw [fold_cps, Int.toNat_natCast]
      simp
    refine ⟨?_, ?_⟩
    · have e6 : ((List.replicate ((n : Int)).toNat z.cps).foldl (· ++ ·) #[]).size = n * z.length := by
        rw [← Array.length_toList, e5, List.length_flatten, List.map_replicate, List.sum_replicate_nat]
        rfl
      refine Nat.le_trans (Nat.le_of_eq e6) (sz6 ?_)
      rw [Nat.mul_comm]
      exact e3
    · exact ⟨.str _, H, I.tok _, ⟨_, rfl⟩, q _ e5⟩
/-- // by any number that is not too great -/
def CDivZ (_ j : Int) : Prop := j ≠ 0 ∧ j.natAbs.log2 < 9000
theorem op_fdivZ {X : Cx} : OpR X (binaryOp .FloorDiv) (rI CDivZ fun i j => .int (i.fdiv j)) := opI fun _ _ _ _ _ _ _ hc q => floordiv_int hc.1 q (.inl (PyProof.noPylong_of_log2 hc.2))
theorem divz {i j : Int} {n : Nat} (h : j ≠ 0) (hb : j.natAbs < 2 ^ n) (h0 : 0 < n) (h9 : n ≤ 9000) : CDivZ i j := ⟨h, Nat.lt_of_lt_of_le (PySem.Flt.log2_lt_of h0 hb) h9⟩
theorem wWhile {c : TT} {tb : TS} {D : Ends} {σ : L2.St} {H : Hp} (k : ∃ W : Nat → L2.St → Hp → Prop, (∃ m, W m σ H) ∧ ∀ m σ H, W m σ H →
    c σ H fun b H1 => if b = true then ∃ N : L2.St → Hp → Prop, (∀ σ' H', N σ' H' → ∃ m', m' < m ∧ W m' σ' H') ∧ tb { D with nx := N, ct := N, bk := D.nx } σ H1 else D.nx σ H1) : tWhile c tb D σ H := k
theorem wOrT {K : PySem.W.Frag} {ta tb : TE} {σ : L2.St} {H : Hp} {Q : VK} (k : ta σ H fun x H1 => ∃ k, TruV K x H1 k ∧ if k = true then Q x H1 else tb σ H1 Q) : tOrT K ta tb σ H Q := k
theorem wCut {t u : TS} {D : Ends} {σ : L2.St} {H : Hp} (Mid : L2.St → Hp → Prop) (h : t { D with nx := Mid } σ H) (k : ∀ σ' H', Mid σ' H' → u D σ' H') : C8.tCut t u D σ H := ⟨Mid, h, k⟩
/-- == of things at any depth, by their data -/
theorem wNeD {K : PySem.W.Frag} {H : Hp} {Q : VK} {x y : V} {d e : PyData} (h1 : Dp K H x d) (h2 : Dp K H y e) (s1 : SeqAt.shaped d = true) (s2 : SeqAt.shaped e = true) (k : Q (.bl (!PyData.eqv d e)) H) : rNeD K x y H Q := ⟨d, e, h1, h2, s1, s2, k⟩
theorem wEqD {K : PySem.W.Frag} {H : Hp} {Q : VK} {x y : V} {d e : PyData} (h1 : Dp K H x d) (h2 : Dp K H y e) (s1 : SeqAt.shaped d = true) (s2 : SeqAt.shaped e = true) (k : Q (.bl (PyData.eqv d e)) H) : rEqD K x y H Q := ⟨d, e, h1, h2, s1, s2, k⟩
theorem dpPair {K : PySem.W.Frag} {H : Hp} {a : Addr} {p q : Int} (h : H a = some (.tup [.int p, .int q])) : Dp K H (.ref a) (.tuple [.int p, .int q]) := .tup (SqT.of h) (.cons (.int p) (.cons (.int q) .nil))
theorem eqvPair (p q : Int) : PyData.eqv (.tuple [.int p, .int q]) (.tuple [.int p, .int q]) = true := by
  rw [SeqAt.eqv_refl]
  rfl
/-! ### the library's rules with the written part named (in a comprehension's block it must not hang on the block) -/
section
variable {X : Cx} {K : PySem.W.Frag}
theorem ix_listV (h : X.K = K) : IxR X (rIxL K) := h ▸ ix_list
theorem ix_tupV (h : X.K = K) : IxR X (rIxT K) := h ▸ ix_tup
theorem sl_listV (h : X.K = K) : SlR X (rSlL K) := h ▸ sl_list
theorem sl_tupV (h : X.K = K) : SlR X (rSlA K) := h ▸ sl_tupA
theorem call_isiV (h : X.K = K) : CallR X (.builtin "isinstance") (rIsi K) := h ▸ call_isi
theorem call_lenV (h : X.K = K) : CallR X (.builtin "len") (fun xs H Q => ∃ x n, xs = [x] ∧ LenV K x H n ∧ Q (.int n) H) := h ▸ call_len
theorem cr_allV (h : X.K = K) (hc : X.calm = true) : CallR X (.builtin "all") (rAll K) := h ▸ cr_all hc
theorem cr_anyV (h : X.K = K) (hc : X.calm = true) : CallR X (.builtin "any") (rAny K) := h ▸ cr_any hc
theorem op_in_seqV (h : X.K = K) : OpR X (compareOp .In) (rIn K false) := h ▸ op_in_seq
theorem op_notIn_seqV (h : X.K = K) : OpR X (compareOp .NotIn) (rIn K true) := h ▸ op_notIn_seq
theorem op_eqDV (h : X.K = K) (hu : X.A.units + 64 < cLine) : OpR X (compareOp .Eq) (rEqD K) := h ▸ op_eqD hu
theorem op_neDV (h : X.K = K) (hu : X.A.units + 64 < cLine) : OpR X (compareOp .NotEq) (rNeD K) := h ▸ op_neD hu
theorem op_catTV (h : X.K = K) : OpR X (binaryOp .Add) (rCatA K) := h ▸ op_catA
theorem op_repTV (h : X.K = K) : OpR X (binaryOp .Mult) (rRepT K) := h ▸ op_repT
theorem pi_listV {tg l : Expr} {tl : TE} (h : X.K = K) (hl : PE X l tl) : PI X tg l (iList K tl) := h ▸ pi_list hl
theorem pi_tupV {tg l : Expr} {tl : TE} (h : X.K = K) (hl : PE X l tl) : PI X tg l (iTup K tl) := h ▸ pi_tup hl
theorem pg_tupV {es : List Expr} {k n : Nat} {t : TGs} {pos : Pos} (hK : X.K = K) (hc : X.calm = true) (h : PGs X es t)
    (hn : (assignEach es X.env).length = n) (hst : (assignEach es X.env).findIdx? (·.1) = none := by rfl) : PG X (.Tuple es k pos) (gTup K n t) := hK ▸ pg_tup hc h hn hst
end
section
variable {X : Cx} {CX : CXT} {k n : Nat} {f : Addr} {fd : FuncData} {ps ks : List Str} {sp : Sp} {E : XK} {x : Str} {p pos : Pos} {e : Expr} {es : List Expr} {kws : List Keyword} {t tk : TA} {g : List Value → List Value → List Value} {gV : List V → List V → List V}
/-- f(k = v, ..), by names alone -/
theorem pe_callN0 (F : FnOk X.prog X.w X.K X.mg X.base CX k f fd ps sp) (hr : Room k X.A) (hg : Gl X x) (hm : X.mg x = some (.ref f)) (hk : PySem.W.keepIn X.K (.ref f) = true) (hb : KBn X.K fd ps 0 ks g gV) (hx : Passes CX X E)
    (hkw : PK X kws tk) (hall : (backToKw pos (keywordEach kws X.env)).all (·.1.isSome) = true := by rfl) (hks : (backToKw pos (keywordEach kws X.env)).filterMap (·.1) = ks := by rfl)
    (hdb : (x == ("__debug__" : Str)) = false := by decide)
    (hpl : ((backTo pos (starEach [] X.env)).any (·.1) || (backToKw pos (keywordEach kws X.env)).any (·.1.isNone)) = false := by rfl) :
    PE X (.Call (.Name x p) [] kws pos) (tCallN 0 ks.length sp gV E tNil tk) := by
  refine ⟨fun pins s σ H Q I h => ?_⟩
  refine wpAny_Call_Name_kw (ld_glob I hg hm ?_ hdb)
  refine PySem.W.callWith_KW0 (h₀ := X.base) I.ok.mod.kin hk hall ?_ hpl
  have h : tk σ H fun zs H2 => ([] : List V).length = 0 ∧ zs.length = ks.length ∧ sp (gV [] zs) H2 Q E := h
  refine thn (hkw.run pos pins s σ H _ I h) fun ws s2 ⟨zs, H2, I2, rz, l1, l2, q2⟩ => ⟨I2.kIn, ?_⟩
  rw [hks]
  exact run_fnN (us := []) F hr hb hx I2 .nil rz l1 l2 q2
theorem wCallN {n m : Nat} {σ : L2.St} {H : Hp} {Q : VK} (k : t σ H fun vs H1 => tk σ H1 fun zs H2 => vs.length = n ∧ zs.length = m ∧ sp (gV vs zs) H2 Q E) : tCallN n m sp gV E t tk σ H Q := k
end
/-- the values named in another turn: by the parameters' order -/
def pick {α : Type} (ks : List Nat) (zs : List α) : List α := ks.filterMap fun k => zs[k]?
theorem pick_rel {zs : List V} {ws : List Value} (r : Vals zs ws) : ∀ ks : List Nat, Vals (pick ks zs) (pick ks ws)
  | [] => .nil
  | k :: ks => by
    unfold pick
    cases e : zs[k]? with
    | none =>
      rw [List.filterMap_cons_none e, List.filterMap_cons_none (r.none_of e)]
      exact pick_rel r ks
    | some x =>
      obtain ⟨u, hu, ru⟩ := r.get e
      rw [List.filterMap_cons_some e, List.filterMap_cons_some hu]
      exact .cons ru (pick_rel r ks)
/-- a call by names of a def with defaults (none of them by name alone) -/
theorem kbnD {K : PySem.W.Frag} {x qual : Str} {params : Arguments} {body : List Stmt} {scope : Scope} {dvs : List V} {f : Addr} {fd : FuncData} {ps : List Str} (F : FunD K x qual params body scope dvs [] f fd) (n : Nat) (ks : List Str)
    (g : {α : Type} → List α → List α → List α → List α) (hd : dvs ≠ []) (hrel : ∀ {vs ds zs : List V} {us its ws : List Value}, Vals vs us → Vals ds its → Vals zs ws → Vals (g vs ds zs) (g us its ws))
    (h : ∀ (T : Addr) (kV doc pm : Value) (an : Option Addr) (cdv ct : Value) (us its ws : List Value), us.length = n → its.length = dvs.length → ws.length = ks.length →
      ∃ k, bindArgs (PySem.W.fnOf x qual params body scope (.ref T) kV doc pm an cdv ct) ⟨us, ks.zip ws⟩ = seqItems? (.ref T) >>= k ∧ k (some its.toArray) = pure (ps.zip (g us its ws))) :
    ∃ its : List Value, KBn K fd ps n ks (fun us ws => g us its ws) (fun vs zs => g vs dvs zs) := by
  obtain ⟨oc, od, dV, kV, doc, pm, an, cdv, ct, osl, rfl, lk, hcd, hD, hK⟩ := F.ex
  rcases hD with ⟨e, _⟩ | ⟨_, T, o, its, m, rfl, lT, oT, rT⟩
  · exact absurd e hd
  · refine ⟨its, fun s us ws X l1 l2 => ?_, fun r1 r2 => hrel r1 rT r2⟩
    obtain ⟨k, e1, e2⟩ := h T kV doc pm an cdv ct us its ws l1 rT.length.symm l2
    refine BindsTo.of_looks fun M => ?_
    rw [e1]
    exact looks_items X lT oT (.of_pure e2)
/-- all of its parameters by place -/
theorem bndD {K : PySem.W.Frag} {x qual : Str} {params : Arguments} {body : List Stmt} {scope : Scope} {dvs : List V} {f : Addr} {fd : FuncData} {ps : List Str} (F : FunD K x qual params body scope dvs [] f fd) (hd : dvs ≠ [])
    (h : ∀ (T : Addr) (kV doc pm : Value) (an : Option Addr) (cdv ct : Value) (us its : List Value), us.length = ps.length → its.length = dvs.length →
      ∃ k, bindArgs (PySem.W.fnOf x qual params body scope (.ref T) kV doc pm an cdv ct) ⟨us, []⟩ = seqItems? (.ref T) >>= k ∧ k (some its.toArray) = pure (ps.zip (us ++ its.drop dvs.length))) : Binds K fd ps [] := by
  obtain ⟨ds, r, b⟩ := F.binds1 ps.length dvs.length hd (by omega) h
  rw [List.drop_length] at r
  cases r
  exact b
/-! ### isinstance -/
/-- a value's type by its name -/
inductive Ty (K : PySem.W.Frag) (H : Hp) : V → String → Prop where
  | non : Ty K H .non "NoneType"
  | bl (x : Bool) : Ty K H (.bl x) "bool"
  | int (i : Int) : Ty K H (.int i) "int"
  | str (x : Str) : Ty K H (.str x) "str"
  | lst {a : Addr} {xs : List V} (e : H a = some (.lst xs)) : Ty K H (.ref a) "list"
  | tup {a : Addr} {xs : List V} (e : H a = some (.tup xs)) : Ty K H (.ref a) "tuple"
  | dK {a : Addr} {kvs : List (Key × V)} (e : H a = some (.dK kvs)) : Ty K H (.ref a) "dict"
  | kT {a : Addr} {o : Obj} (e : K.lookup a = some o) (c : o.cls = .type "tuple") : Ty K H (.ref a) "tuple"
theorem Ty.x {K : PySem.W.Frag} {H : Hp} {v : V} {n : String} (h : Ty K H v n) : TyX K H v (.type n) := by
  cases h with
  | non => exact .base .non
  | bl x => exact .base (.bl x)
  | int x => exact .base (.int x)
  | str x => exact .base (.str x)
  | lst e => exact .base (.lst e)
  | tup e => exact .base (.tup e)
  | dK e => exact .base (.dK e)
  | kT e c => exact .kTuple e c
theorem Ty.ex {K : PySem.W.Frag} {H H' : Hp} {v : V} {n : String} (x : Ex H H') (h : Ty K H v n) : Ty K H' v n := by
  cases h with
  | non => exact .non
  | bl x => exact .bl x
  | int x => exact .int x
  | str x => exact .str x
  | lst e => exact .lst (x _ _ e)
  | tup e => exact .tup (x _ _ e)
  | dK e => exact .dK (x _ _ e)
  | kT e c => exact .kT e c
theorem wIsi {K : PySem.W.Frag} {H : Hp} {Q : VK} {v : V} {n T : String} {b : Bool} (h : Ty K H v n) (hb : kitB n T = some b) (k : Q (.bl b) H) : rIsi K [v, .ty T] H Q :=
  ⟨v, .ty T, .type n, .type T, b, rfl, .ty T, h.x, kit_ty hb, k⟩


theorem iteNT {A B : Prop} (h : B) : if (!true) = true then A else B := h
theorem iteNF {A B : Prop} (h : A) : if (!false) = true then A else B := h
def isStr : V → Bool
  | .str _ => true
  | _ => false
theorem Ty.str_is {K : PySem.W.Frag} {H : Hp} {v : V} {n : String} (h : Ty K H v n) : kitB n "str" = some (isStr v) := by
  have e1 : kitB "NoneType" "str" = some false := by decide +kernel
  have e2 : kitB "bool" "str" = some false := by decide +kernel
  have e3 : kitB "int" "str" = some false := by decide +kernel
  have e4 : kitB "str" "str" = some true := by decide +kernel
  have e5 : kitB "list" "str" = some false := by decide +kernel
  have e6 : kitB "tuple" "str" = some false := by decide +kernel
  have e7 : kitB "dict" "str" = some false := by decide +kernel
  cases h <;> first | exact e1 | exact e2 | exact e3 | exact e4 | exact e5 | exact e6 | exact e7
theorem wIsiS {K : PySem.W.Frag} {H : Hp} {Q : VK} {z : Str} (k : Q (.bl true) H) : rIsi K [.str z, .ty "str"] H Q := wIsi (.str z) (by decide +kernel) k
theorem wIsiB {K : PySem.W.Frag} {H : Hp} {Q : VK} {b : Bool} (k : Q (.bl true) H) : rIsi K [.bl b, .ty "bool"] H Q := wIsi (.bl b) (by decide +kernel) k

/-- a thing whose kind is known, a text not too long -/
structure Thing (K : PySem.W.Frag) (H : Hp) (v : V) : Prop where
  ty : ∃ n, Ty K H v n
  sz : ∀ z, v = .str z → z.length ≤ 1000
theorem Thing.ex {K : PySem.W.Frag} {H H' : Hp} {v : V} (e : Ex H H') (t : Thing K H v) : Thing K H' v := ⟨let ⟨n, h⟩ := t.ty; ⟨n, h.ex e⟩, t.sz⟩
section
variable {K : PySem.W.Frag}
theorem Thing.s {z : Str} {H : Hp} (h : z.length ≤ 1000) : Thing K H (.str z) := ⟨⟨_, .str z⟩, fun y e => by cases e; exact h⟩
theorem Thing.i {i : Int} {H : Hp} : Thing K H (.int i) := ⟨⟨_, .int i⟩, fun y e => by cases e⟩
theorem Thing.b {b : Bool} {H : Hp} : Thing K H (.bl b) := ⟨⟨_, .bl b⟩, fun y e => by cases e⟩
theorem Thing.n {H : Hp} : Thing K H .non := ⟨⟨_, .non⟩, fun y e => by cases e⟩
theorem Thing.t {H : Hp} {a : Addr} {xs : List V} (h : H a = some (.tup xs)) : Thing K H (.ref a) := ⟨⟨_, .tup h⟩, fun y e => by cases e⟩
theorem Thing.l {H : Hp} {a : Addr} {xs : List V} (h : H a = some (.lst xs)) : Thing K H (.ref a) := ⟨⟨_, .lst h⟩, fun y e => by cases e⟩
theorem Thing.d {H : Hp} {a : Addr} {kvs : List (Key × V)} (h : H a = some (.dK kvs)) : Thing K H (.ref a) := ⟨⟨_, .dK h⟩, fun y e => by cases e⟩
end

/-! ### loops and comprehensions -/
/-- what a comprehension's reading asks behind its source -/
abbrev LcG (J : It) (g : TG) (tt : TT) (te : TE) (vs : List Nat) (σ : L2.St) (H1 : Hp) (Q : VK) (D : Addr) : Prop :=
  ∃ W : Nat → Nat → Hp → Prop, (∃ m, W 0 m (upd H1 D (.lst []))) ∧ ∀ i m H, W i m H →
    (J.stop i H ∧ Q (.ref D) H) ∨ (J.go i H ∧ ∃ Nx : Hp → Prop, (∀ H', Nx H' → ∃ m', m' < m ∧ W (i + 1) m' H') ∧ ∀ x H', J.yld i H x H' → g x (wipe σ vs) H' fun σ2 H2 => wipe σ2 vs = wipe σ vs ∧ tt σ2 H2 fun b H3 =>
      if b = true then te σ2 H3 fun y H4 => ∃ acc, H4 D = some (.lst acc) ∧ acc.length < sizeLine ∧ Nx (upd H4 D (.lst (acc ++ [y]))) else Nx H3)
abbrev ForG (J : It) (g : TG) (tb : TS) (D : Ends) (σ : L2.St) (H1 : Hp) : Prop :=
  ∃ W : Nat → Nat → L2.St → Hp → Prop, (∃ m, W 0 m σ H1) ∧ ∀ i m σ H, W i m σ H →
    (J.stop i H ∧ D.nx σ H) ∨ (J.go i H ∧ ∃ N : L2.St → Hp → Prop, (∀ σ' H', N σ' H' → ∃ m', m' < m ∧ W (i + 1) m' σ' H') ∧ ∀ x H', J.yld i H x H' → g x σ H' fun σ2 H2 => tb { D with nx := N, ct := N, bk := D.nx } σ2 H2)
section
variable {K : PySem.W.Frag} {wi : TI} {g : TG} {tt : TT} {te tl : TE} {tb : TS} {vs : List Nat} {σ : L2.St} {H H1 : Hp} {Q : VK} {E : Ends} {D : Addr} {ta : TA}
theorem wLc (k : wi σ H fun J H1 => ∀ D, H1 D = none → LcG J g tt te vs σ H1 Q D) : tLc wi g tt te vs σ H Q := k
theorem wFor (k : wi σ H fun J H1 => ForG J g tb E σ H1) : tFor wi g tb E σ H := k
variable {R : It → Hp → Prop}
theorem wIList (k : tl σ H fun x H1 => ∃ a, x = .ref a ∧ (∃ xs, SqL K H1 a xs) ∧ R (Itl K a) H1) : iList K tl σ H R := k
theorem wITup (k : tl σ H fun x H1 => ∃ a, x = .ref a ∧ (∃ xs, SqT K H1 a xs) ∧ R (Itt K a) H1) : iTup K tl σ H R := k
theorem wIStr (k : tl σ H fun x H1 => ∃ z, x = .str z ∧ R (Its z) H1) : iStr tl σ H R := k
theorem wIRng1 (k : ta σ H fun vs H1 => ∃ j : Int, vs = [.int j] ∧ -(2 ^ 62) ≤ j ∧ j < 2 ^ 62 ∧ R (Itr 0 j.toNat) H1) : iRng1 ta σ H R := k
theorem exSq {p : Addr} {xs : List V} {P : Addr → Prop} (h : SqL K H p xs) (k : P p) : ∃ a, V.ref p = V.ref a ∧ (∃ xs, SqL K H a xs) ∧ P a := ⟨p, rfl, ⟨xs, h⟩, k⟩
theorem exSt {p : Addr} {xs : List V} {P : Addr → Prop} (h : SqT K H p xs) (k : P p) : ∃ a, V.ref p = V.ref a ∧ (∃ xs, SqT K H a xs) ∧ P a := ⟨p, rfl, ⟨xs, h⟩, k⟩
theorem exRng {n : Int} {P : Int → Prop} (h0 : -1000000 ≤ n) (h1 : n ≤ 1000000) (k : P n) : ∃ j : Int, [V.int n] = [V.int j] ∧ -(2 ^ 62) ≤ j ∧ j < 2 ^ 62 ∧ P j := ⟨n, rfl, by omega, by omega, k⟩

/-- over a text -/
theorem lc_str {z : Str} {Qd : Hp → Prop} (Pv : Nat → Hp → Prop) (h0 : Pv 0 (upd H1 D (.lst [])))
    (hs : ∀ i c H, z.cps[i]? = some c → Pv i H → g (.str ⟨#[c]⟩) (wipe σ vs) H fun σ2 H2 => wipe σ2 vs = wipe σ vs ∧ tt σ2 H2 fun b H3 =>
      if b = true then te σ2 H3 fun y H4 => ∃ acc, H4 D = some (.lst acc) ∧ acc.length < sizeLine ∧ Pv (i + 1) (upd H4 D (.lst (acc ++ [y]))) else Pv (i + 1) H3) (hd : ∀ H, Pv z.cps.size H → Qd H) :
    ∃ W : Nat → Nat → Hp → Prop, (∃ m, W 0 m (upd H1 D (.lst []))) ∧ ∀ i m H, W i m H →
      ((Its z).stop i H ∧ Qd H) ∨ ((Its z).go i H ∧ ∃ Nx : Hp → Prop, (∀ H', Nx H' → ∃ m', m' < m ∧ W (i + 1) m' H') ∧ ∀ x H', (Its z).yld i H x H' → g x (wipe σ vs) H' fun σ2 H2 => wipe σ2 vs = wipe σ vs ∧ tt σ2 H2 fun b H3 =>
        if b = true then te σ2 H3 fun y H4 => ∃ acc, H4 D = some (.lst acc) ∧ acc.length < sizeLine ∧ Nx (upd H4 D (.lst (acc ++ [y]))) else Nx H3) := by
  refine ⟨fun i m H => m = z.cps.size - i ∧ i ≤ z.cps.size ∧ Pv i H, ⟨z.cps.size, by simp, Nat.zero_le _, h0⟩, ?_⟩
  rintro i m H ⟨rfl, hi, p⟩
  by_cases hlt : i < z.cps.size
  · refine .inr ⟨hlt, Pv (i + 1), fun H' p' => ⟨z.cps.size - (i + 1), by omega, rfl, hlt, p'⟩, fun x H' y => ?_⟩
    obtain ⟨e, c, hc, rfl⟩ := y
    subst e
    exact hs i c _ hc p
  · have e : i = z.cps.size := by omega
    subst e
    exact .inl ⟨Nat.le_refl _, hd H p⟩
/-- the list that a comprehension has made so far: i items, each as R says, the heap as I says -/
structure LcP (I : Hp → Prop) (R : Nat → V → Hp → Prop) (D : Addr) (i : Nat) (H : Hp) : Prop where
  inv : I H
  made : ∃ acc, H D = some (.lst acc) ∧ acc.length = i ∧ ∀ j y, acc[j]? = some y → R j y H
theorem LcP.start {I : Hp → Prop} {R : Nat → V → Hp → Prop} (h : I (upd H1 D (.lst []))) : LcP I R D 0 (upd H1 D (.lst [])) := ⟨h, [], upd_same, rfl, fun j y e => by simp at e⟩
theorem LcP.next {I : Hp → Prop} {R : Nat → V → Hp → Prop} {i : Nat} {y : V} {acc : List V} (hD : H1 D = some (.lst acc)) (hl : acc.length = i) (hi : I (upd H1 D (.lst (acc ++ [y])))) (hR : ∀ j z, acc[j]? = some z → R j z (upd H1 D (.lst (acc ++ [y])))) (hy : R i y (upd H1 D (.lst (acc ++ [y])))) :
    LcP I R D (i + 1) (upd H1 D (.lst (acc ++ [y]))) := by
  refine ⟨hi, acc ++ [y], upd_same, by simp [hl], fun j z e => ?_⟩
  by_cases hj : j < acc.length
  · rw [List.getElem?_append_left hj] at e
    exact hR j z e
  · rw [List.getElem?_append_right (by omega)] at e
    have h0 : j - acc.length = 0 := by
      cases q : j - acc.length with
      | zero => rfl
      | succ n => rw [q] at e; simp at e
    rw [h0] at e
    have e1 : y = z := by simpa using e
    have e2 : j = i := by omega
    rw [← e1, e2]
    exact hy
theorem lcStr {z : Str} {slot : Nat} (I : Hp → Prop) (R : Nat → V → Hp → Prop) (hz : z.cps.size ≤ 100000) (hw : ∀ c, wipe ((wipe σ vs).set slot (some c)) vs = wipe σ vs) (h0 : I (upd H1 D (.lst [])))
    (hs : ∀ i c, z.cps[i]? = some c → ∀ H acc, I H → H D = some (.lst acc) → acc.length = i → (∀ j y, acc[j]? = some y → R j y H) →
      te ((wipe σ vs).set slot (some (.str ⟨#[c]⟩))) H fun y H' => ∃ acc', H' D = some (.lst acc') ∧ acc'.length < sizeLine ∧ LcP I R D (i + 1) (upd H' D (.lst (acc' ++ [y]))))
    (k : ∀ H ys, I H → H D = some (.lst ys) → ys.length = z.cps.size → (∀ j y, ys[j]? = some y → R j y H) → Q (.ref D) H) : LcG (Its z) (gName slot) tYes te vs σ H1 Q D := by
  refine lc_str (LcP I R D) (.start h0) (fun i c H hc P => ?_) (fun H P => ?_)
  · obtain ⟨hI, acc, hD, hl, hR⟩ := P
    exact ⟨hw _, hs i c hc H acc hI hD hl hR⟩
  · obtain ⟨hI, acc, hD, hl, hR⟩ := P
    exact k H acc hI hD hl hR
theorem lcList {a : Addr} {xs : List V} {slot : Nat} (I : Hp → Prop) (R : Nat → V → Hp → Prop) (hw : ∀ c, wipe ((wipe σ vs).set slot (some c)) vs = wipe σ vs) (h0 : I (upd H1 D (.lst []))) (hS : ∀ H, I H → SqL K H a xs)
    (hs : ∀ i x, xs[i]? = some x → ∀ H acc, I H → H D = some (.lst acc) → acc.length = i → (∀ j y, acc[j]? = some y → R j y H) →
      te ((wipe σ vs).set slot (some x)) H fun y H' => ∃ acc', H' D = some (.lst acc') ∧ acc'.length < sizeLine ∧ LcP I R D (i + 1) (upd H' D (.lst (acc' ++ [y]))))
    (k : ∀ H ys, I H → H D = some (.lst ys) → ys.length = xs.length → (∀ j y, ys[j]? = some y → R j y H) → Q (.ref D) H) : LcG (Itl K a) (gName slot) tYes te vs σ H1 Q D := by
  refine lc_list (K := K) (a := a) (xs := xs) (LcP I R D) (.start h0) (fun i H _ P => hS H P.inv) (fun i x H hx P => ?_) (fun H P => ?_)
  · obtain ⟨hI, acc, hD, hl, hR⟩ := P
    exact ⟨hw _, hs i x hx H acc hI hD hl hR⟩
  · obtain ⟨hI, acc, hD, hl, hR⟩ := P
    exact k H acc hI hD hl hR
theorem lcListG {a : Addr} {xs : List V} (I : Hp → Prop) (R : Nat → V → Hp → Prop) (h0 : I (upd H1 D (.lst []))) (hS : ∀ H, I H → SqL K H a xs)
    (hs : ∀ i x, xs[i]? = some x → ∀ H acc, I H → H D = some (.lst acc) → acc.length = i → (∀ j y, acc[j]? = some y → R j y H) →
      g x (wipe σ vs) H fun σ2 H2 => wipe σ2 vs = wipe σ vs ∧ te σ2 H2 fun y H' => ∃ acc', H' D = some (.lst acc') ∧ acc'.length < sizeLine ∧ LcP I R D (i + 1) (upd H' D (.lst (acc' ++ [y]))))
    (k : ∀ H ys, I H → H D = some (.lst ys) → ys.length = xs.length → (∀ j y, ys[j]? = some y → R j y H) → Q (.ref D) H) : LcG (Itl K a) g tYes te vs σ H1 Q D := by
  refine lc_list (K := K) (a := a) (xs := xs) (LcP I R D) (.start h0) (fun i H _ P => hS H P.inv) (fun i x H hx P => ?_) (fun H P => ?_)
  · obtain ⟨hI, acc, hD, hl, hR⟩ := P
    exact hs i x hx H acc hI hD hl hR
  · obtain ⟨hI, acc, hD, hl, hR⟩ := P
    exact k H acc hI hD hl hR
theorem lcTup {a : Addr} {xs : List V} {slot : Nat} (I : Hp → Prop) (R : Nat → V → Hp → Prop) (hw : ∀ c, wipe ((wipe σ vs).set slot (some c)) vs = wipe σ vs) (h0 : I (upd H1 D (.lst []))) (hS : ∀ H, I H → SqT K H a xs)
    (hs : ∀ i x, xs[i]? = some x → ∀ H acc, I H → H D = some (.lst acc) → acc.length = i → (∀ j y, acc[j]? = some y → R j y H) →
      te ((wipe σ vs).set slot (some x)) H fun y H' => ∃ acc', H' D = some (.lst acc') ∧ acc'.length < sizeLine ∧ LcP I R D (i + 1) (upd H' D (.lst (acc' ++ [y]))))
    (k : ∀ H ys, I H → H D = some (.lst ys) → ys.length = xs.length → (∀ j y, ys[j]? = some y → R j y H) → Q (.ref D) H) : LcG (Itt K a) (gName slot) tYes te vs σ H1 Q D := by
  refine lc_tup (K := K) (a := a) (xs := xs) (LcP I R D) (.start h0) (fun i H _ P => hS H P.inv) (fun i x H hx P => ?_) (fun H P => ?_)
  · obtain ⟨hI, acc, hD, hl, hR⟩ := P
    exact ⟨hw _, hs i x hx H acc hI hD hl hR⟩
  · obtain ⟨hI, acc, hD, hl, hR⟩ := P
    exact k H acc hI hD hl hR
theorem lcRng {n : Nat} {slot : Nat} (I : Hp → Prop) (R : Nat → V → Hp → Prop) (hw : ∀ c, wipe ((wipe σ vs).set slot (some c)) vs = wipe σ vs) (h0 : I (upd H1 D (.lst [])))
    (hs : ∀ i, i < n → ∀ H acc, I H → H D = some (.lst acc) → acc.length = i → (∀ j y, acc[j]? = some y → R j y H) →
      te ((wipe σ vs).set slot (some (.int (0 + i)))) H fun y H' => ∃ acc', H' D = some (.lst acc') ∧ acc'.length < sizeLine ∧ LcP I R D (i + 1) (upd H' D (.lst (acc' ++ [y]))))
    (k : ∀ H ys, I H → H D = some (.lst ys) → ys.length = n → (∀ j y, ys[j]? = some y → R j y H) → Q (.ref D) H) : LcG (Itr 0 n) (gName slot) tYes te vs σ H1 Q D := by
  refine lc_range (lo := 0) (n := n) (LcP I R D) (.start h0) (fun i H hx P => ?_) (fun H P => ?_)
  · obtain ⟨hI, acc, hD, hl, hR⟩ := P
    exact ⟨hw _, hs i hx H acc hI hD hl hR⟩
  · obtain ⟨hI, acc, hD, hl, hR⟩ := P
    exact k H acc hI hD hl hR
theorem lcAdd {I : Hp → Prop} {R : Nat → V → Hp → Prop} {i : Nat} {y : V} {acc : List V} (hD : H1 D = some (.lst acc)) (hl : acc.length = i) (hi : i ≤ 100000) (hI : I (upd H1 D (.lst (acc ++ [y])))) (hR : ∀ j z, acc[j]? = some z → R j z (upd H1 D (.lst (acc ++ [y])))) (hy : R i y (upd H1 D (.lst (acc ++ [y])))) :
    ∃ acc', H1 D = some (.lst acc') ∧ acc'.length < sizeLine ∧ LcP I R D (i + 1) (upd H1 D (.lst (acc' ++ [y]))) := ⟨acc, hD, sz6' (by omega), .next hD hl hI hR hy⟩
end

theorem at_ex {α : Type} {xs : List α} {i : Int} (h0 : 0 ≤ i) (h1 : i < xs.length) : ∃ v, atI xs i = some v ∧ v ∈ xs := by
  have h : i.toNat < xs.length := by omega
  refine ⟨xs[i.toNat], ?_, List.getElem_mem h⟩
  have e : ((i.toNat : Nat) : Int) = i := by omega
  have q := atI_nat (xs := xs) (j := i.toNat) (List.getElem?_eq_getElem h)
  rw [e] at q
  exact q
theorem join_cps : ∀ ys : List Str, (Str.join ⟨#[]⟩ ys).cps.toList = (ys.map fun y => y.cps.toList).flatten
  | [] => rfl
  | [x] => by
    show x.cps.toList = _
    simp
  | x :: y :: r => by
    show ((x.cps ++ #[]) ++ (Str.join ⟨#[]⟩ (y :: r)).cps).toList = _
    rw [Array.toList_append, join_cps (y :: r)]
    simp
/-- texts of one sign, joined -/
theorem join_ones {ys : List V} {P : Nat → Prop} (h : ∀ (j : Nat) y, ys[j]? = some y → ∃ c, P c ∧ y = .str ⟨#[c]⟩) : ∃ cs : List Nat, cs.length = ys.length ∧ (∀ c ∈ cs, P c) ∧ ys = (cs.map fun c => (⟨#[c]⟩ : Str)).map V.str := by
  induction ys with
  | nil => exact ⟨[], rfl, List.forall_mem_nil _, rfl⟩
  | cons y r ih =>
    obtain ⟨c, hc, rfl⟩ := h 0 y rfl
    obtain ⟨cs, h1, h2, h3⟩ := ih fun j z e => h (j + 1) z e
    refine ⟨c :: cs, congrArg Nat.succ h1, fun d hd => ?_, ?_⟩
    · rcases List.mem_cons.mp hd with e | hd
      · rw [e]; exact hc
      · exact h2 d hd
    · rw [h3]
      rfl
theorem ones_cps (cs : List Nat) : (Str.join ⟨#[]⟩ (cs.map fun c => (⟨#[c]⟩ : Str))).cps.toList = cs := by
  rw [join_cps]
  induction cs with
  | nil => rfl
  | cons c r ih =>
    simp only [List.map_cons, List.flatten_cons] at ih ⊢
    rw [ih]
    rfl
theorem ones_sum (cs : List Nat) : ((cs.map fun c => (⟨#[c]⟩ : Str)).map (·.length)).sum = cs.length := by
  induction cs with
  | nil => rfl
  | cons c r ih =>
    simp only [List.map_cons, List.sum_cons] at ih ⊢
    rw [ih]
    show 1 + r.length = r.length + 1
    omega
theorem app_len (x y : Str) : (x ++ y).length = x.length + y.length := by
  show (x.cps ++ y.cps).size = x.cps.size + y.cps.size
  exact Array.size_append
theorem rep_len {u z : Str} {n : Nat} (h : u.cps.toList = (List.replicate n z.cps.toList).flatten) : u.length = n * z.length := by
  show u.cps.size = n * z.cps.size
  rw [← Array.length_toList, h, List.length_flatten, List.map_replicate, List.sum_replicate_nat, Array.length_toList]
theorem all_true {ys : List V} (h : ∀ (j : Nat) y, ys[j]? = some y → y = .bl true) : ∃ bs : List Bool, ys = bs.map V.bl ∧ bs.all id = true := by
  refine ⟨ys.map fun _ => true, ?_, by simp⟩
  rw [List.map_map]
  refine List.ext_getElem? fun j => ?_
  rw [List.getElem?_map]
  cases e : ys[j]? with
  | none => rfl
  | some y => rw [h j y e]; rfl
end Ver
/-! Rules for laws about deeds and books: a tuple beside the empty one, displays of dicts, zips. -/
namespace Ver
open PySem PySem.Spec PyProof.Rows L2
/-- t == (), t any tuple -/
def rEqE (K : PySem.W.Frag) : R2 := fun x y H Q => ∃ a b xs, x = .ref a ∧ y = .ref b ∧ SqT K H a xs ∧ SqT K H b [] ∧ Q (.bl (decide (xs = []))) H
theorem op_eqEV {X : Cx} {K : PySem.W.Frag} (hK : X.K = K) (hu : X.A.units + 64 < cLine) : OpR X (compareOp .Eq) (rEqE K) := by
  subst hK
  intro pins s σ H x y v u Q I rx ry h
  obtain ⟨a, b, xs, rfl, rfl, ha, hb, q⟩ := h
  cases rx
  cases ry
  obtain ⟨its, r1, p1, _⟩ := I.tuple ha
  obtain ⟨its2, r2, p2, _⟩ := I.tuple hb
  cases r2
  refine SeqAt.eq_tupleAt (e := fun _ => true) p1 p2 (by omega) (fun j _ h2 => absurd h2 (by simp)) ⟨.bl (decide (xs = [])), H, I, ?_, q⟩
  have hl := r1.length
  show Value.bool _ = Value.bool _
  congr 1
  cases xs with
  | nil =>
    cases r1
    rfl
  | cons z zs =>
    cases r1 with
    | cons _ _ => simp
theorem call_list_ofV {X : Cx} {K : PySem.W.Frag} (h : X.K = K) : CallR X (.type "list") (fun xs H Q => ∃ p ys, xs = [.ref p] ∧ (SqL K H p ys ∨ SqT K H p ys) ∧ ∀ l, H l = none → Q (.ref l) (upd H l (.lst ys))) := h ▸ call_list_of
theorem call_tuple_ofV {X : Cx} {K : PySem.W.Frag} (h : X.K = K) : CallR X (.type "tuple") (fun xs H Q => ∃ p ys, xs = [.ref p] ∧ ((SqL K H p ys ∧ ∀ l, H l = none → Q (.ref l) (upd H l (.tup ys))) ∨ (SqT K H p ys ∧ Q (.ref p) H))) := h ▸ call_tuple_of
section
variable {K : PySem.W.Frag} {σ : L2.St} {H : Hp} {Q : VK} {td ty te : TE} {trs : List (TE × TE)}
theorem wDGet (k : td σ H fun x H1 => ty σ H1 fun y H2 => ∃ a v, x = .ref a ∧ DGet H2 a y (some v) ∧ Q v H2) : tDGet td ty σ H Q := k
theorem wDIn (k : ty σ H fun y H1 => td σ H1 fun x H2 => ∃ a o, x = .ref a ∧ DGet H2 a y o ∧ Q (.bl o.isSome) H2) : tDIn ty td σ H Q := k
theorem wDNotIn (k : ty σ H fun y H1 => td σ H1 fun x H2 => ∃ a o, x = .ref a ∧ DGet H2 a y o ∧ Q (.bl (!o.isSome)) H2) : tDNotIn ty td σ H Q := k
theorem wPairs {P : List (V × V) → Hp → Prop} {tk tv : TE} (k : tk σ H fun x H1 => tv σ H1 fun y H2 => tPairs trs σ H2 fun ps H3 => P ((x, y) :: ps) H3) : tPairs ((tk, tv) :: trs) σ H P := k
theorem wPairs0 {P : List (V × V) → Hp → Prop} (k : P [] H) : tPairs [] σ H P := k
theorem wPar3 {i j l : Nat} {ta : TA} {D : Ends} (k : ta σ H fun vs H1 => ∃ u v w, vs = [u, v, w] ∧ D.nx (((σ.set i (some u)).set j (some v)).set l (some w)) H1) : tPar3 i j l ta D σ H := k
theorem exThree {u v w : V} {P : V → V → V → Prop} (h : P u v w) : ∃ a b c, [u, v, w] = [a, b, c] ∧ P a b c := ⟨u, v, w, rfl, h⟩
theorem wEqE {a b : Addr} {xs : List V} (h : SqT K H a xs) (h0 : SqT K H b []) (k : Q (.bl (decide (xs = []))) H) : rEqE K (.ref a) (.ref b) H Q := ⟨a, b, xs, rfl, rfl, h, h0, k⟩
end
theorem tuple_mul1 (l : Addr) (items : Array Value) (n : Nat) (dd : Option Addr) (sl : Array (Option Value)) (u : Tok) :
    Meets (Builtin.«tuple.__mul__» ⟨[.ref l, .int 1 u], []⟩) (fun _ R s => s.heap.get? l = some { cls := .type "tuple", dict := dd, data := .seq items n, slots := sl } ∧ R (.ok (.ret (Value.ref l))) s) :=
  .of_wp fun prog w A R s h => by
    obtain ⟨hp, g, d, tk, os⟩ := s
    obtain ⟨hl, h⟩ := h
    have f1 := AutoSeq1.idx_int
    wp_walk using wpAny_loadPart' hl
    exact ⟨_, rfl, h⟩
theorem tuple_mul0 (l : Addr) (items : Array Value) (n : Nat) (dd : Option Addr) (sl : Array (Option Value)) (x : Int) (u : Tok) (c0 : (decide (x < -(2 ^ 63)) || decide (x ≥ 2 ^ 63)) = false) (c1 : (items.isEmpty || x == 1) = false) (c2 : (decide (x ≤ 0) || items.isEmpty) = true) :
    Meets (Builtin.«tuple.__mul__» ⟨[.ref l, .int x u], []⟩) (fun _ R s => s.heap.get? l = some { cls := .type "tuple", dict := dd, data := .seq items n, slots := sl } ∧
      R (.ok (.ret (Value.ref s.heap.objs.size))) { s with heap := s.heap.push { cls := Value.type "tuple", data := Data.seq #[] }, toks := s.toks }) :=
  .of_wp fun prog w A R s h => by
    obtain ⟨hp, g, d, tk, os⟩ := s
    obtain ⟨hl, h⟩ := h
    have f1 := AutoSeq1.idx_int
    wp_walk using wpAny_loadPart' hl
    repeat (first
      | (refine wpAny_ite_false (decide_eq_false (by rw [c0]; exact Bool.false_ne_true)) ?_; wp_walk using wpAny_loadPart' hl)
      | (refine wpAny_ite_false (decide_eq_false (by rw [c1]; exact Bool.false_ne_true)) ?_; wp_walk using wpAny_loadPart' hl)
      | (refine wpAny_ite_true (decide_eq_true c2) ?_; wp_walk using wpAny_loadPart' hl))
    exact ⟨_, rfl, h⟩
/-- a tuple once, or not at all -/
def rRepT01 (K : PySem.W.Frag) : R2 := fun x y H Q => ∃ l k xs, x = .ref l ∧ y = .int k ∧ SqT K H l xs ∧ xs ≠ [] ∧ (k = 1 → Q (.ref l) H) ∧ (k = 0 → ∀ p, H p = none → Q (.ref p) (upd H p (.tup []))) ∧ (k = 0 ∨ k = 1)
theorem op_repT01V {X : Cx} {K : PySem.W.Frag} (hK : X.K = K) : OpR X (binaryOp .Mult) (rRepT01 K) := by
  subst hK
  intro pins s σ H x y v u Q I rx ry h
  obtain ⟨l, k, xs, rfl, rfl, hT, hne, q1, q0, hk⟩ := h
  cases rx
  obtain ⟨t, rfl⟩ := ry
  obtain ⟨its, r, ⟨⟨cls, dd, data, sl⟩, ho, hc, n, hd⟩, hs⟩ := I.tuple hT
  simp only at hc hd
  subst hc hd
  have hn : its.toArray.isEmpty = false := by
    cases r with
    | nil => exact absurd rfl hne
    | cons _ _ => rfl
  rcases hk with rfl | rfl
  · refine wpAny_binaryOp_repeat_ref (T := "tuple") (U := "int") (by decide) ⟨_, ho, rfl⟩ (fun s' => typeIs_int s' 0 t) noFill_tuple_mul F.fills_int_mul F.slot_int_rmul repeat_tuple F.slot_int_index.lookup
      (call_meets F.slot_int_rmul (typeIs_int s 0 t) F.entry_int_rmul (F.args_int_rmul_2 _ _) (int_rmul_tuple 0 t l its.toArray n dd sl)
        ⟨ho, rfl, ⟨_, ho, rfl⟩, call_meets F.slot_tuple_mul ⟨_, ho, rfl⟩ F.entry_tuple_mul (F.args_tuple_mul_2 _ _) (tuple_mul0 l its.toArray n dd sl 0 t (by decide) (by rw [hn]; rfl) (by rfl)) ⟨ho, ?_⟩⟩)
    exact ⟨.ref s.heap.objs.size, _, I.laid (t' := s.toks) (o := .tup []) (fun b ob q => Heap.get?_push_of_some _ q) (Nat.le_refl _) ⟨by show 0 ≤ sizeLine; decide, [], .nil, IsTup.new _ _⟩, rfl, q0 rfl _ (I.hok.fresh (Nat.le_refl _))⟩
  · refine wpAny_binaryOp_repeat_ref (T := "tuple") (U := "int") (by decide) ⟨_, ho, rfl⟩ (fun s' => typeIs_int s' 1 t) noFill_tuple_mul F.fills_int_mul F.slot_int_rmul repeat_tuple F.slot_int_index.lookup
      (call_meets F.slot_int_rmul (typeIs_int s 1 t) F.entry_int_rmul (F.args_int_rmul_2 _ _) (int_rmul_tuple 1 t l its.toArray n dd sl)
        ⟨ho, rfl, ⟨_, ho, rfl⟩, call_meets F.slot_tuple_mul ⟨_, ho, rfl⟩ F.entry_tuple_mul (F.args_tuple_mul_2 _ _) (tuple_mul1 l its.toArray n dd sl t) ⟨ho, ?_⟩⟩)
    exact ⟨.ref l, H, I, rfl, q1 rfl⟩
end Ver
/-! t[::-1] of a tuple. -/
namespace Ver
open PySem PySem.Spec PyProof.Rows L2
section
variable {prog : Program} {w : World} {A : Around} {E : Value → Shared → Prop} {s : Shared}
theorem back_places (n : Nat) : Builtin.Slice.slicePlaces ((n : Int) - 1) (-1) (-1) = n := by
  unfold Builtin.Slice.slicePlaces
  have no : ¬ ((-1 : Int) > 0) := by decide
  by_cases z : n = 0
  · subst z; decide
  · simp only [no, if_false]
    rw [if_pos (by omega), show (- -1 : Int) = 1 by decide, Int.ediv_one]
    omega
theorem back_adjust (n : Nat) : Builtin.Slice.sliceAdjust none none (-1) (n : Int) = ((n : Int) - 1, -1) := by
  unfold Builtin.Slice.sliceAdjust
  first
    | rfl
    | simp
theorem applied_back {sl : Addr} {vl vu vs : Value} {n : Nat} {Q : Int × Int × Nat → Shared → Prop} (sl_at : s.heap.IsSliceOf sl vl vu vs) (pl : IsPart vl none) (pu : IsPart vu none) (ps : IsPart vs (some (-1)))
    (k : Q ((n : Int) - 1, -1, n) s) : wpAny (model prog w) A (Builtin.Slice.sliceApplied (.ref sl) (pure (n : Int))) Q E s := by
  obtain ⟨o, h1, _, h3⟩ := sl_at
  unfold Builtin.Slice.sliceApplied Builtin.Slice.sliceFields
  refine wpAny_bind (wpAny_bind (wpAny_field h1 h3 (x := vl) rfl ?_))
  refine wpAny_bind (wpAny_field h1 h3 (x := vu) rfl ?_)
  refine wpAny_bind (wpAny_field h1 h3 (x := vs) rfl (wpAny_pure ?_))
  refine wpAny_bind (HT.slicePart_ ps ?_)
  show wpAny _ _ (if ((-1 : Int) == 0) = true then _ else _) _ _ s
  rw [if_neg (by decide)]
  refine wpAny_bind (HT.slicePart_ pl ?_)
  refine wpAny_bind (HT.slicePart_ pu (wpAny_bind (wpAny_pure ?_)))
  show wpAny _ _ (match Builtin.Slice.sliceAdjust none none (-1) (n : Int) with | (lo, hi) => pure (lo, (-1 : Int), Builtin.Slice.slicePlaces lo hi (-1))) _ _ s
  rw [back_adjust]
  show wpAny _ _ (pure ((n : Int) - 1, (-1 : Int), Builtin.Slice.slicePlaces ((n : Int) - 1) (-1) (-1))) _ _ s
  rw [back_places]
  exact wpAny_pure k
theorem pick_same {α β : Type} {f g : α → Option β} : ∀ {l : List α}, (∀ a ∈ l, f a = g a) → l.filterMap f = l.filterMap g
  | [], _ => rfl
  | a :: r, h => by
    rw [List.filterMap_cons, List.filterMap_cons, h a List.mem_cons_self, pick_same fun b hb => h b (List.mem_cons_of_mem _ hb)]
theorem back_pick (xs : Array Value) : ((List.range xs.size).filterMap fun (m : Nat) => xs[((xs.size : Int) - 1 + (m : Int) * -1).toNat]?) = xs.toList.reverse := by
  have h := PySem.W.krv_all xs
  rw [← h, ← List.filterMap_reverse, ← PySem.W.krv_range, List.filterMap_map]
  refine pick_same fun m hm => ?_
  have := List.mem_range.mp hm
  have e : ((xs.size : Int) - 1 + (m : Int) * -1).toNat = xs.size - 1 - m := by omega
  show xs[_]? = xs[_]?
  rw [e]
theorem getItem_back {t sl : Addr} {items : Array Value} {vl vu vs : Value} {Q : Value → Shared → Prop} (tup : IsTup s.heap t items) (sl_at : s.heap.IsSliceOf sl vl vu vs) (pl : IsPart vl none) (pu : IsPart vu none) (ps : IsPart vs (some (-1)))
    (k : Q (.ref s.heap.objs.size) { s with heap := s.heap.push { cls := .type "tuple", data := .seq items.toList.reverse.toArray } }) (size : items.size ≤ sizeLine) : wpAny (model prog w) A (getItem (.ref t) (.ref sl)) Q E s := by
  have fits : sizeOk (.seq items.toList.reverse.toArray) := by
    show items.toList.reverse.toArray.size ≤ sizeLine
    simpa using size
  have ty : s.TypeIs (.ref sl) "slice" := sl_at.elim fun o h => ⟨o, h.1, h.2.1⟩
  unfold getItem
  try with_reducible refine wpAny_holding ?_
  try refine wpAny_bind (wpAny_pure ?_)
  refine wpAny_bind (wpAny_sequenceKey tup.typeIs (by decide) ?_)
  have slot := PyProof.Rows.slot_tuple_getitem
  refine wpAny_bind (wpAny_callSpecial?_slot (name := Str.ofString "__getitem__") tup.typeIs slot ?_)
  refine wpAny_call_entry slot tup.typeIs entry_tuple_getitem ?_ (args_tuple_getitem _ _)
  show wpAny _ _ (Builtin.Tuple.tupleItemsOf (.ref t) >>= _) _ _ s
  refine wpAny_bind (tupleItemsOf_ tup (wpAny_bind (wpAny_typeOf ty ?_)))
  rw [if_pos (by decide)]
  refine wpAny_bind (applied_back sl_at pl pu ps ?_)
  have no : ¬ ((((items.size : Int) - 1) == 0 && (-1 : Int) == 1 && items.size == items.size) = true) := by simp
  show wpAny _ _ (if (((items.size : Int) - 1) == 0 && (-1 : Int) == 1 && items.size == items.size) = true then _ else _) _ _ s
  rw [if_neg no, back_pick]
  first
    | exact wpAny_bind (m := Builtin.Tuple.tupleExact _) (wpAny_newObj_type (wpAny_pure ⟨_, rfl, wpAny_pure k⟩) fits)
    | exact wpAny_bind (wpAny_bind (m := Builtin.Tuple.tupleExact _) (wpAny_newObj_type (wpAny_pure ⟨_, rfl, wpAny_pure k⟩) fits))
end
def tRevT (K : PySem.W.Frag) (te : TE) : TE := fun σ H Q => te σ H fun x H1 => ∃ a xs, x = .ref a ∧ SqT K H1 a xs ∧ ∀ p, H1 p = none → Q (.ref p) (upd H1 p (.tup xs.reverse))
theorem pe_revT {X : Cx} {K : PySem.W.Frag} {e : Expr} {te : TE} {k : Nat} {p1 p2 p3 pos : Pos} (hK : X.K = K) (he : PE X e te) : PE X (.Subscript e (.Slice none none (some (.UnaryOp .USub (.Constant (.int 1) k p1) p2)) p3) pos) (tRevT K te) := by
  subst hK
  constructor
  intro pins s σ H Q I want
  refine Subscript_ (thn (he.run pins s σ H _ I want) ?_)
  rintro v s1 ⟨x, H1, I1, r1, a, xs, rfl, at_, q⟩
  cases r1
  have step : PO X (some (.UnaryOp .USub (.Constant (.int 1) k p1) p2)) (tPart (tUn (rU fun i => .int (-i)) (tC (.int 1)))) := po_some (pe_un un_neg pe_int)
  refine wpAny_Slice (thn (po_none.run pins s1 σ H1 (fun o G => o = none ∧ G = H1) I1 ⟨rfl, rfl⟩) ?_)
  rintro vl s2 ⟨_, _, I2, pl, rfl, rfl⟩
  refine thn (po_none.run pins s2 σ _ (fun o G => o = none ∧ G = _) I2 ⟨rfl, rfl⟩) ?_
  rintro vu s3 ⟨_, _, I3, pu, rfl, rfl⟩
  refine thn (step.run pins s3 σ _ (fun o G => o = some (-1) ∧ G = _) I3 ⟨1, rfl, -1, rfl, rfl, rfl⟩) ?_
  rintro vs s4 ⟨_, G, I4, ps, rfl, rfl⟩
  have I5 := I4.kept (t' := s4.toks) (h' := s4.heap.push { cls := .type "slice", data := .fields #[vl, vu, vs] }) fun b o z => Heap.get?_push_of_some _ z
  obtain ⟨its, r, tup, size⟩ := I5.tuple at_
  have len := r.length
  refine tail_any (ops := [.ref a, .ref s4.heap.objs.size]) tup.typeIs (PyProof.Rows.slot_tuple_getitem.lookup) ?_ (by with_unfolding_all rfl)
  refine getItem_back tup (Heap.IsSliceOf.new _ vl vu vs) pl pu ps ?_ (by rw [List.size_toArray]; omega)
  refine ⟨.ref _, _, I5.laid (t' := s4.toks) (o := .tup xs.reverse) (fun b o z => Heap.get?_push_of_some _ z) (Nat.le_refl _) ?_, rfl, q _ (I5.hok.fresh (Nat.le_refl _))⟩
  exact ⟨by rw [List.length_reverse]; exact size, its.reverse, r.reverse, IsTup.new _ _⟩
end Ver
/-! What repr shows of nested things, and the defs that are run where no repr is under way. -/
namespace Ver
open PySem PySem.Spec PyProof.Rows L2

/-! ### what repr shows -/
mutual
/-- v is shown as d: l tells whether lists may stand in it (else dicts may), k bounds its depth, n the length of its text -/
inductive Rp (H : Hp) (l : Bool) : Nat → V → PyData → Nat → Prop
  | non {k} : Rp H l k .non .none 4
  | bl {k} (b : Bool) : Rp H l k (.bl b) (.bool b) 5
  | int {k} (i : Int) (h : i.natAbs < 10 ^ 300) : Rp H l k (.int i) (.int i) 301
  | str {k} (z : Str) (h : ∀ c ∈ z.cps.toList, c < 16 ^ 8) : Rp H l k (.str z) (.str z) (10 * z.length + 2)
  | tup {k a xs ds n} : H a = some (.tup xs) → RpA H l k xs ds n → Rp H l (k + 1) (.ref a) (.tuple ds) (n + 4)
  | lst {k a xs ds n} : l = true → H a = some (.lst xs) → RpA H l k xs ds n → Rp H l (k + 1) (.ref a) (.list ds) (n + 4)
  | dct {k a kvs ds n} : l = false → H a = some (.dK kvs) → RpD H l k kvs ds n → Rp H l (k + 1) (.ref a) (.dict ds) (n + 4)
inductive RpA (H : Hp) (l : Bool) : Nat → List V → List PyData → Nat → Prop
  | nil {k} : RpA H l k [] [] 0
  | cons {k x d n xs ds m} : Rp H l k x d n → RpA H l k xs ds m → RpA H l k (x :: xs) (d :: ds) (n + 2 + m)
inductive RpD (H : Hp) (l : Bool) : Nat → List (Key × V) → List (PyData × PyData) → Nat → Prop
  | nil {k} : RpD H l k [] [] 0
  | cons {k y e o x d n xs ds m} : Rp H l k (kV y) e o → Rp H l k x d n → RpD H l k xs ds m → RpD H l k ((y, x) :: xs) ((e, d) :: ds) (o + 2 + n + 2 + m)
end

theorem tupleText_le (ts : List Str) : (tupleText ts).length ≤ piled ts + 4 := by
  unfold tupleText
  rw [strLen_append, strLen_append]
  have e1 : ((("(" : String) : Str)).length = 1 := rfl
  have e2 : (((if ts.length == 1 then ",)" else ")" : String) : Str)).length ≤ 2 := by split <;> decide
  cases ts with
  | nil =>
    have e3 : (Str.join ", " []).length = 0 := rfl
    omega
  | cons t r =>
    have e3 := join_length_add (t :: r) (by simp)
    omega
theorem dictText_le (ts : List Str) : (dictText ts).length ≤ piled ts + 4 := by
  unfold dictText
  rw [strLen_append, strLen_append]
  have e1 : ((("{" : String) : Str)).length = 1 := rfl
  have e2 : ((("}" : String) : Str)).length = 1 := rfl
  cases ts with
  | nil =>
    have e3 : (Str.join ", " []).length = 0 := rfl
    omega
  | cons t r =>
    have e3 := join_length_add (t :: r) (by simp)
    omega
theorem listText_le : ∀ ts : List Str, (listText ts).length ≤ piled ts + 4
  | [] => by rw [listText_nil]; decide
  | t :: r => by
    have h := textFrom_length_pos r 1 (("[" : Str) ++ ("" : String) ++ t) (Nat.succ_pos 0)
    have e : (("[" : Str) ++ ("" : String) ++ t).length = 1 + t.length := by
      rw [strLen_append, strLen_append]
      rfl
    have q : (listText (t :: r)).length = (textFrom 1 (("[" : Str) ++ ("" : String) ++ t) r).length + 1 := by
      unfold listText
      rw [strLen_append]
      rfl
    rw [q, h, e, piled_cons]
    omega
mutual
theorem Rp.ex {H G : Hp} {l : Bool} (e : Ex H G) : ∀ {k : Nat} {v : V} {d : PyData} {n : Nat}, Rp H l k v d n → Rp G l k v d n
  | _, _, _, _, .non => .non
  | _, _, _, _, .bl b => .bl b
  | _, _, _, _, .int i h => .int i h
  | _, _, _, _, .str z h => .str z h
  | _, _, _, _, .tup h q => .tup (e _ _ h) (RpA.ex e q)
  | _, _, _, _, .lst f h q => .lst f (e _ _ h) (RpA.ex e q)
  | _, _, _, _, .dct f h q => .dct f (e _ _ h) (RpD.ex e q)
theorem RpA.ex {H G : Hp} {l : Bool} (e : Ex H G) : ∀ {k : Nat} {xs : List V} {ds : List PyData} {n : Nat}, RpA H l k xs ds n → RpA G l k xs ds n
  | _, _, _, _, .nil => .nil
  | _, _, _, _, .cons q t => .cons (Rp.ex e q) (RpA.ex e t)
theorem RpD.ex {H G : Hp} {l : Bool} (e : Ex H G) : ∀ {k : Nat} {xs : List (Key × V)} {ds : List (PyData × PyData)} {n : Nat}, RpD H l k xs ds n → RpD G l k xs ds n
  | _, _, _, _, .nil => .nil
  | _, _, _, _, .cons p q t => .cons (Rp.ex e p) (Rp.ex e q) (RpD.ex e t)
end
/-- v is shown by a text of at most n signs, at most k deep -/
def Sh (H : Hp) (l : Bool) (k n : Nat) (v : V) : Prop := ∃ d m, Rp H l k v d m ∧ m ≤ n
section
variable {H : Hp} {l : Bool} {k n : Nat}
theorem Sh.ex {G : Hp} {v : V} (h : Sh H l k n v) (e : Ex H G) : Sh G l k n v := h.elim fun d h => h.elim fun m h => ⟨d, m, h.1.ex e, h.2⟩
theorem Sh.le {m : Nat} {v : V} (h : Sh H l k n v) (q : n ≤ m) : Sh H l k m v := h.elim fun d h => h.elim fun a h => ⟨d, a, h.1, Nat.le_trans h.2 q⟩
theorem sh_all : ∀ {xs : List V}, (∀ x ∈ xs, Sh H l k n x) → ∃ ds m, RpA H l k xs ds m ∧ m ≤ xs.length * (n + 2)
  | [], _ => ⟨_, _, .nil, by simp⟩
  | x :: xs, h => by
    obtain ⟨d, m, q, hm⟩ := h x List.mem_cons_self
    obtain ⟨ds, ms, t, ht⟩ := sh_all (xs := xs) fun y hy => h y (List.mem_cons_of_mem _ hy)
    refine ⟨_, _, .cons q t, ?_⟩
    rw [List.length_cons, Nat.succ_mul]
    omega
theorem Sh.non : Sh H l k 4 .non := ⟨_, _, .non, Nat.le_refl _⟩
theorem Sh.bl {b : Bool} : Sh H l k 5 (.bl b) := ⟨_, _, .bl b, Nat.le_refl _⟩
theorem Sh.int {i : Int} (h : i.natAbs < 10 ^ 300) : Sh H l k 301 (.int i) := ⟨_, _, .int i h, Nat.le_refl _⟩
theorem Sh.str {z : Str} (h : ∀ c ∈ z.cps.toList, c < 16 ^ 8) : Sh H l k (10 * z.length + 2) (.str z) := ⟨_, _, .str z h, Nat.le_refl _⟩
theorem Sh.tup {a : Addr} {xs : List V} (h : H a = some (.tup xs)) (q : ∀ x ∈ xs, Sh H l k n x) : Sh H l (k + 1) (xs.length * (n + 2) + 4) (.ref a) := by
  obtain ⟨ds, m, r, hm⟩ := sh_all q
  exact ⟨_, _, .tup h r, by omega⟩
theorem Sh.lst {a : Addr} {xs : List V} (h : H a = some (.lst xs)) (q : ∀ x ∈ xs, Sh H true k n x) : Sh H true (k + 1) (xs.length * (n + 2) + 4) (.ref a) := by
  obtain ⟨ds, m, r, hm⟩ := sh_all q
  exact ⟨_, _, .lst rfl h r, by omega⟩
theorem Sh.dct0 {a : Addr} (h : H a = some (.dK [])) : Sh H false (k + 1) 4 (.ref a) := ⟨_, _, .dct rfl h .nil, by omega⟩
theorem Sh.dct1 {a : Addr} {z : Str} {i : Int} (h : H a = some (.dK [(.inr z, .int i)])) (hz : ∀ c ∈ z.cps.toList, c < 16 ^ 8) (hi : i.natAbs < 10 ^ 300) : Sh H false (k + 1) (10 * z.length + 400) (.ref a) :=
  ⟨_, _, .dct rfl h (.cons (.str z hz) (.int i hi) .nil), by omega⟩
/-- a text is written with signs that there are -/
theorem signs_ok {z : Str} (h : (z.cps.toList.all fun c => decide (c < 16 ^ 8)) = true) : ∀ c ∈ z.cps.toList, c < 16 ^ 8 := fun c hc => of_decide_eq_true (List.all_eq_true.mp h c hc)
end
theorem log_small {i : Int} (h : i.natAbs < 10 ^ 300) : i.natAbs.log2 < 1920 := by
  by_cases q : i.natAbs = 0
  · rw [q]; decide
  · refine (Nat.log2_lt q).mpr (Nat.lt_trans h ?_)
    decide +kernel
theorem key_shape {y : Key} {u : Value} (h : keyIs y u = true) : RelV (kV y) u := by
  rcases keyIs_shape h with ⟨i, t, rfl, rfl⟩ | ⟨z, t, rfl, rfl⟩
  · exact ⟨t, rfl⟩
  · exact ⟨t, rfl⟩

section
variable {P : Program} {w : World} {H : Hp} {h : Heap} {l : Bool}
mutual
theorem Rp.reads (ok : HOk P w H h) : ∀ {k : Nat} {v : V} {d : PyData} {n : Nat} {u : Value}, Rp H l k v d n → RelV v u → ∃ as, Reads h u d as ∧ (l = false → sysModules ∉ as)
  | _, _, _, _, u, .non, r => by
    cases (show u = Value.none from r)
    exact ⟨_, .none, fun _ => by simp⟩
  | _, _, _, _, u, .bl b, r => by
    cases (show u = Value.bool b from r)
    exact ⟨_, .bool b, fun _ => by simp⟩
  | _, _, _, _, u, .int i _, r => by
    obtain ⟨t, rfl⟩ := (show ∃ t, u = Value.int i t from r)
    exact ⟨_, .int i t, fun _ => by simp⟩
  | _, _, _, _, u, .str z _, r => by
    obtain ⟨t, rfl⟩ := (show ∃ t, u = Value.str z t from r)
    exact ⟨_, .str z t, fun _ => by simp⟩
  | _, _, _, _, u, .tup (a := a) e q, r => by
    cases (show u = Value.ref a from r)
    obtain ⟨_, its, rv, o, h1, h2, m, h3⟩ := (show ObjOk P w H h a (.tup _) from ok a _ e)
    obtain ⟨as, q1, q2⟩ := RpA.reads ok q rv
    exact ⟨as, .tuple h1 h2 h3 (by simpa using q1), q2⟩
  | _, _, _, _, u, .lst (a := a) hl e q, r => by
    cases (show u = Value.ref a from r)
    obtain ⟨_, its, m, rv, h1⟩ := (show ObjOk P w H h a (.lst _) from ok a _ e)
    obtain ⟨as, q1, q2⟩ := RpA.reads ok q rv
    exact ⟨_, .list h1 rfl rfl (by simpa using q1), fun z => by rw [hl] at z; cases z⟩
  | _, _, _, _, u, .dct (a := a) hl e q, r => by
    cases (show u = Value.ref a from r)
    obtain ⟨_, hn, vs, kv, o, es, ep, h1, h2, h3, _, h5, _⟩ := (show ObjOk P w H h a (.dK _) from ok a _ e)
    obtain ⟨as, bs, q1, q2, q3⟩ := RpD.reads ok q kv h5
    refine ⟨_, .dict h1 h2.1 h3 q1 q2, fun z => ?_⟩
    have q4 := q3 z
    intro hm
    rcases List.mem_append.mp hm with hm | hm
    · rcases List.mem_cons.mp hm with hm | hm
      · rw [← hm] at hn
        simp at hn
      · exact q4.1 hm
    · exact q4.2 hm
theorem RpA.reads (ok : HOk P w H h) : ∀ {k : Nat} {xs : List V} {ds : List PyData} {n : Nat} {us : List Value}, RpA H l k xs ds n → Vals xs us → ∃ as, ReadsAll h us ds as ∧ (l = false → sysModules ∉ as)
  | _, _, _, _, _, .nil, r => by
    cases r
    exact ⟨_, .nil, fun _ => by simp⟩
  | _, _, _, _, _, .cons q t, r => by
    cases r with
    | cons r1 r2 =>
      obtain ⟨as, q1, q2⟩ := Rp.reads ok q r1
      obtain ⟨bs, t1, t2⟩ := RpA.reads ok t r2
      exact ⟨_, .cons q1 t1, fun z => by
        rw [List.mem_append]
        exact fun y => y.elim (q2 z) (t2 z)⟩
theorem RpD.reads (ok : HOk P w H h) : ∀ {k : Nat} {kvs : List (Key × V)} {ds : List (PyData × PyData)} {n : Nat} {vs : List (Key × Value)} {es : List DictEntry}, RpD H l k kvs ds n → KV kvs vs → Pairs (mixKind P w) es vs →
    ∃ as bs, ReadsAll h (es.map (·.key)) (ds.map (·.1)) as ∧ ReadsAll h (es.map (·.val)) (ds.map (·.2)) bs ∧ (l = false → sysModules ∉ as ∧ sysModules ∉ bs)
  | _, _, _, _, _, _, .nil, r, p => by
    cases r
    cases p
    exact ⟨_, _, .nil, .nil, fun _ => by simp⟩
  | _, _, _, _, _, _, .cons q1 q2 t, r, p => by
    cases r with
    | cons r1 r2 =>
      cases p with
      | cons p1 p2 p3 =>
        rename_i _ kv0 _ _ _
        obtain ⟨k0, v0⟩ := kv0
        obtain ⟨e1, e2⟩ := r1
        dsimp only at e1 e2 p1 p2
        obtain ⟨as, s1, s2⟩ := Rp.reads ok q1 (key_shape (y := _) (by rw [e1]; exact p1))
        subst p2
        obtain ⟨bs, s3, s4⟩ := Rp.reads ok q2 e2
        obtain ⟨cs, gs, s5, s6, s7⟩ := RpD.reads ok t r2 p3
        refine ⟨_, _, .cons s1 s5, .cons s3 s6, fun z => ⟨?_, ?_⟩⟩
        · rw [List.mem_append]
          exact fun y => y.elim (s2 z) (s7 z).1
        · rw [List.mem_append]
          exact fun y => y.elim (s4 z) (s7 z).2
end
end
section
variable {H : Hp} {l : Bool}
mutual
theorem Rp.able : ∀ {k : Nat} {v : V} {d : PyData} {n : Nat}, Rp H l k v d n → d.showable = true ∧ (d.hasDict = true → l = false) ∧ d.depth ≤ k ∧ d.shown.length ≤ n
  | _, _, _, _, .non => ⟨by simp [PyData.showable], by simp [PyData.hasDict], by simp [PyData.depth], by simp only [PyData.shown]; decide⟩
  | _, _, _, _, .bl b => ⟨by simp [PyData.showable], by simp [PyData.hasDict], by simp [PyData.depth], by simp only [PyData.shown]; cases b <;> decide⟩
  | _, _, _, _, .int i hi => ⟨by simp only [PyData.showable]; exact decide_eq_true (log_small hi), by simp [PyData.hasDict], by simp [PyData.depth], by
      simp only [PyData.shown]
      show (Str.ofString (toString i)).length ≤ 301
      rw [PySem.ofString_length]
      exact int_text_length_le10 (by decide) hi⟩
  | _, _, _, _, .str z hz => ⟨by simp [PyData.showable], by simp [PyData.hasDict], by simp [PyData.depth], by
      simp only [PyData.shown]
      exact StrLaws.reprText_len z hz⟩
  | _, _, _, _, .tup e q => by
    obtain ⟨h1, h2, h3, h4⟩ := q.able
    refine ⟨by simpa only [PyData.showable] using h1, by simpa only [PyData.hasDict] using h2, by simp only [PyData.depth]; omega, ?_⟩
    simp only [PyData.shown]
    refine Nat.le_trans (tupleText_le _) ?_
    omega
  | _, _, _, _, .lst hl e q => by
    obtain ⟨h1, h2, h3, h4⟩ := q.able
    refine ⟨by simpa only [PyData.showable] using h1, by simpa only [PyData.hasDict] using h2, by simp only [PyData.depth]; omega, ?_⟩
    simp only [PyData.shown]
    refine Nat.le_trans (listText_le _) ?_
    omega
  | _, _, _, _, .dct hl e q => by
    obtain ⟨h1, h3, h4⟩ := q.able
    refine ⟨by simpa only [PyData.showable] using h1, fun _ => hl, by simp only [PyData.depth]; omega, ?_⟩
    simp only [PyData.shown]
    refine Nat.le_trans (dictText_le _) ?_
    omega
theorem RpA.able : ∀ {k : Nat} {xs : List V} {ds : List PyData} {n : Nat}, RpA H l k xs ds n → PyData.showableAll ds = true ∧ (PyData.hasDictAll ds = true → l = false) ∧ PyData.depthAll ds ≤ k ∧ piled (PyData.shownAll ds) ≤ n
  | _, _, _, _, .nil => ⟨by simp [PyData.showableAll], by simp [PyData.hasDictAll], by simp [PyData.depthAll], by simp [PyData.shownAll, piled]⟩
  | _, _, _, _, .cons q t => by
    obtain ⟨h1, h2, h3, h4⟩ := q.able
    obtain ⟨g1, g2, g3, g4⟩ := t.able
    refine ⟨by simp only [PyData.showableAll, h1, g1, Bool.and_self], fun z => ?_, by simp only [PyData.depthAll]; omega, ?_⟩
    · simp only [PyData.hasDictAll, Bool.or_eq_true] at z
      exact z.elim h2 g2
    · simp only [PyData.shownAll]
      rw [piled_cons]
      omega
theorem RpD.able : ∀ {k : Nat} {kvs : List (Key × V)} {ds : List (PyData × PyData)} {n : Nat}, RpD H l k kvs ds n → PyData.showableKv ds = true ∧ PyData.depthKv ds ≤ k ∧ piled (PyData.shownKv ds) ≤ n
  | _, _, _, _, .nil => ⟨by simp [PyData.showableKv], by simp [PyData.depthKv], by simp [PyData.shownKv, piled]⟩
  | _, _, _, _, .cons q1 q2 t => by
    obtain ⟨h1, _, h3, h4⟩ := q1.able
    obtain ⟨f1, _, f3, f4⟩ := q2.able
    obtain ⟨g1, g3, g4⟩ := t.able
    refine ⟨by simp only [PyData.showableKv, h1, f1, g1, Bool.and_self], by simp only [PyData.depthKv]; omega, ?_⟩
    simp only [PyData.shownKv]
    rw [piled_cons, strLen_append, strLen_append]
    have e : ((": " : String) : Str).length = 2 := rfl
    omega
end
end

/-! ### defs that are run where no repr is under way -/
/-- room for k more levels, and no repr under way -/
structure Quiet (k : Nat) (A : Around) : Prop where
  room : Room k A
  still : A.guards = some []
theorem Quiet.mono {j k : Nat} {A : Around} (q : Quiet k A) (h : j ≤ k) : Quiet j A := ⟨q.room.mono h, q.still⟩
theorem Quiet.in {k : Nat} {A : Around} (q : Quiet (k + 1) A) (e : Env) : Quiet k (A.deeper e) := ⟨q.room.deeper e, q.still⟩

section
variable (P : Program) (w : World) (K : PySem.W.Frag) (mg : Str → Option Value) (base : Heap) (C : CXT)
/-- a def's promise, kept wherever it is quiet -/
structure FnQ (k : Nat) (f : Addr) (fd : FuncData) (ps : List Str) (sp : Sp) : Prop where
  arity : ∀ vs H Q E, sp vs H Q E → vs.length = ps.length
  goes : ∀ {A : Around} {outer : List Env} {s : Shared} {H : Hp} {args : Args} {us : List Value} {vs : List V} {Q : VK} {E : XK},
    Quiet k A → Env0 P w K mg base A outer s H → BindsTo s fd args (ps.zip us) → Vals vs us → sp vs H Q E →
      codeAny (model P w) A (.call (.ref f) args) (CR C outer P w H s Q E) s
end

section
variable {P : Program} {w : World} {K : PySem.W.Frag} {mg : Str → Option Value} {base : Heap} {C : CXT} {k : Nat} {f : Addr} {ps N : List Str} {sp : Sp}
/-- what a def's body has come to when it is left -/
theorem left_CE {X : Cx} {σ : L2.St} {H : Hp} {s' : Shared} {Q : VK} {v : V} {u : Value} (I : Inv X [] σ H s') (hx : X.ex = []) (r : RelV v u) (q : Q v H) : CE X.outer X.prog X.w X.H_0 X.s_0 Q u s' :=
  ⟨v, H, I.os, I.bare, by
    have z := I.base
    rw [hx] at z
    exact z, I.hok, r, q⟩
theorem quietFn {x qual : Str} {par : Arguments} {body : List Stmt} {sc : Scope} {dV kV doc pm cdv ct oc : Value} {an od : Option Addr} {osl : Array (Option Value)}
    (lk : K.lookup f = some ⟨oc, od, .func (PySem.W.fnOf x qual par body sc dV kV doc pm an cdv ct), osl⟩) (code : PySem.W.codeIn K cdv qual = true) (S : FnScope N ps sc)
    (arity : ∀ vs H Q E, sp vs H Q E → vs.length = ps.length)
    (reads : ∀ (A : Around) (outer : List Env) (s : Shared) (H : Hp) (vs : List V) (Q : VK) (E : XK), Quiet k (A.deeper (envOfC qual sc s.heap.objs.size f cdv)) → sp vs H Q E →
      ∃ t, PSs (cxOf C P w K mg base N qual sc f cdv A outer s H E) body t ∧ t { nx := fun _ H1 => Q .non H1, rt := Q } (start N vs) H) :
    FnQ P w K mg base C (k + 1) f (PySem.W.fnOf x qual par body sc dV kV doc pm an cdv ct) ps sp := by
  constructor
  · exact arity
  · intro A outer s H args us vs Q E quiet e0 bind rel want
    have count := arity _ _ _ _ want
    have same : ∀ b o, base.get? b = some o → s.heap.get? b = some o := fun b o e => (e0.bs b o e).1
    have inK := e0.mod.kin.keeps same
    have nolim := e0.mod.nolimit.keeps same
    have kinds : ∀ y ∈ ps.zip us, sc.names.lookup y.1 = some .local ∨ (sc.names.lookup y.1 = some .cell ∧ ((cellsFrom (s.heap.objs.size + 1) sc.names []).lookup y.1).isSome = true) := by
      rintro ⟨n, v⟩ hy
      refine (S.par n (List.of_mem_zip hy).1).imp id fun q => ⟨q, ?_⟩
      exact PySem.W.cellsFrom_some _ _ _ (.inl q)
    refine codeAny_call_function quiet.room.depth (inK _ _ lk) rfl S.co S.gen rfl (PySem.W.codeRec_of inK code) (bind _ _ _ _ ?_)
    refine wpAny_newFunctionEnv_cells S.kind kinds fun e he s1 x1 => ?_
    subst he
    refine ⟨nolim.keeps x1.toInCall.keep, codeAny_func ?_⟩
    obtain ⟨t, ht, hq⟩ := reads A outer s H vs Q E (quiet.in _) want
    have I0 := inv_start (CX := C) (E := E) S quiet.room.hd e0 count rel x1
    refine wpAny_mono (ht.run [] s1 _ H _ I0 hq) ?_ (fun e s2 h => h)
    intro fl s2 h
    match fl, h with
    | .ret u, h =>
      obtain ⟨v, σ1, H1, J, rv, q⟩ := h
      exact left_CE J rfl rv q
    | .next, h =>
      obtain ⟨σ1, H1, J, q⟩ := h
      exact left_CE (v := .non) (u := .none) J rfl rfl q
    | .brk, h =>
      obtain ⟨_, _, _, q⟩ := h
      exact q.elim
    | .cont, h =>
      obtain ⟨_, _, _, q⟩ := h
      exact q.elim
end

section
variable {X : Cx} {C : CXT} {k : Nat} {f : Addr} {fd : FuncData} {ps : List Str} {sp : Sp} {E : XK} {x : Str} {e : Expr} {es : List Expr} {p pos : Pos} {t : TA}
/-- f(e, ..), f such a def, all its arguments by place -/
theorem pe_callQ (F : FnQ X.prog X.w X.K X.mg X.base C k f fd ps sp) (quiet : Quiet k X.A) (hg : Gl X x) (hm : X.mg x = some (.ref f)) (hk : PySem.W.keepIn X.K (.ref f) = true) (hb : Binds X.K fd ps []) (hx : Passes C X E)
    (ha : PA X (e :: es) t) (hd : (x == ("__debug__" : Str)) = false := by decide) (he : starEach (e :: es) X.env = (false, eval e X.env) :: starEach es X.env := by rfl) (hp : (backTo pos (starEach es X.env)).any (·.1) = false := by rfl) :
    PE X (.Call (.Name x p) (e :: es) [] pos) (tCall sp [] E t) := by
  constructor
  intro pins s σ H Q I want
  refine wpAny_Call_Name_kw (ld_glob I hg hm ?_ hd)
  refine PySem.W.callWith_K (h₀ := X.base) I.ok.mod.kin hk (thn (ha.run pos pins s σ H _ I want) ?_) he hp
  rintro us s1 ⟨vs, H1, I1, rel, q⟩
  refine ⟨I1.kIn, ?_⟩
  rw [List.append_nil] at q
  have count := F.arity _ _ _ _ q
  have bind := hb s1 us I1.kIn (by rw [List.append_nil, ← rel.length]; exact count)
  rw [List.append_nil] at bind
  refine wpAny_call (codeAny_mono (F.goes quiet I1.env0 bind rel q) ?_)
  intro r s2 h
  match r, h with
  | .error z, h => exact hx pins σ H1 s1 z s2 I1 h
  | .ok (.ret u), h => exact I1.after h
  | .ok .next, h => exact h.elim
  | .ok .brk, h => exact h.elim
  | .ok .cont, h => exact h.elim
end

/-- the rule for a def of the text that is run where no repr is under way -/
theorem okQ {P : Program} {w : World} {K : PySem.W.Frag} {mg : Str → Option Value} {base : Heap} {x qual : Str} {st : Stmt} {f : Addr} {fd : FuncData} {N ps : List Str} {k : Nat} {sp : Sp} (F : Fun K x qual st f fd) (S : FnScope N ps (defScope st))
    (arity : ∀ vs H Q E, sp vs H Q E → vs.length = ps.length)
    (reads : ∀ (cdv : Value) (A : Around) (outer : List Env) (s : Shared) (H : Hp) (vs : List V) (Q : VK) (E : XK), Quiet k (A.deeper (envOfC qual (defScope st) s.heap.objs.size f cdv)) → sp vs H Q E →
      ∃ t, PSs (cxOf CX0 P w K mg base N qual (defScope st) f cdv A outer s H E).nox (defBody st) t ∧ t { nx := fun _ H1 => Q .non H1, rt := Q } (start N vs) H) : FnQ P w K mg base CX0 (k + 1) f fd ps sp := by
  obtain ⟨_, _, _, _, _, _, cdv, _, _, rfl, lk, code⟩ := F.ex
  refine quietFn lk code S arity fun A outer s H vs Q E quiet want => ?_
  obtain ⟨t, h, q⟩ := reads cdv A outer s H vs Q E quiet want
  exact ⟨t, h.nox, q⟩

/-! ### repr -/
/-- what is handed to repr is shown so -/
def rRepr : List V → Hp → VK → Prop := fun xs H Q => ∃ v l d n, xs = [v] ∧ Rp H l 64 v d n ∧ n ≤ 10000000 ∧ Q (.str d.shown) H
theorem call_repr {X : Cx} {k : Nat} (quiet : Quiet k X.A) : CallR X (.builtin "repr") rRepr := by
  have still := quiet.still
  have room : X.A.units + 65 < cLine := by have := quiet.room.un; omega
  intro pins s σ H xs us Q I rel want
  obtain ⟨v, l, d, n, rfl, rp, hn, q⟩ := want
  obtain ⟨u, rfl, r⟩ := vals1 rel
  obtain ⟨a1, a2, a3, a4⟩ := rp.able
  have size : d.shown.length ≤ sizeLine := by
    have : (10000000 : Nat) ≤ sizeLine := by decide
    omega
  obtain ⟨as, rd, hs⟩ := rp.reads I.hok r
  have done : ∀ tk tk', EP X pins σ Q (.str d.shown tk) { s with toks := tk' } := fun tk tk' => ⟨.str d.shown, H, I.tok _, ⟨_, rfl⟩, q⟩
  have deep : ∀ {a : Addr}, Reads s.heap (.ref a) d as → wpAny (model X.prog X.w) X.A (call (.builtin "repr") [.ref a]) (EP X pins σ Q) X.xe s := fun {a} rd => by
    refine repr_of_reads' (h₀ := s.heap) rd a1 (fun z => hs (a2 z)) still (by omega) (fun _ _ z => z) (fun h' u tk keep => ?_) size
    exact ⟨.str d.shown, H, I.kept keep, ⟨_, rfl⟩, q⟩
  cases rd with
  | none => exact PySem.P.repr_of_none (done _ _)
  | bool b => exact PySem.P.repr_of_bool (done _ _)
  | int i t => exact PySem.P.repr_of_int (by simpa [PyData.showable] using a1) (done _ _)
  | str z t => exact PySem.P.repr_of_str (done _ _) size
  | list h1 h2 h3 h4 => exact deep (.list h1 h2 h3 h4)
  | tuple h1 h2 h3 h4 => exact deep (.tuple h1 h2 h3 h4)
  | dict h1 h2 h3 h4 h5 => exact deep (.dict h1 h2 h3 h4 h5)

/-! ### the law's end -/
section
variable {P : Program} {w : World} {K : PySem.W.Frag} {mg mb : Str → Option Value} {C : CXT} {k : Nat} {fa a : Addr} {fd : FuncData} {x : Str} {sp : Sp} {s1 : Shared} {vs : List Value} {ns : List Int}
/-- what a law's call must come to -/
def EndOk (s1 : Shared) (r : Result) (s2 : Shared) : Prop := r = .ok (.ret (.bool true)) ∧ OldK s1.heap s2.heap ∧ s2.os = s1.os ∧ AllBare s2.gens
theorem quiet_from (H : Hp) (inK : K.In s1.heap) (gl : s1.heap.Ns mainGlobals mg) (bn : s1.heap.Ns builtinsNs mb) (bb : ∀ y : Str, y ≠ "__name__" → mb y = bootBuiltins y) (nl : s1.heap.NoLimit) (gens : s1.gens = #[])
    (obj : s1.heap.get? a = some { cls := .type "list", data := .seq vs.toArray }) (quiet : Quiet k callerA)
    (F : ∀ base : Heap, K.In base → base.Ns mainGlobals mg → FnQ P w K mg base C k fa fd [x] sp) (bind : ∀ (s : Shared) (u : Value), BindsTo s fd ⟨[u], []⟩ [(x, u)])
    (only : Only H) (begin_ : sp [.ref a] H (fun v _ => v = .bl true) fun _ _ _ => False) (never : ∀ H e s', C [] H s1 (fun _ _ _ => False) e s' → False)
    (hok : HOk P w H s1.heap) (just : ∀ b, H b ≠ none → b = a) (notK : H a ≠ none → K.lookup a = none) :
    codeAny (model P w) callerA (.call (.ref fa) ⟨[.ref a], []⟩) (EndOk s1) s1 := by
  have free : ∀ {b : Addr}, b ≠ a → H b = none := fun {b} n => by
    cases e : H b with
    | none => rfl
    | some o => exact absurd (just b (by rw [e]; exact Option.some_ne_none o)) n
  have names : ∀ {b : Addr} {m : Str → Option Value}, s1.heap.Ns b m → (hidT s1.heap H).Ns b m := by
    rintro b m ⟨o, es, ep, e, d, r⟩
    refine ⟨o, es, ep, hidT_get e (free ?_), d, r⟩
    rintro rfl
    rw [obj] at e
    cases e
    exact nomatch (show Data.seq vs.toArray _ = Data.dict es ep from d)
  have inB : K.In (hidT s1.heap H) := fun b o e => by
    refine hidT_get (inK b o e) ?_
    by_cases z : b = a
    · subst z
      cases q : H b with
      | none => rfl
      | some u =>
        have z := notK (by rw [q]; exact Option.some_ne_none u)
        rw [e] at z
        cases z
    · exact free z
  have mod : Mod K mg (hidT s1.heap H) := ⟨inB, names gl, ⟨mb, names bn, bb⟩, nl.elim fun mc z => ⟨mc, names z.1, z.2⟩⟩
  have none_ : ∀ b ∈ frs ([] : List Env), H b = none := fun b z => nomatch (show b ∈ ([] : List Addr) from z)
  have e0 : Env0 P w K mg (hidT s1.heap H) callerA [] s1 H := ⟨rfl, mod, fun _ _ e => of_hidT e, Nat.le_of_eq (hidT_size _ _), trivial, none_, hok, .of_eq gens⟩
  refine codeAny_mono ((F _ inB (names gl)).goes (us := [.ref a]) (vs := [.ref a]) quiet e0 (bind s1 (.ref a)) (.cons rfl .nil) begin_) ?_
  intro r s2 h
  match r, h with
  | .error e, h => exact (never H e s2 h).elim
  | .ok .next, h => exact h.elim
  | .ok .brk, h => exact h.elim
  | .ok .cont, h => exact h.elim
  | .ok (.ret u), h =>
    obtain ⟨v, H2, os, bare, un, hok2, rel, yes⟩ := h
    cases yes
    cases (show u = Value.bool true from rel)
    refine ⟨rfl, OldK.of_keep fun b o e => ?_, os, bare⟩
    rcases only b with z | ⟨ob, xs, z⟩
    · exact un.keep b o e z (fun y => nomatch (show b ∈ ([] : List Addr) from y)) (by simp)
    · have e1 := (hok b _ z).1
      rw [e] at e1
      cases e1
      exact (hok2 b _ (un.frzs b _ _ z)).1
theorem ints_vals : ∀ {vs : List Value} {ns : List Int}, IntsAre vs ns → Vals (ns.map V.int) vs
  | [], _, .nil => .nil
  | _ :: _, _, .cons _ t r => .cons ⟨t, rfl⟩ (ints_vals r)
theorem law_quiet (inK : K.In s1.heap) (gl : s1.heap.Ns mainGlobals mg) (bn : s1.heap.Ns builtinsNs mb) (bb : ∀ y : Str, y ≠ "__name__" → mb y = bootBuiltins y) (nl : s1.heap.NoLimit) (gens : s1.gens = #[])
    (obj : s1.heap.get? a = some { cls := .type "list", data := .seq vs.toArray }) (whole : IntsAre vs ns) (few : ns.length ≤ sizeLine) (quiet : Quiet k callerA)
    (F : ∀ base : Heap, K.In base → base.Ns mainGlobals mg → FnQ P w K mg base C k fa fd [x] sp) (bind : ∀ (s : Shared) (u : Value), BindsTo s fd ⟨[u], []⟩ [(x, u)])
    (begin_ : ∀ H : Hp, Only H → SqL K H a (ns.map V.int) → sp [.ref a] H (fun v _ => v = .bl true) fun _ _ _ => False) (never : ∀ H e s', C [] H s1 (fun _ _ _ => False) e s' → False) :
    codeAny (model P w) callerA (.call (.ref fa) ⟨[.ref a], []⟩) (EndOk s1) s1 := by
  have rel := ints_vals whole
  have len : (ns.map V.int).length ≤ sizeLine := by rw [List.length_map]; exact few
  cases look : K.lookup a with
  | some o =>
    have e := inK a o look
    rw [obj] at e
    cases e
    have nothing : Only fun _ => none := fun _ => .inl rfl
    have sq : SqL K (fun _ => none) a (ns.map V.int) := .inr ⟨_, vs.toArray, _, look, rfl, rfl, rfl, by rw [List.size_toArray, ← rel.length]; exact len, rel⟩
    exact quiet_from (fun _ => none) inK gl bn bb nl gens obj quiet F bind nothing (begin_ _ nothing sq) never (fun _ _ z => nomatch z) (fun _ z => (z rfl).elim) fun z => (z rfl).elim
  | none =>
    let ob : Obj := { cls := .type "list", data := .seq vs.toArray }
    let H : Hp := upd (fun _ => none) a (.frz ob (.lst (ns.map V.int)))
    have at_ : H a = some (.frz ob (.lst (ns.map V.int))) := upd_same
    have off : ∀ {b : Addr}, b ≠ a → H b = none := fun {b} n => upd_ne n
    have one : Only H := fun b => by
      by_cases z : b = a
      · rw [z]
        exact .inr ⟨_, _, at_⟩
      · exact .inl (off z)
    have hok : HOk P w H s1.heap := fun b u z => by
      by_cases y : b = a
      · subst y
        rw [at_] at z
        cases z
        exact ⟨obj, len, vs, 0, rel, obj⟩
      · rw [off y] at z
        cases z
    refine quiet_from H inK gl bn bb nl gens obj quiet F bind one (begin_ _ one (.inl (.inr ⟨_, at_⟩))) never hok (fun b z => ?_) fun _ => look
    by_cases y : b = a
    · exact y
    · exact (z (off y)).elim
end
/-- a law whose def is run where no repr is under way -/
theorem walk_quiet {l : PySem.W.OpenLaw} {n k : Nat} {q : Program} {loose : List Str} {XP : (Str → Option Value) → Heap → Prop} {YP : World → Heap → Prop} {d : DefRec} {K : Params → PySem.W.Frag} {C : World → CXT} {sp : World → Sp} {x : Str}
    (most : l.most = some n) (few : n ≤ sizeLine) (plain : d.params.defaults = []) (quiet : Quiet k callerA) (inK : ∀ (w : World) (h : Heap), YP w h → (K w.params).In h)
    (F : ∀ (w : World) (mg : Str → Option Value) (fa : Addr) (h : Heap), (K w.params).In h → h.Ns mainGlobals mg → mg d.name = some (.ref fa) →
      ∃ fd : FuncData, (∀ (s : Shared) (u : Value), BindsTo s fd ⟨[u], []⟩ [(x, u)]) ∧ ∀ base : Heap, (K w.params).In base → base.Ns mainGlobals mg → FnQ l.prog w (K w.params) mg base (C w) k fa fd [x] (sp w))
    (begin_ : ∀ (w : World) (H : Hp) (a : Addr) (ns : List Int), ns.length ≤ n → Only H → SqL (K w.params) H a (ns.map V.int) → sp w [.ref a] H (fun v _ => v = .bl true) fun _ _ _ => False)
    (never : ∀ (w : World) (H : Hp) (s : Shared) (e : Value) (s' : Shared), C w [] H s (fun _ _ _ => False) e s' → False) :
    PySem.W.WalkO q loose XP YP l.row.toRowW d [] (fun f vs => PySem.call f vs) := by
  refine Att.attach_call most plain ?_
  intro w s0 s1 mg mb fa o pm cd doc a vs ns G Y _ _ _ hmg obj whole len gens
  obtain ⟨fd, bind, fn⟩ := F w mg fa _ (inK w _ Y) G.T.g hmg
  exact law_quiet (inK w _ Y) G.T.g G.T.b G.T.builtins G.T.nolimit gens obj whole (Nat.le_trans len few) quiet fn bind (fun H one sq => begin_ w H a ns len one sq) fun H e s' => never w H s1 e s'
end Ver
/-! Nested data over the heap of a reading: ==, !=, <, in, sorted. -/
namespace Ver
open PySem PySem.Spec PyProof.Rows L2

mutual
/-- v is the datum d: numbers, truths, None, texts, tuples and lists of these, the dict without entries -/
inductive Dt (H : Hp) : V → PyData → Prop
  | non : Dt H .non .none
  | bl (b : Bool) : Dt H (.bl b) (.bool b)
  | int (i : Int) : Dt H (.int i) (.int i)
  | str (z : Str) : Dt H (.str z) (.str z)
  | tup {a xs ds} : H a = some (.tup xs) → DtA H xs ds → Dt H (.ref a) (.tuple ds)
  | lst {a xs ds} : H a = some (.lst xs) → DtA H xs ds → Dt H (.ref a) (.list ds)
  | dct {a} : H a = some (.dK []) → Dt H (.ref a) (.dict [])
inductive DtA (H : Hp) : List V → List PyData → Prop
  | nil : DtA H [] []
  | cons {x d xs ds} : Dt H x d → DtA H xs ds → DtA H (x :: xs) (d :: ds)
end
mutual
theorem Dt.ex {H G : Hp} (e : Ex H G) : ∀ {v : V} {d : PyData}, Dt H v d → Dt G v d
  | _, _, .non => .non
  | _, _, .bl b => .bl b
  | _, _, .int i => .int i
  | _, _, .str z => .str z
  | _, _, .tup h q => .tup (e _ _ h) (DtA.ex e q)
  | _, _, .lst h q => .lst (e _ _ h) (DtA.ex e q)
  | _, _, .dct h => .dct (e _ _ h)
theorem DtA.ex {H G : Hp} (e : Ex H G) : ∀ {xs : List V} {ds : List PyData}, DtA H xs ds → DtA G xs ds
  | _, _, .nil => .nil
  | _, _, .cons q t => .cons (Dt.ex e q) (DtA.ex e t)
end
section
variable {P : Program} {w : World} {H : Hp} {h : Heap}
mutual
theorem Dt.reads (ok : HOk P w H h) : ∀ {v : V} {d : PyData} {u : Value}, Dt H v d → RelV v u → ∃ as, Reads h u d as
  | _, _, u, .non, r => by
    cases (show u = Value.none from r)
    exact ⟨_, .none⟩
  | _, _, u, .bl b, r => by
    cases (show u = Value.bool b from r)
    exact ⟨_, .bool b⟩
  | _, _, u, .int i, r => by
    obtain ⟨t, rfl⟩ := (show ∃ t, u = Value.int i t from r)
    exact ⟨_, .int i t⟩
  | _, _, u, .str z, r => by
    obtain ⟨t, rfl⟩ := (show ∃ t, u = Value.str z t from r)
    exact ⟨_, .str z t⟩
  | _, _, u, .tup (a := a) e q, r => by
    cases (show u = Value.ref a from r)
    obtain ⟨_, its, rv, o, h1, h2, m, h3⟩ := (show ObjOk P w H h a (.tup _) from ok a _ e)
    obtain ⟨as, q1⟩ := DtA.reads ok q rv
    exact ⟨as, .tuple h1 h2 h3 (by simpa using q1)⟩
  | _, _, u, .lst (a := a) e q, r => by
    cases (show u = Value.ref a from r)
    obtain ⟨_, its, m, rv, h1⟩ := (show ObjOk P w H h a (.lst _) from ok a _ e)
    obtain ⟨as, q1⟩ := DtA.reads ok q rv
    exact ⟨_, .list h1 rfl rfl (by simpa using q1)⟩
  | _, _, u, .dct (a := a) e, r => by
    cases (show u = Value.ref a from r)
    obtain ⟨_, _, vs, kv, o, es, ep, h1, h2, h3, _, h5, _⟩ := (show ObjOk P w H h a (.dK _) from ok a _ e)
    cases kv
    have e0 : es.toList = [] := by
      generalize es.toList = l at h5
      cases h5
      rfl
    exact ⟨_, .dict h1 h2.1 h3 (by rw [e0]; exact .nil) (by rw [e0]; exact .nil)⟩
theorem DtA.reads (ok : HOk P w H h) : ∀ {xs : List V} {ds : List PyData} {us : List Value}, DtA H xs ds → Vals xs us → ∃ as, ReadsAll h us ds as
  | _, _, _, .nil, r => by
    cases r
    exact ⟨_, .nil⟩
  | _, _, _, .cons q t, r => by
    cases r with
    | cons r1 r2 =>
      obtain ⟨as, q1⟩ := Dt.reads ok q r1
      obtain ⟨bs, t1⟩ := DtA.reads ok t r2
      exact ⟨_, .cons q1 t1⟩
end
end
theorem DtA.length {H : Hp} : ∀ {xs : List V} {ds : List PyData}, DtA H xs ds → xs.length = ds.length
  | _, _, .nil => rfl
  | _, _, .cons _ t => congrArg Nat.succ t.length
theorem DtA.at_ {H : Hp} : ∀ {xs : List V} {ds : List PyData} {i : Nat} {x : V}, DtA H xs ds → xs[i]? = some x → ∃ d, ds[i]? = some d ∧ Dt H x d
  | _, _, 0, _, .cons q _, e => by cases e; exact ⟨_, rfl, q⟩
  | _, _, i + 1, _, .cons _ t, e => DtA.at_ (i := i) t e
theorem DtA.get {H : Hp} : ∀ {xs : List V} {ds : List PyData} {i : Nat} {d : PyData}, DtA H xs ds → ds[i]? = some d → ∃ x, xs[i]? = some x ∧ Dt H x d
  | _, _, 0, _, .cons q _, e => by cases e; exact ⟨_, rfl, q⟩
  | _, _, i + 1, _, .cons _ t, e => DtA.get (i := i) t e
theorem DtA.append {H : Hp} : ∀ {xs ys : List V} {ds es : List PyData}, DtA H xs ds → DtA H ys es → DtA H (xs ++ ys) (ds ++ es)
  | _, _, _, _, .nil, s => s
  | _, _, _, _, .cons q t, s => .cons q (t.append s)
theorem DtA.take {H : Hp} : ∀ {xs : List V} {ds : List PyData} (n : Nat), DtA H xs ds → DtA H (xs.take n) (ds.take n)
  | _, _, 0, _ => .nil
  | _, _, _ + 1, .nil => .nil
  | _, _, n + 1, .cons q t => .cons q (t.take n)
theorem DtA.drop {H : Hp} : ∀ {xs : List V} {ds : List PyData} (n : Nat), DtA H xs ds → DtA H (xs.drop n) (ds.drop n)
  | _, _, 0, h => h
  | _, _, _ + 1, .nil => .nil
  | _, _, n + 1, .cons _ t => t.drop n
theorem DtA.reverse {H : Hp} : ∀ {xs : List V} {ds : List PyData}, DtA H xs ds → DtA H xs.reverse ds.reverse
  | _, _, .nil => .nil
  | _, _, .cons q t => by
    rw [List.reverse_cons, List.reverse_cons]
    exact t.reverse.append (.cons q .nil)
theorem DtA.mem {H : Hp} : ∀ {xs : List V} {ds : List PyData} {x : V}, DtA H xs ds → x ∈ xs → ∃ d ∈ ds, Dt H x d
  | _, _, x, .cons (x := y) q t, h => by
    rcases List.mem_cons.mp h with rfl | h
    · exact ⟨_, List.mem_cons_self, q⟩
    · obtain ⟨d, hd, k⟩ := t.mem h
      exact ⟨d, List.mem_cons_of_mem _ hd, k⟩

/-- what a comparison of data may be made of -/
structure Cmp (H : Hp) (x : V) (d : PyData) : Prop where
  at_ : Dt H x d
  plain : d.plain = true
  deep : d.depth ≤ 40
def rEqD (f : Bool → Bool) : R2 := fun x y H Q => ∃ a b, Cmp H x a ∧ Cmp H y b ∧ Q (.bl (f (PyData.eqv a b))) H
theorem op_eqD {X : Cx} (room : X.A.units + 64 < cLine) : OpR X (compareOp .Eq) (rEqD id) := by
  intro pins s σ H x y v u Q I rx ry want
  obtain ⟨a, b, ha, hb, q⟩ := want
  obtain ⟨as, ra⟩ := ha.at_.reads I.hok rx
  obtain ⟨bs, rb⟩ := hb.at_.reads I.hok ry
  exact PySem.SeqAt.eq_plain ra rb ha.plain hb.plain (by have := ha.deep; omega) ⟨.bl _, H, I, rfl, q⟩
theorem op_neD {X : Cx} (room : X.A.units + 64 < cLine) : OpR X (compareOp .NotEq) (rEqD not) := by
  intro pins s σ H x y v u Q I rx ry want
  obtain ⟨a, b, ha, hb, q⟩ := want
  obtain ⟨as, ra⟩ := ha.at_.reads I.hok rx
  obtain ⟨bs, rb⟩ := hb.at_.reads I.hok ry
  exact PySem.SeqAt.ne_plain ra rb ha.plain hb.plain (by have := ha.deep; omega) ⟨.bl _, H, I, rfl, q⟩
/-- x < y, data of one kind place by place -/
def rLtD : R2 := fun x y H Q => ∃ a b, Dt H x a ∧ Dt H y b ∧ PySem.W.alike a b = true ∧ a ≠ .none ∧ a.depth ≤ 40 ∧ Q (.bl (PySem.W.dataLt a b)) H
theorem op_ltD {X : Cx} (room : X.A.units + 64 < cLine) : OpR X (compareOp .Lt) rLtD := by
  intro pins s σ H x y v u Q I rx ry want
  obtain ⟨a, b, ha, hb, al, nn, dp, q⟩ := want
  obtain ⟨as, ra⟩ := ha.reads I.hok rx
  obtain ⟨bs, rb⟩ := hb.reads I.hok ry
  exact PySem.W.rcLt_alike a b _ _ _ _ _ _ ra rb al nn (by omega) X.prog X.w X.xe _ ⟨.bl _, H, I, rfl, q⟩
/-- x in c, c a tuple or a list -/
def rInD (f : Bool → Bool) : R2 := fun x y H Q => ∃ d ds, Cmp H x d ∧ (Dt H y (.tuple ds) ∨ Dt H y (.list ds)) ∧ PyData.plainAll ds = true ∧ Q (.bl (f (ds.any fun e => PyData.eqv e d))) H
theorem op_inD {X : Cx} (room : X.A.units + 64 < cLine) : OpR X (compareOp .In) (rInD id) := by
  intro pins s σ H x y v u Q I rx ry want
  obtain ⟨d, ds, hd, hc, pl, q⟩ := want
  obtain ⟨as, ra⟩ := hd.at_.reads I.hok rx
  have dp := hd.deep
  rcases hc with hc | hc
  · obtain ⟨bs, rb⟩ := hc.reads I.hok ry
    exact PySem.SeqAt.in_tuple_data rb ra pl hd.plain (by omega) ⟨.bl _, H, I, rfl, q⟩
  · obtain ⟨bs, rb⟩ := hc.reads I.hok ry
    exact PySem.SeqAt.in_list_data rb ra pl hd.plain (by omega) ⟨.bl _, H, I, rfl, q⟩
theorem op_notInD {X : Cx} (room : X.A.units + 64 < cLine) : OpR X (compareOp .NotIn) (rInD not) := by
  intro pins s σ H x y v u Q I rx ry want
  obtain ⟨d, ds, hd, hc, pl, q⟩ := want
  obtain ⟨as, ra⟩ := hd.at_.reads I.hok rx
  have dp := hd.deep
  rcases hc with hc | hc
  · obtain ⟨bs, rb⟩ := hc.reads I.hok ry
    exact PySem.SeqAt.notIn_tuple_data rb ra pl hd.plain (by omega) ⟨.bl _, H, I, rfl, q⟩
  · obtain ⟨bs, rb⟩ := hc.reads I.hok ry
    exact PySem.SeqAt.notIn_list_data rb ra pl hd.plain (by omega) ⟨.bl _, H, I, rfl, q⟩

/-! ### sorted -/
theorem each_of {R : Value → V × PyData → Prop} : ∀ {bs : List (V × PyData)} {us : List Value}, Vals (bs.map (·.1)) us → (∀ b ∈ bs, ∀ u, RelV b.1 u → R u b) → PySem.W.EachIs R us bs
  | [], _, .nil, _ => .nil
  | b :: bs, _, .cons r t, k => .cons (k b List.mem_cons_self _ r) (each_of t fun c hc => k c (List.mem_cons_of_mem _ hc))
theorem vals_each : ∀ {bs : List (V × PyData)} {us : List Value}, PySem.W.EachIs (fun u b => RelV b.1 u) us bs → Vals (bs.map (·.1)) us
  | [], _, .nil => .nil
  | b :: bs, _, .cons r t => .cons r (vals_each t)
/-- sorted(xs): bs are the list's items with what they are; the new list has them in their order -/
def rSortedD (K : PySem.W.Frag) : List V → Hp → VK → Prop := fun vs H Q => ∃ (a : Addr) (bs : List (V × PyData)), vs = [.ref a] ∧ SqL K H a (bs.map (·.1)) ∧ (∀ b ∈ bs, Dt H b.1 b.2 ∧ b.2.depth ≤ 40) ∧
  PySem.W.AllAlike (bs.map (·.2)) ∧ PySem.W.Sortable (bs.map (·.2)) ∧ Al Q (.lst ((bs.mergeSort (PySem.W.dataLe false (·.2))).map (·.1))) H
theorem cr_sortedD {X : Cx} {K : PySem.W.Frag} (hK : X.K = K) (room : X.A.units + 64 < cLine) : CallR X (.builtin "sorted") (rSortedD K) := by
  subst hK
  intro pins s σ H vs us Q I r want
  obtain ⟨a, bs, rfl, sq, each, al, so, q⟩ := want
  obtain ⟨its, rv, hl, hz⟩ := I.list sq
  rw [Vals.ref1 r]
  have e1 : PySem.W.EachIs (fun u b => RelV b.1 u) its bs := each_of rv fun _ _ _ h => h
  have e2 : PySem.W.EachIs (fun u b => ∃ as, Reads s.heap u b.2 as) its bs := each_of rv fun b hb u h => (each b hb).1.reads I.hok h
  have len : bs.length ≤ sizeLine := by simpa using hz
  refine PySem.W.sorted_data (enc := (·.2)) hl.isList e1 e2 al so len (fun b hb => by have := (each b hb).2; omega) fun out h1 h2 => ?_
  obtain ⟨ep, he⟩ := PyProof.Rows.sortedAll_at s.heap its out.toArray
  have size : ((bs.mergeSort (PySem.W.dataLe false (·.2))).map (·.1)).length ≤ sizeLine := by
    rw [List.length_map, List.length_mergeSort]
    exact len
  refine ⟨.ref _, upd H (s.heap.objs.size + 1) (.lst ((bs.mergeSort (PySem.W.dataLe false (·.2))).map (·.1))), I.laid (t' := s.toks) (fun _ _ => PyProof.Rows.sortedAll_old) (Nat.le_succ _) ⟨size, out, ep, vals_each h2, by simpa using he⟩, rfl, q _ (I.hok.fresh (Nat.le_succ _))⟩
end Ver
/-! An own error over ValueError whose __init__ says super().__init__(text) and keeps its one argument in a field. -/
namespace PySem
namespace SupX
open PySem.W PySem.Calls PyProof.Rows PySem.HandSPX L2
/-- what the text of such an __init__ is -/
structure Ini (st : Stmt) (fld par : Str) : Prop where
  body : ∃ (txt : Str) (kk : Nat) (p0 p1 p2 p3 p4 p5 p6 p7 p8 p9 : Pos), (p2.endLine == p4.line) = true ∧ defBody st = [.Expr (.Call (.Attribute (.Call (.Name "super" p0) [] [] p1) "__init__" p2) [.Constant (.str txt) kk p3] [] p4) p5, .Assign [.Attribute (.Name "self" p6) fld p7] (.Name par p8) p9]
  par0 : ∃ (an : Option Expr) (q : Pos), ((defArgs st).posonlyargs ++ (defArgs st).args).head? = some { arg := "self", annotation := an, pos := q }
  kd : (defScope st).kind = .function
  co : (defScope st).isCoroutine = false
  ge : (defScope st).isGenerator = false
  cel : ∀ x ∈ (defScope st).names, x.2 ≠ .cell
  sS : (defScope st).names.lookup ("super" : Str) = some .globalImplicit
  sC : (defScope st).names.lookup ("__class__" : Str) = some .free
  sI : (defScope st).names.lookup ("self" : Str) = some .local
  sP : (defScope st).names.lookup par = some .local
  ne : par ≠ "self"
  db : (par == ("__debug__" : Str)) = false
  bnd : ∀ (qual : Str) (cc : Addr) (kV doc pm cdv ct : Value) (an : Option Addr) (s : Shared) (a b : Value), BindsTo s (fnX "__init__" qual (defArgs st) (defBody st) (defScope st) [("__class__", cc)] .none kV doc pm an cdv ct) ⟨[a, b], []⟩ [("self", a), (par, b)]
/-- what the written part says of the class called cn, at C, and of its __init__, at fI -/
structure Txt (P : Program) (K : Frag) (mg : Str → Option Value) (cn : Str) (st : Stmt) (fld par : Str) (C fI : Addr) : Prop where
  ini : Ini st fld par
  gC : mg cn = some (.ref C)
  noS : mg "super" = none
  cls : ∃ (nm q : Str) (N : Addr) (bs bm : List Value) (sn : List Str) (sub : List Value) (ab : Bool) (col : Option Bool) (dd : Option Addr) (k0 k1 k2 k3 k5 : Option Value), K.lookup C = some (excClassObj nm q C N bs bm true sn sub ab col dd k0 k1 k2 k3 k5 "ValueError.__new__") ∧ refsVE bm = true
  sa : findIn K (.ref C) "__setattr__" = some (some (.builtin "object.__setattr__"))
  ga : findIn K (.ref C) "__getattribute__" = some (some (.builtin "BaseException.__getattribute__"))
  gg : findIn K (.ref C) "__getattr__" = some none
  noN : findIn K (.ref C) fld = some none
  iC : findIn K (.ref C) "__init__" = some (some (.ref fI))
  tC : typeIn K (.ref fI) = some (.type "function")
  kC : keepIn K (.ref C) = true
  exC : subIn K (.ref C) (.type "BaseException") = some true
  tyC : typeIn K (.ref C) = some (.type "type")
  hdC : hasDictIn K C = true
  vE : subIn K (.ref C) (.type "ValueError") = some true
  slf : mroIn K C (.ref C) = some true
  sup : ks_superIn K C C "__init__" = some (some (.builtin "ValueError.__init__"))
  opq : nsIn K cStatics "thirdparty.any" = some none
  top : (P.main.scope.names.lookup ("super" : Str)).isSome = false
  fn : ∃ (oc : Value) (od : Option Addr) (qual : Str) (cc : Addr) (kV doc pm ct : Value) (an : Option Addr) (cda : Addr) (osl : Array (Option Value)), K.lookup fI = some ⟨oc, od, .func (fnX "__init__" qual (defArgs st) (defBody st) (defScope st) [("__class__", cc)] .none kV doc pm an (.ref cda) ct), osl⟩ ∧ codeIn K (.ref cda) qual = true ∧
    (∃ (cl : Value) (cld : Option Addr) (csl : Array (Option Value)), K.lookup cc = some ⟨cl, cld, .cell (some (.ref C)), csl⟩) ∧
    ∃ (ccl : Value) (cdd : Option Addr) (vs : Array Value) (ccs : Array (Option Value)) (file : Str) (tf : Tok), K.lookup cda = some ⟨ccl, cdd, .fields vs, ccs⟩ ∧ vs[2]? = some (.str file tf) ∧ ((P.main.file : Str) == file) = true

/-- what __init__ leaves of a new error at x: its dict at dx -/
structure Left (fld : Str) (h h' : Heap) (x C dx t1 : Addr) (v : Value) : Prop where
  keep : ∀ b o, b ≠ x → h.get? b = some o → h'.get? b = some o
  obj : h'.get? x = some { cls := .ref C, dict := some dx, data := .fields #[.ref t1, .none, .none, .none, .bool false, .none] }
  dbig : h.objs.size ≤ dx
  dne : dx ≠ x
  ns : h'.Ns1 dx (fun y => if y = fld then some v else none)
/-- an error that was made -/
structure Made (fld : Str) (h h' : Heap) (e C d : Addr) (v : Value) : Prop where
  keep : ∀ b o, h.get? b = some o → h'.get? b = some o
  new : h.objs.size ≤ e
  obj : ∃ oe vs, h'.get? e = some oe ∧ oe.cls = .ref C ∧ oe.dict = some d ∧ oe.data = .fields vs ∧ vs[1]? = some .none
  dbig : h.objs.size ≤ d
  dne : d ≠ e
  ns : h'.Ns1 d (fun y => if y = fld then some v else none)
section
variable {prog : Program} {w : World} {A : Around} {E : Value → Shared → Prop} {R : Result → Shared → Prop} {s : Shared} {K : Frag} {mg mb : Str → Option Value} {C fI : Addr} {cn fld par : Str} {st : Stmt}
/-- o.m(e), on one line -/
theorem meth_eq {o : Expr} {name : Str} {apos pos p3 : Pos} {env : Env} {txt : Str} {kk : Nat} (hl : (apos.endLine == pos.line) = true) :
    eval (.Call (.Attribute o name apos) [.Constant (.str txt) kk p3] [] pos) env = (do
      let ov ← attributeBase o name env (eval o env)
      standAt apos.atName
      let (f, first) ← holding [ov] (getMethod ov name (do return (← importBound o env).getD true))
      callWith pos f first (backTo pos (starEach [.Constant (.str txt) kk p3] env)) []) := by
  rw [arm_eval_Call]
  have form : methodCallForm (List.length [Expr.Constant (.str txt) kk p3] + List.length ([] : List Keyword)) (backTo pos (starEach [.Constant (.str txt) kk p3] env)) (backToKw pos (keywordEach [] env)) = true := rfl
  have at_ : methodCallPos true o env apos pos = pure pos := by unfold methodCallPos; simp [hl]
  unfold methodCall
  rw [form, at_]
  unfold calleeOf
  simp only [if_true, pure_bind]
  rfl
/-- the bound ValueError.__init__ is called -/
theorem wrapped {h : Heap} {g : Array GenState} {dr : Drawn} {tk : Nat} {os : OsState} {u x t0 : Addr} {us : List Value} {Q : Value → Shared → Prop} (T : Txt prog K mg cn st fld par C fI) (X : K.In h)
    (hx : h.get? x = some (excO C t0)) (hu : h.get? u = some (kxs_mw "ValueError.__init__" x)) (hl : us.length ≤ sizeLine)
    (k : ∀ h' t1, (∀ b o, b ≠ x → h.get? b = some o → h'.get? b = some o) → h'.get? x = some (excO C t1) → Q .none ⟨h', g, dr, tk, os⟩) :
    wpAny (model prog w) A (call (.ref u) us) Q E ⟨h, g, dr, tk, os⟩ := by
  obtain ⟨nm, q, N, bs, bm, sn, sub, ab, col, dd, k0, k1, k2, k3, k5, hC, hbm⟩ := T.cls
  have FB := F.excBase_ValueError
  refine wpAny_call (codeAny_of_tree ?_)
  show wpAny _ A.in1 (callAny (.ref u) ⟨us, []⟩) _ _ _
  unfold callAny
  refine wpAny_bind (wpAny_load hu ?_)
  have t1 : (Value.type "method-wrapper" == Value.type "method") = false := by decide
  have t2 : (Value.type "method-wrapper" == Value.type "builtin_function_or_method") = false := by decide
  have t3 : (Value.type "method-wrapper" == Value.type "method-wrapper") = true := by decide
  simp only [kxs_mw, t1, t2, t3, Bool.false_or, if_true]
  refine KFB.if_so (by decide) ?_
  refine wpAny_bind (check_bound_init FB.toExcCallFacts (X _ _ hC) hx rfl ?_)
  refine wpAny_bind (wpAny_pure (wpAny_pure ?_))
  refine And.intro (plainId_quiet FB.init.plain _) (codeAny_builtin FB.initEntry ?_)
  exact exc_init_tree (cls := .ref C) (t0 := t0) (dv := none) (c2 := .none) (c3 := .none) (b4 := .bool false) hx hl fun h' b1 b2 _ => k h' _ b1 b2
/-- __init__(x, v) on a new error at x -/
theorem init_ {x t0 : Addr} {v : Value} (T : Txt prog K mg cn st fld par C fI) (X : K.In s.heap) (G : s.heap.Ns mainGlobals mg) (B : s.heap.Ns builtinsNs mb) (hb : mb "super" = some (.type "super")) (hlim : s.heap.NoLimit)
    (hx : s.heap.get? x = some (excO C t0)) (hnx : K.lookup x = none) (hroom : A.depth < recursionLimit)
    (hq : ∀ h' tk dx t1, Left fld s.heap h' x C dx t1 v → R (.ok (.ret .none)) { s with heap := h', toks := tk }) :
    codeAny (model prog w) A (.call (.ref fI) ⟨[.ref x, v], []⟩) R s := by
  obtain ⟨oc, od, qual, cc, kV, doc, pm, ct, an, cda, osl, lk, hcd, ⟨cl, cld, csl, hcell⟩, ccl, cdd, vs, ccs, file, tf, hcode, hvs, hfile⟩ := T.fn
  obtain ⟨txt, kk, p0, p1, p2, p3, p4, p5, p6, p7, p8, p9, hline, hbody⟩ := T.ini.body
  obtain ⟨an0, q0, hp⟩ := T.ini.par0
  obtain ⟨nm, q, N, bs, bm, sn, sub, ab, col, dd, k0, k1, k2, k3, k5, hC, hbm⟩ := T.cls
  have hcl : clsIn K C = some { name := nm, bases := bs, mro := .ref C :: bm, ns := N, qualname := q, hasDict := true, slotNames := sn, subclasses := sub, abstract := ab, collection := col, hasDel := false } := by unfold clsIn; rw [hC] <;> rfl
  have hsup := T.sup
  unfold ks_superIn at hsup
  rw [hcl] at hsup
  obtain ⟨hp0, g, dr, tk, os⟩ := s
  refine ks_codeAny_call_defAt (binds := [("self", .ref x), (par, v)]) hroom (X _ _ lk) rfl hlim (codeRec_of X hcd) rfl (T.ini.bnd qual cc kV doc pm (.ref cda) ct an _ _ _) T.ini.cel (fun y hy => ?_) (fun h₁ hns k => ?_) T.ini.co T.ini.ge T.ini.kd
  · rcases List.mem_cons.mp hy with rfl | hy
    · exact T.ini.sI
    · rcases List.mem_cons.mp hy with rfl | hy
      · exact T.ini.sP
      · cases hy
  have X1 : K.In h₁ := X.keeps k
  have hx1 := k _ _ hx
  have I1 : InstAt h₁ x (excO C t0) C none := ⟨hx1, rfl, rfl, trivial⟩
  have L1 : hp0.objs.size ≠ x := Nat.ne_of_gt (Heap.lt_size hx)
  have mS : (fun y => (List.reverse [(("self" : Str), Value.ref x), (par, v)]).lookup y) "self" = some (.ref x) := by
    show (List.lookup ("self" : Str) [(par, v), ("self", Value.ref x)]) = _
    have z : (("self" : Str) == par) = false := by simpa using Ne.symm T.ini.ne
    simp only [List.lookup, z, beq_self_eq_true]
  have mP : (fun y => (List.reverse [(("self" : Str), Value.ref x), (par, v)]).lookup y) par = some v := by
    show (List.lookup par [(par, v), ("self", Value.ref x)]) = _
    simp only [List.lookup, beq_self_eq_true]
  have env_in : interactive (callEnv (fnX "__init__" qual (defArgs st) (defBody st) (defScope st) [("__class__", cc)] .none kV doc pm an (.ref cda) ct) hp0.objs.size fI) = false := by
    show ((defScope st).kind == .module && _) = false
    rw [T.ini.kd]
    rfl
  generalize hE : callEnv (fnX "__init__" qual (defArgs st) (defBody st) (defScope st) [("__class__", cc)] .none kV doc pm an (.ref cda) ct) hp0.objs.size fI = env at env_in ⊢
  have eF : env.func = some fI := by rw [← hE]; rfl
  have eC : env.code = .ref cda := by rw [← hE]; rfl
  have eS : env.scope = defScope st := by rw [← hE]; rfl
  have eL : env.locals = hp0.objs.size := by rw [← hE]; rfl
  have eG : env.globals = mainGlobals := by rw [← hE]; rfl
  have eB : env.builtins = builtinsNs := by rw [← hE]; rfl
  have eX : env.cells.lookup ("__class__" : Str) = some cc := by rw [← hE]; rfl
  have kS : env.kindOf "super" = some .globalImplicit := by show env.scope.names.lookup _ = _; rw [eS]; exact T.ini.sS
  have kC : env.kindOf "__class__" = some .free := by show env.scope.names.lookup _ = _; rw [eS]; exact T.ini.sC
  have kI : env.kindOf "self" = some .local := by show env.scope.names.lookup _ = _; rw [eS]; exact T.ini.sI
  have kP : env.kindOf par = some .local := by show env.scope.names.lookup _ = _; rw [eS]; exact T.ini.sP
  have kK : env.scope.kind = .function := by rw [eS]; exact T.ini.kd
  have n1 : h₁.Ns env.locals (fun y => (List.reverse [(("self" : Str), Value.ref x), (par, v)]).lookup y) := by rw [eL]; exact hns
  rw [hbody]
  refine ks_wpAt_execs_cons (ks_wpAt_Expr_any (ks_wpAt_MethodCall (pl := (do return (← importBound (.Call (.Name "super" p0) [] [] p1) env).getD true)) ?_ (meth_eq hline)) env_in)
  refine ks_wpAt_super_base (file := file) (tf := tf) kS kC (by decide) eF (X1 _ _ lk) rfl hp eC (X1 _ _ hcode) rfl hvs hfile T.top ?_
  refine ks_loadName_global kK kS (loadGlobal_builtin (mg := mg) (mb := mb) (by rw [eG]; exact G.keeps k) T.noS (by rw [eB]; exact B.keeps k) hb (And.intro rfl ?_))
  refine wpAny_loadName_free kK kC eX ⟨_, X1 _ _ hcell, rfl⟩ ?_
  refine wpAny_loadName_local kK kI n1 mS ?_
  obtain ⟨oD, hD1, hD2⟩ : ∃ oD, h₁.get? C = some oD ∧ ∃ cd, oD.data = .cls cd := ⟨_, X1 _ _ hC, _, rfl⟩
  obtain ⟨cdD, hD2⟩ := hD2
  refine ks_wpAny_isType_cls hD1 hD2 (And.intro rfl ?_)
  refine ks_wpAny_call_super hD1 hD2 hx1 rfl (fun c e => by cases e) (looks_mroIn X1 T.slf) (fun h2 e2 k2 => ?_)
  have X2 : K.In h2 := X1.keeps k2
  have hx2 := k2 _ _ hx1
  have I2 : InstAt h2 x (excO C t0) C none := ⟨hx2, rfl, rfl, trivial⟩
  refine kxs_getMethod kxs_ValueError e2 (looks_opaque X2 T.opq) ((looks_clsIn X2 hcl).andThen .now) rfl X2 hsup (I2.type.andThen (looks_subIn X2 T.vE)) (ks_ne X2 I2 hcl) (by decide) ?_
  have k3 : ∀ b o, h2.get? b = some o → (h2.push (kxs_mw "ValueError.__init__" x)).get? b = some o := fun b o e => Heap.get?_push_of_some _ e
  have hu3 : (h2.push (kxs_mw "ValueError.__init__" x)).get? h2.objs.size = some (kxs_mw "ValueError.__init__" x) := Heap.get?_push_at rfl rfl
  refine kxs_callWith (i := "ValueError.__init__") (x := x) rfl (evalArgs_plain (Calls.spliced_cons (Calls.Constant_str (x := txt) (k := kk) (pos := p3) (Calls.spliced_nil (And.intro hu3 ?_)))))
  refine wrapped T (X2.keeps k3) (k3 _ _ hx2) hu3 (by show 1 ≤ sizeLine; decide) fun h4 t4 k4 hx4 => ?_
  have up : ∀ b o, b ≠ x → h₁.get? b = some o → h4.get? b = some o := fun b o n e => k4 b o n (k3 _ _ (k2 _ _ e))
  have n4 : h4.Ns env.locals (fun y => (List.reverse [(("self" : Str), Value.ref x), (par, v)]).lookup y) := by
    rw [eL]
    obtain ⟨o, es, ep, ho, hr⟩ := hns
    exact ⟨o, es, ep, up _ _ L1 ho, hr⟩
  have X4 : K.In h4 := fun a o e => up a o (fun z => by rw [z, hnx] at e; cases e) (X1 _ _ e)
  refine ks_wpAt_execs_cons (wpAt_of_wpAny (plainObj_wpAny_Assign_Attribute ?_))
  refine wpAny_Name (wpAny_loadName_local kK kP n4 mP ?_) T.ini.db
  refine wpAny_Name (wpAny_loadName_local kK kI n4 mS ?_) (by decide)
  refine set_plain X4 (ox := excO C t4) (od := none) ⟨hx4, rfl, rfl, trivial⟩ T.sa ?_
  refine exc_osa X4 hx4 hcl (show refsVE (.ref C :: bm) = true from hbm) rfl T.noN (fun h5 tk5 dx k5 dn dne hx5 hn5 => ?_)
  refine wpAt_of_wpAny (wpAny_execs_nil (hq h5 tk5 dx t4 ⟨fun b o n e => k5 b o n (up b o n (k b o e)), hx5, ?_, dne, hn5⟩))
  have z : hp0.objs.size < h4.objs.size := by
    have := n4.lt
    rwa [eL] at this
  exact Nat.le_of_lt (Nat.lt_of_lt_of_le z dn)
/-- C(v) -/
theorem made_ {v : Value} (T : Txt prog K mg cn st fld par C fI) (X : K.In s.heap) (G : s.heap.Ns mainGlobals mg) (B : s.heap.Ns builtinsNs mb) (hb : mb "super" = some (.type "super")) (hlim : s.heap.NoLimit) (hroom : A.depth + 1 < recursionLimit)
    (hq : ∀ h' tk e d, Made fld s.heap h' e C d v → R (.ok (.ret (.ref e))) { s with heap := h', toks := tk }) :
    codeAny (model prog w) A (.call (.ref C) ⟨[v], []⟩) R s := by
  obtain ⟨nm, q, N, bs, bm, sn, sub, ab, col, dd, k0, k1, k2, k3, k5, hC, hbm⟩ := T.cls
  obtain ⟨hp, g, dr, tk, os⟩ := s
  have k : ∀ b o, hp.get? b = some o → ((hp.push (kdv_tup [v])).push (excO C hp.objs.size)).get? b = some o := fun b o e => Heap.get?_push_of_some _ (Heap.get?_push_of_some _ e)
  have hget : ((hp.push (kdv_tup [v])).push (excO C hp.objs.size)).get? (hp.objs.size + 1) = some (excO C hp.objs.size) := by heap_get
  have hnx : K.lookup (hp.objs.size + 1) = none := by
    cases e : K.lookup (hp.objs.size + 1) with
    | none => rfl
    | some o =>
      have z : hp.get? (hp.objs.size + 1) = some o := X _ _ e
      exact absurd (Nat.lt_of_succ_lt (Heap.lt_size z)) (Nat.lt_irrefl _)
  refine call_own F.excBase_ValueError (fun Y => refsVE_contains Y bm hbm) (X _ _ hC) (looks_findIn X T.iC) (fun self => bind_fn X self T.tC) (by show 1 ≤ sizeLine; decide) ?_
  refine init_ (mg := mg) (mb := mb) (s := ⟨(hp.push (kdv_tup [v])).push (excO C hp.objs.size), g, dr, tk, os⟩) T (X.keeps k) (G.keeps k) (B.keeps k) hb (hlim.keeps k) hget hnx ?_ fun h' tk' dx t1 ⟨k', hx, dn, dne, hns⟩ => ?_
  · show A.depth + 1 < recursionLimit
    exact hroom
  · have old : ∀ b o, hp.get? b = some o → h'.get? b = some o := fun b o e => k' b o (Nat.ne_of_lt (Nat.lt_succ_of_lt (Heap.lt_size e))) (k b o e)
    have z : hp.objs.size + 1 + 1 ≤ dx := by
      first
        | (simpa only [Heap.size_push] using dn)
        | exact dn
        | (have q := dn; rw [Heap.size_push, Heap.size_push] at q; exact q)
    exact ⟨rfl, hq h' tk' (hp.objs.size + 1) dx ⟨old, Nat.le_succ _, ⟨_, _, hx, rfl, rfl, rfl, rfl⟩, Nat.le_trans (Nat.le_trans (Nat.le_succ _) (Nat.le_succ _)) z, dne, hns⟩⟩
end
end SupX
end PySem
namespace Ver
open PySem PySem.Spec PyProof.Rows L2
section
variable {X : Cx} {C fI : Addr} {cn fld par : Str} {st : Stmt}
theorem relO_fld {v : V} {v' : Value} (r : RelV v v') (fld f : Str) : RelO (List.lookup f [(fld, v)]) (if f = fld then some v' else none) := by
  by_cases hw : f = fld
  · subst hw
    rw [if_pos rfl]
    have q : List.lookup f [(f, v)] = some v := by simp [List.lookup]
    rw [q]
    exact r
  · rw [if_neg hw]
    have qw : (f == fld) = false := by simpa using hw
    have q2 : List.lookup f [(fld, v)] = none := by simp [List.lookup, qw]
    rw [q2]
    trivial
/-- C(e): the new error's own dict d holds its field -/
def tMkSup (fld : Str) (C : Addr) (ta : TA) : L2.St → Hp → XK → Prop := fun σ H Q => ta σ H fun vs H1 => ∃ v, vs = [v] ∧ ∀ d, H1 d = none → Q (.ref C) (some d) (upd H1 d (.xd [(fld, v)]))
theorem pmk_sup {a : Expr} {ta : TA} {p pos : Pos} {k : Nat} (T : PySem.SupX.Txt X.prog X.K X.mg cn st fld par C fI) (hr : Room k X.A) (ha : PA X [a] ta) (hg : Gl X cn) (hdb : (cn == ("__debug__" : Str)) = false := by decide)
    (he : starEach (a :: []) X.env = (false, eval a X.env) :: starEach [] X.env := by rfl) (hpl : (backTo pos (starEach [] X.env)).any (·.1) = false := by rfl) :
    PMk X (.Call (.Name cn p) [a] [] pos) (tMkSup fld C ta) := by
  intro pins s σ H Q I h
  refine wpAny_Call_Name_kw (ld_glob I hg T.gC ?_ hdb)
  refine PySem.W.callWith_K (h₀ := X.base) I.ok.mod.kin T.kC (thn (ha.run pos pins s σ H _ I h) fun us s1 hh => ?_) he hpl
  obtain ⟨vs, H1, I1, r1, v, ev, q1⟩ := hh
  subst ev
  refine ⟨I1.kIn, ?_⟩
  cases r1 with
  | cons rv rn =>
    rename_i v' us'
    cases rn
    show wpAny _ _ (call (.ref C) [v']) _ _ _
    have hlim := I1.nolimit
    obtain ⟨mb, hmb, hbt⟩ := I1.ok.mod.blt
    have bk := I1.bk
    have G := I1.ok.mod.glob.keeps bk
    have B := hmb.keeps bk
    have hb : mb "super" = some (.type "super") := (hbt "super" (by decide)).trans PyProof.Rows.Boot.«super»
    obtain ⟨hp, g, dr, tk, os⟩ := s1
    refine wpAny_call (PySem.SupX.made_ (mg := X.mg) (mb := mb) T I1.kIn G B hb hlim (by have := hr.dp; omega) fun h' tk' e d M => ?_)
    show MkP X pins σ Q (.ref e) ⟨h', g, dr, tk', os⟩
    obtain ⟨oe, fv, hoe, hc, hd, hdat, h1⟩ := M.obj
    have hns := M.ns
    obtain ⟨G', g1, g2⟩ := restrict h' fun b => decide (b ≠ e)
    have gk : ∀ b, b ≠ e → G'.get? b = h'.get? b := fun b hb => g1 b (decide_eq_true hb)
    have ge : G'.get? e = none := g2 e (by simp)
    have old : ∀ b o, hp.get? b = some o → G'.get? b = some o := fun b o q => (gk b (Nat.ne_of_lt (Nat.lt_of_lt_of_le (Heap.lt_size q) M.new))).trans (M.keep b o q)
    have ob : ObjOk X.prog X.w (upd H1 d (.xd [(fld, v)])) G' d (.xd [(fld, v)]) :=
      ⟨_, hns.at (fun o q => (gk d M.dne).trans q), fun f => relO_fld rv fld f⟩
    have J : Inv X pins σ (upd H1 d (.xd [(fld, v)])) ⟨G', g, dr, tk', os⟩ := I1.laid (t' := tk') old M.dbig ob
    refine ⟨e, oe, fv, ⟨G', g, dr, tk', os⟩, _, .ref C, some d, rfl, J, fun b o q => ?_, ge, hoe, ⟨hc, hd⟩, hdat, h1, ?_, rfl, I1.bare, raises_own T.exC T.tyC, q1 d (I1.hok.fresh M.dbig)⟩
    · by_cases hb : b = e
      · have q' : G'.get? b = some o := q
        rw [hb, ge] at q'; cases q'
      · exact (gk b hb).symm.trans q
    · rw [upd_ne (Ne.symm M.dne)]
      exact I1.hok.fresh M.new
/-- raise C(e) -/
def tRaiseSup (fld : Str) (C : Addr) (W : WX) (ta : TA) : TS := fun _ σ H => tMkSup fld C ta σ H fun cls d H' => W cls d σ H'
theorem ps_raiseSup {a : Expr} {ta : TA} {W : WX} {p pos pos2 : Pos} {k : Nat} (hc : X.calm = true) (T : PySem.SupX.Txt X.prog X.K X.mg cn st fld par C fI) (hr : Room k X.A) (tk : Takes X W) (ha : PA X [a] ta) (hg : Gl X cn) (hdb : (cn == ("__debug__" : Str)) = false := by decide)
    (he : starEach (a :: []) X.env = (false, eval a X.env) :: starEach [] X.env := by rfl) (hpl : (backTo pos (starEach [] X.env)).any (·.1) = false := by rfl) :
    PS X (.Raise (some (.Call (.Name cn p) [a] [] pos)) none pos2) (tRaiseSup fld C W ta) := ps_raise hc tk (pmk_sup T hr ha hg hdb he hpl)
theorem sup_xf {P : Program} {K : PySem.W.Frag} {mg : Str → Option Value} (T : PySem.SupX.Txt P K mg cn st fld par C fI) : XfC K C := ⟨T.ga, T.gg, T.exC, T.hdC⟩
end
end Ver
/-! Defs that are handed the error that a suite holds; calls by names that may raise; isinstance of such an error. -/
namespace Ver
open PySem PySem.Spec PyProof.Rows L2

/-! ### f(k = v, ..), where f may raise -/
section
variable {X : Cx} {C : CXT} {k n : Nat} {f : Addr} {fd : FuncData} {ps ks : List Str} {sp : Sp} {E : L2.St → XK} {x : Str} {p pos : Pos} {kws : List Keyword} {tk : TA} {g : List Value → List Value → List Value} {gV : List V → List V → List V}
def tCallSN (n m : Nat) (sp : Sp) (gV : List V → List V → List V) (E : L2.St → XK) (t tk : TA) : TE := fun σ H Q => t σ H fun vs H1 => tk σ H1 fun zs H2 => vs.length = n ∧ zs.length = m ∧ sp (gV vs zs) H2 Q (E σ)
theorem pe_callSN0 (F : FnOk X.prog X.w X.K X.mg X.base C k f fd ps sp) (room : Room k X.A) (hg : Gl X x) (hm : X.mg x = some (.ref f)) (kp : PySem.W.keepIn X.K (.ref f) = true) (hb : KBn X.K fd ps 0 ks g gV) (hx : ∀ σ, PassesAt C X σ (E σ))
    (hkw : PK X kws tk) (hall : (backToKw pos (keywordEach kws X.env)).all (·.1.isSome) = true := by rfl) (hks : (backToKw pos (keywordEach kws X.env)).filterMap (·.1) = ks := by rfl) (hd : (x == ("__debug__" : Str)) = false := by decide)
    (hp : ((backTo pos (starEach [] X.env)).any (·.1) || (backToKw pos (keywordEach kws X.env)).any (·.1.isNone)) = false := by rfl) : PE X (.Call (.Name x p) [] kws pos) (tCallSN 0 ks.length sp gV E tNil tk) := by
  constructor
  intro pins s σ H Q I want
  refine wpAny_Call_Name_kw (ld_glob I hg hm ?_ hd)
  refine PySem.W.callWith_KW0 (h₀ := X.base) I.ok.mod.kin kp hall ?_ hp
  have want' : tk σ H fun zs H2 => ([] : List V).length = 0 ∧ zs.length = ks.length ∧ sp (gV [] zs) H2 Q (E σ) := want
  refine thn (hkw.run pos pins s σ H _ I want') ?_
  rintro ws s2 ⟨zs, H2, I2, rz, l1, l2, q⟩
  refine ⟨I2.kIn, ?_⟩
  rw [hks]
  have rel := hb.rel (vs := []) (us := []) .nil rz
  refine wpAny_call (codeAny_mono (F.run X.A X.stack s2 H2 ⟨[], ks.zip ws⟩ (g [] ws) (gV [] zs) Q (E σ) room I2.env0 (hb.to s2 [] ws I2.kIn rfl (rz.length.symm.trans l2)) rel q) ?_)
  intro r s3 h
  match r, h with
  | .error z, h => exact hx σ pins H2 s2 z s3 I2 h
  | .ok (.ret u), h => exact I2.after h
  | .ok .next, h => exact h.elim
  | .ok .brk, h => exact h.elim
  | .ok .cont, h => exact h.elim
theorem wCallSN {m : Nat} {σ : L2.St} {H : Hp} {Q : VK} {t : TA} (h : t σ H fun vs H1 => tk σ H1 fun zs H2 => vs.length = n ∧ zs.length = m ∧ sp (gV vs zs) H2 Q (E σ)) : tCallSN n m sp gV E t tk σ H Q := h
theorem wCallS {σ : L2.St} {H : Hp} {Q : VK} {t : TA} (h : t σ H fun vs H1 => sp vs H1 Q (E σ)) : tCallS sp E t σ H Q := h
end

/-! ### a def that is handed the error at p -/
/-- the context of such a def's body: an error is handled, p's object stands, nothing is raised -/
abbrev cxP (P : Program) (w : World) (K : PySem.W.Frag) (mg : Str → Option Value) (base : Heap) (N : List Str) (qual : Str) (sc : Scope) (f : Addr) (cdv : Value) (A : Around) (outer : List Env) (s : Shared) (H : Hp) (E : XK) (p : Addr × Obj) : Cx :=
  { cxOf CX0 P w K mg base N qual sc f cdv A outer s H E with calm := false, pn := [p], xe := fun _ _ => False }
structure FnP (P : Program) (w : World) (K : PySem.W.Frag) (mg : Str → Option Value) (base : Heap) (k : Nat) (f : Addr) (fd : FuncData) (ps : List Str) (sp : Addr × Obj → Sp) : Prop where
  arity : ∀ p vs H Q E, sp p vs H Q E → vs.length = ps.length
  goes : ∀ {A : Around} {outer : List Env} {s : Shared} {H : Hp} {args : Args} {us : List Value} {vs : List V} {Q : VK} {E : XK} {p : Addr × Obj},
    L2H.RoomH k A → L2H.PinOk outer H s p → Env0 P w K mg base A outer s H → BindsTo s fd args (ps.zip us) → Vals vs us → sp p vs H Q E →
      codeAny (model P w) A (.call (.ref f) args) (CR CX0 outer P w H s Q E) s
section
variable {P : Program} {w : World} {K : PySem.W.Frag} {mg : Str → Option Value} {base : Heap} {k : Nat} {f : Addr} {ps N : List Str} {sp : Addr × Obj → Sp}
theorem start_P {qual : Str} {sc : Scope} {cdv : Value} {A : Around} {outer : List Env} {s s1 : Shared} {H : Hp} {E : XK} {us : List Value} {vs : List V} {p : Addr × Obj} (S : FnScope N ps sc) (pin : L2H.PinOk outer H s p) (e0 : Env0 P w K mg base A outer s H) (count : vs.length = ps.length) (rel : Vals vs us)
    (x : InCallC s s.heap.objs.size (bindL (envOfC qual sc s.heap.objs.size f cdv).kindOf (ps.zip us) fun _ => none) (cellsFrom (s.heap.objs.size + 1) sc.names []) (bindC (envOfC qual sc s.heap.objs.size f cdv).kindOf (ps.zip us) fun _ => none) s1) :
    Inv (cxP P w K mg base N qual sc f cdv A outer s H E p) [] (L2.start N vs) H s1 := by
  have e1 : Env0 P w K mg base { A with handled := none } outer s H := ⟨e0.frames, e0.mod, e0.bs, e0.bsz, e0.funs, e0.frf, e0.hok, e0.bare⟩
  have I := inv_start (CX := CX0) (E := E) S (A := { A with handled := none }) rfl e1 count rel x
  have ok := I.ok
  refine ⟨⟨ok.mod, ok.kind, ok.glob, ok.blt, ok.above, ok.inj, ok.has, ok.cab, fun z => Bool.noConfusion (show false = true from z), Around.frames_deeper e0.frames, ok.stk, ok.exf, ok.bs, ok.bsz, ok.noex, ok.exfs, ok.funs, ok.frf⟩,
    I.os, I.bare, I.base, I.loc, I.cell, I.free, I.freeC, fun q hq => ?_, I.hok, I.len⟩
  obtain rfl : q = p := by simpa using (show q ∈ [p] ++ ([] : List (Addr × Obj)) from hq)
  exact ⟨x.toInCall.keep _ _ pin.get, pin.free, Nat.ne_of_lt (Heap.lt_size pin.get), pin.nofs, pin.nocell⟩
theorem pinFn {x qual : Str} {par : Arguments} {body : List Stmt} {sc : Scope} {dV kV doc pm cdv ct oc : Value} {an od : Option Addr} {osl : Array (Option Value)}
    (lk : K.lookup f = some ⟨oc, od, .func (PySem.W.fnOf x qual par body sc dV kV doc pm an cdv ct), osl⟩) (code : PySem.W.codeIn K cdv qual = true) (S : FnScope N ps sc)
    (arity : ∀ p vs H Q E, sp p vs H Q E → vs.length = ps.length)
    (reads : ∀ (A : Around) (outer : List Env) (s : Shared) (H : Hp) (vs : List V) (Q : VK) (E : XK) (p : Addr × Obj), L2H.RoomH k (A.deeper (envOfC qual sc s.heap.objs.size f cdv)) → sp p vs H Q E →
      ∃ t, PSs (cxP P w K mg base N qual sc f cdv A outer s H E p) body t ∧ t { nx := fun _ H1 => Q .non H1, rt := Q } (start N vs) H) :
    FnP P w K mg base (k + 1) f (PySem.W.fnOf x qual par body sc dV kV doc pm an cdv ct) ps sp := by
  constructor
  · exact arity
  · intro A outer s H args us vs Q E p room pin e0 bind rel want
    have count := arity _ _ _ _ _ want
    have same : ∀ b o, base.get? b = some o → s.heap.get? b = some o := fun b o e => (e0.bs b o e).1
    have inK := e0.mod.kin.keeps same
    have nolim := e0.mod.nolimit.keeps same
    have kinds : ∀ y ∈ ps.zip us, sc.names.lookup y.1 = some .local ∨ (sc.names.lookup y.1 = some .cell ∧ ((cellsFrom (s.heap.objs.size + 1) sc.names []).lookup y.1).isSome = true) := by
      rintro ⟨n, v⟩ hy
      refine (S.par n (List.of_mem_zip hy).1).imp id fun q => ⟨q, ?_⟩
      exact PySem.W.cellsFrom_some _ _ _ (.inl q)
    refine codeAny_call_function room.depth (inK _ _ lk) rfl S.co S.gen rfl (PySem.W.codeRec_of inK code) (bind _ _ _ _ ?_)
    refine wpAny_newFunctionEnv_cells S.kind kinds fun e he s1 x1 => ?_
    subst he
    refine ⟨nolim.keeps x1.toInCall.keep, codeAny_func ?_⟩
    obtain ⟨t, ht, hq⟩ := reads A outer s H vs Q E p (room.deeper _) want
    have I0 := start_P (E := E) S pin e0 count rel x1
    refine wpAny_mono (ht.run [] s1 _ H _ I0 hq) ?_ (fun e s2 h => h.elim)
    intro fl s2 h
    have out : ∀ {σ : L2.St} {H1 : Hp} {v : V} {u : Value}, Inv (cxP P w K mg base N qual sc f cdv A outer s H E p) [] σ H1 s2 → RelV v u → Q v H1 → CE outer P w H s Q u s2 := fun {σ H1 v u} J r q => ⟨v, H1, J.os, J.bare, J.base, J.hok, r, q⟩
    match fl, h with
    | .ret u, h =>
      obtain ⟨v, σ1, H1, J, rv, q⟩ := h
      exact out J rv q
    | .next, h =>
      obtain ⟨σ1, H1, J, q⟩ := h
      exact out (v := .non) (u := .none) J rfl q
    | .brk, h =>
      obtain ⟨_, _, _, q⟩ := h
      exact q.elim
    | .cont, h =>
      obtain ⟨_, _, _, q⟩ := h
      exact q.elim
end
theorem okP {P : Program} {w : World} {K : PySem.W.Frag} {mg : Str → Option Value} {base : Heap} {x qual : Str} {st : Stmt} {f : Addr} {fd : FuncData} {N ps : List Str} {k : Nat} {sp : Addr × Obj → Sp} (F : Fun K x qual st f fd) (S : FnScope N ps (defScope st))
    (arity : ∀ p vs H Q E, sp p vs H Q E → vs.length = ps.length)
    (reads : ∀ (cdv : Value) (A : Around) (outer : List Env) (s : Shared) (H : Hp) (vs : List V) (Q : VK) (E : XK) (p : Addr × Obj), L2H.RoomH k (A.deeper (envOfC qual (defScope st) s.heap.objs.size f cdv)) → sp p vs H Q E →
      ∃ t, PSs (cxP P w K mg base N qual (defScope st) f cdv A outer s H E p) (defBody st) t ∧ t { nx := fun _ H1 => Q .non H1, rt := Q } (start N vs) H) : FnP P w K mg base (k + 1) f fd ps sp := by
  obtain ⟨_, _, _, _, _, _, cdv, _, _, rfl, lk, code⟩ := F.ex
  exact pinFn lk code S arity fun A outer s H vs Q E p room want => reads cdv A outer s H vs Q E p room want

section
variable {X : Cx} {k : Nat} {f : Addr} {fd : FuncData} {ps : List Str} {sp : Addr × Obj → Sp} {x : Str} {e : Expr} {es : List Expr} {p pos : Pos} {t : TA} {a : Addr} {oe : Obj}
/-- f(e, ..) where the error at a is at hand -/
def tCallP (a : Addr) (cls : Value) (d : Option Addr) (sp : Addr × Obj → Sp) (t : TA) : TE := fun σ H Q => t σ H fun vs H1 => ∀ oe : Obj, Zc cls d oe → (∃ vs, oe.data = .fields vs) → sp (a, oe) vs H1 Q E0
theorem wCallP {cls : Value} {d : Option Addr} {σ : L2.St} {H : Hp} {Q : VK} (h : t σ H fun vs H1 => ∀ oe : Obj, Zc cls d oe → (∃ vs, oe.data = .fields vs) → sp (a, oe) vs H1 Q E0) : tCallP a cls d sp t σ H Q := h
theorem pe_callP {cls : Value} {d : Option Addr} (hz : Zc cls d oe) (hf : ∃ vs, oe.data = .fields vs) (F : FnP X.prog X.w X.K X.mg X.base k f fd ps sp) (room : L2H.RoomH k X.A) (here : (a, oe) ∈ X.pn) (hg : Gl X x) (hm : X.mg x = some (.ref f)) (kp : PySem.W.keepIn X.K (.ref f) = true) (hb : Binds X.K fd ps [])
    (ha : PA X (e :: es) t) (hd : (x == ("__debug__" : Str)) = false := by decide) (he : starEach (e :: es) X.env = (false, eval e X.env) :: starEach es X.env := by rfl) (hp : (backTo pos (starEach es X.env)).any (·.1) = false := by rfl) :
    PE X (.Call (.Name x p) (e :: es) [] pos) (tCallP a cls d sp t) := by
  constructor
  intro pins s σ H Q I want
  refine wpAny_Call_Name_kw (ld_glob I hg hm ?_ hd)
  refine PySem.W.callWith_K (h₀ := X.base) I.ok.mod.kin kp (thn (ha.run pos pins s σ H _ I want) ?_) he hp
  rintro us s1 ⟨vs, H1, I1, rel, q⟩
  refine ⟨I1.kIn, ?_⟩
  have q := q oe hz hf
  have count := F.arity _ _ _ _ _ q
  have bind := hb s1 us I1.kIn (by rw [List.append_nil, ← rel.length]; exact count)
  rw [List.append_nil] at bind
  obtain ⟨z1, z2, z3, z4, z5⟩ := I1.pin (a, oe) (List.mem_append_left _ here)
  have pin : L2H.PinOk X.stack H1 s1 (a, oe) := ⟨z1, z2, fun m => (List.mem_cons.mp (I1.stkSub a m)).elim z3 z4, z5⟩
  refine wpAny_call (codeAny_mono (F.goes room pin I1.env0 bind rel q) ?_)
  intro r s2 h
  match r, h with
  | .error z, h => exact h.elim
  | .ok (.ret u), h => exact I1.after h
  | .ok .next, h => exact h.elim
  | .ok .brk, h => exact h.elim
  | .ok .cont, h => exact h.elim

/-! ### isinstance(e, C), e the error at hand -/
/-- what the class D says of itself -/
structure ErrC (K : PySem.W.Frag) (D : Addr) : Prop where
  is_ : (PySem.W.clsIn K D).isSome = true
  ga : PySem.W.findIn K (.ref D) "__getattribute__" = some (some (.builtin "BaseException.__getattribute__"))
  gg : PySem.W.findIn K (.ref D) "__getattr__" = some none
  ex : PySem.W.subIn K (.ref D) (.type "BaseException") = some true
  ca : PySem.W.findIn K (.ref D) "__class__" = some (some (.builtin "object.__class__"))
  cn : PySem.W.specialIn K (.builtin "object.__class__") "__get__" = some (some (.builtin "getset_descriptor.__get__"))
  ct : PySem.W.takesIn K (.builtin "object.__class__") = some true
  ob : PySem.W.mroIn K D (.type "object") = some true
/-- one class: its answer b -/
def rIsEr (K : PySem.W.Frag) (D a d : Addr) : List V → Hp → VK → Prop := fun xs H Q => ∃ (c : V) (cv : Value) (b : Bool) (fs : List (Str × V)), xs = [.ref a, c] ∧ (∀ u, RelV c u → u = cv) ∧ PySem.W.kitOne K (.ref D) cv = some b ∧ H d = some (.xd fs) ∧ Q (.bl b) H
theorem call_isEr {D d : Addr} (C : ErrC X.K D) (here : (a, oe) ∈ X.pn) (hz : Zc (.ref D) (some d) oe) (hf : ∃ vs, oe.data = .fields vs) : CallR X (.builtin "isinstance") (rIsEr X.K D a d) := by
  intro pins s σ H xs us Q I r h
  obtain ⟨c, cv, b, fs, rfl, hcv, e, hd, q⟩ := h
  match us, r with
  | [u0, u1], .cons r0 (.cons r1 .nil) =>
    obtain rfl : u0 = Value.ref a := r0
    have e1 := hcv _ r1
    subst e1
    have at_ := (I.pin (a, oe) (List.mem_append_left _ here)).1
    obtain ⟨vs, hv⟩ := hf
    obtain ⟨mA, hns, _⟩ := (show ObjOk X.prog X.w H s.heap d (.xd fs) from I.hok d _ hd)
    obtain ⟨od, es, ep, ho, _⟩ := hns
    have J : PySem.W.InstAt s.heap a oe D (some od) := ⟨at_, hz.1, by unfold PySem.W.notCls; rw [hv] <;> rfl, by rw [hz.2]; exact ho⟩
    exact PySem.W.kia_one (PySem.W.kitx_exc C.is_ C.ga C.gg C.ex C.ca C.cn C.ct C.ob) I.kIn J e (fun z => nomatch z) fun tk => ⟨.bl b, H, I.kept (t' := tk) fun _ _ z => z, rfl, q⟩
end
end Ver
/-! Rules for laws about refusals: how often, and where first, a flat item stands in a list; a heap without one place. -/
namespace Ver
open PySem PySem.Spec PyProof.Rows L2
/-- the heap without p -/
def hide (p : Addr) (H : Hp) : Hp := fun a => if a = p then none else H a
theorem hide_ex {p : Addr} {H : Hp} : Ex (hide p H) H := fun a o h => by
  unfold hide at h
  split at h
  · cases h
  · exact h
theorem hide_at {p a : Addr} {H : Hp} {o : HO} (n : a ≠ p) (h : H a = some o) : hide p H a = some o := by
  unfold hide
  rw [if_neg n]
  exact h
theorem hide_ne {p a : Addr} {H : Hp} {o : HO} (h : hide p H a = some o) : a ≠ p := fun e => by
  unfold hide at h
  rw [if_pos e] at h
  cases h
theorem Kp.hide {p : Addr} {H H' : Hp} (e : Kp p H H') : Ex (Ver.hide p H) (Ver.hide p H') := fun a o h => hide_at (hide_ne h) (e a o (hide_ne h) (hide_ex a o h))
theorem Ex.hide {p : Addr} {H H' : Hp} (e : Ex H H') : Ex (Ver.hide p H) (Ver.hide p H') := Kp.hide e.kp

theorem roomS {k j : Nat} {A : Around} {v : Option Value} (r : Room j A) (h : k ≤ j) : L2H.RoomH k (A.mark v) :=
  ⟨by have := r.dp; show A.depth + 3 * k + 5 < _; omega, by have := r.un; show A.units + 16 * k + 200 < _; omega⟩

theorem roomU {k : Nat} {A : Around} (r : L2H.RoomH k A) : A.units + 64 < cLine := by have := r.un; omega
/-- xs.count(y), flat items -/
def rCountF (K : PySem.W.Frag) : V → List V → Hp → VK → Prop := fun x xs H Q => ∃ (a : Addr) (ys : List V) (y : V), x = .ref a ∧ xs = [y] ∧ SqL K H a ys ∧ flatV y = true ∧ ys.all flatV = true ∧ Q (.int ((ys.countP fun z => eqV z y : Nat) : Int)) H
theorem count_eqU {y : V} : ∀ {ys : List V} {us : List Value}, Vals ys us → ys.all flatV = true → us.countP (eqU y) = ys.countP fun z => eqV z y
  | _, _, .nil, _ => rfl
  | z :: ys, u :: us, .cons r t, f => by
    rw [List.all_cons, Bool.and_eq_true] at f
    rw [List.countP_cons, List.countP_cons, count_eqU t f.2, eqU_of r f.1]
theorem mt_countV {X : Cx} {K : PySem.W.Frag} (hK : X.K = K) : MtR X "list.count" (rCountF K) := by
  subst hK
  intro pins s σ H x xs v us Q I rx rxs want
  obtain ⟨a, ys, y, rfl, rfl, sq, fy, fys, q⟩ := want
  cases rx
  obtain ⟨u, rfl, ry⟩ := rxs.one
  obtain ⟨its, rel, ⟨⟨cls, dd, data, sl⟩, n, at_, ec, _, ed⟩, _⟩ := I.list sq
  simp only at ec ed
  subst ec ed
  have each := mem_eqAt (A := X.A.in1) (s := s) ry fy rel fys
  refine call_meets PySem.F.slot_list_count ⟨_, at_, rfl⟩ PySem.F.entry_list_count (PySem.F.args_list_count_2 _ _) (SeqAt.list_countAt a its.toArray n dd sl u (eqU y)) ⟨at_, fun z hz => ?_, ?_⟩
  · exact mem_eqAt ry fy rel fys z (by simpa using hz)
  · refine ⟨.int ((ys.countP fun z => eqV z y : Nat) : Int), H, I.tok _, ⟨s.toks, ?_⟩, q⟩
    show Value.int ((its.toArray.toList.countP (eqU y) : Nat) : Int) s.toks = Value.int ((ys.countP fun z => eqV z y : Nat) : Int) s.toks
    rw [← count_eqU rel fys]
theorem mt_indexV {X : Cx} {K : PySem.W.Frag} (hK : X.K = K) : MtR X "list.index" (rIndex K) := hK ▸ mt_index
section
variable {X : Cx} {a : Addr} {oe : Obj}
/-- isinstance(e, C) where a suite, or a def that was handed it, holds the error at a -/
def rIsH (K : PySem.W.Frag) (a : Addr) (cls : Value) (d : Option Addr) : List V → Hp → VK → Prop := fun xs H Q => ∃ (D dd : Addr) (c : V) (cv : Value) (b : Bool) (fs : List (Str × V)), cls = .ref D ∧ d = some dd ∧ ErrC K D ∧ xs = [.ref a, c] ∧ (∀ u, RelV c u → u = cv) ∧ PySem.W.kitOne K (.ref D) cv = some b ∧ H dd = some (.xd fs) ∧ Q (.bl b) H
theorem call_isH {K : PySem.W.Frag} (hK : X.K = K) {cls : Value} {d : Option Addr} (here : (a, oe) ∈ X.pn) (hz : Zc cls d oe) (hf : ∃ vs, oe.data = .fields vs) : CallR X (.builtin "isinstance") (rIsH K a cls d) := by
  subst hK
  intro pins s σ H xs us Q I r h
  obtain ⟨D, dd, c, cv, b, fs, rfl, rfl, C, rfl, hcv, e, hd, q⟩ := h
  exact call_isEr C here hz hf pins s σ H _ us Q I r ⟨c, cv, b, fs, rfl, hcv, e, hd, q⟩
theorem wIsH {K : PySem.W.Frag} {H : Hp} {Q : VK} {D dd C : Addr} {b : Bool} {fs : List (Str × V)} (er : ErrC K D) (e : PySem.W.kitOne K (.ref D) (.ref C) = some b) (hd : H dd = some (.xd fs)) (k : Q (.bl b) H) : rIsH K a (.ref D) (some dd) [.ref a, .ref C] H Q :=
  ⟨D, dd, _, .ref C, b, fs, rfl, rfl, er, rfl, fun u r => r, e, hd, k⟩
theorem wIsHT {K : PySem.W.Frag} {H : Hp} {Q : VK} {D dd : Addr} {T : String} {b : Bool} {fs : List (Str × V)} (er : ErrC K D) (e : PySem.W.kitOne K (.ref D) (.type T) = some b) (hd : H dd = some (.xd fs)) (k : Q (.bl b) H) : rIsH K a (.ref D) (some dd) [.ref a, .ty T] H Q :=
  ⟨D, dd, _, .type T, b, fs, rfl, rfl, er, rfl, fun u r => r, e, hd, k⟩
theorem wXfV {D dd : Addr} {fld : Str} {fs : List (Str × V)} {v : V} {σ : L2.St} {H : Hp} {Q : VK} {i : Nat} (h : σ[i]? = some (some (.ref a))) (hd : H dd = some (.xd fs)) (l : fs.lookup fld = some v) (k : Q v H) : tXf a (.ref D) (some dd) D fld (tVar i) σ H Q :=
  ⟨.ref a, h, rfl, rfl, dd, fs, v, rfl, hd, l, k⟩
end
end Ver
/-! enumerate of a tuple, walked by a for. -/
namespace EnT
open PySem PySem.Spec PyProof.Rows L2
/-- the items of the tuple at a, each behind its number in a new tuple -/
def Itet (K : PySem.W.Frag) (a : Addr) : It where
  go := fun i H => ∃ (xs : List V) (x : V), SqT K H a xs ∧ xs[i]? = some x
  yld := fun i H v H' => ∃ (T : Addr) (x : V), v = .ref T ∧ H T = none ∧ H' = upd H T (.tup [.int (i : Nat), x]) ∧ ∀ xs, SqT K H a xs → xs[i]? = some x
  stop := fun i H => ∃ xs : List V, SqT K H a xs ∧ i = xs.length
theorem new_one {v : Value} {o : Obj} {Hs : Heap → Prop} (B : Begins v o Hs) : Meets (Builtin.«enumerate.__new__» ⟨[.type "enumerate", v], []⟩) (fun _ R s => Hs s.heap ∧
    R (.ok (.ret (.ref (s.heap.push o).objs.size))) { s with heap := (s.heap.push o).push { cls := .type "enumerate", data := .fields #[.none, .bool false, .ref s.heap.objs.size, rawInt 0, .none, .none] } }) :=
  .of_wp fun prog w A R s want => by
    obtain ⟨hp, g, d, tk, os⟩ := s
    obtain ⟨h1, want⟩ := want
    have hsub := sub_enumerate
    have start_ : ∀ {A' : Around} {E : Value → Shared → Prop} {Q : Value → Shared → Prop}, Q (.ref hp.objs.size) ⟨hp.push o, g, d, tk, os⟩ → wpAny (model prog w) A' (pyIter v) Q E ⟨hp, g, d, tk, os⟩ := fun q => B.iter prog w _ _ ⟨hp, g, d, tk, os⟩ _ h1 q
    wp_walk using start_
    refine wpAny_stack_any fun st => wpAny_pure ?_
    split
    case h_1 c _ _ _ _ _ =>
      cases (c == Value.type "enumerate") <;> (wp_walk using start_; exact ⟨_, rfl, want⟩)
    case h_2 =>
      wp_walk using start_
      exact ⟨_, rfl, want⟩
theorem begins1 {prog : Program} {w : World} {A : Around} {E : Value → Shared → Prop} {s : Shared} {v : Value} {o : Obj} {Hs : Heap → Prop} {Q : Value → Shared → Prop} (B : Begins v o Hs) (h1 : Hs s.heap)
    (k : ∀ h', IsEnum h' (s.heap.objs.size + 1) s.heap.objs.size 0 .none → h'.get? s.heap.objs.size = some o → (∀ b u, s.heap.get? b = some u → h'.get? b = some u) → Q (.ref (s.heap.objs.size + 1)) { s with heap := h' }) :
    wpAny (model prog w) A (call (.type "enumerate") [v]) Q E s := by
  refine callType_new F.called_enumerate (by decide) (F.typeCall_enumerate_1 _) (F.newCall_enumerate_1 _) (fun obj => F.args_object_init_2 obj _) F.entry_enumerate_new (new_one B) ⟨h1, ?_⟩
  have size : (s.heap.push o).objs.size = s.heap.objs.size + 1 := Heap.size_push ..
  show _ ∧ _
  rw [size]
  have made := Heap.get?_push_size (s.heap.push o) (o := { cls := .type "enumerate", data := .fields #[.none, .bool false, .ref s.heap.objs.size, rawInt 0, .none, .none] }) rfl
  rw [size] at made
  exact ⟨⟨_, made, rfl⟩, k _ made (Heap.get?_push_of_some _ (Heap.get?_push_size _ B.free)) fun b u z => Heap.get?_push_of_some _ (Heap.get?_push_of_some _ z)⟩
theorem turn_enT {P : Program} {w : World} {K : PySem.W.Frag} {elts : List Expr} {kk : Nat} {tpos : Pos} {a e it : Addr} (ne : e ≠ it) (na : a ≠ it) (nea : e ≠ a) :
    Turn P w K (.Tuple elts kk tpos) (Itet K a) [e, it] e (fun i h => (∃ old, IsEnum h e it ((i : Nat) : Int) old) ∧ h.IsTupleIter it a i) where
  mem := List.mem_cons_self
  obj := by
    rintro i h ⟨⟨old, he⟩, o, ho, _, hd⟩ b hb
    simp only [List.mem_cons, List.not_mem_nil, or_false] at hb
    rcases hb with rfl | rfl
    · exact ⟨_, he, fun v q => by cases q⟩
    · exact ⟨o, ho, fun v q => by rw [hd] at q; cases q⟩
  keep := by
    rintro i h h' ⟨⟨old, he⟩, hi⟩ k
    exact ⟨⟨old, k e (by simp) _ he⟩, hi.at fun o q => k it (by simp) o q⟩
  item := by
    intro X hP hw hK hc i pins s σ H E I hf st hg
    subst hP hw hK
    obtain ⟨⟨old, he⟩, hi⟩ := st
    obtain ⟨xs, x, sq, hx⟩ := hg
    obtain ⟨its, rv, p, _⟩ := I.tuple sq
    obtain ⟨u, hu, ru⟩ := rv.get hx
    have hh : X.A.in1.handled = none := I.ok.hd hc
    have lt : i < its.toArray.size := by
      have := (List.getElem?_eq_some_iff.mp hu).1
      simpa using this
    have off : e ∉ [it, a] := by
      simp only [List.mem_cons, List.not_mem_nil, or_false, not_or]
      exact ⟨ne, nea⟩
    have elt : e < s.heap.objs.size := Heap.lt_size he
    have ilt : it < s.heap.objs.size := hi.elim fun o q => Heap.lt_size q.1
    refine wpAny_pyNext_enum_itemD (A := X.A) (Draws.tuple hh it a na its.toArray) he ⟨hi, (show s.heap.IsTuple a its.toArray from p)⟩ lt ne off ?_
    intro x1 h' tk p1 out st1 hT _ hk
    have eu : x1 = u := by
      have : its[i]? = some x1 := by simpa using p1
      exact Option.some.inj (this.symm.trans hu)
    subst eu
    refine ⟨_, rfl, wpAny_letOwnedTupleGo_enum (s := { s with heap := h', toks := tk + 1 }) out ?_⟩
    intro h2 e2 sb
    have T2 := (sb.2 _ (Nat.ne_of_gt elt)).trans hT
    have new : ObjOk X.prog X.w (upd H s.heap.objs.size (.tup [.int (i : Nat), x])) h2 s.heap.objs.size (.tup [.int (i : Nat), x]) :=
      ⟨by show 2 ≤ sizeLine; decide, [.int i tk, x1], .cons ⟨_, rfl⟩ (.cons ru .nil), ⟨_, T2, rfl, _, rfl⟩⟩
    have keep : ∀ b o, b ∉ [e, it] → s.heap.get? b = some o → h2.get? b = some o := fun b o hb q => by
      simp only [List.mem_cons, List.not_mem_nil, or_false, not_or] at hb
      exact (sb.2 b hb.1).trans (hk b o hb.1 hb.2 q)
    have I1 : Inv X pins σ (upd H s.heap.objs.size (.tup [.int (i : Nat), x])) { s with heap := h2, toks := tk + 1 } := I.turnedNew (t' := tk + 1) keep hf (Nat.le_refl _) new
    refine ⟨.ref s.heap.objs.size, _, I1, rfl, ⟨_, x, rfl, I.hok.fresh (Nat.le_refl _), rfl, fun l hl => by rw [I.tuple_inj hl sq]; exact hx⟩, ⟨⟨x1, ?_⟩, ?_⟩, fun b hb => ?_⟩
    · have e1 : ((i + 1 : Nat) : Int) = (i : Int) + 1 := by omega
      rw [e1]
      exact e2
    · exact st1.1.at fun o q => (sb.2 it ne.symm).trans q
    · have hb' : b < s.heap.objs.size := by
        simp only [List.mem_cons, List.not_mem_nil, or_false] at hb
        rcases hb with rfl | rfl
        · exact elt
        · exact ilt
      rw [upd_ne (Nat.ne_of_lt hb')]
      exact (hf b hb).1
  done := by
    intro X hP hw hK hc i pins s σ H E I hf st hg
    subst hP hw hK
    obtain ⟨⟨old, he⟩, hi⟩ := st
    obtain ⟨xs, sq, hend⟩ := hg
    obtain ⟨its, rv, p, _⟩ := I.tuple sq
    have hh : X.A.in1.handled = none := I.ok.hd hc
    have el : its.toArray.size = i := by
      have := rv.length
      simp only [List.size_toArray]
      omega
    have st' : (fun j h => h.IsTupleIter it a j ∧ h.IsTuple a its.toArray) its.toArray.size s.heap := by
      rw [el]
      exact ⟨hi, p⟩
    refine wpAny_pyNext_enum_endD (A := X.A) (Draws.tuple hh it a na its.toArray) he st' fun h' eb => ?_
    refine ⟨rfl, I.turnedL (t' := s.toks) (ch := [e, it]) (fun b o hb q => ?_) hf⟩
    simp only [List.mem_cons, List.not_mem_nil, or_false, not_or] at hb
    exact eb b o hb.2 q
  self := fun A i s Q E st h => let ⟨⟨_, he⟩, _⟩ := st; wpAny_pyIter_enum he h
def iEnT (K : PySem.W.Frag) (ta : TA) : TI := fun σ H R => ta σ H fun vs H1 => ∃ (a : Addr) (xs : List V), vs = [.ref a] ∧ SqT K H1 a xs ∧ R (Itet K a) H1
theorem pi_enT {X : Cx} {K : PySem.W.Frag} {e : Expr} {ta : TA} {p pos tpos : Pos} {elts : List Expr} {kk : Nat} (hK : X.K = K) (hg : Gl X "enumerate") (hm : X.mg "enumerate" = none) (ha : PA X [e] ta) (hs : starEach [e] X.env = [(false, eval e X.env)] := by rfl) :
    PI X (.Tuple elts kk tpos) (.Call (.Name "enumerate" p) [e] [] pos) (iEnT K ta) := by
  subst hK
  constructor
  intro pins s σ H R I want
  refine Call_ (ld_blt I hg hm boot_enumerate (PyProof.Rows.callWith_type1 (thn (ha.run pos pins s σ H _ I want) ?_) hs rfl))
  rintro us s1 ⟨vs, H1, I1, r1, a, xs, rfl, sq, q⟩
  obtain ⟨u, rfl, ra⟩ := vals1 r1
  cases ra
  obtain ⟨its, rv, p1, _⟩ := I1.tuple sq
  have la : a < s1.heap.objs.size := p1.elim fun o z => Heap.lt_size z.1
  refine begins1 (begins_tuple a its.toArray) (show s1.heap.IsTuple a its.toArray from p1) fun h' he hi hk => wpAny_pyIter_enum he ?_
  have I2 : Inv X pins σ H1 { s1 with heap := h' } := I1.kept (t' := s1.toks) hk
  refine ⟨s1.heap.objs.size + 1, [s1.heap.objs.size + 1, s1.heap.objs.size], _, _, H1, rfl, I2, turn_enT (Nat.succ_ne_self _) (Nat.ne_of_lt la) (Nat.ne_of_gt (Nat.lt_succ_of_lt la)), ⟨⟨_, he⟩, ⟨_, hi, rfl, rfl⟩⟩, fun b hb => ?_, q⟩
  have le : s1.heap.objs.size ≤ b := by
    simp only [List.mem_cons, List.not_mem_nil, or_false] at hb
    rcases hb with rfl | rfl
    · exact Nat.le_succ _
    · exact Nat.le_refl _
  exact I1.fpOk le (I1.hok.fresh le)
/-- a loop over such an enumeration -/
theorem for_enT {K : PySem.W.Frag} {a : Addr} {xs : List V} {g : TG} {tb : TS} {D : Ends} {σ : L2.St} {H : Hp} (Pv : Nat → L2.St → Hp → Prop) (h0 : Pv 0 σ H) (hq : ∀ i σ H, Pv i σ H → SqT K H a xs)
    (hs : ∀ (i : Nat) (x : V) (T : Addr) (σ : L2.St) (H : Hp), xs[i]? = some x → Pv i σ H → H T = none → g (.ref T) σ (upd H T (.tup [.int (i : Nat), x])) fun σ2 H2 => tb { D with nx := Pv (i + 1), ct := Pv (i + 1), bk := D.nx } σ2 H2)
    (hd : ∀ σ H, Pv xs.length σ H → D.nx σ H) :
    ∃ W : Nat → Nat → L2.St → Hp → Prop, (∃ m, W 0 m σ H) ∧ ∀ i m σ H, W i m σ H →
      ((Itet K a).stop i H ∧ D.nx σ H) ∨ ((Itet K a).go i H ∧ ∃ N : L2.St → Hp → Prop, (∀ σ' H', N σ' H' → ∃ m', m' < m ∧ W (i + 1) m' σ' H') ∧ ∀ v H', (Itet K a).yld i H v H' → g v σ H' fun σ2 H2 => tb { D with nx := N, ct := N, bk := D.nx } σ2 H2) := by
  refine ⟨fun i m σ H => m = xs.length - i ∧ i ≤ xs.length ∧ Pv i σ H, ⟨xs.length, by simp, Nat.zero_le _, h0⟩, ?_⟩
  rintro i m σ H ⟨rfl, hi, P⟩
  have q := hq i σ H P
  by_cases lt : i < xs.length
  · refine .inr ⟨⟨xs, xs[i], q, List.getElem?_eq_getElem lt⟩, Pv (i + 1), fun σ' H' P' => ⟨xs.length - (i + 1), by omega, rfl, lt, P'⟩, ?_⟩
    rintro v H' ⟨T, x, rfl, nT, rfl, f⟩
    exact hs i x T σ H (f xs q) P nT
  · have e : i = xs.length := by omega
    subst e
    exact .inl ⟨⟨xs, q, rfl⟩, hd σ H P⟩
end EnT
/-! Rules for laws about texts: str of a number or a text, a text once or not at all, xs[::-1] of a list, repr beside a held error; numbers read back. -/
namespace Ver
open PySem PySem.Spec PyProof.Rows L2
open TL (numL numL_lt numL_step tl_num)
theorem Quiet.u65 {k : Nat} {A : Around} (q : Quiet k A) : A.units + 65 < cLine := by have := q.room.un; omega
/-- str(x), x a number or a text -/
def rStrIS : List V → Hp → VK → Prop := fun xs H Q => (∃ i, xs = [.int i] ∧ i.natAbs.log2 < 1920 ∧ Q (.str (toString i)) H) ∨ ∃ a, xs = [.str a] ∧ Q (.str a) H
theorem call_strIS {X : Cx} : CallR X (.type "str") rStrIS := by
  intro pins s σ H xs us Q I r want
  rcases want with want | want
  · exact call_str_int pins s σ H xs us Q I r want
  · exact SkE.call_str_str pins s σ H xs us Q I r want
/-- z * k, k 0 or 1 -/
def rMulS01 : R2 := fun x y H Q => ∃ (z : Str) (b : Bool), x = .str z ∧ y = .int (if b = true then 1 else 0) ∧ Q (.str (if b = true then z else ⟨#[]⟩)) H
theorem op_mulS01 {X : Cx} : OpR X (binaryOp .Mult) rMulS01 := by
  intro pins s σ H x y v u Q I rx ry want
  obtain ⟨z, b, rfl, rfl, q⟩ := want
  obtain ⟨t, rfl⟩ := rx
  obtain ⟨t', rfl⟩ := ry
  cases b with
  | false =>
    refine PySem.P.mul_str (by decide) (fun h _ => absurd (show ((0 : Int) < 1) by decide) h) (fun h _ => absurd (show ((0 : Int) < 1) by decide) h) ?_
    rw [if_pos (by decide)]
    exact ⟨by decide, .str Str.empty, H, I.tok _, ⟨_, rfl⟩, q⟩
  | true =>
    refine PySem.P.mul_str (by decide) (fun _ h => absurd h (by simp)) (fun _ h => absurd h (by simp)) ?_
    rw [if_neg (by decide), if_pos (by simp)]
    exact ⟨.str z, H, I.tok _, ⟨t, rfl⟩, q⟩
/-- xs[::-1] of a list -/
def tRevL (K : PySem.W.Frag) (te : TE) : TE := fun σ H Q => te σ H fun x H1 => ∃ a xs, x = .ref a ∧ SqL K H1 a xs ∧ Al Q (.lst xs.reverse) H1
theorem pe_revL {X : Cx} {K : PySem.W.Frag} {e : Expr} {te : TE} {k : Nat} {p1 p2 p3 pos : Pos} (hK : X.K = K) (he : PE X e te) : PE X (.Subscript e (.Slice none none (some (.UnaryOp .USub (.Constant (.int 1) k p1) p2)) p3) pos) (tRevL K te) := by
  subst hK
  constructor
  intro pins s σ H Q I want
  refine Subscript_ (thn (he.run pins s σ H _ I want) ?_)
  rintro v s1 ⟨x, H1, I1, r1, a, xs, rfl, at_, q⟩
  cases r1
  have step : PO X (some (.UnaryOp .USub (.Constant (.int 1) k p1) p2)) (tPart (tUn (rU fun i => .int (-i)) (tC (.int 1)))) := po_some (pe_un un_neg pe_int)
  refine wpAny_Slice (thn (po_none.run pins s1 σ H1 (fun o G => o = none ∧ G = H1) I1 ⟨rfl, rfl⟩) ?_)
  rintro vl s2 ⟨_, _, I2, pl, rfl, rfl⟩
  refine thn (po_none.run pins s2 σ _ (fun o G => o = none ∧ G = _) I2 ⟨rfl, rfl⟩) ?_
  rintro vu s3 ⟨_, _, I3, pu, rfl, rfl⟩
  refine thn (step.run pins s3 σ _ (fun o G => o = some (-1) ∧ G = _) I3 ⟨1, rfl, -1, rfl, rfl, rfl⟩) ?_
  rintro vs s4 ⟨_, G, I4, ps, rfl, rfl⟩
  have I5 := I4.kept (t' := s4.toks) (h' := s4.heap.push { cls := .type "slice", data := .fields #[vl, vu, vs] }) fun b o z => Heap.get?_push_of_some _ z
  obtain ⟨its, r, lst, size⟩ := I5.list at_
  have len := r.length
  refine tail_any (ops := [.ref a, .ref s4.heap.objs.size]) lst.isList.typeIs slot_list_getitem.lookup ?_ (by with_unfolding_all rfl)
  refine wpAny_getItem_list_slice lst.isList (Heap.IsSliceOf.new _ vl vu vs) pl pu ps (by decide) ?_ (by rw [List.size_toArray]; omega)
  rw [PySem.W.krv_pick]
  refine ⟨.ref _, _, I5.laid (t' := s4.toks) (o := .lst xs.reverse) (fun b o z => Heap.get?_push_of_some _ z) (Nat.le_refl _) ?_, rfl, q _ (I5.hok.fresh (Nat.le_refl _))⟩
  refine ⟨by rw [List.length_reverse]; exact size, its.reverse, 0, r.reverse, ?_⟩
  exact Heap.get?_push_size _ rfl
section
variable {K : PySem.W.Frag} {σ : L2.St} {H : Hp} {Q : VK} {te : TE} {ta : TA} {R : It → Hp → Prop}
theorem wRevL (k : te σ H fun x H1 => ∃ a xs, x = .ref a ∧ SqL K H1 a xs ∧ Al Q (.lst xs.reverse) H1) : tRevL K te σ H Q := k
theorem wIRng3 (k : ta σ H fun vs H1 => ∃ (i j c : Int) (n : Nat), vs = [.int i, .int j, .int c] ∧ RgC i j c n ∧ R (Itc i c n) H1) : iRng3 ta σ H R := k
theorem wIEnum (k : ta σ H fun vs H1 => ∃ a xs, vs = [.ref a] ∧ SqL K H1 a xs ∧ R (Ite K a) H1) : iEnum K ta σ H R := k
theorem wIEnT (k : ta σ H fun vs H1 => ∃ (a : Addr) (xs : List V), vs = [.ref a] ∧ SqT K H1 a xs ∧ R (EnT.Itet K a) H1) : EnT.iEnT K ta σ H R := k
/-- a loop over the enumeration of a list -/
theorem for_enL {a : Addr} {xs : List V} {g : TG} {tb : TS} {D : Ends} (Pv : Nat → L2.St → Hp → Prop) (h0 : Pv 0 σ H) (hq : ∀ i σ H, Pv i σ H → SqL K H a xs)
    (hs : ∀ (i : Nat) (x : V) (T : Addr) (σ : L2.St) (H : Hp), xs[i]? = some x → Pv i σ H → H T = none → g (.ref T) σ (upd H T (.tup [.int (i : Nat), x])) fun σ2 H2 => tb { D with nx := Pv (i + 1), ct := Pv (i + 1), bk := D.nx } σ2 H2)
    (hd : ∀ σ H, Pv xs.length σ H → D.nx σ H) :
    ∃ W : Nat → Nat → L2.St → Hp → Prop, (∃ m, W 0 m σ H) ∧ ∀ i m σ H, W i m σ H →
      ((Ite K a).stop i H ∧ D.nx σ H) ∨ ((Ite K a).go i H ∧ ∃ N : L2.St → Hp → Prop, (∀ σ' H', N σ' H' → ∃ m', m' < m ∧ W (i + 1) m' σ' H') ∧ ∀ v H', (Ite K a).yld i H v H' → g v σ H' fun σ2 H2 => tb { D with nx := N, ct := N, bk := D.nx } σ2 H2) := by
  refine ⟨fun i m σ H => m = xs.length - i ∧ i ≤ xs.length ∧ Pv i σ H, ⟨xs.length, by simp, Nat.zero_le _, h0⟩, ?_⟩
  rintro i m σ H ⟨rfl, hi, P⟩
  have q := hq i σ H P
  by_cases lt : i < xs.length
  · refine .inr ⟨⟨xs, xs[i], q, List.getElem?_eq_getElem lt⟩, Pv (i + 1), fun σ' H' P' => ⟨xs.length - (i + 1), by omega, rfl, lt, P'⟩, ?_⟩
    rintro v H' ⟨T, x, rfl, nT, rfl, f⟩
    exact hs i x T σ H (f xs q) P nT
  · have e : i = xs.length := by omega
    subst e
    exact .inl ⟨⟨xs, q, Nat.le_refl _⟩, hd σ H P⟩
end
/-- repr(x), an error held or not -/
theorem call_reprH {X : Cx} (still : X.A.guards = some []) (room : X.A.units + 65 < cLine) : CallR X (.builtin "repr") rRepr := by
  intro pins s σ H xs us Q I rel want
  obtain ⟨v, l, d, n, rfl, rp, hn, q⟩ := want
  obtain ⟨u, rfl, r⟩ := vals1 rel
  obtain ⟨a1, a2, a3, a4⟩ := rp.able
  have size : d.shown.length ≤ sizeLine := by
    have : (10000000 : Nat) ≤ sizeLine := by decide
    omega
  obtain ⟨as, rd, hs⟩ := rp.reads I.hok r
  have done : ∀ tk tk', EP X pins σ Q (.str d.shown tk) { s with toks := tk' } := fun tk tk' => ⟨.str d.shown, H, I.tok _, ⟨_, rfl⟩, q⟩
  have deep : ∀ {a : Addr}, Reads s.heap (.ref a) d as → wpAny (model X.prog X.w) X.A (call (.builtin "repr") [.ref a]) (EP X pins σ Q) X.xe s := fun {a} rd => by
    refine repr_of_reads' (h₀ := s.heap) rd a1 (fun z => hs (a2 z)) still (by omega) (fun _ _ z => z) (fun h' u tk keep => ?_) size
    exact ⟨.str d.shown, H, I.kept keep, ⟨_, rfl⟩, q⟩
  cases rd with
  | none => exact PySem.P.repr_of_none (done _ _)
  | bool b => exact PySem.P.repr_of_bool (done _ _)
  | int i t => exact PySem.P.repr_of_int (by simpa [PyData.showable] using a1) (done _ _)
  | str z t => exact PySem.P.repr_of_str (done _ _) size
  | list h1 h2 h3 h4 => exact deep (.list h1 h2 h3 h4)
  | tuple h1 h2 h3 h4 => exact deep (.tuple h1 h2 h3 h4)
  | dict h1 h2 h3 h4 h5 => exact deep (.dict h1 h2 h3 h4 h5)

/-- join with the written part named -/
theorem pe_joinV {X : Cx} {K : PySem.W.Frag} {o e : Expr} {to te : TE} {apos pos : Pos} (hK : X.K = K) (ho : PE X o to) (he : PE X e te) (hs : starEach [e] X.env = [(false, eval e X.env)] := by rfl) (hbase : attributeBase o "join" X.env (eval o X.env) = eval o X.env := by rfl) (hline : (apos.endLine == pos.line) = true := by rfl) :
    PE X (.Call (.Attribute o "join" apos) [e] [] pos) (tM1 (fun x xs H Q => ∃ a p, ∃ ys : List Str, x = .str a ∧ xs = [.ref p] ∧ (SqL K H p (ys.map V.str) ∨ SqT K H p (ys.map V.str)) ∧
      (ys.map (·.length)).sum + ys.length * a.length ≤ 16777216 ∧ Q (.str (Txt.join a ys)) H) to te) := hK ▸ pe_join ho he hs hbase hline
/-! ### numbers of up to four figures, as texts -/
def numT (n : Nat) : Str := toString ((n : Nat) : Int)
structure NumT (n : Nat) (z : Str) : Prop where
  digits : ∀ c ∈ z.cps.toList, 48 ≤ c ∧ c ≤ 57
  len : 1 ≤ z.length ∧ z.length ≤ 4
  head : ∃ c r, z.cps.toList = c :: r ∧ c ≠ 48
  reads : intText? (("0" : Str) ++ z) = some (n : Int)
theorem numL_ok : ∀ k : Nat, ∀ n : Nat, 10 ^ k ≤ n → n < 10 ^ (k + 1) → (∀ c ∈ numL n, 48 ≤ c ∧ c ≤ 57) ∧ (numL n).length = k + 1 ∧ ∃ c r, numL n = c :: r ∧ c ≠ 48
  | 0, n, h0, h1 => by
    have h0 : 1 ≤ n := h0
    have h1 : n < 10 := h1
    rw [numL_lt h1]
    refine ⟨fun c hc => ?_, rfl, _, _, rfl, by omega⟩
    obtain rfl := List.mem_singleton.mp hc
    omega
  | k + 1, n, h0, h1 => by
    have p : 10 ≤ n := by
      have : 10 ^ 1 ≤ 10 ^ (k + 1) := Nat.pow_le_pow_right (by omega) (by omega)
      omega
    rw [numL_step p]
    have e1 : 10 ^ (k + 1) = 10 * 10 ^ k := by rw [Nat.pow_succ]; omega
    have e2 : 10 ^ (k + 1 + 1) = 10 * 10 ^ (k + 1) := by rw [Nat.pow_succ (n := 10) (m := k + 1)]; omega
    obtain ⟨q1, q2, c, r, q3, q4⟩ := numL_ok k (n / 10) (by omega) (by omega)
    refine ⟨fun d hd => ?_, by rw [List.length_append, q2]; rfl, c, r ++ [48 + n % 10], by rw [q3]; rfl, q4⟩
    rcases List.mem_append.mp hd with hd | hd
    · exact q1 d hd
    · obtain rfl := List.mem_singleton.mp hd
      have := Nat.mod_lt n (show 0 < 10 by decide)
      omega
theorem numT_ok {n : Nat} (h0 : 1 ≤ n) (h1 : n ≤ 9999) : NumT n (numT n) := by
  obtain ⟨k, hk, p0, p1⟩ : ∃ k, k ≤ 3 ∧ 10 ^ k ≤ n ∧ n < 10 ^ (k + 1) := by
    by_cases a : n < 10
    · exact ⟨0, by omega, h0, a⟩
    · by_cases b : n < 100
      · exact ⟨1, by omega, by omega, b⟩
      · by_cases c : n < 1000
        · exact ⟨2, by omega, by omega, c⟩
        · exact ⟨3, by omega, by omega, by omega⟩
  obtain ⟨q1, q2, c, r, q3, q4⟩ := numL_ok k n p0 p1
  have e : (numT n).cps.toList = numL n := tl_num n
  have len : (numT n).length = k + 1 := by
    show (numT n).cps.size = _
    rw [← Array.length_toList, e, q2]
  have dg : ∀ d ∈ (numT n).cps.toList, 48 ≤ d ∧ d ≤ 57 := by rw [e]; exact q1
  refine ⟨dg, by omega, ⟨c, r, by rw [e]; exact q3, q4⟩, ?_⟩
  have rd : intText? (numT n) = some (n : Int) := PySem.W.KIN.num_reads (by omega) (by omega)
  have ne : (numT n).cps.toList ≠ [] := by rw [e, q3]; exact List.cons_ne_nil _ _
  rw [PySem.intText_digits dg ne (by omega)] at rd
  have e0 : (("0" : Str) ++ numT n).cps.toList = 48 :: (numT n).cps.toList := by
    show ((("0" : Str).cps ++ (numT n).cps)).toList = _
    rw [Array.toList_append]
    rfl
  have l0 : (("0" : Str) ++ numT n).length = 1 + (numT n).length := by
    rw [app_len]
    rfl
  rw [PySem.intText_digits (x := ("0" : Str) ++ numT n) (by rw [e0]; intro d hd; rcases List.mem_cons.mp hd with rfl | hd; exact ⟨by decide, by decide⟩; exact dg d hd) (by rw [e0]; exact List.cons_ne_nil _ _) (by omega), e0]
  exact rd
end Ver
namespace Ver
open PySem PySem.Spec PyProof.Rows L2
def top (i : Nat) : Stmt := PySem.Challenge.pw_thankways_k13_books_as_texts.main.body.getD i (.Pass ⟨0, 0, 0, 0⟩)
abbrev s_is_whole : Stmt := top 21
abbrev s_is_name : Stmt := top 27
abbrev s_is_holder : Stmt := top 28
abbrev s_is_measure : Stmt := top 29
abbrev s_is_deed : Stmt := top 30
abbrev s_is_short_deed : Stmt := top 31
abbrev s_is_deed_between_two : Stmt := top 32
abbrev s_check_book : Stmt := top 33
abbrev s_show_whole : Stmt := top 37
abbrev s_is_figures : Stmt := top 38
abbrev s_read_whole : Stmt := top 39
abbrev s_show_deed : Stmt := top 40
abbrev s_show_book : Stmt := top 41
abbrev s_lines_of : Stmt := top 42
abbrev s_read_part : Stmt := top 43
abbrev s_read_deed : Stmt := top 44
abbrev s_read_book : Stmt := top 45
abbrev s_Lcell : Stmt := top 47
abbrev s_Lpool : Stmt := top 48
abbrev s_Ltake : Stmt := top 49
abbrev s_Lnames : Stmt := top 50
abbrev s_Lsort : Stmt := top 51
abbrev s_Ldrawn_deed : Stmt := top 52
abbrev s_Ldrawn_book : Stmt := top 53
abbrev s_Ltext : Stmt := top 54
abbrev s_Lthere_and_back : Stmt := top 55
abbrev s_Lrefused : Stmt := top 56
abbrev s_Lothers_right : Stmt := top 57
abbrev s_law : Stmt := top 58
theorem sc_is_whole : FnScope ["thing"] ["thing"] (defScope s_is_whole) := ⟨rfl, rfl, rfl, by decide +kernel, rfl, by decide +kernel, by decide +kernel⟩
theorem sc_is_name : FnScope ["thing", "sign"] ["thing"] (defScope s_is_name) := ⟨rfl, rfl, rfl, by decide +kernel, rfl, by decide +kernel, by decide +kernel⟩
theorem sc_is_holder : FnScope ["thing"] ["thing"] (defScope s_is_holder) := ⟨rfl, rfl, rfl, by decide +kernel, rfl, by decide +kernel, by decide +kernel⟩
theorem sc_is_measure : FnScope ["thing"] ["thing"] (defScope s_is_measure) := ⟨rfl, rfl, rfl, by decide +kernel, rfl, by decide +kernel, by decide +kernel⟩
theorem sc_is_deed : FnScope ["thing"] ["thing"] (defScope s_is_deed) := ⟨rfl, rfl, rfl, by decide +kernel, rfl, by decide +kernel, by decide +kernel⟩
theorem sc_is_short_deed : FnScope ["row", "word"] ["row"] (defScope s_is_short_deed) := ⟨rfl, rfl, rfl, by decide +kernel, rfl, by decide +kernel, by decide +kernel⟩
theorem sc_is_deed_between_two : FnScope ["row"] ["row"] (defScope s_is_deed_between_two) := ⟨rfl, rfl, rfl, by decide +kernel, rfl, by decide +kernel, by decide +kernel⟩
theorem sc_check_book : FnScope ["book", "number", "deed"] ["book"] (defScope s_check_book) := ⟨rfl, rfl, rfl, by decide +kernel, rfl, by decide +kernel, by decide +kernel⟩
theorem sc_show_whole : FnScope ["number", "pieces", "piece"] ["number"] (defScope s_show_whole) := ⟨rfl, rfl, rfl, by decide +kernel, rfl, by decide +kernel, by decide +kernel⟩
theorem sc_is_figures : FnScope ["text", "sign"] ["text"] (defScope s_is_figures) := ⟨rfl, rfl, rfl, by decide +kernel, rfl, by decide +kernel, by decide +kernel⟩
theorem sc_read_whole : FnScope ["text", "end", "number", "start"] ["text"] (defScope s_read_whole) := ⟨rfl, rfl, rfl, by decide +kernel, rfl, by decide +kernel, by decide +kernel⟩
theorem sc_show_deed : FnScope ["deed", "part"] ["deed"] (defScope s_show_deed) := ⟨rfl, rfl, rfl, by decide +kernel, rfl, by decide +kernel, by decide +kernel⟩
theorem sc_show_book : FnScope ["book", "deed"] ["book"] (defScope s_show_book) := ⟨rfl, rfl, rfl, by decide +kernel, rfl, by decide +kernel, by decide +kernel⟩
theorem sc_lines_of : FnScope ["text"] ["text"] (defScope s_lines_of) := ⟨rfl, rfl, rfl, by decide +kernel, rfl, by decide +kernel, by decide +kernel⟩
theorem sc_read_part : FnScope ["word", "number"] ["word"] (defScope s_read_part) := ⟨rfl, rfl, rfl, by decide +kernel, rfl, by decide +kernel, by decide +kernel⟩
theorem sc_read_deed : FnScope ["line", "deed", "word"] ["line"] (defScope s_read_deed) := ⟨rfl, rfl, rfl, by decide +kernel, rfl, by decide +kernel, by decide +kernel⟩
theorem sc_read_book : FnScope ["text", "book", "number", "line", "deed"] ["text"] (defScope s_read_book) := ⟨rfl, rfl, rfl, by decide +kernel, rfl, by decide +kernel, by decide +kernel⟩
theorem sc_Lcell : FnScope ["_law_script", "_law_k", "_law_state", "_law_cell_here"] ["_law_script", "_law_k"] (defScope s_Lcell) := ⟨rfl, rfl, rfl, by decide +kernel, rfl, by decide +kernel, by decide +kernel⟩
theorem sc_Lpool : FnScope ["_law_cell_here", "_law_digits"] ["_law_cell_here"] (defScope s_Lpool) := ⟨rfl, rfl, rfl, by decide +kernel, rfl, by decide +kernel, by decide +kernel⟩
theorem sc_Ltake : FnScope ["_law_pool_here", "_law_many", "_law_state", "_law_digit"] ["_law_pool_here", "_law_many"] (defScope s_Ltake) := ⟨rfl, rfl, rfl, by decide +kernel, rfl, by decide +kernel, by decide +kernel⟩
theorem sc_Lnames : FnScope ["_law_pool_here", "_law_many", "_law_words", "_law_at", "_law_step", "_law_letters", "_law_stem", "_law_put", "_law_first", "_law_found", "_law_k", "_law_name"] ["_law_pool_here", "_law_many"] (defScope s_Lnames) := ⟨rfl, rfl, rfl, by decide +kernel, rfl, by decide +kernel, by decide +kernel⟩
theorem sc_Lsort : FnScope ["_law_e", "_law_some", "_law_bases", "_law_python", "_law_at", "_law_words"] ["_law_e"] (defScope s_Lsort) := ⟨rfl, rfl, rfl, by decide +kernel, rfl, by decide +kernel, by decide +kernel⟩
theorem sc_Ldrawn_deed : FnScope ["_law_pool_here", "_law_names_here", "_law_word", "_law_at", "_law_one", "_law_two", "_law_lot", "_law_many"] ["_law_pool_here", "_law_names_here"] (defScope s_Ldrawn_deed) := ⟨rfl, rfl, rfl, by decide +kernel, rfl, by decide +kernel, by decide +kernel⟩
theorem sc_Ldrawn_book : FnScope ["_law_pool_here", "_law_names_here", "_law_many", "_law_turn"] ["_law_pool_here"] (defScope s_Ldrawn_book) := ⟨rfl, rfl, rfl, by decide +kernel, rfl, by decide +kernel, by decide +kernel⟩
theorem sc_Ltext : FnScope ["_law_pages", "_law_deed", "_law_part"] ["_law_pages"] (defScope s_Ltext) := ⟨rfl, rfl, rfl, by decide +kernel, rfl, by decide +kernel, by decide +kernel⟩
theorem sc_Lthere_and_back : FnScope ["_law_pages", "_law_verse", "_law_told", "_law_one"] ["_law_pages"] (defScope s_Lthere_and_back) := ⟨rfl, rfl, rfl, by decide +kernel, rfl, by decide +kernel, by decide +kernel⟩
theorem sc_Lrefused : FnScope ["_law_matter", "_law_number", "_law_e"] ["_law_matter", "_law_number"] (defScope s_Lrefused) := ⟨rfl, rfl, rfl, by decide +kernel, rfl, by decide +kernel, by decide +kernel⟩
theorem sc_Lothers_right : FnScope ["_law_pool_here", "_law_pages", "_law_some", "_law_odd", "_law_at", "_law_matters", "_law_matter"] ["_law_pool_here", "_law_pages"] (defScope s_Lothers_right) := ⟨rfl, rfl, rfl, by decide +kernel, rfl, by decide +kernel, by decide +kernel⟩
theorem sc_law : FnScope ["_law_script", "_law_k", "_law_pool_here", "_law_pages", "_law_shown"] ["_law_script"] (defScope s_law) := ⟨rfl, rfl, rfl, by decide +kernel, rfl, by decide +kernel, by decide +kernel⟩
abbrev s_NoBook : Stmt := top 6
theorem ini_NoBook : PySem.SupX.Ini (inClass s_NoBook 0) "number" "number" where
  body := by
    refine ⟨_, _, _, _, _, _, _, _, _, _, _, _, ?_, by with_unfolding_all rfl⟩
    with_unfolding_all rfl
  par0 := ⟨_, _, by with_unfolding_all rfl⟩
  kd := by with_unfolding_all rfl
  co := by with_unfolding_all rfl
  ge := by with_unfolding_all rfl
  cel := by decide +kernel
  sS := by with_unfolding_all rfl
  sC := by with_unfolding_all rfl
  sI := by with_unfolding_all rfl
  sP := by with_unfolding_all rfl
  ne := by decide
  db := by decide
  bnd := fun _ _ _ _ _ _ _ _ _ _ _ => .of_eq (by with_unfolding_all rfl)
structure Adr where
  f_is_whole : Addr
  d_is_whole : FuncData
  f_is_name : Addr
  d_is_name : FuncData
  f_is_holder : Addr
  d_is_holder : FuncData
  f_is_measure : Addr
  d_is_measure : FuncData
  f_is_deed : Addr
  d_is_deed : FuncData
  f_is_short_deed : Addr
  d_is_short_deed : FuncData
  f_is_deed_between_two : Addr
  d_is_deed_between_two : FuncData
  f_check_book : Addr
  d_check_book : FuncData
  f_show_whole : Addr
  d_show_whole : FuncData
  f_is_figures : Addr
  d_is_figures : FuncData
  f_read_whole : Addr
  d_read_whole : FuncData
  f_show_deed : Addr
  d_show_deed : FuncData
  f_show_book : Addr
  d_show_book : FuncData
  f_lines_of : Addr
  d_lines_of : FuncData
  f_read_part : Addr
  d_read_part : FuncData
  f_read_deed : Addr
  d_read_deed : FuncData
  f_read_book : Addr
  d_read_book : FuncData
  f_Lcell : Addr
  d_Lcell : FuncData
  f_Lpool : Addr
  d_Lpool : FuncData
  f_Ltake : Addr
  d_Ltake : FuncData
  f_Lnames : Addr
  d_Lnames : FuncData
  f_Lsort : Addr
  d_Lsort : FuncData
  f_Ldrawn_deed : Addr
  d_Ldrawn_deed : FuncData
  f_Ldrawn_book : Addr
  d_Ldrawn_book : FuncData
  f_Ltext : Addr
  d_Ltext : FuncData
  f_Lthere_and_back : Addr
  d_Lthere_and_back : FuncData
  f_Lrefused : Addr
  d_Lrefused : FuncData
  f_Lothers_right : Addr
  d_Lothers_right : FuncData
  t_CHEST : Tok
  t_MOST_LETTERS : Tok
  t_MOST_MEASURES : Tok
  t_MOST_DEEDS : Tok
  t_FIGURES_AT_ONCE : Tok
  t_LIMIT_AT_ONCE : Tok
  c_ThankError : Addr
  c_LostError : Addr
  c_StandError : Addr
  c_NoNumber : Addr
  c_NoDeed : Addr
  c_NoBook : Addr
  i_NoBook : Addr
  c_NoWeb : Addr
  c_NoNames : Addr
  c_NoAmount : Addr
  c_NoMany : Addr
  c_NoText : Addr
  c_NoRow : Addr
  c_NoName : Addr
  c_NoLot : Addr
  c_NoPlace : Addr
  c_NoBack : Addr
  c_Fails : Addr
  c_NoMates : Addr
  c_TooMany : Addr
/-- what the top has left -/
structure Tx (P : Program) (K : PySem.W.Frag) (mg : Str → Option Value) (A : Adr) : Prop where
  g_ThankError : mg "ThankError" = some (.ref A.c_ThankError)
  g_LostError : mg "LostError" = some (.ref A.c_LostError)
  g_StandError : mg "StandError" = some (.ref A.c_StandError)
  g_NoNumber : mg "NoNumber" = some (.ref A.c_NoNumber)
  g_NoDeed : mg "NoDeed" = some (.ref A.c_NoDeed)
  g_NoBook : mg "NoBook" = some (.ref A.c_NoBook)
  g_NoWeb : mg "NoWeb" = some (.ref A.c_NoWeb)
  g_NoNames : mg "NoNames" = some (.ref A.c_NoNames)
  g_NoAmount : mg "NoAmount" = some (.ref A.c_NoAmount)
  g_NoMany : mg "NoMany" = some (.ref A.c_NoMany)
  g_NoText : mg "NoText" = some (.ref A.c_NoText)
  g_NoRow : mg "NoRow" = some (.ref A.c_NoRow)
  g_NoName : mg "NoName" = some (.ref A.c_NoName)
  g_NoLot : mg "NoLot" = some (.ref A.c_NoLot)
  g_NoPlace : mg "NoPlace" = some (.ref A.c_NoPlace)
  g_NoBack : mg "NoBack" = some (.ref A.c_NoBack)
  g_Fails : mg "Fails" = some (.ref A.c_Fails)
  g_NoMates : mg "NoMates" = some (.ref A.c_NoMates)
  g_TooMany : mg "TooMany" = some (.ref A.c_TooMany)
  sup_NoBook : PySem.SupX.Txt P K mg "NoBook" (inClass s_NoBook 0) "number" "number" A.c_NoBook A.i_NoBook
  err_NoBook : ErrC K A.c_NoBook
  ko_NoBook_NoNumber : PySem.W.kitOne K (.ref A.c_NoBook) (.ref A.c_NoNumber) = some false
  ko_NoBook_NoDeed : PySem.W.kitOne K (.ref A.c_NoBook) (.ref A.c_NoDeed) = some false
  ko_NoBook_NoBook : PySem.W.kitOne K (.ref A.c_NoBook) (.ref A.c_NoBook) = some true
  ko_NoBook_NoWeb : PySem.W.kitOne K (.ref A.c_NoBook) (.ref A.c_NoWeb) = some false
  ko_NoBook_NoNames : PySem.W.kitOne K (.ref A.c_NoBook) (.ref A.c_NoNames) = some false
  ko_NoBook_NoAmount : PySem.W.kitOne K (.ref A.c_NoBook) (.ref A.c_NoAmount) = some false
  ko_NoBook_NoMany : PySem.W.kitOne K (.ref A.c_NoBook) (.ref A.c_NoMany) = some false
  ko_NoBook_NoText : PySem.W.kitOne K (.ref A.c_NoBook) (.ref A.c_NoText) = some false
  ko_NoBook_NoRow : PySem.W.kitOne K (.ref A.c_NoBook) (.ref A.c_NoRow) = some false
  ko_NoBook_NoName : PySem.W.kitOne K (.ref A.c_NoBook) (.ref A.c_NoName) = some false
  ko_NoBook_NoLot : PySem.W.kitOne K (.ref A.c_NoBook) (.ref A.c_NoLot) = some false
  ko_NoBook_NoPlace : PySem.W.kitOne K (.ref A.c_NoBook) (.ref A.c_NoPlace) = some false
  ko_NoBook_NoBack : PySem.W.kitOne K (.ref A.c_NoBook) (.ref A.c_NoBack) = some false
  ko_NoBook_Fails : PySem.W.kitOne K (.ref A.c_NoBook) (.ref A.c_Fails) = some false
  ko_NoBook_NoMates : PySem.W.kitOne K (.ref A.c_NoBook) (.ref A.c_NoMates) = some false
  ko_NoBook_TooMany : PySem.W.kitOne K (.ref A.c_NoBook) (.ref A.c_TooMany) = some false
  ko_NoBook_ThankError : PySem.W.kitOne K (.ref A.c_NoBook) (.ref A.c_ThankError) = some true
  ko_NoBook_LostError : PySem.W.kitOne K (.ref A.c_NoBook) (.ref A.c_LostError) = some false
  ko_NoBook_StandError : PySem.W.kitOne K (.ref A.c_NoBook) (.ref A.c_StandError) = some false
  ko_NoBook_ValueError : PySem.W.kitOne K (.ref A.c_NoBook) (.type "ValueError") = some true
  ko_NoBook_LookupError : PySem.W.kitOne K (.ref A.c_NoBook) (.type "LookupError") = some false
  ko_NoBook_ArithmeticError : PySem.W.kitOne K (.ref A.c_NoBook) (.type "ArithmeticError") = some false
  ex_NoBook_ThankError : PySem.W.exmOne K (.ref A.c_NoBook) (.ref A.c_ThankError) = some true
  m_ArithmeticError : mg "ArithmeticError" = none
  c_CHEST : mg "CHEST" = some (.str "chest" A.t_CHEST)
  c_FIGURES_AT_ONCE : mg "FIGURES_AT_ONCE" = some (.int 60 A.t_FIGURES_AT_ONCE)
  c_LIMIT_AT_ONCE : mg "LIMIT_AT_ONCE" = some (.int 1000000000000000000000000000000000000000000000000000000000000 A.t_LIMIT_AT_ONCE)
  m_LookupError : mg "LookupError" = none
  c_MOST_DEEDS : mg "MOST_DEEDS" = some (.int 60 A.t_MOST_DEEDS)
  c_MOST_LETTERS : mg "MOST_LETTERS" = some (.int 8 A.t_MOST_LETTERS)
  c_MOST_MEASURES : mg "MOST_MEASURES" = some (.int 9999 A.t_MOST_MEASURES)
  m_ValueError : mg "ValueError" = none
  m_abs : mg "abs" = none
  m_all : mg "all" = none
  m_bool : mg "bool" = none
  m_divmod : mg "divmod" = none
  m_enumerate : mg "enumerate" = none
  m_int : mg "int" = none
  m_isinstance : mg "isinstance" = none
  m_len : mg "len" = none
  m_list : mg "list" = none
  m_max : mg "max" = none
  m_min : mg "min" = none
  m_range : mg "range" = none
  m_repr : mg "repr" = none
  m_sorted : mg "sorted" = none
  m_str : mg "str" = none
  m_tuple : mg "tuple" = none
  F_is_whole : Fun K "is_whole" "is_whole" s_is_whole A.f_is_whole A.d_is_whole
  g_is_whole : mg "is_whole" = some (.ref A.f_is_whole)
  b_is_whole : Binds K A.d_is_whole ["thing"] []
  F_is_name : Fun K "is_name" "is_name" s_is_name A.f_is_name A.d_is_name
  g_is_name : mg "is_name" = some (.ref A.f_is_name)
  b_is_name : Binds K A.d_is_name ["thing"] []
  F_is_holder : Fun K "is_holder" "is_holder" s_is_holder A.f_is_holder A.d_is_holder
  g_is_holder : mg "is_holder" = some (.ref A.f_is_holder)
  b_is_holder : Binds K A.d_is_holder ["thing"] []
  F_is_measure : Fun K "is_measure" "is_measure" s_is_measure A.f_is_measure A.d_is_measure
  g_is_measure : mg "is_measure" = some (.ref A.f_is_measure)
  b_is_measure : Binds K A.d_is_measure ["thing"] []
  F_is_deed : Fun K "is_deed" "is_deed" s_is_deed A.f_is_deed A.d_is_deed
  g_is_deed : mg "is_deed" = some (.ref A.f_is_deed)
  b_is_deed : Binds K A.d_is_deed ["thing"] []
  F_is_short_deed : Fun K "is_short_deed" "is_short_deed" s_is_short_deed A.f_is_short_deed A.d_is_short_deed
  g_is_short_deed : mg "is_short_deed" = some (.ref A.f_is_short_deed)
  b_is_short_deed : Binds K A.d_is_short_deed ["row"] []
  F_is_deed_between_two : Fun K "is_deed_between_two" "is_deed_between_two" s_is_deed_between_two A.f_is_deed_between_two A.d_is_deed_between_two
  g_is_deed_between_two : mg "is_deed_between_two" = some (.ref A.f_is_deed_between_two)
  b_is_deed_between_two : Binds K A.d_is_deed_between_two ["row"] []
  F_check_book : Fun K "check_book" "check_book" s_check_book A.f_check_book A.d_check_book
  g_check_book : mg "check_book" = some (.ref A.f_check_book)
  b_check_book : Binds K A.d_check_book ["book"] []
  F_show_whole : Fun K "show_whole" "show_whole" s_show_whole A.f_show_whole A.d_show_whole
  g_show_whole : mg "show_whole" = some (.ref A.f_show_whole)
  b_show_whole : Binds K A.d_show_whole ["number"] []
  F_is_figures : Fun K "is_figures" "is_figures" s_is_figures A.f_is_figures A.d_is_figures
  g_is_figures : mg "is_figures" = some (.ref A.f_is_figures)
  b_is_figures : Binds K A.d_is_figures ["text"] []
  F_read_whole : Fun K "read_whole" "read_whole" s_read_whole A.f_read_whole A.d_read_whole
  g_read_whole : mg "read_whole" = some (.ref A.f_read_whole)
  b_read_whole : Binds K A.d_read_whole ["text"] []
  F_show_deed : Fun K "show_deed" "show_deed" s_show_deed A.f_show_deed A.d_show_deed
  g_show_deed : mg "show_deed" = some (.ref A.f_show_deed)
  b_show_deed : Binds K A.d_show_deed ["deed"] []
  F_show_book : Fun K "show_book" "show_book" s_show_book A.f_show_book A.d_show_book
  g_show_book : mg "show_book" = some (.ref A.f_show_book)
  b_show_book : Binds K A.d_show_book ["book"] []
  F_lines_of : Fun K "lines_of" "lines_of" s_lines_of A.f_lines_of A.d_lines_of
  g_lines_of : mg "lines_of" = some (.ref A.f_lines_of)
  b_lines_of : Binds K A.d_lines_of ["text"] []
  F_read_part : Fun K "read_part" "read_part" s_read_part A.f_read_part A.d_read_part
  g_read_part : mg "read_part" = some (.ref A.f_read_part)
  b_read_part : Binds K A.d_read_part ["word"] []
  F_read_deed : Fun K "read_deed" "read_deed" s_read_deed A.f_read_deed A.d_read_deed
  g_read_deed : mg "read_deed" = some (.ref A.f_read_deed)
  b_read_deed : Binds K A.d_read_deed ["line"] []
  F_read_book : Fun K "read_book" "read_book" s_read_book A.f_read_book A.d_read_book
  g_read_book : mg "read_book" = some (.ref A.f_read_book)
  b_read_book : Binds K A.d_read_book ["text"] []
  F_Lcell : Fun K "_law_cell" "_law_cell" s_Lcell A.f_Lcell A.d_Lcell
  g_Lcell : mg "_law_cell" = some (.ref A.f_Lcell)
  b_Lcell : Binds K A.d_Lcell ["_law_script", "_law_k"] []
  F_Lpool : Fun K "_law_pool" "_law_pool" s_Lpool A.f_Lpool A.d_Lpool
  g_Lpool : mg "_law_pool" = some (.ref A.f_Lpool)
  b_Lpool : Binds K A.d_Lpool ["_law_cell_here"] []
  F_Ltake : Fun K "_law_take" "_law_take" s_Ltake A.f_Ltake A.d_Ltake
  g_Ltake : mg "_law_take" = some (.ref A.f_Ltake)
  b_Ltake : Binds K A.d_Ltake ["_law_pool_here", "_law_many"] []
  F_Lnames : Fun K "_law_names" "_law_names" s_Lnames A.f_Lnames A.d_Lnames
  g_Lnames : mg "_law_names" = some (.ref A.f_Lnames)
  b_Lnames : Binds K A.d_Lnames ["_law_pool_here", "_law_many"] []
  F_Lsort : Fun K "_law_sort" "_law_sort" s_Lsort A.f_Lsort A.d_Lsort
  g_Lsort : mg "_law_sort" = some (.ref A.f_Lsort)
  b_Lsort : Binds K A.d_Lsort ["_law_e"] []
  F_Ldrawn_deed : Fun K "_law_drawn_deed" "_law_drawn_deed" s_Ldrawn_deed A.f_Ldrawn_deed A.d_Ldrawn_deed
  g_Ldrawn_deed : mg "_law_drawn_deed" = some (.ref A.f_Ldrawn_deed)
  b_Ldrawn_deed : Binds K A.d_Ldrawn_deed ["_law_pool_here", "_law_names_here"] []
  F_Ldrawn_book : Fun K "_law_drawn_book" "_law_drawn_book" s_Ldrawn_book A.f_Ldrawn_book A.d_Ldrawn_book
  g_Ldrawn_book : mg "_law_drawn_book" = some (.ref A.f_Ldrawn_book)
  b_Ldrawn_book : Binds K A.d_Ldrawn_book ["_law_pool_here"] []
  F_Ltext : Fun K "_law_text" "_law_text" s_Ltext A.f_Ltext A.d_Ltext
  g_Ltext : mg "_law_text" = some (.ref A.f_Ltext)
  b_Ltext : Binds K A.d_Ltext ["_law_pages"] []
  F_Lthere_and_back : Fun K "_law_there_and_back" "_law_there_and_back" s_Lthere_and_back A.f_Lthere_and_back A.d_Lthere_and_back
  g_Lthere_and_back : mg "_law_there_and_back" = some (.ref A.f_Lthere_and_back)
  b_Lthere_and_back : Binds K A.d_Lthere_and_back ["_law_pages"] []
  F_Lrefused : Fun K "_law_refused" "_law_refused" s_Lrefused A.f_Lrefused A.d_Lrefused
  g_Lrefused : mg "_law_refused" = some (.ref A.f_Lrefused)
  b_Lrefused : Binds K A.d_Lrefused ["_law_matter", "_law_number"] []
  F_Lothers_right : Fun K "_law_others_right" "_law_others_right" s_Lothers_right A.f_Lothers_right A.d_Lothers_right
  g_Lothers_right : mg "_law_others_right" = some (.ref A.f_Lothers_right)
  b_Lothers_right : Binds K A.d_Lothers_right ["_law_pool_here", "_law_pages"] []
  kb0_show_book_book : KBn K A.d_show_book ["book"] 0 ["book"] (fun _ zs => zs) (fun _ zs => zs)
  kb0_read_book_text : KBn K A.d_read_book ["text"] 0 ["text"] (fun _ zs => zs) (fun _ zs => zs)
local macro_rules | `(tactic| walk_at "w") => `(tactic| first
  | with_reducible refine wSeq ?_
  | with_reducible refine wAsg ?_
  | with_reducible refine wOp ?_
  | with_reducible refine wVar (by with_unfolding_all exact rfl) ?_
  | with_reducible refine wC ?_
  | with_reducible refine wRet ?_
  | with_reducible refine wIfS ?_
  | with_reducible refine wI0 ?_
  | with_reducible refine wCons ?_
  | with_reducible refine wNil ?_
  | with_reducible refine wCB ?_
  | with_reducible refine wCall ?_
  | with_reducible refine wCallN ?_
  | with_reducible refine wTest ?_
  | with_reducible refine wB ?_
  | with_reducible refine exBl ?_
  | with_reducible refine exInt ?_
  | with_reducible refine exI1 ?_
  | with_reducible refine exI2 ?_
  | with_reducible refine exStr ?_
  | with_reducible refine wSlS (by with_unfolding_all walk_at "sl") ?_
  | with_reducible refine anSum (by with_unfolding_all walk_at "sl") ?_
  | with_reducible refine exSS ?_
  | with_reducible refine exCS ?_
  | with_reducible refine wLc ?_
  | with_reducible refine wFor ?_
  | with_reducible refine wWhile ?_
  | with_reducible refine wOrT ?_
  | with_reducible refine wIList ?_
  | with_reducible refine wITup ?_
  | with_reducible refine wIStr ?_
  | with_reducible refine wIRng1 ?_
  | with_reducible refine anSz (by with_unfolding_all exact Nat.le_of_ble_eq_true rfl) ?_
  | with_reducible refine anStr ?_
  | with_reducible refine wName ?_
  | with_reducible refine iteT ?_
  | with_reducible refine iteF ?_
  | with_reducible refine iteNT ?_
  | with_reducible refine iteNF ?_
  | with_reducible refine wIsiS ?_
  | with_reducible refine wIsiB ?_
  | with_reducible refine wAnd ?_
  | with_reducible refine wOr ?_
  | with_reducible refine wNot ?_
  | with_reducible refine wAndV ?_
  | with_reducible refine wOrV ?_
  | with_reducible refine wNotV ?_
  | with_reducible refine wIf ?_
  | with_reducible refine wChain ?_
  | with_reducible refine wTup ?_
  | with_reducible refine wLst ?_
  | with_reducible refine wSl ?_
  | with_reducible refine wDnew ?_
  | with_reducible refine wPart ?_
  | with_reducible refine wNoPart ?_
  | with_reducible refine wBM ?_
  | with_reducible refine wBM0 ?_
  | with_reducible refine wM0 ?_
  | with_reducible refine wM1 ?_
  | with_reducible refine wUn ?_
  | with_reducible refine wU ?_
  | with_reducible refine wDrop ?_
  | with_reducible refine wNext ?_
  | with_reducible refine wPar ?_
  | with_reducible refine exTwo ?_
  | with_reducible refine wSub ?_
  | with_reducible refine wGCons ?_
  | with_reducible refine wGNil ?_
  | with_reducible refine wDGet ?_
  | with_reducible refine wDIn ?_
  | with_reducible refine wDNotIn ?_
  | with_reducible refine wPairs ?_
  | with_reducible refine wPairs0 ?_
  | with_reducible refine wPar3 ?_
  | with_reducible refine wCallS ?_
  | with_reducible refine wCallSN ?_
  | with_reducible refine wCallP ?_
  | with_reducible refine wIRng3 ?_
  | with_reducible refine wIEnum ?_
  | with_reducible refine wIEnT ?_
  | with_reducible refine wRevL ?_
  | with_reducible refine exThree ?_
  | ((with_reducible refine wEq ?h1 ?_); (case h1 => exact rfl))
  | ((with_reducible refine wNe ?h1 ?_); (case h1 => exact rfl))
  | with_reducible refine wIxL (SqL.of (by with_unfolding_all assumption)) (by with_unfolding_all exact rfl) ?_
  | with_reducible refine wIxT (SqT.of (by with_unfolding_all assumption)) (by with_unfolding_all exact rfl) ?_
  | with_reducible refine wIxL (SqL.of upd_same) (by with_unfolding_all exact rfl) ?_
  | with_reducible refine wSetL upd_same (by with_unfolding_all exact rfl) ?_
  | with_reducible refine wSetL (by with_unfolding_all assumption) (by with_unfolding_all exact rfl) ?_
  | ((with_reducible refine wI ?h1 ?_); (case h1 => walk_at "wc"))
  | with_reducible refine iteNS (by with_unfolding_all exact rfl) ?_
  | dsimp only [])
local macro_rules | `(tactic| walk_at "ww") => `(tactic| repeat (walk_at "w"))
local macro_rules | `(tactic| walk_at "wc") => `(tactic| first
  | exact wide_mul (by assumption) (by assumption) (by omega) (by omega) (by omega)
  | exact .inl ⟨by omega, by omega⟩
  | exact .inr ⟨by omega, by omega⟩
  | exact ⟨by omega, by omega⟩
  | exact ⟨by decide, by decide⟩
  | exact ⟨by decide, by decide, by decide⟩
  | (show (0 : Int) < _; omega)
  | (show _ ≠ (0 : Int); omega))
local macro_rules | `(tactic| walk_at "sl") => `(tactic| (refine sz6 ?_; (try simp only [app_len]); omega))
local macro_rules | `(tactic| walk_at "lk") => `(tactic| first | assumption | exact Ex.get (by assumption) (by walk_at "lk"))
local macro_rules | `(tactic| walk_at "things") => `(tactic| ((repeat' (first | exact List.forall_mem_nil _ | refine List.forall_mem_append.mpr ⟨?_, ?_⟩ | refine List.forall_mem_cons.mpr ⟨?_, ?_⟩)) <;> first
  | exact Thing.n | exact Thing.b | exact Thing.i | exact Thing.s (by decide +kernel) | exact Thing.t (by walk_at "lk") | exact Thing.l (by walk_at "lk") | exact Thing.d (by walk_at "lk")))
section
variable {P : Program} {w : World} {K : PySem.W.Frag} {mg : Str → Option Value} {base : Heap} {A : Adr}
/-- a pool: a state, digits, how many were taken -/
def Pool (H : Hp) (p : Addr) : Prop := ∃ s g n : Int, H p = some (.lst [.int s, .int g, .int n]) ∧ 0 ≤ s ∧ s < 2147483423 ∧ 0 ≤ g
theorem Pool.ne {H : Hp} {p q : Addr} (h : Pool H p) (hq : H q = none) : q ≠ p := fun e => by
  obtain ⟨_, _, _, h, _⟩ := h
  rw [← e, hq] at h
  cases h
theorem Pool.upd {H : Hp} {p q : Addr} {o : HO} (h : Pool H p) (n : q ≠ p) : Pool (upd H q o) p := by
  obtain ⟨s, g, m, h, r⟩ := h
  exact ⟨s, g, m, (upd_ne n.symm).trans h, r⟩
theorem Pool.ex {H H' : Hp} {p : Addr} (h : Pool H p) (e : Ex H H') : Pool H' p := by
  obtain ⟨s, g, m, h, r⟩ := h
  exact ⟨s, g, m, e _ _ h, r⟩
def spTake : Sp := fun vs H Q _ => ∃ (p : Addr) (m : Int), vs = [.ref p, .int m] ∧ Pool H p ∧ 0 < m ∧ m < 1073741824 ∧ ∀ d H', 0 ≤ d → d < m → Kp p H H' → Pool H' p → Q (.int d) H'
def spPool : Sp := fun vs H Q _ => ∃ c : Int, vs = [.int c] ∧ ∀ p H', H p = none → Ex H H' → Pool H' p → Q (.ref p) H'
def spCell (K : PySem.W.Frag) : Sp := fun vs H Q _ => ∃ (a : Addr) (ns : List Int) (k : Int), vs = [.ref a, .int k] ∧ SqL K H a (ns.map V.int) ∧ ns.length ≤ 63 ∧ 0 ≤ k ∧ k ≤ 63 ∧ ∀ c H', Ex H H' → Q (.int c) H'
theorem ok_Ltake (T : Tx P K mg A) : FnOk P w K mg base CX0 1 A.f_Ltake A.d_Ltake ["_law_pool_here", "_law_many"] spTake := by
  refine T.F_Ltake.ok sc_Ltake (fun vs H Q E h => ?_) (fun cdv A' outer s H vs Q E hr h => ?_)
  · obtain ⟨p, m, rfl, _⟩ := h
    rfl
  · obtain ⟨p, m, rfl, ⟨s, g, n, hp, hs0, hs1, hg⟩, hm0, hm1, k⟩ := h
    refine ⟨_, (pss_cons (ps_asg (pe_op op_add (pe_ix (ix_listV (K := K) rfl) (pv 0) pe_int (fun _ _ => rfl)) pe_int) (pg_sub (pv 0) pe_int set_list))
    (pss_cons (ps_set (i := 2) sc_Ltake.nd rfl (Or.inl rfl) (pe_ix (ix_listV (K := K) rfl) (pv 0) pe_int (fun _ _ => rfl)))
    (pss_cons (ps_asg (pe_op op_mod (pe_op op_add (pe_op op_mul (pv 2) (pe_op op_add (pe_op op_mod (pv 2) pe_int) pe_int)) (pe_op op_mul pe_int (pe_ix (ix_listV (K := K) rfl) (pv 0) pe_int (fun _ _ => rfl)))) pe_int) (pg_sub (pv 0) pe_int set_list))
    (pss_cons (ps_if (pt_cmpR op_gt (pe_ix (ix_listV (K := K) rfl) (pv 0) pe_int (fun _ _ => rfl)) pe_int (nomark _))
    (pss_cons (ps_asg (pe_callB call_divmod (by rfl) T.m_divmod (by decide +kernel) (pa_cons (pe_ix (ix_listV (K := K) rfl) (pv 0) pe_int (fun _ _ => rfl)) (pa_cons (pv 1) pa_nil))) (pg_tupV (K := K) (n := 2) rfl rfl (pgs_cons (pg_sub (pv 0) pe_int set_list) (pgs_cons (pg_name (i := 3) sc_Ltake.nd rfl (Or.inl rfl)) pgs_nil)) rfl))
      (pss_one (ps_ret (pv 3))))
    pss_nil)
    (pss_one (ps_ret (pe_op op_mod (pe_op op_fdiv (pe_ix (ix_listV (K := K) rfl) (pv 0) pe_int (fun _ _ => rfl)) pe_int) (pv 1)))))))), ?_⟩
    walk_at "ww"
    have q1 : ∀ x : Int, 0 ≤ x % 2147483423 ∧ x % 2147483423 < 2147483423 := fun x => by omega
    have keep : ∀ (o : HO) (H1 : Hp), Kp p H H1 → Kp p H (upd H1 p o) := fun o H1 e => e.trans Kp.set
    refine ite2 (fun c => ?_) (fun c => ?_)
    · walk_at "ww"
      refine ⟨⟨hm0, hm1⟩, fun t nt => ?_⟩
      have ntp : p ≠ t := fun e => by
        rw [← e, upd_same] at nt
        cases nt
      refine wGTup (SqT.of upd_same) rfl ?_
      walk_at "ww"
      refine wSetL ((upd_ne ntp).trans upd_same) rfl ?_
      walk_at "ww"
      refine k _ _ (Int.emod_nonneg _ (by omega)) (Int.emod_lt_of_pos _ hm0) ?_ ⟨_, _, _, upd_same, (q1 _).1, (q1 _).2, Int.ediv_nonneg hg (by omega)⟩
      refine Kp.trans (Kp.trans (keep _ _ Kp.set) (Kp.new nt)) Kp.set
    · walk_at "ww"
      exact k _ _ (Int.emod_nonneg _ (by omega)) (Int.emod_lt_of_pos _ hm0) (keep _ _ Kp.set) ⟨_, _, _, upd_same, (q1 _).1, (q1 _).2, hg⟩
theorem ok_Lpool (T : Tx P K mg A) : FnOk P w K mg base CX0 1 A.f_Lpool A.d_Lpool ["_law_cell_here"] spPool := by
  refine T.F_Lpool.ok sc_Lpool (fun vs H Q E h => ?_) (fun cdv A' outer s H vs Q E hr h => ?_)
  · obtain ⟨c, rfl, _⟩ := h
    rfl
  · obtain ⟨c, rfl, k⟩ := h
    refine ⟨_, (pss_cons (ps_set (i := 1) sc_Lpool.nd rfl (Or.inl rfl) pe_int)
    (pss_cons (ps_if (PW.pt (pw_or (pt_cmpR op_lt (pv 0) pe_int (nomark _)) (pw_or1 (pt_cmpR op_ge (pv 0) (pe_op op_pow pe_int pe_int) (nomark _)))))
    (pss_one (ps_set (i := 1) sc_Lpool.nd rfl (Or.inl rfl) (pe_callB call_abs (by rfl) T.m_abs (by decide +kernel) (pa_cons (pv 0) pa_nil))))
    pss_nil)
    (pss_one (ps_ret (pe_lst (pa_cons (pe_op op_mod (pv 0) pe_int) (pa_cons (pv 1) (pa_cons pe_int pa_nil)))))))), ?_⟩
    have fin : ∀ g : Int, 0 ≤ g → ∀ p, H p = none → Q (.ref p) (upd H p (.lst [.int (c % 2147483423), .int g, .int 0])) := fun g hg p hp =>
      k p _ hp (Ex.new hp) ⟨_, _, _, upd_same, by omega, by omega, hg⟩
    walk_at "ww"
    refine ite2 (fun c1 => ?_) (fun c1 => ?_)
    · walk_at "ww"
      exact fun p hp => fin _ (by split <;> omega) p hp
    · walk_at "ww"
      refine ite2 (fun c2 => ?_) (fun c2 => ?_)
      · walk_at "ww"
        exact fun p hp => fin _ (by split <;> omega) p hp
      · walk_at "ww"
        exact fun p hp => fin _ (by omega) p hp
theorem ok_Lcell (T : Tx P K mg A) : FnOk P w K mg base CX0 1 A.f_Lcell A.d_Lcell ["_law_script", "_law_k"] (spCell K) := by
  refine T.F_Lcell.ok sc_Lcell (fun vs H Q E h => ?_) (fun cdv A' outer s H vs Q E hr h => ?_)
  · obtain ⟨a, ns, c, rfl, _⟩ := h
    rfl
  · obtain ⟨a, ns, c, rfl, hS, hlen, h0, h63, k⟩ := h
    refine ⟨_, (pss_cons (ps_if (pt_cmpR op_lt (pv 1) (pe_callB (call_lenV (K := K) rfl) (by rfl) T.m_len (by decide +kernel) (pa_cons (pv 0) pa_nil)) (nomark _))
    (pss_one (ps_ret (pe_ix (ix_listV (K := K) rfl) (pv 0) (pv 1) (fun _ _ => rfl))))
    pss_nil)
    (pss_cons (ps_set (i := 2) sc_Lcell.nd rfl (Or.inl rfl) (pe_op op_mod (pe_op op_mul pe_int (pe_op op_add (pe_op op_add (pe_op op_mul (pv 1) (pv 1)) (pe_op op_mul pe_int (pv 1))) pe_int)) pe_int))
    (pss_cons (ps_for PassesOwn.never rfl (pi_listV (K := K) rfl (pe_slice (sl_listV (K := K) rfl) (pv 0) po_none (po_some pe_int))) (pg_name (i := 3) sc_Lcell.nd rfl (Or.inl rfl))
    (pss_one (ps_set (i := 2) sc_Lcell.nd rfl (Or.inl rfl) (pe_op op_mod (pe_op op_add (pe_op op_mul (pv 2) pe_int) (pv 3)) pe_int))))
    (pss_one (ps_ret (pv 2)))))), ?_⟩
    walk_at "ww"
    refine wLenL hS ?_
    walk_at "ww"
    refine ite2 (fun c1 => ?_) (fun c1 => ?_)
    · walk_at "ww"
      have h1 : c.toNat < ns.length := by
        have := of_decide_eq_true c1
        rw [List.length_map] at this
        omega
      refine wIxL hS (at_of (j := c.toNat) (by omega) (by rw [List.getElem?_map, List.getElem?_eq_getElem h1]; rfl)) ?_
      exact k _ _ (Ex.refl H)
    · walk_at "ww"
      refine wSlL hS fun l hl => ?_
      walk_at "ww"
      refine exSq (SqL.of upd_same) ?_
      have el : cutV (ns.map V.int) none (some 3) = (ns.take 3).map V.int := by
        unfold cutV
        rw [HT.sIx_none, show HT.sIx (ns.map V.int).length (ns.map V.int).length (some 3) = min 3 (ns.map V.int).length from HT.sIx_nat _ _ 3, List.map_take]
        simp
      rw [el]
      refine for_list (K := K) (a := l) (xs := (ns.take 3).map V.int) (fun i σ H2 => ∃ (s : Int) (v : Option V), σ = [some (.ref a), some (.int c), some (.int s), v] ∧ 0 ≤ s ∧ s < 2147483423 ∧ Ex (upd H l (.lst ((ns.take 3).map V.int))) H2)
        ⟨_, none, rfl, by omega, by omega, Ex.refl _⟩ (fun i σ H2 _ ⟨_, _, _, _, _, e⟩ => SqL.of (e _ _ upd_same)) ?_ ?_
      · rintro i y σ H2 hi ⟨s, v, rfl, hs0, hs1, e⟩
        obtain ⟨z, rfl⟩ : ∃ z, y = V.int z := by
          rw [List.getElem?_map] at hi
          obtain ⟨z, _, hz⟩ := Option.map_eq_some_iff.mp hi
          exact ⟨z, hz.symm⟩
        walk_at "ww"
        exact ⟨_, _, rfl, by omega, by omega, e⟩
      · rintro σ H2 ⟨s, v, rfl, hs0, hs1, e⟩
        walk_at "ww"
        exact k _ _ ((Ex.new hl).trans e)
def nameS (z : Str) : Bool := decide (1 ≤ z.length) && decide (z.length ≤ 8) && !decide (z = ("chest" : Str)) && z.cps.toList.all fun c => decide (97 ≤ c ∧ c ≤ 122)
def nameV : V → Bool
  | .str z => nameS z
  | _ => false
def spName (K : PySem.W.Frag) : Sp := fun vs H Q _ => ∃ v, vs = [v] ∧ Thing K H v ∧ ∀ H', Ex H H' → Q (.bl (nameV v)) H'
theorem map_bl {ys : List V} {z : Str} {f : Nat → Bool} (hl : ys.length = z.cps.size) (h : ∀ (j : Nat) y, ys[j]? = some y → ∃ c, z.cps[j]? = some c ∧ y = .bl (f c)) : ys = (z.cps.toList.map f).map V.bl := by
  refine List.ext_getElem? fun j => ?_
  cases e : ys[j]? with
  | none =>
    rw [List.getElem?_eq_none_iff] at e
    rw [List.map_map, List.getElem?_map, List.getElem?_eq_none (by rw [Array.length_toList]; omega)]
    rfl
  | some y =>
    obtain ⟨c, hc, rfl⟩ := h j y e
    rw [List.map_map, List.getElem?_map, Array.getElem?_toList, hc]
    rfl
theorem lt_one (a c : Nat) : decide (([c] : List Nat) < [a]) = decide (c < a) := by
  by_cases h : c < a
  · rw [decide_eq_true h, decide_eq_true]
    exact List.Lex.rel h
  · rw [decide_eq_false h, decide_eq_false]
    intro q
    cases q with
    | rel q => exact h q
    | cons q => cases q
theorem name_chest {z : Str} (h : decide (V.str z = V.str ("chest" : Str)) = true) : nameV (.str z) = false := by
  have e : z = ("chest" : Str) := V.str.inj (of_decide_eq_true h)
  show nameS z = false
  unfold nameS
  rw [decide_eq_true e]
  simp
theorem name_long {z : Str} (h : ¬ z.length ≤ 8) : nameV (.str z) = false := by
  show nameS z = false
  unfold nameS
  rw [decide_eq_false h]
  simp
theorem name_short {z : Str} (h : ¬ 1 ≤ z.length) : nameV (.str z) = false := by
  show nameS z = false
  unfold nameS
  rw [decide_eq_false h]
  simp
theorem name_all {z : Str} (h1 : 1 ≤ z.length) (h2 : z.length ≤ 8) (h3 : ¬ decide (V.str z = V.str ("chest" : Str)) = true) : nameV (.str z) = z.cps.toList.all fun c => decide (97 ≤ c ∧ c ≤ 122) := by
  have h4 : ¬ z = ("chest" : Str) := fun e => h3 (decide_eq_true (by rw [e]))
  show nameS z = _
  unfold nameS
  rw [decide_eq_true h1, decide_eq_true h2, decide_eq_false h4]
  simp
theorem ok_is_name (T : Tx P K mg A) : FnOk P w K mg base CX0 1 A.f_is_name A.d_is_name ["thing"] (spName K) := by
  refine T.F_is_name.ok sc_is_name (fun vs H Q E h => ?_) (fun cdv A' outer s H vs Q E hr h => ?_)
  · obtain ⟨v, rfl, _⟩ := h
    rfl
  · obtain ⟨v, rfl, ⟨⟨n, ty⟩, sz⟩, k⟩ := h
    refine ⟨_, (pss_cons (ps_if (PW.pt (pw_or (pt_not (pt_val (pe_callB (call_isiV (K := K) rfl) (by rfl) T.m_isinstance (by decide +kernel) (pa_cons (pv 0) (pa_cons (pe_bltn (v := .ty "str") (by rfl) T.m_str (by decide +kernel) rfl) pa_nil))))) (pw_or1 (pt_cmpR op_eq (pv 0) (pe_glob (v := .str "chest") rfl T.c_CHEST ⟨_, rfl⟩) (nomark _)))))
    (pss_one (ps_ret pe_bl))
    pss_nil)
    (pss_cons (ps_if (pt_not (pt_chain op_le op_le pe_int (pe_callB (call_lenV (K := K) rfl) (by rfl) T.m_len (by decide +kernel) (pa_cons (pv 0) pa_nil)) (pe_glob (v := .int 8) rfl T.c_MOST_LETTERS ⟨_, rfl⟩)))
    (pss_one (ps_ret pe_bl))
    pss_nil)
    (pss_one (ps_ret (pe_callB (cr_allV (K := K) rfl rfl) (by rfl) T.m_all (by decide +kernel) (pa_cons (pe_lc rfl sc_is_name.nd (g := gName 1) (pi_str (pv 0)) (blkOk_by (own := [("sign", 1)]) (N := ["thing", "sign"]) (sc := defScope s_is_name) (by decide +kernel)) (fun _ _ _ _ _ => (pg_name (i := 1) sc_is_name.nd rfl (Or.inl rfl))) (fun _ _ _ _ _ => pts_nil) (fun _ _ _ _ _ => (pe_chain op_le_str op_le_str pe_str (pv 1) pe_str))) pa_nil)))))), ?_⟩
    walk_at "ww"
    by_cases hv : isStr v = true
    · obtain ⟨z, rfl⟩ : ∃ z, v = .str z := by
        cases v <;> first | exact ⟨_, rfl⟩ | cases hv
      have hz : z.length ≤ sizeLine := sz6 (by have := sz z rfl; omega)
      walk_at "ww"
      refine ite2 (fun c1 => ?_) (fun c1 => ?_)
      · walk_at "ww"
        rw [show false = nameV (.str z) from (name_chest c1).symm]
        exact k H (Ex.refl H)
      · walk_at "ww"
        refine wLenS hz ?_
        walk_at "ww"
        refine ite2 (fun c2 => ?_) (fun c2 => ?_)
        · walk_at "ww"
          refine ite2 (fun c3 => ?_) (fun c3 => ?_)
          · walk_at "ww"
            rw [show false = nameV (.str z) from (name_long (by simp at c3; omega)).symm]
            exact k H (Ex.refl H)
          · walk_at "ww"
            intro D hD
            refine lcStr (fun H' => Ex H H') (fun i y _ => ∃ c, z.cps[i]? = some c ∧ y = .bl (decide (97 ≤ c ∧ c ≤ 122))) (by have := sz z rfl; show z.length ≤ _; omega) (fun _ => rfl) (Ex.new hD) (fun i c hc H' acc e hD' hl hR => ?_) (fun H' ys e hD' hl hR => ?_)
            · have hi : i ≤ 100000 := by
                have h1 := (Array.getElem?_eq_some_iff.mp hc).1
                have h2 : z.cps.size ≤ 1000 := sz z rfl
                omega
              have ea : (("a" : Str)).cps.toList = [97] := by decide +kernel
              have ez : (("z" : Str)).cps.toList = [122] := by decide +kernel
              walk_at "ww"
              rw [ea, lt_one]
              refine ite2 (fun d1 => ?_) (fun d1 => ?_)
              · walk_at "ww"
                refine lcAdd hD' hl hi (e.mut hD) hR ⟨c, hc, ?_⟩
                rw [ez]
                show V.bl (!decide (([122] : List Nat) < [c])) = _
                rw [lt_one]
                simp only [Bool.not_eq_true', decide_eq_false_iff_not] at d1
                congr 1
                rw [Bool.eq_iff_iff]
                simp
                omega
              · refine lcAdd hD' hl hi (e.mut hD) hR ⟨c, hc, ?_⟩
                simp only [Bool.not_eq_true', decide_eq_false_iff_not, Classical.not_not] at d1
                rw [decide_eq_false (by omega)]
            · have em := map_bl hl hR
              subst em
              refine wAll (SqL.of hD') ?_
              rw [name_all (by have := of_decide_eq_true c2; omega) (by simp at c3; omega) c1] at k
              rw [List.all_map] at *
              exact k H' e
        · walk_at "ww"
          rw [show false = nameV (.str z) from (name_short (by simp at c2; omega)).symm]
          exact k H (Ex.refl H)
    · have hf : isStr v = false := by simpa using hv
      refine wIsi ty (ty.str_is.trans (by rw [hf])) ?_
      walk_at "ww"
      have e : nameV v = false := by
        cases v <;> first | rfl | cases hf
      rw [← e]
      exact k H (Ex.refl H)
theorem letters_in (c : Nat) : decide (c ∈ (("abcdefghijklmnopqrstuvwxyz" : Str)).cps.toList) = decide (97 ≤ c ∧ c ≤ 122) := by
  have e : (("abcdefghijklmnopqrstuvwxyz" : Str)).cps.toList = (List.range 26).map (· + 97) := by decide +kernel
  rw [e, Bool.eq_iff_iff]
  simp only [decide_eq_true_eq, List.mem_map, List.mem_range]
  constructor
  · rintro ⟨a, h, rfl⟩
    omega
  · intro h
    exact ⟨c - 97, by omega, by omega⟩
/-- a def of one thing of any kind -/
def spV (K : PySem.W.Frag) (f : V → Bool) : Sp := fun vs H Q _ => ∃ v, vs = [v] ∧ Thing K H v ∧ ∀ H', Ex H H' → Q (.bl (f v)) H'
def isBlV : V → Bool
  | .bl _ => true
  | _ => false
def isIntV : V → Bool
  | .int _ => true
  | .bl _ => true
  | _ => false
def wholeV : V → Bool
  | .int _ => true
  | _ => false
def measV : V → Bool
  | .int i => decide (1 ≤ i) && decide (i ≤ 9999)
  | _ => false
def isW (v : V) (s : Str) : Bool := decide (v = .str s)
def holdV (v : V) : Bool := nameV v || isW v "chest"
theorem Ty.bl_is {K : PySem.W.Frag} {H : Hp} {v : V} {n : String} (h : Ty K H v n) : kitB n "bool" = some (isBlV v) := by
  have e1 : kitB "NoneType" "bool" = some false := by decide +kernel
  have e2 : kitB "bool" "bool" = some true := by decide +kernel
  have e3 : kitB "int" "bool" = some false := by decide +kernel
  have e4 : kitB "str" "bool" = some false := by decide +kernel
  have e5 : kitB "list" "bool" = some false := by decide +kernel
  have e6 : kitB "tuple" "bool" = some false := by decide +kernel
  have e7 : kitB "dict" "bool" = some false := by decide +kernel
  cases h <;> first | exact e1 | exact e2 | exact e3 | exact e4 | exact e5 | exact e6 | exact e7
theorem Ty.int_is {K : PySem.W.Frag} {H : Hp} {v : V} {n : String} (h : Ty K H v n) : kitB n "int" = some (isIntV v) := by
  have e1 : kitB "NoneType" "int" = some false := by decide +kernel
  have e2 : kitB "bool" "int" = some true := by decide +kernel
  have e3 : kitB "int" "int" = some true := by decide +kernel
  have e4 : kitB "str" "int" = some false := by decide +kernel
  have e5 : kitB "list" "int" = some false := by decide +kernel
  have e6 : kitB "tuple" "int" = some false := by decide +kernel
  have e7 : kitB "dict" "int" = some false := by decide +kernel
  cases h <;> first | exact e1 | exact e2 | exact e3 | exact e4 | exact e5 | exact e6 | exact e7
theorem Ty.tup_is {K : PySem.W.Frag} {H : Hp} {v : V} {n : String} (h : Ty K H v n) : kitB n "tuple" = some (decide (n = "tuple")) := by
  have e1 : kitB "NoneType" "tuple" = some (decide ("NoneType" = "tuple")) := by decide +kernel
  have e2 : kitB "bool" "tuple" = some (decide ("bool" = "tuple")) := by decide +kernel
  have e3 : kitB "int" "tuple" = some (decide ("int" = "tuple")) := by decide +kernel
  have e4 : kitB "str" "tuple" = some (decide ("str" = "tuple")) := by decide +kernel
  have e5 : kitB "list" "tuple" = some (decide ("list" = "tuple")) := by decide +kernel
  have e6 : kitB "tuple" "tuple" = some (decide ("tuple" = "tuple")) := by decide +kernel
  have e7 : kitB "dict" "tuple" = some (decide ("dict" = "tuple")) := by decide +kernel
  cases h <;> first | exact e1 | exact e2 | exact e3 | exact e4 | exact e5 | exact e6 | exact e7
theorem ok_is_whole (T : Tx P K mg A) : FnOk P w K mg base CX0 1 A.f_is_whole A.d_is_whole ["thing"] (spV K wholeV) := by
  refine T.F_is_whole.ok sc_is_whole (fun vs H Q E h => ?_) (fun cdv A' outer s H vs Q E hr h => ?_)
  · obtain ⟨v, rfl, _⟩ := h
    rfl
  · obtain ⟨v, rfl, ⟨⟨n, ty⟩, sz⟩, k⟩ := h
    refine ⟨_, (pss_one (ps_ret (pe_and (pe_callB (call_isiV (K := K) rfl) (by rfl) T.m_isinstance (by decide +kernel) (pa_cons (pv 0) (pa_cons (pe_bltn (v := .ty "int") (by rfl) T.m_int (by decide +kernel) rfl) pa_nil))) (pe_one (pe_not (pe_callB (call_isiV (K := K) rfl) (by rfl) T.m_isinstance (by decide +kernel) (pa_cons (pv 0) (pa_cons (pe_bltn (v := .ty "bool") (by rfl) T.m_bool (by decide +kernel) rfl) pa_nil)))))))), ?_⟩
    walk_at "ww"
    refine wIsi ty ty.int_is ?_
    walk_at "ww"
    refine ite2 (fun c => ?_) (fun c => ?_)
    · walk_at "ww"
      refine wIsi ty ty.bl_is ?_
      walk_at "ww"
      have e : (!isBlV v) = wholeV v := by cases v <;> first | rfl | cases c
      rw [e]
      exact k H (Ex.refl H)
    · have e : false = wholeV v := by cases v <;> first | rfl | exact absurd rfl c
      rw [e]
      exact k H (Ex.refl H)
theorem ok_is_measure (T : Tx P K mg A) : FnOk P w K mg base CX0 2 A.f_is_measure A.d_is_measure ["thing"] (spV K measV) := by
  refine T.F_is_measure.ok sc_is_measure (fun vs H Q E h => ?_) (fun cdv A' outer s H vs Q E hr h => ?_)
  · obtain ⟨v, rfl, _⟩ := h
    rfl
  · obtain ⟨v, rfl, th, k⟩ := h
    refine ⟨_, (pss_one (ps_ret (pe_and (pe_call (ok_is_whole T) (hr.mono (by decide)) (by rfl) T.g_is_whole T.F_is_whole.kp T.b_is_whole .nil pass0 (pa_cons (pv 0) pa_nil)) (pe_one (pe_chain op_le op_le pe_int (pv 0) (pe_glob (v := .int 9999) rfl T.c_MOST_MEASURES ⟨_, rfl⟩)))))), ?_⟩
    walk_at "ww"
    refine ⟨v, rfl, th, fun H1 e1 => ?_⟩
    walk_at "ww"
    by_cases c : wholeV v = true
    · obtain ⟨i, rfl⟩ : ∃ i, v = .int i := by
        cases v <;> first | exact ⟨_, rfl⟩ | cases c
      rw [if_pos c]
      walk_at "ww"
      refine ite2 (fun c1 => ?_) (fun c1 => ?_)
      · walk_at "ww"
        rw [show decide (i ≤ 9999) = measV (.int i) from by show _ = (decide (1 ≤ i) && decide (i ≤ 9999)); rw [c1]; rfl]
        exact k H1 e1
      · walk_at "ww"
        rw [show false = measV (.int i) from by show _ = (decide (1 ≤ i) && decide (i ≤ 9999)); rw [Bool.not_eq_true] at c1; rw [c1]; rfl]
        exact k H1 e1
    · rw [if_neg c]
      have e : false = measV v := by cases v <;> first | rfl | exact absurd rfl c
      rw [e]
      exact k H1 e1
theorem ok_is_holder (T : Tx P K mg A) : FnOk P w K mg base CX0 2 A.f_is_holder A.d_is_holder ["thing"] (spV K holdV) := by
  refine T.F_is_holder.ok sc_is_holder (fun vs H Q E h => ?_) (fun cdv A' outer s H vs Q E hr h => ?_)
  · obtain ⟨v, rfl, _⟩ := h
    rfl
  · obtain ⟨v, rfl, th, k⟩ := h
    refine ⟨_, (pss_one (ps_ret (pe_or (pe_call (ok_is_name T) (hr.mono (by decide)) (by rfl) T.g_is_name T.F_is_name.kp T.b_is_name .nil pass0 (pa_cons (pv 0) pa_nil)) (pe_one (pe_and (pe_callB (call_isiV (K := K) rfl) (by rfl) T.m_isinstance (by decide +kernel) (pa_cons (pv 0) (pa_cons (pe_bltn (v := .ty "str") (by rfl) T.m_str (by decide +kernel) rfl) pa_nil))) (pe_one (pe_cmpR op_eq (pv 0) (pe_glob (v := .str "chest") rfl T.c_CHEST ⟨_, rfl⟩) (nomark _)))))))), ?_⟩
    walk_at "ww"
    refine ⟨v, rfl, th, fun H1 e1 => ?_⟩
    walk_at "ww"
    refine ite2 (fun c => ?_) (fun c => ?_)
    · rw [show true = holdV v from by unfold holdV; rw [c]; rfl]
      exact k H1 e1
    · walk_at "ww"
      obtain ⟨n, ty⟩ := (th.ex e1).ty
      refine wIsi ty ty.str_is ?_
      walk_at "ww"
      rw [Bool.not_eq_true] at c
      by_cases hv : isStr v = true
      · obtain ⟨z, rfl⟩ : ∃ z, v = .str z := by
          cases v <;> first | exact ⟨_, rfl⟩ | cases hv
        rw [if_pos hv]
        walk_at "ww"
        rw [show decide (V.str z = V.str "chest") = holdV (.str z) from by unfold holdV isW; rw [c]; rfl]
        exact k H1 e1
      · rw [if_neg hv]
        rw [show false = holdV v from by unfold holdV isW; rw [c]; cases v <;> first | rfl | exact absurd rfl hv]
        exact k H1 e1
def shortL : List V → Bool
  | [w, x] => (isW w "come" || isW w "go") && nameV x
  | [w, x, y, m] => isW w "bring" && nameV x && nameV y && measV m
  | _ => false
def twoL : List V → Bool
  | [w, x, y, m] => measV m && nameV x && holdV y && !decide (x = y) && (isW w "forget" || (isW w "give" && !isW y "chest"))
  | [w, x, y, l, m] => measV m && nameV x && holdV y && !decide (x = y) && (isW w "hand" && !isW y "chest" && nameV l)
  | _ => false
def deedL (xs : List V) : Bool := shortL xs || twoL xs
/-- a tuple with things in it -/
structure Tp (K : PySem.W.Frag) (H : Hp) (a : Addr) (xs : List V) : Prop where
  at_ : H a = some (.tup xs)
  len : xs.length ≤ 1000
  each : ∀ x ∈ xs, Thing K H x
theorem Tp.ex {K : PySem.W.Frag} {H H' : Hp} {a : Addr} {xs : List V} (t : Tp K H a xs) (e : Ex H H') : Tp K H' a xs := ⟨e _ _ t.at_, t.len, fun x hx => (t.each x hx).ex e⟩
def spRow (K : PySem.W.Frag) (f : List V → Bool) : Sp := fun vs H Q _ => ∃ a xs, vs = [.ref a] ∧ Tp K H a xs ∧ (∃ z r, xs = V.str z :: r) ∧ ∀ H', Ex H H' → Q (.bl (f xs)) H'
theorem exW {z a b : Str} (h : isW (.str z) a = true) (n : decide (a = b) = false) : isW (.str z) b = false := by
  unfold isW at *
  have e : z = a := V.str.inj (of_decide_eq_true h)
  rw [e]
  refine decide_eq_false fun q => ?_
  exact of_decide_eq_false n (V.str.inj q)
theorem in2 (z a b : Str) : inV (.str z) [.str a, .str b] = (isW (.str z) a || isW (.str z) b) := by
  have h : ∀ a : Str, eqV (.str a) (.str z) = isW (.str z) a := fun a => by
    show (a == z) = decide (V.str z = V.str a)
    rw [Bool.eq_iff_iff]
    simp
    exact eq_comm
  show (eqV (.str a) (.str z) || (eqV (.str b) (.str z) || false)) = _
  rw [h, h, Bool.or_false]
theorem inI2 (z a b : Int) : inV (.int z) [.int a, .int b] = decide (z = a ∨ z = b) := by
  show ((a == z) || ((b == z) || false)) = _
  rw [Bool.eq_iff_iff]
  simp
  constructor <;> (intro h; rcases h with h | h <;> simp [h])
theorem len_int (xs : List V) (n : Nat) : decide (V.int (xs.length : Int) = V.int (n : Int)) = decide (xs.length = n) := by
  rw [Bool.eq_iff_iff]
  simp
  omega
theorem w2 {w : V} {r : List V} (h : (w :: r).length = 2) : ∃ x, r = [x] := by
  match r, h with
  | [x], _ => exact ⟨x, rfl⟩
theorem w4 {w : V} {r : List V} (h : (w :: r).length = 4) : ∃ x y m, r = [x, y, m] := by
  match r, h with
  | [x, y, m], _ => exact ⟨x, y, m, rfl⟩
theorem w5 {w : V} {r : List V} (h : (w :: r).length = 5) : ∃ x y l m, r = [x, y, l, m] := by
  match r, h with
  | [x, y, l, m], _ => exact ⟨x, y, l, m, rfl⟩
theorem short_not {xs : List V} (h2 : xs.length ≠ 2) (h4 : xs.length ≠ 4) : shortL xs = false := by
  unfold shortL
  split
  · exact absurd rfl h2
  · exact absurd rfl h4
  · rfl
theorem two_not {xs : List V} (h4 : xs.length ≠ 4) (h5 : xs.length ≠ 5) : twoL xs = false := by
  unfold twoL
  split
  · exact absurd rfl h4
  · exact absurd rfl h5
  · rfl
theorem short_cg {z : Str} {r : List V} (c : isW (.str z) "bring" = false) (h2 : (V.str z :: r).length ≠ 2) : shortL (.str z :: r) = false := by
  by_cases h4 : (V.str z :: r).length = 4
  · obtain ⟨x, y, m, rfl⟩ := w4 h4
    show (isW (.str z) "bring" && nameV x && nameV y && measV m) = false
    rw [c]
    rfl
  · exact short_not h2 h4
theorem short_b {z : Str} {r : List V} (c : (isW (.str z) "come" || isW (.str z) "go") = false) (h4 : (V.str z :: r).length ≠ 4) : shortL (.str z :: r) = false := by
  by_cases h2 : (V.str z :: r).length = 2
  · obtain ⟨x, rfl⟩ := w2 h2
    show ((isW (.str z) "come" || isW (.str z) "go") && nameV x) = false
    rw [c]
    rfl
  · exact short_not h2 h4
theorem ok_is_short_deed (T : Tx P K mg A) : FnOk P w K mg base CX0 3 A.f_is_short_deed A.d_is_short_deed ["row"] (spRow K shortL) := by
  refine T.F_is_short_deed.ok sc_is_short_deed (fun vs H Q E h => ?_) (fun cdv A' outer s H vs Q E hr h => ?_)
  · obtain ⟨a, xs, rfl, _⟩ := h
    rfl
  · obtain ⟨a, xs, rfl, hT, ⟨z, r, rfl⟩, k⟩ := h
    have h0 := hT.at_
    have kk : ∀ b H', b = shortL (.str z :: r) → Ex H H' → Q (.bl b) H' := fun b H' hb e => hb ▸ k H' e
    refine ⟨_, (pss_cons (ps_set (i := 1) sc_is_short_deed.nd rfl (Or.inl rfl) (pe_ix (ix_tupV (K := K) rfl) (pv 0) pe_int (fun _ _ => rfl)))
    (pss_cons (ps_if (pt_cmpR (op_in_seqV (K := K) rfl) (pv 1) (pe_tup (pa_cons pe_str (pa_cons pe_str pa_nil))) (by rfl))
    (pss_one (ps_ret (pe_and (pe_cmpR op_eq (pe_callB (call_lenV (K := K) rfl) (by rfl) T.m_len (by decide +kernel) (pa_cons (pv 0) pa_nil)) pe_int (nomark _)) (pe_one (pe_call (ok_is_name T) (hr.mono (by decide)) (by rfl) T.g_is_name T.F_is_name.kp T.b_is_name .nil pass0 (pa_cons (pe_ix (ix_tupV (K := K) rfl) (pv 0) pe_int (fun _ _ => rfl)) pa_nil))))))
    pss_nil)
    (pss_cons (ps_if (pt_cmpR op_eq (pv 1) pe_str (nomark _))
    (pss_one (ps_ret (pe_and (pe_cmpR op_eq (pe_callB (call_lenV (K := K) rfl) (by rfl) T.m_len (by decide +kernel) (pa_cons (pv 0) pa_nil)) pe_int (nomark _)) (pe_and (pe_call (ok_is_name T) (hr.mono (by decide)) (by rfl) T.g_is_name T.F_is_name.kp T.b_is_name .nil pass0 (pa_cons (pe_ix (ix_tupV (K := K) rfl) (pv 0) pe_int (fun _ _ => rfl)) pa_nil)) (pe_and (pe_call (ok_is_name T) (hr.mono (by decide)) (by rfl) T.g_is_name T.F_is_name.kp T.b_is_name .nil pass0 (pa_cons (pe_ix (ix_tupV (K := K) rfl) (pv 0) pe_int (fun _ _ => rfl)) pa_nil)) (pe_one (pe_call (ok_is_measure T) (hr.mono (by decide)) (by rfl) T.g_is_measure T.F_is_measure.kp T.b_is_measure .nil pass0 (pa_cons (pe_ix (ix_tupV (K := K) rfl) (pv 0) pe_int (fun _ _ => rfl)) pa_nil))))))))
    pss_nil)
    (pss_one (ps_ret pe_bl))))), ?_⟩
    walk_at "ww"
    refine wIxT (SqT.of h0) (at_of (j := 0) rfl rfl) ?_
    walk_at "ww"
    refine alI fun t H1 n1 e1 f1 => ?_
    refine ⟨t, _, rfl, .inr (SqT.of f1), rfl, rfl, ?_⟩
    rw [if_neg (by decide), in2]
    walk_at "ww"
    have h1 := e1 _ _ h0
    refine ite2 (fun c1 => ?_) (fun c1 => ?_)
    · walk_at "ww"
      have nb : isW (.str z) "bring" = false := by
        rcases (Bool.or_eq_true _ _).mp c1 with c | c
        · exact exW c (by decide +kernel)
        · exact exW c (by decide +kernel)
      refine wLenT (SqT.of h1) ?_
      walk_at "ww"
      rw [show (2 : Int) = ((2 : Nat) : Int) from rfl, len_int]
      refine ite2 (fun c2 => ?_) (fun c2 => ?_)
      · obtain ⟨x, rfl⟩ := w2 (of_decide_eq_true c2)
        walk_at "ww"
        refine ⟨x, rfl, (hT.each x (by simp)).ex e1, fun H2 e2 => ?_⟩
        refine kk _ _ ?_ (e1.trans e2)
        show _ = ((isW (.str z) "come" || isW (.str z) "go") && nameV x)
        rw [c1]
        rfl
      · exact kk _ _ (short_cg nb (by simpa using c2)).symm e1
    · rw [Bool.not_eq_true] at c1
      walk_at "ww"
      refine ite2 (fun c3 => ?_) (fun c3 => ?_)
      · walk_at "ww"
        refine wLenT (SqT.of h1) ?_
        walk_at "ww"
        rw [show (4 : Int) = ((4 : Nat) : Int) from rfl, len_int]
        refine ite2 (fun c2 => ?_) (fun c2 => ?_)
        · obtain ⟨x, y, m, rfl⟩ := w4 (of_decide_eq_true c2)
          have kv : ∀ b H', b = (nameV x && nameV y && measV m) → Ex H H' → Q (.bl b) H' := fun b H' hb e => by
            refine kk b H' ?_ e
            show _ = (isW (.str z) "bring" && nameV x && nameV y && measV m)
            rw [show isW (.str z) "bring" = true from c3, hb]
            rfl
          walk_at "ww"
          refine ⟨x, rfl, (hT.each x (by simp)).ex e1, fun H2 e2 => ?_⟩
          have h2 := e2 _ _ h1
          walk_at "ww"
          refine ite2 (fun cx => ?_) (fun cx => ?_)
          · walk_at "ww"
            refine ⟨y, rfl, ((hT.each y (by simp)).ex e1).ex e2, fun H3 e3 => ?_⟩
            have h3 := e3 _ _ h2
            walk_at "ww"
            refine ite2 (fun cy => ?_) (fun cy => ?_)
            · walk_at "ww"
              refine ⟨m, rfl, (((hT.each m (by simp)).ex e1).ex e2).ex e3, fun H4 e4 => ?_⟩
              exact kv _ _ (by rw [cx, cy]; rfl) (((e1.trans e2).trans e3).trans e4)
            · exact kv _ _ (by rw [cx, Bool.eq_false_iff.mpr cy]; rfl) ((e1.trans e2).trans e3)
          · exact kv _ _ (by rw [Bool.eq_false_iff.mpr cx]; rfl) (e1.trans e2)
        · exact kk _ _ (short_b c1 (by simpa using c2)).symm e1
      · walk_at "ww"
        refine kk _ _ ?_ e1
        have c3 : isW (.str z) "bring" = false := Bool.eq_false_iff.mpr c3
        by_cases h2 : (V.str z :: r).length = 2
        · exact (short_b c1 (by omega)).symm
        · exact (short_cg c3 h2).symm
theorem name_str {v : V} (h : nameV v = true) : ∃ z, v = .str z := by
  cases v <;> first | exact ⟨_, rfl⟩ | cases h
theorem hold_str {v : V} (h : holdV v = true) : ∃ z, v = .str z := by
  cases v <;> first | exact ⟨_, rfl⟩ | cases h
theorem ok_is_deed_between_two (T : Tx P K mg A) : FnOk P w K mg base CX0 3 A.f_is_deed_between_two A.d_is_deed_between_two ["row"] (spRow K twoL) := by
  refine T.F_is_deed_between_two.ok sc_is_deed_between_two (fun vs H Q E h => ?_) (fun cdv A' outer s H vs Q E hr h => ?_)
  · obtain ⟨a, xs, rfl, _⟩ := h
    rfl
  · obtain ⟨a, xs, rfl, hT, ⟨z, r, rfl⟩, k⟩ := h
    have h0 := hT.at_
    refine ⟨_, (pss_cons (ps_if (PW.pt (pw_or (pt_cmpR (op_notIn_seqV (K := K) rfl) (pe_callB (call_lenV (K := K) rfl) (by rfl) T.m_len (by decide +kernel) (pa_cons (pv 0) pa_nil)) (pe_tup (pa_cons pe_int (pa_cons pe_int pa_nil))) (by rfl)) (pw_or1 (pt_not (pt_val (pe_call (ok_is_measure T) (hr.mono (by decide)) (by rfl) T.g_is_measure T.F_is_measure.kp T.b_is_measure .nil pass0 (pa_cons (pe_ix (ix_tupV (K := K) rfl) (pv 0) (pe_un un_neg pe_int) (fun _ _ => rfl)) pa_nil)))))))
    (pss_one (ps_ret pe_bl))
    pss_nil)
    (pss_cons (ps_if (PW.pt (pw_or (pt_not (pt_val (pe_call (ok_is_name T) (hr.mono (by decide)) (by rfl) T.g_is_name T.F_is_name.kp T.b_is_name .nil pass0 (pa_cons (pe_ix (ix_tupV (K := K) rfl) (pv 0) pe_int (fun _ _ => rfl)) pa_nil)))) (pw_or (pt_not (pt_val (pe_call (ok_is_holder T) (hr.mono (by decide)) (by rfl) T.g_is_holder T.F_is_holder.kp T.b_is_holder .nil pass0 (pa_cons (pe_ix (ix_tupV (K := K) rfl) (pv 0) pe_int (fun _ _ => rfl)) pa_nil)))) (pw_or1 (pt_cmpR op_eq (pe_ix (ix_tupV (K := K) rfl) (pv 0) pe_int (fun _ _ => rfl)) (pe_ix (ix_tupV (K := K) rfl) (pv 0) pe_int (fun _ _ => rfl)) (nomark _))))))
    (pss_one (ps_ret pe_bl))
    pss_nil)
    (pss_cons (ps_if (pt_cmpR op_eq (pe_ix (ix_tupV (K := K) rfl) (pv 0) pe_int (fun _ _ => rfl)) pe_str (nomark _))
    (pss_one (ps_ret (pe_cmpR op_eq (pe_callB (call_lenV (K := K) rfl) (by rfl) T.m_len (by decide +kernel) (pa_cons (pv 0) pa_nil)) pe_int (nomark _))))
    pss_nil)
    (pss_cons (ps_if (pt_cmpR op_eq (pe_ix (ix_tupV (K := K) rfl) (pv 0) pe_int (fun _ _ => rfl)) pe_str (nomark _))
    (pss_one (ps_ret (pe_and (pe_cmpR op_eq (pe_callB (call_lenV (K := K) rfl) (by rfl) T.m_len (by decide +kernel) (pa_cons (pv 0) pa_nil)) pe_int (nomark _)) (pe_one (pe_cmpR op_ne (pe_ix (ix_tupV (K := K) rfl) (pv 0) pe_int (fun _ _ => rfl)) (pe_glob (v := .str "chest") rfl T.c_CHEST ⟨_, rfl⟩) (nomark _))))))
    pss_nil)
    (pss_cons (ps_if (pt_cmpR op_eq (pe_ix (ix_tupV (K := K) rfl) (pv 0) pe_int (fun _ _ => rfl)) pe_str (nomark _))
    (pss_one (ps_ret (pe_and (pe_cmpR op_eq (pe_callB (call_lenV (K := K) rfl) (by rfl) T.m_len (by decide +kernel) (pa_cons (pv 0) pa_nil)) pe_int (nomark _)) (pe_and (pe_cmpR op_ne (pe_ix (ix_tupV (K := K) rfl) (pv 0) pe_int (fun _ _ => rfl)) (pe_glob (v := .str "chest") rfl T.c_CHEST ⟨_, rfl⟩) (nomark _)) (pe_one (pe_call (ok_is_name T) (hr.mono (by decide)) (by rfl) T.g_is_name T.F_is_name.kp T.b_is_name .nil pass0 (pa_cons (pe_ix (ix_tupV (K := K) rfl) (pv 0) pe_int (fun _ _ => rfl)) pa_nil)))))))
    pss_nil)
    (pss_one (ps_ret pe_bl))))))), ?_⟩
    walk_at "ww"
    refine wLenT (SqT.of h0) ?_
    walk_at "ww"
    refine alI fun t H1 n1 e1 f1 => ?_
    refine ⟨t, _, rfl, .inr (SqT.of f1), rfl, rfl, ?_⟩
    rw [if_pos rfl, inI2]
    have h1 := e1 _ _ h0
    by_cases l4 : (V.str z :: r).length = 4
    · obtain ⟨x, y, m, rfl⟩ := w4 l4
      have kv : ∀ b H', b = (measV m && nameV x && holdV y && !decide (x = y) && (isW (.str z) "forget" || (isW (.str z) "give" && !isW y "chest"))) → Ex H H' → Q (.bl b) H' := fun b H' hb e => hb ▸ k H' e
      rw [show decide ((([V.str z, x, y, m].length : Nat) : Int) = 4 ∨ (([V.str z, x, y, m].length : Nat) : Int) = 5) = true from rfl]
      walk_at "ww"
      refine ⟨m, rfl, (hT.each m (by simp)).ex e1, fun H2 e2 => ?_⟩
      have h2 := e2 _ _ h1
      walk_at "ww"
      cases cm : measV m with
      | false =>
        walk_at "ww"
        exact kv _ _ (by rw [cm]; rfl) (e1.trans e2)
      | true =>
        walk_at "ww"
        refine ⟨x, rfl, ((hT.each x (by simp)).ex e1).ex e2, fun H3 e3 => ?_⟩
        have h3 := e3 _ _ h2
        walk_at "ww"
        cases cx : nameV x with
        | false =>
          walk_at "ww"
          exact kv _ _ (by rw [cm, cx]; rfl) ((e1.trans e2).trans e3)
        | true =>
          walk_at "ww"
          refine ⟨y, rfl, (((hT.each y (by simp)).ex e1).ex e2).ex e3, fun H4 e4 => ?_⟩
          have h4 := e4 _ _ h3
          have E4 := ((e1.trans e2).trans e3).trans e4
          walk_at "ww"
          cases cy : holdV y with
          | false =>
            walk_at "ww"
            exact kv _ _ (by rw [cm, cx, cy]; rfl) E4
          | true =>
            obtain ⟨zx, rfl⟩ := name_str cx
            obtain ⟨zy, rfl⟩ := hold_str cy
            walk_at "ww"
            refine ite2 (fun c => ?_) (fun c => ?_)
            · walk_at "ww"
              exact kv _ _ (by rw [cm, cx, cy, c]; rfl) E4
            · rw [Bool.not_eq_true] at c
              have kw : ∀ b H', b = (isW (.str z) "forget" || (isW (.str z) "give" && !isW (.str zy) "chest")) → Ex H H' → Q (.bl b) H' := fun b H' hb e => kv b H' (by rw [cm, cx, cy, c, hb]; rfl) e
              walk_at "ww"
              refine ite2 (fun cf => ?_) (fun cf => ?_)
              · walk_at "ww"
                refine wLenT (SqT.of h4) ?_
                walk_at "ww"
                exact kw _ _ (by rw [show isW (.str z) "forget" = true from cf]; rfl) E4
              · have cf : isW (.str z) "forget" = false := Bool.eq_false_iff.mpr cf
                walk_at "ww"
                refine ite2 (fun cg => ?_) (fun cg => ?_)
                · walk_at "ww"
                  refine wLenT (SqT.of h4) ?_
                  walk_at "ww"
                  rw [if_pos (by rfl)]
                  walk_at "ww"
                  exact kw _ _ (by rw [cf, show isW (.str z) "give" = true from cg]; rfl) E4
                · have cg : isW (.str z) "give" = false := Bool.eq_false_iff.mpr cg
                  walk_at "ww"
                  refine ite2 (fun ch => ?_) (fun ch => ?_)
                  · walk_at "ww"
                    refine wLenT (SqT.of h4) ?_
                    walk_at "ww"
                    rw [if_neg (by with_unfolding_all exact Bool.false_ne_true)]
                    exact kw _ _ (by rw [cf, cg]; rfl) E4
                  · walk_at "ww"
                    exact kw _ _ (by rw [cf, cg]; rfl) E4
    · by_cases l5 : (V.str z :: r).length = 5
      · obtain ⟨x, y, l, m, rfl⟩ := w5 l5
        have kv : ∀ b H', b = (measV m && nameV x && holdV y && !decide (x = y) && (isW (.str z) "hand" && !isW y "chest" && nameV l)) → Ex H H' → Q (.bl b) H' := fun b H' hb e => hb ▸ k H' e
        rw [show decide ((([V.str z, x, y, l, m].length : Nat) : Int) = 4 ∨ (([V.str z, x, y, l, m].length : Nat) : Int) = 5) = true from rfl]
        walk_at "ww"
        refine ⟨m, rfl, (hT.each m (by simp)).ex e1, fun H2 e2 => ?_⟩
        have h2 := e2 _ _ h1
        walk_at "ww"
        cases cm : measV m with
        | false =>
          walk_at "ww"
          exact kv _ _ (by rw [cm]; rfl) (e1.trans e2)
        | true =>
          walk_at "ww"
          refine ⟨x, rfl, ((hT.each x (by simp)).ex e1).ex e2, fun H3 e3 => ?_⟩
          have h3 := e3 _ _ h2
          walk_at "ww"
          cases cx : nameV x with
          | false =>
            walk_at "ww"
            exact kv _ _ (by rw [cm, cx]; rfl) ((e1.trans e2).trans e3)
          | true =>
            walk_at "ww"
            refine ⟨y, rfl, (((hT.each y (by simp)).ex e1).ex e2).ex e3, fun H4 e4 => ?_⟩
            have h4 := e4 _ _ h3
            have E4 := ((e1.trans e2).trans e3).trans e4
            walk_at "ww"
            cases cy : holdV y with
            | false =>
              walk_at "ww"
              exact kv _ _ (by rw [cm, cx, cy]; rfl) E4
            | true =>
              obtain ⟨zx, rfl⟩ := name_str cx
              obtain ⟨zy, rfl⟩ := hold_str cy
              walk_at "ww"
              refine ite2 (fun c => ?_) (fun c => ?_)
              · walk_at "ww"
                exact kv _ _ (by rw [cm, cx, cy, c]; rfl) E4
              · rw [Bool.not_eq_true] at c
                have kw : ∀ b H', b = (isW (.str z) "hand" && !isW (.str zy) "chest" && nameV l) → Ex H H' → Q (.bl b) H' := fun b H' hb e => kv b H' (by rw [cm, cx, cy, c, hb]; rfl) e
                walk_at "ww"
                refine ite2 (fun cf => ?_) (fun cf => ?_)
                · have ch : isW (.str z) "hand" = false := exW cf (by decide +kernel)
                  walk_at "ww"
                  refine wLenT (SqT.of h4) ?_
                  walk_at "ww"
                  exact kw _ _ (by rw [ch]; rfl) E4
                · walk_at "ww"
                  refine ite2 (fun cg => ?_) (fun cg => ?_)
                  · have ch : isW (.str z) "hand" = false := exW cg (by decide +kernel)
                    walk_at "ww"
                    refine wLenT (SqT.of h4) ?_
                    walk_at "ww"
                    rw [if_neg (by with_unfolding_all exact Bool.false_ne_true)]
                    exact kw _ _ (by rw [ch]; rfl) E4
                  · walk_at "ww"
                    refine ite2 (fun ch => ?_) (fun ch => ?_)
                    · have ch : isW (.str z) "hand" = true := ch
                      walk_at "ww"
                      refine wLenT (SqT.of h4) ?_
                      walk_at "ww"
                      rw [if_pos (by rfl)]
                      walk_at "ww"
                      refine ite2 (fun cc => ?_) (fun cc => ?_)
                      · walk_at "ww"
                        refine ⟨l, rfl, ((((hT.each l (by simp)).ex e1).ex e2).ex e3).ex e4, fun H5 e5 => ?_⟩
                        exact kw _ _ (by rw [ch, show (!isW (.str zy) "chest") = true from cc]; rfl) (E4.trans e5)
                      · exact kw _ _ (by rw [ch, show (!isW (.str zy) "chest") = false from Bool.eq_false_iff.mpr cc]; rfl) E4
                    · have ch : isW (.str z) "hand" = false := Bool.eq_false_iff.mpr ch
                      walk_at "ww"
                      exact kw _ _ (by rw [ch]; rfl) E4
      · rw [show decide ((((V.str z :: r).length : Nat) : Int) = 4 ∨ (((V.str z :: r).length : Nat) : Int) = 5) = false from decide_eq_false (by omega)]
        walk_at "ww"
        rw [show false = twoL (.str z :: r) from (two_not l4 l5).symm]
        exact k H1 e1
/-- a thing beside deeds: what is_deed tells of it -/
inductive Dd (K : PySem.W.Frag) (H : Hp) : V → Bool → Prop where
  | tup {a : Addr} {xs : List V} (h : Tp K H a xs) : Dd K H (.ref a) (deedL xs)
  | oth {v : V} {n : String} (h : Ty K H v n) (ne : n ≠ "tuple") : Dd K H v false
theorem Dd.ex {K : PySem.W.Frag} {H H' : Hp} {v : V} {b : Bool} (d : Dd K H v b) (e : Ex H H') : Dd K H' v b := by
  cases d with
  | tup h => exact .tup (h.ex e)
  | oth h ne => exact .oth (h.ex e) ne
def spDeed (K : PySem.W.Frag) : Sp := fun vs H Q _ => ∃ v b, vs = [v] ∧ Dd K H v b ∧ ∀ H', Ex H H' → Q (.bl b) H'
theorem isW_no {v : V} {s : Str} (h : isStr v = false) : isW v s = false := by
  refine decide_eq_false fun e => ?_
  rw [e] at h
  cases h
theorem deed_nostr {w : V} {r : List V} (h : isStr w = false) : deedL (w :: r) = false := by
  have e : ∀ s, isW w s = false := fun s => isW_no h
  unfold deedL
  rw [Bool.or_eq_false_iff]
  constructor
  · unfold shortL
    split
    · rename_i q
      cases q
      rw [e, e]
      rfl
    · rename_i q
      cases q
      rw [e]
      rfl
    · rfl
  · unfold twoL
    split
    · rename_i q
      cases q
      rw [e, e]
      simp
    · rename_i q
      cases q
      rw [e]
      simp
    · rfl
theorem ok_is_deed (T : Tx P K mg A) : FnOk P w K mg base CX0 4 A.f_is_deed A.d_is_deed ["thing"] (spDeed K) := by
  refine T.F_is_deed.ok sc_is_deed (fun vs H Q E h => ?_) (fun cdv A' outer s H vs Q E hr h => ?_)
  · obtain ⟨v, b, rfl, _⟩ := h
    rfl
  · obtain ⟨v, b, rfl, d, k⟩ := h
    refine ⟨_, (pss_cons (ps_if (PW.pt (pw_or (pt_not (pt_val (pe_callB (call_isiV (K := K) rfl) (by rfl) T.m_isinstance (by decide +kernel) (pa_cons (pv 0) (pa_cons (pe_bltn (v := .ty "tuple") (by rfl) T.m_tuple (by decide +kernel) rfl) pa_nil))))) (pw_or1 (pt_cmpR op_eq (pe_callB (call_lenV (K := K) rfl) (by rfl) T.m_len (by decide +kernel) (pa_cons (pv 0) pa_nil)) pe_int (nomark _)))))
    (pss_one (ps_ret pe_bl))
    pss_nil)
    (pss_cons (ps_if (pt_not (pt_val (pe_callB (call_isiV (K := K) rfl) (by rfl) T.m_isinstance (by decide +kernel) (pa_cons (pe_ix (ix_tupV (K := K) rfl) (pv 0) pe_int (fun _ _ => rfl)) (pa_cons (pe_bltn (v := .ty "str") (by rfl) T.m_str (by decide +kernel) rfl) pa_nil)))))
    (pss_one (ps_ret pe_bl))
    pss_nil)
    (pss_one (ps_ret (pe_or (pe_call (ok_is_short_deed T) (hr.mono (by decide)) (by rfl) T.g_is_short_deed T.F_is_short_deed.kp T.b_is_short_deed .nil pass0 (pa_cons (pv 0) pa_nil)) (pe_one (pe_call (ok_is_deed_between_two T) (hr.mono (by decide)) (by rfl) T.g_is_deed_between_two T.F_is_deed_between_two.kp T.b_is_deed_between_two .nil pass0 (pa_cons (pv 0) pa_nil)))))))), ?_⟩
    walk_at "ww"
    cases d with
    | oth ty ne =>
      refine wIsi ty ty.tup_is ?_
      rw [decide_eq_false ne]
      walk_at "ww"
      exact k H (Ex.refl H)
    | @tup a xs hT =>
      have h0 := hT.at_
      refine wIsi (b := true) (.tup h0) (by decide +kernel) ?_
      walk_at "ww"
      refine wLenT (SqT.of h0) ?_
      walk_at "ww"
      cases xs with
      | nil =>
        rw [show decide (V.int ((([] : List V).length : Nat) : Int) = V.int 0) = true from rfl]
        walk_at "ww"
        exact k H (Ex.refl H)
      | cons w r =>
        rw [show decide (V.int (((w :: r).length : Nat) : Int) = V.int 0) = false from decide_eq_false fun q => by
          have := V.int.inj q
          simp at this
          omega]
        walk_at "ww"
        refine wIxT (SqT.of h0) (at_of (j := 0) rfl rfl) ?_
        walk_at "ww"
        obtain ⟨⟨n, ty⟩, sz⟩ := hT.each w (by simp)
        refine wIsi ty ty.str_is ?_
        walk_at "ww"
        cases hv : isStr w with
        | false =>
          walk_at "ww"
          rw [show false = deedL (w :: r) from (deed_nostr hv).symm]
          exact k H (Ex.refl H)
        | true =>
          obtain ⟨z, rfl⟩ : ∃ z, w = .str z := by
            cases w <;> first | exact ⟨_, rfl⟩ | cases hv
          walk_at "ww"
          refine ⟨a, _, rfl, hT, ⟨z, r, rfl⟩, fun H1 e1 => ?_⟩
          walk_at "ww"
          refine ite2 (fun c => ?_) (fun c => ?_)
          · rw [show true = deedL (.str z :: r) from by unfold deedL; rw [c]; rfl]
            exact k H1 e1
          · walk_at "ww"
            refine ⟨a, _, rfl, hT.ex e1, ⟨z, r, rfl⟩, fun H2 e2 => ?_⟩
            rw [show twoL (.str z :: r) = deedL (.str z :: r) from by unfold deedL; rw [Bool.eq_false_iff.mpr c]; rfl]
            exact k H2 (e1.trans e2)
/-! ### deeds as texts -/
/-- small letters, one to eight -/
structure Lw (z : Str) : Prop where
  sm : ∀ c ∈ z.cps.toList, 97 ≤ c ∧ c ≤ 122
  l : 1 ≤ z.length ∧ z.length ≤ 8
theorem lw_of {z : Str} (h : (decide (1 ≤ z.length) && decide (z.length ≤ 8) && z.cps.toList.all fun c => decide (97 ≤ c ∧ c ≤ 122)) = true) : Lw z := by
  rw [Bool.and_eq_true, Bool.and_eq_true] at h
  exact ⟨fun c hc => of_decide_eq_true (List.all_eq_true.mp h.2 c hc), of_decide_eq_true h.1.1, of_decide_eq_true h.1.2⟩
theorem lw_name {z : Str} (h : nameV (.str z) = true) : Lw z := by
  have h : nameS z = true := h
  unfold nameS at h
  rw [Bool.and_eq_true, Bool.and_eq_true] at h
  exact lw_of (by rw [Bool.and_eq_true]; exact ⟨h.1.1, h.2⟩)
/-- a part of a deed -/
inductive Pt : V → Prop
  | s {z : Str} (h : Lw z) : Pt (.str z)
  | i {n : Nat} (h0 : 1 ≤ n) (h1 : n ≤ 9999) : Pt (.int (n : Int))
def partT : V → Str
  | .str z => z
  | .int i => toString i
  | _ => ⟨#[]⟩
theorem Pt.len {v : V} (h : Pt v) : 1 ≤ (partT v).length ∧ (partT v).length ≤ 8 := by
  cases h with
  | s h => exact h.l
  | i h0 h1 =>
    have := (numT_ok h0 h1).len
    exact ⟨this.1, Nat.le_trans this.2 (by decide)⟩
theorem Pt.signs {v : V} (h : Pt v) : ∀ c ∈ (partT v).cps.toList, 48 ≤ c := by
  cases h with
  | s h => exact fun c hc => Nat.le_trans (by decide) (h.sm c hc).1
  | i h0 h1 => exact fun c hc => ((numT_ok h0 h1).digits c hc).1
theorem pt_name {v : V} (h : nameV v = true) : Pt v := by
  cases v with
  | str z => exact .s (lw_name h)
  | _ => cases h
theorem lw_word {z : Str} {s : Str} (h : isW (.str z) s = true) (w : Lw s) : Lw z := by
  have e : z = s := V.str.inj (of_decide_eq_true h)
  rw [e]
  exact w
theorem pt_w {v : V} {s : Str} (h : isW v s = true) (w : Lw s) : Pt v := by
  have e : v = .str s := of_decide_eq_true h
  rw [e]
  exact .s w
theorem pt_hold {v : V} (h : holdV v = true) : Pt v := by
  unfold holdV at h
  rw [Bool.or_eq_true] at h
  rcases h with h | h
  · exact pt_name h
  · exact pt_w h (lw_of (by decide +kernel))
theorem pt_meas {v : V} (h : measV v = true) : Pt v := by
  cases v with
  | int i =>
    have h : (decide (1 ≤ i) && decide (i ≤ 9999)) = true := h
    rw [Bool.and_eq_true] at h
    have h0 := of_decide_eq_true h.1
    have h1 := of_decide_eq_true h.2
    obtain ⟨n, rfl⟩ : ∃ n : Nat, i = (n : Int) := ⟨i.toNat, by omega⟩
    exact .i (by omega) (by omega)
  | _ => cases h
/-- the parts of a deed -/
theorem deed_parts {xs : List V} (h : deedL xs = true) : (∀ x ∈ xs, Pt x) ∧ 2 ≤ xs.length ∧ xs.length ≤ 5 := by
  have wc : Lw "come" := lw_of (by decide +kernel)
  have wg : Lw "go" := lw_of (by decide +kernel)
  have wb : Lw "bring" := lw_of (by decide +kernel)
  have wf : Lw "forget" := lw_of (by decide +kernel)
  have wi : Lw "give" := lw_of (by decide +kernel)
  have wh : Lw "hand" := lw_of (by decide +kernel)
  unfold deedL at h
  rw [Bool.or_eq_true] at h
  rcases h with h | h
  · unfold shortL at h
    split at h
    · simp only [Bool.and_eq_true, Bool.or_eq_true] at h
      refine ⟨List.forall_mem_cons.mpr ⟨h.1.elim (pt_w · wc) (pt_w · wg), List.forall_mem_cons.mpr ⟨pt_name h.2, List.forall_mem_nil _⟩⟩, Nat.le_of_ble_eq_true rfl, Nat.le_of_ble_eq_true rfl⟩
    · simp only [Bool.and_eq_true] at h
      refine ⟨List.forall_mem_cons.mpr ⟨pt_w h.1.1.1 wb, List.forall_mem_cons.mpr ⟨pt_name h.1.1.2, List.forall_mem_cons.mpr ⟨pt_name h.1.2, List.forall_mem_cons.mpr ⟨pt_meas h.2, List.forall_mem_nil _⟩⟩⟩⟩, Nat.le_of_ble_eq_true rfl, Nat.le_of_ble_eq_true rfl⟩
    · cases h
  · unfold twoL at h
    split at h
    · simp only [Bool.and_eq_true, Bool.or_eq_true] at h
      refine ⟨List.forall_mem_cons.mpr ⟨h.2.elim (pt_w · wf) (fun q => pt_w q.1 wi), List.forall_mem_cons.mpr ⟨pt_name h.1.1.1.2, List.forall_mem_cons.mpr ⟨pt_hold h.1.1.2, List.forall_mem_cons.mpr ⟨pt_meas h.1.1.1.1, List.forall_mem_nil _⟩⟩⟩⟩, Nat.le_of_ble_eq_true rfl, Nat.le_of_ble_eq_true rfl⟩
    · simp only [Bool.and_eq_true] at h
      refine ⟨List.forall_mem_cons.mpr ⟨pt_w h.2.1.1 wh, List.forall_mem_cons.mpr ⟨pt_name h.1.1.1.2, List.forall_mem_cons.mpr ⟨pt_hold h.1.1.2, List.forall_mem_cons.mpr ⟨pt_name h.2.2, List.forall_mem_cons.mpr ⟨pt_meas h.1.1.1.1, List.forall_mem_nil _⟩⟩⟩⟩⟩, Nat.le_of_ble_eq_true rfl, Nat.le_of_ble_eq_true rfl⟩
    · cases h
def lineT (xs : List V) : Str := Txt.join " " (xs.map partT)
def bookT (pp : List (List V)) : Str := Txt.join "\n" (pp.map lineT)
theorem line_split {xs : List V} (h : deedL xs = true) : Txt.split (lineT xs) " " = xs.map partT := by
  obtain ⟨h1, h2, _⟩ := deed_parts h
  refine TL.split_join (y := " ") (s := 32) (S := []) (by decide +kernel) (by decide +kernel) (fun e => ?_) fun p hp => ?_
  · have q : xs.length = 0 := by
      have := congrArg List.length e
      rwa [List.length_map] at this
    omega
  · obtain ⟨x, hx, rfl⟩ := List.mem_map.mp hp
    intro hm
    have := (h1 x hx).signs 32 hm
    omega
theorem join_len (y : Str) : ∀ (ps : List Str), (Str.join y ps).length ≤ (ps.map (·.length)).sum + ps.length * y.length
  | [] => by
    show 0 ≤ _
    exact Nat.zero_le _
  | [p] => by
    show p.length ≤ _
    simp
  | p :: q :: r => by
    have ih := join_len y (q :: r)
    show ((p ++ y) ++ Str.join y (q :: r)).length ≤ _
    rw [app_len, app_len]
    simp only [List.map_cons, List.sum_cons, List.length_cons] at ih ⊢
    have : (r.length + 1 + 1) * y.length = (r.length + 1) * y.length + y.length := by rw [Nat.add_mul, Nat.one_mul]
    omega
theorem sum_le {xs : List Str} {n : Nat} (h : ∀ x ∈ xs, x.length ≤ n) : (xs.map (·.length)).sum ≤ xs.length * n := by
  induction xs with
  | nil => simp
  | cons x r ih =>
    have h1 := h x List.mem_cons_self
    have h2 := ih fun y hy => h y (List.mem_cons_of_mem _ hy)
    simp only [List.map_cons, List.sum_cons, List.length_cons]
    rw [Nat.add_mul, Nat.one_mul]
    omega
theorem line_len {xs : List V} (h : deedL xs = true) : (lineT xs).length ≤ 50 := by
  obtain ⟨h1, h2, h3⟩ := deed_parts h
  unfold lineT
  rw [TL.join_eq]
  refine Nat.le_trans (join_len _ _) ?_
  have q := sum_le (xs := xs.map partT) (n := 8) fun t ht => by
    obtain ⟨x, hx, rfl⟩ := List.mem_map.mp ht
    exact (h1 x hx).len.2
  rw [List.length_map] at q ⊢
  have e : ((" " : Str)).length = 1 := by decide +kernel
  rw [e]
  omega
theorem join_signs {y : Str} {k : Nat} (hy : ∀ c ∈ y.cps.toList, k ≤ c) : ∀ {ps : List Str}, (∀ p ∈ ps, ∀ c ∈ p.cps.toList, k ≤ c) → ∀ c ∈ (Str.join y ps).cps.toList, k ≤ c
  | [], _ => fun c hc => by
    have : c ∈ ([] : List Nat) := hc
    cases this
  | [p], h => fun c hc => h p List.mem_cons_self c hc
  | p :: q :: r, h => fun c hc => by
    have hc : c ∈ ((p.cps ++ y.cps) ++ (Str.join y (q :: r)).cps).toList := hc
    rw [Array.toList_append, Array.toList_append] at hc
    rcases List.mem_append.mp hc with hc | hc
    · rcases List.mem_append.mp hc with hc | hc
      · exact h p List.mem_cons_self c hc
      · exact hy c hc
    · exact join_signs hy (fun z hz => h z (List.mem_cons_of_mem _ hz)) c hc
theorem line_signs {xs : List V} (h : deedL xs = true) : ∀ c ∈ (lineT xs).cps.toList, 32 ≤ c := by
  unfold lineT
  rw [TL.join_eq]
  refine join_signs (by decide +kernel) fun p hp c hc => ?_
  obtain ⟨x, hx, rfl⟩ := List.mem_map.mp hp
  have := (deed_parts h).1 x hx |>.signs c hc
  omega
theorem book_split {pp : List (List V)} (ne : pp ≠ []) (h : ∀ xs ∈ pp, deedL xs = true) : Txt.split (bookT pp) "\n" = pp.map lineT := by
  refine TL.split_join (y := "\n") (s := 10) (S := []) (by decide +kernel) (by decide +kernel) (fun e => ne (List.map_eq_nil_iff.mp e)) fun p hp => ?_
  obtain ⟨xs, hx, rfl⟩ := List.mem_map.mp hp
  intro hm
  have := line_signs (h xs hx) 10 hm
  omega
theorem line_some {xs : List V} (h : deedL xs = true) : 1 ≤ (lineT xs).length := by
  obtain ⟨h1, h2, h3⟩ := deed_parts h
  unfold lineT
  rw [TL.join_eq]
  match xs, h2, h1 with
  | x :: y :: r, _, h1 =>
    show 1 ≤ ((partT x ++ _) ++ _ : Str).length
    rw [app_len, app_len]
    have := (h1 x List.mem_cons_self).len.1
    omega
theorem book_some {pp : List (List V)} (ne : pp ≠ []) (h : ∀ xs ∈ pp, deedL xs = true) : 1 ≤ (bookT pp).length := by
  unfold bookT
  rw [TL.join_eq]
  match pp, ne, h with
  | [x], _, h => exact line_some (h x List.mem_cons_self)
  | x :: y :: r, _, h =>
    show 1 ≤ ((lineT x ++ _) ++ _ : Str).length
    rw [app_len, app_len]
    have := line_some (h x List.mem_cons_self)
    omega
theorem book_len {pp : List (List V)} (h : ∀ xs ∈ pp, deedL xs = true) (l : pp.length ≤ 60) : ((pp.map lineT).map (·.length)).sum + (pp.map lineT).length * (("\n" : Str)).length ≤ 4000 ∧ (bookT pp).length ≤ 4000 := by
  have q := sum_le (xs := pp.map lineT) (n := 50) fun t ht => by
    obtain ⟨x, hx, rfl⟩ := List.mem_map.mp ht
    exact line_len (h x hx)
  have e : (("\n" : Str)).length = 1 := by decide +kernel
  rw [e]
  rw [List.length_map] at q ⊢
  refine ⟨by omega, ?_⟩
  unfold bookT
  rw [TL.join_eq]
  have := join_len "\n" (pp.map lineT)
  rw [e, List.length_map] at this
  omega
/-! ### reading -/
theorem at_nat {α : Type} {xs : List α} {j : Nat} {v : α} (h : xs[j]? = some v) : atI xs (j : Int) = some v := atI_nat h
def spFig : Sp := fun vs H Q _ => ∃ v, Pt v ∧ vs = [.str (partT v)] ∧ ∀ H', Ex H H' → Q (.bl (wholeV v)) H'
theorem ok_is_figures (T : Tx P K mg A) : FnOk P w K mg base CX0 1 A.f_is_figures A.d_is_figures ["text"] spFig := by
  refine T.F_is_figures.ok sc_is_figures (fun vs H Q E h => ?_) (fun cdv A' outer s H vs Q E hr h => ?_)
  · obtain ⟨v, _, rfl, _⟩ := h
    rfl
  · obtain ⟨v, hp, rfl, k⟩ := h
    refine ⟨_, (pss_cons (ps_if (PW.pt (pw_or (pt_cmpR op_eq (pv 0) pe_str (nomark _)) (pw_or1 (pt_not (pt_val (pe_callB (cr_allV (K := K) rfl rfl) (by rfl) T.m_all (by decide +kernel) (pa_cons (pe_lc rfl sc_is_figures.nd (g := gName 1) (pi_str (pv 0)) (blkOk_by (own := [("sign", 1)]) (N := ["text", "sign"]) (sc := defScope s_is_figures) (by decide +kernel)) (fun _ _ _ _ _ => (pg_name (i := 1) sc_is_figures.nd rfl (Or.inl rfl))) (fun _ _ _ _ _ => pts_nil) (fun _ _ _ _ _ => (pe_chain op_le_str op_le_str pe_str (pv 1) pe_str))) pa_nil)))))))
    (pss_one (ps_ret pe_bl))
    pss_nil)
    (pss_one (ps_ret (pe_or (pe_cmpR op_eq (pv 0) pe_str (nomark _)) (pe_one (pe_cmpR op_ne (pe_ix ix_str (pv 0) pe_int (fun _ _ => rfl)) pe_str (nomark _))))))), ?_⟩
    have hl := hp.len
    generalize et : partT v = t at hl ⊢
    have h0 : decide (V.str t = V.str "") = false := decide_eq_false fun e => by
      rw [V.str.inj e] at hl
      exact absurd hl.1 (by decide +kernel)
    walk_at "ww"
    rw [h0]
    walk_at "ww"
    intro D hD
    refine lcStr (fun H' => Ex H H') (fun i y _ => ∃ c, t.cps[i]? = some c ∧ y = .bl (decide (48 ≤ c ∧ c ≤ 57))) (by show t.length ≤ _; omega) (fun _ => rfl) (Ex.new hD) (fun i c hc H' acc e hD' hl' hR => ?_) (fun H' ys e hD' hl' hR => ?_)
    · have hi : i ≤ 100000 := by
        have h1 := (Array.getElem?_eq_some_iff.mp hc).1
        have h2 : t.cps.size ≤ 8 := hl.2
        omega
      have ea : (("0" : Str)).cps.toList = [48] := by decide +kernel
      have ez : (("9" : Str)).cps.toList = [57] := by decide +kernel
      walk_at "ww"
      rw [ea, lt_one]
      refine ite2 (fun d1 => ?_) (fun d1 => ?_)
      · walk_at "ww"
        refine lcAdd hD' hl' hi (e.mut hD) hR ⟨c, hc, ?_⟩
        rw [ez]
        show V.bl (!decide (([57] : List Nat) < [c])) = _
        rw [lt_one]
        simp only [Bool.not_eq_true', decide_eq_false_iff_not] at d1
        congr 1
        rw [Bool.eq_iff_iff]
        simp
        omega
      · refine lcAdd hD' hl' hi (e.mut hD) hR ⟨c, hc, ?_⟩
        simp only [Bool.not_eq_true', decide_eq_false_iff_not, Classical.not_not] at d1
        rw [decide_eq_false (by omega)]
    · have em := map_bl hl' hR
      subst em
      walk_at "ww"
      refine wAll (SqL.of hD') ?_
      rw [List.all_map]
      cases hp with
      | s hz =>
        rename_i z
        have et : z = t := et
        have no : (t.cps.toList.all (id ∘ fun c => decide (48 ≤ c ∧ c ≤ 57))) = false := by
          rw [← et] at hl ⊢
          have : 0 < z.cps.toList.length := by rw [Array.length_toList]; exact hl.1
          obtain ⟨c, r, ec⟩ := List.exists_cons_of_length_pos this
          rw [List.all_eq_false]
          refine ⟨c, by rw [ec]; exact List.mem_cons_self, ?_⟩
          have := (hz.sm c (by rw [ec]; exact List.mem_cons_self)).1
          simp
          omega
        rw [no]
        walk_at "ww"
        exact k H' e
      | i n0 n1 =>
        rename_i n
        have N := numT_ok n0 n1
        have et : numT n = t := et
        rw [et] at N
        have yes : (t.cps.toList.all (id ∘ fun c => decide (48 ≤ c ∧ c ≤ 57))) = true := List.all_eq_true.mpr fun c hc => decide_eq_true (N.digits c hc)
        rw [yes]
        obtain ⟨c, r, ec, nc⟩ := N.head
        have n1 : decide (V.str t = V.str "0") = false := decide_eq_false fun e => nc (by
          have e1 : t.cps.toList = [48] := by rw [V.str.inj e]; decide +kernel
          rw [ec] at e1
          exact (List.cons.inj e1).1)
        walk_at "ww"
        rw [n1]
        walk_at "ww"
        refine wIxS (c := c) (sz6 (by omega)) (at_nat (j := 0) (by rw [ec]; rfl)) ?_
        walk_at "ww"
        have n2 : (!decide (V.str ⟨#[c]⟩ = V.str "0")) = true := by
          rw [decide_eq_false fun e => nc (by
            have e1 : ([c] : List Nat) = [48] := congrArg (fun z : Str => z.cps.toList) (V.str.inj e)
            exact (List.cons.inj e1).1)]
          rfl
        rw [n2]
        exact k H' e
def numV (v : V) : V := if wholeV v = true then v else .non
def spRead (f : V → V) : Sp := fun vs H Q _ => ∃ v, Pt v ∧ vs = [.str (partT v)] ∧ ∀ H', Ex H H' → Q (f v) H'
theorem cut_all (z : Str) : cutS z none (some (z.length : Int)) = z := by
  unfold cutS
  rw [HT.sIx_none, HT.sIx_nat, Nat.min_self, List.drop_zero, Nat.sub_zero, List.take_of_length_le (by rw [Array.length_toList]; exact Nat.le_refl _)]
theorem ok_read_whole (T : Tx P K mg A) : FnOk P w K mg base CX0 2 A.f_read_whole A.d_read_whole ["text"] (spRead numV) := by
  refine T.F_read_whole.ok sc_read_whole (fun vs H Q E h => ?_) (fun cdv A' outer s H vs Q E hr h => ?_)
  · obtain ⟨v, _, rfl, _⟩ := h
    rfl
  · obtain ⟨v, hp, rfl, k⟩ := h
    refine ⟨_, (pss_cons (ps_if (pt_not (pt_val (pe_call (ok_is_figures T) (hr.mono (by decide)) (by rfl) T.g_is_figures T.F_is_figures.kp T.b_is_figures .nil pass0 (pa_cons (pv 0) pa_nil))))
    (pss_one (ps_ret pe_non))
    pss_nil)
    (pss_cons (ps_set (i := 1) sc_read_whole.nd rfl (Or.inl rfl) (pe_op op_mod (pe_callB (call_lenV (K := K) rfl) (by rfl) T.m_len (by decide +kernel) (pa_cons (pv 0) pa_nil)) (pe_glob (v := .int 60) rfl T.c_FIGURES_AT_ONCE ⟨_, rfl⟩)))
    (pss_cons (ps_set (i := 2) sc_read_whole.nd rfl (Or.inl rfl) (pe_callTy call_int_str (by rfl) T.m_int (by decide +kernel) (pa_cons (pe_op op_add_str pe_str (pe_slice sl_str (pv 0) po_none (po_some (pv 1)))) pa_nil)))
    (pss_cons (ps_for PassesOwn.never rfl (pi_range3 (by rfl) T.m_range (pa_cons (pv 1) (pa_cons (pe_callB (call_lenV (K := K) rfl) (by rfl) T.m_len (by decide +kernel) (pa_cons (pv 0) pa_nil)) (pa_cons (pe_glob (v := .int 60) rfl T.c_FIGURES_AT_ONCE ⟨_, rfl⟩) pa_nil)))) (pg_name (i := 3) sc_read_whole.nd rfl (Or.inl rfl))
    (pss_one ps_never))
    (pss_one (ps_ret (pv 2))))))), ?_⟩
    walk_at "ww"
    refine ⟨v, hp, rfl, fun H1 e1 => ?_⟩
    have hl := hp.len
    cases hp with
    | s hz =>
      simp only [wholeV]
      walk_at "ww"
      exact k _ e1
    | i n0 n1 =>
      rename_i n
      have N := numT_ok n0 n1
      simp only [wholeV]
      generalize et : partT (V.int (n : Int)) = t at hl ⊢
      have et' : numT n = t := et
      rw [et'] at N
      walk_at "ww"
      refine wLenS (sz6 (by omega)) ?_
      walk_at "ww"
      have el : ((t.length : Nat) : Int) % 60 = (t.length : Int) := by omega
      rw [el]
      walk_at "ww"
      rw [cut_all]
      have l0 : ((Str.ofString "0")).length = 1 := by decide +kernel
      refine ⟨sz6 (by omega), ?_⟩
      walk_at "ww"
      refine ⟨_, (n : Int), rfl, N.reads, by rw [app_len]; omega, ?_⟩
      walk_at "ww"
      refine wLenS (sz6 (by omega)) ?_
      walk_at "ww"
      have rg : ∀ L, L < 9 → RgC ((L : Nat) : Int) ((L : Nat) : Int) 60 0 := by unfold RgC; decide
      refine ⟨_, _, _, 0, rfl, rg _ (by omega), ?_⟩
      refine for_rangeC (fun i σ H' => σ = [some (.str t), some (.int (t.length : Int)), some (.int (n : Int)), none] ∧ H' = H1) ⟨rfl, rfl⟩ (fun i σ H' hi _ => absurd hi (Nat.not_lt_zero _)) (fun σ H' q => ?_)
      obtain ⟨rfl, rfl⟩ := q
      walk_at "ww"
      exact k _ e1
theorem ok_read_part (T : Tx P K mg A) : FnOk P w K mg base CX0 3 A.f_read_part A.d_read_part ["word"] (spRead fun v => v) := by
  refine T.F_read_part.ok sc_read_part (fun vs H Q E h => ?_) (fun cdv A' outer s H vs Q E hr h => ?_)
  · obtain ⟨v, _, rfl, _⟩ := h
    rfl
  · obtain ⟨v, hp, rfl, k⟩ := h
    refine ⟨_, (pss_cons (ps_set (i := 1) sc_read_part.nd rfl (Or.inl rfl) (pe_call (ok_read_whole T) (hr.mono (by decide)) (by rfl) T.g_read_whole T.F_read_whole.kp T.b_read_whole .nil pass0 (pa_cons (pv 0) pa_nil)))
    (pss_one (ps_ret (pe_ifExp (pt_cmpR op_isN (pv 1) pe_non (nomark _)) (pv 0) (pv 1))))), ?_⟩
    walk_at "ww"
    refine ⟨v, hp, rfl, fun H1 e1 => ?_⟩
    cases hp with
    | s hz =>
      rename_i z
      have en : numV (.str z) = .non := rfl
      rw [en]
      walk_at "ww"
      refine ⟨rfl, ?_⟩
      walk_at "ww"
      rw [decide_eq_true (rfl : V.non = V.non)]
      walk_at "ww"
      exact k _ e1
    | i n0 n1 =>
      rename_i n
      have en : numV (.int (n : Int)) = .int (n : Int) := rfl
      rw [en]
      walk_at "ww"
      refine ⟨rfl, ?_⟩
      walk_at "ww"
      rw [show decide (V.int (n : Int) = V.non) = false from decide_eq_false (fun z => nomatch z)]
      walk_at "ww"
      exact k _ e1
/-- rows of deeds -/
inductive Dl (H : Hp) : List Addr → List (List V) → Prop
  | nil : Dl H [] []
  | cons {r xs rs pp} (h : H r = some (.tup xs)) (t : Dl H rs pp) : Dl H (r :: rs) (xs :: pp)
theorem Dl.ex {H G : Hp} (e : Ex H G) : ∀ {rs : List Addr} {pp : List (List V)}, Dl H rs pp → Dl G rs pp
  | _, _, .nil => .nil
  | _, _, .cons h t => .cons (e _ _ h) (t.ex e)
theorem Dl.length {H : Hp} : ∀ {rs : List Addr} {pp : List (List V)}, Dl H rs pp → rs.length = pp.length
  | _, _, .nil => rfl
  | _, _, .cons _ t => congrArg Nat.succ t.length
theorem Dl.snoc {H : Hp} {r : Addr} {xs : List V} (h : H r = some (.tup xs)) : ∀ {rs : List Addr} {pp : List (List V)}, Dl H rs pp → Dl H (rs ++ [r]) (pp ++ [xs])
  | _, _, .nil => .cons h .nil
  | _, _, .cons q t => .cons q (t.snoc h)
theorem Dl.at_ {H : Hp} : ∀ {rs : List Addr} {pp : List (List V)} {i : Nat} {v : V}, Dl H rs pp → (rs.map V.ref)[i]? = some v → ∃ r xs, v = .ref r ∧ pp[i]? = some xs ∧ H r = some (.tup xs)
  | _, _, 0, _, .cons h _, e => ⟨_, _, (Option.some.inj e).symm, rfl, h⟩
  | _, _, i + 1, _, .cons _ t, e => Dl.at_ (i := i) t e
theorem Dl.kp {H G : Hp} {l : Addr} {ys : List V} (hl : H l = some (.lst ys)) (e : Kp l H G) : ∀ {rs : List Addr} {pp : List (List V)}, Dl H rs pp → Dl G rs pp
  | _, _, .nil => .nil
  | _, _, .cons h t => .cons (e _ _ (fun z => by rw [z, hl] at h; cases h) h) (t.kp hl e)
/-- a book at a -/
def Bk (H : Hp) (a : Addr) (pp : List (List V)) : Prop := ∃ rs, H a = some (.tup (rs.map V.ref)) ∧ Dl H rs pp
theorem Bk.ex {H G : Hp} {a : Addr} {pp : List (List V)} (e : Ex H G) (h : Bk H a pp) : Bk G a pp := h.elim fun rs q => ⟨rs, e _ _ q.1, q.2.ex e⟩
def Deeds (pp : List (List V)) : Prop := (∀ xs ∈ pp, deedL xs = true) ∧ pp.length ≤ 60
theorem Pt.thing {H : Hp} {v : V} (h : Pt v) : Thing K H v := by
  cases h with
  | s h => exact .s (by have := h.l; omega)
  | i => exact .i
theorem deed_tp {H : Hp} {a : Addr} {xs : List V} (h : H a = some (.tup xs)) (d : deedL xs = true) : Tp K H a xs :=
  ⟨h, by have := (deed_parts d).2.2; omega, fun x hx => ((deed_parts d).1 x hx).thing⟩
def spReadDeed : Sp := fun vs H Q _ => ∃ xs, deedL xs = true ∧ vs = [.str (lineT xs)] ∧ ∀ t H', Ex H H' → H' t = some (.tup xs) → Q (.ref t) H'
theorem ok_read_deed (T : Tx P K mg A) : FnOk P w K mg base CX0 5 A.f_read_deed A.d_read_deed ["line"] spReadDeed := by
  refine T.F_read_deed.ok sc_read_deed (fun vs H Q E h => ?_) (fun cdv A' outer s H vs Q E hr h => ?_)
  · obtain ⟨xs, _, rfl, _⟩ := h
    rfl
  · obtain ⟨xs, hd, rfl, k⟩ := h
    refine ⟨_, (pss_cons (ps_set (i := 1) sc_read_deed.nd rfl (Or.inl rfl) (pe_callTy (call_tuple_ofV (K := K) rfl) (by rfl) T.m_tuple (by decide +kernel) (pa_cons (pe_lc rfl sc_read_deed.nd (g := gName 2) (pi_listV (K := K) rfl (pe_split (pv 0) pe_str)) (blkOk_by (own := [("word", 2)]) (N := ["line", "deed", "word"]) (sc := defScope s_read_deed) (by decide +kernel)) (fun _ _ _ _ _ => (pg_name (i := 2) sc_read_deed.nd rfl (Or.inl rfl))) (fun _ _ _ _ _ => pts_nil) (fun _ _ _ _ _ => (pe_call (ok_read_part T) (hr.mono (by decide)) (by rfl) T.g_read_part T.F_read_part.kp T.b_read_part .nil pass0 (pa_cons (pv 2) pa_nil)))) pa_nil)))
    (pss_one (ps_ret (pe_ifExp (pt_val (pe_call (ok_is_deed T) (hr.mono (by decide)) (by rfl) T.g_is_deed T.F_is_deed.kp T.b_is_deed .nil pass0 (pa_cons (pv 1) pa_nil))) (pv 1) pe_non)))), ?_⟩
    have hl := line_len hd
    walk_at "ww"
    refine ⟨_, _, rfl, rfl, rfl, sz6 (by omega), fun l nl => ?_⟩
    rw [line_split hd]
    have el : Ex H (upd H l (.lst ((xs.map partT).map V.str))) := Ex.new nl
    have fl : (upd H l (.lst ((xs.map partT).map V.str))) l = some (.lst ((xs.map partT).map V.str)) := upd_same
    generalize upd H l (.lst ((xs.map partT).map V.str)) = H1 at el fl ⊢
    refine exSq (SqL.of fl) ?_
    intro D hD
    refine lcList (K := K) (a := l) (xs := (xs.map partT).map V.str) (fun H' => Ex H1 H') (fun i y _ => xs[i]? = some y) (fun _ => rfl) (Ex.new hD) (fun H' e => SqL.of (e _ _ fl)) (fun i y hy H2 acc hI hD2 hl2 hR => ?_) (fun H2 ys hI hD2 hl2 hR => ?_)
    · rw [List.map_map, List.getElem?_map] at hy
      obtain ⟨x, hx, rfl⟩ := Option.map_eq_some_iff.mp hy
      walk_at "ww"
      refine ⟨x, (deed_parts hd).1 x (List.mem_of_getElem? hx), rfl, fun H3 e3 => ?_⟩
      have hi : i < xs.length := (List.getElem?_eq_some_iff.mp hx).1
      have l5 := (deed_parts hd).2.2
      exact lcAdd (e3 _ _ hD2) hl2 (by omega) ((hI.trans e3).mut hD) hR hx
    · have ey : ys = xs := by
        rw [List.length_map, List.length_map] at hl2
        refine List.ext_getElem? fun j => ?_
        cases e : ys[j]? with
        | none =>
          rw [List.getElem?_eq_none_iff] at e
          rw [List.getElem?_eq_none (by omega)]
        | some y => exact (hR j y e).symm
      subst ey
      walk_at "ww"
      refine ⟨D, ys, rfl, .inl ⟨SqL.of hD2, fun t nt => ?_⟩⟩
      have et : Ex H2 (upd H2 t (.tup ys)) := Ex.new nt
      have ft : (upd H2 t (.tup ys)) t = some (.tup ys) := upd_same
      generalize upd H2 t (.tup ys) = H3 at et ft ⊢
      walk_at "ww"
      refine ⟨_, _, rfl, .tup (deed_tp ft hd), fun H4 e4 => ?_⟩
      rw [hd]
      walk_at "ww"
      exact k t H4 (((el.trans hI).trans et).trans e4) (e4 _ _ ft)
def spLines : Sp := fun vs H Q _ => ∃ pp, Deeds pp ∧ vs = [.str (bookT pp)] ∧ ∀ l H', H l = none → Ex H H' → H' l = some (.lst ((pp.map lineT).map V.str)) → Q (.ref l) H'
theorem ok_lines_of (T : Tx P K mg A) : FnOk P w K mg base CX0 1 A.f_lines_of A.d_lines_of ["text"] spLines := by
  refine T.F_lines_of.ok sc_lines_of (fun vs H Q E h => ?_) (fun cdv A' outer s H vs Q E hr h => ?_)
  · obtain ⟨pp, _, rfl, _⟩ := h
    rfl
  · obtain ⟨pp, hd, rfl, k⟩ := h
    refine ⟨_, (pss_cons (ps_if (pt_not (pt_val (pe_callB (call_isiV (K := K) rfl) (by rfl) T.m_isinstance (by decide +kernel) (pa_cons (pv 0) (pa_cons (pe_bltn (v := .ty "str") (by rfl) T.m_str (by decide +kernel) rfl) pa_nil)))))
    (pss_one ps_never)
    pss_nil)
    (pss_cons (ps_if (pt_cmpR op_eq (pv 0) pe_str (nomark _))
    (pss_one (ps_ret (pe_lst pa_nil)))
    pss_nil)
    (pss_one (ps_ret (pe_split (pv 0) pe_str))))), ?_⟩
    have hl := (book_len hd.1 hd.2).2
    walk_at "ww"
    by_cases ne : pp = []
    · subst ne
      have e0 : decide (V.str (bookT []) = V.str "") = true := by decide +kernel
      rw [e0]
      walk_at "ww"
      exact alI fun l H1 n1 e1 f1 => k l H1 n1 e1 f1
    · have h1 := book_some ne hd.1
      have e0 : decide (V.str (bookT pp) = V.str "") = false := decide_eq_false fun e => by
        rw [V.str.inj e] at h1
        exact absurd h1 (by decide +kernel)
      rw [e0]
      walk_at "ww"
      refine ⟨_, _, rfl, rfl, rfl, sz6 (by omega), fun l nl => ?_⟩
      rw [book_split ne hd.1]
      exact k l _ nl (Ex.new nl) upd_same
theorem take_snoc {α : Type} : ∀ {xs : List α} {i : Nat} {x : α}, xs[i]? = some x → xs.take (i + 1) = xs.take i ++ [x]
  | _ :: _, 0, _, h => by cases h; rfl
  | a :: xs, i + 1, x, h => by
    show a :: xs.take (i + 1) = a :: (xs.take i) ++ [x]
    rw [take_snoc (xs := xs) (i := i) h]
    rfl
def spReadBook : Sp := fun vs H Q _ => ∃ pp, Deeds pp ∧ vs = [.str (bookT pp)] ∧ ∀ t H', Ex H H' → Bk H' t pp → Q (.ref t) H'
theorem ok_read_book (T : Tx P K mg A) : FnOk P w K mg base CX0 6 A.f_read_book A.d_read_book ["text"] spReadBook := by
  refine T.F_read_book.ok sc_read_book (fun vs H Q E h => ?_) (fun cdv A' outer s H vs Q E hr h => ?_)
  · obtain ⟨pp, _, rfl, _⟩ := h
    rfl
  · obtain ⟨pp, hd, rfl, k⟩ := h
    refine ⟨_, (pss_cons (ps_set (i := 1) sc_read_book.nd rfl (Or.inl rfl) (pe_lst pa_nil))
    (pss_cons (ps_for PassesOwn.never rfl (pi_enum (by rfl) T.m_enumerate (pa_cons (pe_call (ok_lines_of T) (hr.mono (by decide)) (by rfl) T.g_lines_of T.F_lines_of.kp T.b_lines_of .nil pass0 (pa_cons (pv 0) pa_nil)) pa_nil)) (pg_tupV (K := K) (n := 2) rfl rfl (pgs_cons (pg_name (i := 2) sc_read_book.nd rfl (Or.inl rfl)) (pgs_cons (pg_name (i := 3) sc_read_book.nd rfl (Or.inl rfl)) pgs_nil)) rfl)
    (pss_cons (ps_set (i := 4) sc_read_book.nd rfl (Or.inl rfl) (pe_call (ok_read_deed T) (hr.mono (by decide)) (by rfl) T.g_read_deed T.F_read_deed.kp T.b_read_deed .nil pass0 (pa_cons (pv 3) pa_nil)))
      (pss_cons (ps_if (PW.pt (pw_or (pt_cmpR op_isN (pv 4) pe_non (nomark _)) (pw_or1 (pt_cmpR op_ge (pv 2) (pe_glob (v := .int 60) rfl T.c_MOST_DEEDS ⟨_, rfl⟩) (nomark _)))))
      (pss_one ps_never)
      pss_nil)
      (pss_one (ps_expr (pe_bm PySem.F.plainAttrs_list PySem.F.slot_list_append PySem.F.type_list_append mt_append (pv 1) (pa_cons (pv 4) pa_nil)))))))
    (pss_one (ps_ret (pe_callTy (call_tuple_ofV (K := K) rfl) (by rfl) T.m_tuple (by decide +kernel) (pa_cons (pv 1) pa_nil)))))), ?_⟩
    walk_at "ww"
    refine alI fun b H1 nb e1 fb => ?_
    walk_at "ww"
    refine ⟨pp, hd, rfl, fun l H2 nl e2 fl => ?_⟩
    walk_at "ww"
    refine ⟨_, _, rfl, SqL.of fl, ?_⟩
    have nlb : l ≠ b := fun z => by rw [z, fb] at nl; cases nl
    refine for_enL (K := K) (a := l) (xs := (pp.map lineT).map V.str) (fun i σ H' => ∃ v2 v3 v4 rs, σ = [some (.str (bookT pp)), some (.ref b), v2, v3, v4] ∧ Ex H H' ∧ H' l = some (.lst ((pp.map lineT).map V.str)) ∧ H' b = some (.lst (rs.map V.ref)) ∧ Dl H' rs (pp.take i)) ⟨none, none, none, [], rfl, e1.trans e2, fl, e2 _ _ fb, .nil⟩ (fun i σ H' ⟨_, _, _, _, _, _, q, _⟩ => SqL.of q) ?_ ?_
    · rintro i x T0 σ H3 hx ⟨v2, v3, v4, rs, rfl, e3, fl3, fb3, dl⟩ nT
      rw [List.map_map, List.getElem?_map] at hx
      obtain ⟨xs, hxs, rfl⟩ := Option.map_eq_some_iff.mp hx
      have hi : i < pp.length := (List.getElem?_eq_some_iff.mp hxs).1
      have hd60 := hd.2
      have dx := hd.1 xs (List.mem_of_getElem? hxs)
      have eT : Ex H3 (upd H3 T0 (.tup [.int (i : Nat), .str (lineT xs)])) := Ex.new nT
      have fT : (upd H3 T0 (.tup [.int (i : Nat), .str (lineT xs)])) T0 = some (.tup [.int (i : Nat), .str (lineT xs)]) := upd_same
      show gTup K 2 _ _ _ (upd H3 T0 (.tup [.int (i : Nat), .str (lineT xs)])) _
      generalize upd H3 T0 (.tup [.int (i : Nat), .str (lineT xs)]) = H4 at eT fT ⊢
      refine wGTup (SqT.of fT) rfl ?_
      walk_at "ww"
      refine ⟨xs, dx, rfl, fun t H5 e5 ft => ?_⟩
      have fb5 := (eT.trans e5) _ _ fb3
      have fl5 := (eT.trans e5) _ _ fl3
      walk_at "ww"
      refine ⟨rfl, ?_⟩
      walk_at "ww"
      rw [show decide (V.ref t = V.non) = false from decide_eq_false (fun z => nomatch z)]
      walk_at "ww"
      rw [decide_eq_false (show ¬ (60 : Int) ≤ ((i : Nat) : Int) by omega)]
      walk_at "ww"
      refine anTyL fb5 ?_
      walk_at "ww"
      have len := dl.length
      rw [List.length_take] at len
      refine wAppend fb5 (by rw [List.length_map]; omega) ?_
      have D5 := (dl.ex (eT.trans e5)).snoc ft
      refine ⟨_, _, _, rs ++ [t], rfl, (e3.trans (eT.trans e5)).mut nb, (upd_ne nlb).trans fl5, by rw [List.map_append]; exact upd_same, ?_⟩
      rw [take_snoc hxs]
      exact D5.kp fb5 Kp.set
    · rintro σ H3 ⟨v2, v3, v4, rs, rfl, e3, fl3, fb3, dl⟩
      rw [List.length_map, List.length_map, List.take_length] at dl
      walk_at "ww"
      refine ⟨b, _, rfl, .inl ⟨SqL.of fb3, fun t nt => ?_⟩⟩
      exact k t _ (e3.trans (Ex.new nt)) ⟨rs, upd_same, dl.ex (Ex.new nt)⟩
/-! ### showing -/
theorem ok_show_whole (T : Tx P K mg A) : FnOk P w K mg base CX0 1 A.f_show_whole A.d_show_whole ["number"] (fun vs H Q _ => ∃ n : Nat, vs = [.int (n : Int)] ∧ 1 ≤ n ∧ n ≤ 9999 ∧ ∀ H', Ex H H' → Q (.str (partT (.int (n : Int)))) H') := by
  refine T.F_show_whole.ok sc_show_whole (fun vs H Q E h => ?_) (fun cdv A' outer s H vs Q E hr h => ?_)
  · obtain ⟨n, rfl, _⟩ := h
    rfl
  · obtain ⟨n, rfl, n0, n1, k⟩ := h
    refine ⟨_, (pss_cons (ps_set (i := 1) sc_show_whole.nd rfl (Or.inl rfl) (pe_lst pa_nil))
    (pss_cons (ps_while PassesOwn.never (pt_cmpR op_ge (pv 0) (pe_glob (v := .int 1000000000000000000000000000000000000000000000000000000000000) rfl T.c_LIMIT_AT_ONCE ⟨_, rfl⟩) (nomark _))
    (pss_cons ps_never
      (pss_one ps_never)))
    (pss_cons (ps_expr (pe_bm PySem.F.plainAttrs_list PySem.F.slot_list_append PySem.F.type_list_append mt_append (pv 1) (pa_cons (pe_callTy call_strIS (by rfl) T.m_str (by decide +kernel) (pa_cons (pv 0) pa_nil)) pa_nil)))
    (pss_one (ps_ret (pe_joinV (K := K) rfl pe_str (pe_revL (K := K) rfl (pv 1)))))))), ?_⟩
    walk_at "ww"
    refine alI fun l H1 nl e1 fl => ?_
    walk_at "ww"
    refine ⟨fun m σ H' => σ = [some (.int (n : Int)), some (.ref l), none] ∧ H' = H1, ⟨0, rfl, rfl⟩, ?_⟩
    rintro m σ H' ⟨rfl, rfl⟩
    walk_at "ww"
    rw [decide_eq_false (show ¬ (1000000000000000000000000000000000000000000000000000000000000 : Int) ≤ (n : Int) by omega)]
    walk_at "ww"
    refine anTyL fl ?_
    walk_at "ww"
    refine .inl ⟨_, rfl, log_small (Nat.lt_of_le_of_lt (show ((n : Nat) : Int).natAbs ≤ 9999 by omega) (by decide +kernel)), ?_⟩
    walk_at "ww"
    refine wAppend fl (by decide) ?_
    walk_at "ww"
    refine ⟨l, _, rfl, SqL.of upd_same, alI fun l2 H3 n3 e3 f3 => ?_⟩
    have N := (numT_ok n0 n1).len
    walk_at "ww"
    have sz : ([numT n].map (·.length)).sum + [numT n].length * ((Str.ofString "")).length ≤ 16777216 := by
      have e0 : ((Str.ofString "")).length = 0 := by decide +kernel
      rw [e0]
      simp
      omega
    refine ⟨_, _, [numT n], rfl, rfl, .inl (SqL.of f3), sz, ?_⟩
    rw [TL.join_eq]
    exact k _ ((e1.mut nl).trans e3)
def partF (v : V) : V := .str (partT v)
/-- a tuple's parts, each made a text, then joined -/
theorem Pt.str_is {H : Hp} {v : V} (h : Pt v) : Ty K H v (if wholeV v = true then "int" else "str") := by
  cases h with
  | s h => exact .str _
  | i => exact .int _
theorem ok_show_deed (T : Tx P K mg A) : FnOk P w K mg base CX0 2 A.f_show_deed A.d_show_deed ["deed"] (fun vs H Q _ => ∃ (a : Addr) (xs : List V), vs = [.ref a] ∧ H a = some (.tup xs) ∧ deedL xs = true ∧ ∀ H', Ex H H' → Q (.str (lineT xs)) H') := by
  refine T.F_show_deed.ok sc_show_deed (fun vs H Q E h => ?_) (fun cdv A' outer s H vs Q E hr h => ?_)
  · obtain ⟨a, xs, rfl, _⟩ := h
    rfl
  · obtain ⟨a, xs, rfl, ha, hd, k⟩ := h
    refine ⟨_, (pss_one (ps_ret (pe_joinV (K := K) rfl pe_str (pe_lc rfl sc_show_deed.nd (g := gName 1) (pi_tupV (K := K) rfl (pv 0)) (blkOk_by (own := [("part", 1)]) (N := ["deed", "part"]) (sc := defScope s_show_deed) (by decide +kernel)) (fun _ _ _ _ _ => (pg_name (i := 1) sc_show_deed.nd rfl (Or.inl rfl))) (fun _ _ _ _ _ => pts_nil) (fun _ _ _ _ _ => (pe_ifExp (pt_val (pe_callB (call_isiV (K := K) rfl) (by rfl) T.m_isinstance (by decide +kernel) (pa_cons (pv 1) (pa_cons (pe_bltn (v := .ty "str") (by rfl) T.m_str (by decide +kernel) rfl) pa_nil)))) (pv 1) (pe_call (ok_show_whole T) (hr.mono (by decide)) (by rfl) T.g_show_whole T.F_show_whole.kp T.b_show_whole .nil pass0 (pa_cons (pv 1) pa_nil)))))))), ?_⟩
    have l5 := (deed_parts hd).2.2
    walk_at "ww"
    refine exSt (SqT.of ha) ?_
    intro D hD
    refine lcTup (K := K) (a := a) (xs := xs) (fun H' => Ex H H') (fun i y _ => ∃ x, xs[i]? = some x ∧ y = .str (partT x)) (fun _ => rfl) (Ex.new hD) (fun H' e => SqT.of (e _ _ ha)) (fun i x hx H2 acc hI hD2 hl2 hR => ?_) (fun H2 ys hI hD2 hl2 hR => ?_)
    · have hi : i < xs.length := (List.getElem?_eq_some_iff.mp hx).1
      have px := (deed_parts hd).1 x (List.mem_of_getElem? hx)
      walk_at "ww"
      cases px with
      | s hz =>
        refine wIsi (.str _) (b := true) (by decide +kernel) ?_
        walk_at "ww"
        exact lcAdd hD2 hl2 (by omega) (hI.mut hD) hR ⟨_, hx, rfl⟩
      | i n0 n1 =>
        refine wIsi (.int _) (b := false) (by decide +kernel) ?_
        walk_at "ww"
        refine ⟨_, rfl, n0, n1, fun H3 e3 => ?_⟩
        exact lcAdd (e3 _ _ hD2) hl2 (by omega) ((hI.trans e3).mut hD) hR ⟨_, hx, rfl⟩
    · have ey : ys = (xs.map partT).map V.str := by
        refine List.ext_getElem? fun j => ?_
        rw [List.map_map, List.getElem?_map]
        cases e : ys[j]? with
        | none =>
          rw [List.getElem?_eq_none_iff] at e
          rw [List.getElem?_eq_none (by omega)]
          rfl
        | some y =>
          obtain ⟨x, q1, q2⟩ := hR j y e
          rw [q1, q2]
          rfl
      rw [ey] at hD2
      walk_at "ww"
      refine ⟨_, _, xs.map partT, rfl, rfl, .inl (SqL.of hD2), ?_, k _ hI⟩
      have q := sum_le (xs := xs.map partT) (n := 8) fun t ht => by
        obtain ⟨x, hx, rfl⟩ := List.mem_map.mp ht
        exact ((deed_parts hd).1 x hx).len.2
      have e1 : ((Str.ofString " ")).length = 1 := by decide +kernel
      rw [e1]
      rw [List.length_map] at q ⊢
      omega
def numB : Option Nat → V
  | none => .non
  | some i => .int (i : Int)
/-- why a thing is no book: its number -/
inductive Nb (K : PySem.W.Frag) (H : Hp) : V → Option Nat → Prop
  | kind {v n} (h : Ty K H v n) (ne : kitB n "tuple" = some false) : Nb K H v none
  | long {a xs} (h : H a = some (.tup xs)) (l : 60 < xs.length) : Nb K H (.ref a) none
  | bad {a xs i x} (h : H a = some (.tup xs)) (l : xs.length ≤ 60) (hi : xs[i]? = some x) (d : Dd K H x false) (ahead : ∀ (j : Nat) y, j < i → xs[j]? = some y → Dd K H y true) : Nb K H (.ref a) (some i)
theorem Nb.ex {H H' : Hp} {v : V} {o : Option Nat} (e : Ex H H') (h : Nb K H v o) : Nb K H' v o := by
  cases h with
  | kind h ne => exact .kind (h.ex e) ne
  | long h l => exact .long (e _ _ h) l
  | bad h l hi d ahead => exact .bad (e _ _ h) l hi (d.ex e) fun j y q z => (ahead j y q z).ex e
def Bad (C : Addr) (H : Hp) (E : XK) (o : Option Nat) : Prop := ∀ H' d, Ex H H' → H' d = none → E (.ref C) (some d) (upd H' d (.xd [("number", numB o)]))
def spCheck (K : PySem.W.Frag) (C : Addr) : Sp := fun vs H Q E => ∃ v, vs = [v] ∧ ((∃ a xs, v = .ref a ∧ H a = some (.tup xs) ∧ xs.length ≤ 60 ∧ (∀ x ∈ xs, Dd K H x true) ∧ ∀ H', Ex H H' → Q .non H') ∨ ∃ o, Nb K H v o ∧ Bad C H E o)
theorem ok_check_book (T : Tx P K mg A) : FnOk P w K mg base (L2.CX P w) 5 A.f_check_book A.d_check_book ["book"] (spCheck K A.c_NoBook) := by
  refine T.F_check_book.okX sc_check_book (fun vs H Q E h => ?_) (fun cdv A' outer s H vs Q E hr h => ?_)
  · obtain ⟨v, rfl, _⟩ := h
    rfl
  · obtain ⟨v, rfl, h⟩ := h
    refine ⟨_, (pss_cons (ps_if (PW.pt (pw_or (pt_not (pt_val (pe_callB (call_isiV (K := K) rfl) (by rfl) T.m_isinstance (by decide +kernel) (pa_cons (pv 0) (pa_cons (pe_bltn (v := .ty "tuple") (by rfl) T.m_tuple (by decide +kernel) rfl) pa_nil))))) (pw_or1 (pt_cmpR op_gt (pe_callB (call_lenV (K := K) rfl) (by rfl) T.m_len (by decide +kernel) (pa_cons (pv 0) pa_nil)) (pe_glob (v := .int 60) rfl T.c_MOST_DEEDS ⟨_, rfl⟩) (nomark _)))))
    (pss_one (ps_raiseSup rfl T.sup_NoBook hr (takes_of rfl rfl rfl rfl) (pa_cons pe_non pa_nil) (by rfl)))
    pss_nil)
    (pss_one (ps_for (passes_of rfl) rfl (EnT.pi_enT (K := K) rfl (by rfl) T.m_enumerate (pa_cons (pv 0) pa_nil)) (pg_tupV (K := K) (n := 2) rfl rfl (pgs_cons (pg_name (i := 1) sc_check_book.nd rfl (Or.inl rfl)) (pgs_cons (pg_name (i := 2) sc_check_book.nd rfl (Or.inl rfl)) pgs_nil)) rfl)
    (pss_one (ps_if (pt_not (pt_val (pe_call (ok_is_deed T) (hr.mono (by decide)) (by rfl) T.g_is_deed T.F_is_deed.kp T.b_is_deed .nil pass0 (pa_cons (pv 2) pa_nil))))
      (pss_one (ps_raiseSup rfl T.sup_NoBook hr (takes_of rfl rfl rfl rfl) (pa_cons (pv 1) pa_nil) (by rfl)))
      pss_nil))))), ?_⟩
    have tt : kitB "tuple" "tuple" = some true := by decide +kernel
    walk_at "ww"
    rcases h with ⟨a, xs, rfl, ha, hl, hd, k⟩ | ⟨o, hn, kE⟩
    · refine wIsi (.tup ha) tt ?_
      walk_at "ww"
      refine wLenT (SqT.of ha) ?_
      walk_at "ww"
      rw [decide_eq_false (show ¬ (60 : Int) < ((xs.length : Nat) : Int) by omega)]
      walk_at "ww"
      refine ⟨a, xs, rfl, SqT.of ha, ?_⟩
      refine EnT.for_enT (K := K) (a := a) (xs := xs) (fun i σ H' => ∃ v1 v2, σ = [some (.ref a), v1, v2] ∧ Ex H H') ⟨none, none, rfl, Ex.refl _⟩ (fun i σ H' ⟨_, _, _, e⟩ => SqT.of (e _ _ ha)) ?_ ?_
      · rintro i x T0 σ H3 hx ⟨v1, v2, rfl, e3⟩ nT
        have eT : Ex H3 (upd H3 T0 (.tup [.int (i : Nat), x])) := Ex.new nT
        have fT : (upd H3 T0 (.tup [.int (i : Nat), x])) T0 = some (.tup [.int (i : Nat), x]) := upd_same
        show gTup K 2 _ _ _ (upd H3 T0 (.tup [.int (i : Nat), x])) _
        generalize upd H3 T0 (.tup [.int (i : Nat), x]) = H4 at eT fT ⊢
        refine wGTup (SqT.of fT) rfl ?_
        walk_at "ww"
        refine ⟨x, _, rfl, (hd x (List.mem_of_getElem? hx)).ex (e3.trans eT), fun H5 e5 => ?_⟩
        walk_at "ww"
        exact ⟨_, _, rfl, (e3.trans eT).trans e5⟩
      · rintro σ H3 ⟨v1, v2, rfl, e3⟩
        exact k _ e3
    · cases hn with
      | kind h ne =>
        refine wIsi h ne ?_
        walk_at "ww"
        exact ⟨_, rfl, fun d hd => kE _ d (Ex.refl _) hd⟩
      | long h l =>
        rename_i a xs
        refine wIsi (.tup h) tt ?_
        walk_at "ww"
        refine wLenT (SqT.of h) ?_
        walk_at "ww"
        rw [decide_eq_true (show (60 : Int) < ((xs.length : Nat) : Int) by omega)]
        walk_at "ww"
        exact ⟨_, rfl, fun d hd => kE _ d (Ex.refl _) hd⟩
      | bad ha hl hi dd ahead =>
        rename_i a xs ib xb
        refine wIsi (.tup ha) tt ?_
        walk_at "ww"
        refine wLenT (SqT.of ha) ?_
        walk_at "ww"
        rw [decide_eq_false (show ¬ (60 : Int) < ((xs.length : Nat) : Int) by omega)]
        walk_at "ww"
        refine ⟨a, xs, rfl, SqT.of ha, ?_⟩
        refine EnT.for_enT (K := K) (a := a) (xs := xs) (fun i σ H' => ∃ v1 v2, σ = [some (.ref a), v1, v2] ∧ Ex H H' ∧ i ≤ ib) ⟨none, none, rfl, Ex.refl _, Nat.zero_le _⟩ (fun i σ H' ⟨_, _, _, e, _⟩ => SqT.of (e _ _ ha)) ?_ ?_
        · rintro i x T0 σ H3 hx ⟨v1, v2, rfl, e3, hle⟩ nT
          have eT : Ex H3 (upd H3 T0 (.tup [.int (i : Nat), x])) := Ex.new nT
          have fT : (upd H3 T0 (.tup [.int (i : Nat), x])) T0 = some (.tup [.int (i : Nat), x]) := upd_same
          show gTup K 2 _ _ _ (upd H3 T0 (.tup [.int (i : Nat), x])) _
          generalize upd H3 T0 (.tup [.int (i : Nat), x]) = H4 at eT fT ⊢
          refine wGTup (SqT.of fT) rfl ?_
          walk_at "ww"
          by_cases c : i = ib
          · subst c
            rw [hi] at hx
            cases hx
            refine ⟨_, _, rfl, dd.ex (e3.trans eT), fun H5 e5 => ?_⟩
            walk_at "ww"
            exact ⟨_, rfl, _, rfl, fun d hd => kE _ d ((e3.trans eT).trans e5) hd⟩
          · refine ⟨x, _, rfl, (ahead i x (by omega) hx).ex (e3.trans eT), fun H5 e5 => ?_⟩
            walk_at "ww"
            exact ⟨_, _, rfl, (e3.trans eT).trans e5, by omega⟩
        · rintro σ H3 ⟨v1, v2, rfl, e3, hle⟩
          have := (List.getElem?_eq_some_iff.mp hi).1
          omega
theorem Dl.dd {H : Hp} : ∀ {rs : List Addr} {pp : List (List V)}, Dl H rs pp → (∀ xs ∈ pp, deedL xs = true) → ∀ x ∈ rs.map V.ref, Dd K H x true
  | _, _, .nil, _ => fun x hx => by cases hx
  | _, _, .cons (xs := xs) h t, hd => fun x hx => by
    rcases List.mem_cons.mp hx with rfl | hx
    · have q := hd xs List.mem_cons_self
      have z : Dd K H (.ref _) (deedL xs) := .tup (deed_tp h q)
      rw [q] at z
      exact z
    · exact t.dd (fun ys hy => hd ys (List.mem_cons_of_mem _ hy)) x hx
def spShow (K : PySem.W.Frag) (C : Addr) : Sp := fun vs H Q E => ∃ v, vs = [v] ∧ ((∃ a pp, v = .ref a ∧ Bk H a pp ∧ Deeds pp ∧ ∀ H', Ex H H' → Q (.str (bookT pp)) H') ∨ ∃ o, Nb K H v o ∧ Bad C H E o)
theorem ok_show_book (T : Tx P K mg A) : FnOk P w K mg base (L2.CX P w) 6 A.f_show_book A.d_show_book ["book"] (spShow K A.c_NoBook) := by
  refine T.F_show_book.okX sc_show_book (fun vs H Q E h => ?_) (fun cdv A' outer s H vs Q E hr h => ?_)
  · obtain ⟨v, rfl, _⟩ := h
    rfl
  · obtain ⟨v, rfl, h⟩ := h
    refine ⟨_, (pss_cons (ps_expr (pe_callS (ok_check_book T) (hr.mono (by decide)) (by rfl) T.g_check_book T.F_check_book.kp T.b_check_book (fun σ => passAt (takes_of rfl rfl rfl rfl) σ) (pa_cons (pv 0) pa_nil)))
    (pss_one (ps_ret (pe_joinV (K := K) rfl pe_str (pe_lc rfl sc_show_book.nd (g := gName 1) (pi_tupV (K := K) rfl (pv 0)) (blkOk_by (own := [("deed", 1)]) (N := ["book", "deed"]) (sc := defScope s_show_book) (by decide +kernel)) (fun _ _ _ _ _ => (pg_name (i := 1) sc_show_book.nd rfl (Or.inl rfl))) (fun _ _ _ _ _ => pts_nil) (fun _ _ _ _ _ => (pe_call (ok_show_deed T) (hr.mono (by decide)) (by rfl) T.g_show_deed T.F_show_deed.kp T.b_show_deed .nil pass0 (pa_cons (pv 1) pa_nil)))))))), ?_⟩
    walk_at "ww"
    rcases h with ⟨a, pp, rfl, ⟨rs, ha, dl⟩, hd, k⟩ | ⟨o, hn, kE⟩
    · have len := dl.length
      have l60 := hd.2
      refine ⟨_, rfl, .inl ⟨a, _, rfl, ha, by rw [List.length_map]; omega, dl.dd hd.1, fun H1 e1 => ?_⟩⟩
      have ha1 := e1 _ _ ha
      have dl1 := dl.ex e1
      walk_at "ww"
      refine exSt (SqT.of ha1) ?_
      intro D hD
      refine lcTup (K := K) (a := a) (xs := rs.map V.ref) (fun H' => Ex H1 H') (fun i y _ => ∃ xs, pp[i]? = some xs ∧ y = .str (lineT xs)) (fun _ => rfl) (Ex.new hD) (fun H' e => SqT.of (e _ _ ha1)) (fun i x hx H2 acc hI hD2 hl2 hR => ?_) (fun H2 ys hI hD2 hl2 hR => ?_)
      · obtain ⟨r, xs, rfl, hxs, hr2⟩ := dl1.at_ hx
        have hi : i < pp.length := (List.getElem?_eq_some_iff.mp hxs).1
        walk_at "ww"
        refine ⟨r, xs, rfl, hI _ _ hr2, hd.1 xs (List.mem_of_getElem? hxs), fun H3 e3 => ?_⟩
        exact lcAdd (e3 _ _ hD2) hl2 (by omega) ((hI.trans e3).mut hD) hR ⟨_, hxs, rfl⟩
      · have ey : ys = (pp.map lineT).map V.str := by
          rw [List.length_map] at hl2
          refine List.ext_getElem? fun j => ?_
          rw [List.map_map, List.getElem?_map]
          cases e : ys[j]? with
          | none =>
            rw [List.getElem?_eq_none_iff] at e
            rw [List.getElem?_eq_none (by omega)]
            rfl
          | some y =>
            obtain ⟨x, q1, q2⟩ := hR j y e
            rw [q1, q2]
            rfl
        rw [ey] at hD2
        walk_at "ww"
        exact ⟨_, _, pp.map lineT, rfl, rfl, .inl (SqL.of hD2), Nat.le_trans (book_len hd.1 hd.2).1 (by decide), k _ (e1.trans hI)⟩
    · exact ⟨_, rfl, .inr ⟨o, hn, kE⟩⟩
theorem ok_Ltext (T : Tx P K mg A) : FnOk P w K mg base CX0 1 A.f_Ltext A.d_Ltext ["_law_pages"] (fun vs H Q _ => ∃ a pp, vs = [.ref a] ∧ Bk H a pp ∧ Deeds pp ∧ ∀ H', Ex H H' → Q (.str (bookT pp)) H') := by
  refine T.F_Ltext.ok sc_Ltext (fun vs H Q E h => ?_) (fun cdv A' outer s H vs Q E hr h => ?_)
  · obtain ⟨a, pp, rfl, _⟩ := h
    rfl
  · obtain ⟨a, pp, rfl, ⟨rs, ha, dl⟩, hd, k⟩ := h
    refine ⟨_, (pss_one (ps_ret (pe_joinV (K := K) rfl pe_str (pe_lc rfl sc_Ltext.nd (g := gName 1) (pi_tupV (K := K) rfl (pv 0)) (blkOk_by (own := [("_law_deed", 1)]) (N := ["_law_pages", "_law_deed", "_law_part"]) (sc := defScope s_Ltext) (by decide +kernel)) (fun _ _ _ _ _ => (pg_name (i := 1) sc_Ltext.nd rfl (Or.inl rfl))) (fun _ _ _ _ _ => pts_nil) (fun _ _ _ _ _ => by exact (pe_joinV (K := K) rfl pe_str (pe_lc rfl sc_Ltext.nd (g := gName 2) (pi_tupV (K := K) rfl (pv 1)) (blkOk_by (own := [("_law_part", 2)]) (by with_unfolding_all exact rfl)) (fun _ _ _ _ _ => (pg_name (i := 2) sc_Ltext.nd rfl (Or.inl rfl))) (fun _ _ _ _ _ => pts_nil) (fun _ _ _ _ _ => (pe_callTy call_strIS (by rfl) T.m_str (by decide +kernel) (pa_cons (pv 2) pa_nil)))))))))), ?_⟩
    have len := dl.length
    have l60 := hd.2
    walk_at "ww"
    refine exSt (SqT.of ha) ?_
    intro D hD
    refine lcTup (K := K) (a := a) (xs := rs.map V.ref) (fun H' => Ex H H') (fun i y _ => ∃ xs, pp[i]? = some xs ∧ y = .str (lineT xs)) (fun _ => rfl) (Ex.new hD) (fun H' e => SqT.of (e _ _ ha)) (fun i x hx H2 acc hI hD2 hl2 hR => ?_) (fun H2 ys hI hD2 hl2 hR => ?_)
    · obtain ⟨r, xs, rfl, hxs, hr2⟩ := dl.at_ hx
      have hi : i < pp.length := (List.getElem?_eq_some_iff.mp hxs).1
      have hdx := hd.1 xs (List.mem_of_getElem? hxs)
      have l5 := (deed_parts hdx).2.2
      have hr3 := hI _ _ hr2
      walk_at "ww"
      refine exSt (SqT.of hr3) ?_
      intro D2 hD2n
      refine lcTup (K := K) (a := r) (xs := xs) (fun H' => Ex H2 H') (fun i y _ => ∃ x, xs[i]? = some x ∧ y = .str (partT x)) (fun _ => rfl) (Ex.new hD2n) (fun H' e => SqT.of (e _ _ hr3)) (fun i2 x hx2 H3 acc2 hI3 hD3 hl3 hR3 => ?_) (fun H3 ys hI3 hD3 hl3 hR3 => ?_)
      · have hi2 : i2 < xs.length := (List.getElem?_eq_some_iff.mp hx2).1
        have px := (deed_parts hdx).1 x (List.mem_of_getElem? hx2)
        walk_at "ww"
        cases px with
        | s hz =>
          refine .inr ⟨_, rfl, ?_⟩
          exact lcAdd hD3 hl3 (by omega) (hI3.mut hD2n) hR3 ⟨_, hx2, rfl⟩
        | i n0 n1 =>
          rename_i n
          refine .inl ⟨_, rfl, log_small (Nat.lt_of_le_of_lt (show ((n : Nat) : Int).natAbs ≤ 9999 by omega) (by decide +kernel)), ?_⟩
          exact lcAdd hD3 hl3 (by omega) (hI3.mut hD2n) hR3 ⟨_, hx2, rfl⟩
      · have ey : ys = (xs.map partT).map V.str := by
          refine List.ext_getElem? fun j => ?_
          rw [List.map_map, List.getElem?_map]
          cases e : ys[j]? with
          | none =>
            rw [List.getElem?_eq_none_iff] at e
            rw [List.getElem?_eq_none (by omega)]
            rfl
          | some y =>
            obtain ⟨x, q1, q2⟩ := hR3 j y e
            rw [q1, q2]
            rfl
        rw [ey] at hD3
        walk_at "ww"
        refine ⟨_, _, xs.map partT, rfl, rfl, .inl (SqL.of hD3), ?_, ?_⟩
        · have q := sum_le (xs := xs.map partT) (n := 8) fun t ht => by
            obtain ⟨x, hx, rfl⟩ := List.mem_map.mp ht
            exact ((deed_parts hdx).1 x hx).len.2
          have e1 : ((Str.ofString " ")).length = 1 := by decide +kernel
          rw [e1]
          rw [List.length_map] at q ⊢
          omega
        · exact lcAdd (hI3 _ _ hD2) hl2 (by omega) ((hI.trans hI3).mut hD) hR ⟨_, hxs, rfl⟩
    · have ey : ys = (pp.map lineT).map V.str := by
        rw [List.length_map] at hl2
        refine List.ext_getElem? fun j => ?_
        rw [List.map_map, List.getElem?_map]
        cases e : ys[j]? with
        | none =>
          rw [List.getElem?_eq_none_iff] at e
          rw [List.getElem?_eq_none (by omega)]
          rfl
        | some y =>
          obtain ⟨x, q1, q2⟩ := hR j y e
          rw [q1, q2]
          rfl
      rw [ey] at hD2
      walk_at "ww"
      exact ⟨_, _, pp.map lineT, rfl, rfl, .inl (SqL.of hD2), Nat.le_trans (book_len hd.1 hd.2).1 (by decide), k _ hI⟩
theorem cmp_bls {H : Hp} {x : Addr} {a b c : Bool} (h : H x = some (.lst [.bl a, .bl b, .bl c])) : Cmp H (.ref x) (.list [.bool a, .bool b, .bool c]) :=
  ⟨.lst h (.cons (.bl a) (.cons (.bl b) (.cons (.bl c) .nil))), by simp [PyData.plain, PyData.plainAll], by simp [PyData.depth, PyData.depthAll]⟩
theorem eqv_bls (a b c : Bool) : PyData.eqv (.list [.bool a, .bool b, .bool c]) (.list [.bool a, .bool b, .bool c]) = true := by
  simp only [PyData.eqv, PyData.eqvAll, Bool.and_true, beq_self_eq_true]
def spSort (C : Addr) : Addr × Obj → Sp := fun p vs H Q _ => ∃ (d : Addr) (fs : List (Str × V)), vs = [.ref p.1] ∧ Zc (.ref C) (some d) p.2 ∧ (∃ fv, p.2.data = .fields fv) ∧ H d = some (.xd fs) ∧ ∀ H', Ex H H' → Q (.str "book") H'
theorem ok_Lsort (T : Tx P K mg A) : FnP P w K mg base 1 A.f_Lsort A.d_Lsort ["_law_e"] (spSort A.c_NoBook) := by
  refine okP T.F_Lsort sc_Lsort (fun p vs H Q E h => ?_) (fun cdv A' outer s H vs Q E p rm h => ?_)
  · obtain ⟨d, fs, rfl, _⟩ := h
    rfl
  · obtain ⟨a, oe⟩ := p
    obtain ⟨d, fs, rfl, hz, hf, hd, k⟩ := h
    dsimp only at hz hf
    refine ⟨_, (pss_cons (ps_set (i := 1) sc_Lsort.nd rfl (Or.inl rfl) (pe_lst (pa_cons (pe_callB (call_isH (K := K) rfl List.mem_cons_self hz hf) (by rfl) T.m_isinstance (by decide +kernel) (pa_cons (pv 0) (pa_cons (pe_glob (v := .ref A.c_NoNumber) rfl T.g_NoNumber rfl) pa_nil))) (pa_cons (pe_callB (call_isH (K := K) rfl List.mem_cons_self hz hf) (by rfl) T.m_isinstance (by decide +kernel) (pa_cons (pv 0) (pa_cons (pe_glob (v := .ref A.c_NoDeed) rfl T.g_NoDeed rfl) pa_nil))) (pa_cons (pe_callB (call_isH (K := K) rfl List.mem_cons_self hz hf) (by rfl) T.m_isinstance (by decide +kernel) (pa_cons (pv 0) (pa_cons (pe_glob (v := .ref A.c_NoBook) rfl T.g_NoBook rfl) pa_nil))) (pa_cons (pe_callB (call_isH (K := K) rfl List.mem_cons_self hz hf) (by rfl) T.m_isinstance (by decide +kernel) (pa_cons (pv 0) (pa_cons (pe_glob (v := .ref A.c_NoWeb) rfl T.g_NoWeb rfl) pa_nil))) pa_nil))))))
    (pss_cons (ps_set (i := 1) sc_Lsort.nd rfl (Or.inl rfl) (pe_op op_cat (pv 1) (pe_lst (pa_cons (pe_callB (call_isH (K := K) rfl List.mem_cons_self hz hf) (by rfl) T.m_isinstance (by decide +kernel) (pa_cons (pv 0) (pa_cons (pe_glob (v := .ref A.c_NoNames) rfl T.g_NoNames rfl) pa_nil))) (pa_cons (pe_callB (call_isH (K := K) rfl List.mem_cons_self hz hf) (by rfl) T.m_isinstance (by decide +kernel) (pa_cons (pv 0) (pa_cons (pe_glob (v := .ref A.c_NoAmount) rfl T.g_NoAmount rfl) pa_nil))) (pa_cons (pe_callB (call_isH (K := K) rfl List.mem_cons_self hz hf) (by rfl) T.m_isinstance (by decide +kernel) (pa_cons (pv 0) (pa_cons (pe_glob (v := .ref A.c_NoMany) rfl T.g_NoMany rfl) pa_nil))) (pa_cons (pe_callB (call_isH (K := K) rfl List.mem_cons_self hz hf) (by rfl) T.m_isinstance (by decide +kernel) (pa_cons (pv 0) (pa_cons (pe_glob (v := .ref A.c_NoText) rfl T.g_NoText rfl) pa_nil))) pa_nil)))))))
    (pss_cons (ps_set (i := 1) sc_Lsort.nd rfl (Or.inl rfl) (pe_op op_cat (pv 1) (pe_lst (pa_cons (pe_callB (call_isH (K := K) rfl List.mem_cons_self hz hf) (by rfl) T.m_isinstance (by decide +kernel) (pa_cons (pv 0) (pa_cons (pe_glob (v := .ref A.c_NoRow) rfl T.g_NoRow rfl) pa_nil))) (pa_cons (pe_callB (call_isH (K := K) rfl List.mem_cons_self hz hf) (by rfl) T.m_isinstance (by decide +kernel) (pa_cons (pv 0) (pa_cons (pe_glob (v := .ref A.c_NoName) rfl T.g_NoName rfl) pa_nil))) (pa_cons (pe_callB (call_isH (K := K) rfl List.mem_cons_self hz hf) (by rfl) T.m_isinstance (by decide +kernel) (pa_cons (pv 0) (pa_cons (pe_glob (v := .ref A.c_NoLot) rfl T.g_NoLot rfl) pa_nil))) (pa_cons (pe_callB (call_isH (K := K) rfl List.mem_cons_self hz hf) (by rfl) T.m_isinstance (by decide +kernel) (pa_cons (pv 0) (pa_cons (pe_glob (v := .ref A.c_NoPlace) rfl T.g_NoPlace rfl) pa_nil))) pa_nil)))))))
    (pss_cons (ps_set (i := 1) sc_Lsort.nd rfl (Or.inl rfl) (pe_op op_cat (pv 1) (pe_lst (pa_cons (pe_callB (call_isH (K := K) rfl List.mem_cons_self hz hf) (by rfl) T.m_isinstance (by decide +kernel) (pa_cons (pv 0) (pa_cons (pe_glob (v := .ref A.c_NoBack) rfl T.g_NoBack rfl) pa_nil))) (pa_cons (pe_callB (call_isH (K := K) rfl List.mem_cons_self hz hf) (by rfl) T.m_isinstance (by decide +kernel) (pa_cons (pv 0) (pa_cons (pe_glob (v := .ref A.c_Fails) rfl T.g_Fails rfl) pa_nil))) (pa_cons (pe_callB (call_isH (K := K) rfl List.mem_cons_self hz hf) (by rfl) T.m_isinstance (by decide +kernel) (pa_cons (pv 0) (pa_cons (pe_glob (v := .ref A.c_NoMates) rfl T.g_NoMates rfl) pa_nil))) (pa_cons (pe_callB (call_isH (K := K) rfl List.mem_cons_self hz hf) (by rfl) T.m_isinstance (by decide +kernel) (pa_cons (pv 0) (pa_cons (pe_glob (v := .ref A.c_TooMany) rfl T.g_TooMany rfl) pa_nil))) pa_nil)))))))
    (pss_cons (ps_set (i := 2) sc_Lsort.nd rfl (Or.inl rfl) (pe_lst (pa_cons (pe_callB (call_isH (K := K) rfl List.mem_cons_self hz hf) (by rfl) T.m_isinstance (by decide +kernel) (pa_cons (pv 0) (pa_cons (pe_glob (v := .ref A.c_ThankError) rfl T.g_ThankError rfl) pa_nil))) (pa_cons (pe_callB (call_isH (K := K) rfl List.mem_cons_self hz hf) (by rfl) T.m_isinstance (by decide +kernel) (pa_cons (pv 0) (pa_cons (pe_glob (v := .ref A.c_LostError) rfl T.g_LostError rfl) pa_nil))) (pa_cons (pe_callB (call_isH (K := K) rfl List.mem_cons_self hz hf) (by rfl) T.m_isinstance (by decide +kernel) (pa_cons (pv 0) (pa_cons (pe_glob (v := .ref A.c_StandError) rfl T.g_StandError rfl) pa_nil))) pa_nil)))))
    (pss_cons (ps_set (i := 3) sc_Lsort.nd rfl (Or.inl rfl) (pe_lst (pa_cons (pe_callB (call_isH (K := K) rfl List.mem_cons_self hz hf) (by rfl) T.m_isinstance (by decide +kernel) (pa_cons (pv 0) (pa_cons (pe_bltn (v := .ty "ValueError") (by rfl) T.m_ValueError (by decide +kernel) rfl) pa_nil))) (pa_cons (pe_callB (call_isH (K := K) rfl List.mem_cons_self hz hf) (by rfl) T.m_isinstance (by decide +kernel) (pa_cons (pv 0) (pa_cons (pe_bltn (v := .ty "LookupError") (by rfl) T.m_LookupError (by decide +kernel) rfl) pa_nil))) (pa_cons (pe_callB (call_isH (K := K) rfl List.mem_cons_self hz hf) (by rfl) T.m_isinstance (by decide +kernel) (pa_cons (pv 0) (pa_cons (pe_bltn (v := .ty "ArithmeticError") (by rfl) T.m_ArithmeticError (by decide +kernel) rfl) pa_nil))) pa_nil)))))
    (pss_cons (ps_if (PW.pt (pw_or (pt_cmpR op_ne (pe_bm PySem.F.plainAttrs_list PySem.F.slot_list_count PySem.F.type_list_count (mt_countV (K := K) rfl) (pv 1) (pa_cons pe_bl pa_nil)) pe_int (nomark _)) (pw_or1 (pt_cmpR (op_neD (roomU rm)) (pv 2) (pv 3) (nomark _)))))
    (pss_one (ps_ret pe_str))
    pss_nil)
    (pss_cons (ps_set (i := 4) sc_Lsort.nd rfl (Or.inl rfl) (pe_bm PySem.F.plainAttrs_list PySem.F.slot_list_index PySem.F.type_list_index (mt_indexV (K := K) rfl) (pv 1) (pa_cons pe_bl pa_nil)))
    (pss_cons (ps_if (pt_cmpR (op_neD (roomU rm)) (pv 2) (pe_lst (pa_cons (pe_cmpR op_lt (pv 4) pe_int (nomark _)) (pa_cons (pe_chain op_lt op_lt pe_int (pv 4) pe_int) (pa_cons (pe_cmpR op_gt (pv 4) pe_int (nomark _)) pa_nil)))) (nomark _))
    (pss_one (ps_ret pe_str))
    pss_nil)
    (pss_cons (ps_set (i := 5) sc_Lsort.nd rfl (Or.inl rfl) pe_str)
    (pss_one (ps_ret (pe_ix (ix_listV (K := K) rfl) (pe_split (pv 5) pe_str) (pv 4) (fun _ _ => rfl)))))))))))))), ?_⟩
    walk_at "ww"
    refine wIsH T.err_NoBook T.ko_NoBook_NoNumber (by walk_at "lk") ?_
    walk_at "ww"
    refine wIsH T.err_NoBook T.ko_NoBook_NoDeed (by walk_at "lk") ?_
    walk_at "ww"
    refine wIsH T.err_NoBook T.ko_NoBook_NoBook (by walk_at "lk") ?_
    walk_at "ww"
    refine wIsH T.err_NoBook T.ko_NoBook_NoWeb (by walk_at "lk") ?_
    walk_at "ww"
    refine alI fun a1 H1 n1 e1 f1 => ?_
    walk_at "ww"
    refine wIsH T.err_NoBook T.ko_NoBook_NoNames (by walk_at "lk") ?_
    walk_at "ww"
    refine wIsH T.err_NoBook T.ko_NoBook_NoAmount (by walk_at "lk") ?_
    walk_at "ww"
    refine wIsH T.err_NoBook T.ko_NoBook_NoMany (by walk_at "lk") ?_
    walk_at "ww"
    refine wIsH T.err_NoBook T.ko_NoBook_NoText (by walk_at "lk") ?_
    walk_at "ww"
    refine alI fun a2 H2 n2 e2 f2 => ?_
    walk_at "ww"
    refine wCat (by walk_at "lk") (by walk_at "lk") (by with_unfolding_all exact Nat.le_of_ble_eq_true rfl) (alI fun a3 H3 n3 e3 f3 => ?_)
    walk_at "ww"
    refine wIsH T.err_NoBook T.ko_NoBook_NoRow (by walk_at "lk") ?_
    walk_at "ww"
    refine wIsH T.err_NoBook T.ko_NoBook_NoName (by walk_at "lk") ?_
    walk_at "ww"
    refine wIsH T.err_NoBook T.ko_NoBook_NoLot (by walk_at "lk") ?_
    walk_at "ww"
    refine wIsH T.err_NoBook T.ko_NoBook_NoPlace (by walk_at "lk") ?_
    walk_at "ww"
    refine alI fun a4 H4 n4 e4 f4 => ?_
    walk_at "ww"
    refine wCat (by walk_at "lk") (by walk_at "lk") (by with_unfolding_all exact Nat.le_of_ble_eq_true rfl) (alI fun a5 H5 n5 e5 f5 => ?_)
    walk_at "ww"
    refine wIsH T.err_NoBook T.ko_NoBook_NoBack (by walk_at "lk") ?_
    walk_at "ww"
    refine wIsH T.err_NoBook T.ko_NoBook_Fails (by walk_at "lk") ?_
    walk_at "ww"
    refine wIsH T.err_NoBook T.ko_NoBook_NoMates (by walk_at "lk") ?_
    walk_at "ww"
    refine wIsH T.err_NoBook T.ko_NoBook_TooMany (by walk_at "lk") ?_
    walk_at "ww"
    refine alI fun a6 H6 n6 e6 f6 => ?_
    walk_at "ww"
    refine wCat (by walk_at "lk") (by walk_at "lk") (by with_unfolding_all exact Nat.le_of_ble_eq_true rfl) (alI fun a7 H7 n7 e7 f7 => ?_)
    walk_at "ww"
    refine wIsH T.err_NoBook T.ko_NoBook_ThankError (by walk_at "lk") ?_
    walk_at "ww"
    refine wIsH T.err_NoBook T.ko_NoBook_LostError (by walk_at "lk") ?_
    walk_at "ww"
    refine wIsH T.err_NoBook T.ko_NoBook_StandError (by walk_at "lk") ?_
    walk_at "ww"
    refine alI fun a8 H8 n8 e8 f8 => ?_
    walk_at "ww"
    refine wIsHT T.err_NoBook T.ko_NoBook_ValueError (by walk_at "lk") ?_
    walk_at "ww"
    refine wIsHT T.err_NoBook T.ko_NoBook_LookupError (by walk_at "lk") ?_
    walk_at "ww"
    refine wIsHT T.err_NoBook T.ko_NoBook_ArithmeticError (by walk_at "lk") ?_
    walk_at "ww"
    refine alI fun a9 H9 n9 e9 f9 => ?_
    walk_at "ww"
    have hs : H9 a7 = some (.lst ([V.bl false, V.bl false, V.bl true, V.bl false, V.bl false, V.bl false, V.bl false, V.bl false, V.bl false, V.bl false, V.bl false, V.bl false, V.bl false, V.bl false, V.bl false, V.bl false])) := by walk_at "lk"
    have hb : H9 a8 = some (.lst [V.bl true, V.bl false, V.bl false]) := by walk_at "lk"
    have hp : H9 a9 = some (.lst [V.bl true, V.bl false, V.bl false]) := by walk_at "lk"
    refine anTyL hs ?_
    walk_at "ww"
    refine ⟨_, _, _, rfl, rfl, SqL.of hs, rfl, rfl, ?_⟩
    walk_at "ww"
    refine ⟨_, _, cmp_bls hb, cmp_bls hp, ?_⟩
    rw [eqv_bls]
    walk_at "ww"
    refine anTyL hs ?_
    walk_at "ww"
    refine ⟨_, _, _, 2, _, rfl, rfl, SqL.of hs, rfl, rfl, rfl, rfl, ?_, ?_⟩
    · intro m z q1 q2
      match m, q1 with
      | 0, _ => cases q2; rfl
      | 1, _ => cases q2; rfl
    walk_at "ww"
    rw [show decide ((8 : Int) < ((2 : Nat) : Int)) = false by decide]
    walk_at "ww"
    refine alI fun a10 H10 n10 e10 f10 => ?_
    walk_at "ww"
    refine ⟨_, _, cmp_bls (by walk_at "lk"), cmp_bls (by walk_at "lk"), ?_⟩
    rw [show (not (PyData.eqv (.list [.bool true, .bool false, .bool false]) (.list [.bool (decide (((2 : Nat) : Int) < 9)), .bool false, .bool (decide ((12 : Int) < ((2 : Nat) : Int)))]))) = false by decide]
    walk_at "ww"
    refine ⟨_, _, rfl, rfl, rfl, by decide, fun l19 n19 => ?_⟩
    walk_at "ww"
    have eS : Builtin.Str.strSub (Str.ofString "number deed book web names amount many text row name lot place back fails mates toomany") (0 + 1 + 1 + 1 + 1 + 1 + 1 + 1 + 1 + 1 + 1 + 1 + (Str.ofString " ").length) (0 + 1 + 1 + 1 + 1 + 1 + 1 + 1 + 1 + 1 + 1 + 1 + 1 + 1 + 1 + 1 + 1) = Str.ofString "book" := by decide +kernel
    rw [eS]
    exact k _ ((((((((((e1.trans e2).trans e3).trans e4).trans e5).trans e6).trans e7).trans e8).trans e9).trans e10).trans (Ex.new n19))
/-! ### names drawn -/
/-- sorted of texts -/
theorem wSortS {K : PySem.W.Frag} {H : Hp} {Q : VK} {a : Addr} {zs : List Str} (h : SqL K H a (zs.map V.str)) (k : ∀ ys : List V, ys.Perm (zs.map V.str) → Al Q (.lst ys) H) : rSortedD K [.ref a] H Q := by
  have e1 : ((zs.map fun z => (V.str z, PyData.str z)).map (·.1)) = zs.map V.str := by rw [List.map_map]; rfl
  refine ⟨a, zs.map fun z => (V.str z, PyData.str z), rfl, by rw [e1]; exact h, ?_, ?_, ?_, ?_⟩
  · intro b hb
    obtain ⟨z, _, rfl⟩ := List.mem_map.mp hb
    exact ⟨.str z, by simp [PyData.depth]⟩
  · rw [List.map_map]
    exact PySem.W.AllAlike.of fun _ _ => by simp [PySem.W.alike]
  · rw [List.map_map]
    exact PySem.W.Sortable.others fun _ => ⟨fun q => (by cases q), fun _ q => (by cases q)⟩
  · exact k _ (e1 ▸ (List.mergeSort_perm _ _).map _)
theorem nodup_map_range {f : Nat → V} {m : Nat} (h : ∀ i j, i < j → j < m → f i ≠ f j) : ((List.range m).map f).Nodup := by
  rw [List.Nodup, List.pairwise_map]
  exact List.Pairwise.imp_of_mem (fun {a b} _ hb lt => h a b lt (List.mem_range.mp hb)) List.pairwise_lt_range
theorem cut_pre {z : Str} {n : Nat} (h : n ≤ z.length) : (cutS z none (some (n : Int))).cps.toList = z.cps.toList.take n := by
  unfold cutS
  rw [HT.sIx_none, HT.sIx_nat, Nat.min_eq_left h, List.drop_zero, Nat.sub_zero]
theorem cut_suf {z : Str} {n : Nat} (h : n ≤ z.length) : (cutS z (some (n : Int)) none).cps.toList = z.cps.toList.drop n := by
  unfold cutS
  rw [HT.sIx_none, HT.sIx_nat, Nat.min_eq_left h]
  show ((z.cps.toList.drop n).take (z.length - n)) = _
  refine List.take_of_length_le ?_
  rw [List.length_drop, Array.length_toList]
  exact Nat.le_refl _
def mkN (st : Str) (put : Int) (c : Nat) : Str := cutS st none (some put) ++ ⟨#[c]⟩ ++ cutS st (some put) none
theorem mkN_cps {st : Str} {put : Int} {c : Nat} (h0 : 0 ≤ put) (h1 : put ≤ st.length) : (mkN st put c).cps.toList = st.cps.toList.take put.toNat ++ [c] ++ st.cps.toList.drop put.toNat := by
  obtain ⟨n, rfl⟩ : ∃ n : Nat, put = (n : Int) := ⟨put.toNat, by omega⟩
  have hn : n ≤ st.length := by omega
  show (((cutS st none (some (n : Int))).cps ++ #[c]) ++ (cutS st (some (n : Int)) none).cps).toList = _
  rw [Array.toList_append, Array.toList_append, cut_pre hn, cut_suf hn]
  rfl
theorem mkN_len {st : Str} {put : Int} {c : Nat} (h0 : 0 ≤ put) (h1 : put ≤ st.length) : (mkN st put c).length = st.length + 1 := by
  show (mkN st put c).cps.size = _
  rw [← Array.length_toList, mkN_cps h0 h1, List.length_append, List.length_append, List.length_take, List.length_drop, Array.length_toList]
  show min put.toNat st.length + 1 + (st.length - put.toNat) = _
  omega
theorem mkN_inj {st : Str} {put : Int} {c d : Nat} (h0 : 0 ≤ put) (h1 : put ≤ st.length) (h : mkN st put c = mkN st put d) : c = d := by
  have e : (mkN st put c).cps.toList = (mkN st put d).cps.toList := congrArg (fun z : Str => z.cps.toList) h
  rw [mkN_cps h0 h1, mkN_cps h0 h1, List.append_assoc, List.append_assoc] at e
  exact (List.cons.inj (List.append_cancel_left e)).1
theorem mkN_lw {st : Str} {put : Int} {c : Nat} (h0 : 0 ≤ put) (h1 : put ≤ st.length) (hs : ∀ c ∈ st.cps.toList, 97 ≤ c ∧ c ≤ 122) (l7 : st.length ≤ 7) (hc : 97 ≤ c ∧ c ≤ 122) : Lw (mkN st put c) := by
  refine ⟨fun x hx => ?_, by rw [mkN_len h0 h1]; omega⟩
  rw [mkN_cps h0 h1] at hx
  rcases List.mem_append.mp hx with hx | hx
  · rcases List.mem_append.mp hx with hx | hx
    · exact hs x (List.mem_of_mem_take hx)
    · rw [List.mem_singleton.mp hx]
      exact hc
  · exact hs x (List.mem_of_mem_drop hx)
def fixN (z : Str) : Str := z ++ (if decide (V.str z = V.str "chest") = true then ("y" : Str) else ⟨#[]⟩)
theorem app_nil (z : Str) : z ++ (⟨#[]⟩ : Str) = z := by
  cases z with
  | mk c =>
    show (⟨c ++ #[]⟩ : Str) = _
    rw [Array.append_empty]
theorem fixN_of {z : Str} (h : z = "chest") : fixN z = "chesty" := by
  subst h
  decide +kernel
theorem fixN_not {z : Str} (h : z ≠ "chest") : fixN z = z := by
  unfold fixN
  rw [decide_eq_false fun e => h (V.str.inj e)]
  exact app_nil z
theorem fixN_name {z : Str} (h : Lw z) : nameV (.str (fixN z)) = true := by
  by_cases c : z = "chest"
  · rw [fixN_of c]
    decide +kernel
  · rw [fixN_not c]
    rw [name_all h.l.1 h.l.2 (by rw [decide_eq_false fun e => c (V.str.inj e)]; exact Bool.false_ne_true)]
    exact List.all_eq_true.mpr fun x hx => decide_eq_true (h.sm x hx)
theorem fixN_inj {y z : Str} (l : y.length = z.length) (h : fixN y = fixN z) : y = z := by
  have cl : ("chest" : Str).length = 5 := by decide +kernel
  have cl6 : ("chesty" : Str).length = 6 := by decide +kernel
  by_cases cy : y = "chest"
  · by_cases cz : z = "chest"
    · rw [cy, cz]
    · rw [fixN_of cy, fixN_not cz] at h
      rw [cy, cl, ← h, cl6] at l
      cases l
  · by_cases cz : z = "chest"
    · rw [fixN_not cy, fixN_of cz] at h
      rw [cz, cl, h, cl6] at l
      cases l
    · rwa [fixN_not cy, fixN_not cz] at h
def words12 : List Str := ["come", "bring", "give", "hand", "forget", "go", "person", "has", "thanks", "none", "now", "so"]
theorem words12_nodup : words12.Nodup := by decide +kernel
theorem words12_name : ∀ z ∈ words12, nameV (.str z) = true := by decide +kernel
/-- the k-th word -/
def wordK (at_ st : Int) (k : Nat) : Str := (words12[((at_ + st * (k : Int)) % 12).toNat]?).getD ""
def letK (f st : Int) (k : Nat) : Nat := 97 + ((f + st * (k : Int)) % 26).toNat
inductive Step : Int → Prop
  | a : Step 1
  | b : Step 5
  | c : Step 7
  | d : Step 11
theorem wordK_at (at_ : Int) {st : Int} (k : Nat) : words12[((at_ + st * (k : Int)) % 12).toNat]? = some (wordK at_ st k) := by
  unfold wordK
  have h : ((at_ + st * (k : Int)) % 12).toNat < words12.length := by
    show _ < 12
    omega
  rw [List.getElem?_eq_getElem h]
  rfl
theorem wordK_inj {at_ st : Int} (s : Step st) {i j : Nat} (hi : i < 6) (hj : j < 6) (h : wordK at_ st i = wordK at_ st j) : i = j := by
  have e := (wordK_at at_ i).trans ((congrArg some h).trans (wordK_at (st := st) at_ j).symm)
  have hl : ((at_ + st * (i : Int)) % 12).toNat < words12.length := by
    show _ < 12
    omega
  have q := (List.getElem?_inj hl words12_nodup).mp e
  cases s <;> omega
theorem letK_inj {f st : Int} (s : Step st) {i j : Nat} (hi : i < 6) (hj : j < 6) (h : letK f st i = letK f st j) : i = j := by
  unfold letK at h
  cases s <;> omega
/-- a row of names -/
structure Nms (ys : List V) : Prop where
  l : 2 ≤ ys.length ∧ ys.length ≤ 6
  nm : ∀ y ∈ ys, nameV y = true
  nd : ys.Nodup
theorem Nms.perm {xs ys : List V} (h : Nms xs) (p : ys.Perm xs) : Nms ys := ⟨by rw [p.length_eq]; exact h.l, fun y hy => h.nm y (p.mem_iff.mp hy), p.nodup_iff.mpr h.nd⟩
theorem nms_words {at_ st : Int} (s : Step st) {m : Nat} (m0 : 2 ≤ m) (m1 : m ≤ 6) : Nms ((List.range m).map fun k => V.str (wordK at_ st k)) := by
  refine ⟨by rw [List.length_map, List.length_range]; omega, fun y hy => ?_, nodup_map_range fun i j lt hj e => ?_⟩
  · obtain ⟨k, _, rfl⟩ := List.mem_map.mp hy
    exact words12_name _ (List.mem_of_getElem? (wordK_at at_ k))
  · have := wordK_inj s (by omega) (by omega) (V.str.inj e)
    omega
theorem nms_names {st : Str} {put f sp : Int} (s : Step sp) (h0 : 0 ≤ put) (h1 : put ≤ st.length) (hs : ∀ c ∈ st.cps.toList, 97 ≤ c ∧ c ≤ 122) (l7 : st.length ≤ 7) {m : Nat} (m0 : 2 ≤ m) (m1 : m ≤ 6) : Nms ((List.range m).map fun k => V.str (fixN (mkN st put (letK f sp k)))) := by
  refine ⟨by rw [List.length_map, List.length_range]; omega, fun y hy => ?_, nodup_map_range fun i j lt hj e => ?_⟩
  · obtain ⟨k, _, rfl⟩ := List.mem_map.mp hy
    exact fixN_name (mkN_lw h0 h1 hs l7 (by unfold letK; omega))
  · have e1 := fixN_inj (by rw [mkN_len h0 h1, mkN_len h0 h1]) (V.str.inj e)
    have := letK_inj s (by omega) (by omega) (mkN_inj h0 h1 e1)
    omega
theorem let26 (k : Nat) (h : k < 26) : (("abcdefghijklmnopqrstuvwxyz" : Str)).cps.toList[k]? = some (97 + k) := by
  have e : (("abcdefghijklmnopqrstuvwxyz" : Str)).cps.toList = (List.range 26).map (97 + ·) := by decide +kernel
  rw [e, List.getElem?_map, List.getElem?_range h]
  rfl
def spNames : Sp := fun vs H Q _ => ∃ (p : Addr) (m : Int), vs = [.ref p, .int m] ∧ Pool H p ∧ 2 ≤ m ∧ m ≤ 6 ∧ ∀ l ys H', Kp p H H' → Pool H' p → H l = none → H' l = some (.lst ys) → Nms ys → Q (.ref l) H'
theorem ok_Lnames (T : Tx P K mg A) : FnOk P w K mg base CX0 2 A.f_Lnames A.d_Lnames ["_law_pool_here", "_law_many"] spNames := by
  refine T.F_Lnames.ok sc_Lnames (fun vs H Q E h => ?_) (fun cdv A' outer s H vs Q E hr h => ?_)
  · obtain ⟨p, m, rfl, _⟩ := h
    rfl
  · obtain ⟨p, mi, rfl, hP, m0, m1, k⟩ := h
    obtain ⟨m, rfl⟩ : ∃ m : Nat, mi = (m : Int) := ⟨mi.toNat, by omega⟩
    have fin : ∀ (zs : List Str) (l : Addr) (H9 : Hp), SqL K H9 l (zs.map V.str) → Nms (zs.map V.str) → Kp p H H9 → Pool H9 p → rSortedD K [.ref l] H9 Q := fun zs l H9 hl nm kp hp =>
      wSortS hl fun ys pm t ht => k t ys _ (kp.trans (Kp.new ht)) (hp.upd (hp.ne ht)) (kp.free (hp.ne ht) ht) upd_same (nm.perm pm)
    refine ⟨_, (pss_cons (ps_set (i := 2) sc_Lnames.nd rfl (Or.inr rfl) (pe_lst (pa_cons pe_str (pa_cons pe_str (pa_cons pe_str (pa_cons pe_str (pa_cons pe_str (pa_cons pe_str (pa_cons pe_str (pa_cons pe_str (pa_cons pe_str (pa_cons pe_str (pa_cons pe_str (pa_cons pe_str pa_nil))))))))))))))
    (pss_cons (ps_asg (pe_tup (pa_cons (pe_call (ok_Ltake T) (hr.mono (by decide)) (by rfl) T.g_Ltake T.F_Ltake.kp T.b_Ltake .nil pass0 (pa_cons (pv 0) (pa_cons pe_int pa_nil))) (pa_cons (pe_ix (ix_listV (K := K) rfl) (pe_lst (pa_cons pe_int (pa_cons pe_int (pa_cons pe_int (pa_cons pe_int pa_nil))))) (pe_call (ok_Ltake T) (hr.mono (by decide)) (by rfl) T.g_Ltake T.F_Ltake.kp T.b_Ltake .nil pass0 (pa_cons (pv 0) (pa_cons pe_int pa_nil))) (fun _ _ => rfl)) pa_nil))) (pg_tupV (K := K) (n := 2) rfl rfl (pgs_cons (pg_name (i := 3) sc_Lnames.nd rfl (Or.inr rfl)) (pgs_cons (pg_name (i := 4) sc_Lnames.nd rfl (Or.inr rfl)) pgs_nil)) rfl))
    (pss_cons (ps_if (pt_cmpR op_eq (pe_call (ok_Ltake T) (hr.mono (by decide)) (by rfl) T.g_Ltake T.F_Ltake.kp T.b_Ltake .nil pass0 (pa_cons (pv 0) (pa_cons pe_int pa_nil))) pe_int (nomark _))
    (pss_one (ps_ret (pe_callB (cr_sortedD (K := K) rfl hr.units) (by rfl) T.m_sorted (by decide +kernel) (pa_cons (pe_lc rfl sc_Lnames.nd (g := gName 10) (pi_range1 (by rfl) T.m_range (pa_cons (pv 1) pa_nil)) (blkOk_by (own := [("_law_k", 10)]) (N := ["_law_pool_here", "_law_many", "_law_words", "_law_at", "_law_step", "_law_letters", "_law_stem", "_law_put", "_law_first", "_law_found", "_law_k", "_law_name"]) (sc := defScope s_Lnames) (by decide +kernel)) (fun _ _ _ _ _ => (pg_name (i := 10) sc_Lnames.nd rfl (Or.inl rfl))) (fun _ _ _ _ _ => pts_nil) (fun _ _ _ _ _ => (pe_ix (ix_listV (K := K) rfl) (pv 2) (pe_op op_mod (pe_op op_add (pv 3) (pe_op op_mul (pv 4) (pv 10))) pe_int) (fun _ _ => rfl)))) pa_nil))))
    pss_nil)
    (pss_cons (ps_set (i := 5) sc_Lnames.nd rfl (Or.inr rfl) pe_str)
    (pss_cons (ps_set (i := 6) sc_Lnames.nd rfl (Or.inl rfl) (pe_joinV (K := K) rfl pe_str (pe_lc rfl sc_Lnames.nd (g := gName 10) (pi_range1 (by rfl) T.m_range (pa_cons (pe_call (ok_Ltake T) (hr.mono (by decide)) (by rfl) T.g_Ltake T.F_Ltake.kp T.b_Ltake .nil pass0 (pa_cons (pv 0) (pa_cons pe_int pa_nil))) pa_nil)) (blkOk_by (own := [("_law_k", 10)]) (N := ["_law_pool_here", "_law_many", "_law_words", "_law_at", "_law_step", "_law_letters", "_law_stem", "_law_put", "_law_first", "_law_found", "_law_k", "_law_name"]) (sc := defScope s_Lnames) (by decide +kernel)) (fun _ _ _ _ _ => (pg_name (i := 10) sc_Lnames.nd rfl (Or.inl rfl))) (fun _ _ _ _ _ => pts_nil) (fun _ _ _ _ _ => (pe_ix ix_str (pv 5) (pe_call (ok_Ltake T) (hr.mono (by decide)) (by rfl) T.g_Ltake T.F_Ltake.kp T.b_Ltake .nil pass0 (pa_cons (pv 0) (pa_cons pe_int pa_nil))) (fun _ _ => rfl))))))
    (pss_cons (ps_par3 (i := 7) (j := 8) (l := 9) rfl sc_Lnames.nd rfl rfl rfl (by decide) (by decide) (by decide) rfl rfl rfl (pa_cons (pe_call (ok_Ltake T) (hr.mono (by decide)) (by rfl) T.g_Ltake T.F_Ltake.kp T.b_Ltake .nil pass0 (pa_cons (pv 0) (pa_cons (pe_op op_add (pe_callB (call_lenV (K := K) rfl) (by rfl) T.m_len (by decide +kernel) (pa_cons (pv 6) pa_nil)) pe_int) pa_nil))) (pa_cons (pe_call (ok_Ltake T) (hr.mono (by decide)) (by rfl) T.g_Ltake T.F_Ltake.kp T.b_Ltake .nil pass0 (pa_cons (pv 0) (pa_cons pe_int pa_nil))) (pa_cons (pe_lst pa_nil) pa_nil))) rfl)
    (pss_cons (ps_for PassesOwn.never rfl (pi_range1 (by rfl) T.m_range (pa_cons (pv 1) pa_nil)) (pg_name (i := 10) sc_Lnames.nd rfl (Or.inl rfl))
    (pss_cons (ps_set (i := 11) sc_Lnames.nd rfl (Or.inl rfl) (pe_op op_add_str (pe_op op_add_str (pe_slice sl_str (pv 6) po_none (po_some (pv 7))) (pe_ix ix_str (pv 5) (pe_op op_mod (pe_op op_add (pv 8) (pe_op op_mul (pv 4) (pv 10))) pe_int) (fun _ _ => rfl))) (pe_slice sl_str (pv 6) (po_some (pv 7)) po_none)))
      (pss_one (ps_expr (pe_bm PySem.F.plainAttrs_list PySem.F.slot_list_append PySem.F.type_list_append mt_append (pv 9) (pa_cons (pe_op op_add_str (pv 11) (pe_op op_mulS01 pe_str (pe_callTy call_int1 (by rfl) T.m_int (by decide +kernel) (pa_cons (pe_cmpR op_eq (pv 11) pe_str (nomark _)) pa_nil)))) pa_nil))))))
    (pss_one (ps_ret (pe_callB (cr_sortedD (K := K) rfl hr.units) (by rfl) T.m_sorted (by decide +kernel) (pa_cons (pv 9) pa_nil))))))))))), ?_⟩
    walk_at "ww"
    refine alI fun l1 H1 n1 e1 f1 => ?_
    have hP1 := hP.ex e1
    have m1p : l1 ≠ p := hP.ne n1
    walk_at "ww"
    refine ⟨p, 12, rfl, hP1, by omega, by omega, fun d H2 d0 d1 e2 hP2 => ?_⟩
    have K2 : Kp p H H2 := e1.kp.trans e2
    walk_at "ww"
    refine alI fun l3 H3 n3 e3 f3 => ?_
    have hP3 := hP2.ex e3
    have n3p : l3 ≠ p := hP2.ne n3
    walk_at "ww"
    refine ⟨p, 4, rfl, hP3, by omega, by omega, fun d4 H4o d40 d41 e4o hP4o => ?_⟩
    obtain ⟨sv, hsv, hsm⟩ := at_ex (xs := [V.int 1, V.int 5, V.int 7, V.int 11]) d40 (by show d4 < 4; omega)
    refine wIxL (SqL.of (e4o _ _ n3p f3)) hsv ?_
    obtain ⟨sp, rfl, hst⟩ : ∃ sp, sv = .int sp ∧ Step sp := by
      simp only [List.mem_cons, List.not_mem_nil, or_false] at hsm
      rcases hsm with rfl | rfl | rfl | rfl
      · exact ⟨_, rfl, .a⟩
      · exact ⟨_, rfl, .b⟩
      · exact ⟨_, rfl, .c⟩
      · exact ⟨_, rfl, .d⟩
    walk_at "ww"
    refine alI fun tq H4 nq e4q fq => ?_
    refine wGTup (SqT.of fq) rfl ?_
    have hP4 := hP4o.ex e4q
    have e4 := e4o.trans e4q.kp
    have K4 : Kp p H H4 := (K2.trans e3.kp).trans e4
    have f14 : H4 l1 = some (.lst (words12.map V.str)) := e4 _ _ m1p (e3 _ _ (e2 _ _ m1p f1))
    walk_at "ww"
    refine ⟨p, 4, rfl, hP4, by omega, by omega, fun d5 H5 d50 d51 e5 hP5 => ?_⟩
    have K5 : Kp p H H5 := K4.trans e5
    have f15 := e5 _ _ m1p f14
    walk_at "ww"
    refine ite2 (fun c => ?_) (fun c => ?_)
    · walk_at "ww"
      refine ⟨by omega, by omega, ?_⟩
      intro D hD
      have nDp : D ≠ p := hP5.ne hD
      refine lcRng (fun H' => Kp p H5 H' ∧ Pool H' p) (fun i y _ => y = .str (wordK d sp i)) (fun _ => rfl) ⟨Kp.new hD, hP5.upd nDp⟩ (fun i hi H6 acc hI hD6 hl hR => ?_) (fun H6 ys hI hD6 hl hR => ?_)
      · walk_at "ww"
        have ew : atI (words12.map V.str) ((d + sp * (0 + (i : Int))) % 12) = some (.str (wordK d sp i)) := by
          rw [Int.zero_add]
          refine at_of (j := ((d + sp * (i : Int)) % 12).toNat) (by omega) ?_
          rw [List.getElem?_map, wordK_at]
          rfl
        refine wIxL (SqL.of (hI.1 _ _ m1p f15)) ew ?_
        exact lcAdd hD6 hl (by omega) ⟨hI.1.mut hD, hI.2.upd nDp⟩ hR rfl
      · have ey : ys = ((List.range m).map fun k => wordK d sp k).map V.str := by
          refine List.ext_getElem? fun j => ?_
          rw [List.map_map, List.getElem?_map]
          by_cases h : j < m
          · rw [List.getElem?_range h]
            obtain ⟨y, hy⟩ : ∃ y, ys[j]? = some y := ⟨_, List.getElem?_eq_getElem (by omega)⟩
            rw [hy, hR j y hy]
            rfl
          · rw [List.getElem?_eq_none (by omega), List.getElem?_eq_none (by rw [List.length_range]; omega)]
            rfl
        rw [ey] at hD6
        exact fin _ _ _ (SqL.of hD6) (by rw [List.map_map]; exact nms_words hst (by omega) (by omega)) (K5.trans hI.1) hI.2
    · walk_at "ww"
      refine ⟨p, 8, rfl, hP5, by omega, by omega, fun d6 H6 d60 d61 e6 hP6 => ?_⟩
      walk_at "ww"
      refine ⟨by omega, by omega, ?_⟩
      intro D hD
      have nDp : D ≠ p := hP6.ne hD
      have e0 : (("" : Str)) = ⟨#[]⟩ := by decide +kernel
      have letL : (("abcdefghijklmnopqrstuvwxyz" : Str)).cps.toList.length = 26 := by decide +kernel
      have letS : (("abcdefghijklmnopqrstuvwxyz" : Str)).length ≤ sizeLine := by decide +kernel
      have K6 : Kp p H H6 := K5.trans e6
      refine lcRng (fun H' => Kp p H6 H' ∧ Pool H' p) (fun i y _ => ∃ c, (97 ≤ c ∧ c ≤ 122) ∧ y = .str ⟨#[c]⟩) (fun _ => rfl) ⟨Kp.new hD, hP6.upd nDp⟩ (fun i hi H7 acc hI hD7 hl hR => ?_) (fun H7 ys hI hD7 hl hR => ?_)
      · walk_at "ww"
        refine ⟨p, 26, rfl, hI.2, by omega, by omega, fun d8 H8 d80 d81 e8 hP8 => ?_⟩
        have ea : atI (Str.ofString "abcdefghijklmnopqrstuvwxyz").cps.toList d8 = some (97 + d8.toNat) := by
          have ej : d8 = ((d8.toNat : Nat) : Int) := by omega
          have el := let26 d8.toNat (by omega)
          exact (congrArg (atI _) ej).trans (at_nat el)
        refine wIxS letS ea ?_
        exact lcAdd (e8 _ _ nDp hD7) hl (by omega) ⟨(hI.1.trans e8).mut hD, hP8.upd nDp⟩ hR ⟨97 + d8.toNat, by omega, rfl⟩
      · obtain ⟨cs, c1, c2, rfl⟩ := join_ones (P := fun c => 97 ≤ c ∧ c ≤ 122) hR
        refine ⟨_, D, _, rfl, rfl, .inl (SqL.of hD7), ?_, ?_⟩
        · rw [ones_sum, e0]
          have : ((⟨#[]⟩ : Str)).length = 0 := rfl
          rw [this]
          omega
        have hj : (Txt.join ("" : Str) (cs.map fun c => (⟨#[c]⟩ : Str))).cps.toList = cs := by
          rw [e0, TL.join_eq]
          exact ones_cps cs
        generalize Txt.join ("" : Str) (cs.map fun c => (⟨#[c]⟩ : Str)) = st at hj ⊢
        have hsm : ∀ c ∈ st.cps.toList, 97 ≤ c ∧ c ≤ 122 := by rw [hj]; exact c2
        have hl7 : st.length ≤ 7 := by
          show st.cps.size ≤ 7
          rw [← Array.length_toList, hj]
          omega
        have K7 : Kp p H H7 := K6.trans hI.1
        walk_at "ww"
        refine wLenS (sz6 (by omega)) ?_
        walk_at "ww"
        refine ⟨p, (st.length : Int) + 1, rfl, hI.2, by omega, by omega, fun put H8 p0 p1 e8 hP8 => ?_⟩
        walk_at "ww"
        refine ⟨p, 26, rfl, hP8, by omega, by omega, fun f H9 f0 f1' e9 hP9 => ?_⟩
        walk_at "ww"
        refine alI fun fd H10 n10 e10 f10 => ?_
        have hP10 := hP9.ex e10
        have nfp : fd ≠ p := hP9.ne n10
        have K9 : Kp p H H9 := (K7.trans e8).trans e9
        walk_at "ww"
        refine ⟨by omega, by omega, ?_⟩
        refine for_range (lo := 0) (n := m) (fun i σ H' => ∃ v10 v11, σ = [some (.ref p), some (.int (m : Int)), some (.ref l1), some (.int d), some (.int sp), some (.str "abcdefghijklmnopqrstuvwxyz"), some (.str st), some (.int put), some (.int f), some (.ref fd), v10, v11] ∧ Kp p H9 H' ∧ Pool H' p ∧ H' fd = some (.lst ((List.range i).map fun k => V.str (fixN (mkN st put (letK f sp k)))))) ⟨_, _, rfl, e10.kp, hP10, f10⟩ ?_ ?_
        · rintro i σ H' hi ⟨v10, v11, rfl, kk, hPi, ff⟩
          walk_at "ww"
          have ea : atI (Str.ofString "abcdefghijklmnopqrstuvwxyz").cps.toList ((f + sp * (0 + (i : Int))) % 26) = some (letK f sp i) := by
            rw [Int.zero_add]
            have ej : (f + sp * (i : Int)) % 26 = ((((f + sp * (i : Int)) % 26).toNat : Nat) : Int) := by omega
            have el := let26 ((f + sp * (i : Int)) % 26).toNat (by omega)
            exact (congrArg (atI _) ej).trans (at_nat el)
          refine wIxS letS ea ?_
          have q1 := cutS_length st none (some put)
          have q2 := cutS_length st (some put) none
          have q4 : ((⟨#[letK f sp i]⟩ : Str)).length = 1 := rfl
          walk_at "ww"
          have len1 := mkN_len (st := st) (put := put) (c := letK f sp i) p0 (by omega)
          refine anTyL ff ?_
          have em : cutS st none (some put) ++ ⟨#[letK f sp i]⟩ ++ cutS st (some put) none = mkN st put (letK f sp i) := rfl
          rw [em]
          generalize ez : mkN st put (letK f sp i) = z at len1 ⊢
          walk_at "ww"
          refine .inr ⟨_, rfl, _, _, rfl, rfl, ?_⟩
          have yl : (if decide (V.str z = V.str "chest") = true then ("y" : Str) else ⟨#[]⟩).length ≤ 1 := by
            split
            · decide +kernel
            · decide +kernel
          refine ⟨_, _, rfl, rfl, sz6 (by omega), wNil ?_⟩
          refine wAppend ff (by rw [List.length_map, List.length_range]; omega) ?_
          refine ⟨_, _, rfl, kk.mut n10, hPi.upd nfp, ?_⟩
          rw [upd_same, List.range_succ, List.map_append, ← ez]
          rfl
        · rintro σ H' ⟨v10, v11, rfl, kk, hPi, ff⟩
          walk_at "ww"
          have e1 : ((List.range m).map fun k => V.str (fixN (mkN st put (letK f sp k)))) = ((List.range m).map fun k => fixN (mkN st put (letK f sp k))).map V.str := by rw [List.map_map]; rfl
          refine fin _ _ _ (SqL.of (e1 ▸ ff)) (e1 ▸ nms_names hst p0 (by omega) hsm hl7 (by omega) (by omega)) (K9.trans kk) hPi
section
variable {K : PySem.W.Frag} {H : Hp} {a : Addr}
theorem cut_len (xs : List V) (lo hi : Option Int) : (cutV xs lo hi).length ≤ xs.length := by
  unfold cutV
  simp
  omega
theorem cutV_all {xs : List V} {lo hi : Option Int} (e : HT.sIx xs.length 0 lo = 0 ∧ HT.sIx xs.length xs.length hi = xs.length) : cutV xs lo hi = xs := by
  unfold cutV
  rw [e.1, e.2]
  simp
theorem wSlAny {Q : VK} {xs : List V} {lo hi : Option Int} (h : H a = some (.tup xs)) (k : ∀ b H', Ex H H' → H' b = some (.tup (cutV xs lo hi)) → Q (.ref b) H') : rSlA K (.ref a) lo hi H Q :=
  ⟨a, xs, rfl, SqT.of h, fun e => k a H (Ex.refl H) (by rw [cutV_all e]; exact h), fun _ q hq => k q _ (Ex.new hq) upd_same⟩
theorem wCatAny {Q : VK} {b : Addr} {xs ys : List V} (h1 : H a = some (.tup xs)) (h2 : H b = some (.tup ys)) (hl : xs.length + ys.length ≤ 100000) (k : ∀ c H', Ex H H' → H' c = some (.tup (xs ++ ys)) → Q (.ref c) H') : rCatA K (.ref a) (.ref b) H Q :=
  ⟨a, b, xs, ys, rfl, rfl, SqT.of h1, SqT.of h2, sz6 hl, fun e => k b H (Ex.refl H) (by rw [e]; exact h2), fun _ e => k a H (Ex.refl H) (by rw [e, List.append_nil]; exact h1), fun _ _ q hq => k q _ (Ex.new hq) upd_same⟩
theorem wCatL {Q : VK} {b : Addr} {xs ys : List V} (h1 : H a = some (.lst xs)) (h2 : H b = some (.lst ys)) (hl : xs.length + ys.length ≤ 100000) (k : ∀ c H', Ex H H' → H' c = some (.lst (xs ++ ys)) → H c = none → Q (.ref c) H') : rCat (.ref a) (.ref b) H Q :=
  wCat h1 h2 (sz6 hl) fun q hq => k q _ (Ex.new hq) upd_same hq
end
theorem Nms.pick {ys : List V} (h : Nms ys) {i : Int} (h0 : 0 ≤ i) (h1 : i < ys.length) : ∃ a, atI ys i = some a ∧ nameV a = true := by
  obtain ⟨a, ha, hm⟩ := at_ex h0 h1
  exact ⟨a, ha, h.nm a hm⟩
theorem Nms.pick2 {ys : List V} (h : Nms ys) {i : Int} (h0 : 0 ≤ i) (h1 : i < ys.length) : ∃ a b, atI ys i = some a ∧ atI ys (i - 1) = some b ∧ nameV a = true ∧ nameV b = true ∧ a ≠ b := by
  obtain ⟨l2, l6⟩ := h.l
  obtain ⟨n, rfl⟩ : ∃ n : Nat, i = (n : Int) := ⟨i.toNat, by omega⟩
  have hn : n < ys.length := by omega
  obtain ⟨j, hj, hij, ej⟩ : ∃ j, ∃ hj : j < ys.length, n ≠ j ∧ atI ys ((n : Int) - 1) = some ys[j] := by
    by_cases c : n = 0
    · subst c
      refine ⟨ys.length - 1, by omega, by omega, ?_⟩
      have e := atI_last ys.dropLast (ys.getLast (fun e => by rw [e] at l2; exact absurd l2 (by decide)))
      rw [List.dropLast_concat_getLast, List.getLast_eq_getElem] at e
      exact e
    · refine ⟨n - 1, by omega, by omega, ?_⟩
      have e : (n : Int) - 1 = ((n - 1 : Nat) : Int) := by omega
      rw [e]
      exact atI_nat (List.getElem?_eq_getElem (by omega))
  refine ⟨ys[n], ys[j], atI_nat (List.getElem?_eq_getElem hn), ej, h.nm _ (List.getElem_mem hn), h.nm _ (List.getElem_mem hj), fun e => hij ?_⟩
  have q : ys[n]? = ys[j]? := by rw [List.getElem?_eq_getElem hn, List.getElem?_eq_getElem hj, e]
  exact (List.getElem?_inj hn h.nd).mp q
theorem hold_name {v : V} (h : nameV v = true) : holdV v = true := by
  unfold holdV
  rw [h]
  rfl
theorem name_chest2 {v : V} (h : nameV v = true) : isW v "chest" = false := by
  cases e : isW v "chest" with
  | false => rfl
  | true =>
    have q : v = .str "chest" := of_decide_eq_true e
    rw [q, name_chest (z := "chest") (by decide +kernel)] at h
    cases h
/-- the six words -/
def six : List Str := ["come", "bring", "give", "hand", "forget", "go"]
def spDrawnDeed : Sp := fun vs H Q _ => ∃ (p nl : Addr) (ys : List V), vs = [.ref p, .ref nl] ∧ Pool H p ∧ nl ≠ p ∧ H nl = some (.lst ys) ∧ Nms ys ∧ ∀ t xs H', Kp p H H' → Pool H' p → H' t = some (.tup xs) → deedL xs = true → Q (.ref t) H'
theorem ok_Ldrawn_deed (T : Tx P K mg A) : FnOk P w K mg base CX0 2 A.f_Ldrawn_deed A.d_Ldrawn_deed ["_law_pool_here", "_law_names_here"] spDrawnDeed := by
  refine T.F_Ldrawn_deed.ok sc_Ldrawn_deed (fun vs H Q E h => ?_) (fun cdv A' outer s H vs Q E hr h => ?_)
  · obtain ⟨p, nl, ys, rfl, _⟩ := h
    rfl
  · obtain ⟨p, nl, ys, rfl, hP, nnp, hN, nm, k⟩ := h
    refine ⟨_, (pss_cons (ps_set (i := 2) sc_Ldrawn_deed.nd rfl (Or.inl rfl) (pe_ix (ix_listV (K := K) rfl) (pe_lst (pa_cons pe_str (pa_cons pe_str (pa_cons pe_str (pa_cons pe_str (pa_cons pe_str (pa_cons pe_str pa_nil))))))) (pe_call (ok_Ltake T) (hr.mono (by decide)) (by rfl) T.g_Ltake T.F_Ltake.kp T.b_Ltake .nil pass0 (pa_cons (pv 0) (pa_cons pe_int pa_nil))) (fun _ _ => rfl)))
    (pss_cons (ps_set (i := 3) sc_Ldrawn_deed.nd rfl (Or.inl rfl) (pe_call (ok_Ltake T) (hr.mono (by decide)) (by rfl) T.g_Ltake T.F_Ltake.kp T.b_Ltake .nil pass0 (pa_cons (pv 0) (pa_cons (pe_callB (call_lenV (K := K) rfl) (by rfl) T.m_len (by decide +kernel) (pa_cons (pv 1) pa_nil)) pa_nil))))
    (pss_cons (ps_par (i := 4) (j := 5) (by rfl) sc_Ldrawn_deed.nd rfl rfl (by decide) rfl rfl (pa_cons (pe_ix (ix_listV (K := K) rfl) (pv 1) (pv 3) (fun _ _ => rfl)) (pa_cons (pe_ix (ix_listV (K := K) rfl) (pv 1) (pe_op op_sub (pv 3) pe_int) (fun _ _ => rfl)) pa_nil)) (by rfl))
    (pss_cons (ps_set (i := 6) sc_Ldrawn_deed.nd rfl (Or.inl rfl) (pe_ix (ix_listV (K := K) rfl) (pv 1) (pe_call (ok_Ltake T) (hr.mono (by decide)) (by rfl) T.g_Ltake T.F_Ltake.kp T.b_Ltake .nil pass0 (pa_cons (pv 0) (pa_cons (pe_callB (call_lenV (K := K) rfl) (by rfl) T.m_len (by decide +kernel) (pa_cons (pv 1) pa_nil)) pa_nil))) (fun _ _ => rfl)))
    (pss_cons (ps_set (i := 7) sc_Ldrawn_deed.nd rfl (Or.inl rfl) (pe_ix (ix_listV (K := K) rfl) (pe_lst (pa_cons pe_int (pa_cons pe_int (pa_cons (pe_op op_add pe_int (pe_call (ok_Ltake T) (hr.mono (by decide)) (by rfl) T.g_Ltake T.F_Ltake.kp T.b_Ltake .nil pass0 (pa_cons (pv 0) (pa_cons pe_int pa_nil)))) (pa_cons (pe_op op_add pe_int (pe_call (ok_Ltake T) (hr.mono (by decide)) (by rfl) T.g_Ltake T.F_Ltake.kp T.b_Ltake .nil pass0 (pa_cons (pv 0) (pa_cons pe_int pa_nil)))) pa_nil))))) (pe_call (ok_Ltake T) (hr.mono (by decide)) (by rfl) T.g_Ltake T.F_Ltake.kp T.b_Ltake .nil pass0 (pa_cons (pv 0) (pa_cons pe_int pa_nil))) (fun _ _ => rfl)))
    (pss_cons (ps_if (pt_cmpR (op_in_seqV (K := K) rfl) (pv 2) (pe_lst (pa_cons pe_str (pa_cons pe_str pa_nil))) (by rfl))
    (pss_one (ps_ret (pe_tup (pa_cons (pv 2) (pa_cons (pv 4) pa_nil)))))
    pss_nil)
    (pss_cons (ps_if (pt_cmpR op_eq (pv 2) pe_str (nomark _))
    (pss_one (ps_ret (pe_tup (pa_cons (pv 2) (pa_cons (pv 4) (pa_cons (pv 6) (pa_cons (pv 7) pa_nil)))))))
    pss_nil)
    (C8.pss_cut (ps_if (PW.pt (pw_and (pt_cmpR op_eq (pv 2) pe_str (nomark _)) (pw_and1 (pt_cmpR op_eq (pe_call (ok_Ltake T) (hr.mono (by decide)) (by rfl) T.g_Ltake T.F_Ltake.kp T.b_Ltake .nil pass0 (pa_cons (pv 0) (pa_cons pe_int pa_nil))) pe_int (nomark _)))))
    (pss_one (ps_set (i := 5) sc_Ldrawn_deed.nd rfl (Or.inl rfl) pe_str))
    pss_nil)
    (pss_one (ps_ret (pe_op (op_catTV (K := K) rfl) (pe_op (op_catTV (K := K) rfl) (pe_tup (pa_cons (pv 2) (pa_cons (pv 4) (pa_cons (pv 5) pa_nil)))) (pe_op (op_repT01V (K := K) rfl) (pe_tup (pa_cons (pv 6) pa_nil)) (pe_callTy call_int1 (by rfl) T.m_int (by decide +kernel) (pa_cons (pe_cmpR op_eq (pv 2) pe_str (nomark _)) pa_nil)))) (pe_tup (pa_cons (pv 7) pa_nil))))))))))))), ?_⟩
    have l6 := nm.l
    walk_at "ww"
    refine alI fun l1 H1 n1 e1 f1 => ?_
    have hP1 := hP.ex e1
    have m1p : l1 ≠ p := hP.ne n1
    walk_at "ww"
    refine ⟨p, 6, rfl, hP1, by omega, by omega, fun d H2 d0 d1 e2 hP2 => ?_⟩
    have K2 : Kp p H H2 := e1.kp.trans e2
    obtain ⟨wv, hwv, hwm⟩ := at_ex (xs := six.map V.str) d0 (by show d < 6; omega)
    refine wIxL (xs := six.map V.str) (SqL.of (e2 _ _ m1p f1)) hwv ?_
    obtain ⟨wz, hwz, rfl⟩ := List.mem_map.mp hwm
    have N2 := K2 _ _ nnp hN
    walk_at "ww"
    refine wLenL (SqL.of N2) ?_
    walk_at "ww"
    refine ⟨p, _, rfl, hP2, by omega, by omega, fun at_ H3 a0 a1 e3 hP3 => ?_⟩
    have K3 := K2.trans e3
    have N3 := K3 _ _ nnp hN
    obtain ⟨one, two, ho, ht, no, nt, ne⟩ := nm.pick2 a0 a1
    walk_at "ww"
    refine wIxL (SqL.of N3) ho ?_
    walk_at "ww"
    refine wIxL (SqL.of N3) ht ?_
    walk_at "ww"
    refine wLenL (SqL.of N3) ?_
    walk_at "ww"
    refine ⟨p, _, rfl, hP3, by omega, by omega, fun at4 H4 a40 a41 e4 hP4 => ?_⟩
    have K4 := K3.trans e4
    have N4 := K4 _ _ nnp hN
    obtain ⟨lot, hlo, nlo⟩ := nm.pick a40 a41
    refine wIxL (SqL.of N4) hlo ?_
    walk_at "ww"
    refine ⟨p, 99, rfl, hP4, by omega, by omega, fun d5 H5 d50 d51 e5 hP5 => ?_⟩
    walk_at "ww"
    refine ⟨p, 9999, rfl, hP5, by omega, by omega, fun d6 H6 d60 d61 e6 hP6 => ?_⟩
    walk_at "ww"
    refine alI fun l7 H7 n7 e7 f7 => ?_
    have n7p : l7 ≠ p := hP6.ne n7
    walk_at "ww"
    refine ⟨p, 4, rfl, hP6.ex e7, by omega, by omega, fun d8 H8 d80 d81 e8 hP8 => ?_⟩
    obtain ⟨mv, hmv, hmm⟩ := at_ex (xs := [V.int 1, V.int 9999, V.int (1 + d5), V.int (1 + d6)]) d80 (by show d8 < 4; omega)
    refine wIxL (SqL.of (e8 _ _ n7p f7)) hmv ?_
    have mm : measV mv = true := by
      simp only [List.mem_cons, List.not_mem_nil, or_false] at hmm
      rcases hmm with rfl | rfl | rfl | rfl
      · rfl
      · rfl
      · show (decide (1 ≤ 1 + d5) && decide (1 + d5 ≤ 9999)) = true
        rw [decide_eq_true (by omega), decide_eq_true (by omega)]
        rfl
      · show (decide (1 ≤ 1 + d6) && decide (1 + d6 ≤ 9999)) = true
        rw [decide_eq_true (by omega), decide_eq_true (by omega)]
        rfl
    have K8 : Kp p H H8 := (((K4.trans e5).trans e6).trans e7.kp).trans e8
    have fin : ∀ H9 xs, Kp p H H9 → Pool H9 p → deedL xs = true → Al Q (.tup xs) H9 := fun H9 xs kp hp h1 t ht => k t xs _ (kp.trans (Kp.new ht)) (hp.upd (hp.ne ht)) upd_same h1
    clear hwv hwm hmv hmm f1 f7
    walk_at "ww"
    refine alI fun l9 H9 n9 e9 f9 => ?_
    refine ⟨l9, _, rfl, .inl (SqL.of f9), rfl, rfl, ?_⟩
    rw [if_neg (by decide), in2]
    have K9 := K8.trans e9.kp
    have hP9 := hP8.ex e9
    walk_at "ww"
    refine ite2 (fun c1 => ?_) (fun c1 => ?_)
    · walk_at "ww"
      refine fin _ _ K9 hP9 ?_
      show (shortL [.str wz, one] || _) = true
      rw [show shortL [.str wz, one] = true from by
        show ((isW (.str wz) "come" || isW (.str wz) "go") && nameV one) = true
        rw [c1, no]
        rfl]
      rfl
    · walk_at "ww"
      refine ite2 (fun c2 => ?_) (fun c2 => ?_)
      · walk_at "ww"
        refine fin _ _ K9 hP9 ?_
        show (shortL [.str wz, one, lot, mv] || _) = true
        rw [show shortL [.str wz, one, lot, mv] = true from by
          show (isW (.str wz) "bring" && nameV one && nameV lot && measV mv) = true
          rw [show isW (.str wz) "bring" = true from c2, no, nlo, mm]
          rfl]
        rfl
      · rw [Bool.not_eq_true] at c1 c2
        have c2 : isW (.str wz) "bring" = false := c2
        have w3 : wz = "give" ∨ wz = "hand" ∨ wz = "forget" := by
          rw [Bool.or_eq_false_iff] at c1
          have no : ∀ {s : Str}, isW (.str wz) s = false → wz ≠ s := fun h e => by
            rw [e] at h
            exact absurd h (by unfold isW; rw [decide_eq_true rfl]; exact Bool.noConfusion)
          simp only [six, List.mem_cons, List.not_mem_nil, or_false] at hwz
          rcases hwz with h | h | h | h | h | h
          · exact absurd h (no c1.1)
          · exact absurd h (no c2)
          · exact .inl h
          · exact .inr (.inl h)
          · exact .inr (.inr h)
          · exact absurd h (no c1.2)
        walk_at "ww"
        refine wCut (fun σ H' => ∃ v, σ = [some (.ref p), some (.ref nl), some (.str wz), some (.int at_), some one, some v, some lot, some mv] ∧ holdV v = true ∧ one ≠ v ∧ (nameV v = true ∨ wz = "forget") ∧ Kp p H H' ∧ Pool H' p) ?_ ?_
        · walk_at "ww"
          refine ite2 (fun c3 => ?_) (fun c3 => ?_)
          · walk_at "ww"
            refine ⟨p, 3, rfl, hP9, by omega, by omega, fun dA HA dA0 dA1 eA hPA => ?_⟩
            walk_at "ww"
            refine ite2 (fun c4 => ?_) (fun c4 => ?_)
            · walk_at "ww"
              exact ⟨_, rfl, by decide +kernel, of_decide_eq_false (name_chest2 no), .inr (V.str.inj (of_decide_eq_true c3)), K9.trans eA, hPA⟩
            · walk_at "ww"
              exact ⟨_, rfl, hold_name nt, ne, .inl nt, K9.trans eA, hPA⟩
          · walk_at "ww"
            exact ⟨_, rfl, hold_name nt, ne, .inl nt, K9, hP9⟩
        · rintro σ H' ⟨v, rfl, hv, nev, nv, kk, hp⟩
          walk_at "ww"
          refine alI fun t1 G1 m1 g1 q1 => ?_
          walk_at "ww"
          refine alI fun t2 G2 m2 g2 q2 => ?_
          walk_at "ww"
          have q12 := g2 _ _ q1
          refine .inr ⟨_, rfl, ?_⟩
          have KG := (kk.trans g1.kp).trans g2.kp
          have PG := (hp.ex g1).ex g2
          by_cases ch : decide (V.str wz = V.str "hand") = true
          · rw [if_pos ch]
            have ew : wz = "hand" := V.str.inj (of_decide_eq_true ch)
            have nvv : nameV v = true := nv.resolve_right fun e => by
              rw [e] at ew
              exact absurd ew (by decide +kernel)
            refine ⟨_, 1, _, rfl, rfl, SqT.of q2, by simp, fun _ => ?_, fun z => absurd z (by decide), .inr rfl⟩
            refine wCatAny q12 q2 (by simp) fun t3 G3 g3 q3 => ?_
            walk_at "ww"
            refine alI fun t4 G4 m4 g4 q4 => ?_
            refine wCatAny (g4 _ _ q3) q4 (by simp) fun t5 G5 g5 q5 => ?_
            refine k t5 _ G5 (((KG.trans g3.kp).trans g4.kp).trans g5.kp) (((PG.ex g3).ex g4).ex g5) q5 ?_
            show (shortL [.str wz, one, v, lot, mv] || twoL [.str wz, one, v, lot, mv]) = true
            rw [show twoL [.str wz, one, v, lot, mv] = true from by
              show (measV mv && nameV one && holdV v && !decide (one = v) && (isW (.str wz) "hand" && !isW v "chest" && nameV lot)) = true
              rw [mm, no, hv, decide_eq_false nev, show isW (.str wz) "hand" = true from ch, name_chest2 nvv, nlo]
              rfl]
            exact Bool.or_true _
          · rw [if_neg ch]
            refine ⟨_, 0, _, rfl, rfl, SqT.of q2, by simp, fun z => absurd z (by decide), fun _ t3 m3 => ?_, .inl rfl⟩
            have g3 : Ex G2 (upd G2 t3 (.tup [])) := Ex.new m3
            have q3 : (upd G2 t3 (.tup [])) t3 = some (.tup []) := upd_same
            generalize upd G2 t3 (.tup []) = G3 at g3 q3 ⊢
            refine wCatAny (g3 _ _ q12) q3 (by simp) fun t4 G4 g4 q4 => ?_
            walk_at "ww"
            refine alI fun t5 G5 m5 g5 q5 => ?_
            refine wCatAny (g5 _ _ q4) q5 (by simp) fun t6 G6 g6 q6 => ?_
            refine k t6 _ G6 ((((KG.trans g3.kp).trans g4.kp).trans g5.kp).trans g6.kp) ((((PG.ex g3).ex g4).ex g5).ex g6) q6 ?_
            show (shortL [.str wz, one, v, mv] || twoL [.str wz, one, v, mv]) = true
            rw [show twoL [.str wz, one, v, mv] = true from by
              show (measV mv && nameV one && holdV v && !decide (one = v) && (isW (.str wz) "forget" || (isW (.str wz) "give" && !isW v "chest"))) = true
              rw [mm, no, hv, decide_eq_false nev]
              rcases w3 with e | e | e
              · rw [name_chest2 (nv.resolve_right fun e2 => by
                  rw [e2] at e
                  exact absurd e (by decide +kernel)), e]
                decide +kernel
              · exact absurd (decide_eq_true (by rw [e])) ch
              · rw [e, show isW (.str "forget") "forget" = true from by decide +kernel]
                rfl]
            exact Bool.or_true _
theorem dl_of {H : Hp} : ∀ {ys : List V}, (∀ (j : Nat) y, ys[j]? = some y → ∃ t xs, y = .ref t ∧ H t = some (.tup xs) ∧ deedL xs = true) → ∃ rs pp, ys = rs.map V.ref ∧ Dl H rs pp ∧ ∀ xs ∈ pp, deedL xs = true
  | [], _ => ⟨[], [], rfl, .nil, fun _ h => nomatch h⟩
  | y :: ys, h => by
    obtain ⟨t, xs, rfl, ht, hd⟩ := h 0 y rfl
    obtain ⟨rs, pp, rfl, dl, hh⟩ := dl_of (ys := ys) fun j y e => h (j + 1) y e
    exact ⟨t :: rs, xs :: pp, rfl, .cons ht dl, List.forall_mem_cons.mpr ⟨hd, hh⟩⟩
theorem Pool.tup {H : Hp} {p t : Addr} {xs : List V} (h : Pool H p) (ht : H t = some (.tup xs)) : t ≠ p := fun e => by
  obtain ⟨_, _, _, q, _⟩ := h
  rw [← e, ht] at q
  cases q
def spDrawnBook : Sp := fun vs H Q _ => ∃ (p : Addr), vs = [.ref p] ∧ Pool H p ∧ ∀ t pp H', Kp p H H' → Pool H' p → Bk H' t pp → Deeds pp → Q (.ref t) H'
theorem ok_Ldrawn_book (T : Tx P K mg A) : FnOk P w K mg base CX0 3 A.f_Ldrawn_book A.d_Ldrawn_book ["_law_pool_here"] spDrawnBook := by
  refine T.F_Ldrawn_book.ok sc_Ldrawn_book (fun vs H Q E h => ?_) (fun cdv A' outer s H vs Q E hr h => ?_)
  · obtain ⟨p, rfl, _⟩ := h
    rfl
  · obtain ⟨p, rfl, hP, k⟩ := h
    refine ⟨_, (pss_cons (ps_set (i := 1) sc_Ldrawn_book.nd rfl (Or.inr rfl) (pe_call (ok_Lnames T) (hr.mono (by decide)) (by rfl) T.g_Lnames T.F_Lnames.kp T.b_Lnames .nil pass0 (pa_cons (pv 0) (pa_cons (pe_op op_add pe_int (pe_call (ok_Ltake T) (hr.mono (by decide)) (by rfl) T.g_Ltake T.F_Ltake.kp T.b_Ltake .nil pass0 (pa_cons (pv 0) (pa_cons pe_int pa_nil)))) pa_nil))))
    (pss_cons (ps_set (i := 2) sc_Ldrawn_book.nd rfl (Or.inl rfl) (pe_ix (ix_listV (K := K) rfl) (pe_lst (pa_cons (pe_call (ok_Ltake T) (hr.mono (by decide)) (by rfl) T.g_Ltake T.F_Ltake.kp T.b_Ltake .nil pass0 (pa_cons (pv 0) (pa_cons pe_int pa_nil))) (pa_cons pe_int pa_nil))) (pe_callTy call_int1 (by rfl) T.m_int (by decide +kernel) (pa_cons (pe_cmpR op_eq (pe_call (ok_Ltake T) (hr.mono (by decide)) (by rfl) T.g_Ltake T.F_Ltake.kp T.b_Ltake .nil pass0 (pa_cons (pv 0) (pa_cons pe_int pa_nil))) pe_int (nomark _)) pa_nil)) (fun _ _ => rfl)))
    (pss_one (ps_ret (pe_callTy (call_tuple_ofV (K := K) rfl) (by rfl) T.m_tuple (by decide +kernel) (pa_cons (pe_lc rfl sc_Ldrawn_book.nd (g := gName 3) (pi_range1 (by rfl) T.m_range (pa_cons (pv 2) pa_nil)) (blkOk_by (own := [("_law_turn", 3)]) (N := ["_law_pool_here", "_law_names_here", "_law_many", "_law_turn"]) (sc := defScope s_Ldrawn_book) (by decide +kernel)) (fun _ _ _ _ _ => (pg_name (i := 3) sc_Ldrawn_book.nd rfl (Or.inl rfl))) (fun _ _ _ _ _ => pts_nil) (fun _ _ _ _ _ => (pe_call (ok_Ldrawn_deed T) (hr.mono (by decide)) (by rfl) T.g_Ldrawn_deed T.F_Ldrawn_deed.kp T.b_Ldrawn_deed .nil pass0 (pa_cons (pv 0) (pa_cons (pv 1) pa_nil))))) pa_nil)))))), ?_⟩
    walk_at "ww"
    refine ⟨p, 5, rfl, hP, by omega, by omega, fun d H1 d0 d1 e1 hP1 => ?_⟩
    walk_at "ww"
    refine ⟨p, _, rfl, hP1, by omega, by omega, fun nl ys H2 e2 hP2 nn hN nm => ?_⟩
    have nnp : nl ≠ p := hP1.ne nn
    have K2 := e1.trans e2
    walk_at "ww"
    refine ⟨p, 13, rfl, hP2, by omega, by omega, fun d3 H3 d30 d31 e3 hP3 => ?_⟩
    walk_at "ww"
    refine alI fun l4 H4 n4 e4 f4 => ?_
    have n4p : l4 ≠ p := hP3.ne n4
    walk_at "ww"
    refine ⟨p, 8, rfl, hP3.ex e4, by omega, by omega, fun d5 H5 d50 d51 e5 hP5 => ?_⟩
    walk_at "ww"
    refine .inr ⟨_, rfl, ?_⟩
    have K5 : Kp p H H5 := ((K2.trans e3).trans e4.kp).trans e5
    have N5 : H5 nl = some (.lst ys) := e5 _ _ nnp (e4 _ _ (e3 _ _ nnp hN))
    obtain ⟨m, hm, m60⟩ : ∃ m : Nat, atI [V.int d3, V.int 60] (if decide (V.int d5 = V.int 5) = true then 1 else 0) = some (.int (m : Int)) ∧ m ≤ 60 := by
      split
      · exact ⟨60, rfl, Nat.le_refl _⟩
      · refine ⟨d3.toNat, ?_, by omega⟩
        rw [show ((d3.toNat : Nat) : Int) = d3 by omega]
        rfl
    refine wIxL (SqL.of (e5 _ _ n4p f4)) hm ?_
    clear hm f4
    walk_at "ww"
    refine ⟨by omega, by omega, ?_⟩
    intro D hD
    have nDp : D ≠ p := hP5.ne hD
    refine lcRng (fun H' => Kp p H5 H' ∧ Pool H' p) (fun i y H' => ∃ t xs, y = .ref t ∧ H' t = some (.tup xs) ∧ deedL xs = true) (fun _ => rfl) ⟨Kp.new hD, hP5.upd nDp⟩ (fun i hi H6 acc hI hD6 hl hR => ?_) (fun H6 zs hI hD6 hl hR => ?_)
    · walk_at "ww"
      refine ⟨p, nl, ys, rfl, hI.2, nnp, hI.1 _ _ nnp N5, nm, fun t xs H7 e7 hP7 ht hd => ?_⟩
      have hD7 := e7 _ _ nDp hD6
      have hi60 : i ≤ 100000 := by omega
      have nt : ∀ (t : Addr) (xs : List V) (o : HO), H7 t = some (.tup xs) → upd H7 D o t = some (.tup xs) := fun t xs o q => by
        rw [upd_ne (fun e => by rw [e, hD7] at q; cases q)]
        exact q
      refine lcAdd hD7 hl hi60 ⟨(hI.1.trans e7).mut hD, hP7.upd nDp⟩ (fun j z q => ?_) ⟨t, xs, rfl, nt _ _ _ ht, hd⟩
      obtain ⟨t2, xs2, r1, r2, r3⟩ := hR j z q
      exact ⟨t2, xs2, r1, nt _ _ _ (e7 _ _ (hI.2.tup r2) r2), r3⟩
    · obtain ⟨rs, pp, rfl, dl, hh⟩ := dl_of hR
      have len := dl.length
      walk_at "ww"
      refine ⟨D, _, rfl, .inl ⟨SqL.of hD6, fun t nt => ?_⟩⟩
      rw [List.length_map] at hl
      exact k t pp _ ((K5.trans hI.1).trans (Kp.new nt)) (hI.2.upd (hI.2.ne nt)) ⟨rs, upd_same, dl.ex (Ex.new nt)⟩ ⟨hh, by omega⟩
/-! ### what repr shows of a book -/
/-- what raises nothing passes -/
theorem passNo {X : Cx} (σ : L2.St) : PassesAt (L2.CX X.prog X.w) X σ E0 := by
  rintro _ _ _ _ _ _ ⟨_, _, _, _, _, _, _, _, _, _, _, _, h⟩
  exact h.elim
def partD : V → PyData
  | .str z => .str z
  | .int i => .int i
  | _ => .none
def deedD (xs : List V) : PyData := .tuple (xs.map partD)
def bookD (pp : List (List V)) : PyData := .tuple (pp.map deedD)
theorem Pt.rp {H : Hp} {k : Nat} {v : V} (h : Pt v) : ∃ n, n ≤ 301 ∧ Rp H true k v (partD v) n := by
  cases h with
  | s h => exact ⟨_, by have := h.l.2; omega, .str _ fun c hc => Nat.lt_of_le_of_lt (h.sm c hc).2 (by decide +kernel)⟩
  | i h0 h1 => exact ⟨_, Nat.le_refl _, .int _ (Nat.lt_of_le_of_lt (by omega : _ ≤ 9999) (by decide +kernel))⟩
theorem parts_rp {H : Hp} {k : Nat} : ∀ {xs : List V}, (∀ x ∈ xs, Pt x) → ∃ n, n ≤ xs.length * 303 ∧ RpA H true k xs (xs.map partD) n
  | [], _ => ⟨_, Nat.zero_le _, .nil⟩
  | x :: xs, h => by
    obtain ⟨n, hn, r⟩ := (h x List.mem_cons_self).rp (H := H) (k := k)
    obtain ⟨m, hm, q⟩ := parts_rp (H := H) (k := k) (xs := xs) fun y hy => h y (List.mem_cons_of_mem _ hy)
    refine ⟨_, ?_, .cons r q⟩
    rw [List.length_cons]
    omega
theorem deed_rp {H : Hp} {k : Nat} {r : Addr} {xs : List V} (h : H r = some (.tup xs)) (d : deedL xs = true) : ∃ n, n ≤ 1519 ∧ Rp H true (k + 1) (.ref r) (deedD xs) n := by
  obtain ⟨p1, p2, p3⟩ := deed_parts d
  obtain ⟨n, hn, q⟩ := parts_rp (H := H) (k := k) p1
  exact ⟨_, by omega, .tup h q⟩
theorem dl_rp {H : Hp} {k : Nat} : ∀ {rs : List Addr} {pp : List (List V)}, Dl H rs pp → (∀ xs ∈ pp, deedL xs = true) → ∃ n, n ≤ pp.length * 1521 ∧ RpA H true (k + 1) (rs.map V.ref) (pp.map deedD) n
  | _, _, .nil, _ => ⟨_, Nat.zero_le _, .nil⟩
  | _, _, .cons (xs := xs) (pp := pp) h t, d => by
    obtain ⟨n, hn, r⟩ := deed_rp (k := k) h (d _ List.mem_cons_self)
    obtain ⟨m, hm, q⟩ := dl_rp (k := k) t fun y hy => d y (List.mem_cons_of_mem _ hy)
    refine ⟨_, ?_, .cons r q⟩
    rw [List.length_cons]
    omega
theorem bk_rp {H : Hp} {a : Addr} {pp : List (List V)} (h : Bk H a pp) (d : Deeds pp) : ∃ n, n ≤ 10000000 ∧ Rp H true 64 (.ref a) (bookD pp) n := by
  obtain ⟨rs, ha, dl⟩ := h
  obtain ⟨n, hn, q⟩ := dl_rp (k := 62) dl d.1
  have := d.2
  exact ⟨_, by omega, .tup ha q⟩
theorem cmp_strs {H : Hp} {l : Addr} {a b c : Str} (h : H l = some (.lst [.str a, .str b, .str c])) : Cmp H (.ref l) (.list [.str a, .str b, .str c]) :=
  ⟨.lst h (.cons (.str a) (.cons (.str b) (.cons (.str c) .nil))), by simp [PyData.plain, PyData.plainAll], by simp [PyData.depth, PyData.depthAll]⟩
theorem eqv_strs (a b c : Str) : PyData.eqv (.list [.str a, .str b, .str c]) (.list [.str a, .str b, .str c]) = true := by
  simp only [PyData.eqv, PyData.eqvAll, Bool.and_true, beq_self_eq_true]
def spBook3 : Sp := fun vs H Q _ => ∃ a pp, vs = [.ref a] ∧ Bk H a pp ∧ Deeds pp ∧ ∀ H', Ex H H' → Q (.bl true) H'
theorem ok_Lthere_and_back (T : Tx P K mg A) : FnQ P w K mg base CX0 7 A.f_Lthere_and_back A.d_Lthere_and_back ["_law_pages"] spBook3 := by
  refine okQ T.F_Lthere_and_back sc_Lthere_and_back (fun vs H Q E h => ?_) (fun cdv A' outer s H vs Q E hq h => ?_)
  · obtain ⟨a, pp, rfl, _⟩ := h
    rfl
  · obtain ⟨a, pp, rfl, hB, hD, k⟩ := h
    have hr := hq.room
    refine ⟨_, (pss_cons (ps_set (i := 1) sc_Lthere_and_back.nd rfl (Or.inl rfl) (pe_call (ok_Ltext T) (hr.mono (by decide)) (by rfl) T.g_Ltext T.F_Ltext.kp T.b_Ltext .nil pass0 (pa_cons (pv 0) pa_nil)))
    (pss_cons (ps_if (pt_cmpR (op_neD hr.units) (pe_lst (pa_cons (pe_callS (E := fun _ => E0) (ok_show_book T) (hr.mono (by decide)) (by rfl) T.g_show_book T.F_show_book.kp T.b_show_book (fun σ => passNo σ) (pa_cons (pv 0) pa_nil)) (pa_cons (pe_callSN0 (E := fun _ => E0) (ok_show_book T) (hr.mono (by decide)) (by rfl) T.g_show_book T.F_show_book.kp T.kb0_show_book_book (fun σ => passNo σ) (pk_cons (pv 0) pk_nil)) (pa_cons (pe_callS (E := fun _ => E0) (ok_show_book T) (hr.mono (by decide)) (by rfl) T.g_show_book T.F_show_book.kp T.b_show_book (fun σ => passNo σ) (pa_cons (pv 0) pa_nil)) pa_nil)))) (pe_op op_rep (pe_lst (pa_cons (pv 1) pa_nil)) pe_int) (nomark _))
    (pss_one (ps_ret pe_bl))
    pss_nil)
    (pss_cons (ps_set (i := 2) sc_Lthere_and_back.nd rfl (Or.inl rfl) (pe_lst (pa_cons (pe_call (ok_read_book T) (hr.mono (by decide)) (by rfl) T.g_read_book T.F_read_book.kp T.b_read_book .nil pass0 (pa_cons (pv 1) pa_nil)) (pa_cons (pe_callN0 (ok_read_book T) (hr.mono (by decide)) (by rfl) T.g_read_book T.F_read_book.kp T.kb0_read_book_text pass0 (pk_cons (pv 1) pk_nil)) (pa_cons (pe_call (ok_read_book T) (hr.mono (by decide)) (by rfl) T.g_read_book T.F_read_book.kp T.b_read_book .nil pass0 (pa_cons (pv 1) pa_nil)) pa_nil)))))
    (pss_one (ps_ret (pe_cmpR (op_eqD hr.units) (pe_lc rfl sc_Lthere_and_back.nd (g := gName 3) (pi_listV (K := K) rfl (pv 2)) (blkOk_by (own := [("_law_one", 3)]) (N := ["_law_pages", "_law_verse", "_law_told", "_law_one"]) (sc := defScope s_Lthere_and_back) (by decide +kernel)) (fun _ _ _ _ _ => (pg_name (i := 3) sc_Lthere_and_back.nd rfl (Or.inl rfl))) (fun _ _ _ _ _ => pts_nil) (fun _ _ _ _ _ => (pe_callB (call_repr hq) (by rfl) T.m_repr (by decide +kernel) (pa_cons (pv 3) pa_nil)))) (pe_op op_rep (pe_lst (pa_cons (pe_callB (call_repr hq) (by rfl) T.m_repr (by decide +kernel) (pa_cons (pv 0) pa_nil)) pa_nil)) pe_int) (nomark _))))))), ?_⟩
    walk_at "ww"
    refine ⟨a, pp, rfl, hB, hD, fun H1 e1 => ?_⟩
    walk_at "ww"
    refine ⟨_, rfl, .inl ⟨a, pp, rfl, hB.ex e1, hD, fun H2 e2 => ?_⟩⟩
    walk_at "ww"
    refine ⟨rfl, rfl, _, rfl, .inl ⟨a, pp, rfl, (hB.ex e1).ex e2, hD, fun H3 e3 => ?_⟩⟩
    walk_at "ww"
    refine ⟨_, rfl, .inl ⟨a, pp, rfl, ((hB.ex e1).ex e2).ex e3, hD, fun H4 e4 => ?_⟩⟩
    walk_at "ww"
    refine alI fun l5 H5 n5 e5 f5 => ?_
    walk_at "ww"
    refine alI fun l6 H6 n6 e6 f6 => ?_
    walk_at "ww"
    refine ⟨_, _, _, rfl, rfl, f6, by decide, by decide, (by show 3 ≤ sizeLine; decide), fun l7 n7 => ?_⟩
    have e7 : Ex H6 (upd H6 l7 (.lst [.str (bookT pp), .str (bookT pp), .str (bookT pp)])) := Ex.new n7
    have f7 : upd H6 l7 (.lst [.str (bookT pp), .str (bookT pp), .str (bookT pp)]) l7 = _ := upd_same
    show rEqD _ _ _ (upd H6 l7 (.lst [.str (bookT pp), .str (bookT pp), .str (bookT pp)])) _
    generalize upd H6 l7 (.lst [.str (bookT pp), .str (bookT pp), .str (bookT pp)]) = H7 at e7 f7 ⊢
    refine ⟨_, _, cmp_strs (e7 _ _ (e6 _ _ f5)), cmp_strs f7, ?_⟩
    rw [eqv_strs]
    walk_at "ww"
    refine ⟨pp, hD, rfl, fun t1 H8 e8 b8 => ?_⟩
    walk_at "ww"
    refine ⟨rfl, rfl, pp, hD, rfl, fun t2 H9 e9 b9 => ?_⟩
    walk_at "ww"
    refine ⟨pp, hD, rfl, fun t3 H10 e10 b10 => ?_⟩
    walk_at "ww"
    refine alI fun l11 H11 n11 e11 f11 => ?_
    have E7 := (((((e1.trans e2).trans e3).trans e4).trans e5).trans e6).trans e7
    have E11 := ((E7.trans e8).trans (e9.trans e10)).trans e11
    walk_at "ww"
    refine exSq (SqL.of f11) ?_
    intro D hD'
    refine lcList (K := K) (a := l11) (xs := [.ref t1, .ref t2, .ref t3]) (fun H' => Ex H11 H') (fun i y _ => y = .str (bookD pp).shown) (fun _ => rfl) (Ex.new hD') (fun H' e => SqL.of (e _ _ f11)) (fun i x hx H12 acc hI hD2 hl2 hR => ?_) (fun H12 ys hI hD2 hl2 hR => ?_)
    · have hx3 : ∃ t, x = .ref t ∧ Bk H11 t pp := by
        have hm := List.mem_of_getElem? hx
        simp only [List.mem_cons, List.not_mem_nil, or_false] at hm
        rcases hm with rfl | rfl | rfl
        · exact ⟨_, rfl, ((b8.ex e9).ex e10).ex e11⟩
        · exact ⟨_, rfl, (b9.ex e10).ex e11⟩
        · exact ⟨_, rfl, b10.ex e11⟩
      obtain ⟨t, rfl, bt⟩ := hx3
      have hi : i < 3 := (List.getElem?_eq_some_iff.mp hx).1
      walk_at "ww"
      obtain ⟨n, hn, rp⟩ := bk_rp (bt.ex hI) hD
      refine ⟨_, _, _, n, rfl, rp, hn, ?_⟩
      exact lcAdd hD2 hl2 (by omega) (hI.mut hD') hR rfl
    · have ey : ys = [.str (bookD pp).shown, .str (bookD pp).shown, .str (bookD pp).shown] := by
        match ys, hl2, hR with
        | [y0, y1, y2], _, hR =>
          have h0 := hR 0 y0 rfl
          have h1 := hR 1 y1 rfl
          have h2 := hR 2 y2 rfl
          rw [h0, h1, h2]
      rw [ey] at hD2
      walk_at "ww"
      obtain ⟨n, hn, rp⟩ := bk_rp ((hB.ex E11).ex hI) hD
      refine ⟨_, _, _, n, rfl, rp, hn, ?_⟩
      walk_at "ww"
      refine alI fun l13 H13 n13 e13 f13 => ?_
      walk_at "ww"
      refine ⟨_, _, _, rfl, rfl, f13, by decide, by decide, (by show 3 ≤ sizeLine; decide), fun l14 n14 => ?_⟩
      have e14 : Ex H13 (upd H13 l14 (.lst [.str (bookD pp).shown, .str (bookD pp).shown, .str (bookD pp).shown])) := Ex.new n14
      have f14 : upd H13 l14 (.lst [.str (bookD pp).shown, .str (bookD pp).shown, .str (bookD pp).shown]) l14 = _ := upd_same
      show rEqD _ _ _ (upd H13 l14 (.lst [.str (bookD pp).shown, .str (bookD pp).shown, .str (bookD pp).shown])) _
      generalize upd H13 l14 (.lst [.str (bookD pp).shown, .str (bookD pp).shown, .str (bookD pp).shown]) = H14 at e14 f14 ⊢
      refine ⟨_, _, cmp_strs (e14 _ _ (e13 _ _ hD2)), cmp_strs f14, ?_⟩
      rw [eqv_strs]
      exact k _ (((E11.trans hI).trans e13).trans e14)
theorem Nb.small {K : PySem.W.Frag} {H : Hp} {v : V} {i : Nat} (h : Nb K H v (some i)) : i < 60 := by
  cases h with
  | bad h l hi d ahead =>
    have := (List.getElem?_eq_some_iff.mp hi).1
    omega
theorem num_rp {K : PySem.W.Frag} {H G : Hp} {v : V} {o : Option Nat} (h : Nb K H v o) : ∃ d n, n ≤ 10000000 ∧ Rp G true 64 (numB o) d n := by
  cases o with
  | none => exact ⟨_, _, by decide, .non⟩
  | some i => exact ⟨_, _, by decide, .int _ (Nat.lt_of_le_of_lt (by have := h.small; omega : _ ≤ 60) (by decide +kernel))⟩
def spRefused (K : PySem.W.Frag) : Sp := fun vs H Q _ => ∃ m o, vs = [m, numB o] ∧ Nb K H m o ∧ ∀ H', Ex H H' → Q (.bl true) H'
theorem ok_Lrefused (T : Tx P K mg A) : FnQ P w K mg base CX0 7 A.f_Lrefused A.d_Lrefused ["_law_matter", "_law_number"] (spRefused K) := by
  refine okQ T.F_Lrefused sc_Lrefused (fun vs H Q E h => ?_) (fun cdv A' outer s H vs Q E hq h => ?_)
  · obtain ⟨m, o, rfl, _⟩ := h
    rfl
  · obtain ⟨m, o, rfl, hn, k⟩ := h
    have hr := hq.room
    refine ⟨_, (pss_one (ps_try_as (i := 2) (Wout := fun _ _ _ _ => False) rfl rfl sc_Lrefused.nd rfl rfl ⟨rfl, by decide, Or.inl T.g_ThankError⟩ takes0
    (fun W pn xe tk _ => (pss_one (ps_ret (pe_cmpR op_isN (pe_callS (ok_show_book T) (hr.mono (by decide)) (by rfl) T.g_show_book T.F_show_book.kp T.b_show_book (fun σ => passAt tk σ) (pa_cons (pv 0) pa_nil)) pe_non (nomark _)))))
    (fun a oe cls d pn hz hf => (pss_one (ps_ret (pe_and (pe_cmpR op_eq (pe_callP hz hf (ok_Lsort T) (roomS hr (by decide)) List.mem_cons_self (by rfl) T.g_Lsort T.F_Lsort.kp T.b_Lsort (pa_cons (pv 2) pa_nil)) pe_str (nomark _)) (pe_one (pe_cmpR op_eq (pe_callB (call_reprH hq.still hq.u65) (by rfl) T.m_repr (by decide +kernel) (pa_cons (pe_xf (sup_xf T.sup_NoBook) T.sup_NoBook.noN hz hf (pv 2)) pa_nil)) (pe_callB (call_reprH hq.still hq.u65) (by rfl) T.m_repr (by decide +kernel) (pa_cons (pv 1) pa_nil)) (nomark _))))))))), ?_⟩
    walk_at "ww"
    refine ⟨_, rfl, .inr ⟨o, hn, fun H' d e hd => ⟨true, T.ex_NoBook_ThankError, fun _ a ha => ?_, fun z => nomatch z⟩⟩⟩
    have e1 : Ex H' (upd H' d (.xd [("number", numB o)])) := Ex.new hd
    have f1 : upd H' d (.xd [("number", numB o)]) d = some (.xd [("number", numB o)]) := upd_same
    generalize upd H' d (.xd [("number", numB o)]) = H1 at e1 f1 ha ⊢
    show tRet _ _ _ H1
    walk_at "ww"
    intro oe hz hf
    refine ⟨d, _, rfl, hz, hf, f1, fun H2 e2 => ?_⟩
    walk_at "ww"
    rw [decide_eq_true (rfl : V.str (Str.ofString "book") = V.str (Str.ofString "book"))]
    walk_at "ww"
    refine wXfV rfl (e2 _ _ f1) rfl (wNil ?_)
    obtain ⟨d0, n0, hn0, rp0⟩ := num_rp (G := H2) hn
    refine ⟨_, _, _, n0, rfl, rp0, hn0, ?_⟩
    walk_at "ww"
    refine ⟨_, _, _, n0, rfl, rp0, hn0, ?_⟩
    walk_at "ww"
    rw [decide_eq_true (rfl : V.str d0.shown = V.str d0.shown)]
    exact k _ ((e.trans e1).trans e2)
section
variable {K : PySem.W.Frag} {H : Hp} {p a : Addr}
theorem odT {xs : List V} (n : a ≠ p) (h : H a = some (.tup xs)) (l : xs.length ≤ 1000) (ht : ∀ x ∈ xs, Thing K (hide p H) x) (e : deedL xs = false) : Dd K (hide p H) (.ref a) false := by
  have z : Dd K (hide p H) (.ref a) (deedL xs) := .tup ⟨hide_at n h, l, ht⟩
  rw [e] at z
  exact z
theorem odL {xs : List V} (n : a ≠ p) (h : H a = some (.lst xs)) : Dd K (hide p H) (.ref a) false := .oth (.lst (hide_at n h)) (by decide)
theorem odD {kvs : List (Key × V)} (n : a ≠ p) (h : H a = some (.dK kvs)) : Dd K (hide p H) (.ref a) false := .oth (.dK (hide_at n h)) (by decide)
theorem odN : Dd K H .non false := .oth .non (by decide)
theorem odI {i : Int} : Dd K H (.int i) false := .oth (.int i) (by decide)
theorem odB {b : Bool} : Dd K H (.bl b) false := .oth (.bl b) (by decide)
theorem odS {z : Str} : Dd K H (.str z) false := .oth (.str z) (by decide)
theorem Dl.kpp {H G : Hp} {p : Addr} (hP : Pool H p) (e : Kp p H G) : ∀ {rs : List Addr} {pp : List (List V)}, Dl H rs pp → Dl G rs pp
  | _, _, .nil => .nil
  | _, _, .cons h t => .cons (e _ _ (hP.tup h) h) (t.kpp hP e)
theorem Bk.kpp {H G : Hp} {p a : Addr} {pp : List (List V)} (hP : Pool H p) (e : Kp p H G) (h : Bk H a pp) : Bk G a pp := h.elim fun rs q => ⟨rs, e _ _ (hP.tup q.1) q.1, q.2.kpp hP e⟩
end
theorem odd_ref {x : Addr} : deedL [.str "come", .ref x] = false := by
  show ((isW (.str "come") "come" || isW (.str "come") "go") && nameV (.ref x) || false) = false
  simp [nameV]
theorem cutV_pre {xs : List V} {n : Nat} (h : n ≤ xs.length) : cutV xs none (some (n : Int)) = xs.take n := by
  unfold cutV
  rw [HT.sIx_none, HT.sIx_nat, Nat.min_eq_left h]
  simp
theorem cutV_suf {xs : List V} {n : Nat} (h : n ≤ xs.length) : cutV xs (some (n : Int)) none = xs.drop n := by
  unfold cutV
  rw [HT.sIx_none, HT.sIx_nat, Nat.min_eq_left h]
  first
    | exact List.take_of_length_le (by rw [List.length_drop]; exact Nat.le_refl _)
    | simp
section
variable {K : PySem.W.Frag} {H : Hp}
theorem nb_put {b : Addr} {xs ys : List V} {odd : V} {i : Nat} (h : H b = some (.tup (xs.take i ++ [odd] ++ ys))) (hi : i ≤ xs.length) (l : i + 1 + ys.length ≤ 60) (d : Dd K H odd false) (t : ∀ x ∈ xs, Dd K H x true) : Nb K H (.ref b) (some i) := by
  have lt : (xs.take i).length = i := by rw [List.length_take]; omega
  refine .bad h (by simp only [List.length_append, lt, List.length_cons, List.length_nil]; omega) ?_ d fun j y hj e => ?_
  · rw [List.append_assoc, List.getElem?_append_right (by omega), lt, Nat.sub_self]
    rfl
  · rw [List.append_assoc, List.getElem?_append_left (by omega)] at e
    exact t y (List.mem_of_mem_take (List.mem_of_getElem? e))
theorem parts_dt : ∀ {xs : List V}, (∀ x ∈ xs, Pt x) → DtA H xs (xs.map partD) ∧ PyData.plainAll (xs.map partD) = true ∧ PyData.depthAll (xs.map partD) = 0
  | [], _ => ⟨.nil, by simp [PyData.plainAll], by simp [PyData.depthAll]⟩
  | x :: xs, h => by
    obtain ⟨q1, q2, q3⟩ := parts_dt (xs := xs) fun y hy => h y (List.mem_cons_of_mem _ hy)
    have hx := h x List.mem_cons_self
    cases hx with
    | s hz => exact ⟨.cons (.str _) q1, by simp [PyData.plainAll, PyData.plain, partD, q2], by simp [PyData.depthAll, PyData.depth, partD, q3]⟩
    | i h0 h1 => exact ⟨.cons (.int _) q1, by simp [PyData.plainAll, PyData.plain, partD, q2], by simp [PyData.depthAll, PyData.depth, partD, q3]⟩
theorem rows_dt : ∀ {xs : List V}, (∀ x ∈ xs, ∃ r ys, x = .ref r ∧ H r = some (.tup ys) ∧ deedL ys = true) → ∃ ds, DtA H xs ds ∧ PyData.plainAll ds = true ∧ PyData.depthAll ds ≤ 1
  | [], _ => ⟨[], .nil, by simp [PyData.plainAll], by simp [PyData.depthAll]⟩
  | x :: xs, h => by
    obtain ⟨ds, q1, q2, q3⟩ := rows_dt (xs := xs) fun y hy => h y (List.mem_cons_of_mem _ hy)
    obtain ⟨r, ys, rfl, hr, hd⟩ := h x List.mem_cons_self
    obtain ⟨p1, p2, p3⟩ := parts_dt (H := H) (deed_parts hd).1
    exact ⟨.tuple (ys.map partD) :: ds, .cons (.tup hr p1) q1, by simp [PyData.plainAll, PyData.plain, p2, q2], by simp [PyData.depthAll, PyData.depth, p3]; omega⟩
theorem Dl.rows : ∀ {rs : List Addr} {pp : List (List V)}, Dl H rs pp → (∀ xs ∈ pp, deedL xs = true) → ∀ x ∈ rs.map V.ref, ∃ r ys, x = .ref r ∧ H r = some (.tup ys) ∧ deedL ys = true
  | _, _, .nil, _ => fun x hx => by cases hx
  | _, _, .cons h t, hd => fun x hx => by
    rcases List.mem_cons.mp hx with rfl | hx
    · exact ⟨_, _, rfl, h, hd _ List.mem_cons_self⟩
    · exact t.rows (fun ys hy => hd ys (List.mem_cons_of_mem _ hy)) x hx
end
def spOthers : Sp := fun vs H Q _ => ∃ p a pp, vs = [.ref p, .ref a] ∧ Pool H p ∧ Bk H a pp ∧ Deeds pp ∧ ∀ H', Kp p H H' → Q (.bl true) H'
theorem ok_Lothers_right (T : Tx P K mg A) : FnQ P w K mg base CX0 8 A.f_Lothers_right A.d_Lothers_right ["_law_pool_here", "_law_pages"] spOthers := by
  refine okQ T.F_Lothers_right sc_Lothers_right (fun vs H Q E h => ?_) (fun cdv A' outer s H0 vs Q E hq h => ?_)
  · obtain ⟨p, a, pp, rfl, _⟩ := h
    rfl
  · obtain ⟨p, a, pp, rfl, hP0, hB, hD, k⟩ := h
    have hr := hq.room
    refine ⟨_, (pss_cons (ps_set (i := 2) sc_Lothers_right.nd rfl (Or.inl rfl) (pe_lst (pa_cons pe_non (pa_cons pe_int (pa_cons pe_bl (pa_cons pe_str (pa_cons (pe_tup pa_nil) (pa_cons (pe_lst pa_nil) (pa_cons pe_dnewK (pa_cons (pe_tup (pa_cons pe_str pa_nil)) (pa_cons (pe_tup (pa_cons pe_str (pa_cons pe_str pa_nil))) (pa_cons (pe_tup (pa_cons pe_str (pa_cons pe_str pa_nil))) pa_nil))))))))))))
    (pss_cons (ps_set (i := 2) sc_Lothers_right.nd rfl (Or.inl rfl) (pe_op op_cat (pv 2) (pe_lst (pa_cons (pe_tup (pa_cons pe_str (pa_cons pe_str (pa_cons pe_str (pa_cons pe_int pa_nil))))) (pa_cons (pe_tup (pa_cons pe_str (pa_cons pe_str pa_nil))) pa_nil)))))
    (pss_cons (ps_set (i := 2) sc_Lothers_right.nd rfl (Or.inl rfl) (pe_op op_cat (pv 2) (pe_lst (pa_cons (pe_lst (pa_cons pe_str (pa_cons pe_str pa_nil))) (pa_cons (pe_tup (pa_cons pe_str (pa_cons pe_str (pa_cons pe_str (pa_cons pe_int pa_nil))))) (pa_cons (pe_tup (pa_cons pe_str (pa_cons pe_str (pa_cons pe_str (pa_cons pe_str (pa_cons pe_int pa_nil)))))) pa_nil))))))
    (pss_cons (ps_set (i := 2) sc_Lothers_right.nd rfl (Or.inl rfl) (pe_op op_cat (pv 2) (pe_lst (pa_cons (pe_tup (pa_cons pe_str (pa_cons pe_str (pa_cons pe_str (pa_cons pe_bl pa_nil))))) pa_nil))))
    (pss_cons (ps_set (i := 2) sc_Lothers_right.nd rfl (Or.inl rfl) (pe_op op_cat (pv 2) (pe_lst (pa_cons (pe_tup (pa_cons (pe_lst (pa_cons pe_str pa_nil)) (pa_cons pe_str pa_nil))) (pa_cons (pe_tup (pa_cons pe_str (pa_cons (pe_lst (pa_cons pe_str pa_nil)) pa_nil))) pa_nil)))))
    (C8.pss_cut (ps_par (i := 3) (j := 4) (by rfl) sc_Lothers_right.nd rfl rfl (by decide) rfl rfl (pa_cons (pe_ix (ix_listV (K := K) rfl) (pv 2) (pe_call (ok_Ltake T) (hr.mono (by decide)) (by rfl) T.g_Ltake T.F_Ltake.kp T.b_Ltake .nil pass0 (pa_cons (pv 0) (pa_cons pe_int pa_nil))) (fun _ _ => rfl)) (pa_cons (pe_call (ok_Ltake T) (hr.mono (by decide)) (by rfl) T.g_Ltake T.F_Ltake.kp T.b_Ltake .nil pass0 (pa_cons (pv 0) (pa_cons (pe_op op_add (pe_callB (call_lenV (K := K) rfl) (by rfl) T.m_len (by decide +kernel) (pa_cons (pv 1) pa_nil)) pe_int) pa_nil))) pa_nil)) (by rfl))
    (C8.pss_cut (ps_if (PW.pt (pw_and (pt_cmpR op_lt (pe_callB (call_lenV (K := K) rfl) (by rfl) T.m_len (by decide +kernel) (pa_cons (pv 1) pa_nil)) pe_int (nomark _)) (pw_and1 (pt_not (pt_val (pe_callQ (ok_Lrefused T) (hq.mono (by decide)) (by rfl) T.g_Lrefused T.F_Lrefused.kp T.b_Lrefused pass0 (pa_cons (pe_op (op_catTV (K := K) rfl) (pe_op (op_catTV (K := K) rfl) (pe_slice (sl_tupV (K := K) rfl) (pv 1) po_none (po_some (pv 4))) (pe_tup (pa_cons (pv 3) pa_nil))) (pe_slice (sl_tupV (K := K) rfl) (pv 1) (po_some (pv 4)) po_none)) (pa_cons (pv 4) pa_nil))))))))
    (pss_one (ps_ret pe_bl))
    pss_nil)
    (C8.pss_cut (ps_if (PW.pt (pw_and (pt_cmpR (op_neD hr.units) (pe_slice (sl_tupV (K := K) rfl) (pv 1) (po_some (pv 4)) po_none) (pe_tup pa_nil) (nomark _)) (pw_and1 (pt_not (pt_val (pe_callQ (ok_Lrefused T) (hq.mono (by decide)) (by rfl) T.g_Lrefused T.F_Lrefused.kp T.b_Lrefused pass0 (pa_cons (pe_op (op_catTV (K := K) rfl) (pe_op (op_catTV (K := K) rfl) (pe_slice (sl_tupV (K := K) rfl) (pv 1) po_none (po_some (pv 4))) (pe_tup (pa_cons (pv 3) pa_nil))) (pe_slice (sl_tupV (K := K) rfl) (pv 1) (po_some (pe_op op_add (pv 4) pe_int)) po_none)) (pa_cons (pv 4) pa_nil))))))))
    (pss_one (ps_ret pe_bl))
    pss_nil)
    (pss_cons (ps_set (i := 5) sc_Lothers_right.nd rfl (Or.inl rfl) (pe_lst (pa_cons (pe_callTy (call_list_ofV (K := K) rfl) (by rfl) T.m_list (by decide +kernel) (pa_cons (pv 1) pa_nil)) (pa_cons (pe_op (op_repTV (K := K) rfl) (pe_tup (pa_cons (pe_tup (pa_cons pe_str (pa_cons pe_str pa_nil))) pa_nil)) pe_int) (pa_cons pe_non (pa_cons pe_int (pa_cons pe_bl (pa_cons pe_str (pa_cons pe_str (pa_cons pe_dnewK pa_nil))))))))))
    (pss_cons (ps_set (i := 5) sc_Lothers_right.nd rfl (Or.inl rfl) (pe_op op_cat (pv 5) (pe_lst (pa_cons (pe_op (op_catTV (K := K) rfl) (pv 1) (pe_op (op_repTV (K := K) rfl) (pe_tup (pa_cons (pe_tup (pa_cons pe_str (pa_cons pe_str pa_nil))) pa_nil)) pe_int)) pa_nil))))
    (pss_one (ps_ret (pe_callB (cr_allV (K := K) rfl rfl) (by rfl) T.m_all (by decide +kernel) (pa_cons (pe_lc rfl sc_Lothers_right.nd (g := gName 6) (pi_listV (K := K) rfl (pv 5)) (blkOk_by (own := [("_law_matter", 6)]) (N := ["_law_pool_here", "_law_pages", "_law_some", "_law_odd", "_law_at", "_law_matters", "_law_matter"]) (sc := defScope s_Lothers_right) (by decide +kernel)) (fun _ _ _ _ _ => (pg_name (i := 6) sc_Lothers_right.nd rfl (Or.inl rfl))) (fun _ _ _ _ _ => pts_nil) (fun _ _ _ _ _ => (pe_callQ (ok_Lrefused T) (hq.mono (by decide)) (by rfl) T.g_Lrefused T.F_Lrefused.kp T.b_Lrefused pass0 (pa_cons (pv 6) (pa_cons pe_non pa_nil))))) pa_nil)))))))))))))), ?_⟩
    walk_at "ww"

    refine alI fun t1 H1 n1 e1 t1_f => ?_
    have hP1 := hP0.ex e1
    have m_t1 : t1 ≠ p := hP0.ne n1
    walk_at "ww"
    refine alI fun l1 H2 n2 e2 l1_f => ?_
    have hP2 := hP1.ex e2
    have m_l1 : l1 ≠ p := hP1.ne n2
    walk_at "ww"
    refine alI fun d1 H3 n3 e3 d1_f => ?_
    have hP3 := hP2.ex e3
    have m_d1 : d1 ≠ p := hP2.ne n3
    walk_at "ww"
    refine alI fun t2 H4 n4 e4 t2_f => ?_
    have hP4 := hP3.ex e4
    have m_t2 : t2 ≠ p := hP3.ne n4
    walk_at "ww"
    refine alI fun t3 H5 n5 e5 t3_f => ?_
    have hP5 := hP4.ex e5
    have m_t3 : t3 ≠ p := hP4.ne n5
    walk_at "ww"
    refine alI fun t4 H6 n6 e6 t4_f => ?_
    have hP6 := hP5.ex e6
    have m_t4 : t4 ≠ p := hP5.ne n6
    walk_at "ww"
    refine alI fun L1 H7 n7 e7 L1_f => ?_
    have hP7 := hP6.ex e7
    have m_L1 : L1 ≠ p := hP6.ne n7
    walk_at "ww"
    refine alI fun t5 H8 n8 e8 t5_f => ?_
    have hP8 := hP7.ex e8
    have m_t5 : t5 ≠ p := hP7.ne n8
    walk_at "ww"
    refine alI fun t6 H9 n9 e9 t6_f => ?_
    have hP9 := hP8.ex e9
    have m_t6 : t6 ≠ p := hP8.ne n9
    walk_at "ww"
    refine alI fun L2 H10 n10 e10 L2_f => ?_
    have hP10 := hP9.ex e10
    have m_L2 : L2 ≠ p := hP9.ne n10
    refine wCatL (by walk_at "lk") L2_f (by simp) fun S2 H11 e11 S2_f n11 => ?_
    have hP11 := hP10.ex e11
    have m_S2 : S2 ≠ p := hP10.ne n11
    walk_at "ww"
    refine alI fun l3 H12 n12 e12 l3_f => ?_
    have hP12 := hP11.ex e12
    have m_l3 : l3 ≠ p := hP11.ne n12
    walk_at "ww"
    refine alI fun t7 H13 n13 e13 t7_f => ?_
    have hP13 := hP12.ex e13
    have m_t7 : t7 ≠ p := hP12.ne n13
    walk_at "ww"
    refine alI fun t8 H14 n14 e14 t8_f => ?_
    have hP14 := hP13.ex e14
    have m_t8 : t8 ≠ p := hP13.ne n14
    walk_at "ww"
    refine alI fun L3 H15 n15 e15 L3_f => ?_
    have hP15 := hP14.ex e15
    have m_L3 : L3 ≠ p := hP14.ne n15
    refine wCatL (by walk_at "lk") L3_f (by simp) fun S3 H16 e16 S3_f n16 => ?_
    have hP16 := hP15.ex e16
    have m_S3 : S3 ≠ p := hP15.ne n16
    walk_at "ww"
    refine alI fun t9 H17 n17 e17 t9_f => ?_
    have hP17 := hP16.ex e17
    have m_t9 : t9 ≠ p := hP16.ne n17
    walk_at "ww"
    refine alI fun L4 H18 n18 e18 L4_f => ?_
    have hP18 := hP17.ex e18
    have m_L4 : L4 ≠ p := hP17.ne n18
    refine wCatL (by walk_at "lk") L4_f (by simp) fun S4 H19 e19 S4_f n19 => ?_
    have hP19 := hP18.ex e19
    have m_S4 : S4 ≠ p := hP18.ne n19
    walk_at "ww"
    refine alI fun l4 H20 n20 e20 l4_f => ?_
    have hP20 := hP19.ex e20
    have m_l4 : l4 ≠ p := hP19.ne n20
    walk_at "ww"
    refine alI fun t10 H21 n21 e21 t10_f => ?_
    have hP21 := hP20.ex e21
    have m_t10 : t10 ≠ p := hP20.ne n21
    walk_at "ww"
    refine alI fun l5 H22 n22 e22 l5_f => ?_
    have hP22 := hP21.ex e22
    have m_l5 : l5 ≠ p := hP21.ne n22
    walk_at "ww"
    refine alI fun t11 H23 n23 e23 t11_f => ?_
    have hP23 := hP22.ex e23
    have m_t11 : t11 ≠ p := hP22.ne n23
    walk_at "ww"
    refine alI fun L5 H24 n24 e24 L5_f => ?_
    have hP24 := hP23.ex e24
    have m_L5 : L5 ≠ p := hP23.ne n24
    refine wCatL (by walk_at "lk") L5_f (by simp) fun S5 H25 e25 S5_f n25 => ?_
    have hP25 := hP24.ex e25
    have m_S5 : S5 ≠ p := hP24.ne n25
    walk_at "ww"
    refine wCut (fun σ H' => ∃ v2 odd i, σ = [some (.ref p), some (.ref a), v2, some odd, some (.int ((i : Nat) : Int)), none, none] ∧ i ≤ pp.length ∧ Dd K H' odd false ∧ Kp p H0 H' ∧ Pool H' p) ?_ ?_
    · walk_at "ww"
      refine ⟨p, 18, rfl, hP25, by omega, by omega, fun d HY d0 d1 eY hPY => ?_⟩
      obtain ⟨v, hv, hm⟩ := at_ex d0 (show d < (([_, _, _, _, _, _, _, _, _, _] ++ [_, _] ++ [_, _, _] ++ [_] ++ [_, _] : List V).length : Nat) from d1)
      refine wIxL (SqL.of (eY _ _ m_S5 S5_f)) hv ?_
      have dd : Dd K (hide p H25) v false := by
        simp only [List.cons_append, List.nil_append, List.mem_cons, List.not_mem_nil, or_false] at hm
        rcases hm with rfl | rfl | rfl | rfl | rfl | rfl | rfl | rfl | rfl | rfl | rfl | rfl | rfl | rfl | rfl | rfl | rfl | rfl
        · exact odN
        · exact odI
        · exact odB
        · exact odS
        · exact odT m_t1 (by walk_at "lk") (by simp) (by walk_at "things") (by decide +kernel)
        · exact odL m_l1 (by walk_at "lk")
        · exact odD m_d1 (by walk_at "lk")
        · exact odT m_t2 (by walk_at "lk") (by simp) (by walk_at "things") (by decide +kernel)
        · exact odT m_t3 (by walk_at "lk") (by simp) (by walk_at "things") (by decide +kernel)
        · exact odT m_t4 (by walk_at "lk") (by simp) (by walk_at "things") (by decide +kernel)
        · exact odT m_t5 (by walk_at "lk") (by simp) (by walk_at "things") (by decide +kernel)
        · exact odT m_t6 (by walk_at "lk") (by simp) (by walk_at "things") (by decide +kernel)
        · exact odL m_l3 (by walk_at "lk")
        · exact odT m_t7 (by walk_at "lk") (by simp) (by walk_at "things") (by decide +kernel)
        · exact odT m_t8 (by walk_at "lk") (by simp) (by walk_at "things") (by decide +kernel)
        · exact odT m_t9 (by walk_at "lk") (by simp) (by walk_at "things") (by decide +kernel)
        · exact odT m_t10 (by walk_at "lk") (by simp) (List.forall_mem_cons.mpr ⟨.l (hide_at m_l4 (by walk_at "lk")), List.forall_mem_cons.mpr ⟨.s (by decide +kernel), List.forall_mem_nil _⟩⟩) (deed_nostr rfl)
        · exact odT m_t11 (by walk_at "lk") (by simp) (List.forall_mem_cons.mpr ⟨.s (by decide +kernel), List.forall_mem_cons.mpr ⟨.l (hide_at m_l5 (by walk_at "lk")), List.forall_mem_nil _⟩⟩) odd_ref
      have EN : Ex H0 H25 := ((((((((((((((((((((((((e1.trans e2).trans e3).trans e4).trans e5).trans e6).trans e7).trans e8).trans e9).trans e10).trans e11).trans e12).trans e13).trans e14).trans e15).trans e16).trans e17).trans e18).trans e19).trans e20).trans e21).trans e22).trans e23).trans e24).trans e25)
      have KY := EN.kp.trans eY
      obtain ⟨rs, ha, dl⟩ := hB.kpp hP0 KY
      have len := dl.length
      have l60 := hD.2
      walk_at "ww"
      refine wLenT (SqT.of ha) ?_
      walk_at "ww"
      refine ⟨p, _, rfl, hPY, by omega, by rw [List.length_map]; omega, fun i HZ i0 i1 eZ hPZ => ?_⟩
      rw [List.length_map] at i1
      walk_at "ww"
      obtain ⟨j, rfl⟩ : ∃ j : Nat, i = (j : Int) := ⟨i.toNat, by omega⟩
      exact ⟨_, v, j, rfl, by omega, (dd.ex (eY.trans eZ).hide).ex hide_ex, KY.trans eZ, hPZ⟩
    · rintro σ H ⟨v2, odd, i, rfl, hi, dd, kk, hP⟩
      clear S5_f e25 n25 hP25 m_S5 L5_f e24 n24 hP24 m_L5 t11_f e23 n23 hP23 m_t11 l5_f e22 n22 hP22 m_l5 t10_f e21 n21 hP21 m_t10 l4_f e20 n20 hP20 m_l4 S4_f e19 n19 hP19 m_S4 L4_f e18 n18 hP18 m_L4 t9_f e17 n17 hP17 m_t9 S3_f e16 n16 hP16 m_S3 L3_f e15 n15 hP15 m_L3 t8_f e14 n14 hP14 m_t8 t7_f e13 n13 hP13 m_t7 l3_f e12 n12 hP12 m_l3 S2_f e11 n11 hP11 m_S2 L2_f e10 n10 hP10 m_L2 t6_f e9 n9 hP9 m_t6 t5_f e8 n8 hP8 m_t5 L1_f e7 n7 hP7 m_L1 t4_f e6 n6 hP6 m_t4 t3_f e5 n5 hP5 m_t3 t2_f e4 n4 hP4 m_t2 d1_f e3 n3 hP3 m_d1 l1_f e2 n2 hP2 m_l1 t1_f e1 n1 hP1 m_t1
      obtain ⟨rs, ha, dl⟩ := hB.kpp hP0 kk
      have len := dl.length
      have l60 := hD.2
      have hx : i ≤ (rs.map V.ref).length := by rw [List.length_map]; omega
      have rows := dl.rows hD.1
      have good : ∀ x ∈ rs.map V.ref, Dd K H x true := dl.dd hD.1
      have hx2 : (rs.map V.ref).length = pp.length := by rw [List.length_map, len]
      generalize rs.map V.ref = xs at ha hx rows good hx2
      clear dl len
      refine wCut (fun σ' H' => σ' = [some (.ref p), some (.ref a), v2, some odd, some (.int ((i : Nat) : Int)), none, none] ∧ Ex H H') ?_ ?_
      · walk_at "ww"
        refine wLenT (SqT.of ha) ?_
        walk_at "ww"
        refine ite2 (fun c => ?_) (fun c => ?_)
        · have c := of_decide_eq_true c
          walk_at "ww"
          refine wSlAny ha fun b1 H1 e1 f1 => ?_
          walk_at "ww"
          refine alI fun b2 H2 n2 e2 f2 => ?_
          rw [cutV_pre hx] at f1
          refine wCatAny (e2 _ _ f1) f2 (by rw [List.length_take, List.length_singleton]; omega) fun b3 H3 e3 f3 => ?_
          walk_at "ww"
          refine wSlAny (((e1.trans e2).trans e3) _ _ ha) fun b4 H4 e4 f4 => ?_
          rw [cutV_suf hx] at f4
          refine wCatAny (e4 _ _ f3) f4 (by simp only [List.length_append, List.length_take, List.length_drop, List.length_singleton]; omega) fun b5 H5 e5 f5 => ?_
          walk_at "ww"
          have E5 : Ex H H5 := (((e1.trans e2).trans e3).trans e4).trans e5
          refine ⟨_, some i, rfl, nb_put f5 hx (by rw [List.length_drop]; omega) (dd.ex E5) (fun x h => (good x h).ex E5), fun H6 e6 => ?_⟩
          walk_at "ww"
          exact ⟨rfl, E5.trans e6⟩
        · walk_at "ww"
          exact ⟨rfl, Ex.refl _⟩
      · rintro σ H1 ⟨rfl, e1⟩
        have ha := e1 _ _ ha
        refine wCut (fun σ' H' => σ' = [some (.ref p), some (.ref a), v2, some odd, some (.int ((i : Nat) : Int)), none, none] ∧ Ex H H') ?_ ?_
        · walk_at "ww"
          refine wSlAny ha fun b1 H2 e2 f1 => ?_
          walk_at "ww"
          refine alI fun b2 H3 n3 e3 f2 => ?_
          rw [cutV_suf hx] at f1
          have E3 : Ex H H3 := (e1.trans e2).trans e3
          obtain ⟨ds, d1, d2, d3⟩ := rows_dt (H := H) (xs := xs.drop i) fun x h => rows x (List.mem_of_mem_drop h)
          refine ⟨.tuple ds, .tuple [], ⟨.tup (e3 _ _ f1) (d1.ex E3), by simp [PyData.plain, d2], by simp [PyData.depth]; omega⟩, ⟨.tup f2 .nil, by simp [PyData.plain, PyData.plainAll], by simp [PyData.depth, PyData.depthAll]⟩, ?_⟩
          have dl := d1.length
          rw [List.length_drop] at dl
          cases ds with
          | nil =>
            rw [show (not (PyData.eqv (.tuple []) (.tuple []))) = false by simp [PyData.eqv, PyData.eqvAll]]
            walk_at "ww"
            exact ⟨rfl, E3⟩
          | cons d ds =>
            rw [List.length_cons] at dl
            rw [show (not (PyData.eqv (.tuple (d :: ds)) (.tuple []))) = true by simp [PyData.eqv, PyData.eqvAll]]
            walk_at "ww"
            have ha3 := E3 _ _ ‹H a = _›
            refine wSlAny ha3 fun b4 H4 e4 f4 => ?_
            walk_at "ww"
            refine alI fun b5 H5 n5 e5 f5 => ?_
            rw [cutV_pre hx] at f4
            refine wCatAny (e5 _ _ f4) f5 (by rw [List.length_take, List.length_singleton]; omega) fun b6 H6 e6 f6 => ?_
            walk_at "ww"
            rw [show ((i : Nat) : Int) + 1 = ((i + 1 : Nat) : Int) from rfl]
            refine wSlAny (((e4.trans e5).trans e6) _ _ ha3) fun b7 H7 e7 f7 => ?_
            rw [cutV_suf (by omega)] at f7
            refine wCatAny (e7 _ _ f6) f7 (by simp only [List.length_append, List.length_take, List.length_drop, List.length_singleton]; omega) fun b8 H8 e8 f8 => ?_
            walk_at "ww"
            have E8 : Ex H H8 := ((((E3.trans e4).trans e5).trans e6).trans e7).trans e8
            refine ⟨_, some i, rfl, nb_put f8 hx (by rw [List.length_drop]; omega) (dd.ex E8) (fun x h => (good x h).ex E8), fun H9 e9 => ?_⟩
            walk_at "ww"
            exact ⟨rfl, E8.trans e9⟩
        · rintro σ H2 ⟨rfl, e2⟩
          have ha := e2 _ _ ‹H a = _›
          walk_at "ww"
          refine ⟨a, xs, rfl, .inr (SqT.of ha), fun l3 n3 => ?_⟩
          have e3 : Ex H2 (upd H2 l3 (.lst xs)) := Ex.new n3
          have f3 : (upd H2 l3 (.lst xs)) l3 = some (.lst xs) := upd_same
          generalize upd H2 l3 (.lst xs) = H3 at e3 f3 ⊢
          walk_at "ww"
          refine alI fun t4 H4 n4 e4 f4 => ?_
          walk_at "ww"
          refine alI fun t5 H5 n5 e5 f5 => ?_
          walk_at "ww"
          refine ⟨t5, 61, _, rfl, rfl, SqT.of f5, by simp, by decide, by decide, by simp, fun t6 n6 => ?_⟩
          have e6 : Ex H5 (upd H5 t6 (.tup (List.replicate (Int.toNat 61) [V.ref t4]).flatten)) := Ex.new n6
          have f6 : (upd H5 t6 (.tup (List.replicate (Int.toNat 61) [V.ref t4]).flatten)) t6 = some (.tup (List.replicate (Int.toNat 61) [V.ref t4]).flatten) := upd_same
          generalize upd H5 t6 (.tup (List.replicate (Int.toNat 61) [V.ref t4]).flatten) = H6 at e6 f6 ⊢
          walk_at "ww"
          refine alI fun d7 H7 n7 e7 f7 => ?_
          walk_at "ww"
          refine alI fun l8 H8 n8 e8 f8 => ?_
          walk_at "ww"
          refine alI fun t9 H9 n9 e9 f9 => ?_
          walk_at "ww"
          refine alI fun t10 H10 n10 e10 f10 => ?_
          walk_at "ww"
          refine ⟨t10, 61, _, rfl, rfl, SqT.of f10, by simp, by decide, by decide, by simp, fun t11 n11 => ?_⟩
          have e11 : Ex H10 (upd H10 t11 (.tup (List.replicate (Int.toNat 61) [V.ref t9]).flatten)) := Ex.new n11
          have f11 : (upd H10 t11 (.tup (List.replicate (Int.toNat 61) [V.ref t9]).flatten)) t11 = some (.tup (List.replicate (Int.toNat 61) [V.ref t9]).flatten) := upd_same
          generalize upd H10 t11 (.tup (List.replicate (Int.toNat 61) [V.ref t9]).flatten) = H11 at e11 f11 ⊢
          have rl : ∀ x : V, ((List.replicate (Int.toNat 61) [x]).flatten).length = 61 := fun x => by simp
          have E10 : Ex H2 H11 := ((((((((e3.trans e4).trans e5).trans e6).trans e7).trans e8).trans e9).trans e10).trans e11)
          refine wCatAny (E10 _ _ ha) f11 (by rw [rl]; omega) fun t12 H12 e12 f12 => ?_
          walk_at "ww"
          refine alI fun l13 H13 n13 e13 f13 => ?_
          have E13 : Ex H8 H13 := ((((e9.trans e10).trans e11).trans e12).trans e13)
          refine wCatL (E13 _ _ f8) f13 (by simp) fun l14 H14 e14 f14 n14 => ?_
          have E14 := E13.trans e14
          have nb : ∀ x ∈ ([V.ref l3, V.ref t6, V.non, V.int 0, V.bl true, V.str "", V.str "come ann", V.ref d7] ++ [V.ref t12] : List V), Nb K H14 x none := by
            have e7' := e7.trans (e8.trans E14)
            have kk0 : kitB "list" "tuple" = some false := by decide +kernel
            have kk1 : kitB "NoneType" "tuple" = some false := by decide +kernel
            have kk2 : kitB "int" "tuple" = some false := by decide +kernel
            have kk3 : kitB "bool" "tuple" = some false := by decide +kernel
            have kk4 : kitB "str" "tuple" = some false := by decide +kernel
            have kk5 : kitB "dict" "tuple" = some false := by decide +kernel
            intro x hm
            simp only [List.cons_append, List.nil_append, List.mem_cons, List.not_mem_nil, or_false] at hm
            rcases hm with rfl | rfl | rfl | rfl | rfl | rfl | rfl | rfl | rfl
            · exact .kind (.lst (((e4.trans (e5.trans e6)).trans e7') _ _ f3)) kk0
            · exact .long (e7' _ _ f6) (by rw [rl]; decide)
            · exact .kind .non kk1
            · exact .kind (.int 0) kk2
            · exact .kind (.bl true) kk3
            · exact .kind (.str _) kk4
            · exact .kind (.str _) kk4
            · exact .kind (.dK ((e8.trans E14) _ _ f7)) kk5
            · exact .long ((e13.trans e14) _ _ f12) (by rw [List.length_append, rl]; omega)
          have EE : Ex H H14 := ((e2.trans (((e3.trans e4).trans e5).trans e6)).trans (e7.trans e8)).trans E14
          clear e3 e4 e5 e6 e7 e8 e9 e10 e11 e12 e13 e14 E10 E13 E14 f3 f4 f5 f6 f7 f8 f9 f10 f11 f12 f13
          have ml : ([V.ref l3, V.ref t6, V.non, V.int 0, V.bl true, V.str "", V.str "come ann", V.ref d7] ++ [V.ref t12] : List V).length = 9 := rfl
          generalize [V.ref l3, V.ref t6, V.non, V.int 0, V.bl true, V.str "", V.str "come ann", V.ref d7] ++ [V.ref t12] = ms at f14 nb ml
          walk_at "ww"
          refine exSq (SqL.of f14) ?_
          intro D hD'
          refine lcList (K := K) (a := l14) (xs := ms) (fun H' => Ex H14 H') (fun i y _ => y = .bl true) (fun _ => rfl) (Ex.new hD') (fun H' e => SqL.of (e _ _ f14)) (fun j x hx H15 acc hI hD2 hl2 hR => ?_) (fun H15 ys hI hD2 hl2 hR => ?_)
          · have hj : j < ms.length := (List.getElem?_eq_some_iff.mp hx).1
            walk_at "ww"
            refine ⟨x, none, rfl, (nb x (List.mem_of_getElem? hx)).ex hI, fun H16 e16 => ?_⟩
            exact lcAdd (e16 _ _ hD2) hl2 (by omega) ((hI.trans e16).mut hD') hR rfl
          · obtain ⟨bs, rfl, hb⟩ := all_true hR
            walk_at "ww"
            refine wAll (SqL.of hD2) ?_
            rw [hb]
            exact k _ (kk.trans (EE.trans hI).kp)
def spLaw (K : PySem.W.Frag) : Sp := fun vs H Q _ => ∃ (a : Addr) (ns : List Int), vs = [.ref a] ∧ SqL K H a (ns.map V.int) ∧ ns.length ≤ 63 ∧ ∀ H', Q (.bl true) H'
theorem ok_law (T : Tx P K mg A) {f : Addr} {fd : FuncData} (F : Fun K "law" "law" s_law f fd) : FnQ P w K mg base CX0 9 f fd ["_law_script"] (spLaw K) := by
  refine okQ F sc_law (fun vs H Q E h => ?_) (fun cdv A' outer s H vs Q E hq h => ?_)
  · obtain ⟨a, ns, rfl, _⟩ := h
    rfl
  · obtain ⟨a, ns, rfl, hS, hlen, k⟩ := h
    have hr := hq.room
    have D0 : Deeds [] := ⟨fun _ h => (by cases h), Nat.zero_le _⟩
    have b0 : bookT [] = Str.ofString "" := by decide +kernel
    refine ⟨_, (pss_cons (ps_if (PW.pt (pw_or (pt_cmpR op_ne (pe_callS (E := fun _ => E0) (ok_show_book T) (hr.mono (by decide)) (by rfl) T.g_show_book T.F_show_book.kp T.b_show_book (fun σ => passNo σ) (pa_cons (pe_tup pa_nil) pa_nil)) pe_str (nomark _)) (pw_or1 (pt_cmpR (op_neD hr.units) (pe_call (ok_read_book T) (hr.mono (by decide)) (by rfl) T.g_read_book T.F_read_book.kp T.b_read_book .nil pass0 (pa_cons pe_str pa_nil)) (pe_tup pa_nil) (nomark _)))))
    (pss_one (ps_ret pe_bl))
    pss_nil)
    (pss_cons (ps_for PassesOwn.never rfl (pi_range1 (by rfl) T.m_range (pa_cons (pe_callB (call_max2 rfl) (by rfl) T.m_max (by decide +kernel) (pa_cons pe_int (pa_cons (pe_callB (call_min2 rfl) (by rfl) T.m_min (by decide +kernel) (pa_cons (pe_callB (call_lenV (K := K) rfl) (by rfl) T.m_len (by decide +kernel) (pa_cons (pv 0) pa_nil)) (pa_cons pe_int pa_nil))) pa_nil))) pa_nil)) (pg_name (i := 1) sc_law.nd rfl (Or.inl rfl))
    (pss_cons (ps_set (i := 2) sc_law.nd rfl (Or.inl rfl) (pe_call (ok_Lpool T) (hr.mono (by decide)) (by rfl) T.g_Lpool T.F_Lpool.kp T.b_Lpool .nil pass0 (pa_cons (pe_call (ok_Lcell T) (hr.mono (by decide)) (by rfl) T.g_Lcell T.F_Lcell.kp T.b_Lcell .nil pass0 (pa_cons (pv 0) (pa_cons (pv 1) pa_nil))) pa_nil)))
      (pss_cons (ps_set (i := 3) sc_law.nd rfl (Or.inl rfl) (pe_call (ok_Ldrawn_book T) (hr.mono (by decide)) (by rfl) T.g_Ldrawn_book T.F_Ldrawn_book.kp T.b_Ldrawn_book .nil pass0 (pa_cons (pv 2) pa_nil)))
      (pss_cons (ps_set (i := 4) sc_law.nd rfl (Or.inl rfl) (pe_callB (call_repr hq) (by rfl) T.m_repr (by decide +kernel) (pa_cons (pv 3) pa_nil)))
      (pss_one (ps_if (PW.pt (pw_or (pt_not (pt_val (pe_callQ (ok_Lthere_and_back T) (hq.mono (by decide)) (by rfl) T.g_Lthere_and_back T.F_Lthere_and_back.kp T.b_Lthere_and_back pass0 (pa_cons (pv 3) pa_nil)))) (pw_or (pt_not (pt_val (pe_callQ (ok_Lothers_right T) (hq.mono (by decide)) (by rfl) T.g_Lothers_right T.F_Lothers_right.kp T.b_Lothers_right pass0 (pa_cons (pv 2) (pa_cons (pv 3) pa_nil))))) (pw_or1 (pt_cmpR op_ne (pe_callB (call_repr hq) (by rfl) T.m_repr (by decide +kernel) (pa_cons (pv 3) pa_nil)) (pv 4) (nomark _))))))
      (pss_one (ps_ret pe_bl))
      pss_nil))))))
    (pss_one (ps_ret pe_bl)))), ?_⟩
    walk_at "ww"
    refine alI fun t1 H1 n1 e1 f1 => ?_
    walk_at "ww"
    refine ⟨_, rfl, .inl ⟨t1, [], rfl, ⟨[], f1, .nil⟩, D0, fun H2 e2 => ?_⟩⟩
    rw [b0]
    walk_at "ww"
    refine ⟨[], D0, by rw [b0]; rfl, fun t3 H3 e3 b3 => ?_⟩
    walk_at "ww"
    refine alI fun t4 H4 n4 e4 f4 => ?_
    obtain ⟨rs3, q3, dl3⟩ := b3
    have r0 : rs3 = [] := List.eq_nil_of_length_eq_zero dl3.length
    subst r0
    refine ⟨.tuple [], .tuple [], ⟨.tup (e4 _ _ q3) .nil, by simp [PyData.plain, PyData.plainAll], by simp [PyData.depth, PyData.depthAll]⟩, ⟨.tup f4 .nil, by simp [PyData.plain, PyData.plainAll], by simp [PyData.depth, PyData.depthAll]⟩, ?_⟩
    rw [show (not (PyData.eqv (.tuple []) (.tuple []))) = false by simp [PyData.eqv, PyData.eqvAll]]
    have E4 := ((e1.trans e2).trans e3).trans e4
    walk_at "ww"
    refine wLenL (E4.sq hS) ?_
    walk_at "ww"
    obtain ⟨N, hN1, hN2, hN⟩ : ∃ N : Int, 1 ≤ N ∧ N ≤ 8 ∧ (if (if 6 < ((ns.map V.int).length : Int) then (6 : Int) else ((ns.map V.int).length : Int)) > 2 then (if 6 < ((ns.map V.int).length : Int) then (6 : Int) else ((ns.map V.int).length : Int)) else 2) = N := by
      refine ⟨_, ?_, ?_, rfl⟩ <;> (split <;> split <;> omega)
    rw [hN]
    refine ⟨by omega, by omega, ?_⟩
    refine for_range (lo := 0) (n := N.toNat) (fun i σ H2 => ∃ v1 v2 v3 v4, σ = [some (.ref a), v1, v2, v3, v4] ∧ Ex H H2) ⟨_, _, _, _, rfl, E4⟩ ?_ ?_
    · rintro i σ H5 hi ⟨v1, v2, v3, v4, rfl, e5⟩
      walk_at "ww"
      refine ⟨a, ns, 0 + i, rfl, e5.sq hS, hlen, by omega, by omega, fun c H6 e6 => ?_⟩
      walk_at "ww"
      refine ⟨c, rfl, fun p H7 np e7 hP => ?_⟩
      walk_at "ww"
      have E7 : Ex H H7 := (e5.trans e6).trans e7
      have np0 : H p = none := (e5.trans e6).free np
      refine ⟨p, rfl, hP, fun t pp H8 k8 hP8 b8 hD => ?_⟩
      walk_at "ww"
      obtain ⟨m1, hm1, rp1⟩ := bk_rp b8 hD
      refine ⟨_, _, _, m1, rfl, rp1, hm1, ?_⟩
      walk_at "ww"
      refine ⟨t, pp, rfl, b8, hD, fun H9 e9 => ?_⟩
      walk_at "ww"
      refine ⟨p, t, pp, rfl, hP8.ex e9, b8.ex e9, hD, fun H10 k10 => ?_⟩
      walk_at "ww"
      obtain ⟨m2, hm2, rp2⟩ := bk_rp ((b8.ex e9).kpp (hP8.ex e9) k10) hD
      refine ⟨_, _, _, m2, rfl, rp2, hm2, ?_⟩
      walk_at "ww"
      exact ⟨_, _, _, _, rfl, Kp.back E7 ((k8.trans e9.kp).trans k10) np0⟩
    · rintro σ H2 ⟨v1, v2, v3, v4, rfl, e5⟩
      walk_at "ww"
      exact k _
end
theorem all_mk {l : PySem.W.OpenLaw} {w : World} {K : PySem.W.Frag} {h : Heap} {mg : Str → Option Value} {fa f_is_whole f_is_name f_is_holder f_is_measure f_is_deed f_is_short_deed f_is_deed_between_two f_check_book f_show_whole f_is_figures f_read_whole f_show_deed f_show_book f_lines_of f_read_part f_read_deed f_read_book f_Lcell f_Lpool f_Ltake f_Lnames f_Lsort f_Ldrawn_deed f_Ldrawn_book f_Ltext f_Lthere_and_back f_Lrefused f_Lothers_right f_law : Addr} (X : K.In h) (G : h.Ns mainGlobals mg) (hfa : mg "law" = some (.ref fa))
    {od_is_whole an_is_whole od_is_name an_is_name od_is_holder an_is_holder od_is_measure an_is_measure od_is_deed an_is_deed od_is_short_deed an_is_short_deed od_is_deed_between_two an_is_deed_between_two od_check_book an_check_book od_show_whole an_show_whole od_is_figures an_is_figures od_read_whole an_read_whole od_show_deed an_show_deed od_show_book an_show_book od_lines_of an_lines_of od_read_part an_read_part od_read_deed an_read_deed od_read_book an_read_book od_Lcell an_Lcell od_Lpool an_Lpool od_Ltake an_Ltake od_Lnames an_Lnames od_Lsort an_Lsort od_Ldrawn_deed an_Ldrawn_deed od_Ldrawn_book an_Ldrawn_book od_Ltext an_Ltext od_Lthere_and_back an_Lthere_and_back od_Lrefused an_Lrefused od_Lothers_right an_Lothers_right od_law an_law : Option Addr} {sl_is_whole sl_is_name sl_is_holder sl_is_measure sl_is_deed sl_is_short_deed sl_is_deed_between_two sl_check_book sl_show_whole sl_is_figures sl_read_whole sl_show_deed sl_show_book sl_lines_of sl_read_part sl_read_deed sl_read_book sl_Lcell sl_Lpool sl_Ltake sl_Lnames sl_Lsort sl_Ldrawn_deed sl_Ldrawn_book sl_Ltext sl_Lthere_and_back sl_Lrefused sl_Lothers_right sl_law : Array (Option Value)} {oc_is_whole kV_is_whole dc_is_whole pm_is_whole cd_is_whole ct_is_whole oc_is_name kV_is_name dc_is_name pm_is_name cd_is_name ct_is_name oc_is_holder kV_is_holder dc_is_holder pm_is_holder cd_is_holder ct_is_holder oc_is_measure kV_is_measure dc_is_measure pm_is_measure cd_is_measure ct_is_measure oc_is_deed kV_is_deed dc_is_deed pm_is_deed cd_is_deed ct_is_deed oc_is_short_deed kV_is_short_deed dc_is_short_deed pm_is_short_deed cd_is_short_deed ct_is_short_deed oc_is_deed_between_two kV_is_deed_between_two dc_is_deed_between_two pm_is_deed_between_two cd_is_deed_between_two ct_is_deed_between_two oc_check_book kV_check_book dc_check_book pm_check_book cd_check_book ct_check_book oc_show_whole kV_show_whole dc_show_whole pm_show_whole cd_show_whole ct_show_whole oc_is_figures kV_is_figures dc_is_figures pm_is_figures cd_is_figures ct_is_figures oc_read_whole kV_read_whole dc_read_whole pm_read_whole cd_read_whole ct_read_whole oc_show_deed kV_show_deed dc_show_deed pm_show_deed cd_show_deed ct_show_deed oc_show_book kV_show_book dc_show_book pm_show_book cd_show_book ct_show_book oc_lines_of kV_lines_of dc_lines_of pm_lines_of cd_lines_of ct_lines_of oc_read_part kV_read_part dc_read_part pm_read_part cd_read_part ct_read_part oc_read_deed kV_read_deed dc_read_deed pm_read_deed cd_read_deed ct_read_deed oc_read_book kV_read_book dc_read_book pm_read_book cd_read_book ct_read_book oc_Lcell kV_Lcell dc_Lcell pm_Lcell cd_Lcell ct_Lcell oc_Lpool kV_Lpool dc_Lpool pm_Lpool cd_Lpool ct_Lpool oc_Ltake kV_Ltake dc_Ltake pm_Ltake cd_Ltake ct_Ltake oc_Lnames kV_Lnames dc_Lnames pm_Lnames cd_Lnames ct_Lnames oc_Lsort kV_Lsort dc_Lsort pm_Lsort cd_Lsort ct_Lsort oc_Ldrawn_deed kV_Ldrawn_deed dc_Ldrawn_deed pm_Ldrawn_deed cd_Ldrawn_deed ct_Ldrawn_deed oc_Ldrawn_book kV_Ldrawn_book dc_Ldrawn_book pm_Ldrawn_book cd_Ldrawn_book ct_Ldrawn_book oc_Ltext kV_Ltext dc_Ltext pm_Ltext cd_Ltext ct_Ltext oc_Lthere_and_back kV_Lthere_and_back dc_Lthere_and_back pm_Lthere_and_back cd_Lthere_and_back ct_Lthere_and_back oc_Lrefused kV_Lrefused dc_Lrefused pm_Lrefused cd_Lrefused ct_Lrefused oc_Lothers_right kV_Lothers_right dc_Lothers_right pm_Lothers_right cd_Lothers_right ct_Lothers_right oc_law kV_law dc_law pm_law cd_law ct_law : Value}
    {t_CHEST t_MOST_LETTERS t_MOST_MEASURES t_MOST_DEEDS t_FIGURES_AT_ONCE t_LIMIT_AT_ONCE : Tok}
    (a_is_whole : PySem.W.nsIn K mainGlobals "is_whole" = some (some (.ref f_is_whole))) (l_is_whole : K.lookup f_is_whole = some ⟨oc_is_whole, od_is_whole, .func (PySem.W.fnOf "is_whole" "is_whole" (defArgs s_is_whole) (defBody s_is_whole) (defScope s_is_whole) .none kV_is_whole dc_is_whole pm_is_whole an_is_whole cd_is_whole ct_is_whole), sl_is_whole⟩) (c_is_whole : PySem.W.codeIn K cd_is_whole "is_whole" = true) (k_is_whole : PySem.W.keepIn K (.ref f_is_whole) = true)
    (a_is_name : PySem.W.nsIn K mainGlobals "is_name" = some (some (.ref f_is_name))) (l_is_name : K.lookup f_is_name = some ⟨oc_is_name, od_is_name, .func (PySem.W.fnOf "is_name" "is_name" (defArgs s_is_name) (defBody s_is_name) (defScope s_is_name) .none kV_is_name dc_is_name pm_is_name an_is_name cd_is_name ct_is_name), sl_is_name⟩) (c_is_name : PySem.W.codeIn K cd_is_name "is_name" = true) (k_is_name : PySem.W.keepIn K (.ref f_is_name) = true)
    (a_is_holder : PySem.W.nsIn K mainGlobals "is_holder" = some (some (.ref f_is_holder))) (l_is_holder : K.lookup f_is_holder = some ⟨oc_is_holder, od_is_holder, .func (PySem.W.fnOf "is_holder" "is_holder" (defArgs s_is_holder) (defBody s_is_holder) (defScope s_is_holder) .none kV_is_holder dc_is_holder pm_is_holder an_is_holder cd_is_holder ct_is_holder), sl_is_holder⟩) (c_is_holder : PySem.W.codeIn K cd_is_holder "is_holder" = true) (k_is_holder : PySem.W.keepIn K (.ref f_is_holder) = true)
    (a_is_measure : PySem.W.nsIn K mainGlobals "is_measure" = some (some (.ref f_is_measure))) (l_is_measure : K.lookup f_is_measure = some ⟨oc_is_measure, od_is_measure, .func (PySem.W.fnOf "is_measure" "is_measure" (defArgs s_is_measure) (defBody s_is_measure) (defScope s_is_measure) .none kV_is_measure dc_is_measure pm_is_measure an_is_measure cd_is_measure ct_is_measure), sl_is_measure⟩) (c_is_measure : PySem.W.codeIn K cd_is_measure "is_measure" = true) (k_is_measure : PySem.W.keepIn K (.ref f_is_measure) = true)
    (a_is_deed : PySem.W.nsIn K mainGlobals "is_deed" = some (some (.ref f_is_deed))) (l_is_deed : K.lookup f_is_deed = some ⟨oc_is_deed, od_is_deed, .func (PySem.W.fnOf "is_deed" "is_deed" (defArgs s_is_deed) (defBody s_is_deed) (defScope s_is_deed) .none kV_is_deed dc_is_deed pm_is_deed an_is_deed cd_is_deed ct_is_deed), sl_is_deed⟩) (c_is_deed : PySem.W.codeIn K cd_is_deed "is_deed" = true) (k_is_deed : PySem.W.keepIn K (.ref f_is_deed) = true)
    (a_is_short_deed : PySem.W.nsIn K mainGlobals "is_short_deed" = some (some (.ref f_is_short_deed))) (l_is_short_deed : K.lookup f_is_short_deed = some ⟨oc_is_short_deed, od_is_short_deed, .func (PySem.W.fnOf "is_short_deed" "is_short_deed" (defArgs s_is_short_deed) (defBody s_is_short_deed) (defScope s_is_short_deed) .none kV_is_short_deed dc_is_short_deed pm_is_short_deed an_is_short_deed cd_is_short_deed ct_is_short_deed), sl_is_short_deed⟩) (c_is_short_deed : PySem.W.codeIn K cd_is_short_deed "is_short_deed" = true) (k_is_short_deed : PySem.W.keepIn K (.ref f_is_short_deed) = true)
    (a_is_deed_between_two : PySem.W.nsIn K mainGlobals "is_deed_between_two" = some (some (.ref f_is_deed_between_two))) (l_is_deed_between_two : K.lookup f_is_deed_between_two = some ⟨oc_is_deed_between_two, od_is_deed_between_two, .func (PySem.W.fnOf "is_deed_between_two" "is_deed_between_two" (defArgs s_is_deed_between_two) (defBody s_is_deed_between_two) (defScope s_is_deed_between_two) .none kV_is_deed_between_two dc_is_deed_between_two pm_is_deed_between_two an_is_deed_between_two cd_is_deed_between_two ct_is_deed_between_two), sl_is_deed_between_two⟩) (c_is_deed_between_two : PySem.W.codeIn K cd_is_deed_between_two "is_deed_between_two" = true) (k_is_deed_between_two : PySem.W.keepIn K (.ref f_is_deed_between_two) = true)
    (a_check_book : PySem.W.nsIn K mainGlobals "check_book" = some (some (.ref f_check_book))) (l_check_book : K.lookup f_check_book = some ⟨oc_check_book, od_check_book, .func (PySem.W.fnOf "check_book" "check_book" (defArgs s_check_book) (defBody s_check_book) (defScope s_check_book) .none kV_check_book dc_check_book pm_check_book an_check_book cd_check_book ct_check_book), sl_check_book⟩) (c_check_book : PySem.W.codeIn K cd_check_book "check_book" = true) (k_check_book : PySem.W.keepIn K (.ref f_check_book) = true)
    (a_show_whole : PySem.W.nsIn K mainGlobals "show_whole" = some (some (.ref f_show_whole))) (l_show_whole : K.lookup f_show_whole = some ⟨oc_show_whole, od_show_whole, .func (PySem.W.fnOf "show_whole" "show_whole" (defArgs s_show_whole) (defBody s_show_whole) (defScope s_show_whole) .none kV_show_whole dc_show_whole pm_show_whole an_show_whole cd_show_whole ct_show_whole), sl_show_whole⟩) (c_show_whole : PySem.W.codeIn K cd_show_whole "show_whole" = true) (k_show_whole : PySem.W.keepIn K (.ref f_show_whole) = true)
    (a_is_figures : PySem.W.nsIn K mainGlobals "is_figures" = some (some (.ref f_is_figures))) (l_is_figures : K.lookup f_is_figures = some ⟨oc_is_figures, od_is_figures, .func (PySem.W.fnOf "is_figures" "is_figures" (defArgs s_is_figures) (defBody s_is_figures) (defScope s_is_figures) .none kV_is_figures dc_is_figures pm_is_figures an_is_figures cd_is_figures ct_is_figures), sl_is_figures⟩) (c_is_figures : PySem.W.codeIn K cd_is_figures "is_figures" = true) (k_is_figures : PySem.W.keepIn K (.ref f_is_figures) = true)
    (a_read_whole : PySem.W.nsIn K mainGlobals "read_whole" = some (some (.ref f_read_whole))) (l_read_whole : K.lookup f_read_whole = some ⟨oc_read_whole, od_read_whole, .func (PySem.W.fnOf "read_whole" "read_whole" (defArgs s_read_whole) (defBody s_read_whole) (defScope s_read_whole) .none kV_read_whole dc_read_whole pm_read_whole an_read_whole cd_read_whole ct_read_whole), sl_read_whole⟩) (c_read_whole : PySem.W.codeIn K cd_read_whole "read_whole" = true) (k_read_whole : PySem.W.keepIn K (.ref f_read_whole) = true)
    (a_show_deed : PySem.W.nsIn K mainGlobals "show_deed" = some (some (.ref f_show_deed))) (l_show_deed : K.lookup f_show_deed = some ⟨oc_show_deed, od_show_deed, .func (PySem.W.fnOf "show_deed" "show_deed" (defArgs s_show_deed) (defBody s_show_deed) (defScope s_show_deed) .none kV_show_deed dc_show_deed pm_show_deed an_show_deed cd_show_deed ct_show_deed), sl_show_deed⟩) (c_show_deed : PySem.W.codeIn K cd_show_deed "show_deed" = true) (k_show_deed : PySem.W.keepIn K (.ref f_show_deed) = true)
    (a_show_book : PySem.W.nsIn K mainGlobals "show_book" = some (some (.ref f_show_book))) (l_show_book : K.lookup f_show_book = some ⟨oc_show_book, od_show_book, .func (PySem.W.fnOf "show_book" "show_book" (defArgs s_show_book) (defBody s_show_book) (defScope s_show_book) .none kV_show_book dc_show_book pm_show_book an_show_book cd_show_book ct_show_book), sl_show_book⟩) (c_show_book : PySem.W.codeIn K cd_show_book "show_book" = true) (k_show_book : PySem.W.keepIn K (.ref f_show_book) = true)
    (a_lines_of : PySem.W.nsIn K mainGlobals "lines_of" = some (some (.ref f_lines_of))) (l_lines_of : K.lookup f_lines_of = some ⟨oc_lines_of, od_lines_of, .func (PySem.W.fnOf "lines_of" "lines_of" (defArgs s_lines_of) (defBody s_lines_of) (defScope s_lines_of) .none kV_lines_of dc_lines_of pm_lines_of an_lines_of cd_lines_of ct_lines_of), sl_lines_of⟩) (c_lines_of : PySem.W.codeIn K cd_lines_of "lines_of" = true) (k_lines_of : PySem.W.keepIn K (.ref f_lines_of) = true)
    (a_read_part : PySem.W.nsIn K mainGlobals "read_part" = some (some (.ref f_read_part))) (l_read_part : K.lookup f_read_part = some ⟨oc_read_part, od_read_part, .func (PySem.W.fnOf "read_part" "read_part" (defArgs s_read_part) (defBody s_read_part) (defScope s_read_part) .none kV_read_part dc_read_part pm_read_part an_read_part cd_read_part ct_read_part), sl_read_part⟩) (c_read_part : PySem.W.codeIn K cd_read_part "read_part" = true) (k_read_part : PySem.W.keepIn K (.ref f_read_part) = true)
    (a_read_deed : PySem.W.nsIn K mainGlobals "read_deed" = some (some (.ref f_read_deed))) (l_read_deed : K.lookup f_read_deed = some ⟨oc_read_deed, od_read_deed, .func (PySem.W.fnOf "read_deed" "read_deed" (defArgs s_read_deed) (defBody s_read_deed) (defScope s_read_deed) .none kV_read_deed dc_read_deed pm_read_deed an_read_deed cd_read_deed ct_read_deed), sl_read_deed⟩) (c_read_deed : PySem.W.codeIn K cd_read_deed "read_deed" = true) (k_read_deed : PySem.W.keepIn K (.ref f_read_deed) = true)
    (a_read_book : PySem.W.nsIn K mainGlobals "read_book" = some (some (.ref f_read_book))) (l_read_book : K.lookup f_read_book = some ⟨oc_read_book, od_read_book, .func (PySem.W.fnOf "read_book" "read_book" (defArgs s_read_book) (defBody s_read_book) (defScope s_read_book) .none kV_read_book dc_read_book pm_read_book an_read_book cd_read_book ct_read_book), sl_read_book⟩) (c_read_book : PySem.W.codeIn K cd_read_book "read_book" = true) (k_read_book : PySem.W.keepIn K (.ref f_read_book) = true)
    (a_Lcell : PySem.W.nsIn K mainGlobals "_law_cell" = some (some (.ref f_Lcell))) (l_Lcell : K.lookup f_Lcell = some ⟨oc_Lcell, od_Lcell, .func (PySem.W.fnOf "_law_cell" "_law_cell" (defArgs s_Lcell) (defBody s_Lcell) (defScope s_Lcell) .none kV_Lcell dc_Lcell pm_Lcell an_Lcell cd_Lcell ct_Lcell), sl_Lcell⟩) (c_Lcell : PySem.W.codeIn K cd_Lcell "_law_cell" = true) (k_Lcell : PySem.W.keepIn K (.ref f_Lcell) = true)
    (a_Lpool : PySem.W.nsIn K mainGlobals "_law_pool" = some (some (.ref f_Lpool))) (l_Lpool : K.lookup f_Lpool = some ⟨oc_Lpool, od_Lpool, .func (PySem.W.fnOf "_law_pool" "_law_pool" (defArgs s_Lpool) (defBody s_Lpool) (defScope s_Lpool) .none kV_Lpool dc_Lpool pm_Lpool an_Lpool cd_Lpool ct_Lpool), sl_Lpool⟩) (c_Lpool : PySem.W.codeIn K cd_Lpool "_law_pool" = true) (k_Lpool : PySem.W.keepIn K (.ref f_Lpool) = true)
    (a_Ltake : PySem.W.nsIn K mainGlobals "_law_take" = some (some (.ref f_Ltake))) (l_Ltake : K.lookup f_Ltake = some ⟨oc_Ltake, od_Ltake, .func (PySem.W.fnOf "_law_take" "_law_take" (defArgs s_Ltake) (defBody s_Ltake) (defScope s_Ltake) .none kV_Ltake dc_Ltake pm_Ltake an_Ltake cd_Ltake ct_Ltake), sl_Ltake⟩) (c_Ltake : PySem.W.codeIn K cd_Ltake "_law_take" = true) (k_Ltake : PySem.W.keepIn K (.ref f_Ltake) = true)
    (a_Lnames : PySem.W.nsIn K mainGlobals "_law_names" = some (some (.ref f_Lnames))) (l_Lnames : K.lookup f_Lnames = some ⟨oc_Lnames, od_Lnames, .func (PySem.W.fnOf "_law_names" "_law_names" (defArgs s_Lnames) (defBody s_Lnames) (defScope s_Lnames) .none kV_Lnames dc_Lnames pm_Lnames an_Lnames cd_Lnames ct_Lnames), sl_Lnames⟩) (c_Lnames : PySem.W.codeIn K cd_Lnames "_law_names" = true) (k_Lnames : PySem.W.keepIn K (.ref f_Lnames) = true)
    (a_Lsort : PySem.W.nsIn K mainGlobals "_law_sort" = some (some (.ref f_Lsort))) (l_Lsort : K.lookup f_Lsort = some ⟨oc_Lsort, od_Lsort, .func (PySem.W.fnOf "_law_sort" "_law_sort" (defArgs s_Lsort) (defBody s_Lsort) (defScope s_Lsort) .none kV_Lsort dc_Lsort pm_Lsort an_Lsort cd_Lsort ct_Lsort), sl_Lsort⟩) (c_Lsort : PySem.W.codeIn K cd_Lsort "_law_sort" = true) (k_Lsort : PySem.W.keepIn K (.ref f_Lsort) = true)
    (a_Ldrawn_deed : PySem.W.nsIn K mainGlobals "_law_drawn_deed" = some (some (.ref f_Ldrawn_deed))) (l_Ldrawn_deed : K.lookup f_Ldrawn_deed = some ⟨oc_Ldrawn_deed, od_Ldrawn_deed, .func (PySem.W.fnOf "_law_drawn_deed" "_law_drawn_deed" (defArgs s_Ldrawn_deed) (defBody s_Ldrawn_deed) (defScope s_Ldrawn_deed) .none kV_Ldrawn_deed dc_Ldrawn_deed pm_Ldrawn_deed an_Ldrawn_deed cd_Ldrawn_deed ct_Ldrawn_deed), sl_Ldrawn_deed⟩) (c_Ldrawn_deed : PySem.W.codeIn K cd_Ldrawn_deed "_law_drawn_deed" = true) (k_Ldrawn_deed : PySem.W.keepIn K (.ref f_Ldrawn_deed) = true)
    (a_Ldrawn_book : PySem.W.nsIn K mainGlobals "_law_drawn_book" = some (some (.ref f_Ldrawn_book))) (l_Ldrawn_book : K.lookup f_Ldrawn_book = some ⟨oc_Ldrawn_book, od_Ldrawn_book, .func (PySem.W.fnOf "_law_drawn_book" "_law_drawn_book" (defArgs s_Ldrawn_book) (defBody s_Ldrawn_book) (defScope s_Ldrawn_book) .none kV_Ldrawn_book dc_Ldrawn_book pm_Ldrawn_book an_Ldrawn_book cd_Ldrawn_book ct_Ldrawn_book), sl_Ldrawn_book⟩) (c_Ldrawn_book : PySem.W.codeIn K cd_Ldrawn_book "_law_drawn_book" = true) (k_Ldrawn_book : PySem.W.keepIn K (.ref f_Ldrawn_book) = true)
    (a_Ltext : PySem.W.nsIn K mainGlobals "_law_text" = some (some (.ref f_Ltext))) (l_Ltext : K.lookup f_Ltext = some ⟨oc_Ltext, od_Ltext, .func (PySem.W.fnOf "_law_text" "_law_text" (defArgs s_Ltext) (defBody s_Ltext) (defScope s_Ltext) .none kV_Ltext dc_Ltext pm_Ltext an_Ltext cd_Ltext ct_Ltext), sl_Ltext⟩) (c_Ltext : PySem.W.codeIn K cd_Ltext "_law_text" = true) (k_Ltext : PySem.W.keepIn K (.ref f_Ltext) = true)
    (a_Lthere_and_back : PySem.W.nsIn K mainGlobals "_law_there_and_back" = some (some (.ref f_Lthere_and_back))) (l_Lthere_and_back : K.lookup f_Lthere_and_back = some ⟨oc_Lthere_and_back, od_Lthere_and_back, .func (PySem.W.fnOf "_law_there_and_back" "_law_there_and_back" (defArgs s_Lthere_and_back) (defBody s_Lthere_and_back) (defScope s_Lthere_and_back) .none kV_Lthere_and_back dc_Lthere_and_back pm_Lthere_and_back an_Lthere_and_back cd_Lthere_and_back ct_Lthere_and_back), sl_Lthere_and_back⟩) (c_Lthere_and_back : PySem.W.codeIn K cd_Lthere_and_back "_law_there_and_back" = true) (k_Lthere_and_back : PySem.W.keepIn K (.ref f_Lthere_and_back) = true)
    (a_Lrefused : PySem.W.nsIn K mainGlobals "_law_refused" = some (some (.ref f_Lrefused))) (l_Lrefused : K.lookup f_Lrefused = some ⟨oc_Lrefused, od_Lrefused, .func (PySem.W.fnOf "_law_refused" "_law_refused" (defArgs s_Lrefused) (defBody s_Lrefused) (defScope s_Lrefused) .none kV_Lrefused dc_Lrefused pm_Lrefused an_Lrefused cd_Lrefused ct_Lrefused), sl_Lrefused⟩) (c_Lrefused : PySem.W.codeIn K cd_Lrefused "_law_refused" = true) (k_Lrefused : PySem.W.keepIn K (.ref f_Lrefused) = true)
    (a_Lothers_right : PySem.W.nsIn K mainGlobals "_law_others_right" = some (some (.ref f_Lothers_right))) (l_Lothers_right : K.lookup f_Lothers_right = some ⟨oc_Lothers_right, od_Lothers_right, .func (PySem.W.fnOf "_law_others_right" "_law_others_right" (defArgs s_Lothers_right) (defBody s_Lothers_right) (defScope s_Lothers_right) .none kV_Lothers_right dc_Lothers_right pm_Lothers_right an_Lothers_right cd_Lothers_right ct_Lothers_right), sl_Lothers_right⟩) (c_Lothers_right : PySem.W.codeIn K cd_Lothers_right "_law_others_right" = true) (k_Lothers_right : PySem.W.keepIn K (.ref f_Lothers_right) = true)
    (a_law : PySem.W.nsIn K mainGlobals "law" = some (some (.ref f_law))) (l_law : K.lookup f_law = some ⟨oc_law, od_law, .func (PySem.W.fnOf "law" "law" (defArgs s_law) (defBody s_law) (defScope s_law) .none kV_law dc_law pm_law an_law cd_law ct_law), sl_law⟩) (c_law : PySem.W.codeIn K cd_law "law" = true) (k_law : PySem.W.keepIn K (.ref f_law) = true)
    {c_ThankError c_LostError c_StandError c_NoNumber c_NoDeed c_NoBook c_NoWeb c_NoNames c_NoAmount c_NoMany c_NoText c_NoRow c_NoName c_NoLot c_NoPlace c_NoBack c_Fails c_NoMates c_TooMany : Addr}
    (a_ThankError : PySem.W.nsIn K mainGlobals "ThankError" = some (some (.ref c_ThankError)))
    (a_LostError : PySem.W.nsIn K mainGlobals "LostError" = some (some (.ref c_LostError)))
    (a_StandError : PySem.W.nsIn K mainGlobals "StandError" = some (some (.ref c_StandError)))
    (a_NoNumber : PySem.W.nsIn K mainGlobals "NoNumber" = some (some (.ref c_NoNumber)))
    (a_NoDeed : PySem.W.nsIn K mainGlobals "NoDeed" = some (some (.ref c_NoDeed)))
    (a_NoBook : PySem.W.nsIn K mainGlobals "NoBook" = some (some (.ref c_NoBook)))
    (a_NoWeb : PySem.W.nsIn K mainGlobals "NoWeb" = some (some (.ref c_NoWeb)))
    (a_NoNames : PySem.W.nsIn K mainGlobals "NoNames" = some (some (.ref c_NoNames)))
    (a_NoAmount : PySem.W.nsIn K mainGlobals "NoAmount" = some (some (.ref c_NoAmount)))
    (a_NoMany : PySem.W.nsIn K mainGlobals "NoMany" = some (some (.ref c_NoMany)))
    (a_NoText : PySem.W.nsIn K mainGlobals "NoText" = some (some (.ref c_NoText)))
    (a_NoRow : PySem.W.nsIn K mainGlobals "NoRow" = some (some (.ref c_NoRow)))
    (a_NoName : PySem.W.nsIn K mainGlobals "NoName" = some (some (.ref c_NoName)))
    (a_NoLot : PySem.W.nsIn K mainGlobals "NoLot" = some (some (.ref c_NoLot)))
    (a_NoPlace : PySem.W.nsIn K mainGlobals "NoPlace" = some (some (.ref c_NoPlace)))
    (a_NoBack : PySem.W.nsIn K mainGlobals "NoBack" = some (some (.ref c_NoBack)))
    (a_Fails : PySem.W.nsIn K mainGlobals "Fails" = some (some (.ref c_Fails)))
    (a_NoMates : PySem.W.nsIn K mainGlobals "NoMates" = some (some (.ref c_NoMates)))
    (a_TooMany : PySem.W.nsIn K mainGlobals "TooMany" = some (some (.ref c_TooMany)))
    {nm_NoBook q_NoBook ql_NoBook : Str} {i_NoBook N_NoBook cc_NoBook ca_NoBook : Addr} {bs_NoBook sub_NoBook : List Value} {sn_NoBook : List Str} {ab_NoBook : Bool} {col_NoBook : Option Bool} {dd_NoBook od_NoBook an_NoBook cld_NoBook cdd_NoBook : Option Addr} {m0_NoBook m1_NoBook m2_NoBook m3_NoBook m5_NoBook : Option Value}
    {oc_NoBook kV_NoBook dc_NoBook pm_NoBook ct_NoBook cl_NoBook ccl_NoBook : Value} {sl_NoBook csl_NoBook ccs_NoBook : Array (Option Value)} {vs_NoBook : Array Value} {file_NoBook : Str} {tf_NoBook : Tok}
    (exL_NoBook : K.lookup c_NoBook = some (excClassObj nm_NoBook q_NoBook c_NoBook N_NoBook bs_NoBook [.ref c_ThankError, .type "ValueError", .type "Exception", .type "BaseException", .type "object"] true sn_NoBook sub_NoBook ab_NoBook col_NoBook dd_NoBook m0_NoBook m1_NoBook m2_NoBook m3_NoBook m5_NoBook "ValueError.__new__"))
    (esa_NoBook : PySem.W.findIn K (.ref c_NoBook) "__setattr__" = some (some (.builtin "object.__setattr__")))
    (ega_NoBook : PySem.W.findIn K (.ref c_NoBook) "__getattribute__" = some (some (.builtin "BaseException.__getattribute__")))
    (egg_NoBook : PySem.W.findIn K (.ref c_NoBook) "__getattr__" = some none)
    (enb_NoBook : PySem.W.findIn K (.ref c_NoBook) "number" = some none)
    (eiC_NoBook : PySem.W.findIn K (.ref c_NoBook) "__init__" = some (some (.ref i_NoBook)))
    (etI_NoBook : PySem.W.typeIn K (.ref i_NoBook) = some (.type "function"))
    (ekC_NoBook : PySem.W.keepIn K (.ref c_NoBook) = true)
    (eeC_NoBook : PySem.W.subIn K (.ref c_NoBook) (.type "BaseException") = some true)
    (etC_NoBook : PySem.W.typeIn K (.ref c_NoBook) = some (.type "type"))
    (ehC_NoBook : PySem.W.hasDictIn K c_NoBook = true)
    (evE_NoBook : PySem.W.subIn K (.ref c_NoBook) (.type "ValueError") = some true)
    (esf_NoBook : PySem.W.mroIn K c_NoBook (.ref c_NoBook) = some true)
    (esu_NoBook : PySem.W.ks_superIn K c_NoBook c_NoBook "__init__" = some (some (.builtin "ValueError.__init__")))
    (efn_NoBook : K.lookup i_NoBook = some ⟨oc_NoBook, od_NoBook, .func (PySem.W.fnX "__init__" ql_NoBook (defArgs (inClass s_NoBook 0)) (defBody (inClass s_NoBook 0)) (defScope (inClass s_NoBook 0)) [("__class__", cc_NoBook)] .none kV_NoBook dc_NoBook pm_NoBook an_NoBook (.ref ca_NoBook) ct_NoBook), sl_NoBook⟩)
    (ecd_NoBook : PySem.W.codeIn K (.ref ca_NoBook) ql_NoBook = true)
    (elc_NoBook : K.lookup cc_NoBook = some ⟨cl_NoBook, cld_NoBook, .cell (some (.ref c_NoBook)), csl_NoBook⟩)
    (elk_NoBook : K.lookup ca_NoBook = some ⟨ccl_NoBook, cdd_NoBook, .fields vs_NoBook, ccs_NoBook⟩)
    (ehv_NoBook : vs_NoBook[2]? = some (.str file_NoBook tf_NoBook))
    (ehf_NoBook : ((l.prog.main.file : Str) == file_NoBook) = true)
    (eic_NoBook : PySem.W.isClsIn K c_NoBook = true)
    (eca_NoBook : PySem.W.findIn K (.ref c_NoBook) "__class__" = some (some (.builtin "object.__class__")))
    (ecn_NoBook : PySem.W.specialIn K (.builtin "object.__class__") "__get__" = some (some (.builtin "getset_descriptor.__get__")))
    (ect_NoBook : PySem.W.takesIn K (.builtin "object.__class__") = some true)
    (eob_NoBook : PySem.W.mroIn K c_NoBook (.type "object") = some true)
    (o_NoBook_NoNumber : PySem.W.kitOne K (.ref c_NoBook) (.ref c_NoNumber) = some false)
    (o_NoBook_NoDeed : PySem.W.kitOne K (.ref c_NoBook) (.ref c_NoDeed) = some false)
    (o_NoBook_NoBook : PySem.W.kitOne K (.ref c_NoBook) (.ref c_NoBook) = some true)
    (o_NoBook_NoWeb : PySem.W.kitOne K (.ref c_NoBook) (.ref c_NoWeb) = some false)
    (o_NoBook_NoNames : PySem.W.kitOne K (.ref c_NoBook) (.ref c_NoNames) = some false)
    (o_NoBook_NoAmount : PySem.W.kitOne K (.ref c_NoBook) (.ref c_NoAmount) = some false)
    (o_NoBook_NoMany : PySem.W.kitOne K (.ref c_NoBook) (.ref c_NoMany) = some false)
    (o_NoBook_NoText : PySem.W.kitOne K (.ref c_NoBook) (.ref c_NoText) = some false)
    (o_NoBook_NoRow : PySem.W.kitOne K (.ref c_NoBook) (.ref c_NoRow) = some false)
    (o_NoBook_NoName : PySem.W.kitOne K (.ref c_NoBook) (.ref c_NoName) = some false)
    (o_NoBook_NoLot : PySem.W.kitOne K (.ref c_NoBook) (.ref c_NoLot) = some false)
    (o_NoBook_NoPlace : PySem.W.kitOne K (.ref c_NoBook) (.ref c_NoPlace) = some false)
    (o_NoBook_NoBack : PySem.W.kitOne K (.ref c_NoBook) (.ref c_NoBack) = some false)
    (o_NoBook_Fails : PySem.W.kitOne K (.ref c_NoBook) (.ref c_Fails) = some false)
    (o_NoBook_NoMates : PySem.W.kitOne K (.ref c_NoBook) (.ref c_NoMates) = some false)
    (o_NoBook_TooMany : PySem.W.kitOne K (.ref c_NoBook) (.ref c_TooMany) = some false)
    (o_NoBook_ThankError : PySem.W.kitOne K (.ref c_NoBook) (.ref c_ThankError) = some true)
    (o_NoBook_LostError : PySem.W.kitOne K (.ref c_NoBook) (.ref c_LostError) = some false)
    (o_NoBook_StandError : PySem.W.kitOne K (.ref c_NoBook) (.ref c_StandError) = some false)
    (o_NoBook_ValueError : PySem.W.kitOne K (.ref c_NoBook) (.type "ValueError") = some true)
    (o_NoBook_LookupError : PySem.W.kitOne K (.ref c_NoBook) (.type "LookupError") = some false)
    (o_NoBook_ArithmeticError : PySem.W.kitOne K (.ref c_NoBook) (.type "ArithmeticError") = some false)
    (xb_NoBook_ThankError : PySem.W.subIn K (.ref c_ThankError) (.type "BaseException") = some true)
    (xh_NoBook_ThankError : PySem.W.hasDictIn K c_ThankError = true)
    (xt_NoBook_ThankError : PySem.W.typeIn K (.ref c_ThankError) = some (.type "type"))
    (xs_NoBook_ThankError : PySem.W.subIn K (.ref c_NoBook) (.ref c_ThankError) = some true)
    (z_super : PySem.W.nsIn K mainGlobals "super" = some none) (z_stat : PySem.W.nsIn K cStatics "thirdparty.any" = some none) (z_top : (l.prog.main.scope.names.lookup ("super" : Str)).isSome = false)
    (z_ArithmeticError : PySem.W.nsIn K mainGlobals "ArithmeticError" = some none)
    (v_CHEST : PySem.W.nsIn K mainGlobals "CHEST" = some (some (.str "chest" t_CHEST)))
    (v_FIGURES_AT_ONCE : PySem.W.nsIn K mainGlobals "FIGURES_AT_ONCE" = some (some (.int 60 t_FIGURES_AT_ONCE)))
    (v_LIMIT_AT_ONCE : PySem.W.nsIn K mainGlobals "LIMIT_AT_ONCE" = some (some (.int 1000000000000000000000000000000000000000000000000000000000000 t_LIMIT_AT_ONCE)))
    (z_LookupError : PySem.W.nsIn K mainGlobals "LookupError" = some none)
    (v_MOST_DEEDS : PySem.W.nsIn K mainGlobals "MOST_DEEDS" = some (some (.int 60 t_MOST_DEEDS)))
    (v_MOST_LETTERS : PySem.W.nsIn K mainGlobals "MOST_LETTERS" = some (some (.int 8 t_MOST_LETTERS)))
    (v_MOST_MEASURES : PySem.W.nsIn K mainGlobals "MOST_MEASURES" = some (some (.int 9999 t_MOST_MEASURES)))
    (z_ValueError : PySem.W.nsIn K mainGlobals "ValueError" = some none)
    (z_abs : PySem.W.nsIn K mainGlobals "abs" = some none)
    (z_all : PySem.W.nsIn K mainGlobals "all" = some none)
    (z_bool : PySem.W.nsIn K mainGlobals "bool" = some none)
    (z_divmod : PySem.W.nsIn K mainGlobals "divmod" = some none)
    (z_enumerate : PySem.W.nsIn K mainGlobals "enumerate" = some none)
    (z_int : PySem.W.nsIn K mainGlobals "int" = some none)
    (z_isinstance : PySem.W.nsIn K mainGlobals "isinstance" = some none)
    (z_len : PySem.W.nsIn K mainGlobals "len" = some none)
    (z_list : PySem.W.nsIn K mainGlobals "list" = some none)
    (z_max : PySem.W.nsIn K mainGlobals "max" = some none)
    (z_min : PySem.W.nsIn K mainGlobals "min" = some none)
    (z_range : PySem.W.nsIn K mainGlobals "range" = some none)
    (z_repr : PySem.W.nsIn K mainGlobals "repr" = some none)
    (z_sorted : PySem.W.nsIn K mainGlobals "sorted" = some none)
    (z_str : PySem.W.nsIn K mainGlobals "str" = some none)
    (z_tuple : PySem.W.nsIn K mainGlobals "tuple" = some none)
    : ∃ fd : FuncData, (∀ (s : Shared) (v : Value), BindsTo s fd ⟨[v], []⟩ [("_law_script", v)]) ∧ ∀ base : Heap, K.In base → base.Ns mainGlobals mg → FnQ l.prog w K mg base CX0 9 fa fd ["_law_script"] (spLaw K) := by
  have e := hfa.symm.trans (PySem.W.mg_of X G a_law)
  cases e
  have F_is_whole := fun_mk (st := s_is_whole) l_is_whole c_is_whole k_is_whole
  have F_is_name := fun_mk (st := s_is_name) l_is_name c_is_name k_is_name
  have F_is_holder := fun_mk (st := s_is_holder) l_is_holder c_is_holder k_is_holder
  have F_is_measure := fun_mk (st := s_is_measure) l_is_measure c_is_measure k_is_measure
  have F_is_deed := fun_mk (st := s_is_deed) l_is_deed c_is_deed k_is_deed
  have F_is_short_deed := fun_mk (st := s_is_short_deed) l_is_short_deed c_is_short_deed k_is_short_deed
  have F_is_deed_between_two := fun_mk (st := s_is_deed_between_two) l_is_deed_between_two c_is_deed_between_two k_is_deed_between_two
  have F_check_book := fun_mk (st := s_check_book) l_check_book c_check_book k_check_book
  have F_show_whole := fun_mk (st := s_show_whole) l_show_whole c_show_whole k_show_whole
  have F_is_figures := fun_mk (st := s_is_figures) l_is_figures c_is_figures k_is_figures
  have F_read_whole := fun_mk (st := s_read_whole) l_read_whole c_read_whole k_read_whole
  have F_show_deed := fun_mk (st := s_show_deed) l_show_deed c_show_deed k_show_deed
  have F_show_book := fun_mk (st := s_show_book) l_show_book c_show_book k_show_book
  have F_lines_of := fun_mk (st := s_lines_of) l_lines_of c_lines_of k_lines_of
  have F_read_part := fun_mk (st := s_read_part) l_read_part c_read_part k_read_part
  have F_read_deed := fun_mk (st := s_read_deed) l_read_deed c_read_deed k_read_deed
  have F_read_book := fun_mk (st := s_read_book) l_read_book c_read_book k_read_book
  have F_Lcell := fun_mk (st := s_Lcell) l_Lcell c_Lcell k_Lcell
  have F_Lpool := fun_mk (st := s_Lpool) l_Lpool c_Lpool k_Lpool
  have F_Ltake := fun_mk (st := s_Ltake) l_Ltake c_Ltake k_Ltake
  have F_Lnames := fun_mk (st := s_Lnames) l_Lnames c_Lnames k_Lnames
  have F_Lsort := fun_mk (st := s_Lsort) l_Lsort c_Lsort k_Lsort
  have F_Ldrawn_deed := fun_mk (st := s_Ldrawn_deed) l_Ldrawn_deed c_Ldrawn_deed k_Ldrawn_deed
  have F_Ldrawn_book := fun_mk (st := s_Ldrawn_book) l_Ldrawn_book c_Ldrawn_book k_Ldrawn_book
  have F_Ltext := fun_mk (st := s_Ltext) l_Ltext c_Ltext k_Ltext
  have F_Lthere_and_back := fun_mk (st := s_Lthere_and_back) l_Lthere_and_back c_Lthere_and_back k_Lthere_and_back
  have F_Lrefused := fun_mk (st := s_Lrefused) l_Lrefused c_Lrefused k_Lrefused
  have F_Lothers_right := fun_mk (st := s_Lothers_right) l_Lothers_right c_Lothers_right k_Lothers_right
  have F_law := fun_mk (st := s_law) l_law c_law k_law
  have T : Tx l.prog K mg ⟨f_is_whole, _, f_is_name, _, f_is_holder, _, f_is_measure, _, f_is_deed, _, f_is_short_deed, _, f_is_deed_between_two, _, f_check_book, _, f_show_whole, _, f_is_figures, _, f_read_whole, _, f_show_deed, _, f_show_book, _, f_lines_of, _, f_read_part, _, f_read_deed, _, f_read_book, _, f_Lcell, _, f_Lpool, _, f_Ltake, _, f_Lnames, _, f_Lsort, _, f_Ldrawn_deed, _, f_Ldrawn_book, _, f_Ltext, _, f_Lthere_and_back, _, f_Lrefused, _, f_Lothers_right, _, t_CHEST, t_MOST_LETTERS, t_MOST_MEASURES, t_MOST_DEEDS, t_FIGURES_AT_ONCE, t_LIMIT_AT_ONCE, c_ThankError, c_LostError, c_StandError, c_NoNumber, c_NoDeed, c_NoBook, i_NoBook, c_NoWeb, c_NoNames, c_NoAmount, c_NoMany, c_NoText, c_NoRow, c_NoName, c_NoLot, c_NoPlace, c_NoBack, c_Fails, c_NoMates, c_TooMany⟩ := {
    g_ThankError := PySem.W.mg_of X G a_ThankError
    g_LostError := PySem.W.mg_of X G a_LostError
    g_StandError := PySem.W.mg_of X G a_StandError
    g_NoNumber := PySem.W.mg_of X G a_NoNumber
    g_NoDeed := PySem.W.mg_of X G a_NoDeed
    g_NoBook := PySem.W.mg_of X G a_NoBook
    g_NoWeb := PySem.W.mg_of X G a_NoWeb
    g_NoNames := PySem.W.mg_of X G a_NoNames
    g_NoAmount := PySem.W.mg_of X G a_NoAmount
    g_NoMany := PySem.W.mg_of X G a_NoMany
    g_NoText := PySem.W.mg_of X G a_NoText
    g_NoRow := PySem.W.mg_of X G a_NoRow
    g_NoName := PySem.W.mg_of X G a_NoName
    g_NoLot := PySem.W.mg_of X G a_NoLot
    g_NoPlace := PySem.W.mg_of X G a_NoPlace
    g_NoBack := PySem.W.mg_of X G a_NoBack
    g_Fails := PySem.W.mg_of X G a_Fails
    g_NoMates := PySem.W.mg_of X G a_NoMates
    g_TooMany := PySem.W.mg_of X G a_TooMany
    sup_NoBook := { ini := ini_NoBook, gC := PySem.W.mg_of X G a_NoBook, noS := PySem.W.mg_none_of X G z_super, cls := ⟨_, _, _, _, _, _, _, _, _, _, _, _, _, _, _, exL_NoBook, by first | rfl | with_unfolding_all rfl | decide⟩, sa := esa_NoBook, ga := ega_NoBook, gg := egg_NoBook, noN := enb_NoBook, iC := eiC_NoBook, tC := etI_NoBook, kC := ekC_NoBook, exC := eeC_NoBook, tyC := etC_NoBook, hdC := ehC_NoBook, vE := evE_NoBook, slf := esf_NoBook, sup := esu_NoBook, opq := z_stat, top := z_top, fn := ⟨_, _, _, _, _, _, _, _, _, _, _, efn_NoBook, ecd_NoBook, ⟨_, _, _, elc_NoBook⟩, _, _, _, _, _, _, elk_NoBook, ehv_NoBook, ehf_NoBook⟩ }
    err_NoBook := ⟨eic_NoBook, ega_NoBook, egg_NoBook, eeC_NoBook, eca_NoBook, ecn_NoBook, ect_NoBook, eob_NoBook⟩
    ko_NoBook_NoNumber := o_NoBook_NoNumber
    ko_NoBook_NoDeed := o_NoBook_NoDeed
    ko_NoBook_NoBook := o_NoBook_NoBook
    ko_NoBook_NoWeb := o_NoBook_NoWeb
    ko_NoBook_NoNames := o_NoBook_NoNames
    ko_NoBook_NoAmount := o_NoBook_NoAmount
    ko_NoBook_NoMany := o_NoBook_NoMany
    ko_NoBook_NoText := o_NoBook_NoText
    ko_NoBook_NoRow := o_NoBook_NoRow
    ko_NoBook_NoName := o_NoBook_NoName
    ko_NoBook_NoLot := o_NoBook_NoLot
    ko_NoBook_NoPlace := o_NoBook_NoPlace
    ko_NoBook_NoBack := o_NoBook_NoBack
    ko_NoBook_Fails := o_NoBook_Fails
    ko_NoBook_NoMates := o_NoBook_NoMates
    ko_NoBook_TooMany := o_NoBook_TooMany
    ko_NoBook_ThankError := o_NoBook_ThankError
    ko_NoBook_LostError := o_NoBook_LostError
    ko_NoBook_StandError := o_NoBook_StandError
    ko_NoBook_ValueError := o_NoBook_ValueError
    ko_NoBook_LookupError := o_NoBook_LookupError
    ko_NoBook_ArithmeticError := o_NoBook_ArithmeticError
    ex_NoBook_ThankError := PySem.W.exm_ref xb_NoBook_ThankError xh_NoBook_ThankError xt_NoBook_ThankError xs_NoBook_ThankError
    m_ArithmeticError := PySem.W.mg_none_of X G z_ArithmeticError
    c_CHEST := PySem.W.mg_of X G v_CHEST
    c_FIGURES_AT_ONCE := PySem.W.mg_of X G v_FIGURES_AT_ONCE
    c_LIMIT_AT_ONCE := PySem.W.mg_of X G v_LIMIT_AT_ONCE
    m_LookupError := PySem.W.mg_none_of X G z_LookupError
    c_MOST_DEEDS := PySem.W.mg_of X G v_MOST_DEEDS
    c_MOST_LETTERS := PySem.W.mg_of X G v_MOST_LETTERS
    c_MOST_MEASURES := PySem.W.mg_of X G v_MOST_MEASURES
    m_ValueError := PySem.W.mg_none_of X G z_ValueError
    m_abs := PySem.W.mg_none_of X G z_abs
    m_all := PySem.W.mg_none_of X G z_all
    m_bool := PySem.W.mg_none_of X G z_bool
    m_divmod := PySem.W.mg_none_of X G z_divmod
    m_enumerate := PySem.W.mg_none_of X G z_enumerate
    m_int := PySem.W.mg_none_of X G z_int
    m_isinstance := PySem.W.mg_none_of X G z_isinstance
    m_len := PySem.W.mg_none_of X G z_len
    m_list := PySem.W.mg_none_of X G z_list
    m_max := PySem.W.mg_none_of X G z_max
    m_min := PySem.W.mg_none_of X G z_min
    m_range := PySem.W.mg_none_of X G z_range
    m_repr := PySem.W.mg_none_of X G z_repr
    m_sorted := PySem.W.mg_none_of X G z_sorted
    m_str := PySem.W.mg_none_of X G z_str
    m_tuple := PySem.W.mg_none_of X G z_tuple
    F_is_whole := F_is_whole
    g_is_whole := PySem.W.mg_of X G a_is_whole
    b_is_whole := F_is_whole.binds (ps := ["thing"]) fun _ _ _ _ _ _ us hl => match us, hl with | [_], _ => rfl
    F_is_name := F_is_name
    g_is_name := PySem.W.mg_of X G a_is_name
    b_is_name := F_is_name.binds (ps := ["thing"]) fun _ _ _ _ _ _ us hl => match us, hl with | [_], _ => rfl
    F_is_holder := F_is_holder
    g_is_holder := PySem.W.mg_of X G a_is_holder
    b_is_holder := F_is_holder.binds (ps := ["thing"]) fun _ _ _ _ _ _ us hl => match us, hl with | [_], _ => rfl
    F_is_measure := F_is_measure
    g_is_measure := PySem.W.mg_of X G a_is_measure
    b_is_measure := F_is_measure.binds (ps := ["thing"]) fun _ _ _ _ _ _ us hl => match us, hl with | [_], _ => rfl
    F_is_deed := F_is_deed
    g_is_deed := PySem.W.mg_of X G a_is_deed
    b_is_deed := F_is_deed.binds (ps := ["thing"]) fun _ _ _ _ _ _ us hl => match us, hl with | [_], _ => rfl
    F_is_short_deed := F_is_short_deed
    g_is_short_deed := PySem.W.mg_of X G a_is_short_deed
    b_is_short_deed := F_is_short_deed.binds (ps := ["row"]) fun _ _ _ _ _ _ us hl => match us, hl with | [_], _ => rfl
    F_is_deed_between_two := F_is_deed_between_two
    g_is_deed_between_two := PySem.W.mg_of X G a_is_deed_between_two
    b_is_deed_between_two := F_is_deed_between_two.binds (ps := ["row"]) fun _ _ _ _ _ _ us hl => match us, hl with | [_], _ => rfl
    F_check_book := F_check_book
    g_check_book := PySem.W.mg_of X G a_check_book
    b_check_book := F_check_book.binds (ps := ["book"]) fun _ _ _ _ _ _ us hl => match us, hl with | [_], _ => rfl
    F_show_whole := F_show_whole
    g_show_whole := PySem.W.mg_of X G a_show_whole
    b_show_whole := F_show_whole.binds (ps := ["number"]) fun _ _ _ _ _ _ us hl => match us, hl with | [_], _ => rfl
    F_is_figures := F_is_figures
    g_is_figures := PySem.W.mg_of X G a_is_figures
    b_is_figures := F_is_figures.binds (ps := ["text"]) fun _ _ _ _ _ _ us hl => match us, hl with | [_], _ => rfl
    F_read_whole := F_read_whole
    g_read_whole := PySem.W.mg_of X G a_read_whole
    b_read_whole := F_read_whole.binds (ps := ["text"]) fun _ _ _ _ _ _ us hl => match us, hl with | [_], _ => rfl
    F_show_deed := F_show_deed
    g_show_deed := PySem.W.mg_of X G a_show_deed
    b_show_deed := F_show_deed.binds (ps := ["deed"]) fun _ _ _ _ _ _ us hl => match us, hl with | [_], _ => rfl
    F_show_book := F_show_book
    g_show_book := PySem.W.mg_of X G a_show_book
    b_show_book := F_show_book.binds (ps := ["book"]) fun _ _ _ _ _ _ us hl => match us, hl with | [_], _ => rfl
    F_lines_of := F_lines_of
    g_lines_of := PySem.W.mg_of X G a_lines_of
    b_lines_of := F_lines_of.binds (ps := ["text"]) fun _ _ _ _ _ _ us hl => match us, hl with | [_], _ => rfl
    F_read_part := F_read_part
    g_read_part := PySem.W.mg_of X G a_read_part
    b_read_part := F_read_part.binds (ps := ["word"]) fun _ _ _ _ _ _ us hl => match us, hl with | [_], _ => rfl
    F_read_deed := F_read_deed
    g_read_deed := PySem.W.mg_of X G a_read_deed
    b_read_deed := F_read_deed.binds (ps := ["line"]) fun _ _ _ _ _ _ us hl => match us, hl with | [_], _ => rfl
    F_read_book := F_read_book
    g_read_book := PySem.W.mg_of X G a_read_book
    b_read_book := F_read_book.binds (ps := ["text"]) fun _ _ _ _ _ _ us hl => match us, hl with | [_], _ => rfl
    F_Lcell := F_Lcell
    g_Lcell := PySem.W.mg_of X G a_Lcell
    b_Lcell := F_Lcell.binds (ps := ["_law_script", "_law_k"]) fun _ _ _ _ _ _ us hl => match us, hl with | [_, _], _ => rfl
    F_Lpool := F_Lpool
    g_Lpool := PySem.W.mg_of X G a_Lpool
    b_Lpool := F_Lpool.binds (ps := ["_law_cell_here"]) fun _ _ _ _ _ _ us hl => match us, hl with | [_], _ => rfl
    F_Ltake := F_Ltake
    g_Ltake := PySem.W.mg_of X G a_Ltake
    b_Ltake := F_Ltake.binds (ps := ["_law_pool_here", "_law_many"]) fun _ _ _ _ _ _ us hl => match us, hl with | [_, _], _ => rfl
    F_Lnames := F_Lnames
    g_Lnames := PySem.W.mg_of X G a_Lnames
    b_Lnames := F_Lnames.binds (ps := ["_law_pool_here", "_law_many"]) fun _ _ _ _ _ _ us hl => match us, hl with | [_, _], _ => rfl
    F_Lsort := F_Lsort
    g_Lsort := PySem.W.mg_of X G a_Lsort
    b_Lsort := F_Lsort.binds (ps := ["_law_e"]) fun _ _ _ _ _ _ us hl => match us, hl with | [_], _ => rfl
    F_Ldrawn_deed := F_Ldrawn_deed
    g_Ldrawn_deed := PySem.W.mg_of X G a_Ldrawn_deed
    b_Ldrawn_deed := F_Ldrawn_deed.binds (ps := ["_law_pool_here", "_law_names_here"]) fun _ _ _ _ _ _ us hl => match us, hl with | [_, _], _ => rfl
    F_Ldrawn_book := F_Ldrawn_book
    g_Ldrawn_book := PySem.W.mg_of X G a_Ldrawn_book
    b_Ldrawn_book := F_Ldrawn_book.binds (ps := ["_law_pool_here"]) fun _ _ _ _ _ _ us hl => match us, hl with | [_], _ => rfl
    F_Ltext := F_Ltext
    g_Ltext := PySem.W.mg_of X G a_Ltext
    b_Ltext := F_Ltext.binds (ps := ["_law_pages"]) fun _ _ _ _ _ _ us hl => match us, hl with | [_], _ => rfl
    F_Lthere_and_back := F_Lthere_and_back
    g_Lthere_and_back := PySem.W.mg_of X G a_Lthere_and_back
    b_Lthere_and_back := F_Lthere_and_back.binds (ps := ["_law_pages"]) fun _ _ _ _ _ _ us hl => match us, hl with | [_], _ => rfl
    F_Lrefused := F_Lrefused
    g_Lrefused := PySem.W.mg_of X G a_Lrefused
    b_Lrefused := F_Lrefused.binds (ps := ["_law_matter", "_law_number"]) fun _ _ _ _ _ _ us hl => match us, hl with | [_, _], _ => rfl
    F_Lothers_right := F_Lothers_right
    g_Lothers_right := PySem.W.mg_of X G a_Lothers_right
    b_Lothers_right := F_Lothers_right.binds (ps := ["_law_pool_here", "_law_pages"]) fun _ _ _ _ _ _ us hl => match us, hl with | [_, _], _ => rfl
    kb0_show_book_book := ⟨fun s us ws _ l1 l2 => match us, ws, l1, l2 with | [], [_], _, _ => .of_eq rfl, fun _ r => r⟩
    kb0_read_book_text := ⟨fun s us ws _ l1 l2 => match us, ws, l1, l2 with | [], [_], _, _ => .of_eq rfl, fun _ r => r⟩
  }
  exact ⟨PySem.W.fnOf "law" "law" (defArgs s_law) (defBody s_law) (defScope s_law) .none kV_law dc_law pm_law an_law cd_law ct_law, fun s v => .of_eq rfl, fun base _ _ => ok_law T F_law⟩
theorem walk {l : PySem.W.OpenLaw} {q : Program} {loose : List Str} {XP : (Str → Option Value) → Heap → Prop} {YP : World → Heap → Prop} {d : DefRec} {K : Params → PySem.W.Frag} (hn : l.most = some 63) (hdf : d.params.defaults = [])
    (hY : ∀ (w : World) (h : Heap), YP w h → (K w.params).In h)
    (F : ∀ (w : World) (mg : Str → Option Value) (fa : Addr) (h : Heap), (K w.params).In h → h.Ns mainGlobals mg → mg d.name = some (.ref fa) →
      ∃ fd : FuncData, (∀ (s : Shared) (u : Value), BindsTo s fd ⟨[u], []⟩ [("_law_script", u)]) ∧ ∀ base : Heap, (K w.params).In base → base.Ns mainGlobals mg → FnQ l.prog w (K w.params) mg base CX0 9 fa fd ["_law_script"] (spLaw (K w.params))) :
    PySem.W.WalkO q loose XP YP l.row.toRowW d [] (fun f vs => PySem.call f vs) :=
  walk_quiet (n := 63) (k := 9) (x := "_law_script") (C := fun _ => CX0) (sp := fun w => spLaw (K w.params)) hn (by decide) hdf ⟨⟨rfl, by decide, by decide⟩, rfl⟩ hY F (fun _ _ a ns hl _ hS => ⟨a, ns, rfl, hS, hl, fun _ => rfl⟩) fun _ _ _ _ _ z => z
end Ver
open PySem PySem.W PyProof.Rows in
set_option maxRecDepth 100000 in
set_option maxHeartbeats 0 in
theorem PySem.Challenge.cw_thankways_k13_books_as_texts_holds : PySem.Challenge.rw_thankways_k13_books_as_texts.Holds := by
  w_on; o_law; k_head; (case hw => w_witness2)
  k_fill
  refine Ver.walk (l := PySem.Challenge.rw_thankways_k13_books_as_texts) rfl rfl (fun w h Y => PySem.W.kIn_of Y) ?F
  case F =>
    intro w mg fa h KX G hmg
    refine' Ver.all_mk KX G hmg ?a_is_whole ?l_is_whole ?c_is_whole ?k_is_whole ?a_is_name ?l_is_name ?c_is_name ?k_is_name ?a_is_holder ?l_is_holder ?c_is_holder ?k_is_holder ?a_is_measure ?l_is_measure ?c_is_measure ?k_is_measure ?a_is_deed ?l_is_deed ?c_is_deed ?k_is_deed ?a_is_short_deed ?l_is_short_deed ?c_is_short_deed ?k_is_short_deed ?a_is_deed_between_two ?l_is_deed_between_two ?c_is_deed_between_two ?k_is_deed_between_two ?a_check_book ?l_check_book ?c_check_book ?k_check_book ?a_show_whole ?l_show_whole ?c_show_whole ?k_show_whole ?a_is_figures ?l_is_figures ?c_is_figures ?k_is_figures ?a_read_whole ?l_read_whole ?c_read_whole ?k_read_whole ?a_show_deed ?l_show_deed ?c_show_deed ?k_show_deed ?a_show_book ?l_show_book ?c_show_book ?k_show_book ?a_lines_of ?l_lines_of ?c_lines_of ?k_lines_of ?a_read_part ?l_read_part ?c_read_part ?k_read_part ?a_read_deed ?l_read_deed ?c_read_deed ?k_read_deed ?a_read_book ?l_read_book ?c_read_book ?k_read_book ?a_Lcell ?l_Lcell ?c_Lcell ?k_Lcell ?a_Lpool ?l_Lpool ?c_Lpool ?k_Lpool ?a_Ltake ?l_Ltake ?c_Ltake ?k_Ltake ?a_Lnames ?l_Lnames ?c_Lnames ?k_Lnames ?a_Lsort ?l_Lsort ?c_Lsort ?k_Lsort ?a_Ldrawn_deed ?l_Ldrawn_deed ?c_Ldrawn_deed ?k_Ldrawn_deed ?a_Ldrawn_book ?l_Ldrawn_book ?c_Ldrawn_book ?k_Ldrawn_book ?a_Ltext ?l_Ltext ?c_Ltext ?k_Ltext ?a_Lthere_and_back ?l_Lthere_and_back ?c_Lthere_and_back ?k_Lthere_and_back ?a_Lrefused ?l_Lrefused ?c_Lrefused ?k_Lrefused ?a_Lothers_right ?l_Lothers_right ?c_Lothers_right ?k_Lothers_right ?a_law ?l_law ?c_law ?k_law ?a_ThankError ?a_LostError ?a_StandError ?a_NoNumber ?a_NoDeed ?a_NoBook ?a_NoWeb ?a_NoNames ?a_NoAmount ?a_NoMany ?a_NoText ?a_NoRow ?a_NoName ?a_NoLot ?a_NoPlace ?a_NoBack ?a_Fails ?a_NoMates ?a_TooMany ?exL_NoBook ?esa_NoBook ?ega_NoBook ?egg_NoBook ?enb_NoBook ?eiC_NoBook ?etI_NoBook ?ekC_NoBook ?eeC_NoBook ?etC_NoBook ?ehC_NoBook ?evE_NoBook ?esf_NoBook ?esu_NoBook ?efn_NoBook ?ecd_NoBook ?elc_NoBook ?elk_NoBook ?ehv_NoBook ?ehf_NoBook ?eic_NoBook ?eca_NoBook ?ecn_NoBook ?ect_NoBook ?eob_NoBook ?o_NoBook_NoNumber ?o_NoBook_NoDeed ?o_NoBook_NoBook ?o_NoBook_NoWeb ?o_NoBook_NoNames ?o_NoBook_NoAmount ?o_NoBook_NoMany ?o_NoBook_NoText ?o_NoBook_NoRow ?o_NoBook_NoName ?o_NoBook_NoLot ?o_NoBook_NoPlace ?o_NoBook_NoBack ?o_NoBook_Fails ?o_NoBook_NoMates ?o_NoBook_TooMany ?o_NoBook_ThankError ?o_NoBook_LostError ?o_NoBook_StandError ?o_NoBook_ValueError ?o_NoBook_LookupError ?o_NoBook_ArithmeticError ?xb_NoBook_ThankError ?xh_NoBook_ThankError ?xt_NoBook_ThankError ?xs_NoBook_ThankError ?z_super ?z_stat ?z_top ?z_ArithmeticError ?v_CHEST ?v_FIGURES_AT_ONCE ?v_LIMIT_AT_ONCE ?z_LookupError ?v_MOST_DEEDS ?v_MOST_LETTERS ?v_MOST_MEASURES ?z_ValueError ?z_abs ?z_all ?z_bool ?z_divmod ?z_enumerate ?z_int ?z_isinstance ?z_len ?z_list ?z_max ?z_min ?z_range ?z_repr ?z_sorted ?z_str ?z_tuple
    (case a_is_whole => k_is)
    (case l_is_whole => k_is)
    (case c_is_whole => k_is)
    (case k_is_whole => k_is)
    (case a_is_name => k_is)
    (case l_is_name => k_is)
    (case c_is_name => k_is)
    (case k_is_name => k_is)
    (case a_is_holder => k_is)
    (case l_is_holder => k_is)
    (case c_is_holder => k_is)
    (case k_is_holder => k_is)
    (case a_is_measure => k_is)
    (case l_is_measure => k_is)
    (case c_is_measure => k_is)
    (case k_is_measure => k_is)
    (case a_is_deed => k_is)
    (case l_is_deed => k_is)
    (case c_is_deed => k_is)
    (case k_is_deed => k_is)
    (case a_is_short_deed => k_is)
    (case l_is_short_deed => k_is)
    (case c_is_short_deed => k_is)
    (case k_is_short_deed => k_is)
    (case a_is_deed_between_two => k_is)
    (case l_is_deed_between_two => k_is)
    (case c_is_deed_between_two => k_is)
    (case k_is_deed_between_two => k_is)
    (case a_check_book => k_is)
    (case l_check_book => k_is)
    (case c_check_book => k_is)
    (case k_check_book => k_is)
    (case a_show_whole => k_is)
    (case l_show_whole => k_is)
    (case c_show_whole => k_is)
    (case k_show_whole => k_is)
    (case a_is_figures => k_is)
    (case l_is_figures => k_is)
    (case c_is_figures => k_is)
    (case k_is_figures => k_is)
    (case a_read_whole => k_is)
    (case l_read_whole => k_is)
    (case c_read_whole => k_is)
    (case k_read_whole => k_is)
    (case a_show_deed => k_is)
    (case l_show_deed => k_is)
    (case c_show_deed => k_is)
    (case k_show_deed => k_is)
    (case a_show_book => k_is)
    (case l_show_book => k_is)
    (case c_show_book => k_is)
    (case k_show_book => k_is)
    (case a_lines_of => k_is)
    (case l_lines_of => k_is)
    (case c_lines_of => k_is)
    (case k_lines_of => k_is)
    (case a_read_part => k_is)
    (case l_read_part => k_is)
    (case c_read_part => k_is)
    (case k_read_part => k_is)
    (case a_read_deed => k_is)
    (case l_read_deed => k_is)
    (case c_read_deed => k_is)
    (case k_read_deed => k_is)
    (case a_read_book => k_is)
    (case l_read_book => k_is)
    (case c_read_book => k_is)
    (case k_read_book => k_is)
    (case a_Lcell => k_is)
    (case l_Lcell => k_is)
    (case c_Lcell => k_is)
    (case k_Lcell => k_is)
    (case a_Lpool => k_is)
    (case l_Lpool => k_is)
    (case c_Lpool => k_is)
    (case k_Lpool => k_is)
    (case a_Ltake => k_is)
    (case l_Ltake => k_is)
    (case c_Ltake => k_is)
    (case k_Ltake => k_is)
    (case a_Lnames => k_is)
    (case l_Lnames => k_is)
    (case c_Lnames => k_is)
    (case k_Lnames => k_is)
    (case a_Lsort => k_is)
    (case l_Lsort => k_is)
    (case c_Lsort => k_is)
    (case k_Lsort => k_is)
    (case a_Ldrawn_deed => k_is)
    (case l_Ldrawn_deed => k_is)
    (case c_Ldrawn_deed => k_is)
    (case k_Ldrawn_deed => k_is)
    (case a_Ldrawn_book => k_is)
    (case l_Ldrawn_book => k_is)
    (case c_Ldrawn_book => k_is)
    (case k_Ldrawn_book => k_is)
    (case a_Ltext => k_is)
    (case l_Ltext => k_is)
    (case c_Ltext => k_is)
    (case k_Ltext => k_is)
    (case a_Lthere_and_back => k_is)
    (case l_Lthere_and_back => k_is)
    (case c_Lthere_and_back => k_is)
    (case k_Lthere_and_back => k_is)
    (case a_Lrefused => k_is)
    (case l_Lrefused => k_is)
    (case c_Lrefused => k_is)
    (case k_Lrefused => k_is)
    (case a_Lothers_right => k_is)
    (case l_Lothers_right => k_is)
    (case c_Lothers_right => k_is)
    (case k_Lothers_right => k_is)
    (case a_law => k_is)
    (case l_law => k_is)
    (case c_law => k_is)
    (case k_law => k_is)
    (case a_ThankError => k_is)
    (case a_LostError => k_is)
    (case a_StandError => k_is)
    (case a_NoNumber => k_is)
    (case a_NoDeed => k_is)
    (case a_NoBook => k_is)
    (case a_NoWeb => k_is)
    (case a_NoNames => k_is)
    (case a_NoAmount => k_is)
    (case a_NoMany => k_is)
    (case a_NoText => k_is)
    (case a_NoRow => k_is)
    (case a_NoName => k_is)
    (case a_NoLot => k_is)
    (case a_NoPlace => k_is)
    (case a_NoBack => k_is)
    (case a_Fails => k_is)
    (case a_NoMates => k_is)
    (case a_TooMany => k_is)
    (case exL_NoBook => k_is)
    (case esa_NoBook => k_is)
    (case ega_NoBook => k_is)
    (case egg_NoBook => k_is)
    (case enb_NoBook => k_is)
    (case eiC_NoBook => k_is)
    (case etI_NoBook => k_is)
    (case ekC_NoBook => k_is)
    (case eeC_NoBook => k_is)
    (case etC_NoBook => k_is)
    (case ehC_NoBook => k_is)
    (case evE_NoBook => k_is)
    (case esf_NoBook => k_is)
    (case esu_NoBook => ks_is)
    (case efn_NoBook => k_is)
    (case ecd_NoBook => k_is)
    (case elc_NoBook => k_is)
    (case elk_NoBook => k_is)
    (case ehv_NoBook => rfl)
    (case ehf_NoBook => first | rfl | decide +kernel)
    (case eic_NoBook => k_is)
    (case eca_NoBook => k_is)
    (case ecn_NoBook => k_is)
    (case ect_NoBook => k_is)
    (case eob_NoBook => k_is)
    (case o_NoBook_NoNumber => kit_is)
    (case o_NoBook_NoDeed => kit_is)
    (case o_NoBook_NoBook => kit_is)
    (case o_NoBook_NoWeb => kit_is)
    (case o_NoBook_NoNames => kit_is)
    (case o_NoBook_NoAmount => kit_is)
    (case o_NoBook_NoMany => kit_is)
    (case o_NoBook_NoText => kit_is)
    (case o_NoBook_NoRow => kit_is)
    (case o_NoBook_NoName => kit_is)
    (case o_NoBook_NoLot => kit_is)
    (case o_NoBook_NoPlace => kit_is)
    (case o_NoBook_NoBack => kit_is)
    (case o_NoBook_Fails => kit_is)
    (case o_NoBook_NoMates => kit_is)
    (case o_NoBook_TooMany => kit_is)
    (case o_NoBook_ThankError => kit_is)
    (case o_NoBook_LostError => kit_is)
    (case o_NoBook_StandError => kit_is)
    (case o_NoBook_ValueError => kit_is)
    (case o_NoBook_LookupError => kit_is)
    (case o_NoBook_ArithmeticError => kit_is)
    (case xb_NoBook_ThankError => k_is)
    (case xh_NoBook_ThankError => k_is)
    (case xt_NoBook_ThankError => k_is)
    (case xs_NoBook_ThankError => k_is)
    (case z_super => k_is)
    (case z_stat => k_is)
    (case z_top => first | rfl | decide +kernel)
    (case z_ArithmeticError => k_is)
    (case v_CHEST => k_is)
    (case v_FIGURES_AT_ONCE => k_is)
    (case v_LIMIT_AT_ONCE => k_is)
    (case z_LookupError => k_is)
    (case v_MOST_DEEDS => k_is)
    (case v_MOST_LETTERS => k_is)
    (case v_MOST_MEASURES => k_is)
    (case z_ValueError => k_is)
    (case z_abs => k_is)
    (case z_all => k_is)
    (case z_bool => k_is)
    (case z_divmod => k_is)
    (case z_enumerate => k_is)
    (case z_int => k_is)
    (case z_isinstance => k_is)
    (case z_len => k_is)
    (case z_list => k_is)
    (case z_max => k_is)
    (case z_min => k_is)
    (case z_range => k_is)
    (case z_repr => k_is)
    (case z_sorted => k_is)
    (case z_str => k_is)
    (case z_tuple => k_is)
