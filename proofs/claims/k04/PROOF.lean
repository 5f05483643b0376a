import PyProof.Rows.All
import Wide.All
import OpenK.AllK
import Wide.FinOn
import HandS.ForMost
import HandS.IsInst
import HandS.WideBits
import HandS.Wide
import HandS.Defaults
import HandS.TupMul
import HandS.Flow
import HandS.Codes
import HandS.Style
import HandS.TupAny
import HandS.Zip
import KE.GoesZip
import KE.GoesMore
import KE.KRevSl
import PySem.Challenge.RW_thankways_k04_deeds_of_any_kind
set_option Elab.async false
set_option linter.all false
set_option maxRecDepth 100000
set_option maxHeartbeats 4000000
/-! zip of a tuple and a text, walked by a for or a comprehension. -/
namespace ZipS
open PySem PySem.Spec PyProof.Rows L2
/-- the items of the tuple at a beside the signs of x, each pair in a new tuple -/
def ItzS (K : PySem.W.Frag) (a : Addr) (x : Str) : It where
  go := fun i H => ∃ (xs : List V) (v : V) (c : Nat), SqT K H a xs ∧ xs[i]? = some v ∧ x.cps[i]? = some c
  yld := fun i H v H' => ∃ (T : Addr) (y : V) (c : Nat), v = .ref T ∧ H T = none ∧ H' = upd H T (.tup [y, .str ⟨#[c]⟩]) ∧ (∀ xs, SqT K H a xs → xs[i]? = some y) ∧ x.cps[i]? = some c
  stop := fun i H => ∃ xs : List V, SqT K H a xs ∧ i ≤ xs.length ∧ i ≤ x.cps.size ∧ (i = xs.length ∨ i = x.cps.size)
/-- how the cells of such a zip stand ahead of the turn i -/
def StS (a z TI TO i1 i2 : Addr) (x : Str) (t : Tok) (i : Nat) (h : Heap) : Prop :=
  IsZip h z TI TO .none ∧ IsTupOf2 h TI (.ref i1) (.ref i2) ∧ (∃ a1 a2, IsTupOf2 h TO a1 a2) ∧ h.IsTupleIter i1 a i ∧ h.IsStrIter i2 (strIterType x) x t i
theorem turn_zipS {P : Program} {w : World} {K : PySem.W.Frag} {elts : List Expr} {kk : Nat} {tpos : Pos} {a z TI TO i1 i2 : Addr} {x : Str} {t : Tok} (D : ZipSep2 z TI TO i1 i2 [i1, a] [i2]) (hne : a ≠ i1) :
    Turn P w K (.Tuple elts kk tpos) (ItzS K a x) [z, TI, TO, i1, i2] z (StS a z TI TO i1 i2 x t) where
  mem := List.mem_cons_self
  obj := by
    rintro i h ⟨hz, hTI, ⟨b1, b2, hTO⟩, ⟨o1, e1, _, d1⟩, ⟨o2, e2, _, d2⟩⟩ c hc
    simp only [List.mem_cons, List.not_mem_nil, or_false] at hc
    rcases hc with rfl | rfl | rfl | rfl | rfl
    · exact ⟨_, hz, fun v q => by cases q⟩
    · exact ⟨_, hTI, fun v q => by cases q⟩
    · exact ⟨_, hTO, fun v q => by cases q⟩
    · exact ⟨o1, e1, fun v q => by rw [d1] at q; cases q⟩
    · exact ⟨o2, e2, fun v q => by rw [d2] at q; cases q⟩
  keep := by
    rintro i h h' ⟨hz, hTI, ⟨b1, b2, hTO⟩, h1, ⟨o2, e2, c2, d2⟩⟩ k
    exact ⟨k z (by simp) _ hz, k TI (by simp) _ hTI, ⟨b1, b2, k TO (by simp) _ hTO⟩, h1.at fun o q => k i1 (by simp) o q, ⟨o2, k i2 (by simp) _ e2, c2, d2⟩⟩
  item := by
    intro X hP hw hK hc i pins s σ H E I hf st hg
    subst hP hw hK
    obtain ⟨hz, hTI, ⟨b1, b2, hTO⟩, h1, h2⟩ := st
    obtain ⟨xs, y, c, hq, hy, hcx⟩ := hg
    obtain ⟨its, rv, p, _⟩ := I.tuple hq
    have hh : X.A.in1.handled = none := I.ok.hd hc
    have l1 : i < its.toArray.size := by
      have := (List.getElem?_eq_some_iff.mp hy).1
      have := rv.length
      simp only [List.size_toArray]
      omega
    have l2 : i < x.cps.size := (Array.getElem?_eq_some_iff.mp hcx).1
    refine wpAny_pyNext_zipD2_item (A := X.A) D (Draws.tuple hh i1 a hne its.toArray) (Draws.text hh i2 x t) hz hTI hTO ⟨h1, (show s.heap.IsTuple a its.toArray from p)⟩ h2 l1 l2 fun x1 x2 h' tk p1 p2 z' TO' s1 s2 hT hsz hk => ?_
    obtain ⟨c', u', hc', rfl⟩ := p2
    have ec : c' = c := Option.some.inj (hc'.symm.trans hcx)
    subst ec
    obtain ⟨u, hu, ru⟩ := rv.get hy
    have eu : x1 = u := by
      have : its[i]? = some x1 := by simpa using p1
      exact Option.some.inj (this.symm.trans hu)
    subst eu
    refine ⟨_, rfl, ?_⟩
    refine wpAny_letOwnedTupleGo_zip (s := { s with heap := h', toks := tk }) z' fun h2' z2 sb => ?_
    have zlt : z < s.heap.objs.size := Heap.lt_size hz
    have T2 : h2'.get? s.heap.objs.size = some { cls := .type "tuple", data := .seq #[x1, .str ⟨#[c']⟩ u'] } := (sb.2 _ (Nat.ne_of_gt zlt)).trans hT
    have new : ObjOk X.prog X.w (upd H s.heap.objs.size (.tup [y, .str ⟨#[c']⟩])) h2' s.heap.objs.size (.tup [y, .str ⟨#[c']⟩]) :=
      ⟨by show 2 ≤ sizeLine; decide, [x1, .str ⟨#[c']⟩ u'], .cons ru (.cons ⟨u', rfl⟩ .nil), ⟨_, T2, rfl, _, rfl⟩⟩
    have kk' : ∀ b o, b ∉ [z, TI, TO, i1, i2] → s.heap.get? b = some o → h2'.get? b = some o := fun b o hb q => by
      simp only [List.mem_cons, List.not_mem_nil, or_false, not_or] at hb
      exact (sb.2 b hb.1).trans (hk b o hb.1 hb.2.2.1 hb.2.2.2.1 hb.2.2.2.2 q)
    have I1 : Inv X pins σ (upd H s.heap.objs.size (.tup [y, .str ⟨#[c']⟩])) { s with heap := h2', toks := tk } := I.turnedNew (t' := tk) kk' hf (Nat.le_refl _) new
    refine ⟨.ref s.heap.objs.size, _, I1, rfl, ⟨_, y, c', rfl, I.hok.fresh (Nat.le_refl _), rfl, fun l hl => by rw [I.tuple_inj hl hq]; exact hy, hcx⟩, ⟨z2, ?_, ⟨x1, .str ⟨#[c']⟩ u', ?_⟩, ?_, ?_⟩, fun b hb => ?_⟩
    · exact (sb.2 _ D.TIz).trans (hk _ _ D.TIz D.TITO D.TIi1 D.TIi2 hTI)
    · exact (sb.2 _ D.TOz).trans TO'
    · exact s1.1.at fun o q => (sb.2 _ D.zi1.symm).trans q
    · obtain ⟨o, e, c0, d⟩ := s2
      exact ⟨o, (sb.2 _ D.zi2.symm).trans e, c0, d⟩
    · have lt : b < s.heap.objs.size := by
        simp only [List.mem_cons, List.not_mem_nil, or_false] at hb
        obtain ⟨o1, e1, _⟩ := h1
        obtain ⟨o2, e2, _⟩ := h2
        rcases hb with rfl | rfl | rfl | rfl | rfl
        · exact zlt
        · exact Heap.lt_size hTI
        · exact Heap.lt_size hTO
        · exact Heap.lt_size e1
        · exact Heap.lt_size e2
      rw [upd_ne (Nat.ne_of_lt lt)]
      exact (hf b hb).1
  done := by
    intro X hP hw hK hc i pins s σ H E I hf st hg
    subst hP hw hK
    obtain ⟨hz, hTI, ⟨b1, b2, hTO⟩, h1, h2⟩ := st
    obtain ⟨xs, hq, le1, le2, hend⟩ := hg
    obtain ⟨its, rv, p, _⟩ := I.tuple hq
    have hh : X.A.in1.handled = none := I.ok.hd hc
    have el : its.toArray.size = xs.length := by
      have := rv.length
      simp only [List.size_toArray]
      omega
    refine wpAny_pyNext_zipD2_end (A := X.A) D (Draws.tuple hh i1 a hne its.toArray) (Draws.text hh i2 x t) hz hTI hTO ⟨h1, (show s.heap.IsTuple a its.toArray from p)⟩ h2 (by omega) le2 (by omega) fun h' tk hk => ?_
    refine ⟨rfl, I.turnedL (t' := tk) (ch := [z, TI, TO, i1, i2]) (fun b o hb q => ?_) hf⟩
    simp only [List.mem_cons, List.not_mem_nil, or_false, not_or] at hb
    exact hk b o hb.1 hb.2.2.1 hb.2.2.2.1 hb.2.2.2.2 q
  self := fun A i s Q E st h => wpAny_pyIter_zip st.1 h
def iZipS (K : PySem.W.Frag) (ta : TA) : TI := fun σ H R => ta σ H fun vs H1 => ∃ (a : Addr) (x : Str) (xs : List V), vs = [.ref a, .str x] ∧ SqT K H1 a xs ∧ R (ItzS K a x) H1
theorem sep_new {n a : Nat} (h : a < n) : ZipSep2 (n + 4) (n + 2) (n + 3) n (n + 1) [n, a] [n + 1] where
  TIz := fun e => by have e : n + 2 = n + 4 := e; omega
  TOz := fun e => by have e : n + 3 = n + 4 := e; omega
  TITO := fun e => by have e : n + 2 = n + 3 := e; omega
  TIi1 := fun e => by have e : n + 2 = n := e; omega
  mem1 := List.mem_cons_self
  zf1 := fun e => by
    rcases List.mem_cons.mp e with e | e
    · have e : n + 4 = n := e
      omega
    · have e : n + 4 = a := by simpa using e
      omega
  Tf1 := fun e => by
    rcases List.mem_cons.mp e with e | e
    · have e : n + 3 = n := e
      omega
    · have e : n + 3 = a := by simpa using e
      omega
  TIi2 := fun e => by have e : n + 2 = n + 1 := e; omega
  mem2 := List.mem_cons_self
  zf2 := fun e => by
    have e : n + 4 = n + 1 := by simpa using e
    omega
  Tf2 := fun e => by
    have e : n + 3 = n + 1 := by simpa using e
    omega
  sep1_2 := fun e => by
    have e : n = n + 1 := by simpa using e
    omega
  sep2_1 := fun e => by
    rcases List.mem_cons.mp e with e | e
    · have e : n + 1 = n := e
      omega
    · have e : n + 1 = a := by simpa using e
      omega
theorem pi_zipS {X : Cx} {K : PySem.W.Frag} {e e2 : Expr} {ta : TA} {p pos tpos : Pos} {elts : List Expr} {kk : Nat} (hK : X.K = K) (hg : Gl X "zip") (hm : X.mg "zip" = none) (ha : PA X [e, e2] ta)
    (hs : starEach [e, e2] X.env = (false, eval e X.env) :: starEach [e2] X.env := by rfl) (hpl : (backTo pos (starEach [e2] X.env)).any (·.1) = false := by rfl) :
    PI X (.Tuple elts kk tpos) (.Call (.Name "zip" p) [e, e2] [] pos) (iZipS K ta) := by
  subst hK
  refine ⟨fun pins s σ H R I h => ?_⟩
  refine Call_ (ld_blt I hg hm PyProof.Rows.boot_zip (PyProof.Rows.callWith_type1 (thn (ha.run pos pins s σ H _ I h) fun us s1 ⟨vs, H1, I1, r1, q1⟩ => ?_) hs hpl))
  obtain ⟨a, x, xs, rfl, hq, q⟩ := q1
  obtain ⟨u1, u2, rfl, ra, t, rfl⟩ := vals2 r1
  cases ra
  obtain ⟨its, rv, p1, _⟩ := I1.tuple hq
  have la : a < s1.heap.objs.size := let ⟨_, e, _⟩ := p1; Heap.lt_size e
  refine zip_begins2 (begins_tuple a its.toArray) (begins_text x t) (show s1.heap.IsTuple a its.toArray from p1) trivial fun h' hz hTI hTO g1 g2 hsz hk => wpAny_pyIter_zip hz ?_
  have I2 : Inv X pins σ H1 { s1 with heap := h' } := I1.kept (t' := s1.toks) hk
  have D := sep_new la
  refine ⟨s1.heap.objs.size + 4, [s1.heap.objs.size + 4, s1.heap.objs.size + 2, s1.heap.objs.size + 3, s1.heap.objs.size, s1.heap.objs.size + 1], _, _, H1, rfl, I2, turn_zipS D (Nat.ne_of_lt la), ⟨hz, hTI, ⟨_, _, hTO⟩, ⟨_, g1, rfl, rfl⟩, ⟨_, g2, rfl, rfl⟩⟩, fun b hb => ?_, q⟩
  have hle : s1.heap.objs.size ≤ b := by
    simp only [List.mem_cons, List.not_mem_nil, or_false] at hb
    rcases hb with rfl | rfl | rfl | rfl | rfl
    · exact Nat.le_add_right _ _
    · exact Nat.le_add_right _ _
    · exact Nat.le_add_right _ _
    · exact Nat.le_refl _
    · exact Nat.le_add_right _ _
  exact I1.fpOk hle (I1.hok.fresh hle)
/-- a loop over such a zip -/
theorem for_zipS {K : PySem.W.Frag} {a : Addr} {x : Str} {xs : List V} {g : TG} {tb : TS} {D : Ends} {σ : L2.St} {H : Hp} (n : Nat) (hn : n = min xs.length x.cps.size) (Pv : Nat → L2.St → Hp → Prop) (h0 : Pv 0 σ H) (hq : ∀ i σ H, Pv i σ H → SqT K H a xs)
    (hs : ∀ (i : Nat) (y : V) (c : Nat) (T : Addr) (σ : L2.St) (H : Hp), xs[i]? = some y → x.cps[i]? = some c → Pv i σ H → H T = none → g (.ref T) σ (upd H T (.tup [y, .str ⟨#[c]⟩])) fun σ2 H2 => tb { D with nx := Pv (i + 1), ct := Pv (i + 1), bk := D.nx } σ2 H2)
    (hd : ∀ σ H, Pv n σ H → D.nx σ H) :
    ∃ W : Nat → Nat → L2.St → Hp → Prop, (∃ m, W 0 m σ H) ∧ ∀ i m σ H, W i m σ H →
      ((ItzS K a x).stop i H ∧ D.nx σ H) ∨ ((ItzS K a x).go i H ∧ ∃ N : L2.St → Hp → Prop, (∀ σ' H', N σ' H' → ∃ m', m' < m ∧ W (i + 1) m' σ' H') ∧ ∀ v H', (ItzS K a x).yld i H v H' → g v σ H' fun σ2 H2 => tb { D with nx := N, ct := N, bk := D.nx } σ2 H2) := by
  refine ⟨fun i m σ H => m = n - i ∧ i ≤ n ∧ Pv i σ H, ⟨n, by simp, Nat.zero_le _, h0⟩, ?_⟩
  rintro i m σ H ⟨rfl, hi, P⟩
  have q := hq i σ H P
  by_cases hlt : i < n
  · have l1 : i < xs.length := by omega
    have l2 : i < x.cps.size := by omega
    refine .inr ⟨⟨xs, xs[i], x.cps[i], q, List.getElem?_eq_getElem l1, Array.getElem?_eq_getElem l2⟩, Pv (i + 1), fun σ' H' P' => ⟨n - (i + 1), by omega, rfl, hlt, P'⟩, ?_⟩
    rintro v H' ⟨T, y, c, rfl, nT, rfl, f, hc⟩
    exact hs i y c T σ H (f xs q) hc P nT
  · have e : i = n := by omega
    subst e
    exact .inl ⟨⟨xs, q, by omega, by omega, by omega⟩, hd σ H P⟩
end ZipS
/-! The steps of a reading, one lemma a construct, and the heaps of a law with a pool. -/
namespace Ver
open PySem PySem.Spec PyProof.Rows L2

/-! ### heaps: all is kept but what stands at the one place -/
/-- all that was tracked is kept, but at p -/
def Kp (p : Addr) (H H' : Hp) : Prop := ∀ a o, a ≠ p → H a = some o → H' a = some o
/-- all is kept -/
def Ex (H H' : Hp) : Prop := ∀ a o, H a = some o → H' a = some o
theorem Ex.refl (H : Hp) : Ex H H := fun _ _ h => h
theorem Ex.trans {H H1 H2 : Hp} (a : Ex H H1) (b : Ex H1 H2) : Ex H H2 := fun x o h => b x o (a x o h)
theorem Ex.new {H : Hp} {p : Addr} {o : HO} (h : H p = none) : Ex H (upd H p o) := fun a u e => by
  rw [upd_ne (ne_of_none e h)]
  exact e
theorem Ex.kp {p : Addr} {H H' : Hp} (e : Ex H H') : Kp p H H' := fun a o _ h => e a o h
theorem Kp.refl (p : Addr) (H : Hp) : Kp p H H := fun _ _ _ h => h
theorem Kp.trans {p : Addr} {H H1 H2 : Hp} (a : Kp p H H1) (b : Kp p H1 H2) : Kp p H H2 := fun x o n h => b x o n (a x o n h)
theorem Kp.set {p : Addr} {H : Hp} {o : HO} : Kp p H (upd H p o) := fun a u n e => by
  rw [upd_ne n]
  exact e
theorem Kp.new {p q : Addr} {H : Hp} {o : HO} (h : H q = none) : Kp p H (upd H q o) := (Ex.new h).kp
/-- a thing that H does not know may change -/
theorem Ex.mut {H H' : Hp} {p : Addr} {o : HO} (e : Ex H H') (h : H p = none) : Ex H (upd H' p o) := fun a u ha => by
  rw [upd_ne (ne_of_none ha h)]
  exact e a u ha
theorem Kp.mut {q : Addr} {H H' : Hp} {p : Addr} {o : HO} (e : Kp q H H') (h : H p = none) : Kp q H (upd H' p o) := fun a u n ha => by
  rw [upd_ne (ne_of_none ha h)]
  exact e a u n ha
theorem Ex.free {H H' : Hp} {p : Addr} (e : Ex H H') (h : H' p = none) : H p = none := by
  cases h1 : H p with
  | none => rfl
  | some o =>
    rw [e p o h1] at h
    cases h
theorem Kp.free {q : Addr} {H H' : Hp} {p : Addr} (e : Kp q H H') (n : p ≠ q) (h : H' p = none) : H p = none := by
  cases h1 : H p with
  | none => rfl
  | some o =>
    rw [e p o n h1] at h
    cases h
theorem Kp.back {p : Addr} {H H1 H2 : Hp} (e : Ex H H1) (k : Kp p H1 H2) (n : H p = none) : Ex H H2 := fun a o h => k a o (ne_of_none h n) (e a o h)
theorem Ex.get {H H' : Hp} {a : Addr} {o : HO} (e : Ex H H') (h : H a = some o) : H' a = some o := e a o h
theorem Kp.get {p : Addr} {H H' : Hp} {a : Addr} {o : HO} (e : Kp p H H') (n : a ≠ p) (h : H a = some o) : H' a = some o := e a o n h
theorem Ex.rd {H H' : Hp} {a : Addr} {u : HO} (e : Ex H H') (h : Rd H a u) : Rd H' a u := by
  rcases h with h | ⟨o, h⟩
  · exact Or.inl (e a _ h)
  · exact Or.inr ⟨o, e a _ h⟩
theorem Ex.sq {K : PySem.W.Frag} {H H' : Hp} {a : Addr} {xs : List V} (e : Ex H H') (h : SqL K H a xs) : SqL K H' a xs := by
  rcases h with h | h
  · exact Or.inl (e.rd h)
  · exact Or.inr h
theorem Ex.st {K : PySem.W.Frag} {H H' : Hp} {a : Addr} {xs : List V} (e : Ex H H') (h : SqT K H a xs) : SqT K H' a xs := by
  rcases h with h | h
  · exact Or.inl (e.rd h)
  · exact Or.inr h
theorem sz6 {n : Nat} (h : n ≤ 100000) : n ≤ sizeLine := Nat.le_trans h (by decide)
theorem sz6' {n : Nat} (h : n ≤ 100000) : n < sizeLine := Nat.lt_of_le_of_lt h (by decide)

/-- a new object: what is wanted of its place and of the heap with it -/
def Al (Q : VK) (o : HO) (H : Hp) : Prop := ∀ p, H p = none → Q (.ref p) (upd H p o)
theorem alI {Q : VK} {o : HO} {H : Hp} (h : ∀ p H', H p = none → Ex H H' → H' p = some o → Q (.ref p) H') : Al Q o H := fun p hp => h p _ hp (Ex.new hp) upd_same

/-! ### the steps -/
section
variable {K : PySem.W.Frag} {σ : L2.St} {H : Hp} {Q : VK} {QT : Bool → Hp → Prop} {QA : List V → Hp → Prop} {QO : Option Int → Hp → Prop} {ta tb tc te : TE} {tt tu : TT} {v x y : V} {r r' : R2} {D : Ends} {ts us : TS} {g : TG} {tA tR : TA}
theorem wVar {i : Nat} (h : σ[i]? = some (some v)) (k : Q v H) : tVar i σ H Q := ⟨v, h, k⟩
theorem wC (k : Q v H) : tC v σ H Q := k
theorem wOp (k : ta σ H fun x H1 => tb σ H1 fun y H2 => r x y H2 Q) : tOp r ta tb σ H Q := k
theorem wUn {r : V → Hp → VK → Prop} (k : ta σ H fun x H1 => r x H1 Q) : tUn r ta σ H Q := k
theorem wCB {r : List V → Hp → VK → Prop} (k : tA σ H fun vs H1 => r vs H1 Q) : tCB r tA σ H Q := k
theorem wNil (k : QA [] H) : tNil σ H QA := k
theorem wCons (k : ta σ H fun x H1 => tR σ H1 fun xs H2 => QA (x :: xs) H2) : tCons ta tR σ H QA := k
theorem wCall {sp : Sp} {dvs : List V} {E : XK} (k : tA σ H fun vs H1 => sp (vs ++ dvs) H1 Q E) : tCall sp dvs E tA σ H Q := k
theorem wTest (k : te σ H fun x H' => ∃ k, x = .bl k ∧ QT k H') : tTest te σ H QT := k
theorem wB (k : te σ H fun x H' => ∃ k, x = .bl k ∧ QT k H') : tB te σ H QT := k
theorem wAnd (k : tt σ H fun c H1 => if c = true then tu σ H1 QT else QT false H1) : tAnd tt tu σ H QT := k
theorem wOr (k : tt σ H fun c H1 => if c = true then QT true H1 else tu σ H1 QT) : tOr tt tu σ H QT := k
theorem wNot (k : tt σ H fun c H1 => QT (!c) H1) : tNot tt σ H QT := k
theorem wAndV (k : ta σ H fun x H1 => ∃ c, x = .bl c ∧ if c = true then tb σ H1 Q else Q (.bl false) H1) : tAndV ta tb σ H Q := k
theorem wOrV (k : ta σ H fun x H1 => ∃ c, x = .bl c ∧ if c = true then Q (.bl true) H1 else tb σ H1 Q) : tOrV ta tb σ H Q := k
theorem wNotV (k : ta σ H fun x H1 => ∃ c, x = .bl c ∧ Q (.bl (!c)) H1) : tNotV ta σ H Q := k
theorem wIf (k : tt σ H fun c H1 => if c = true then ta σ H1 Q else tb σ H1 Q) : tIf tt ta tb σ H Q := k
theorem wChain (k : ta σ H fun x H1 => tb σ H1 fun y H2 => r x y H2 fun z H3 => ∃ k, z = .bl k ∧ (if k = true then tc σ H3 fun w' H4 => r' y w' H4 Q else Q (.bl false) H3)) : tChain r r' ta tb tc σ H Q := k
theorem wTup (k : tA σ H fun xs H1 => xs.length ≤ sizeLine ∧ Al Q (.tup xs) H1) : tTup tA σ H Q := k
theorem wLst (k : tA σ H fun xs H1 => xs.length ≤ sizeLine ∧ Al Q (.lst xs) H1) : tLst tA σ H Q := k
theorem wDnew (k : Al Q (.dK []) H) : tDNewK σ H Q := k
theorem wSl {r : V → Option Int → Option Int → Hp → VK → Prop} {tl th : TO} (k : te σ H fun x H1 => tl σ H1 fun l H2 => th σ H2 fun u H3 => r x l u H3 Q) : tSl r te tl th σ H Q := k
theorem wPart (k : te σ H fun x H1 => ∃ i, x = .int i ∧ QO (some i) H1) : tPart te σ H QO := k
theorem wNoPart (k : QO none H) : tNoPart σ H QO := k
theorem wBM {T : String} {r : V → List V → Hp → VK → Prop} (k : ta σ H fun x H1 => tyV K T x H1 ∧ tA σ H1 fun xs H2 => r x xs H2 Q) : tBM K T r ta tA σ H Q := k
theorem wBM0 {T : String} {r : V → List V → Hp → VK → Prop} (k : ta σ H fun x H1 => tyV K T x H1 ∧ r x [] H1 Q) : tBM0 K T r ta σ H Q := k
theorem wM0 {r : V → List V → Hp → VK → Prop} (k : ta σ H fun x H1 => (∃ a, x = .str a) ∧ r x [] H1 Q) : tM0 r ta σ H Q := k
theorem wM1 {r : V → List V → Hp → VK → Prop} (k : ta σ H fun x H1 => (∃ a, x = .str a) ∧ tb σ H1 fun y H2 => r x [y] H2 Q) : tM1 r ta tb σ H Q := k
-- statements
theorem wSeq (k : ts { D with nx := us D } σ H) : tSeq ts us D σ H := k
theorem wAsg (k : te σ H fun x H1 => g x σ H1 D.nx) : tAsg te g D σ H := k
theorem wRet (k : te σ H D.rt) : tRet te D σ H := k
theorem wDrop (k : te σ H fun _ H1 => D.nx σ H1) : tDrop te D σ H := k
theorem wIfS (k : tt σ H fun b H1 => if b = true then ts D σ H1 else us D σ H1) : tIfS tt ts us D σ H := k
theorem wNext (k : D.nx σ H) : tNext D σ H := k
theorem wPar {i j : Nat} (k : tA σ H fun vs H1 => ∃ v w, vs = [v, w] ∧ D.nx ((σ.set i (some v)).set j (some w)) H1) : tPar i j tA D σ H := k
variable {QS : L2.St → Hp → Prop} {QH : Hp → Prop}
theorem wName {i : Nat} (k : QS (σ.set i (some v)) H) : gName i v σ H QS := k
theorem wSub {to ti : TE} {t : TSet} (k : to σ H fun o H1 => ti σ H1 fun i H2 => t o i v H2 fun H3 => QS σ H3) : gSub to ti t v σ H QS := k
theorem wGTup {n : Nat} {t : TGs} {a : Addr} {xs : List V} (h : SqT K H a xs) (hl : xs.length = n) (k : t xs σ H QS) : gTup K n t (.ref a) σ H QS := ⟨a, xs, rfl, h, hl, k⟩
theorem wGCons {t : TG} {u : TGs} {vs : List V} (k : t v σ H fun σ' H' => u vs σ' H' QS) : gCons t u (v :: vs) σ H QS := ⟨v, vs, rfl, k⟩
theorem wGNil (k : QS σ H) : gNil [] σ H QS := ⟨rfl, k⟩
-- operations
theorem wI0 {f : Int → Int → V} {i j : Int} (k : Q (f i j) H) : rI0 f (.int i) (.int j) H Q := ⟨i, j, rfl, rfl, k⟩
theorem wI {C : Int → Int → Prop} {f : Int → Int → V} {i j : Int} (c : C i j) (k : Q (f i j) H) : rI C f (.int i) (.int j) H Q := ⟨i, j, rfl, rfl, c, k⟩
theorem wU {f : Int → V} {i : Int} (k : Q (f i) H) : rU f (.int i) H Q := ⟨i, rfl, k⟩
theorem wEq (h : scal x y = true) (k : Q (.bl (decide (x = y))) H) : rEq x y H Q := ⟨h, k⟩
theorem wNe (h : scal x y = true) (k : Q (.bl (!decide (x = y))) H) : rNe x y H Q := ⟨h, k⟩
theorem wIxL {p : Addr} {xs : List V} {i : Int} (h : SqL K H p xs) (ha : atI xs i = some v) (k : Q v H) : rIxL K (.ref p) (.int i) H Q := ⟨p, xs, i, v, rfl, rfl, h, ha, k⟩
theorem wIxT {p : Addr} {xs : List V} {i : Int} (h : SqT K H p xs) (ha : atI xs i = some v) (k : Q v H) : rIxT K (.ref p) (.int i) H Q := ⟨p, xs, i, v, rfl, rfl, h, ha, k⟩
theorem wIxS {z : Str} {i : Int} {c : Nat} (h : z.length ≤ sizeLine) (ha : atI z.cps.toList i = some c) (k : Q (.str ⟨#[c]⟩) H) : rIxS (.str z) (.int i) H Q := ⟨z, i, c, rfl, rfl, h, ha, k⟩
theorem wSetL {p : Addr} {xs : List V} {k : Int} {j : Nat} (h : H p = some (.lst xs)) (hj : ixN xs.length k = some j) (q : QH (upd H p (.lst (xs.set j v)))) : rSetL (.ref p) (.int k) v H QH := ⟨p, xs, k, j, rfl, rfl, h, hj, q⟩
theorem wSlL {a : Addr} {xs : List V} {lo hi : Option Int} (h : SqL K H a xs) (k : Al Q (.lst (cutV xs lo hi)) H) : rSlL K (.ref a) lo hi H Q := ⟨a, xs, rfl, h, k⟩
theorem wSlS {z : Str} {lo hi : Option Int} (h : z.length ≤ sizeLine) (k : Q (.str (cutS z lo hi)) H) : rSlS (.str z) lo hi H Q := ⟨z, rfl, h, k⟩
theorem wAppend {l : Addr} {xs : List V} {y : V} (h : H l = some (.lst xs)) (hl : xs.length ≤ 100000) (k : Q .non (upd H l (.lst (xs ++ [y])))) : rAppend (.ref l) [y] H Q := ⟨l, xs, y, rfl, rfl, h, sz6' hl, k⟩
theorem wAppendI {H0 : Hp} {l : Addr} {xs : List V} {y : V} (h : H l = some (.lst xs)) (hl : xs.length ≤ 100000) (n : H0 l = none) (e : Ex H0 H) (k : ∀ H', Ex H0 H' → Kp l H H' → H' l = some (.lst (xs ++ [y])) → Q .non H') : rAppend (.ref l) [y] H Q :=
  ⟨l, xs, y, rfl, rfl, h, sz6' hl, k _ (e.mut n) Kp.set upd_same⟩
theorem anTyL {l : Addr} {xs : List V} {P : Prop} (h : H l = some (.lst xs)) (k : P) : tyV K "list" (.ref l) H ∧ P := ⟨.inl ⟨rfl, xs, SqL.of h⟩, k⟩
theorem wCat {a b : Addr} {xs ys : List V} (h1 : H a = some (.lst xs)) (h2 : H b = some (.lst ys)) (hl : xs.length + ys.length ≤ sizeLine) (k : Al Q (.lst (xs ++ ys)) H) : rCat (.ref a) (.ref b) H Q := ⟨a, b, xs, ys, rfl, rfl, h1, h2, hl, k⟩
theorem wLenL {a : Addr} {xs : List V} {P : Nat → Prop} (h : SqL K H a xs) (k : P xs.length) : ∃ x n, [V.ref a] = [x] ∧ LenV K x H n ∧ P n := ⟨_, _, rfl, .inl ⟨_, h, rfl⟩, k⟩
theorem wLenT {a : Addr} {xs : List V} {P : Nat → Prop} (h : SqT K H a xs) (k : P xs.length) : ∃ x n, [V.ref a] = [x] ∧ LenV K x H n ∧ P n := ⟨_, _, rfl, .inr ⟨_, h, rfl⟩, k⟩
theorem wLenS {z : Str} {P : Nat → Prop} (h : z.length ≤ sizeLine) (k : P z.length) : ∃ x n, [V.str z] = [x] ∧ LenV K x H n ∧ P n := ⟨_, _, rfl, ⟨h, rfl⟩, k⟩
theorem exI1 {i : Int} {P : Int → Prop} (k : P i) : ∃ j, [V.int i] = [V.int j] ∧ P j := ⟨i, rfl, k⟩
theorem exI2 {i j : Int} {P : Int → Int → Prop} (k : P i j) : ∃ a b, [V.int i, V.int j] = [V.int a, V.int b] ∧ P a b := ⟨i, j, rfl, k⟩
theorem wAll {a : Addr} {bs : List Bool} (h : SqL K H a (bs.map V.bl)) (k : Q (.bl (bs.all id)) H) : rAll K [.ref a] H Q := ⟨a, bs, rfl, h, k⟩
theorem wAny {a : Addr} {bs : List Bool} (h : SqL K H a (bs.map V.bl)) (k : Q (.bl (bs.any id)) H) : rAny K [.ref a] H Q := ⟨a, bs, rfl, h, k⟩
theorem exBl {b : Bool} {P : Bool → Prop} (h : P b) : ∃ k, V.bl b = V.bl k ∧ P k := ⟨b, rfl, h⟩
theorem exInt {i : Int} {P : Int → Prop} (h : P i) : ∃ k, V.int i = V.int k ∧ P k := ⟨i, rfl, h⟩
theorem exStr {z : Str} {P : Str → Prop} (h : P z) : ∃ k, V.str z = V.str k ∧ P k := ⟨z, rfl, h⟩
theorem exSS {a b : Str} {P : Str → Str → Prop} (h : P a b) : ∃ i j, V.str a = V.str i ∧ V.str b = V.str j ∧ P i j := ⟨a, b, rfl, rfl, h⟩
theorem exCS {c : Nat} {b : Str} {P : Nat → Str → Prop} (h : P c b) : ∃ i j, V.str ⟨#[c]⟩ = V.str ⟨#[i]⟩ ∧ V.str b = V.str j ∧ P i j := ⟨c, b, rfl, rfl, h⟩
theorem anSum {a b : Nat} {P : Prop} (h : a + b ≤ sizeLine) (k : P) : a + b ≤ sizeLine ∧ P := ⟨h, k⟩
theorem anStr {z : Str} {P : Prop} (h : P) : (∃ a, V.str z = V.str a) ∧ P := ⟨⟨z, rfl⟩, h⟩
theorem anSz {n : Nat} {P : Prop} (h : n ≤ 100000) (k : P) : n ≤ sizeLine ∧ P := ⟨sz6 h, k⟩
theorem exTwo {v w : V} {P : V → V → Prop} (h : P v w) : ∃ a b, [v, w] = [a, b] ∧ P a b := ⟨v, w, rfl, h⟩
end
/-- a chain's comparison of two ints, of texts -/
theorem wLeS {i j : Str} {H : Hp} {Q : VK} (k : Q (.bl (!decide (j.cps.toList < i.cps.toList))) H) : (fun x y H Q => ∃ i j, x = V.str i ∧ y = V.str j ∧ Q (.bl (!decide (j.cps.toList < i.cps.toList))) H : R2) (.str i) (.str j) H Q := ⟨i, j, rfl, rfl, k⟩

/-! ### small rules of our own -/
/-- a text so many times -/
def rMulS : R2 := fun x y H Q => ∃ (z : Str) (n : Nat), x = .str z ∧ y = .int n ∧ 1 < n ∧ n ≤ 100 ∧ 0 < z.length ∧ z.length ≤ 1000 ∧ ∀ u : Str, u.cps.toList = (List.replicate n z.cps.toList).flatten → Q (.str u) H
theorem fold_cps (z : Str) : ∀ (n : Nat) (a : Array Nat), ((List.replicate n z.cps).foldl (· ++ ·) a).toList = a.toList ++ (List.replicate n z.cps.toList).flatten
  | 0, a => by simp
  | n + 1, a => by
    rw [List.replicate_succ, List.foldl_cons, fold_cps z n, List.replicate_succ, List.flatten_cons, Array.toList_append, List.append_assoc]
theorem op_mulS {X : Cx} : OpR X (binaryOp .Mult) rMulS := by
  intro pins s σ H x y v u Q I rx ry h
  obtain ⟨z, n, rfl, rfl, h1, h2, h3, h4, q⟩ := h
  obtain ⟨t, rfl⟩ := rx
  obtain ⟨t', rfl⟩ := ry
  have e1 : ¬ ((n : Int) < 1) := by omega
  have e2 : ((n : Int) == 1 || z.length == 0) = false := by
    rw [Bool.or_eq_false_iff]
    exact ⟨beq_eq_false_iff_ne.mpr (by omega), beq_eq_false_iff_ne.mpr (by omega)⟩
  have e3 : z.length * n ≤ 1000 * 100 := Nat.mul_le_mul h4 h2
  refine PySem.P.mul_str ?_ (fun _ _ => ?_) (fun _ _ => ?_) ?_
  · rw [decide_eq_false (by omega), decide_eq_false (by omega)]; rfl
  · have e4 : (92233720368547758 : Int) ≤ (2 ^ 63 - 1) / (n : Int) := by
      refine Int.le_ediv_of_mul_le (by omega) ?_
      have : (92233720368547758 : Int) * n ≤ 92233720368547758 * 100 := Int.mul_le_mul_of_nonneg_left (by omega) (by decide)
      omega
    omega
  · show decide (z.length * ((n : Int)).toNat > sizeLine) = false
    rw [Int.toNat_natCast]
    exact decide_eq_false (by have := sz6 (n := z.length * n) (by omega); omega)
  · rw [if_neg e1, e2]
    rw [if_neg (by decide)]
    have e5 : ((List.replicate ((n : Int)).toNat z.cps).foldl (· ++ ·) #[]).toList = (List.replicate n z.cps.toList).flatten := by
      rw [fold_cps, Int.toNat_natCast]
      simp
    refine ⟨?_, ?_⟩
    · have e6 : ((List.replicate ((n : Int)).toNat z.cps).foldl (· ++ ·) #[]).size = n * z.length := by
        rw [← Array.length_toList, e5, List.length_flatten, List.map_replicate, List.sum_replicate_nat]
        rfl
      refine Nat.le_trans (Nat.le_of_eq e6) (sz6 ?_)
      rw [Nat.mul_comm]
      exact e3
    · exact ⟨.str _, H, I.tok _, ⟨_, rfl⟩, q _ e5⟩
/-- // by any number that is not too great -/
def CDivZ (_ j : Int) : Prop := j ≠ 0 ∧ j.natAbs.log2 < 9000
theorem op_fdivZ {X : Cx} : OpR X (binaryOp .FloorDiv) (rI CDivZ fun i j => .int (i.fdiv j)) := opI fun _ _ _ _ _ _ _ hc q => floordiv_int hc.1 q (.inl (PyProof.noPylong_of_log2 hc.2))
theorem divz {i j : Int} {n : Nat} (h : j ≠ 0) (hb : j.natAbs < 2 ^ n) (h0 : 0 < n) (h9 : n ≤ 9000) : CDivZ i j := ⟨h, Nat.lt_of_lt_of_le (PySem.Flt.log2_lt_of h0 hb) h9⟩
theorem wWhile {c : TT} {tb : TS} {D : Ends} {σ : L2.St} {H : Hp} (k : ∃ W : Nat → L2.St → Hp → Prop, (∃ m, W m σ H) ∧ ∀ m σ H, W m σ H →
    c σ H fun b H1 => if b = true then ∃ N : L2.St → Hp → Prop, (∀ σ' H', N σ' H' → ∃ m', m' < m ∧ W m' σ' H') ∧ tb { D with nx := N, ct := N, bk := D.nx } σ H1 else D.nx σ H1) : tWhile c tb D σ H := k
theorem wOrT {K : PySem.W.Frag} {ta tb : TE} {σ : L2.St} {H : Hp} {Q : VK} (k : ta σ H fun x H1 => ∃ k, TruV K x H1 k ∧ if k = true then Q x H1 else tb σ H1 Q) : tOrT K ta tb σ H Q := k
theorem wCut {t u : TS} {D : Ends} {σ : L2.St} {H : Hp} (Mid : L2.St → Hp → Prop) (h : t { D with nx := Mid } σ H) (k : ∀ σ' H', Mid σ' H' → u D σ' H') : C8.tCut t u D σ H := ⟨Mid, h, k⟩
/-- == of things at any depth, by their data -/
theorem wNeD {K : PySem.W.Frag} {H : Hp} {Q : VK} {x y : V} {d e : PyData} (h1 : Dp K H x d) (h2 : Dp K H y e) (s1 : SeqAt.shaped d = true) (s2 : SeqAt.shaped e = true) (k : Q (.bl (!PyData.eqv d e)) H) : rNeD K x y H Q := ⟨d, e, h1, h2, s1, s2, k⟩
theorem wEqD {K : PySem.W.Frag} {H : Hp} {Q : VK} {x y : V} {d e : PyData} (h1 : Dp K H x d) (h2 : Dp K H y e) (s1 : SeqAt.shaped d = true) (s2 : SeqAt.shaped e = true) (k : Q (.bl (PyData.eqv d e)) H) : rEqD K x y H Q := ⟨d, e, h1, h2, s1, s2, k⟩
theorem dpPair {K : PySem.W.Frag} {H : Hp} {a : Addr} {p q : Int} (h : H a = some (.tup [.int p, .int q])) : Dp K H (.ref a) (.tuple [.int p, .int q]) := .tup (SqT.of h) (.cons (.int p) (.cons (.int q) .nil))
theorem eqvPair (p q : Int) : PyData.eqv (.tuple [.int p, .int q]) (.tuple [.int p, .int q]) = true := by
  rw [SeqAt.eqv_refl]
  rfl
/-! ### the library's rules with the written part named (in a comprehension's block it must not hang on the block) -/
section
variable {X : Cx} {K : PySem.W.Frag}
theorem ix_listV (h : X.K = K) : IxR X (rIxL K) := h ▸ ix_list
theorem ix_tupV (h : X.K = K) : IxR X (rIxT K) := h ▸ ix_tup
theorem sl_listV (h : X.K = K) : SlR X (rSlL K) := h ▸ sl_list
theorem sl_tupV (h : X.K = K) : SlR X (rSlA K) := h ▸ sl_tupA
theorem call_isiV (h : X.K = K) : CallR X (.builtin "isinstance") (rIsi K) := h ▸ call_isi
theorem call_lenV (h : X.K = K) : CallR X (.builtin "len") (fun xs H Q => ∃ x n, xs = [x] ∧ LenV K x H n ∧ Q (.int n) H) := h ▸ call_len
theorem cr_allV (h : X.K = K) (hc : X.calm = true) : CallR X (.builtin "all") (rAll K) := h ▸ cr_all hc
theorem cr_anyV (h : X.K = K) (hc : X.calm = true) : CallR X (.builtin "any") (rAny K) := h ▸ cr_any hc
theorem op_in_seqV (h : X.K = K) : OpR X (compareOp .In) (rIn K false) := h ▸ op_in_seq
theorem op_notIn_seqV (h : X.K = K) : OpR X (compareOp .NotIn) (rIn K true) := h ▸ op_notIn_seq
theorem op_eqDV (h : X.K = K) (hu : X.A.units + 64 < cLine) : OpR X (compareOp .Eq) (rEqD K) := h ▸ op_eqD hu
theorem op_neDV (h : X.K = K) (hu : X.A.units + 64 < cLine) : OpR X (compareOp .NotEq) (rNeD K) := h ▸ op_neD hu
theorem op_catTV (h : X.K = K) : OpR X (binaryOp .Add) (rCatA K) := h ▸ op_catA
theorem op_repTV (h : X.K = K) : OpR X (binaryOp .Mult) (rRepT K) := h ▸ op_repT
theorem pi_listV {tg l : Expr} {tl : TE} (h : X.K = K) (hl : PE X l tl) : PI X tg l (iList K tl) := h ▸ pi_list hl
theorem pi_tupV {tg l : Expr} {tl : TE} (h : X.K = K) (hl : PE X l tl) : PI X tg l (iTup K tl) := h ▸ pi_tup hl
theorem pg_tupV {es : List Expr} {k n : Nat} {t : TGs} {pos : Pos} (hK : X.K = K) (hc : X.calm = true) (h : PGs X es t)
    (hn : (assignEach es X.env).length = n) (hst : (assignEach es X.env).findIdx? (·.1) = none := by rfl) : PG X (.Tuple es k pos) (gTup K n t) := hK ▸ pg_tup hc h hn hst
end
section
variable {X : Cx} {CX : CXT} {k n : Nat} {f : Addr} {fd : FuncData} {ps ks : List Str} {sp : Sp} {E : XK} {x : Str} {p pos : Pos} {e : Expr} {es : List Expr} {kws : List Keyword} {t tk : TA} {g : List Value → List Value → List Value} {gV : List V → List V → List V}
/-- f(k = v, ..), by names alone -/
theorem pe_callN0 (F : FnOk X.prog X.w X.K X.mg X.base CX k f fd ps sp) (hr : Room k X.A) (hg : Gl X x) (hm : X.mg x = some (.ref f)) (hk : PySem.W.keepIn X.K (.ref f) = true) (hb : KBn X.K fd ps 0 ks g gV) (hx : Passes CX X E)
    (hkw : PK X kws tk) (hall : (backToKw pos (keywordEach kws X.env)).all (·.1.isSome) = true := by rfl) (hks : (backToKw pos (keywordEach kws X.env)).filterMap (·.1) = ks := by rfl)
    (hdb : (x == ("__debug__" : Str)) = false := by decide)
    (hpl : ((backTo pos (starEach [] X.env)).any (·.1) || (backToKw pos (keywordEach kws X.env)).any (·.1.isNone)) = false := by rfl) :
    PE X (.Call (.Name x p) [] kws pos) (tCallN 0 ks.length sp gV E tNil tk) := by
  refine ⟨fun pins s σ H Q I h => ?_⟩
  refine wpAny_Call_Name_kw (ld_glob I hg hm ?_ hdb)
  refine PySem.W.callWith_KW0 (h₀ := X.base) I.ok.mod.kin hk hall ?_ hpl
  have h : tk σ H fun zs H2 => ([] : List V).length = 0 ∧ zs.length = ks.length ∧ sp (gV [] zs) H2 Q E := h
  refine thn (hkw.run pos pins s σ H _ I h) fun ws s2 ⟨zs, H2, I2, rz, l1, l2, q2⟩ => ⟨I2.kIn, ?_⟩
  rw [hks]
  exact run_fnN (us := []) F hr hb hx I2 .nil rz l1 l2 q2
theorem wCallN {n m : Nat} {σ : L2.St} {H : Hp} {Q : VK} (k : t σ H fun vs H1 => tk σ H1 fun zs H2 => vs.length = n ∧ zs.length = m ∧ sp (gV vs zs) H2 Q E) : tCallN n m sp gV E t tk σ H Q := k
end
/-- the values named in another turn: by the parameters' order -/
def pick {α : Type} (ks : List Nat) (zs : List α) : List α := ks.filterMap fun k => zs[k]?
theorem pick_rel {zs : List V} {ws : List Value} (r : Vals zs ws) : ∀ ks : List Nat, Vals (pick ks zs) (pick ks ws)
  | [] => .nil
  | k :: ks => by
    unfold pick
    cases e : zs[k]? with
    | none =>
      rw [List.filterMap_cons_none e, List.filterMap_cons_none (r.none_of e)]
      exact pick_rel r ks
    | some x =>
      obtain ⟨u, hu, ru⟩ := r.get e
      rw [List.filterMap_cons_some e, List.filterMap_cons_some hu]
      exact .cons ru (pick_rel r ks)
/-- a call by names of a def with defaults (none of them by name alone) -/
theorem kbnD {K : PySem.W.Frag} {x qual : Str} {params : Arguments} {body : List Stmt} {scope : Scope} {dvs : List V} {f : Addr} {fd : FuncData} {ps : List Str} (F : FunD K x qual params body scope dvs [] f fd) (n : Nat) (ks : List Str)
    (g : {α : Type} → List α → List α → List α → List α) (hd : dvs ≠ []) (hrel : ∀ {vs ds zs : List V} {us its ws : List Value}, Vals vs us → Vals ds its → Vals zs ws → Vals (g vs ds zs) (g us its ws))
    (h : ∀ (T : Addr) (kV doc pm : Value) (an : Option Addr) (cdv ct : Value) (us its ws : List Value), us.length = n → its.length = dvs.length → ws.length = ks.length →
      ∃ k, bindArgs (PySem.W.fnOf x qual params body scope (.ref T) kV doc pm an cdv ct) ⟨us, ks.zip ws⟩ = seqItems? (.ref T) >>= k ∧ k (some its.toArray) = pure (ps.zip (g us its ws))) :
    ∃ its : List Value, KBn K fd ps n ks (fun us ws => g us its ws) (fun vs zs => g vs dvs zs) := by
  obtain ⟨oc, od, dV, kV, doc, pm, an, cdv, ct, osl, rfl, lk, hcd, hD, hK⟩ := F.ex
  rcases hD with ⟨e, _⟩ | ⟨_, T, o, its, m, rfl, lT, oT, rT⟩
  · exact absurd e hd
  · refine ⟨its, fun s us ws X l1 l2 => ?_, fun r1 r2 => hrel r1 rT r2⟩
    obtain ⟨k, e1, e2⟩ := h T kV doc pm an cdv ct us its ws l1 rT.length.symm l2
    refine BindsTo.of_looks fun M => ?_
    rw [e1]
    exact looks_items X lT oT (.of_pure e2)
/-- all of its parameters by place -/
theorem bndD {K : PySem.W.Frag} {x qual : Str} {params : Arguments} {body : List Stmt} {scope : Scope} {dvs : List V} {f : Addr} {fd : FuncData} {ps : List Str} (F : FunD K x qual params body scope dvs [] f fd) (hd : dvs ≠ [])
    (h : ∀ (T : Addr) (kV doc pm : Value) (an : Option Addr) (cdv ct : Value) (us its : List Value), us.length = ps.length → its.length = dvs.length →
      ∃ k, bindArgs (PySem.W.fnOf x qual params body scope (.ref T) kV doc pm an cdv ct) ⟨us, []⟩ = seqItems? (.ref T) >>= k ∧ k (some its.toArray) = pure (ps.zip (us ++ its.drop dvs.length))) : Binds K fd ps [] := by
  obtain ⟨ds, r, b⟩ := F.binds1 ps.length dvs.length hd (by omega) h
  rw [List.drop_length] at r
  cases r
  exact b
/-! ### isinstance -/
/-- a value's type by its name -/
inductive Ty (K : PySem.W.Frag) (H : Hp) : V → String → Prop where
  | non : Ty K H .non "NoneType"
  | bl (x : Bool) : Ty K H (.bl x) "bool"
  | int (i : Int) : Ty K H (.int i) "int"
  | str (x : Str) : Ty K H (.str x) "str"
  | lst {a : Addr} {xs : List V} (e : H a = some (.lst xs)) : Ty K H (.ref a) "list"
  | tup {a : Addr} {xs : List V} (e : H a = some (.tup xs)) : Ty K H (.ref a) "tuple"
  | dK {a : Addr} {kvs : List (Key × V)} (e : H a = some (.dK kvs)) : Ty K H (.ref a) "dict"
  | kT {a : Addr} {o : Obj} (e : K.lookup a = some o) (c : o.cls = .type "tuple") : Ty K H (.ref a) "tuple"
theorem Ty.x {K : PySem.W.Frag} {H : Hp} {v : V} {n : String} (h : Ty K H v n) : TyX K H v (.type n) := by
  cases h with
  | non => exact .base .non
  | bl x => exact .base (.bl x)
  | int x => exact .base (.int x)
  | str x => exact .base (.str x)
  | lst e => exact .base (.lst e)
  | tup e => exact .base (.tup e)
  | dK e => exact .base (.dK e)
  | kT e c => exact .kTuple e c
theorem Ty.ex {K : PySem.W.Frag} {H H' : Hp} {v : V} {n : String} (x : Ex H H') (h : Ty K H v n) : Ty K H' v n := by
  cases h with
  | non => exact .non
  | bl x => exact .bl x
  | int x => exact .int x
  | str x => exact .str x
  | lst e => exact .lst (x _ _ e)
  | tup e => exact .tup (x _ _ e)
  | dK e => exact .dK (x _ _ e)
  | kT e c => exact .kT e c
theorem wIsi {K : PySem.W.Frag} {H : Hp} {Q : VK} {v : V} {n T : String} {b : Bool} (h : Ty K H v n) (hb : kitB n T = some b) (k : Q (.bl b) H) : rIsi K [v, .ty T] H Q :=
  ⟨v, .ty T, .type n, .type T, b, rfl, .ty T, h.x, kit_ty hb, k⟩


theorem iteNT {A B : Prop} (h : B) : if (!true) = true then A else B := h
theorem iteNF {A B : Prop} (h : A) : if (!false) = true then A else B := h
def isStr : V → Bool
  | .str _ => true
  | _ => false
theorem Ty.str_is {K : PySem.W.Frag} {H : Hp} {v : V} {n : String} (h : Ty K H v n) : kitB n "str" = some (isStr v) := by
  have e1 : kitB "NoneType" "str" = some false := by decide +kernel
  have e2 : kitB "bool" "str" = some false := by decide +kernel
  have e3 : kitB "int" "str" = some false := by decide +kernel
  have e4 : kitB "str" "str" = some true := by decide +kernel
  have e5 : kitB "list" "str" = some false := by decide +kernel
  have e6 : kitB "tuple" "str" = some false := by decide +kernel
  have e7 : kitB "dict" "str" = some false := by decide +kernel
  cases h <;> first | exact e1 | exact e2 | exact e3 | exact e4 | exact e5 | exact e6 | exact e7
theorem wIsiS {K : PySem.W.Frag} {H : Hp} {Q : VK} {z : Str} (k : Q (.bl true) H) : rIsi K [.str z, .ty "str"] H Q := wIsi (.str z) (by decide +kernel) k
theorem wIsiB {K : PySem.W.Frag} {H : Hp} {Q : VK} {b : Bool} (k : Q (.bl true) H) : rIsi K [.bl b, .ty "bool"] H Q := wIsi (.bl b) (by decide +kernel) k

/-- a thing whose kind is known, a text not too long -/
structure Thing (K : PySem.W.Frag) (H : Hp) (v : V) : Prop where
  ty : ∃ n, Ty K H v n
  sz : ∀ z, v = .str z → z.length ≤ 1000
theorem Thing.ex {K : PySem.W.Frag} {H H' : Hp} {v : V} (e : Ex H H') (t : Thing K H v) : Thing K H' v := ⟨let ⟨n, h⟩ := t.ty; ⟨n, h.ex e⟩, t.sz⟩
section
variable {K : PySem.W.Frag}
theorem Thing.s {z : Str} {H : Hp} (h : z.length ≤ 1000) : Thing K H (.str z) := ⟨⟨_, .str z⟩, fun y e => by cases e; exact h⟩
theorem Thing.i {i : Int} {H : Hp} : Thing K H (.int i) := ⟨⟨_, .int i⟩, fun y e => by cases e⟩
theorem Thing.b {b : Bool} {H : Hp} : Thing K H (.bl b) := ⟨⟨_, .bl b⟩, fun y e => by cases e⟩
theorem Thing.n {H : Hp} : Thing K H .non := ⟨⟨_, .non⟩, fun y e => by cases e⟩
theorem Thing.t {H : Hp} {a : Addr} {xs : List V} (h : H a = some (.tup xs)) : Thing K H (.ref a) := ⟨⟨_, .tup h⟩, fun y e => by cases e⟩
theorem Thing.l {H : Hp} {a : Addr} {xs : List V} (h : H a = some (.lst xs)) : Thing K H (.ref a) := ⟨⟨_, .lst h⟩, fun y e => by cases e⟩
theorem Thing.d {H : Hp} {a : Addr} {kvs : List (Key × V)} (h : H a = some (.dK kvs)) : Thing K H (.ref a) := ⟨⟨_, .dK h⟩, fun y e => by cases e⟩
end

/-! ### loops and comprehensions -/
/-- what a comprehension's reading asks behind its source -/
abbrev LcG (J : It) (g : TG) (tt : TT) (te : TE) (vs : List Nat) (σ : L2.St) (H1 : Hp) (Q : VK) (D : Addr) : Prop :=
  ∃ W : Nat → Nat → Hp → Prop, (∃ m, W 0 m (upd H1 D (.lst []))) ∧ ∀ i m H, W i m H →
    (J.stop i H ∧ Q (.ref D) H) ∨ (J.go i H ∧ ∃ Nx : Hp → Prop, (∀ H', Nx H' → ∃ m', m' < m ∧ W (i + 1) m' H') ∧ ∀ x H', J.yld i H x H' → g x (wipe σ vs) H' fun σ2 H2 => wipe σ2 vs = wipe σ vs ∧ tt σ2 H2 fun b H3 =>
      if b = true then te σ2 H3 fun y H4 => ∃ acc, H4 D = some (.lst acc) ∧ acc.length < sizeLine ∧ Nx (upd H4 D (.lst (acc ++ [y]))) else Nx H3)
abbrev ForG (J : It) (g : TG) (tb : TS) (D : Ends) (σ : L2.St) (H1 : Hp) : Prop :=
  ∃ W : Nat → Nat → L2.St → Hp → Prop, (∃ m, W 0 m σ H1) ∧ ∀ i m σ H, W i m σ H →
    (J.stop i H ∧ D.nx σ H) ∨ (J.go i H ∧ ∃ N : L2.St → Hp → Prop, (∀ σ' H', N σ' H' → ∃ m', m' < m ∧ W (i + 1) m' σ' H') ∧ ∀ x H', J.yld i H x H' → g x σ H' fun σ2 H2 => tb { D with nx := N, ct := N, bk := D.nx } σ2 H2)
section
variable {K : PySem.W.Frag} {wi : TI} {g : TG} {tt : TT} {te tl : TE} {tb : TS} {vs : List Nat} {σ : L2.St} {H H1 : Hp} {Q : VK} {E : Ends} {D : Addr} {ta : TA}
theorem wLc (k : wi σ H fun J H1 => ∀ D, H1 D = none → LcG J g tt te vs σ H1 Q D) : tLc wi g tt te vs σ H Q := k
theorem wFor (k : wi σ H fun J H1 => ForG J g tb E σ H1) : tFor wi g tb E σ H := k
variable {R : It → Hp → Prop}
theorem wIList (k : tl σ H fun x H1 => ∃ a, x = .ref a ∧ (∃ xs, SqL K H1 a xs) ∧ R (Itl K a) H1) : iList K tl σ H R := k
theorem wITup (k : tl σ H fun x H1 => ∃ a, x = .ref a ∧ (∃ xs, SqT K H1 a xs) ∧ R (Itt K a) H1) : iTup K tl σ H R := k
theorem wIStr (k : tl σ H fun x H1 => ∃ z, x = .str z ∧ R (Its z) H1) : iStr tl σ H R := k
theorem wIRng1 (k : ta σ H fun vs H1 => ∃ j : Int, vs = [.int j] ∧ -(2 ^ 62) ≤ j ∧ j < 2 ^ 62 ∧ R (Itr 0 j.toNat) H1) : iRng1 ta σ H R := k
theorem exSq {p : Addr} {xs : List V} {P : Addr → Prop} (h : SqL K H p xs) (k : P p) : ∃ a, V.ref p = V.ref a ∧ (∃ xs, SqL K H a xs) ∧ P a := ⟨p, rfl, ⟨xs, h⟩, k⟩
theorem exSt {p : Addr} {xs : List V} {P : Addr → Prop} (h : SqT K H p xs) (k : P p) : ∃ a, V.ref p = V.ref a ∧ (∃ xs, SqT K H a xs) ∧ P a := ⟨p, rfl, ⟨xs, h⟩, k⟩
theorem exRng {n : Int} {P : Int → Prop} (h0 : -1000000 ≤ n) (h1 : n ≤ 1000000) (k : P n) : ∃ j : Int, [V.int n] = [V.int j] ∧ -(2 ^ 62) ≤ j ∧ j < 2 ^ 62 ∧ P j := ⟨n, rfl, by omega, by omega, k⟩

/-- over a text -/
theorem lc_str {z : Str} {Qd : Hp → Prop} (Pv : Nat → Hp → Prop) (h0 : Pv 0 (upd H1 D (.lst [])))
    (hs : ∀ i c H, z.cps[i]? = some c → Pv i H → g (.str ⟨#[c]⟩) (wipe σ vs) H fun σ2 H2 => wipe σ2 vs = wipe σ vs ∧ tt σ2 H2 fun b H3 =>
      if b = true then te σ2 H3 fun y H4 => ∃ acc, H4 D = some (.lst acc) ∧ acc.length < sizeLine ∧ Pv (i + 1) (upd H4 D (.lst (acc ++ [y]))) else Pv (i + 1) H3) (hd : ∀ H, Pv z.cps.size H → Qd H) :
    ∃ W : Nat → Nat → Hp → Prop, (∃ m, W 0 m (upd H1 D (.lst []))) ∧ ∀ i m H, W i m H →
      ((Its z).stop i H ∧ Qd H) ∨ ((Its z).go i H ∧ ∃ Nx : Hp → Prop, (∀ H', Nx H' → ∃ m', m' < m ∧ W (i + 1) m' H') ∧ ∀ x H', (Its z).yld i H x H' → g x (wipe σ vs) H' fun σ2 H2 => wipe σ2 vs = wipe σ vs ∧ tt σ2 H2 fun b H3 =>
        if b = true then te σ2 H3 fun y H4 => ∃ acc, H4 D = some (.lst acc) ∧ acc.length < sizeLine ∧ Nx (upd H4 D (.lst (acc ++ [y]))) else Nx H3) := by
  refine ⟨fun i m H => m = z.cps.size - i ∧ i ≤ z.cps.size ∧ Pv i H, ⟨z.cps.size, by simp, Nat.zero_le _, h0⟩, ?_⟩
  rintro i m H ⟨rfl, hi, p⟩
  by_cases hlt : i < z.cps.size
  · refine .inr ⟨hlt, Pv (i + 1), fun H' p' => ⟨z.cps.size - (i + 1), by omega, rfl, hlt, p'⟩, fun x H' y => ?_⟩
    obtain ⟨e, c, hc, rfl⟩ := y
    subst e
    exact hs i c _ hc p
  · have e : i = z.cps.size := by omega
    subst e
    exact .inl ⟨Nat.le_refl _, hd H p⟩
/-- the list that a comprehension has made so far: i items, each as R says, the heap as I says -/
structure LcP (I : Hp → Prop) (R : Nat → V → Hp → Prop) (D : Addr) (i : Nat) (H : Hp) : Prop where
  inv : I H
  made : ∃ acc, H D = some (.lst acc) ∧ acc.length = i ∧ ∀ j y, acc[j]? = some y → R j y H
theorem LcP.start {I : Hp → Prop} {R : Nat → V → Hp → Prop} (h : I (upd H1 D (.lst []))) : LcP I R D 0 (upd H1 D (.lst [])) := ⟨h, [], upd_same, rfl, fun j y e => by simp at e⟩
theorem LcP.next {I : Hp → Prop} {R : Nat → V → Hp → Prop} {i : Nat} {y : V} {acc : List V} (hD : H1 D = some (.lst acc)) (hl : acc.length = i) (hi : I (upd H1 D (.lst (acc ++ [y])))) (hR : ∀ j z, acc[j]? = some z → R j z (upd H1 D (.lst (acc ++ [y])))) (hy : R i y (upd H1 D (.lst (acc ++ [y])))) :
    LcP I R D (i + 1) (upd H1 D (.lst (acc ++ [y]))) := by
  refine ⟨hi, acc ++ [y], upd_same, by simp [hl], fun j z e => ?_⟩
  by_cases hj : j < acc.length
  · rw [List.getElem?_append_left hj] at e
    exact hR j z e
  · rw [List.getElem?_append_right (by omega)] at e
    have h0 : j - acc.length = 0 := by
      cases q : j - acc.length with
      | zero => rfl
      | succ n => rw [q] at e; simp at e
    rw [h0] at e
    have e1 : y = z := by simpa using e
    have e2 : j = i := by omega
    rw [← e1, e2]
    exact hy
theorem lcStr {z : Str} {slot : Nat} (I : Hp → Prop) (R : Nat → V → Hp → Prop) (hz : z.cps.size ≤ 100000) (hw : ∀ c, wipe ((wipe σ vs).set slot (some c)) vs = wipe σ vs) (h0 : I (upd H1 D (.lst [])))
    (hs : ∀ i c, z.cps[i]? = some c → ∀ H acc, I H → H D = some (.lst acc) → acc.length = i → (∀ j y, acc[j]? = some y → R j y H) →
      te ((wipe σ vs).set slot (some (.str ⟨#[c]⟩))) H fun y H' => ∃ acc', H' D = some (.lst acc') ∧ acc'.length < sizeLine ∧ LcP I R D (i + 1) (upd H' D (.lst (acc' ++ [y]))))
    (k : ∀ H ys, I H → H D = some (.lst ys) → ys.length = z.cps.size → (∀ j y, ys[j]? = some y → R j y H) → Q (.ref D) H) : LcG (Its z) (gName slot) tYes te vs σ H1 Q D := by
  refine lc_str (LcP I R D) (.start h0) (fun i c H hc P => ?_) (fun H P => ?_)
  · obtain ⟨hI, acc, hD, hl, hR⟩ := P
    exact ⟨hw _, hs i c hc H acc hI hD hl hR⟩
  · obtain ⟨hI, acc, hD, hl, hR⟩ := P
    exact k H acc hI hD hl hR
theorem lcList {a : Addr} {xs : List V} {slot : Nat} (I : Hp → Prop) (R : Nat → V → Hp → Prop) (hw : ∀ c, wipe ((wipe σ vs).set slot (some c)) vs = wipe σ vs) (h0 : I (upd H1 D (.lst []))) (hS : ∀ H, I H → SqL K H a xs)
    (hs : ∀ i x, xs[i]? = some x → ∀ H acc, I H → H D = some (.lst acc) → acc.length = i → (∀ j y, acc[j]? = some y → R j y H) →
      te ((wipe σ vs).set slot (some x)) H fun y H' => ∃ acc', H' D = some (.lst acc') ∧ acc'.length < sizeLine ∧ LcP I R D (i + 1) (upd H' D (.lst (acc' ++ [y]))))
    (k : ∀ H ys, I H → H D = some (.lst ys) → ys.length = xs.length → (∀ j y, ys[j]? = some y → R j y H) → Q (.ref D) H) : LcG (Itl K a) (gName slot) tYes te vs σ H1 Q D := by
  refine lc_list (K := K) (a := a) (xs := xs) (LcP I R D) (.start h0) (fun i H _ P => hS H P.inv) (fun i x H hx P => ?_) (fun H P => ?_)
  · obtain ⟨hI, acc, hD, hl, hR⟩ := P
    exact ⟨hw _, hs i x hx H acc hI hD hl hR⟩
  · obtain ⟨hI, acc, hD, hl, hR⟩ := P
    exact k H acc hI hD hl hR
theorem lcListG {a : Addr} {xs : List V} (I : Hp → Prop) (R : Nat → V → Hp → Prop) (h0 : I (upd H1 D (.lst []))) (hS : ∀ H, I H → SqL K H a xs)
    (hs : ∀ i x, xs[i]? = some x → ∀ H acc, I H → H D = some (.lst acc) → acc.length = i → (∀ j y, acc[j]? = some y → R j y H) →
      g x (wipe σ vs) H fun σ2 H2 => wipe σ2 vs = wipe σ vs ∧ te σ2 H2 fun y H' => ∃ acc', H' D = some (.lst acc') ∧ acc'.length < sizeLine ∧ LcP I R D (i + 1) (upd H' D (.lst (acc' ++ [y]))))
    (k : ∀ H ys, I H → H D = some (.lst ys) → ys.length = xs.length → (∀ j y, ys[j]? = some y → R j y H) → Q (.ref D) H) : LcG (Itl K a) g tYes te vs σ H1 Q D := by
  refine lc_list (K := K) (a := a) (xs := xs) (LcP I R D) (.start h0) (fun i H _ P => hS H P.inv) (fun i x H hx P => ?_) (fun H P => ?_)
  · obtain ⟨hI, acc, hD, hl, hR⟩ := P
    exact hs i x hx H acc hI hD hl hR
  · obtain ⟨hI, acc, hD, hl, hR⟩ := P
    exact k H acc hI hD hl hR
theorem lcTup {a : Addr} {xs : List V} {slot : Nat} (I : Hp → Prop) (R : Nat → V → Hp → Prop) (hw : ∀ c, wipe ((wipe σ vs).set slot (some c)) vs = wipe σ vs) (h0 : I (upd H1 D (.lst []))) (hS : ∀ H, I H → SqT K H a xs)
    (hs : ∀ i x, xs[i]? = some x → ∀ H acc, I H → H D = some (.lst acc) → acc.length = i → (∀ j y, acc[j]? = some y → R j y H) →
      te ((wipe σ vs).set slot (some x)) H fun y H' => ∃ acc', H' D = some (.lst acc') ∧ acc'.length < sizeLine ∧ LcP I R D (i + 1) (upd H' D (.lst (acc' ++ [y]))))
    (k : ∀ H ys, I H → H D = some (.lst ys) → ys.length = xs.length → (∀ j y, ys[j]? = some y → R j y H) → Q (.ref D) H) : LcG (Itt K a) (gName slot) tYes te vs σ H1 Q D := by
  refine lc_tup (K := K) (a := a) (xs := xs) (LcP I R D) (.start h0) (fun i H _ P => hS H P.inv) (fun i x H hx P => ?_) (fun H P => ?_)
  · obtain ⟨hI, acc, hD, hl, hR⟩ := P
    exact ⟨hw _, hs i x hx H acc hI hD hl hR⟩
  · obtain ⟨hI, acc, hD, hl, hR⟩ := P
    exact k H acc hI hD hl hR
theorem lcRng {n : Nat} {slot : Nat} (I : Hp → Prop) (R : Nat → V → Hp → Prop) (hw : ∀ c, wipe ((wipe σ vs).set slot (some c)) vs = wipe σ vs) (h0 : I (upd H1 D (.lst [])))
    (hs : ∀ i, i < n → ∀ H acc, I H → H D = some (.lst acc) → acc.length = i → (∀ j y, acc[j]? = some y → R j y H) →
      te ((wipe σ vs).set slot (some (.int (0 + i)))) H fun y H' => ∃ acc', H' D = some (.lst acc') ∧ acc'.length < sizeLine ∧ LcP I R D (i + 1) (upd H' D (.lst (acc' ++ [y]))))
    (k : ∀ H ys, I H → H D = some (.lst ys) → ys.length = n → (∀ j y, ys[j]? = some y → R j y H) → Q (.ref D) H) : LcG (Itr 0 n) (gName slot) tYes te vs σ H1 Q D := by
  refine lc_range (lo := 0) (n := n) (LcP I R D) (.start h0) (fun i H hx P => ?_) (fun H P => ?_)
  · obtain ⟨hI, acc, hD, hl, hR⟩ := P
    exact ⟨hw _, hs i hx H acc hI hD hl hR⟩
  · obtain ⟨hI, acc, hD, hl, hR⟩ := P
    exact k H acc hI hD hl hR
theorem lcAdd {I : Hp → Prop} {R : Nat → V → Hp → Prop} {i : Nat} {y : V} {acc : List V} (hD : H1 D = some (.lst acc)) (hl : acc.length = i) (hi : i ≤ 100000) (hI : I (upd H1 D (.lst (acc ++ [y])))) (hR : ∀ j z, acc[j]? = some z → R j z (upd H1 D (.lst (acc ++ [y])))) (hy : R i y (upd H1 D (.lst (acc ++ [y])))) :
    ∃ acc', H1 D = some (.lst acc') ∧ acc'.length < sizeLine ∧ LcP I R D (i + 1) (upd H1 D (.lst (acc' ++ [y]))) := ⟨acc, hD, sz6' (by omega), .next hD hl hI hR hy⟩
end

theorem at_ex {α : Type} {xs : List α} {i : Int} (h0 : 0 ≤ i) (h1 : i < xs.length) : ∃ v, atI xs i = some v ∧ v ∈ xs := by
  have h : i.toNat < xs.length := by omega
  refine ⟨xs[i.toNat], ?_, List.getElem_mem h⟩
  have e : ((i.toNat : Nat) : Int) = i := by omega
  have q := atI_nat (xs := xs) (j := i.toNat) (List.getElem?_eq_getElem h)
  rw [e] at q
  exact q
theorem join_cps : ∀ ys : List Str, (Str.join ⟨#[]⟩ ys).cps.toList = (ys.map fun y => y.cps.toList).flatten
  | [] => rfl
  | [x] => by
    show x.cps.toList = _
    simp
  | x :: y :: r => by
    show ((x.cps ++ #[]) ++ (Str.join ⟨#[]⟩ (y :: r)).cps).toList = _
    rw [Array.toList_append, join_cps (y :: r)]
    simp
/-- texts of one sign, joined -/
theorem join_ones {ys : List V} {P : Nat → Prop} (h : ∀ (j : Nat) y, ys[j]? = some y → ∃ c, P c ∧ y = .str ⟨#[c]⟩) : ∃ cs : List Nat, cs.length = ys.length ∧ (∀ c ∈ cs, P c) ∧ ys = (cs.map fun c => (⟨#[c]⟩ : Str)).map V.str := by
  induction ys with
  | nil => exact ⟨[], rfl, List.forall_mem_nil _, rfl⟩
  | cons y r ih =>
    obtain ⟨c, hc, rfl⟩ := h 0 y rfl
    obtain ⟨cs, h1, h2, h3⟩ := ih fun j z e => h (j + 1) z e
    refine ⟨c :: cs, congrArg Nat.succ h1, fun d hd => ?_, ?_⟩
    · rcases List.mem_cons.mp hd with e | hd
      · rw [e]; exact hc
      · exact h2 d hd
    · rw [h3]
      rfl
theorem ones_cps (cs : List Nat) : (Str.join ⟨#[]⟩ (cs.map fun c => (⟨#[c]⟩ : Str))).cps.toList = cs := by
  rw [join_cps]
  induction cs with
  | nil => rfl
  | cons c r ih =>
    simp only [List.map_cons, List.flatten_cons] at ih ⊢
    rw [ih]
    rfl
theorem ones_sum (cs : List Nat) : ((cs.map fun c => (⟨#[c]⟩ : Str)).map (·.length)).sum = cs.length := by
  induction cs with
  | nil => rfl
  | cons c r ih =>
    simp only [List.map_cons, List.sum_cons] at ih ⊢
    rw [ih]
    show 1 + r.length = r.length + 1
    omega
theorem app_len (x y : Str) : (x ++ y).length = x.length + y.length := by
  show (x.cps ++ y.cps).size = x.cps.size + y.cps.size
  exact Array.size_append
theorem rep_len {u z : Str} {n : Nat} (h : u.cps.toList = (List.replicate n z.cps.toList).flatten) : u.length = n * z.length := by
  show u.cps.size = n * z.cps.size
  rw [← Array.length_toList, h, List.length_flatten, List.map_replicate, List.sum_replicate_nat, Array.length_toList]
theorem all_true {ys : List V} (h : ∀ (j : Nat) y, ys[j]? = some y → y = .bl true) : ∃ bs : List Bool, ys = bs.map V.bl ∧ bs.all id = true := by
  refine ⟨ys.map fun _ => true, ?_, by simp⟩
  rw [List.map_map]
  refine List.ext_getElem? fun j => ?_
  rw [List.getElem?_map]
  cases e : ys[j]? with
  | none => rfl
  | some y => rw [h j y e]; rfl
end Ver
/-! Rules for laws about deeds and books: a tuple beside the empty one, displays of dicts, zips. -/
namespace Ver
open PySem PySem.Spec PyProof.Rows L2
/-- t == (), t any tuple -/
def rEqE (K : PySem.W.Frag) : R2 := fun x y H Q => ∃ a b xs, x = .ref a ∧ y = .ref b ∧ SqT K H a xs ∧ SqT K H b [] ∧ Q (.bl (decide (xs = []))) H
theorem op_eqEV {X : Cx} {K : PySem.W.Frag} (hK : X.K = K) (hu : X.A.units + 64 < cLine) : OpR X (compareOp .Eq) (rEqE K) := by
  subst hK
  intro pins s σ H x y v u Q I rx ry h
  obtain ⟨a, b, xs, rfl, rfl, ha, hb, q⟩ := h
  cases rx
  cases ry
  obtain ⟨its, r1, p1, _⟩ := I.tuple ha
  obtain ⟨its2, r2, p2, _⟩ := I.tuple hb
  cases r2
  refine SeqAt.eq_tupleAt (e := fun _ => true) p1 p2 (by omega) (fun j _ h2 => absurd h2 (by simp)) ⟨.bl (decide (xs = [])), H, I, ?_, q⟩
  have hl := r1.length
  show Value.bool _ = Value.bool _
  congr 1
  cases xs with
  | nil =>
    cases r1
    rfl
  | cons z zs =>
    cases r1 with
    | cons _ _ => simp
theorem call_list_ofV {X : Cx} {K : PySem.W.Frag} (h : X.K = K) : CallR X (.type "list") (fun xs H Q => ∃ p ys, xs = [.ref p] ∧ (SqL K H p ys ∨ SqT K H p ys) ∧ ∀ l, H l = none → Q (.ref l) (upd H l (.lst ys))) := h ▸ call_list_of
theorem call_tuple_ofV {X : Cx} {K : PySem.W.Frag} (h : X.K = K) : CallR X (.type "tuple") (fun xs H Q => ∃ p ys, xs = [.ref p] ∧ ((SqL K H p ys ∧ ∀ l, H l = none → Q (.ref l) (upd H l (.tup ys))) ∨ (SqT K H p ys ∧ Q (.ref p) H))) := h ▸ call_tuple_of
section
variable {K : PySem.W.Frag} {σ : L2.St} {H : Hp} {Q : VK} {td ty te : TE} {trs : List (TE × TE)}
theorem wDGet (k : td σ H fun x H1 => ty σ H1 fun y H2 => ∃ a v, x = .ref a ∧ DGet H2 a y (some v) ∧ Q v H2) : tDGet td ty σ H Q := k
theorem wDIn (k : ty σ H fun y H1 => td σ H1 fun x H2 => ∃ a o, x = .ref a ∧ DGet H2 a y o ∧ Q (.bl o.isSome) H2) : tDIn ty td σ H Q := k
theorem wDNotIn (k : ty σ H fun y H1 => td σ H1 fun x H2 => ∃ a o, x = .ref a ∧ DGet H2 a y o ∧ Q (.bl (!o.isSome)) H2) : tDNotIn ty td σ H Q := k
theorem wPairs {P : List (V × V) → Hp → Prop} {tk tv : TE} (k : tk σ H fun x H1 => tv σ H1 fun y H2 => tPairs trs σ H2 fun ps H3 => P ((x, y) :: ps) H3) : tPairs ((tk, tv) :: trs) σ H P := k
theorem wPairs0 {P : List (V × V) → Hp → Prop} (k : P [] H) : tPairs [] σ H P := k
theorem wPar3 {i j l : Nat} {ta : TA} {D : Ends} (k : ta σ H fun vs H1 => ∃ u v w, vs = [u, v, w] ∧ D.nx (((σ.set i (some u)).set j (some v)).set l (some w)) H1) : tPar3 i j l ta D σ H := k
theorem exThree {u v w : V} {P : V → V → V → Prop} (h : P u v w) : ∃ a b c, [u, v, w] = [a, b, c] ∧ P a b c := ⟨u, v, w, rfl, h⟩
theorem wEqE {a b : Addr} {xs : List V} (h : SqT K H a xs) (h0 : SqT K H b []) (k : Q (.bl (decide (xs = []))) H) : rEqE K (.ref a) (.ref b) H Q := ⟨a, b, xs, rfl, rfl, h, h0, k⟩
end
theorem tuple_mul1 (l : Addr) (items : Array Value) (n : Nat) (dd : Option Addr) (sl : Array (Option Value)) (u : Tok) :
    Meets (Builtin.«tuple.__mul__» ⟨[.ref l, .int 1 u], []⟩) (fun _ R s => s.heap.get? l = some { cls := .type "tuple", dict := dd, data := .seq items n, slots := sl } ∧ R (.ok (.ret (Value.ref l))) s) :=
  .of_wp fun prog w A R s h => by
    obtain ⟨hp, g, d, tk, os⟩ := s
    obtain ⟨hl, h⟩ := h
    have f1 := AutoSeq1.idx_int
    wp_walk using wpAny_loadPart' hl
    exact ⟨_, rfl, h⟩
theorem tuple_mul0 (l : Addr) (items : Array Value) (n : Nat) (dd : Option Addr) (sl : Array (Option Value)) (x : Int) (u : Tok) (c0 : (decide (x < -(2 ^ 63)) || decide (x ≥ 2 ^ 63)) = false) (c1 : (items.isEmpty || x == 1) = false) (c2 : (decide (x ≤ 0) || items.isEmpty) = true) :
    Meets (Builtin.«tuple.__mul__» ⟨[.ref l, .int x u], []⟩) (fun _ R s => s.heap.get? l = some { cls := .type "tuple", dict := dd, data := .seq items n, slots := sl } ∧
      R (.ok (.ret (Value.ref s.heap.objs.size))) { s with heap := s.heap.push { cls := Value.type "tuple", data := Data.seq #[] }, toks := s.toks }) :=
  .of_wp fun prog w A R s h => by
    obtain ⟨hp, g, d, tk, os⟩ := s
    obtain ⟨hl, h⟩ := h
    have f1 := AutoSeq1.idx_int
    wp_walk using wpAny_loadPart' hl
    repeat (first
      | (refine wpAny_ite_false (decide_eq_false (by rw [c0]; exact Bool.false_ne_true)) ?_; wp_walk using wpAny_loadPart' hl)
      | (refine wpAny_ite_false (decide_eq_false (by rw [c1]; exact Bool.false_ne_true)) ?_; wp_walk using wpAny_loadPart' hl)
      | (refine wpAny_ite_true (decide_eq_true c2) ?_; wp_walk using wpAny_loadPart' hl))
    exact ⟨_, rfl, h⟩
/-- a tuple once, or not at all -/
def rRepT01 (K : PySem.W.Frag) : R2 := fun x y H Q => ∃ l k xs, x = .ref l ∧ y = .int k ∧ SqT K H l xs ∧ xs ≠ [] ∧ (k = 1 → Q (.ref l) H) ∧ (k = 0 → ∀ p, H p = none → Q (.ref p) (upd H p (.tup []))) ∧ (k = 0 ∨ k = 1)
theorem op_repT01V {X : Cx} {K : PySem.W.Frag} (hK : X.K = K) : OpR X (binaryOp .Mult) (rRepT01 K) := by
  subst hK
  intro pins s σ H x y v u Q I rx ry h
  obtain ⟨l, k, xs, rfl, rfl, hT, hne, q1, q0, hk⟩ := h
  cases rx
  obtain ⟨t, rfl⟩ := ry
  obtain ⟨its, r, ⟨⟨cls, dd, data, sl⟩, ho, hc, n, hd⟩, hs⟩ := I.tuple hT
  simp only at hc hd
  subst hc hd
  have hn : its.toArray.isEmpty = false := by
    cases r with
    | nil => exact absurd rfl hne
    | cons _ _ => rfl
  rcases hk with rfl | rfl
  · refine wpAny_binaryOp_repeat_ref (T := "tuple") (U := "int") (by decide) ⟨_, ho, rfl⟩ (fun s' => typeIs_int s' 0 t) noFill_tuple_mul F.fills_int_mul F.slot_int_rmul repeat_tuple F.slot_int_index.lookup
      (call_meets F.slot_int_rmul (typeIs_int s 0 t) F.entry_int_rmul (F.args_int_rmul_2 _ _) (int_rmul_tuple 0 t l its.toArray n dd sl)
        ⟨ho, rfl, ⟨_, ho, rfl⟩, call_meets F.slot_tuple_mul ⟨_, ho, rfl⟩ F.entry_tuple_mul (F.args_tuple_mul_2 _ _) (tuple_mul0 l its.toArray n dd sl 0 t (by decide) (by rw [hn]; rfl) (by rfl)) ⟨ho, ?_⟩⟩)
    exact ⟨.ref s.heap.objs.size, _, I.laid (t' := s.toks) (o := .tup []) (fun b ob q => Heap.get?_push_of_some _ q) (Nat.le_refl _) ⟨by show 0 ≤ sizeLine; decide, [], .nil, IsTup.new _ _⟩, rfl, q0 rfl _ (I.hok.fresh (Nat.le_refl _))⟩
  · refine wpAny_binaryOp_repeat_ref (T := "tuple") (U := "int") (by decide) ⟨_, ho, rfl⟩ (fun s' => typeIs_int s' 1 t) noFill_tuple_mul F.fills_int_mul F.slot_int_rmul repeat_tuple F.slot_int_index.lookup
      (call_meets F.slot_int_rmul (typeIs_int s 1 t) F.entry_int_rmul (F.args_int_rmul_2 _ _) (int_rmul_tuple 1 t l its.toArray n dd sl)
        ⟨ho, rfl, ⟨_, ho, rfl⟩, call_meets F.slot_tuple_mul ⟨_, ho, rfl⟩ F.entry_tuple_mul (F.args_tuple_mul_2 _ _) (tuple_mul1 l its.toArray n dd sl t) ⟨ho, ?_⟩⟩)
    exact ⟨.ref l, H, I, rfl, q1 rfl⟩
end Ver
/-! t[::-1] of a tuple. -/
namespace Ver
open PySem PySem.Spec PyProof.Rows L2
section
variable {prog : Program} {w : World} {A : Around} {E : Value → Shared → Prop} {s : Shared}
theorem back_places (n : Nat) : Builtin.Slice.slicePlaces ((n : Int) - 1) (-1) (-1) = n := by
  unfold Builtin.Slice.slicePlaces
  have no : ¬ ((-1 : Int) > 0) := by decide
  by_cases z : n = 0
  · subst z; decide
  · simp only [no, if_false]
    rw [if_pos (by omega), show (- -1 : Int) = 1 by decide, Int.ediv_one]
    omega
theorem back_adjust (n : Nat) : Builtin.Slice.sliceAdjust none none (-1) (n : Int) = ((n : Int) - 1, -1) := by
  unfold Builtin.Slice.sliceAdjust
  first
    | rfl
    | simp
theorem applied_back {sl : Addr} {vl vu vs : Value} {n : Nat} {Q : Int × Int × Nat → Shared → Prop} (sl_at : s.heap.IsSliceOf sl vl vu vs) (pl : IsPart vl none) (pu : IsPart vu none) (ps : IsPart vs (some (-1)))
    (k : Q ((n : Int) - 1, -1, n) s) : wpAny (model prog w) A (Builtin.Slice.sliceApplied (.ref sl) (pure (n : Int))) Q E s := by
  obtain ⟨o, h1, _, h3⟩ := sl_at
  unfold Builtin.Slice.sliceApplied Builtin.Slice.sliceFields
  refine wpAny_bind (wpAny_bind (wpAny_field h1 h3 (x := vl) rfl ?_))
  refine wpAny_bind (wpAny_field h1 h3 (x := vu) rfl ?_)
  refine wpAny_bind (wpAny_field h1 h3 (x := vs) rfl (wpAny_pure ?_))
  refine wpAny_bind (HT.slicePart_ ps ?_)
  show wpAny _ _ (if ((-1 : Int) == 0) = true then _ else _) _ _ s
  rw [if_neg (by decide)]
  refine wpAny_bind (HT.slicePart_ pl ?_)
  refine wpAny_bind (HT.slicePart_ pu (wpAny_bind (wpAny_pure ?_)))
  show wpAny _ _ (match Builtin.Slice.sliceAdjust none none (-1) (n : Int) with | (lo, hi) => pure (lo, (-1 : Int), Builtin.Slice.slicePlaces lo hi (-1))) _ _ s
  rw [back_adjust]
  show wpAny _ _ (pure ((n : Int) - 1, (-1 : Int), Builtin.Slice.slicePlaces ((n : Int) - 1) (-1) (-1))) _ _ s
  rw [back_places]
  exact wpAny_pure k
theorem pick_same {α β : Type} {f g : α → Option β} : ∀ {l : List α}, (∀ a ∈ l, f a = g a) → l.filterMap f = l.filterMap g
  | [], _ => rfl
  | a :: r, h => by
    rw [List.filterMap_cons, List.filterMap_cons, h a List.mem_cons_self, pick_same fun b hb => h b (List.mem_cons_of_mem _ hb)]
theorem back_pick (xs : Array Value) : ((List.range xs.size).filterMap fun (m : Nat) => xs[((xs.size : Int) - 1 + (m : Int) * -1).toNat]?) = xs.toList.reverse := by
  have h := PySem.W.krv_all xs
  rw [← h, ← List.filterMap_reverse, ← PySem.W.krv_range, List.filterMap_map]
  refine pick_same fun m hm => ?_
  have := List.mem_range.mp hm
  have e : ((xs.size : Int) - 1 + (m : Int) * -1).toNat = xs.size - 1 - m := by omega
  show xs[_]? = xs[_]?
  rw [e]
theorem getItem_back {t sl : Addr} {items : Array Value} {vl vu vs : Value} {Q : Value → Shared → Prop} (tup : IsTup s.heap t items) (sl_at : s.heap.IsSliceOf sl vl vu vs) (pl : IsPart vl none) (pu : IsPart vu none) (ps : IsPart vs (some (-1)))
    (k : Q (.ref s.heap.objs.size) { s with heap := s.heap.push { cls := .type "tuple", data := .seq items.toList.reverse.toArray } }) (size : items.size ≤ sizeLine) : wpAny (model prog w) A (getItem (.ref t) (.ref sl)) Q E s := by
  have fits : sizeOk (.seq items.toList.reverse.toArray) := by
    show items.toList.reverse.toArray.size ≤ sizeLine
    simpa using size
  have ty : s.TypeIs (.ref sl) "slice" := sl_at.elim fun o h => ⟨o, h.1, h.2.1⟩
  unfold getItem
  try with_reducible refine wpAny_holding ?_
  try refine wpAny_bind (wpAny_pure ?_)
  refine wpAny_bind (wpAny_sequenceKey tup.typeIs (by decide) ?_)
  have slot := PyProof.Rows.slot_tuple_getitem
  refine wpAny_bind (wpAny_callSpecial?_slot (name := Str.ofString "__getitem__") tup.typeIs slot ?_)
  refine wpAny_call_entry slot tup.typeIs entry_tuple_getitem ?_ (args_tuple_getitem _ _)
  show wpAny _ _ (Builtin.Tuple.tupleItemsOf (.ref t) >>= _) _ _ s
  refine wpAny_bind (tupleItemsOf_ tup (wpAny_bind (wpAny_typeOf ty ?_)))
  rw [if_pos (by decide)]
  refine wpAny_bind (applied_back sl_at pl pu ps ?_)
  have no : ¬ ((((items.size : Int) - 1) == 0 && (-1 : Int) == 1 && items.size == items.size) = true) := by simp
  show wpAny _ _ (if (((items.size : Int) - 1) == 0 && (-1 : Int) == 1 && items.size == items.size) = true then _ else _) _ _ s
  rw [if_neg no, back_pick]
  first
    | exact wpAny_bind (m := Builtin.Tuple.tupleExact _) (wpAny_newObj_type (wpAny_pure ⟨_, rfl, wpAny_pure k⟩) fits)
    | exact wpAny_bind (wpAny_bind (m := Builtin.Tuple.tupleExact _) (wpAny_newObj_type (wpAny_pure ⟨_, rfl, wpAny_pure k⟩) fits))
end
def tRevT (K : PySem.W.Frag) (te : TE) : TE := fun σ H Q => te σ H fun x H1 => ∃ a xs, x = .ref a ∧ SqT K H1 a xs ∧ ∀ p, H1 p = none → Q (.ref p) (upd H1 p (.tup xs.reverse))
theorem pe_revT {X : Cx} {K : PySem.W.Frag} {e : Expr} {te : TE} {k : Nat} {p1 p2 p3 pos : Pos} (hK : X.K = K) (he : PE X e te) : PE X (.Subscript e (.Slice none none (some (.UnaryOp .USub (.Constant (.int 1) k p1) p2)) p3) pos) (tRevT K te) := by
  subst hK
  constructor
  intro pins s σ H Q I want
  refine Subscript_ (thn (he.run pins s σ H _ I want) ?_)
  rintro v s1 ⟨x, H1, I1, r1, a, xs, rfl, at_, q⟩
  cases r1
  have step : PO X (some (.UnaryOp .USub (.Constant (.int 1) k p1) p2)) (tPart (tUn (rU fun i => .int (-i)) (tC (.int 1)))) := po_some (pe_un un_neg pe_int)
  refine wpAny_Slice (thn (po_none.run pins s1 σ H1 (fun o G => o = none ∧ G = H1) I1 ⟨rfl, rfl⟩) ?_)
  rintro vl s2 ⟨_, _, I2, pl, rfl, rfl⟩
  refine thn (po_none.run pins s2 σ _ (fun o G => o = none ∧ G = _) I2 ⟨rfl, rfl⟩) ?_
  rintro vu s3 ⟨_, _, I3, pu, rfl, rfl⟩
  refine thn (step.run pins s3 σ _ (fun o G => o = some (-1) ∧ G = _) I3 ⟨1, rfl, -1, rfl, rfl, rfl⟩) ?_
  rintro vs s4 ⟨_, G, I4, ps, rfl, rfl⟩
  have I5 := I4.kept (t' := s4.toks) (h' := s4.heap.push { cls := .type "slice", data := .fields #[vl, vu, vs] }) fun b o z => Heap.get?_push_of_some _ z
  obtain ⟨its, r, tup, size⟩ := I5.tuple at_
  have len := r.length
  refine tail_any (ops := [.ref a, .ref s4.heap.objs.size]) tup.typeIs (PyProof.Rows.slot_tuple_getitem.lookup) ?_ (by with_unfolding_all rfl)
  refine getItem_back tup (Heap.IsSliceOf.new _ vl vu vs) pl pu ps ?_ (by rw [List.size_toArray]; omega)
  refine ⟨.ref _, _, I5.laid (t' := s4.toks) (o := .tup xs.reverse) (fun b o z => Heap.get?_push_of_some _ z) (Nat.le_refl _) ?_, rfl, q _ (I5.hok.fresh (Nat.le_refl _))⟩
  exact ⟨by rw [List.length_reverse]; exact size, its.reverse, r.reverse, IsTup.new _ _⟩
end Ver
/-! What repr shows of nested things, and the defs that are run where no repr is under way. -/
namespace Ver
open PySem PySem.Spec PyProof.Rows L2

/-! ### what repr shows -/
mutual
/-- v is shown as d: l tells whether lists may stand in it (else dicts may), k bounds its depth, n the length of its text -/
inductive Rp (H : Hp) (l : Bool) : Nat → V → PyData → Nat → Prop
  | non {k} : Rp H l k .non .none 4
  | bl {k} (b : Bool) : Rp H l k (.bl b) (.bool b) 5
  | int {k} (i : Int) (h : i.natAbs < 10 ^ 60) : Rp H l k (.int i) (.int i) 61
  | str {k} (z : Str) (h : ∀ c ∈ z.cps.toList, c < 16 ^ 8) : Rp H l k (.str z) (.str z) (10 * z.length + 2)
  | tup {k a xs ds n} : H a = some (.tup xs) → RpA H l k xs ds n → Rp H l (k + 1) (.ref a) (.tuple ds) (n + 4)
  | lst {k a xs ds n} : l = true → H a = some (.lst xs) → RpA H l k xs ds n → Rp H l (k + 1) (.ref a) (.list ds) (n + 4)
  | dct {k a kvs ds n} : l = false → H a = some (.dK kvs) → RpD H l k kvs ds n → Rp H l (k + 1) (.ref a) (.dict ds) (n + 4)
inductive RpA (H : Hp) (l : Bool) : Nat → List V → List PyData → Nat → Prop
  | nil {k} : RpA H l k [] [] 0
  | cons {k x d n xs ds m} : Rp H l k x d n → RpA H l k xs ds m → RpA H l k (x :: xs) (d :: ds) (n + 2 + m)
inductive RpD (H : Hp) (l : Bool) : Nat → List (Key × V) → List (PyData × PyData) → Nat → Prop
  | nil {k} : RpD H l k [] [] 0
  | cons {k y e o x d n xs ds m} : Rp H l k (kV y) e o → Rp H l k x d n → RpD H l k xs ds m → RpD H l k ((y, x) :: xs) ((e, d) :: ds) (o + 2 + n + 2 + m)
end

theorem tupleText_le (ts : List Str) : (tupleText ts).length ≤ piled ts + 4 := by
  unfold tupleText
  rw [strLen_append, strLen_append]
  have e1 : ((("(" : String) : Str)).length = 1 := rfl
  have e2 : (((if ts.length == 1 then ",)" else ")" : String) : Str)).length ≤ 2 := by split <;> decide
  cases ts with
  | nil =>
    have e3 : (Str.join ", " []).length = 0 := rfl
    omega
  | cons t r =>
    have e3 := join_length_add (t :: r) (by simp)
    omega
theorem dictText_le (ts : List Str) : (dictText ts).length ≤ piled ts + 4 := by
  unfold dictText
  rw [strLen_append, strLen_append]
  have e1 : ((("{" : String) : Str)).length = 1 := rfl
  have e2 : ((("}" : String) : Str)).length = 1 := rfl
  cases ts with
  | nil =>
    have e3 : (Str.join ", " []).length = 0 := rfl
    omega
  | cons t r =>
    have e3 := join_length_add (t :: r) (by simp)
    omega
theorem listText_le : ∀ ts : List Str, (listText ts).length ≤ piled ts + 4
  | [] => by rw [listText_nil]; decide
  | t :: r => by
    have h := textFrom_length_pos r 1 (("[" : Str) ++ ("" : String) ++ t) (Nat.succ_pos 0)
    have e : (("[" : Str) ++ ("" : String) ++ t).length = 1 + t.length := by
      rw [strLen_append, strLen_append]
      rfl
    have q : (listText (t :: r)).length = (textFrom 1 (("[" : Str) ++ ("" : String) ++ t) r).length + 1 := by
      unfold listText
      rw [strLen_append]
      rfl
    rw [q, h, e, piled_cons]
    omega
mutual
theorem Rp.ex {H G : Hp} {l : Bool} (e : Ex H G) : ∀ {k : Nat} {v : V} {d : PyData} {n : Nat}, Rp H l k v d n → Rp G l k v d n
  | _, _, _, _, .non => .non
  | _, _, _, _, .bl b => .bl b
  | _, _, _, _, .int i h => .int i h
  | _, _, _, _, .str z h => .str z h
  | _, _, _, _, .tup h q => .tup (e _ _ h) (RpA.ex e q)
  | _, _, _, _, .lst f h q => .lst f (e _ _ h) (RpA.ex e q)
  | _, _, _, _, .dct f h q => .dct f (e _ _ h) (RpD.ex e q)
theorem RpA.ex {H G : Hp} {l : Bool} (e : Ex H G) : ∀ {k : Nat} {xs : List V} {ds : List PyData} {n : Nat}, RpA H l k xs ds n → RpA G l k xs ds n
  | _, _, _, _, .nil => .nil
  | _, _, _, _, .cons q t => .cons (Rp.ex e q) (RpA.ex e t)
theorem RpD.ex {H G : Hp} {l : Bool} (e : Ex H G) : ∀ {k : Nat} {xs : List (Key × V)} {ds : List (PyData × PyData)} {n : Nat}, RpD H l k xs ds n → RpD G l k xs ds n
  | _, _, _, _, .nil => .nil
  | _, _, _, _, .cons p q t => .cons (Rp.ex e p) (Rp.ex e q) (RpD.ex e t)
end
/-- v is shown by a text of at most n signs, at most k deep -/
def Sh (H : Hp) (l : Bool) (k n : Nat) (v : V) : Prop := ∃ d m, Rp H l k v d m ∧ m ≤ n
section
variable {H : Hp} {l : Bool} {k n : Nat}
theorem Sh.ex {G : Hp} {v : V} (h : Sh H l k n v) (e : Ex H G) : Sh G l k n v := h.elim fun d h => h.elim fun m h => ⟨d, m, h.1.ex e, h.2⟩
theorem Sh.le {m : Nat} {v : V} (h : Sh H l k n v) (q : n ≤ m) : Sh H l k m v := h.elim fun d h => h.elim fun a h => ⟨d, a, h.1, Nat.le_trans h.2 q⟩
theorem sh_all : ∀ {xs : List V}, (∀ x ∈ xs, Sh H l k n x) → ∃ ds m, RpA H l k xs ds m ∧ m ≤ xs.length * (n + 2)
  | [], _ => ⟨_, _, .nil, by simp⟩
  | x :: xs, h => by
    obtain ⟨d, m, q, hm⟩ := h x List.mem_cons_self
    obtain ⟨ds, ms, t, ht⟩ := sh_all (xs := xs) fun y hy => h y (List.mem_cons_of_mem _ hy)
    refine ⟨_, _, .cons q t, ?_⟩
    rw [List.length_cons, Nat.succ_mul]
    omega
theorem Sh.non : Sh H l k 4 .non := ⟨_, _, .non, Nat.le_refl _⟩
theorem Sh.bl {b : Bool} : Sh H l k 5 (.bl b) := ⟨_, _, .bl b, Nat.le_refl _⟩
theorem Sh.int {i : Int} (h : i.natAbs < 10 ^ 60) : Sh H l k 61 (.int i) := ⟨_, _, .int i h, Nat.le_refl _⟩
theorem Sh.str {z : Str} (h : ∀ c ∈ z.cps.toList, c < 16 ^ 8) : Sh H l k (10 * z.length + 2) (.str z) := ⟨_, _, .str z h, Nat.le_refl _⟩
theorem Sh.tup {a : Addr} {xs : List V} (h : H a = some (.tup xs)) (q : ∀ x ∈ xs, Sh H l k n x) : Sh H l (k + 1) (xs.length * (n + 2) + 4) (.ref a) := by
  obtain ⟨ds, m, r, hm⟩ := sh_all q
  exact ⟨_, _, .tup h r, by omega⟩
theorem Sh.lst {a : Addr} {xs : List V} (h : H a = some (.lst xs)) (q : ∀ x ∈ xs, Sh H true k n x) : Sh H true (k + 1) (xs.length * (n + 2) + 4) (.ref a) := by
  obtain ⟨ds, m, r, hm⟩ := sh_all q
  exact ⟨_, _, .lst rfl h r, by omega⟩
theorem Sh.dct0 {a : Addr} (h : H a = some (.dK [])) : Sh H false (k + 1) 4 (.ref a) := ⟨_, _, .dct rfl h .nil, by omega⟩
theorem Sh.dct1 {a : Addr} {z : Str} {i : Int} (h : H a = some (.dK [(.inr z, .int i)])) (hz : ∀ c ∈ z.cps.toList, c < 16 ^ 8) (hi : i.natAbs < 10 ^ 60) : Sh H false (k + 1) (10 * z.length + 80) (.ref a) :=
  ⟨_, _, .dct rfl h (.cons (.str z hz) (.int i hi) .nil), by omega⟩
/-- a text is written with signs that there are -/
theorem signs_ok {z : Str} (h : (z.cps.toList.all fun c => decide (c < 16 ^ 8)) = true) : ∀ c ∈ z.cps.toList, c < 16 ^ 8 := fun c hc => of_decide_eq_true (List.all_eq_true.mp h c hc)
end
theorem log_small {i : Int} (h : i.natAbs < 10 ^ 60) : i.natAbs.log2 < 1920 := by
  by_cases q : i.natAbs = 0
  · rw [q]; decide
  · refine (Nat.log2_lt q).mpr (Nat.lt_trans h ?_)
    decide +kernel
theorem key_shape {y : Key} {u : Value} (h : keyIs y u = true) : RelV (kV y) u := by
  rcases keyIs_shape h with ⟨i, t, rfl, rfl⟩ | ⟨z, t, rfl, rfl⟩
  · exact ⟨t, rfl⟩
  · exact ⟨t, rfl⟩

section
variable {P : Program} {w : World} {H : Hp} {h : Heap} {l : Bool}
mutual
theorem Rp.reads (ok : HOk P w H h) : ∀ {k : Nat} {v : V} {d : PyData} {n : Nat} {u : Value}, Rp H l k v d n → RelV v u → ∃ as, Reads h u d as ∧ (l = false → sysModules ∉ as)
  | _, _, _, _, u, .non, r => by
    cases (show u = Value.none from r)
    exact ⟨_, .none, fun _ => by simp⟩
  | _, _, _, _, u, .bl b, r => by
    cases (show u = Value.bool b from r)
    exact ⟨_, .bool b, fun _ => by simp⟩
  | _, _, _, _, u, .int i _, r => by
    obtain ⟨t, rfl⟩ := (show ∃ t, u = Value.int i t from r)
    exact ⟨_, .int i t, fun _ => by simp⟩
  | _, _, _, _, u, .str z _, r => by
    obtain ⟨t, rfl⟩ := (show ∃ t, u = Value.str z t from r)
    exact ⟨_, .str z t, fun _ => by simp⟩
  | _, _, _, _, u, .tup (a := a) e q, r => by
    cases (show u = Value.ref a from r)
    obtain ⟨_, its, rv, o, h1, h2, m, h3⟩ := (show ObjOk P w H h a (.tup _) from ok a _ e)
    obtain ⟨as, q1, q2⟩ := RpA.reads ok q rv
    exact ⟨as, .tuple h1 h2 h3 (by simpa using q1), q2⟩
  | _, _, _, _, u, .lst (a := a) hl e q, r => by
    cases (show u = Value.ref a from r)
    obtain ⟨_, its, m, rv, h1⟩ := (show ObjOk P w H h a (.lst _) from ok a _ e)
    obtain ⟨as, q1, q2⟩ := RpA.reads ok q rv
    exact ⟨_, .list h1 rfl rfl (by simpa using q1), fun z => by rw [hl] at z; cases z⟩
  | _, _, _, _, u, .dct (a := a) hl e q, r => by
    cases (show u = Value.ref a from r)
    obtain ⟨_, hn, vs, kv, o, es, ep, h1, h2, h3, _, h5, _⟩ := (show ObjOk P w H h a (.dK _) from ok a _ e)
    obtain ⟨as, bs, q1, q2, q3⟩ := RpD.reads ok q kv h5
    refine ⟨_, .dict h1 h2.1 h3 q1 q2, fun z => ?_⟩
    have q4 := q3 z
    intro hm
    rcases List.mem_append.mp hm with hm | hm
    · rcases List.mem_cons.mp hm with hm | hm
      · rw [← hm] at hn
        simp at hn
      · exact q4.1 hm
    · exact q4.2 hm
theorem RpA.reads (ok : HOk P w H h) : ∀ {k : Nat} {xs : List V} {ds : List PyData} {n : Nat} {us : List Value}, RpA H l k xs ds n → Vals xs us → ∃ as, ReadsAll h us ds as ∧ (l = false → sysModules ∉ as)
  | _, _, _, _, _, .nil, r => by
    cases r
    exact ⟨_, .nil, fun _ => by simp⟩
  | _, _, _, _, _, .cons q t, r => by
    cases r with
    | cons r1 r2 =>
      obtain ⟨as, q1, q2⟩ := Rp.reads ok q r1
      obtain ⟨bs, t1, t2⟩ := RpA.reads ok t r2
      exact ⟨_, .cons q1 t1, fun z => by
        rw [List.mem_append]
        exact fun y => y.elim (q2 z) (t2 z)⟩
theorem RpD.reads (ok : HOk P w H h) : ∀ {k : Nat} {kvs : List (Key × V)} {ds : List (PyData × PyData)} {n : Nat} {vs : List (Key × Value)} {es : List DictEntry}, RpD H l k kvs ds n → KV kvs vs → Pairs (mixKind P w) es vs →
    ∃ as bs, ReadsAll h (es.map (·.key)) (ds.map (·.1)) as ∧ ReadsAll h (es.map (·.val)) (ds.map (·.2)) bs ∧ (l = false → sysModules ∉ as ∧ sysModules ∉ bs)
  | _, _, _, _, _, _, .nil, r, p => by
    cases r
    cases p
    exact ⟨_, _, .nil, .nil, fun _ => by simp⟩
  | _, _, _, _, _, _, .cons q1 q2 t, r, p => by
    cases r with
    | cons r1 r2 =>
      cases p with
      | cons p1 p2 p3 =>
        rename_i _ kv0 _ _ _
        obtain ⟨k0, v0⟩ := kv0
        obtain ⟨e1, e2⟩ := r1
        dsimp only at e1 e2 p1 p2
        obtain ⟨as, s1, s2⟩ := Rp.reads ok q1 (key_shape (y := _) (by rw [e1]; exact p1))
        subst p2
        obtain ⟨bs, s3, s4⟩ := Rp.reads ok q2 e2
        obtain ⟨cs, gs, s5, s6, s7⟩ := RpD.reads ok t r2 p3
        refine ⟨_, _, .cons s1 s5, .cons s3 s6, fun z => ⟨?_, ?_⟩⟩
        · rw [List.mem_append]
          exact fun y => y.elim (s2 z) (s7 z).1
        · rw [List.mem_append]
          exact fun y => y.elim (s4 z) (s7 z).2
end
end
section
variable {H : Hp} {l : Bool}
mutual
theorem Rp.able : ∀ {k : Nat} {v : V} {d : PyData} {n : Nat}, Rp H l k v d n → d.showable = true ∧ (d.hasDict = true → l = false) ∧ d.depth ≤ k ∧ d.shown.length ≤ n
  | _, _, _, _, .non => ⟨by simp [PyData.showable], by simp [PyData.hasDict], by simp [PyData.depth], by simp only [PyData.shown]; decide⟩
  | _, _, _, _, .bl b => ⟨by simp [PyData.showable], by simp [PyData.hasDict], by simp [PyData.depth], by simp only [PyData.shown]; cases b <;> decide⟩
  | _, _, _, _, .int i hi => ⟨by simp only [PyData.showable]; exact decide_eq_true (log_small hi), by simp [PyData.hasDict], by simp [PyData.depth], by
      simp only [PyData.shown]
      show (Str.ofString (toString i)).length ≤ 61
      rw [PySem.ofString_length]
      exact int_text_length_le10 (by decide) hi⟩
  | _, _, _, _, .str z hz => ⟨by simp [PyData.showable], by simp [PyData.hasDict], by simp [PyData.depth], by
      simp only [PyData.shown]
      exact StrLaws.reprText_len z hz⟩
  | _, _, _, _, .tup e q => by
    obtain ⟨h1, h2, h3, h4⟩ := q.able
    refine ⟨by simpa only [PyData.showable] using h1, by simpa only [PyData.hasDict] using h2, by simp only [PyData.depth]; omega, ?_⟩
    simp only [PyData.shown]
    refine Nat.le_trans (tupleText_le _) ?_
    omega
  | _, _, _, _, .lst hl e q => by
    obtain ⟨h1, h2, h3, h4⟩ := q.able
    refine ⟨by simpa only [PyData.showable] using h1, by simpa only [PyData.hasDict] using h2, by simp only [PyData.depth]; omega, ?_⟩
    simp only [PyData.shown]
    refine Nat.le_trans (listText_le _) ?_
    omega
  | _, _, _, _, .dct hl e q => by
    obtain ⟨h1, h3, h4⟩ := q.able
    refine ⟨by simpa only [PyData.showable] using h1, fun _ => hl, by simp only [PyData.depth]; omega, ?_⟩
    simp only [PyData.shown]
    refine Nat.le_trans (dictText_le _) ?_
    omega
theorem RpA.able : ∀ {k : Nat} {xs : List V} {ds : List PyData} {n : Nat}, RpA H l k xs ds n → PyData.showableAll ds = true ∧ (PyData.hasDictAll ds = true → l = false) ∧ PyData.depthAll ds ≤ k ∧ piled (PyData.shownAll ds) ≤ n
  | _, _, _, _, .nil => ⟨by simp [PyData.showableAll], by simp [PyData.hasDictAll], by simp [PyData.depthAll], by simp [PyData.shownAll, piled]⟩
  | _, _, _, _, .cons q t => by
    obtain ⟨h1, h2, h3, h4⟩ := q.able
    obtain ⟨g1, g2, g3, g4⟩ := t.able
    refine ⟨by simp only [PyData.showableAll, h1, g1, Bool.and_self], fun z => ?_, by simp only [PyData.depthAll]; omega, ?_⟩
    · simp only [PyData.hasDictAll, Bool.or_eq_true] at z
      exact z.elim h2 g2
    · simp only [PyData.shownAll]
      rw [piled_cons]
      omega
theorem RpD.able : ∀ {k : Nat} {kvs : List (Key × V)} {ds : List (PyData × PyData)} {n : Nat}, RpD H l k kvs ds n → PyData.showableKv ds = true ∧ PyData.depthKv ds ≤ k ∧ piled (PyData.shownKv ds) ≤ n
  | _, _, _, _, .nil => ⟨by simp [PyData.showableKv], by simp [PyData.depthKv], by simp [PyData.shownKv, piled]⟩
  | _, _, _, _, .cons q1 q2 t => by
    obtain ⟨h1, _, h3, h4⟩ := q1.able
    obtain ⟨f1, _, f3, f4⟩ := q2.able
    obtain ⟨g1, g3, g4⟩ := t.able
    refine ⟨by simp only [PyData.showableKv, h1, f1, g1, Bool.and_self], by simp only [PyData.depthKv]; omega, ?_⟩
    simp only [PyData.shownKv]
    rw [piled_cons, strLen_append, strLen_append]
    have e : ((": " : String) : Str).length = 2 := rfl
    omega
end
end

/-! ### defs that are run where no repr is under way -/
/-- room for k more levels, and no repr under way -/
structure Quiet (k : Nat) (A : Around) : Prop where
  room : Room k A
  still : A.guards = some []
theorem Quiet.mono {j k : Nat} {A : Around} (q : Quiet k A) (h : j ≤ k) : Quiet j A := ⟨q.room.mono h, q.still⟩
theorem Quiet.in {k : Nat} {A : Around} (q : Quiet (k + 1) A) (e : Env) : Quiet k (A.deeper e) := ⟨q.room.deeper e, q.still⟩

section
variable (P : Program) (w : World) (K : PySem.W.Frag) (mg : Str → Option Value) (base : Heap) (C : CXT)
/-- a def's promise, kept wherever it is quiet -/
structure FnQ (k : Nat) (f : Addr) (fd : FuncData) (ps : List Str) (sp : Sp) : Prop where
  arity : ∀ vs H Q E, sp vs H Q E → vs.length = ps.length
  goes : ∀ {A : Around} {outer : List Env} {s : Shared} {H : Hp} {args : Args} {us : List Value} {vs : List V} {Q : VK} {E : XK},
    Quiet k A → Env0 P w K mg base A outer s H → BindsTo s fd args (ps.zip us) → Vals vs us → sp vs H Q E →
      codeAny (model P w) A (.call (.ref f) args) (CR C outer P w H s Q E) s
end

section
variable {P : Program} {w : World} {K : PySem.W.Frag} {mg : Str → Option Value} {base : Heap} {C : CXT} {k : Nat} {f : Addr} {ps N : List Str} {sp : Sp}
/-- what a def's body has come to when it is left -/
theorem left_CE {X : Cx} {σ : L2.St} {H : Hp} {s' : Shared} {Q : VK} {v : V} {u : Value} (I : Inv X [] σ H s') (hx : X.ex = []) (r : RelV v u) (q : Q v H) : CE X.outer X.prog X.w X.H_0 X.s_0 Q u s' :=
  ⟨v, H, I.os, I.bare, by
    have z := I.base
    rw [hx] at z
    exact z, I.hok, r, q⟩
theorem quietFn {x qual : Str} {par : Arguments} {body : List Stmt} {sc : Scope} {dV kV doc pm cdv ct oc : Value} {an od : Option Addr} {osl : Array (Option Value)}
    (lk : K.lookup f = some ⟨oc, od, .func (PySem.W.fnOf x qual par body sc dV kV doc pm an cdv ct), osl⟩) (code : PySem.W.codeIn K cdv qual = true) (S : FnScope N ps sc)
    (arity : ∀ vs H Q E, sp vs H Q E → vs.length = ps.length)
    (reads : ∀ (A : Around) (outer : List Env) (s : Shared) (H : Hp) (vs : List V) (Q : VK) (E : XK), Quiet k (A.deeper (envOfC qual sc s.heap.objs.size f cdv)) → sp vs H Q E →
      ∃ t, PSs (cxOf C P w K mg base N qual sc f cdv A outer s H E) body t ∧ t { nx := fun _ H1 => Q .non H1, rt := Q } (start N vs) H) :
    FnQ P w K mg base C (k + 1) f (PySem.W.fnOf x qual par body sc dV kV doc pm an cdv ct) ps sp := by
  constructor
  · exact arity
  · intro A outer s H args us vs Q E quiet e0 bind rel want
    have count := arity _ _ _ _ want
    have same : ∀ b o, base.get? b = some o → s.heap.get? b = some o := fun b o e => (e0.bs b o e).1
    have inK := e0.mod.kin.keeps same
    have nolim := e0.mod.nolimit.keeps same
    have kinds : ∀ y ∈ ps.zip us, sc.names.lookup y.1 = some .local ∨ (sc.names.lookup y.1 = some .cell ∧ ((cellsFrom (s.heap.objs.size + 1) sc.names []).lookup y.1).isSome = true) := by
      rintro ⟨n, v⟩ hy
      refine (S.par n (List.of_mem_zip hy).1).imp id fun q => ⟨q, ?_⟩
      exact PySem.W.cellsFrom_some _ _ _ (.inl q)
    refine codeAny_call_function quiet.room.depth (inK _ _ lk) rfl S.co S.gen rfl (PySem.W.codeRec_of inK code) (bind _ _ _ _ ?_)
    refine wpAny_newFunctionEnv_cells S.kind kinds fun e he s1 x1 => ?_
    subst he
    refine ⟨nolim.keeps x1.toInCall.keep, codeAny_func ?_⟩
    obtain ⟨t, ht, hq⟩ := reads A outer s H vs Q E (quiet.in _) want
    have I0 := inv_start (CX := C) (E := E) S quiet.room.hd e0 count rel x1
    refine wpAny_mono (ht.run [] s1 _ H _ I0 hq) ?_ (fun e s2 h => h)
    intro fl s2 h
    match fl, h with
    | .ret u, h =>
      obtain ⟨v, σ1, H1, J, rv, q⟩ := h
      exact left_CE J rfl rv q
    | .next, h =>
      obtain ⟨σ1, H1, J, q⟩ := h
      exact left_CE (v := .non) (u := .none) J rfl rfl q
    | .brk, h =>
      obtain ⟨_, _, _, q⟩ := h
      exact q.elim
    | .cont, h =>
      obtain ⟨_, _, _, q⟩ := h
      exact q.elim
end

section
variable {X : Cx} {C : CXT} {k : Nat} {f : Addr} {fd : FuncData} {ps : List Str} {sp : Sp} {E : XK} {x : Str} {e : Expr} {es : List Expr} {p pos : Pos} {t : TA}
/-- f(e, ..), f such a def, all its arguments by place -/
theorem pe_callQ (F : FnQ X.prog X.w X.K X.mg X.base C k f fd ps sp) (quiet : Quiet k X.A) (hg : Gl X x) (hm : X.mg x = some (.ref f)) (hk : PySem.W.keepIn X.K (.ref f) = true) (hb : Binds X.K fd ps []) (hx : Passes C X E)
    (ha : PA X (e :: es) t) (hd : (x == ("__debug__" : Str)) = false := by decide) (he : starEach (e :: es) X.env = (false, eval e X.env) :: starEach es X.env := by rfl) (hp : (backTo pos (starEach es X.env)).any (·.1) = false := by rfl) :
    PE X (.Call (.Name x p) (e :: es) [] pos) (tCall sp [] E t) := by
  constructor
  intro pins s σ H Q I want
  refine wpAny_Call_Name_kw (ld_glob I hg hm ?_ hd)
  refine PySem.W.callWith_K (h₀ := X.base) I.ok.mod.kin hk (thn (ha.run pos pins s σ H _ I want) ?_) he hp
  rintro us s1 ⟨vs, H1, I1, rel, q⟩
  refine ⟨I1.kIn, ?_⟩
  rw [List.append_nil] at q
  have count := F.arity _ _ _ _ q
  have bind := hb s1 us I1.kIn (by rw [List.append_nil, ← rel.length]; exact count)
  rw [List.append_nil] at bind
  refine wpAny_call (codeAny_mono (F.goes quiet I1.env0 bind rel q) ?_)
  intro r s2 h
  match r, h with
  | .error z, h => exact hx pins σ H1 s1 z s2 I1 h
  | .ok (.ret u), h => exact I1.after h
  | .ok .next, h => exact h.elim
  | .ok .brk, h => exact h.elim
  | .ok .cont, h => exact h.elim
end

/-- the rule for a def of the text that is run where no repr is under way -/
theorem okQ {P : Program} {w : World} {K : PySem.W.Frag} {mg : Str → Option Value} {base : Heap} {x qual : Str} {st : Stmt} {f : Addr} {fd : FuncData} {N ps : List Str} {k : Nat} {sp : Sp} (F : Fun K x qual st f fd) (S : FnScope N ps (defScope st))
    (arity : ∀ vs H Q E, sp vs H Q E → vs.length = ps.length)
    (reads : ∀ (cdv : Value) (A : Around) (outer : List Env) (s : Shared) (H : Hp) (vs : List V) (Q : VK) (E : XK), Quiet k (A.deeper (envOfC qual (defScope st) s.heap.objs.size f cdv)) → sp vs H Q E →
      ∃ t, PSs (cxOf CX0 P w K mg base N qual (defScope st) f cdv A outer s H E).nox (defBody st) t ∧ t { nx := fun _ H1 => Q .non H1, rt := Q } (start N vs) H) : FnQ P w K mg base CX0 (k + 1) f fd ps sp := by
  obtain ⟨_, _, _, _, _, _, cdv, _, _, rfl, lk, code⟩ := F.ex
  refine quietFn lk code S arity fun A outer s H vs Q E quiet want => ?_
  obtain ⟨t, h, q⟩ := reads cdv A outer s H vs Q E quiet want
  exact ⟨t, h.nox, q⟩

/-! ### repr -/
/-- what is handed to repr is shown so -/
def rRepr : List V → Hp → VK → Prop := fun xs H Q => ∃ v l d n, xs = [v] ∧ Rp H l 64 v d n ∧ n ≤ 10000000 ∧ Q (.str d.shown) H
theorem call_repr {X : Cx} {k : Nat} (quiet : Quiet k X.A) : CallR X (.builtin "repr") rRepr := by
  have still := quiet.still
  have room : X.A.units + 65 < cLine := by have := quiet.room.un; omega
  intro pins s σ H xs us Q I rel want
  obtain ⟨v, l, d, n, rfl, rp, hn, q⟩ := want
  obtain ⟨u, rfl, r⟩ := vals1 rel
  obtain ⟨a1, a2, a3, a4⟩ := rp.able
  have size : d.shown.length ≤ sizeLine := by
    have : (10000000 : Nat) ≤ sizeLine := by decide
    omega
  obtain ⟨as, rd, hs⟩ := rp.reads I.hok r
  have done : ∀ tk tk', EP X pins σ Q (.str d.shown tk) { s with toks := tk' } := fun tk tk' => ⟨.str d.shown, H, I.tok _, ⟨_, rfl⟩, q⟩
  have deep : ∀ {a : Addr}, Reads s.heap (.ref a) d as → wpAny (model X.prog X.w) X.A (call (.builtin "repr") [.ref a]) (EP X pins σ Q) X.xe s := fun {a} rd => by
    refine repr_of_reads' (h₀ := s.heap) rd a1 (fun z => hs (a2 z)) still (by omega) (fun _ _ z => z) (fun h' u tk keep => ?_) size
    exact ⟨.str d.shown, H, I.kept keep, ⟨_, rfl⟩, q⟩
  cases rd with
  | none => exact PySem.P.repr_of_none (done _ _)
  | bool b => exact PySem.P.repr_of_bool (done _ _)
  | int i t => exact PySem.P.repr_of_int (by simpa [PyData.showable] using a1) (done _ _)
  | str z t => exact PySem.P.repr_of_str (done _ _) size
  | list h1 h2 h3 h4 => exact deep (.list h1 h2 h3 h4)
  | tuple h1 h2 h3 h4 => exact deep (.tuple h1 h2 h3 h4)
  | dict h1 h2 h3 h4 h5 => exact deep (.dict h1 h2 h3 h4 h5)

/-! ### the law's end -/
section
variable {P : Program} {w : World} {K : PySem.W.Frag} {mg mb : Str → Option Value} {C : CXT} {k : Nat} {fa a : Addr} {fd : FuncData} {x : Str} {sp : Sp} {s1 : Shared} {vs : List Value} {ns : List Int}
/-- what a law's call must come to -/
def EndOk (s1 : Shared) (r : Result) (s2 : Shared) : Prop := r = .ok (.ret (.bool true)) ∧ OldK s1.heap s2.heap ∧ s2.os = s1.os ∧ AllBare s2.gens
theorem quiet_from (H : Hp) (inK : K.In s1.heap) (gl : s1.heap.Ns mainGlobals mg) (bn : s1.heap.Ns builtinsNs mb) (bb : ∀ y : Str, y ≠ "__name__" → mb y = bootBuiltins y) (nl : s1.heap.NoLimit) (gens : s1.gens = #[])
    (obj : s1.heap.get? a = some { cls := .type "list", data := .seq vs.toArray }) (quiet : Quiet k callerA)
    (F : ∀ base : Heap, K.In base → base.Ns mainGlobals mg → FnQ P w K mg base C k fa fd [x] sp) (bind : ∀ (s : Shared) (u : Value), BindsTo s fd ⟨[u], []⟩ [(x, u)])
    (only : Only H) (begin_ : sp [.ref a] H (fun v _ => v = .bl true) fun _ _ _ => False) (never : ∀ H e s', C [] H s1 (fun _ _ _ => False) e s' → False)
    (hok : HOk P w H s1.heap) (just : ∀ b, H b ≠ none → b = a) (notK : H a ≠ none → K.lookup a = none) :
    codeAny (model P w) callerA (.call (.ref fa) ⟨[.ref a], []⟩) (EndOk s1) s1 := by
  have free : ∀ {b : Addr}, b ≠ a → H b = none := fun {b} n => by
    cases e : H b with
    | none => rfl
    | some o => exact absurd (just b (by rw [e]; exact Option.some_ne_none o)) n
  have names : ∀ {b : Addr} {m : Str → Option Value}, s1.heap.Ns b m → (hidT s1.heap H).Ns b m := by
    rintro b m ⟨o, es, ep, e, d, r⟩
    refine ⟨o, es, ep, hidT_get e (free ?_), d, r⟩
    rintro rfl
    rw [obj] at e
    cases e
    exact nomatch (show Data.seq vs.toArray _ = Data.dict es ep from d)
  have inB : K.In (hidT s1.heap H) := fun b o e => by
    refine hidT_get (inK b o e) ?_
    by_cases z : b = a
    · subst z
      cases q : H b with
      | none => rfl
      | some u =>
        have z := notK (by rw [q]; exact Option.some_ne_none u)
        rw [e] at z
        cases z
    · exact free z
  have mod : Mod K mg (hidT s1.heap H) := ⟨inB, names gl, ⟨mb, names bn, bb⟩, nl.elim fun mc z => ⟨mc, names z.1, z.2⟩⟩
  have none_ : ∀ b ∈ frs ([] : List Env), H b = none := fun b z => nomatch (show b ∈ ([] : List Addr) from z)
  have e0 : Env0 P w K mg (hidT s1.heap H) callerA [] s1 H := ⟨rfl, mod, fun _ _ e => of_hidT e, Nat.le_of_eq (hidT_size _ _), trivial, none_, hok, .of_eq gens⟩
  refine codeAny_mono ((F _ inB (names gl)).goes (us := [.ref a]) (vs := [.ref a]) quiet e0 (bind s1 (.ref a)) (.cons rfl .nil) begin_) ?_
  intro r s2 h
  match r, h with
  | .error e, h => exact (never H e s2 h).elim
  | .ok .next, h => exact h.elim
  | .ok .brk, h => exact h.elim
  | .ok .cont, h => exact h.elim
  | .ok (.ret u), h =>
    obtain ⟨v, H2, os, bare, un, hok2, rel, yes⟩ := h
    cases yes
    cases (show u = Value.bool true from rel)
    refine ⟨rfl, OldK.of_keep fun b o e => ?_, os, bare⟩
    rcases only b with z | ⟨ob, xs, z⟩
    · exact un.keep b o e z (fun y => nomatch (show b ∈ ([] : List Addr) from y)) (by simp)
    · have e1 := (hok b _ z).1
      rw [e] at e1
      cases e1
      exact (hok2 b _ (un.frzs b _ _ z)).1
theorem ints_vals : ∀ {vs : List Value} {ns : List Int}, IntsAre vs ns → Vals (ns.map V.int) vs
  | [], _, .nil => .nil
  | _ :: _, _, .cons _ t r => .cons ⟨t, rfl⟩ (ints_vals r)
theorem law_quiet (inK : K.In s1.heap) (gl : s1.heap.Ns mainGlobals mg) (bn : s1.heap.Ns builtinsNs mb) (bb : ∀ y : Str, y ≠ "__name__" → mb y = bootBuiltins y) (nl : s1.heap.NoLimit) (gens : s1.gens = #[])
    (obj : s1.heap.get? a = some { cls := .type "list", data := .seq vs.toArray }) (whole : IntsAre vs ns) (few : ns.length ≤ sizeLine) (quiet : Quiet k callerA)
    (F : ∀ base : Heap, K.In base → base.Ns mainGlobals mg → FnQ P w K mg base C k fa fd [x] sp) (bind : ∀ (s : Shared) (u : Value), BindsTo s fd ⟨[u], []⟩ [(x, u)])
    (begin_ : ∀ H : Hp, Only H → SqL K H a (ns.map V.int) → sp [.ref a] H (fun v _ => v = .bl true) fun _ _ _ => False) (never : ∀ H e s', C [] H s1 (fun _ _ _ => False) e s' → False) :
    codeAny (model P w) callerA (.call (.ref fa) ⟨[.ref a], []⟩) (EndOk s1) s1 := by
  have rel := ints_vals whole
  have len : (ns.map V.int).length ≤ sizeLine := by rw [List.length_map]; exact few
  cases look : K.lookup a with
  | some o =>
    have e := inK a o look
    rw [obj] at e
    cases e
    have nothing : Only fun _ => none := fun _ => .inl rfl
    have sq : SqL K (fun _ => none) a (ns.map V.int) := .inr ⟨_, vs.toArray, _, look, rfl, rfl, rfl, by rw [List.size_toArray, ← rel.length]; exact len, rel⟩
    exact quiet_from (fun _ => none) inK gl bn bb nl gens obj quiet F bind nothing (begin_ _ nothing sq) never (fun _ _ z => nomatch z) (fun _ z => (z rfl).elim) fun z => (z rfl).elim
  | none =>
    let ob : Obj := { cls := .type "list", data := .seq vs.toArray }
    let H : Hp := upd (fun _ => none) a (.frz ob (.lst (ns.map V.int)))
    have at_ : H a = some (.frz ob (.lst (ns.map V.int))) := upd_same
    have off : ∀ {b : Addr}, b ≠ a → H b = none := fun {b} n => upd_ne n
    have one : Only H := fun b => by
      by_cases z : b = a
      · rw [z]
        exact .inr ⟨_, _, at_⟩
      · exact .inl (off z)
    have hok : HOk P w H s1.heap := fun b u z => by
      by_cases y : b = a
      · subst y
        rw [at_] at z
        cases z
        exact ⟨obj, len, vs, 0, rel, obj⟩
      · rw [off y] at z
        cases z
    refine quiet_from H inK gl bn bb nl gens obj quiet F bind one (begin_ _ one (.inl (.inr ⟨_, at_⟩))) never hok (fun b z => ?_) fun _ => look
    by_cases y : b = a
    · exact y
    · exact (z (off y)).elim
end
/-- a law whose def is run where no repr is under way -/
theorem walk_quiet {l : PySem.W.OpenLaw} {n k : Nat} {q : Program} {loose : List Str} {XP : (Str → Option Value) → Heap → Prop} {YP : World → Heap → Prop} {d : DefRec} {K : Params → PySem.W.Frag} {C : World → CXT} {sp : World → Sp} {x : Str}
    (most : l.most = some n) (few : n ≤ sizeLine) (plain : d.params.defaults = []) (quiet : Quiet k callerA) (inK : ∀ (w : World) (h : Heap), YP w h → (K w.params).In h)
    (F : ∀ (w : World) (mg : Str → Option Value) (fa : Addr) (h : Heap), (K w.params).In h → h.Ns mainGlobals mg → mg d.name = some (.ref fa) →
      ∃ fd : FuncData, (∀ (s : Shared) (u : Value), BindsTo s fd ⟨[u], []⟩ [(x, u)]) ∧ ∀ base : Heap, (K w.params).In base → base.Ns mainGlobals mg → FnQ l.prog w (K w.params) mg base (C w) k fa fd [x] (sp w))
    (begin_ : ∀ (w : World) (H : Hp) (a : Addr) (ns : List Int), ns.length ≤ n → Only H → SqL (K w.params) H a (ns.map V.int) → sp w [.ref a] H (fun v _ => v = .bl true) fun _ _ _ => False)
    (never : ∀ (w : World) (H : Hp) (s : Shared) (e : Value) (s' : Shared), C w [] H s (fun _ _ _ => False) e s' → False) :
    PySem.W.WalkO q loose XP YP l.row.toRowW d [] (fun f vs => PySem.call f vs) := by
  refine Att.attach_call most plain ?_
  intro w s0 s1 mg mb fa o pm cd doc a vs ns G Y _ _ _ hmg obj whole len gens
  obtain ⟨fd, bind, fn⟩ := F w mg fa _ (inK w _ Y) G.T.g hmg
  exact law_quiet (inK w _ Y) G.T.g G.T.b G.T.builtins G.T.nolimit gens obj whole (Nat.le_trans len few) quiet fn bind (fun H one sq => begin_ w H a ns len one sq) fun H e s' => never w H s1 e s'
end Ver
namespace Ver
open PySem PySem.Spec PyProof.Rows L2
def top (i : Nat) : Stmt := PySem.Challenge.pw_thankways_k04_deeds_of_any_kind.main.body.getD i (.Pass ⟨0, 0, 0, 0⟩)
abbrev s_is_whole : Stmt := top 1
abbrev s_is_name : Stmt := top 6
abbrev s_is_holder : Stmt := top 7
abbrev s_is_measure : Stmt := top 8
abbrev s_is_deed : Stmt := top 9
abbrev s_is_short_deed : Stmt := top 10
abbrev s_is_deed_between_two : Stmt := top 11
abbrev s_Lcell : Stmt := top 13
abbrev s_Lpool : Stmt := top 14
abbrev s_Ltake : Stmt := top 15
abbrev s_Lis_name : Stmt := top 16
abbrev s_Lis_deed : Stmt := top 17
abbrev s_Lname : Stmt := top 18
abbrev s_Ldeed : Stmt := top 19
abbrev s_Lodd : Stmt := top 20
abbrev s_Lbent : Stmt := top 21
abbrev s_Lright : Stmt := top 22
abbrev s_law : Stmt := top 23
theorem sc_is_whole : FnScope ["thing"] ["thing"] (defScope s_is_whole) := ⟨rfl, rfl, rfl, by decide +kernel, rfl, by decide +kernel, by decide +kernel⟩
theorem sc_is_name : FnScope ["thing", "sign"] ["thing"] (defScope s_is_name) := ⟨rfl, rfl, rfl, by decide +kernel, rfl, by decide +kernel, by decide +kernel⟩
theorem sc_is_holder : FnScope ["thing"] ["thing"] (defScope s_is_holder) := ⟨rfl, rfl, rfl, by decide +kernel, rfl, by decide +kernel, by decide +kernel⟩
theorem sc_is_measure : FnScope ["thing"] ["thing"] (defScope s_is_measure) := ⟨rfl, rfl, rfl, by decide +kernel, rfl, by decide +kernel, by decide +kernel⟩
theorem sc_is_deed : FnScope ["thing"] ["thing"] (defScope s_is_deed) := ⟨rfl, rfl, rfl, by decide +kernel, rfl, by decide +kernel, by decide +kernel⟩
theorem sc_is_short_deed : FnScope ["row", "word"] ["row"] (defScope s_is_short_deed) := ⟨rfl, rfl, rfl, by decide +kernel, rfl, by decide +kernel, by decide +kernel⟩
theorem sc_is_deed_between_two : FnScope ["row"] ["row"] (defScope s_is_deed_between_two) := ⟨rfl, rfl, rfl, by decide +kernel, rfl, by decide +kernel, by decide +kernel⟩
theorem sc_Lcell : FnScope ["_law_script", "_law_k", "_law_state", "_law_cell_here"] ["_law_script", "_law_k"] (defScope s_Lcell) := ⟨rfl, rfl, rfl, by decide +kernel, rfl, by decide +kernel, by decide +kernel⟩
theorem sc_Lpool : FnScope ["_law_cell_here", "_law_digits"] ["_law_cell_here"] (defScope s_Lpool) := ⟨rfl, rfl, rfl, by decide +kernel, rfl, by decide +kernel, by decide +kernel⟩
theorem sc_Ltake : FnScope ["_law_pool_here", "_law_many", "_law_state", "_law_digit"] ["_law_pool_here", "_law_many"] (defScope s_Ltake) := ⟨rfl, rfl, rfl, by decide +kernel, rfl, by decide +kernel, by decide +kernel⟩
theorem sc_Lis_name : FnScope ["_law_matter", "_law_sign"] ["_law_matter"] (defScope s_Lis_name) := ⟨rfl, rfl, rfl, by decide +kernel, rfl, by decide +kernel, by decide +kernel⟩
theorem sc_Lis_deed : FnScope ["_law_matter", "_law_forms", "_law_sorts", "_law_part", "_law_sort"] ["_law_matter"] (defScope s_Lis_deed) := ⟨rfl, rfl, rfl, by decide +kernel, rfl, by decide +kernel, by decide +kernel⟩
theorem sc_Lname : FnScope ["_law_pool_here", "_law_own", "_law_k"] ["_law_pool_here"] (defScope s_Lname) := ⟨rfl, rfl, rfl, by decide +kernel, rfl, by decide +kernel, by decide +kernel⟩
theorem sc_Ldeed : FnScope ["_law_pool_here", "_law_word", "_law_one", "_law_two", "_law_lot", "_law_many"] ["_law_pool_here", "_law_word"] (defScope s_Ldeed) := ⟨rfl, rfl, rfl, by decide +kernel, rfl, by decide +kernel, by decide +kernel⟩
theorem sc_Lodd : FnScope ["_law_pool_here", "_law_some"] ["_law_pool_here"] (defScope s_Lodd) := ⟨rfl, rfl, rfl, by decide +kernel, rfl, by decide +kernel, by decide +kernel⟩
theorem sc_Lbent : FnScope ["_law_pool_here", "_law_deed_here", "_law_at", "_law_to", "_law_mode", "_law_words"] ["_law_pool_here", "_law_deed_here"] (defScope s_Lbent) := ⟨rfl, rfl, rfl, by decide +kernel, rfl, by decide +kernel, by decide +kernel⟩
theorem sc_Lright : FnScope ["_law_matter", "_law_due", "_law_kept", "_law_told"] ["_law_matter"] (defScope s_Lright) := ⟨rfl, rfl, rfl, by decide +kernel, rfl, by decide +kernel, by decide +kernel⟩
theorem sc_law : FnScope ["_law_script", "_law_words", "_law_odd_here", "_law_k", "_law_pool_here", "_law_word", "_law_deed_here", "_law_matter", "_law_turn"] ["_law_script"] (defScope s_law) := ⟨rfl, rfl, rfl, by decide +kernel, rfl, by decide +kernel, by decide +kernel⟩
structure Adr where
  f_is_whole : Addr
  d_is_whole : FuncData
  f_is_name : Addr
  d_is_name : FuncData
  f_is_holder : Addr
  d_is_holder : FuncData
  f_is_measure : Addr
  d_is_measure : FuncData
  f_is_deed : Addr
  d_is_deed : FuncData
  f_is_short_deed : Addr
  d_is_short_deed : FuncData
  f_is_deed_between_two : Addr
  d_is_deed_between_two : FuncData
  f_Lcell : Addr
  d_Lcell : FuncData
  f_Lpool : Addr
  d_Lpool : FuncData
  f_Ltake : Addr
  d_Ltake : FuncData
  f_Lis_name : Addr
  d_Lis_name : FuncData
  f_Lis_deed : Addr
  d_Lis_deed : FuncData
  f_Lname : Addr
  d_Lname : FuncData
  f_Ldeed : Addr
  d_Ldeed : FuncData
  f_Lodd : Addr
  d_Lodd : FuncData
  f_Lbent : Addr
  d_Lbent : FuncData
  f_Lright : Addr
  d_Lright : FuncData
  t_CHEST : Tok
  t_MOST_LETTERS : Tok
  t_MOST_MEASURES : Tok
/-- what the top has left -/
structure Tx (K : PySem.W.Frag) (mg : Str → Option Value) (A : Adr) : Prop where
  c_CHEST : mg "CHEST" = some (.str "chest" A.t_CHEST)
  c_MOST_LETTERS : mg "MOST_LETTERS" = some (.int 8 A.t_MOST_LETTERS)
  c_MOST_MEASURES : mg "MOST_MEASURES" = some (.int 9999 A.t_MOST_MEASURES)
  m_abs : mg "abs" = none
  m_all : mg "all" = none
  m_bool : mg "bool" = none
  m_divmod : mg "divmod" = none
  m_int : mg "int" = none
  m_isinstance : mg "isinstance" = none
  m_len : mg "len" = none
  m_list : mg "list" = none
  m_max : mg "max" = none
  m_min : mg "min" = none
  m_range : mg "range" = none
  m_repr : mg "repr" = none
  m_str : mg "str" = none
  m_tuple : mg "tuple" = none
  m_zip : mg "zip" = none
  F_is_whole : Fun K "is_whole" "is_whole" s_is_whole A.f_is_whole A.d_is_whole
  g_is_whole : mg "is_whole" = some (.ref A.f_is_whole)
  b_is_whole : Binds K A.d_is_whole ["thing"] []
  F_is_name : Fun K "is_name" "is_name" s_is_name A.f_is_name A.d_is_name
  g_is_name : mg "is_name" = some (.ref A.f_is_name)
  b_is_name : Binds K A.d_is_name ["thing"] []
  F_is_holder : Fun K "is_holder" "is_holder" s_is_holder A.f_is_holder A.d_is_holder
  g_is_holder : mg "is_holder" = some (.ref A.f_is_holder)
  b_is_holder : Binds K A.d_is_holder ["thing"] []
  F_is_measure : Fun K "is_measure" "is_measure" s_is_measure A.f_is_measure A.d_is_measure
  g_is_measure : mg "is_measure" = some (.ref A.f_is_measure)
  b_is_measure : Binds K A.d_is_measure ["thing"] []
  F_is_deed : Fun K "is_deed" "is_deed" s_is_deed A.f_is_deed A.d_is_deed
  g_is_deed : mg "is_deed" = some (.ref A.f_is_deed)
  b_is_deed : Binds K A.d_is_deed ["thing"] []
  F_is_short_deed : Fun K "is_short_deed" "is_short_deed" s_is_short_deed A.f_is_short_deed A.d_is_short_deed
  g_is_short_deed : mg "is_short_deed" = some (.ref A.f_is_short_deed)
  b_is_short_deed : Binds K A.d_is_short_deed ["row"] []
  F_is_deed_between_two : Fun K "is_deed_between_two" "is_deed_between_two" s_is_deed_between_two A.f_is_deed_between_two A.d_is_deed_between_two
  g_is_deed_between_two : mg "is_deed_between_two" = some (.ref A.f_is_deed_between_two)
  b_is_deed_between_two : Binds K A.d_is_deed_between_two ["row"] []
  F_Lcell : Fun K "_law_cell" "_law_cell" s_Lcell A.f_Lcell A.d_Lcell
  g_Lcell : mg "_law_cell" = some (.ref A.f_Lcell)
  b_Lcell : Binds K A.d_Lcell ["_law_script", "_law_k"] []
  F_Lpool : Fun K "_law_pool" "_law_pool" s_Lpool A.f_Lpool A.d_Lpool
  g_Lpool : mg "_law_pool" = some (.ref A.f_Lpool)
  b_Lpool : Binds K A.d_Lpool ["_law_cell_here"] []
  F_Ltake : Fun K "_law_take" "_law_take" s_Ltake A.f_Ltake A.d_Ltake
  g_Ltake : mg "_law_take" = some (.ref A.f_Ltake)
  b_Ltake : Binds K A.d_Ltake ["_law_pool_here", "_law_many"] []
  F_Lis_name : Fun K "_law_is_name" "_law_is_name" s_Lis_name A.f_Lis_name A.d_Lis_name
  g_Lis_name : mg "_law_is_name" = some (.ref A.f_Lis_name)
  b_Lis_name : Binds K A.d_Lis_name ["_law_matter"] []
  F_Lis_deed : Fun K "_law_is_deed" "_law_is_deed" s_Lis_deed A.f_Lis_deed A.d_Lis_deed
  g_Lis_deed : mg "_law_is_deed" = some (.ref A.f_Lis_deed)
  b_Lis_deed : Binds K A.d_Lis_deed ["_law_matter"] []
  F_Lname : Fun K "_law_name" "_law_name" s_Lname A.f_Lname A.d_Lname
  g_Lname : mg "_law_name" = some (.ref A.f_Lname)
  b_Lname : Binds K A.d_Lname ["_law_pool_here"] []
  F_Ldeed : Fun K "_law_deed" "_law_deed" s_Ldeed A.f_Ldeed A.d_Ldeed
  g_Ldeed : mg "_law_deed" = some (.ref A.f_Ldeed)
  b_Ldeed : Binds K A.d_Ldeed ["_law_pool_here", "_law_word"] []
  F_Lodd : Fun K "_law_odd" "_law_odd" s_Lodd A.f_Lodd A.d_Lodd
  g_Lodd : mg "_law_odd" = some (.ref A.f_Lodd)
  b_Lodd : Binds K A.d_Lodd ["_law_pool_here"] []
  F_Lbent : Fun K "_law_bent" "_law_bent" s_Lbent A.f_Lbent A.d_Lbent
  g_Lbent : mg "_law_bent" = some (.ref A.f_Lbent)
  b_Lbent : Binds K A.d_Lbent ["_law_pool_here", "_law_deed_here"] []
  F_Lright : Fun K "_law_right" "_law_right" s_Lright A.f_Lright A.d_Lright
  g_Lright : mg "_law_right" = some (.ref A.f_Lright)
  b_Lright : Binds K A.d_Lright ["_law_matter"] []
  kb0_is_deed_thing : KBn K A.d_is_deed ["thing"] 0 ["thing"] (fun _ zs => zs) (fun _ zs => zs)
local macro_rules | `(tactic| walk_at "w") => `(tactic| first
  | with_reducible refine wSeq ?_
  | with_reducible refine wAsg ?_
  | with_reducible refine wOp ?_
  | with_reducible refine wVar (by with_unfolding_all exact rfl) ?_
  | with_reducible refine wC ?_
  | with_reducible refine wRet ?_
  | with_reducible refine wIfS ?_
  | with_reducible refine wI0 ?_
  | with_reducible refine wCons ?_
  | with_reducible refine wNil ?_
  | with_reducible refine wCB ?_
  | with_reducible refine wCall ?_
  | with_reducible refine wCallN ?_
  | with_reducible refine wTest ?_
  | with_reducible refine wB ?_
  | with_reducible refine exBl ?_
  | with_reducible refine exInt ?_
  | with_reducible refine exI1 ?_
  | with_reducible refine exI2 ?_
  | with_reducible refine exStr ?_
  | with_reducible refine wSlS (by with_unfolding_all walk_at "sl") ?_
  | with_reducible refine anSum (by with_unfolding_all walk_at "sl") ?_
  | with_reducible refine exSS ?_
  | with_reducible refine exCS ?_
  | with_reducible refine wLc ?_
  | with_reducible refine wFor ?_
  | with_reducible refine wWhile ?_
  | with_reducible refine wOrT ?_
  | with_reducible refine wIList ?_
  | with_reducible refine wITup ?_
  | with_reducible refine wIStr ?_
  | with_reducible refine wIRng1 ?_
  | with_reducible refine anSz (by with_unfolding_all exact Nat.le_of_ble_eq_true rfl) ?_
  | with_reducible refine anStr ?_
  | with_reducible refine wName ?_
  | with_reducible refine iteT ?_
  | with_reducible refine iteF ?_
  | with_reducible refine iteNT ?_
  | with_reducible refine iteNF ?_
  | with_reducible refine wIsiS ?_
  | with_reducible refine wIsiB ?_
  | with_reducible refine wAnd ?_
  | with_reducible refine wOr ?_
  | with_reducible refine wNot ?_
  | with_reducible refine wAndV ?_
  | with_reducible refine wOrV ?_
  | with_reducible refine wNotV ?_
  | with_reducible refine wIf ?_
  | with_reducible refine wChain ?_
  | with_reducible refine wTup ?_
  | with_reducible refine wLst ?_
  | with_reducible refine wSl ?_
  | with_reducible refine wDnew ?_
  | with_reducible refine wPart ?_
  | with_reducible refine wNoPart ?_
  | with_reducible refine wBM ?_
  | with_reducible refine wBM0 ?_
  | with_reducible refine wM0 ?_
  | with_reducible refine wM1 ?_
  | with_reducible refine wUn ?_
  | with_reducible refine wU ?_
  | with_reducible refine wDrop ?_
  | with_reducible refine wNext ?_
  | with_reducible refine wPar ?_
  | with_reducible refine exTwo ?_
  | with_reducible refine wSub ?_
  | with_reducible refine wGCons ?_
  | with_reducible refine wGNil ?_
  | with_reducible refine wDGet ?_
  | with_reducible refine wDIn ?_
  | with_reducible refine wDNotIn ?_
  | with_reducible refine wPairs ?_
  | with_reducible refine wPairs0 ?_
  | with_reducible refine wPar3 ?_
  | with_reducible refine exThree ?_
  | ((with_reducible refine wEq ?h1 ?_); (case h1 => exact rfl))
  | ((with_reducible refine wNe ?h1 ?_); (case h1 => exact rfl))
  | with_reducible refine wIxL (SqL.of (by with_unfolding_all assumption)) (by with_unfolding_all exact rfl) ?_
  | with_reducible refine wIxT (SqT.of (by with_unfolding_all assumption)) (by with_unfolding_all exact rfl) ?_
  | with_reducible refine wIxL (SqL.of upd_same) (by with_unfolding_all exact rfl) ?_
  | with_reducible refine wSetL upd_same (by with_unfolding_all exact rfl) ?_
  | with_reducible refine wSetL (by with_unfolding_all assumption) (by with_unfolding_all exact rfl) ?_
  | ((with_reducible refine wI ?h1 ?_); (case h1 => walk_at "wc"))
  | with_reducible refine iteNS (by with_unfolding_all exact rfl) ?_
  | dsimp only [])
local macro_rules | `(tactic| walk_at "ww") => `(tactic| repeat (walk_at "w"))
local macro_rules | `(tactic| walk_at "wc") => `(tactic| first
  | exact wide_mul (by assumption) (by assumption) (by omega) (by omega) (by omega)
  | exact .inl ⟨by omega, by omega⟩
  | exact .inr ⟨by omega, by omega⟩
  | exact ⟨by omega, by omega⟩
  | exact ⟨by decide, by decide⟩
  | exact ⟨by decide, by decide, by decide⟩
  | (show (0 : Int) < _; omega)
  | (show _ ≠ (0 : Int); omega))
local macro_rules | `(tactic| walk_at "sl") => `(tactic| (refine sz6 ?_; (try simp only [app_len]); omega))
local macro_rules | `(tactic| walk_at "lk") => `(tactic| first | assumption | exact Ex.get (by assumption) (by walk_at "lk"))
local macro_rules | `(tactic| walk_at "things") => `(tactic| ((repeat' (first | exact List.forall_mem_nil _ | refine List.forall_mem_append.mpr ⟨?_, ?_⟩ | refine List.forall_mem_cons.mpr ⟨?_, ?_⟩)) <;> first
  | exact Thing.n | exact Thing.b | exact Thing.i | exact Thing.s (by decide +kernel) | exact Thing.t (by walk_at "lk") | exact Thing.l (by walk_at "lk") | exact Thing.d (by walk_at "lk")))
section
variable {P : Program} {w : World} {K : PySem.W.Frag} {mg : Str → Option Value} {base : Heap} {A : Adr}
/-- a pool: a state, digits, how many were taken -/
def Pool (H : Hp) (p : Addr) : Prop := ∃ s g n : Int, H p = some (.lst [.int s, .int g, .int n]) ∧ 0 ≤ s ∧ s < 2147483423 ∧ 0 ≤ g
theorem Pool.ne {H : Hp} {p q : Addr} (h : Pool H p) (hq : H q = none) : q ≠ p := fun e => by
  obtain ⟨_, _, _, h, _⟩ := h
  rw [← e, hq] at h
  cases h
theorem Pool.upd {H : Hp} {p q : Addr} {o : HO} (h : Pool H p) (n : q ≠ p) : Pool (upd H q o) p := by
  obtain ⟨s, g, m, h, r⟩ := h
  exact ⟨s, g, m, (upd_ne n.symm).trans h, r⟩
theorem Pool.ex {H H' : Hp} {p : Addr} (h : Pool H p) (e : Ex H H') : Pool H' p := by
  obtain ⟨s, g, m, h, r⟩ := h
  exact ⟨s, g, m, e _ _ h, r⟩
def spTake : Sp := fun vs H Q _ => ∃ (p : Addr) (m : Int), vs = [.ref p, .int m] ∧ Pool H p ∧ 0 < m ∧ m < 1073741824 ∧ ∀ d H', 0 ≤ d → d < m → Kp p H H' → Pool H' p → Q (.int d) H'
def spPool : Sp := fun vs H Q _ => ∃ c : Int, vs = [.int c] ∧ ∀ p H', H p = none → Ex H H' → Pool H' p → Q (.ref p) H'
def spCell (K : PySem.W.Frag) : Sp := fun vs H Q _ => ∃ (a : Addr) (ns : List Int) (k : Int), vs = [.ref a, .int k] ∧ SqL K H a (ns.map V.int) ∧ ns.length ≤ 63 ∧ 0 ≤ k ∧ k ≤ 63 ∧ ∀ c H', Ex H H' → Q (.int c) H'
theorem ok_Ltake (T : Tx K mg A) : FnOk P w K mg base CX0 1 A.f_Ltake A.d_Ltake ["_law_pool_here", "_law_many"] spTake := by
  refine T.F_Ltake.ok sc_Ltake (fun vs H Q E h => ?_) (fun cdv A' outer s H vs Q E hr h => ?_)
  · obtain ⟨p, m, rfl, _⟩ := h
    rfl
  · obtain ⟨p, m, rfl, ⟨s, g, n, hp, hs0, hs1, hg⟩, hm0, hm1, k⟩ := h
    refine ⟨_, (pss_cons (ps_asg (pe_op op_add (pe_ix (ix_listV (K := K) rfl) (pv 0) pe_int (fun _ _ => rfl)) pe_int) (pg_sub (pv 0) pe_int set_list))
    (pss_cons (ps_set (i := 2) sc_Ltake.nd rfl (Or.inl rfl) (pe_ix (ix_listV (K := K) rfl) (pv 0) pe_int (fun _ _ => rfl)))
    (pss_cons (ps_asg (pe_op op_mod (pe_op op_add (pe_op op_mul (pv 2) (pe_op op_add (pe_op op_mod (pv 2) pe_int) pe_int)) (pe_op op_mul pe_int (pe_ix (ix_listV (K := K) rfl) (pv 0) pe_int (fun _ _ => rfl)))) pe_int) (pg_sub (pv 0) pe_int set_list))
    (pss_cons (ps_if (pt_cmpR op_gt (pe_ix (ix_listV (K := K) rfl) (pv 0) pe_int (fun _ _ => rfl)) pe_int (nomark _))
    (pss_cons (ps_asg (pe_callB call_divmod (by rfl) T.m_divmod (by decide +kernel) (pa_cons (pe_ix (ix_listV (K := K) rfl) (pv 0) pe_int (fun _ _ => rfl)) (pa_cons (pv 1) pa_nil))) (pg_tupV (K := K) (n := 2) rfl rfl (pgs_cons (pg_sub (pv 0) pe_int set_list) (pgs_cons (pg_name (i := 3) sc_Ltake.nd rfl (Or.inl rfl)) pgs_nil)) rfl))
      (pss_one (ps_ret (pv 3))))
    pss_nil)
    (pss_one (ps_ret (pe_op op_mod (pe_op op_fdiv (pe_ix (ix_listV (K := K) rfl) (pv 0) pe_int (fun _ _ => rfl)) pe_int) (pv 1)))))))), ?_⟩
    walk_at "ww"
    have q1 : ∀ x : Int, 0 ≤ x % 2147483423 ∧ x % 2147483423 < 2147483423 := fun x => by omega
    have keep : ∀ (o : HO) (H1 : Hp), Kp p H H1 → Kp p H (upd H1 p o) := fun o H1 e => e.trans Kp.set
    refine ite2 (fun c => ?_) (fun c => ?_)
    · walk_at "ww"
      refine ⟨⟨hm0, hm1⟩, fun t nt => ?_⟩
      have ntp : p ≠ t := fun e => by
        rw [← e, upd_same] at nt
        cases nt
      refine wGTup (SqT.of upd_same) rfl ?_
      walk_at "ww"
      refine wSetL ((upd_ne ntp).trans upd_same) rfl ?_
      walk_at "ww"
      refine k _ _ (Int.emod_nonneg _ (by omega)) (Int.emod_lt_of_pos _ hm0) ?_ ⟨_, _, _, upd_same, (q1 _).1, (q1 _).2, Int.ediv_nonneg hg (by omega)⟩
      refine Kp.trans (Kp.trans (keep _ _ Kp.set) (Kp.new nt)) Kp.set
    · walk_at "ww"
      exact k _ _ (Int.emod_nonneg _ (by omega)) (Int.emod_lt_of_pos _ hm0) (keep _ _ Kp.set) ⟨_, _, _, upd_same, (q1 _).1, (q1 _).2, hg⟩
theorem ok_Lpool (T : Tx K mg A) : FnOk P w K mg base CX0 1 A.f_Lpool A.d_Lpool ["_law_cell_here"] spPool := by
  refine T.F_Lpool.ok sc_Lpool (fun vs H Q E h => ?_) (fun cdv A' outer s H vs Q E hr h => ?_)
  · obtain ⟨c, rfl, _⟩ := h
    rfl
  · obtain ⟨c, rfl, k⟩ := h
    refine ⟨_, (pss_cons (ps_set (i := 1) sc_Lpool.nd rfl (Or.inl rfl) pe_int)
    (pss_cons (ps_if (PW.pt (pw_or (pt_cmpR op_lt (pv 0) pe_int (nomark _)) (pw_or1 (pt_cmpR op_ge (pv 0) (pe_op op_pow pe_int pe_int) (nomark _)))))
    (pss_one (ps_set (i := 1) sc_Lpool.nd rfl (Or.inl rfl) (pe_callB call_abs (by rfl) T.m_abs (by decide +kernel) (pa_cons (pv 0) pa_nil))))
    pss_nil)
    (pss_one (ps_ret (pe_lst (pa_cons (pe_op op_mod (pv 0) pe_int) (pa_cons (pv 1) (pa_cons pe_int pa_nil)))))))), ?_⟩
    have fin : ∀ g : Int, 0 ≤ g → ∀ p, H p = none → Q (.ref p) (upd H p (.lst [.int (c % 2147483423), .int g, .int 0])) := fun g hg p hp =>
      k p _ hp (Ex.new hp) ⟨_, _, _, upd_same, by omega, by omega, hg⟩
    walk_at "ww"
    refine ite2 (fun c1 => ?_) (fun c1 => ?_)
    · walk_at "ww"
      exact fun p hp => fin _ (by split <;> omega) p hp
    · walk_at "ww"
      refine ite2 (fun c2 => ?_) (fun c2 => ?_)
      · walk_at "ww"
        exact fun p hp => fin _ (by split <;> omega) p hp
      · walk_at "ww"
        exact fun p hp => fin _ (by omega) p hp
theorem ok_Lcell (T : Tx K mg A) : FnOk P w K mg base CX0 1 A.f_Lcell A.d_Lcell ["_law_script", "_law_k"] (spCell K) := by
  refine T.F_Lcell.ok sc_Lcell (fun vs H Q E h => ?_) (fun cdv A' outer s H vs Q E hr h => ?_)
  · obtain ⟨a, ns, c, rfl, _⟩ := h
    rfl
  · obtain ⟨a, ns, c, rfl, hS, hlen, h0, h63, k⟩ := h
    refine ⟨_, (pss_cons (ps_if (pt_cmpR op_lt (pv 1) (pe_callB (call_lenV (K := K) rfl) (by rfl) T.m_len (by decide +kernel) (pa_cons (pv 0) pa_nil)) (nomark _))
    (pss_one (ps_ret (pe_ix (ix_listV (K := K) rfl) (pv 0) (pv 1) (fun _ _ => rfl))))
    pss_nil)
    (pss_cons (ps_set (i := 2) sc_Lcell.nd rfl (Or.inl rfl) (pe_op op_mod (pe_op op_mul pe_int (pe_op op_add (pe_op op_add (pe_op op_mul (pv 1) (pv 1)) (pe_op op_mul pe_int (pv 1))) pe_int)) pe_int))
    (pss_cons (ps_for PassesOwn.never rfl (pi_listV (K := K) rfl (pe_slice (sl_listV (K := K) rfl) (pv 0) po_none (po_some pe_int))) (pg_name (i := 3) sc_Lcell.nd rfl (Or.inl rfl))
    (pss_one (ps_set (i := 2) sc_Lcell.nd rfl (Or.inl rfl) (pe_op op_mod (pe_op op_add (pe_op op_mul (pv 2) pe_int) (pv 3)) pe_int))))
    (pss_one (ps_ret (pv 2)))))), ?_⟩
    walk_at "ww"
    refine wLenL hS ?_
    walk_at "ww"
    refine ite2 (fun c1 => ?_) (fun c1 => ?_)
    · walk_at "ww"
      have h1 : c.toNat < ns.length := by
        have := of_decide_eq_true c1
        rw [List.length_map] at this
        omega
      refine wIxL hS (at_of (j := c.toNat) (by omega) (by rw [List.getElem?_map, List.getElem?_eq_getElem h1]; rfl)) ?_
      exact k _ _ (Ex.refl H)
    · walk_at "ww"
      refine wSlL hS fun l hl => ?_
      walk_at "ww"
      refine exSq (SqL.of upd_same) ?_
      have el : cutV (ns.map V.int) none (some 3) = (ns.take 3).map V.int := by
        unfold cutV
        rw [HT.sIx_none, show HT.sIx (ns.map V.int).length (ns.map V.int).length (some 3) = min 3 (ns.map V.int).length from HT.sIx_nat _ _ 3, List.map_take]
        simp
      rw [el]
      refine for_list (K := K) (a := l) (xs := (ns.take 3).map V.int) (fun i σ H2 => ∃ (s : Int) (v : Option V), σ = [some (.ref a), some (.int c), some (.int s), v] ∧ 0 ≤ s ∧ s < 2147483423 ∧ Ex (upd H l (.lst ((ns.take 3).map V.int))) H2)
        ⟨_, none, rfl, by omega, by omega, Ex.refl _⟩ (fun i σ H2 _ ⟨_, _, _, _, _, e⟩ => SqL.of (e _ _ upd_same)) ?_ ?_
      · rintro i y σ H2 hi ⟨s, v, rfl, hs0, hs1, e⟩
        obtain ⟨z, rfl⟩ : ∃ z, y = V.int z := by
          rw [List.getElem?_map] at hi
          obtain ⟨z, _, hz⟩ := Option.map_eq_some_iff.mp hi
          exact ⟨z, hz.symm⟩
        walk_at "ww"
        exact ⟨_, _, rfl, by omega, by omega, e⟩
      · rintro σ H2 ⟨s, v, rfl, hs0, hs1, e⟩
        walk_at "ww"
        exact k _ _ ((Ex.new hl).trans e)
def nameS (z : Str) : Bool := decide (1 ≤ z.length) && decide (z.length ≤ 8) && !decide (z = ("chest" : Str)) && z.cps.toList.all fun c => decide (97 ≤ c ∧ c ≤ 122)
def nameV : V → Bool
  | .str z => nameS z
  | _ => false
def spName (K : PySem.W.Frag) : Sp := fun vs H Q _ => ∃ v, vs = [v] ∧ Thing K H v ∧ ∀ H', Ex H H' → Q (.bl (nameV v)) H'
theorem map_bl {ys : List V} {z : Str} {f : Nat → Bool} (hl : ys.length = z.cps.size) (h : ∀ (j : Nat) y, ys[j]? = some y → ∃ c, z.cps[j]? = some c ∧ y = .bl (f c)) : ys = (z.cps.toList.map f).map V.bl := by
  refine List.ext_getElem? fun j => ?_
  cases e : ys[j]? with
  | none =>
    rw [List.getElem?_eq_none_iff] at e
    rw [List.map_map, List.getElem?_map, List.getElem?_eq_none (by rw [Array.length_toList]; omega)]
    rfl
  | some y =>
    obtain ⟨c, hc, rfl⟩ := h j y e
    rw [List.map_map, List.getElem?_map, Array.getElem?_toList, hc]
    rfl
theorem lt_one (a c : Nat) : decide (([c] : List Nat) < [a]) = decide (c < a) := by
  by_cases h : c < a
  · rw [decide_eq_true h, decide_eq_true]
    exact List.Lex.rel h
  · rw [decide_eq_false h, decide_eq_false]
    intro q
    cases q with
    | rel q => exact h q
    | cons q => cases q
theorem name_chest {z : Str} (h : decide (V.str z = V.str ("chest" : Str)) = true) : nameV (.str z) = false := by
  have e : z = ("chest" : Str) := V.str.inj (of_decide_eq_true h)
  show nameS z = false
  unfold nameS
  rw [decide_eq_true e]
  simp
theorem name_long {z : Str} (h : ¬ z.length ≤ 8) : nameV (.str z) = false := by
  show nameS z = false
  unfold nameS
  rw [decide_eq_false h]
  simp
theorem name_short {z : Str} (h : ¬ 1 ≤ z.length) : nameV (.str z) = false := by
  show nameS z = false
  unfold nameS
  rw [decide_eq_false h]
  simp
theorem name_all {z : Str} (h1 : 1 ≤ z.length) (h2 : z.length ≤ 8) (h3 : ¬ decide (V.str z = V.str ("chest" : Str)) = true) : nameV (.str z) = z.cps.toList.all fun c => decide (97 ≤ c ∧ c ≤ 122) := by
  have h4 : ¬ z = ("chest" : Str) := fun e => h3 (decide_eq_true (by rw [e]))
  show nameS z = _
  unfold nameS
  rw [decide_eq_true h1, decide_eq_true h2, decide_eq_false h4]
  simp
theorem ok_is_name (T : Tx K mg A) : FnOk P w K mg base CX0 1 A.f_is_name A.d_is_name ["thing"] (spName K) := by
  refine T.F_is_name.ok sc_is_name (fun vs H Q E h => ?_) (fun cdv A' outer s H vs Q E hr h => ?_)
  · obtain ⟨v, rfl, _⟩ := h
    rfl
  · obtain ⟨v, rfl, ⟨⟨n, ty⟩, sz⟩, k⟩ := h
    refine ⟨_, (pss_cons (ps_if (PW.pt (pw_or (pt_not (pt_val (pe_callB (call_isiV (K := K) rfl) (by rfl) T.m_isinstance (by decide +kernel) (pa_cons (pv 0) (pa_cons (pe_bltn (v := .ty "str") (by rfl) T.m_str (by decide +kernel) rfl) pa_nil))))) (pw_or1 (pt_cmpR op_eq (pv 0) (pe_glob (v := .str "chest") rfl T.c_CHEST ⟨_, rfl⟩) (nomark _)))))
    (pss_one (ps_ret pe_bl))
    pss_nil)
    (pss_cons (ps_if (pt_not (pt_chain op_le op_le pe_int (pe_callB (call_lenV (K := K) rfl) (by rfl) T.m_len (by decide +kernel) (pa_cons (pv 0) pa_nil)) (pe_glob (v := .int 8) rfl T.c_MOST_LETTERS ⟨_, rfl⟩)))
    (pss_one (ps_ret pe_bl))
    pss_nil)
    (pss_one (ps_ret (pe_callB (cr_allV (K := K) rfl rfl) (by rfl) T.m_all (by decide +kernel) (pa_cons (pe_lc rfl sc_is_name.nd (g := gName 1) (pi_str (pv 0)) (blkOk_by (own := [("sign", 1)]) (N := ["thing", "sign"]) (sc := defScope s_is_name) (by decide +kernel)) (fun _ _ _ _ _ => (pg_name (i := 1) sc_is_name.nd rfl (Or.inl rfl))) (fun _ _ _ _ _ => pts_nil) (fun _ _ _ _ _ => (pe_chain op_le_str op_le_str pe_str (pv 1) pe_str))) pa_nil)))))), ?_⟩
    walk_at "ww"
    by_cases hv : isStr v = true
    · obtain ⟨z, rfl⟩ : ∃ z, v = .str z := by
        cases v <;> first | exact ⟨_, rfl⟩ | cases hv
      have hz : z.length ≤ sizeLine := sz6 (by have := sz z rfl; omega)
      walk_at "ww"
      refine ite2 (fun c1 => ?_) (fun c1 => ?_)
      · walk_at "ww"
        rw [show false = nameV (.str z) from (name_chest c1).symm]
        exact k H (Ex.refl H)
      · walk_at "ww"
        refine wLenS hz ?_
        walk_at "ww"
        refine ite2 (fun c2 => ?_) (fun c2 => ?_)
        · walk_at "ww"
          refine ite2 (fun c3 => ?_) (fun c3 => ?_)
          · walk_at "ww"
            rw [show false = nameV (.str z) from (name_long (by simp at c3; omega)).symm]
            exact k H (Ex.refl H)
          · walk_at "ww"
            intro D hD
            refine lcStr (fun H' => Ex H H') (fun i y _ => ∃ c, z.cps[i]? = some c ∧ y = .bl (decide (97 ≤ c ∧ c ≤ 122))) (by have := sz z rfl; show z.length ≤ _; omega) (fun _ => rfl) (Ex.new hD) (fun i c hc H' acc e hD' hl hR => ?_) (fun H' ys e hD' hl hR => ?_)
            · have hi : i ≤ 100000 := by
                have h1 := (Array.getElem?_eq_some_iff.mp hc).1
                have h2 : z.cps.size ≤ 1000 := sz z rfl
                omega
              have ea : (("a" : Str)).cps.toList = [97] := by decide +kernel
              have ez : (("z" : Str)).cps.toList = [122] := by decide +kernel
              walk_at "ww"
              rw [ea, lt_one]
              refine ite2 (fun d1 => ?_) (fun d1 => ?_)
              · walk_at "ww"
                refine lcAdd hD' hl hi (e.mut hD) hR ⟨c, hc, ?_⟩
                rw [ez]
                show V.bl (!decide (([122] : List Nat) < [c])) = _
                rw [lt_one]
                simp only [Bool.not_eq_true', decide_eq_false_iff_not] at d1
                congr 1
                rw [Bool.eq_iff_iff]
                simp
                omega
              · refine lcAdd hD' hl hi (e.mut hD) hR ⟨c, hc, ?_⟩
                simp only [Bool.not_eq_true', decide_eq_false_iff_not, Classical.not_not] at d1
                rw [decide_eq_false (by omega)]
            · have em := map_bl hl hR
              subst em
              refine wAll (SqL.of hD') ?_
              rw [name_all (by have := of_decide_eq_true c2; omega) (by simp at c3; omega) c1] at k
              rw [List.all_map] at *
              exact k H' e
        · walk_at "ww"
          rw [show false = nameV (.str z) from (name_short (by simp at c2; omega)).symm]
          exact k H (Ex.refl H)
    · have hf : isStr v = false := by simpa using hv
      refine wIsi ty (ty.str_is.trans (by rw [hf])) ?_
      walk_at "ww"
      have e : nameV v = false := by
        cases v <;> first | rfl | cases hf
      rw [← e]
      exact k H (Ex.refl H)
theorem letters_in (c : Nat) : decide (c ∈ (("abcdefghijklmnopqrstuvwxyz" : Str)).cps.toList) = decide (97 ≤ c ∧ c ≤ 122) := by
  have e : (("abcdefghijklmnopqrstuvwxyz" : Str)).cps.toList = (List.range 26).map (· + 97) := by decide +kernel
  rw [e, Bool.eq_iff_iff]
  simp only [decide_eq_true_eq, List.mem_map, List.mem_range]
  constructor
  · rintro ⟨a, h, rfl⟩
    omega
  · intro h
    exact ⟨c - 97, by omega, by omega⟩
theorem ok_Lis_name (T : Tx K mg A) : FnOk P w K mg base CX0 1 A.f_Lis_name A.d_Lis_name ["_law_matter"] (spName K) := by
  refine T.F_Lis_name.ok sc_Lis_name (fun vs H Q E h => ?_) (fun cdv A' outer s H vs Q E hr h => ?_)
  · obtain ⟨v, rfl, _⟩ := h
    rfl
  · obtain ⟨v, rfl, ⟨⟨n, ty⟩, sz⟩, k⟩ := h
    refine ⟨_, (pss_cons (ps_if (PW.pt (pw_or (pt_not (pt_val (pe_callB (call_isiV (K := K) rfl) (by rfl) T.m_isinstance (by decide +kernel) (pa_cons (pv 0) (pa_cons (pe_bltn (v := .ty "str") (by rfl) T.m_str (by decide +kernel) rfl) pa_nil))))) (pw_or (pt_not (pt_chain op_lt op_lt pe_int (pe_callB (call_lenV (K := K) rfl) (by rfl) T.m_len (by decide +kernel) (pa_cons (pv 0) pa_nil)) pe_int)) (pw_or1 (pt_cmpR op_eq (pv 0) pe_str (nomark _))))))
    (pss_one (ps_ret pe_bl))
    pss_nil)
    (pss_one (ps_ret (pe_callB (cr_allV (K := K) rfl rfl) (by rfl) T.m_all (by decide +kernel) (pa_cons (pe_lc rfl sc_Lis_name.nd (g := gName 1) (pi_str (pv 0)) (blkOk_by (own := [("_law_sign", 1)]) (N := ["_law_matter", "_law_sign"]) (sc := defScope s_Lis_name) (by decide +kernel)) (fun _ _ _ _ _ => (pg_name (i := 1) sc_Lis_name.nd rfl (Or.inl rfl))) (fun _ _ _ _ _ => pts_nil) (fun _ _ _ _ _ => (pe_cmpR op_in_sign (pv 1) pe_str (by rfl)))) pa_nil))))), ?_⟩
    walk_at "ww"
    by_cases hv : isStr v = true
    · obtain ⟨z, rfl⟩ : ∃ z, v = .str z := by
        cases v <;> first | exact ⟨_, rfl⟩ | cases hv
      have hz : z.length ≤ sizeLine := sz6 (by have := sz z rfl; omega)
      walk_at "ww"
      refine wLenS hz ?_
      walk_at "ww"
      refine ite2 (fun c2 => ?_) (fun c2 => ?_)
      · walk_at "ww"
        refine ite2 (fun c3 => ?_) (fun c3 => ?_)
        · walk_at "ww"
          rw [show false = nameV (.str z) from (name_long (by simp at c3; omega)).symm]
          exact k H (Ex.refl H)
        · walk_at "ww"
          refine ite2 (fun c1 => ?_) (fun c1 => ?_)
          · walk_at "ww"
            rw [show false = nameV (.str z) from (name_chest c1).symm]
            exact k H (Ex.refl H)
          · walk_at "ww"
            intro D hD
            refine lcStr (fun H' => Ex H H') (fun i y _ => ∃ c, z.cps[i]? = some c ∧ y = .bl (decide (97 ≤ c ∧ c ≤ 122))) (by have := sz z rfl; show z.length ≤ _; omega) (fun _ => rfl) (Ex.new hD) (fun i c hc H' acc e hD' hl hR => ?_) (fun H' ys e hD' hl hR => ?_)
            · have hi : i ≤ 100000 := by
                have h1 := (Array.getElem?_eq_some_iff.mp hc).1
                have h2 : z.cps.size ≤ 1000 := sz z rfl
                omega
              walk_at "ww"
              rw [letters_in]
              exact lcAdd hD' hl hi (e.mut hD) hR ⟨c, hc, rfl⟩
            · have em := map_bl hl hR
              subst em
              refine wAll (SqL.of hD') ?_
              rw [name_all (by simp at c2; omega) (by simp at c3; omega) c1] at k
              rw [List.all_map] at *
              exact k H' e
      · walk_at "ww"
        rw [show false = nameV (.str z) from (name_short (by simp at c2; omega)).symm]
        exact k H (Ex.refl H)
    · have hf : isStr v = false := by simpa using hv
      refine wIsi ty (ty.str_is.trans (by rw [hf])) ?_
      walk_at "ww"
      have e : nameV v = false := by
        cases v <;> first | rfl | cases hf
      rw [← e]
      exact k H (Ex.refl H)
/-- a def of one thing of any kind -/
def spV (K : PySem.W.Frag) (f : V → Bool) : Sp := fun vs H Q _ => ∃ v, vs = [v] ∧ Thing K H v ∧ ∀ H', Ex H H' → Q (.bl (f v)) H'
def isBlV : V → Bool
  | .bl _ => true
  | _ => false
def isIntV : V → Bool
  | .int _ => true
  | .bl _ => true
  | _ => false
def wholeV : V → Bool
  | .int _ => true
  | _ => false
def measV : V → Bool
  | .int i => decide (1 ≤ i) && decide (i ≤ 9999)
  | _ => false
def isW (v : V) (s : Str) : Bool := decide (v = .str s)
def holdV (v : V) : Bool := nameV v || isW v "chest"
theorem Ty.bl_is {K : PySem.W.Frag} {H : Hp} {v : V} {n : String} (h : Ty K H v n) : kitB n "bool" = some (isBlV v) := by
  have e1 : kitB "NoneType" "bool" = some false := by decide +kernel
  have e2 : kitB "bool" "bool" = some true := by decide +kernel
  have e3 : kitB "int" "bool" = some false := by decide +kernel
  have e4 : kitB "str" "bool" = some false := by decide +kernel
  have e5 : kitB "list" "bool" = some false := by decide +kernel
  have e6 : kitB "tuple" "bool" = some false := by decide +kernel
  have e7 : kitB "dict" "bool" = some false := by decide +kernel
  cases h <;> first | exact e1 | exact e2 | exact e3 | exact e4 | exact e5 | exact e6 | exact e7
theorem Ty.int_is {K : PySem.W.Frag} {H : Hp} {v : V} {n : String} (h : Ty K H v n) : kitB n "int" = some (isIntV v) := by
  have e1 : kitB "NoneType" "int" = some false := by decide +kernel
  have e2 : kitB "bool" "int" = some true := by decide +kernel
  have e3 : kitB "int" "int" = some true := by decide +kernel
  have e4 : kitB "str" "int" = some false := by decide +kernel
  have e5 : kitB "list" "int" = some false := by decide +kernel
  have e6 : kitB "tuple" "int" = some false := by decide +kernel
  have e7 : kitB "dict" "int" = some false := by decide +kernel
  cases h <;> first | exact e1 | exact e2 | exact e3 | exact e4 | exact e5 | exact e6 | exact e7
theorem Ty.tup_is {K : PySem.W.Frag} {H : Hp} {v : V} {n : String} (h : Ty K H v n) : kitB n "tuple" = some (decide (n = "tuple")) := by
  have e1 : kitB "NoneType" "tuple" = some (decide ("NoneType" = "tuple")) := by decide +kernel
  have e2 : kitB "bool" "tuple" = some (decide ("bool" = "tuple")) := by decide +kernel
  have e3 : kitB "int" "tuple" = some (decide ("int" = "tuple")) := by decide +kernel
  have e4 : kitB "str" "tuple" = some (decide ("str" = "tuple")) := by decide +kernel
  have e5 : kitB "list" "tuple" = some (decide ("list" = "tuple")) := by decide +kernel
  have e6 : kitB "tuple" "tuple" = some (decide ("tuple" = "tuple")) := by decide +kernel
  have e7 : kitB "dict" "tuple" = some (decide ("dict" = "tuple")) := by decide +kernel
  cases h <;> first | exact e1 | exact e2 | exact e3 | exact e4 | exact e5 | exact e6 | exact e7
theorem ok_is_whole (T : Tx K mg A) : FnOk P w K mg base CX0 1 A.f_is_whole A.d_is_whole ["thing"] (spV K wholeV) := by
  refine T.F_is_whole.ok sc_is_whole (fun vs H Q E h => ?_) (fun cdv A' outer s H vs Q E hr h => ?_)
  · obtain ⟨v, rfl, _⟩ := h
    rfl
  · obtain ⟨v, rfl, ⟨⟨n, ty⟩, sz⟩, k⟩ := h
    refine ⟨_, (pss_one (ps_ret (pe_and (pe_callB (call_isiV (K := K) rfl) (by rfl) T.m_isinstance (by decide +kernel) (pa_cons (pv 0) (pa_cons (pe_bltn (v := .ty "int") (by rfl) T.m_int (by decide +kernel) rfl) pa_nil))) (pe_one (pe_not (pe_callB (call_isiV (K := K) rfl) (by rfl) T.m_isinstance (by decide +kernel) (pa_cons (pv 0) (pa_cons (pe_bltn (v := .ty "bool") (by rfl) T.m_bool (by decide +kernel) rfl) pa_nil)))))))), ?_⟩
    walk_at "ww"
    refine wIsi ty ty.int_is ?_
    walk_at "ww"
    refine ite2 (fun c => ?_) (fun c => ?_)
    · walk_at "ww"
      refine wIsi ty ty.bl_is ?_
      walk_at "ww"
      have e : (!isBlV v) = wholeV v := by cases v <;> first | rfl | cases c
      rw [e]
      exact k H (Ex.refl H)
    · have e : false = wholeV v := by cases v <;> first | rfl | exact absurd rfl c
      rw [e]
      exact k H (Ex.refl H)
theorem ok_is_measure (T : Tx K mg A) : FnOk P w K mg base CX0 2 A.f_is_measure A.d_is_measure ["thing"] (spV K measV) := by
  refine T.F_is_measure.ok sc_is_measure (fun vs H Q E h => ?_) (fun cdv A' outer s H vs Q E hr h => ?_)
  · obtain ⟨v, rfl, _⟩ := h
    rfl
  · obtain ⟨v, rfl, th, k⟩ := h
    refine ⟨_, (pss_one (ps_ret (pe_and (pe_call (ok_is_whole T) (hr.mono (by decide)) (by rfl) T.g_is_whole T.F_is_whole.kp T.b_is_whole .nil pass0 (pa_cons (pv 0) pa_nil)) (pe_one (pe_chain op_le op_le pe_int (pv 0) (pe_glob (v := .int 9999) rfl T.c_MOST_MEASURES ⟨_, rfl⟩)))))), ?_⟩
    walk_at "ww"
    refine ⟨v, rfl, th, fun H1 e1 => ?_⟩
    walk_at "ww"
    by_cases c : wholeV v = true
    · obtain ⟨i, rfl⟩ : ∃ i, v = .int i := by
        cases v <;> first | exact ⟨_, rfl⟩ | cases c
      rw [if_pos c]
      walk_at "ww"
      refine ite2 (fun c1 => ?_) (fun c1 => ?_)
      · walk_at "ww"
        rw [show decide (i ≤ 9999) = measV (.int i) from by show _ = (decide (1 ≤ i) && decide (i ≤ 9999)); rw [c1]; rfl]
        exact k H1 e1
      · walk_at "ww"
        rw [show false = measV (.int i) from by show _ = (decide (1 ≤ i) && decide (i ≤ 9999)); rw [Bool.not_eq_true] at c1; rw [c1]; rfl]
        exact k H1 e1
    · rw [if_neg c]
      have e : false = measV v := by cases v <;> first | rfl | exact absurd rfl c
      rw [e]
      exact k H1 e1
theorem ok_is_holder (T : Tx K mg A) : FnOk P w K mg base CX0 2 A.f_is_holder A.d_is_holder ["thing"] (spV K holdV) := by
  refine T.F_is_holder.ok sc_is_holder (fun vs H Q E h => ?_) (fun cdv A' outer s H vs Q E hr h => ?_)
  · obtain ⟨v, rfl, _⟩ := h
    rfl
  · obtain ⟨v, rfl, th, k⟩ := h
    refine ⟨_, (pss_one (ps_ret (pe_or (pe_call (ok_is_name T) (hr.mono (by decide)) (by rfl) T.g_is_name T.F_is_name.kp T.b_is_name .nil pass0 (pa_cons (pv 0) pa_nil)) (pe_one (pe_and (pe_callB (call_isiV (K := K) rfl) (by rfl) T.m_isinstance (by decide +kernel) (pa_cons (pv 0) (pa_cons (pe_bltn (v := .ty "str") (by rfl) T.m_str (by decide +kernel) rfl) pa_nil))) (pe_one (pe_cmpR op_eq (pv 0) (pe_glob (v := .str "chest") rfl T.c_CHEST ⟨_, rfl⟩) (nomark _)))))))), ?_⟩
    walk_at "ww"
    refine ⟨v, rfl, th, fun H1 e1 => ?_⟩
    walk_at "ww"
    refine ite2 (fun c => ?_) (fun c => ?_)
    · rw [show true = holdV v from by unfold holdV; rw [c]; rfl]
      exact k H1 e1
    · walk_at "ww"
      obtain ⟨n, ty⟩ := (th.ex e1).ty
      refine wIsi ty ty.str_is ?_
      walk_at "ww"
      rw [Bool.not_eq_true] at c
      by_cases hv : isStr v = true
      · obtain ⟨z, rfl⟩ : ∃ z, v = .str z := by
          cases v <;> first | exact ⟨_, rfl⟩ | cases hv
        rw [if_pos hv]
        walk_at "ww"
        rw [show decide (V.str z = V.str "chest") = holdV (.str z) from by unfold holdV isW; rw [c]; rfl]
        exact k H1 e1
      · rw [if_neg hv]
        rw [show false = holdV v from by unfold holdV isW; rw [c]; cases v <;> first | rfl | exact absurd rfl hv]
        exact k H1 e1
def shortL : List V → Bool
  | [w, x] => (isW w "come" || isW w "go") && nameV x
  | [w, x, y, m] => isW w "bring" && nameV x && nameV y && measV m
  | _ => false
def twoL : List V → Bool
  | [w, x, y, m] => measV m && nameV x && holdV y && !decide (x = y) && (isW w "forget" || (isW w "give" && !isW y "chest"))
  | [w, x, y, l, m] => measV m && nameV x && holdV y && !decide (x = y) && (isW w "hand" && !isW y "chest" && nameV l)
  | _ => false
def deedL (xs : List V) : Bool := shortL xs || twoL xs
/-- a tuple with things in it -/
structure Tp (K : PySem.W.Frag) (H : Hp) (a : Addr) (xs : List V) : Prop where
  at_ : H a = some (.tup xs)
  len : xs.length ≤ 1000
  each : ∀ x ∈ xs, Thing K H x
theorem Tp.ex {K : PySem.W.Frag} {H H' : Hp} {a : Addr} {xs : List V} (t : Tp K H a xs) (e : Ex H H') : Tp K H' a xs := ⟨e _ _ t.at_, t.len, fun x hx => (t.each x hx).ex e⟩
def spRow (K : PySem.W.Frag) (f : List V → Bool) : Sp := fun vs H Q _ => ∃ a xs, vs = [.ref a] ∧ Tp K H a xs ∧ (∃ z r, xs = V.str z :: r) ∧ ∀ H', Ex H H' → Q (.bl (f xs)) H'
theorem exW {z a b : Str} (h : isW (.str z) a = true) (n : decide (a = b) = false) : isW (.str z) b = false := by
  unfold isW at *
  have e : z = a := V.str.inj (of_decide_eq_true h)
  rw [e]
  refine decide_eq_false fun q => ?_
  exact of_decide_eq_false n (V.str.inj q)
theorem in2 (z a b : Str) : inV (.str z) [.str a, .str b] = (isW (.str z) a || isW (.str z) b) := by
  have h : ∀ a : Str, eqV (.str a) (.str z) = isW (.str z) a := fun a => by
    show (a == z) = decide (V.str z = V.str a)
    rw [Bool.eq_iff_iff]
    simp
    exact eq_comm
  show (eqV (.str a) (.str z) || (eqV (.str b) (.str z) || false)) = _
  rw [h, h, Bool.or_false]
theorem inI2 (z a b : Int) : inV (.int z) [.int a, .int b] = decide (z = a ∨ z = b) := by
  show ((a == z) || ((b == z) || false)) = _
  rw [Bool.eq_iff_iff]
  simp
  constructor <;> (intro h; rcases h with h | h <;> simp [h])
theorem len_int (xs : List V) (n : Nat) : decide (V.int (xs.length : Int) = V.int (n : Int)) = decide (xs.length = n) := by
  rw [Bool.eq_iff_iff]
  simp
  omega
theorem w2 {w : V} {r : List V} (h : (w :: r).length = 2) : ∃ x, r = [x] := by
  match r, h with
  | [x], _ => exact ⟨x, rfl⟩
theorem w4 {w : V} {r : List V} (h : (w :: r).length = 4) : ∃ x y m, r = [x, y, m] := by
  match r, h with
  | [x, y, m], _ => exact ⟨x, y, m, rfl⟩
theorem w5 {w : V} {r : List V} (h : (w :: r).length = 5) : ∃ x y l m, r = [x, y, l, m] := by
  match r, h with
  | [x, y, l, m], _ => exact ⟨x, y, l, m, rfl⟩
theorem short_not {xs : List V} (h2 : xs.length ≠ 2) (h4 : xs.length ≠ 4) : shortL xs = false := by
  unfold shortL
  split
  · exact absurd rfl h2
  · exact absurd rfl h4
  · rfl
theorem two_not {xs : List V} (h4 : xs.length ≠ 4) (h5 : xs.length ≠ 5) : twoL xs = false := by
  unfold twoL
  split
  · exact absurd rfl h4
  · exact absurd rfl h5
  · rfl
theorem short_cg {z : Str} {r : List V} (c : isW (.str z) "bring" = false) (h2 : (V.str z :: r).length ≠ 2) : shortL (.str z :: r) = false := by
  by_cases h4 : (V.str z :: r).length = 4
  · obtain ⟨x, y, m, rfl⟩ := w4 h4
    show (isW (.str z) "bring" && nameV x && nameV y && measV m) = false
    rw [c]
    rfl
  · exact short_not h2 h4
theorem short_b {z : Str} {r : List V} (c : (isW (.str z) "come" || isW (.str z) "go") = false) (h4 : (V.str z :: r).length ≠ 4) : shortL (.str z :: r) = false := by
  by_cases h2 : (V.str z :: r).length = 2
  · obtain ⟨x, rfl⟩ := w2 h2
    show ((isW (.str z) "come" || isW (.str z) "go") && nameV x) = false
    rw [c]
    rfl
  · exact short_not h2 h4
theorem ok_is_short_deed (T : Tx K mg A) : FnOk P w K mg base CX0 3 A.f_is_short_deed A.d_is_short_deed ["row"] (spRow K shortL) := by
  refine T.F_is_short_deed.ok sc_is_short_deed (fun vs H Q E h => ?_) (fun cdv A' outer s H vs Q E hr h => ?_)
  · obtain ⟨a, xs, rfl, _⟩ := h
    rfl
  · obtain ⟨a, xs, rfl, hT, ⟨z, r, rfl⟩, k⟩ := h
    have h0 := hT.at_
    have kk : ∀ b H', b = shortL (.str z :: r) → Ex H H' → Q (.bl b) H' := fun b H' hb e => hb ▸ k H' e
    refine ⟨_, (pss_cons (ps_set (i := 1) sc_is_short_deed.nd rfl (Or.inl rfl) (pe_ix (ix_tupV (K := K) rfl) (pv 0) pe_int (fun _ _ => rfl)))
    (pss_cons (ps_if (pt_cmpR (op_in_seqV (K := K) rfl) (pv 1) (pe_tup (pa_cons pe_str (pa_cons pe_str pa_nil))) (by rfl))
    (pss_one (ps_ret (pe_and (pe_cmpR op_eq (pe_callB (call_lenV (K := K) rfl) (by rfl) T.m_len (by decide +kernel) (pa_cons (pv 0) pa_nil)) pe_int (nomark _)) (pe_one (pe_call (ok_is_name T) (hr.mono (by decide)) (by rfl) T.g_is_name T.F_is_name.kp T.b_is_name .nil pass0 (pa_cons (pe_ix (ix_tupV (K := K) rfl) (pv 0) pe_int (fun _ _ => rfl)) pa_nil))))))
    pss_nil)
    (pss_cons (ps_if (pt_cmpR op_eq (pv 1) pe_str (nomark _))
    (pss_one (ps_ret (pe_and (pe_cmpR op_eq (pe_callB (call_lenV (K := K) rfl) (by rfl) T.m_len (by decide +kernel) (pa_cons (pv 0) pa_nil)) pe_int (nomark _)) (pe_and (pe_call (ok_is_name T) (hr.mono (by decide)) (by rfl) T.g_is_name T.F_is_name.kp T.b_is_name .nil pass0 (pa_cons (pe_ix (ix_tupV (K := K) rfl) (pv 0) pe_int (fun _ _ => rfl)) pa_nil)) (pe_and (pe_call (ok_is_name T) (hr.mono (by decide)) (by rfl) T.g_is_name T.F_is_name.kp T.b_is_name .nil pass0 (pa_cons (pe_ix (ix_tupV (K := K) rfl) (pv 0) pe_int (fun _ _ => rfl)) pa_nil)) (pe_one (pe_call (ok_is_measure T) (hr.mono (by decide)) (by rfl) T.g_is_measure T.F_is_measure.kp T.b_is_measure .nil pass0 (pa_cons (pe_ix (ix_tupV (K := K) rfl) (pv 0) pe_int (fun _ _ => rfl)) pa_nil))))))))
    pss_nil)
    (pss_one (ps_ret pe_bl))))), ?_⟩
    walk_at "ww"
    refine wIxT (SqT.of h0) (at_of (j := 0) rfl rfl) ?_
    walk_at "ww"
    refine alI fun t H1 n1 e1 f1 => ?_
    refine ⟨t, _, rfl, .inr (SqT.of f1), rfl, rfl, ?_⟩
    rw [if_neg (by decide), in2]
    walk_at "ww"
    have h1 := e1 _ _ h0
    refine ite2 (fun c1 => ?_) (fun c1 => ?_)
    · walk_at "ww"
      have nb : isW (.str z) "bring" = false := by
        rcases (Bool.or_eq_true _ _).mp c1 with c | c
        · exact exW c (by decide +kernel)
        · exact exW c (by decide +kernel)
      refine wLenT (SqT.of h1) ?_
      walk_at "ww"
      rw [show (2 : Int) = ((2 : Nat) : Int) from rfl, len_int]
      refine ite2 (fun c2 => ?_) (fun c2 => ?_)
      · obtain ⟨x, rfl⟩ := w2 (of_decide_eq_true c2)
        walk_at "ww"
        refine ⟨x, rfl, (hT.each x (by simp)).ex e1, fun H2 e2 => ?_⟩
        refine kk _ _ ?_ (e1.trans e2)
        show _ = ((isW (.str z) "come" || isW (.str z) "go") && nameV x)
        rw [c1]
        rfl
      · exact kk _ _ (short_cg nb (by simpa using c2)).symm e1
    · rw [Bool.not_eq_true] at c1
      walk_at "ww"
      refine ite2 (fun c3 => ?_) (fun c3 => ?_)
      · walk_at "ww"
        refine wLenT (SqT.of h1) ?_
        walk_at "ww"
        rw [show (4 : Int) = ((4 : Nat) : Int) from rfl, len_int]
        refine ite2 (fun c2 => ?_) (fun c2 => ?_)
        · obtain ⟨x, y, m, rfl⟩ := w4 (of_decide_eq_true c2)
          have kv : ∀ b H', b = (nameV x && nameV y && measV m) → Ex H H' → Q (.bl b) H' := fun b H' hb e => by
            refine kk b H' ?_ e
            show _ = (isW (.str z) "bring" && nameV x && nameV y && measV m)
            rw [show isW (.str z) "bring" = true from c3, hb]
            rfl
          walk_at "ww"
          refine ⟨x, rfl, (hT.each x (by simp)).ex e1, fun H2 e2 => ?_⟩
          have h2 := e2 _ _ h1
          walk_at "ww"
          refine ite2 (fun cx => ?_) (fun cx => ?_)
          · walk_at "ww"
            refine ⟨y, rfl, ((hT.each y (by simp)).ex e1).ex e2, fun H3 e3 => ?_⟩
            have h3 := e3 _ _ h2
            walk_at "ww"
            refine ite2 (fun cy => ?_) (fun cy => ?_)
            · walk_at "ww"
              refine ⟨m, rfl, (((hT.each m (by simp)).ex e1).ex e2).ex e3, fun H4 e4 => ?_⟩
              exact kv _ _ (by rw [cx, cy]; rfl) (((e1.trans e2).trans e3).trans e4)
            · exact kv _ _ (by rw [cx, Bool.eq_false_iff.mpr cy]; rfl) ((e1.trans e2).trans e3)
          · exact kv _ _ (by rw [Bool.eq_false_iff.mpr cx]; rfl) (e1.trans e2)
        · exact kk _ _ (short_b c1 (by simpa using c2)).symm e1
      · walk_at "ww"
        refine kk _ _ ?_ e1
        have c3 : isW (.str z) "bring" = false := Bool.eq_false_iff.mpr c3
        by_cases h2 : (V.str z :: r).length = 2
        · exact (short_b c1 (by omega)).symm
        · exact (short_cg c3 h2).symm
theorem name_str {v : V} (h : nameV v = true) : ∃ z, v = .str z := by
  cases v <;> first | exact ⟨_, rfl⟩ | cases h
theorem hold_str {v : V} (h : holdV v = true) : ∃ z, v = .str z := by
  cases v <;> first | exact ⟨_, rfl⟩ | cases h
theorem ok_is_deed_between_two (T : Tx K mg A) : FnOk P w K mg base CX0 3 A.f_is_deed_between_two A.d_is_deed_between_two ["row"] (spRow K twoL) := by
  refine T.F_is_deed_between_two.ok sc_is_deed_between_two (fun vs H Q E h => ?_) (fun cdv A' outer s H vs Q E hr h => ?_)
  · obtain ⟨a, xs, rfl, _⟩ := h
    rfl
  · obtain ⟨a, xs, rfl, hT, ⟨z, r, rfl⟩, k⟩ := h
    have h0 := hT.at_
    refine ⟨_, (pss_cons (ps_if (PW.pt (pw_or (pt_cmpR (op_notIn_seqV (K := K) rfl) (pe_callB (call_lenV (K := K) rfl) (by rfl) T.m_len (by decide +kernel) (pa_cons (pv 0) pa_nil)) (pe_tup (pa_cons pe_int (pa_cons pe_int pa_nil))) (by rfl)) (pw_or1 (pt_not (pt_val (pe_call (ok_is_measure T) (hr.mono (by decide)) (by rfl) T.g_is_measure T.F_is_measure.kp T.b_is_measure .nil pass0 (pa_cons (pe_ix (ix_tupV (K := K) rfl) (pv 0) (pe_un un_neg pe_int) (fun _ _ => rfl)) pa_nil)))))))
    (pss_one (ps_ret pe_bl))
    pss_nil)
    (pss_cons (ps_if (PW.pt (pw_or (pt_not (pt_val (pe_call (ok_is_name T) (hr.mono (by decide)) (by rfl) T.g_is_name T.F_is_name.kp T.b_is_name .nil pass0 (pa_cons (pe_ix (ix_tupV (K := K) rfl) (pv 0) pe_int (fun _ _ => rfl)) pa_nil)))) (pw_or (pt_not (pt_val (pe_call (ok_is_holder T) (hr.mono (by decide)) (by rfl) T.g_is_holder T.F_is_holder.kp T.b_is_holder .nil pass0 (pa_cons (pe_ix (ix_tupV (K := K) rfl) (pv 0) pe_int (fun _ _ => rfl)) pa_nil)))) (pw_or1 (pt_cmpR op_eq (pe_ix (ix_tupV (K := K) rfl) (pv 0) pe_int (fun _ _ => rfl)) (pe_ix (ix_tupV (K := K) rfl) (pv 0) pe_int (fun _ _ => rfl)) (nomark _))))))
    (pss_one (ps_ret pe_bl))
    pss_nil)
    (pss_cons (ps_if (pt_cmpR op_eq (pe_ix (ix_tupV (K := K) rfl) (pv 0) pe_int (fun _ _ => rfl)) pe_str (nomark _))
    (pss_one (ps_ret (pe_cmpR op_eq (pe_callB (call_lenV (K := K) rfl) (by rfl) T.m_len (by decide +kernel) (pa_cons (pv 0) pa_nil)) pe_int (nomark _))))
    pss_nil)
    (pss_cons (ps_if (pt_cmpR op_eq (pe_ix (ix_tupV (K := K) rfl) (pv 0) pe_int (fun _ _ => rfl)) pe_str (nomark _))
    (pss_one (ps_ret (pe_and (pe_cmpR op_eq (pe_callB (call_lenV (K := K) rfl) (by rfl) T.m_len (by decide +kernel) (pa_cons (pv 0) pa_nil)) pe_int (nomark _)) (pe_one (pe_cmpR op_ne (pe_ix (ix_tupV (K := K) rfl) (pv 0) pe_int (fun _ _ => rfl)) (pe_glob (v := .str "chest") rfl T.c_CHEST ⟨_, rfl⟩) (nomark _))))))
    pss_nil)
    (pss_cons (ps_if (pt_cmpR op_eq (pe_ix (ix_tupV (K := K) rfl) (pv 0) pe_int (fun _ _ => rfl)) pe_str (nomark _))
    (pss_one (ps_ret (pe_and (pe_cmpR op_eq (pe_callB (call_lenV (K := K) rfl) (by rfl) T.m_len (by decide +kernel) (pa_cons (pv 0) pa_nil)) pe_int (nomark _)) (pe_and (pe_cmpR op_ne (pe_ix (ix_tupV (K := K) rfl) (pv 0) pe_int (fun _ _ => rfl)) (pe_glob (v := .str "chest") rfl T.c_CHEST ⟨_, rfl⟩) (nomark _)) (pe_one (pe_call (ok_is_name T) (hr.mono (by decide)) (by rfl) T.g_is_name T.F_is_name.kp T.b_is_name .nil pass0 (pa_cons (pe_ix (ix_tupV (K := K) rfl) (pv 0) pe_int (fun _ _ => rfl)) pa_nil)))))))
    pss_nil)
    (pss_one (ps_ret pe_bl))))))), ?_⟩
    walk_at "ww"
    refine wLenT (SqT.of h0) ?_
    walk_at "ww"
    refine alI fun t H1 n1 e1 f1 => ?_
    refine ⟨t, _, rfl, .inr (SqT.of f1), rfl, rfl, ?_⟩
    rw [if_pos rfl, inI2]
    have h1 := e1 _ _ h0
    by_cases l4 : (V.str z :: r).length = 4
    · obtain ⟨x, y, m, rfl⟩ := w4 l4
      have kv : ∀ b H', b = (measV m && nameV x && holdV y && !decide (x = y) && (isW (.str z) "forget" || (isW (.str z) "give" && !isW y "chest"))) → Ex H H' → Q (.bl b) H' := fun b H' hb e => hb ▸ k H' e
      rw [show decide ((([V.str z, x, y, m].length : Nat) : Int) = 4 ∨ (([V.str z, x, y, m].length : Nat) : Int) = 5) = true from rfl]
      walk_at "ww"
      refine ⟨m, rfl, (hT.each m (by simp)).ex e1, fun H2 e2 => ?_⟩
      have h2 := e2 _ _ h1
      walk_at "ww"
      cases cm : measV m with
      | false =>
        walk_at "ww"
        exact kv _ _ (by rw [cm]; rfl) (e1.trans e2)
      | true =>
        walk_at "ww"
        refine ⟨x, rfl, ((hT.each x (by simp)).ex e1).ex e2, fun H3 e3 => ?_⟩
        have h3 := e3 _ _ h2
        walk_at "ww"
        cases cx : nameV x with
        | false =>
          walk_at "ww"
          exact kv _ _ (by rw [cm, cx]; rfl) ((e1.trans e2).trans e3)
        | true =>
          walk_at "ww"
          refine ⟨y, rfl, (((hT.each y (by simp)).ex e1).ex e2).ex e3, fun H4 e4 => ?_⟩
          have h4 := e4 _ _ h3
          have E4 := ((e1.trans e2).trans e3).trans e4
          walk_at "ww"
          cases cy : holdV y with
          | false =>
            walk_at "ww"
            exact kv _ _ (by rw [cm, cx, cy]; rfl) E4
          | true =>
            obtain ⟨zx, rfl⟩ := name_str cx
            obtain ⟨zy, rfl⟩ := hold_str cy
            walk_at "ww"
            refine ite2 (fun c => ?_) (fun c => ?_)
            · walk_at "ww"
              exact kv _ _ (by rw [cm, cx, cy, c]; rfl) E4
            · rw [Bool.not_eq_true] at c
              have kw : ∀ b H', b = (isW (.str z) "forget" || (isW (.str z) "give" && !isW (.str zy) "chest")) → Ex H H' → Q (.bl b) H' := fun b H' hb e => kv b H' (by rw [cm, cx, cy, c, hb]; rfl) e
              walk_at "ww"
              refine ite2 (fun cf => ?_) (fun cf => ?_)
              · walk_at "ww"
                refine wLenT (SqT.of h4) ?_
                walk_at "ww"
                exact kw _ _ (by rw [show isW (.str z) "forget" = true from cf]; rfl) E4
              · have cf : isW (.str z) "forget" = false := Bool.eq_false_iff.mpr cf
                walk_at "ww"
                refine ite2 (fun cg => ?_) (fun cg => ?_)
                · walk_at "ww"
                  refine wLenT (SqT.of h4) ?_
                  walk_at "ww"
                  rw [if_pos (by rfl)]
                  walk_at "ww"
                  exact kw _ _ (by rw [cf, show isW (.str z) "give" = true from cg]; rfl) E4
                · have cg : isW (.str z) "give" = false := Bool.eq_false_iff.mpr cg
                  walk_at "ww"
                  refine ite2 (fun ch => ?_) (fun ch => ?_)
                  · walk_at "ww"
                    refine wLenT (SqT.of h4) ?_
                    walk_at "ww"
                    rw [if_neg (by with_unfolding_all exact Bool.false_ne_true)]
                    exact kw _ _ (by rw [cf, cg]; rfl) E4
                  · walk_at "ww"
                    exact kw _ _ (by rw [cf, cg]; rfl) E4
    · by_cases l5 : (V.str z :: r).length = 5
      · obtain ⟨x, y, l, m, rfl⟩ := w5 l5
        have kv : ∀ b H', b = (measV m && nameV x && holdV y && !decide (x = y) && (isW (.str z) "hand" && !isW y "chest" && nameV l)) → Ex H H' → Q (.bl b) H' := fun b H' hb e => hb ▸ k H' e
        rw [show decide ((([V.str z, x, y, l, m].length : Nat) : Int) = 4 ∨ (([V.str z, x, y, l, m].length : Nat) : Int) = 5) = true from rfl]
        walk_at "ww"
        refine ⟨m, rfl, (hT.each m (by simp)).ex e1, fun H2 e2 => ?_⟩
        have h2 := e2 _ _ h1
        walk_at "ww"
        cases cm : measV m with
        | false =>
          walk_at "ww"
          exact kv _ _ (by rw [cm]; rfl) (e1.trans e2)
        | true =>
          walk_at "ww"
          refine ⟨x, rfl, ((hT.each x (by simp)).ex e1).ex e2, fun H3 e3 => ?_⟩
          have h3 := e3 _ _ h2
          walk_at "ww"
          cases cx : nameV x with
          | false =>
            walk_at "ww"
            exact kv _ _ (by rw [cm, cx]; rfl) ((e1.trans e2).trans e3)
          | true =>
            walk_at "ww"
            refine ⟨y, rfl, (((hT.each y (by simp)).ex e1).ex e2).ex e3, fun H4 e4 => ?_⟩
            have h4 := e4 _ _ h3
            have E4 := ((e1.trans e2).trans e3).trans e4
            walk_at "ww"
            cases cy : holdV y with
            | false =>
              walk_at "ww"
              exact kv _ _ (by rw [cm, cx, cy]; rfl) E4
            | true =>
              obtain ⟨zx, rfl⟩ := name_str cx
              obtain ⟨zy, rfl⟩ := hold_str cy
              walk_at "ww"
              refine ite2 (fun c => ?_) (fun c => ?_)
              · walk_at "ww"
                exact kv _ _ (by rw [cm, cx, cy, c]; rfl) E4
              · rw [Bool.not_eq_true] at c
                have kw : ∀ b H', b = (isW (.str z) "hand" && !isW (.str zy) "chest" && nameV l) → Ex H H' → Q (.bl b) H' := fun b H' hb e => kv b H' (by rw [cm, cx, cy, c, hb]; rfl) e
                walk_at "ww"
                refine ite2 (fun cf => ?_) (fun cf => ?_)
                · have ch : isW (.str z) "hand" = false := exW cf (by decide +kernel)
                  walk_at "ww"
                  refine wLenT (SqT.of h4) ?_
                  walk_at "ww"
                  exact kw _ _ (by rw [ch]; rfl) E4
                · walk_at "ww"
                  refine ite2 (fun cg => ?_) (fun cg => ?_)
                  · have ch : isW (.str z) "hand" = false := exW cg (by decide +kernel)
                    walk_at "ww"
                    refine wLenT (SqT.of h4) ?_
                    walk_at "ww"
                    rw [if_neg (by with_unfolding_all exact Bool.false_ne_true)]
                    exact kw _ _ (by rw [ch]; rfl) E4
                  · walk_at "ww"
                    refine ite2 (fun ch => ?_) (fun ch => ?_)
                    · have ch : isW (.str z) "hand" = true := ch
                      walk_at "ww"
                      refine wLenT (SqT.of h4) ?_
                      walk_at "ww"
                      rw [if_pos (by rfl)]
                      walk_at "ww"
                      refine ite2 (fun cc => ?_) (fun cc => ?_)
                      · walk_at "ww"
                        refine ⟨l, rfl, ((((hT.each l (by simp)).ex e1).ex e2).ex e3).ex e4, fun H5 e5 => ?_⟩
                        exact kw _ _ (by rw [ch, show (!isW (.str zy) "chest") = true from cc]; rfl) (E4.trans e5)
                      · exact kw _ _ (by rw [ch, show (!isW (.str zy) "chest") = false from Bool.eq_false_iff.mpr cc]; rfl) E4
                    · have ch : isW (.str z) "hand" = false := Bool.eq_false_iff.mpr ch
                      walk_at "ww"
                      exact kw _ _ (by rw [ch]; rfl) E4
      · rw [show decide ((((V.str z :: r).length : Nat) : Int) = 4 ∨ (((V.str z :: r).length : Nat) : Int) = 5) = false from decide_eq_false (by omega)]
        walk_at "ww"
        rw [show false = twoL (.str z :: r) from (two_not l4 l5).symm]
        exact k H1 e1
/-- a thing beside deeds: what is_deed tells of it -/
inductive Dd (K : PySem.W.Frag) (H : Hp) : V → Bool → Prop where
  | tup {a : Addr} {xs : List V} (h : Tp K H a xs) : Dd K H (.ref a) (deedL xs)
  | oth {v : V} {n : String} (h : Ty K H v n) (ne : n ≠ "tuple") : Dd K H v false
theorem Dd.ex {K : PySem.W.Frag} {H H' : Hp} {v : V} {b : Bool} (d : Dd K H v b) (e : Ex H H') : Dd K H' v b := by
  cases d with
  | tup h => exact .tup (h.ex e)
  | oth h ne => exact .oth (h.ex e) ne
def spDeed (K : PySem.W.Frag) : Sp := fun vs H Q _ => ∃ v b, vs = [v] ∧ Dd K H v b ∧ ∀ H', Ex H H' → Q (.bl b) H'
theorem isW_no {v : V} {s : Str} (h : isStr v = false) : isW v s = false := by
  refine decide_eq_false fun e => ?_
  rw [e] at h
  cases h
theorem deed_nostr {w : V} {r : List V} (h : isStr w = false) : deedL (w :: r) = false := by
  have e : ∀ s, isW w s = false := fun s => isW_no h
  unfold deedL
  rw [Bool.or_eq_false_iff]
  constructor
  · unfold shortL
    split
    · rename_i q
      cases q
      rw [e, e]
      rfl
    · rename_i q
      cases q
      rw [e]
      rfl
    · rfl
  · unfold twoL
    split
    · rename_i q
      cases q
      rw [e, e]
      simp
    · rename_i q
      cases q
      rw [e]
      simp
    · rfl
theorem ok_is_deed (T : Tx K mg A) : FnOk P w K mg base CX0 4 A.f_is_deed A.d_is_deed ["thing"] (spDeed K) := by
  refine T.F_is_deed.ok sc_is_deed (fun vs H Q E h => ?_) (fun cdv A' outer s H vs Q E hr h => ?_)
  · obtain ⟨v, b, rfl, _⟩ := h
    rfl
  · obtain ⟨v, b, rfl, d, k⟩ := h
    refine ⟨_, (pss_cons (ps_if (PW.pt (pw_or (pt_not (pt_val (pe_callB (call_isiV (K := K) rfl) (by rfl) T.m_isinstance (by decide +kernel) (pa_cons (pv 0) (pa_cons (pe_bltn (v := .ty "tuple") (by rfl) T.m_tuple (by decide +kernel) rfl) pa_nil))))) (pw_or1 (pt_cmpR op_eq (pe_callB (call_lenV (K := K) rfl) (by rfl) T.m_len (by decide +kernel) (pa_cons (pv 0) pa_nil)) pe_int (nomark _)))))
    (pss_one (ps_ret pe_bl))
    pss_nil)
    (pss_cons (ps_if (pt_not (pt_val (pe_callB (call_isiV (K := K) rfl) (by rfl) T.m_isinstance (by decide +kernel) (pa_cons (pe_ix (ix_tupV (K := K) rfl) (pv 0) pe_int (fun _ _ => rfl)) (pa_cons (pe_bltn (v := .ty "str") (by rfl) T.m_str (by decide +kernel) rfl) pa_nil)))))
    (pss_one (ps_ret pe_bl))
    pss_nil)
    (pss_one (ps_ret (pe_or (pe_call (ok_is_short_deed T) (hr.mono (by decide)) (by rfl) T.g_is_short_deed T.F_is_short_deed.kp T.b_is_short_deed .nil pass0 (pa_cons (pv 0) pa_nil)) (pe_one (pe_call (ok_is_deed_between_two T) (hr.mono (by decide)) (by rfl) T.g_is_deed_between_two T.F_is_deed_between_two.kp T.b_is_deed_between_two .nil pass0 (pa_cons (pv 0) pa_nil)))))))), ?_⟩
    walk_at "ww"
    cases d with
    | oth ty ne =>
      refine wIsi ty ty.tup_is ?_
      rw [decide_eq_false ne]
      walk_at "ww"
      exact k H (Ex.refl H)
    | @tup a xs hT =>
      have h0 := hT.at_
      refine wIsi (b := true) (.tup h0) (by decide +kernel) ?_
      walk_at "ww"
      refine wLenT (SqT.of h0) ?_
      walk_at "ww"
      cases xs with
      | nil =>
        rw [show decide (V.int ((([] : List V).length : Nat) : Int) = V.int 0) = true from rfl]
        walk_at "ww"
        exact k H (Ex.refl H)
      | cons w r =>
        rw [show decide (V.int (((w :: r).length : Nat) : Int) = V.int 0) = false from decide_eq_false fun q => by
          have := V.int.inj q
          simp at this
          omega]
        walk_at "ww"
        refine wIxT (SqT.of h0) (at_of (j := 0) rfl rfl) ?_
        walk_at "ww"
        obtain ⟨⟨n, ty⟩, sz⟩ := hT.each w (by simp)
        refine wIsi ty ty.str_is ?_
        walk_at "ww"
        cases hv : isStr w with
        | false =>
          walk_at "ww"
          rw [show false = deedL (w :: r) from (deed_nostr hv).symm]
          exact k H (Ex.refl H)
        | true =>
          obtain ⟨z, rfl⟩ : ∃ z, w = .str z := by
            cases w <;> first | exact ⟨_, rfl⟩ | cases hv
          walk_at "ww"
          refine ⟨a, _, rfl, hT, ⟨z, r, rfl⟩, fun H1 e1 => ?_⟩
          walk_at "ww"
          refine ite2 (fun c => ?_) (fun c => ?_)
          · rw [show true = deedL (.str z :: r) from by unfold deedL; rw [c]; rfl]
            exact k H1 e1
          · walk_at "ww"
            refine ⟨a, _, rfl, hT.ex e1, ⟨z, r, rfl⟩, fun H2 e2 => ?_⟩
            rw [show twoL (.str z :: r) = deedL (.str z :: r) from by unfold deedL; rw [Bool.eq_false_iff.mpr c]; rfl]
            exact k H2 (e1.trans e2)
def sortOk (c : Nat) (v : V) : Bool := if c = 109 then measV v else if c = 99 then holdV v else nameV v
def good (S : List Nat) (r : List V) : Bool := (r.zip S).all fun p => sortOk p.2 p.1
def three (z : Str) : Bool := isW (.str z) "give" || (isW (.str z) "hand" || isW (.str z) "forget")
def forms : List (Key × V) := [(.inr "come", .str "n"), (.inr "bring", .str "nnm"), (.inr "give", .str "nnm"), (.inr "hand", .str "nnnm"), (.inr "forget", .str "ncm"), (.inr "go", .str "n")]
theorem forms_merge : mergeK [] forms = forms := by with_unfolding_all rfl
structure Form (z S : Str) : Prop where
  len : S.cps.toList.length ≤ 4
  no : ∀ r : List V, r.length ≠ S.cps.toList.length → deedL (.str z :: r) = false
  bad : ∀ r : List V, r.length = S.cps.toList.length → good S.cps.toList r = false → deedL (.str z :: r) = false
  ok : ∀ r : List V, r.length = S.cps.toList.length → good S.cps.toList r = true → three z = false → deedL (.str z :: r) = true
  two : ∀ r : List V, r.length = S.cps.toList.length → good S.cps.toList r = true → three z = true → ∃ x y r', r = .str x :: .str y :: r' ∧ deedL (.str z :: r) = !decide (V.str x = V.str y)
theorem name_chest2 {v : V} (h : nameV v = true) : isW v "chest" = false := by
  cases e : isW v "chest" with
  | false => rfl
  | true =>
    have q : v = .str "chest" := of_decide_eq_true e
    rw [q, name_chest (z := "chest") (by decide +kernel)] at h
    cases h
theorem sk109 (v : V) : sortOk 109 v = measV v := rfl
theorem sk99 (v : V) : sortOk 99 v = holdV v := rfl
theorem sk110 (v : V) : sortOk 110 v = nameV v := rfl
theorem r1 {r : List V} (h : r.length = 1) : ∃ x, r = [x] := by
  match r, h with
  | [x], _ => exact ⟨x, rfl⟩
theorem r3 {r : List V} (h : r.length = 3) : ∃ x y m, r = [x, y, m] := by
  match r, h with
  | [x, y, m], _ => exact ⟨x, y, m, rfl⟩
theorem r4 {r : List V} (h : r.length = 4) : ∃ x y l m, r = [x, y, l, m] := by
  match r, h with
  | [x, y, l, m], _ => exact ⟨x, y, l, m, rfl⟩
theorem short_w {z : Str} {r : List V} (h1 : isW (.str z) "come" = false) (h2 : isW (.str z) "go" = false) (h3 : isW (.str z) "bring" = false) : shortL (.str z :: r) = false := by
  by_cases l4 : (V.str z :: r).length = 4
  · obtain ⟨x, y, m, rfl⟩ := w4 l4
    show (isW (.str z) "bring" && nameV x && nameV y && measV m) = false
    rw [h3]
    rfl
  · exact short_b (by rw [h1, h2]; rfl) l4
theorem two_w {z : Str} {r : List V} (h1 : isW (.str z) "forget" = false) (h2 : isW (.str z) "give" = false) (h3 : isW (.str z) "hand" = false) : twoL (.str z :: r) = false := by
  by_cases l4 : (V.str z :: r).length = 4
  · obtain ⟨x, y, m, rfl⟩ := w4 l4
    show (measV m && nameV x && holdV y && !decide (x = y) && (isW (.str z) "forget" || (isW (.str z) "give" && !isW y "chest"))) = false
    rw [h1, h2]
    simp
  · by_cases l5 : (V.str z :: r).length = 5
    · obtain ⟨x, y, l, m, rfl⟩ := w5 l5
      show (measV m && nameV x && holdV y && !decide (x = y) && (isW (.str z) "hand" && !isW y "chest" && nameV l)) = false
      rw [h3]
      simp
    · exact two_not l4 l5
theorem two_hand {z : Str} {r : List V} (h1 : isW (.str z) "forget" = false) (h2 : isW (.str z) "give" = false) (l5 : (V.str z :: r).length ≠ 5) : twoL (.str z :: r) = false := by
  by_cases l4 : (V.str z :: r).length = 4
  · obtain ⟨x, y, m, rfl⟩ := w4 l4
    show (measV m && nameV x && holdV y && !decide (x = y) && (isW (.str z) "forget" || (isW (.str z) "give" && !isW y "chest"))) = false
    rw [h1, h2]
    simp
  · exact two_not l4 l5
theorem two_four {z : Str} {r : List V} (h3 : isW (.str z) "hand" = false) (l4 : (V.str z :: r).length ≠ 4) : twoL (.str z :: r) = false := by
  by_cases l5 : (V.str z :: r).length = 5
  · obtain ⟨x, y, l, m, rfl⟩ := w5 l5
    show (measV m && nameV x && holdV y && !decide (x = y) && (isW (.str z) "hand" && !isW y "chest" && nameV l)) = false
    rw [h3]
    simp
  · exact two_not l4 l5
theorem form_come : Form "come" "n" := by
  have i_come : isW (.str "come") "come" = true := by decide +kernel
  have i_bring : isW (.str "come") "bring" = false := by decide +kernel
  have i_give : isW (.str "come") "give" = false := by decide +kernel
  have i_hand : isW (.str "come") "hand" = false := by decide +kernel
  have i_forget : isW (.str "come") "forget" = false := by decide +kernel
  have i_go : isW (.str "come") "go" = false := by decide +kernel
  have eS : (("n" : Str)).cps.toList = [110] := by decide +kernel
  have eT : three "come" = false := by unfold three; rw [i_give, i_hand, i_forget]; rfl
  have dd : ∀ x, deedL [.str "come", x] = nameV x := fun x => by
    show (((isW (.str "come") "come" || isW (.str "come") "go") && nameV x) || twoL _) = _
    rw [two_w i_forget i_give i_hand, i_come, i_go]
    simp
  refine ⟨by rw [eS]; decide, fun r h => ?_, fun r h g => ?_, fun r h g _ => ?_, fun r h g t => ?_⟩
  · rw [eS] at h
    unfold deedL
    rw [two_w i_forget i_give i_hand, short_cg i_bring (by simp at h ⊢; omega)]
    rfl
  · rw [eS] at h g
    obtain ⟨x, rfl⟩ := r1 h
    rw [dd]
    simpa [good, sk110] using g
  · rw [eS] at h g
    obtain ⟨x, rfl⟩ := r1 h
    rw [dd]
    simpa [good, sk110] using g
  · rw [eT] at t
    cases t
theorem form_bring : Form "bring" "nnm" := by
  have i_come : isW (.str "bring") "come" = false := by decide +kernel
  have i_bring : isW (.str "bring") "bring" = true := by decide +kernel
  have i_give : isW (.str "bring") "give" = false := by decide +kernel
  have i_hand : isW (.str "bring") "hand" = false := by decide +kernel
  have i_forget : isW (.str "bring") "forget" = false := by decide +kernel
  have i_go : isW (.str "bring") "go" = false := by decide +kernel
  have eS : (("nnm" : Str)).cps.toList = [110, 110, 109] := by decide +kernel
  have eT : three "bring" = false := by unfold three; rw [i_give, i_hand, i_forget]; rfl
  have dd : ∀ x y m, deedL [.str "bring", x, y, m] = (nameV x && nameV y && measV m) := fun x y m => by
    show ((isW (.str "bring") "bring" && nameV x && nameV y && measV m) || twoL _) = _
    rw [two_w i_forget i_give i_hand, i_bring]
    simp
  refine ⟨by rw [eS]; decide, fun r h => ?_, fun r h g => ?_, fun r h g _ => ?_, fun r h g t => ?_⟩
  · rw [eS] at h
    unfold deedL
    rw [two_w i_forget i_give i_hand, short_b (by rw [i_come, i_go]; rfl) (by simp at h ⊢; omega)]
    rfl
  · rw [eS] at h g
    obtain ⟨x, y, m, rfl⟩ := r3 h
    rw [dd]
    simp [good, sk110, sk109] at g
    cases a : nameV x <;> cases b : nameV y <;> cases c : measV m <;> simp_all
  · rw [eS] at h g
    obtain ⟨x, y, m, rfl⟩ := r3 h
    rw [dd]
    simp [good, sk110, sk109] at g
    cases a : nameV x <;> cases b : nameV y <;> cases c : measV m <;> simp_all
  · rw [eT] at t
    cases t
theorem form_give : Form "give" "nnm" := by
  have i_come : isW (.str "give") "come" = false := by decide +kernel
  have i_bring : isW (.str "give") "bring" = false := by decide +kernel
  have i_give : isW (.str "give") "give" = true := by decide +kernel
  have i_hand : isW (.str "give") "hand" = false := by decide +kernel
  have i_forget : isW (.str "give") "forget" = false := by decide +kernel
  have i_go : isW (.str "give") "go" = false := by decide +kernel
  have eS : (("nnm" : Str)).cps.toList = [110, 110, 109] := by decide +kernel
  have eT : three "give" = true := by unfold three; rw [i_give, i_hand, i_forget]; rfl
  have dd : ∀ x y m, deedL [.str "give", x, y, m] = (measV m && nameV x && holdV y && !decide (x = y) && !isW y "chest") := fun x y m => by
    unfold deedL
    rw [short_w i_come i_go i_bring]
    show (false || (measV m && nameV x && holdV y && !decide (x = y) && (isW (.str "give") "forget" || (isW (.str "give") "give" && !isW y "chest")))) = _
    rw [i_forget, i_give]
    simp
  refine ⟨by rw [eS]; decide, fun r h => ?_, fun r h g => ?_, fun r h g t => ?_, fun r h g _ => ?_⟩
  · rw [eS] at h
    unfold deedL
    rw [short_w i_come i_go i_bring, two_four i_hand (by simp at h ⊢; omega)]
    rfl
  · rw [eS] at h g
    obtain ⟨x, y, m, rfl⟩ := r3 h
    rw [dd]
    have hy := @name_chest2 y
    unfold holdV
    simp [good, sk110, sk109, sk99] at g
    cases a : nameV x <;> cases b : measV m <;> cases c : nameV y <;> cases d : isW y "chest" <;> simp_all
  · rw [eT] at t
    cases t
  · rw [eS] at h g
    obtain ⟨x, y, m, rfl⟩ := r3 h
    rw [dd]
    simp [good, sk110, sk109, sk99] at g
    obtain ⟨g1, g2, g3⟩ := g
    obtain ⟨zx, rfl⟩ := name_str g1
    obtain ⟨zy, rfl⟩ := name_str g2
    refine ⟨zx, zy, _, rfl, ?_⟩
    unfold holdV
    rw [g1, g2, g3, name_chest2 g2]
    simp
theorem form_hand : Form "hand" "nnnm" := by
  have i_come : isW (.str "hand") "come" = false := by decide +kernel
  have i_bring : isW (.str "hand") "bring" = false := by decide +kernel
  have i_give : isW (.str "hand") "give" = false := by decide +kernel
  have i_hand : isW (.str "hand") "hand" = true := by decide +kernel
  have i_forget : isW (.str "hand") "forget" = false := by decide +kernel
  have i_go : isW (.str "hand") "go" = false := by decide +kernel
  have eS : (("nnnm" : Str)).cps.toList = [110, 110, 110, 109] := by decide +kernel
  have eT : three "hand" = true := by unfold three; rw [i_give, i_hand, i_forget]; rfl
  have dd : ∀ x y l m, deedL [.str "hand", x, y, l, m] = (measV m && nameV x && holdV y && !decide (x = y) && (!isW y "chest" && nameV l)) := fun x y l m => by
    unfold deedL
    rw [short_w i_come i_go i_bring]
    show (false || (measV m && nameV x && holdV y && !decide (x = y) && (isW (.str "hand") "hand" && !isW y "chest" && nameV l))) = _
    rw [i_hand]
    simp
  refine ⟨by rw [eS]; decide, fun r h => ?_, fun r h g => ?_, fun r h g t => ?_, fun r h g _ => ?_⟩
  · rw [eS] at h
    unfold deedL
    rw [short_w i_come i_go i_bring, two_hand i_forget i_give (by simp at h ⊢; omega)]
    rfl
  · rw [eS] at h g
    obtain ⟨x, y, l, m, rfl⟩ := r4 h
    rw [dd]
    have hy := @name_chest2 y
    unfold holdV
    simp [good, sk110, sk109, sk99] at g
    cases a : nameV x <;> cases b : measV m <;> cases c : nameV y <;> cases d : isW y "chest" <;> cases e : nameV l <;> simp_all
  · rw [eT] at t
    cases t
  · rw [eS] at h g
    obtain ⟨x, y, l, m, rfl⟩ := r4 h
    rw [dd]
    simp [good, sk110, sk109, sk99] at g
    obtain ⟨g1, g2, g4, g3⟩ := g
    obtain ⟨zx, rfl⟩ := name_str g1
    obtain ⟨zy, rfl⟩ := name_str g2
    refine ⟨zx, zy, _, rfl, ?_⟩
    unfold holdV
    rw [g1, g2, g3, g4, name_chest2 g2]
    simp
theorem form_forget : Form "forget" "ncm" := by
  have i_come : isW (.str "forget") "come" = false := by decide +kernel
  have i_bring : isW (.str "forget") "bring" = false := by decide +kernel
  have i_give : isW (.str "forget") "give" = false := by decide +kernel
  have i_hand : isW (.str "forget") "hand" = false := by decide +kernel
  have i_forget : isW (.str "forget") "forget" = true := by decide +kernel
  have i_go : isW (.str "forget") "go" = false := by decide +kernel
  have eS : (("ncm" : Str)).cps.toList = [110, 99, 109] := by decide +kernel
  have eT : three "forget" = true := by unfold three; rw [i_give, i_hand, i_forget]; rfl
  have dd : ∀ x y m, deedL [.str "forget", x, y, m] = (measV m && nameV x && holdV y && !decide (x = y) && true) := fun x y m => by
    unfold deedL
    rw [short_w i_come i_go i_bring]
    show (false || (measV m && nameV x && holdV y && !decide (x = y) && (isW (.str "forget") "forget" || (isW (.str "forget") "give" && !isW y "chest")))) = _
    rw [i_forget, i_give]
    simp
  refine ⟨by rw [eS]; decide, fun r h => ?_, fun r h g => ?_, fun r h g t => ?_, fun r h g _ => ?_⟩
  · rw [eS] at h
    unfold deedL
    rw [short_w i_come i_go i_bring, two_four i_hand (by simp at h ⊢; omega)]
    rfl
  · rw [eS] at h g
    obtain ⟨x, y, m, rfl⟩ := r3 h
    rw [dd]
    simp [good, sk110, sk109, sk99] at g
    cases a : nameV x <;> cases b : measV m <;> cases c : holdV y <;> simp_all
  · rw [eT] at t
    cases t
  · rw [eS] at h g
    obtain ⟨x, y, m, rfl⟩ := r3 h
    rw [dd]
    simp [good, sk110, sk109, sk99] at g
    obtain ⟨g1, g2, g3⟩ := g
    obtain ⟨zx, rfl⟩ := name_str g1
    obtain ⟨zy, rfl⟩ := hold_str g2
    refine ⟨zx, zy, _, rfl, ?_⟩
    rw [g1, g2, g3]
    simp
theorem form_go : Form "go" "n" := by
  have i_come : isW (.str "go") "come" = false := by decide +kernel
  have i_bring : isW (.str "go") "bring" = false := by decide +kernel
  have i_give : isW (.str "go") "give" = false := by decide +kernel
  have i_hand : isW (.str "go") "hand" = false := by decide +kernel
  have i_forget : isW (.str "go") "forget" = false := by decide +kernel
  have i_go : isW (.str "go") "go" = true := by decide +kernel
  have eS : (("n" : Str)).cps.toList = [110] := by decide +kernel
  have eT : three "go" = false := by unfold three; rw [i_give, i_hand, i_forget]; rfl
  have dd : ∀ x, deedL [.str "go", x] = nameV x := fun x => by
    show (((isW (.str "go") "come" || isW (.str "go") "go") && nameV x) || twoL _) = _
    rw [two_w i_forget i_give i_hand, i_come, i_go]
    simp
  refine ⟨by rw [eS]; decide, fun r h => ?_, fun r h g => ?_, fun r h g _ => ?_, fun r h g t => ?_⟩
  · rw [eS] at h
    unfold deedL
    rw [two_w i_forget i_give i_hand, short_cg i_bring (by simp at h ⊢; omega)]
    rfl
  · rw [eS] at h g
    obtain ⟨x, rfl⟩ := r1 h
    rw [dd]
    simpa [good, sk110] using g
  · rw [eS] at h g
    obtain ⟨x, rfl⟩ := r1 h
    rw [dd]
    simpa [good, sk110] using g
  · rw [eT] at t
    cases t
theorem form_none {z : Str} (h : valV forms (.inr z) = none) (r : List V) : deedL (.str z :: r) = false := by
  have e : ∀ a : Str, (∃ v, ((.inr a : Key), v) ∈ forms) → isW (.str z) a = false := fun a ⟨v, hv⟩ => by
    refine decide_eq_false fun q => ?_
    have q : z = a := V.str.inj q
    subst q
    unfold valV at h
    rw [Option.map_eq_none_iff, List.find?_eq_none] at h
    exact h _ hv (decide_eq_true rfl)
  unfold deedL
  rw [short_w (e _ ⟨_, .head _⟩) (e _ ⟨_, .tail _ (.tail _ (.tail _ (.tail _ (.tail _ (.head _)))))⟩) (e _ ⟨_, .tail _ (.head _)⟩), two_w (e _ ⟨_, .tail _ (.tail _ (.tail _ (.tail _ (.head _))))⟩) (e _ ⟨_, .tail _ (.tail _ (.head _))⟩) (e _ ⟨_, .tail _ (.tail _ (.tail _ (.head _)))⟩)]
  rfl
theorem form_some {z : Str} {v : V} (h : valV forms (.inr z) = some v) : ∃ S, v = .str S ∧ Form z S := by
  unfold valV at h
  obtain ⟨p, hp, rfl⟩ := Option.map_eq_some_iff.mp h
  have e0 := List.find?_some hp
  have e : p.1 = .inr z := of_decide_eq_true (show decide (p.1 = .inr z) = true from e0)
  have hm := List.mem_of_find?_eq_some hp
  obtain ⟨k, v⟩ := p
  subst e
  unfold forms at hm
  simp only [List.mem_cons, List.not_mem_nil, or_false, Prod.mk.injEq] at hm
  rcases hm with ⟨a, b⟩ | ⟨a, b⟩ | ⟨a, b⟩ | ⟨a, b⟩ | ⟨a, b⟩ | ⟨a, b⟩
  · cases Sum.inr.inj a
    exact ⟨_, b, form_come⟩
  · cases Sum.inr.inj a
    exact ⟨_, b, form_bring⟩
  · cases Sum.inr.inj a
    exact ⟨_, b, form_give⟩
  · cases Sum.inr.inj a
    exact ⟨_, b, form_hand⟩
  · cases Sum.inr.inj a
    exact ⟨_, b, form_forget⟩
  · cases Sum.inr.inj a
    exact ⟨_, b, form_go⟩
theorem one_sign (c d : Nat) : decide (V.str ⟨#[c]⟩ = V.str ⟨#[d]⟩) = decide (c = d) := by
  rw [Bool.eq_iff_iff]
  simp
theorem in3 (z : Str) : inV (.str z) [.str "give", .str "hand", .str "forget"] = three z := by
  have h : ∀ a : Str, eqV (.str a) (.str z) = isW (.str z) a := fun a => by
    show (a == z) = decide (V.str z = V.str a)
    rw [Bool.eq_iff_iff]
    simp
    exact eq_comm
  show (eqV (.str "give") (.str z) || (eqV (.str "hand") (.str z) || (eqV (.str "forget") (.str z) || false))) = _
  rw [h, h, h, Bool.or_false]
  rfl
theorem good_bad {r : List V} {S : Str} {i : Nat} {y : V} {c : Nat} (hy : r[i]? = some y) (hc : S.cps[i]? = some c) (h : sortOk c y = false) : good S.cps.toList r = false := by
  have hm : (y, c) ∈ r.zip S.cps.toList := by
    refine List.mem_of_getElem? (i := i) ?_
    rw [List.getElem?_zip_eq_some]
    exact ⟨hy, by rw [Array.getElem?_toList]; exact hc⟩
  cases e : good S.cps.toList r with
  | false => rfl
  | true =>
    have := List.all_eq_true.mp e _ hm
    rw [h] at this
    cases this
theorem good_all {r : List V} {S : Str} (h : ∀ (j : Nat) v c, r[j]? = some v → S.cps[j]? = some c → sortOk c v = true) : good S.cps.toList r = true := by
  refine List.all_eq_true.mpr fun p hp => ?_
  obtain ⟨j, hj⟩ := List.mem_iff_getElem?.mp hp
  rw [List.getElem?_zip_eq_some] at hj
  exact h j p.1 p.2 hj.1 (by rw [← Array.getElem?_toList]; exact hj.2)
theorem cut1 (w : V) (r : List V) : cutV (w :: r) (some 1) none = r := by
  have e : HT.sIx (w :: r).length 0 (some 1) = min 1 (w :: r).length := HT.sIx_nat _ _ 1
  unfold cutV
  rw [HT.sIx_none, e]
  simp
theorem cut1_ne (w : V) (r : List V) : ¬ (HT.sIx (w :: r).length 0 (some 1) = 0 ∧ HT.sIx (w :: r).length (w :: r).length none = (w :: r).length) := fun h => by
  have e : HT.sIx (w :: r).length 0 (some 1) = min 1 (w :: r).length := HT.sIx_nat _ _ 1
  rw [e] at h
  simp at h
theorem wIZip {K : PySem.W.Frag} {ta : TA} {σ : L2.St} {H : Hp} {R : It → Hp → Prop} (k : ta σ H fun vs H1 => ∃ (a : Addr) (x : Str) (xs : List V), vs = [.ref a, .str x] ∧ SqT K H1 a xs ∧ R (ZipS.ItzS K a x) H1) : ZipS.iZipS K ta σ H R := k
theorem int_of {y : V} (hi : isIntV y = true) (hb : isBlV y = false) : ∃ q, y = .int q := by
  cases y with
  | int q => exact ⟨q, rfl⟩
  | bl b => exact Bool.noConfusion (show true = false from hb)
  | _ => exact Bool.noConfusion (show false = true from hi)
theorem wSl1 {K : PySem.W.Frag} {H : Hp} {Q : VK} {a : Addr} {w : V} {r : List V} (h : SqT K H a (w :: r)) (k : Al Q (.tup r) H) : rSlA K (.ref a) (some 1) none H Q := ⟨a, _, rfl, h, fun q => absurd q (cut1_ne _ _), fun _ => by rw [cut1]; exact k⟩
theorem ok_Lis_deed (T : Tx K mg A) : FnOk P w K mg base CX0 2 A.f_Lis_deed A.d_Lis_deed ["_law_matter"] (spDeed K) := by
  refine T.F_Lis_deed.ok sc_Lis_deed (fun vs H Q E h => ?_) (fun cdv A' outer s H vs Q E hr h => ?_)
  · obtain ⟨v, b, rfl, _⟩ := h
    rfl
  · obtain ⟨v, b, rfl, d, k⟩ := h
    refine ⟨_, (pss_cons (ps_set (i := 1) sc_Lis_deed.nd rfl (Or.inl rfl) (pe_disp (pps_cons pe_str pe_str (pps_cons pe_str pe_str (pps_cons pe_str pe_str (pps_cons pe_str pe_str (pps_cons pe_str pe_str (pps_cons pe_str pe_str pps_nil)))))) rfl rfl (by simp) (by decide)))
    (pss_cons (ps_if (PW.pt (pw_or (pt_not (pt_val (pe_callB (call_isiV (K := K) rfl) (by rfl) T.m_isinstance (by decide +kernel) (pa_cons (pv 0) (pa_cons (pe_bltn (v := .ty "tuple") (by rfl) T.m_tuple (by decide +kernel) rfl) pa_nil))))) (pw_or (pt_cmpR (op_eqEV (K := K) rfl hr.units) (pv 0) (pe_tup pa_nil) (nomark _)) (pw_or (pt_not (pt_val (pe_callB (call_isiV (K := K) rfl) (by rfl) T.m_isinstance (by decide +kernel) (pa_cons (pe_ix (ix_tupV (K := K) rfl) (pv 0) pe_int (fun _ _ => rfl)) (pa_cons (pe_bltn (v := .ty "str") (by rfl) T.m_str (by decide +kernel) rfl) pa_nil))))) (pw_or1 (pt_cmp (pc_dnotin (hu_of hr) (pe_ix (ix_tupV (K := K) rfl) (pv 0) pe_int (fun _ _ => rfl)) (pv 1))))))))
    (pss_one (ps_ret pe_bl))
    pss_nil)
    (pss_cons (ps_set (i := 2) sc_Lis_deed.nd rfl (Or.inl rfl) (pe_dget (hu_of hr) (pv 1) (pe_ix (ix_tupV (K := K) rfl) (pv 0) pe_int (fun _ _ => rfl)) (fun _ _ => rfl)))
    (pss_cons (ps_if (pt_cmpR op_ne (pe_callB (call_lenV (K := K) rfl) (by rfl) T.m_len (by decide +kernel) (pa_cons (pv 0) pa_nil)) (pe_op op_add pe_int (pe_callB (call_lenV (K := K) rfl) (by rfl) T.m_len (by decide +kernel) (pa_cons (pv 2) pa_nil))) (nomark _))
    (pss_one (ps_ret pe_bl))
    pss_nil)
    (pss_cons (ps_for PassesOwn.never rfl (ZipS.pi_zipS (K := K) rfl (by rfl) T.m_zip (pa_cons (pe_slice (sl_tupV (K := K) rfl) (pv 0) (po_some pe_int) po_none) (pa_cons (pv 2) pa_nil))) (pg_tupV (K := K) (n := 2) rfl rfl (pgs_cons (pg_name (i := 3) sc_Lis_deed.nd rfl (Or.inl rfl)) (pgs_cons (pg_name (i := 4) sc_Lis_deed.nd rfl (Or.inl rfl)) pgs_nil)) rfl)
    (pss_one (ps_if (pt_cmpR op_eq (pv 4) pe_str (nomark _))
      (pss_one (ps_if (PW.pt (pw_or (pt_not (pt_val (pe_callB (call_isiV (K := K) rfl) (by rfl) T.m_isinstance (by decide +kernel) (pa_cons (pv 3) (pa_cons (pe_bltn (v := .ty "int") (by rfl) T.m_int (by decide +kernel) rfl) pa_nil))))) (pw_or (pt_val (pe_callB (call_isiV (K := K) rfl) (by rfl) T.m_isinstance (by decide +kernel) (pa_cons (pv 3) (pa_cons (pe_bltn (v := .ty "bool") (by rfl) T.m_bool (by decide +kernel) rfl) pa_nil)))) (pw_or1 (pt_not (pt_chain op_lt op_lt pe_int (pv 3) pe_int))))))
        (pss_one (ps_ret pe_bl))
        pss_nil))
      (pss_one (ps_if (PW.pt (pw_and (pt_not (pt_val (pe_call (ok_Lis_name T) (hr.mono (by decide)) (by rfl) T.g_Lis_name T.F_Lis_name.kp T.b_Lis_name .nil pass0 (pa_cons (pv 3) pa_nil)))) (pw_and1 (pt_not (PW.pt (pw_and (pt_cmpR op_eq (pv 4) pe_str (nomark _)) (pw_and (pt_val (pe_callB (call_isiV (K := K) rfl) (by rfl) T.m_isinstance (by decide +kernel) (pa_cons (pv 3) (pa_cons (pe_bltn (v := .ty "str") (by rfl) T.m_str (by decide +kernel) rfl) pa_nil)))) (pw_and1 (pt_cmpR op_eq (pv 3) pe_str (nomark _))))))))))
        (pss_one (ps_ret pe_bl))
        pss_nil)))))
    (pss_one (ps_ret (pe_or (pe_cmpR (op_notIn_seqV (K := K) rfl) (pe_ix (ix_tupV (K := K) rfl) (pv 0) pe_int (fun _ _ => rfl)) (pe_lst (pa_cons pe_str (pa_cons pe_str (pa_cons pe_str pa_nil)))) (by rfl)) (pe_one (pe_cmpR op_ne (pe_ix (ix_tupV (K := K) rfl) (pv 0) pe_int (fun _ _ => rfl)) (pe_ix (ix_tupV (K := K) rfl) (pv 0) pe_int (fun _ _ => rfl)) (nomark _))))))))))), ?_⟩
    walk_at "ww"
    intro D hD
    walk_at "ww"
    refine ⟨upd_same, forms, rfl, by decide, ?_⟩
    rw [forms_merge]
    have e1 : Ex H (upd (upd H D (.dK [])) D (.dK forms)) := (Ex.new hD).mut hD
    have f1 : (upd (upd H D (.dK [])) D (.dK forms)) D = some (.dK forms) := upd_same
    generalize upd (upd H D (.dK [])) D (.dK forms) = H1 at e1 f1 ⊢
    walk_at "ww"
    cases d with
    | oth ty ne =>
      refine wIsi (ty.ex e1) ty.tup_is ?_
      rw [decide_eq_false ne]
      walk_at "ww"
      exact k H1 e1
    | @tup a xs hT =>
      have h0 := hT.at_
      have h1 := e1 _ _ h0
      refine wIsi (b := true) (.tup h1) (by decide +kernel) ?_
      walk_at "ww"
      refine alI fun t H2 n2 e2 f2 => ?_
      have h2 := e2 _ _ h1
      refine wEqE (SqT.of h2) (SqT.of f2) ?_
      cases xs with
      | nil =>
        rw [decide_eq_true rfl]
        walk_at "ww"
        exact k H2 (e1.trans e2)
      | cons w r =>
        rw [decide_eq_false (by simp)]
        walk_at "ww"
        refine wIxT (SqT.of h2) (at_of (j := 0) rfl rfl) ?_
        walk_at "ww"
        obtain ⟨⟨n, ty⟩, sz⟩ := hT.each w (by simp)
        refine wIsi ((ty.ex e1).ex e2) ty.str_is ?_
        walk_at "ww"
        cases hv : isStr w with
        | false =>
          walk_at "ww"
          rw [deed_nostr hv] at k
          exact k H2 (e1.trans e2)
        | true =>
          obtain ⟨z, rfl⟩ : ∃ z, w = .str z := by
            cases w <;> first | exact ⟨_, rfl⟩ | cases hv
          walk_at "ww"
          refine wIxT (SqT.of h2) (at_of (j := 0) rfl rfl) ?_
          walk_at "ww"
          have f12 := e2 _ _ f1
          refine ⟨D, _, rfl, DGet.k (k := .inr z) f12, ?_⟩
          cases hf : valV forms (.inr z) with
          | none =>
            rw [show (!(none : Option V).isSome) = true from rfl]
            walk_at "ww"
            rw [form_none hf] at k
            exact k H2 (e1.trans e2)
          | some v =>
            obtain ⟨S, rfl, F⟩ := form_some hf
            rw [show (!(some (V.str S) : Option V).isSome) = false from rfl]
            walk_at "ww"
            refine wIxT (SqT.of h2) (at_of (j := 0) rfl rfl) ?_
            walk_at "ww"
            refine ⟨D, .str S, rfl, by rw [← hf]; exact DGet.k (k := .inr z) f12, ?_⟩
            walk_at "ww"
            have hS : S.cps.size ≤ 4 := by
              have := F.len
              rw [Array.length_toList] at this
              exact this
            refine wLenT (SqT.of h2) ?_
            walk_at "ww"
            refine wLenS (sz6 (by show S.cps.size ≤ _; omega)) ?_
            walk_at "ww"
            by_cases hl : r.length = S.cps.toList.length
            · have hl' : r.length = S.cps.size := by rw [Array.length_toList (xs := S.cps)] at hl; exact hl
              rw [show decide (V.int (((V.str z :: r).length : Nat) : Int) = V.int (1 + (S.length : Int))) = true from decide_eq_true (by
                congr 1
                have : S.length = S.cps.size := rfl
                simp only [List.length_cons]
                omega)]
              walk_at "ww"
              refine wIZip ?_
              walk_at "ww"
              refine wSl1 (SqT.of h2) (alI fun t3 H3 n3 e3 f3 => ?_)
              have h3 := e3 _ _ h2
              have E3 := (e1.trans e2).trans e3
              walk_at "ww"
              refine ⟨t3, S, r, rfl, SqT.of f3, ?_⟩
              refine ZipS.for_zipS (K := K) (xs := r) S.cps.size (by omega) (fun i σ H' => ∃ v3 v4, σ = [some (.ref a), some (.ref D), some (.str S), v3, v4] ∧ Ex H3 H' ∧ ∀ j, j < i → ∀ v c, r[j]? = some v → S.cps[j]? = some c → sortOk c v = true)
                ⟨_, _, rfl, Ex.refl _, fun j hj => absurd hj (by omega)⟩ (fun i σ H' ⟨_, _, _, e, _⟩ => SqT.of (e _ _ f3)) ?_ ?_
              · rintro i y c T5 σ H4 hy hc ⟨v3, v4, rfl, e4, hall⟩ n5
                refine wGTup (SqT.of upd_same) rfl ?_
                have e5 : Ex H4 (upd H4 T5 (.tup [y, .str ⟨#[c]⟩])) := Ex.new n5
                generalize upd H4 T5 (.tup [y, .str ⟨#[c]⟩]) = H5 at e5 ⊢
                have E5 : Ex H H5 := (E3.trans e4).trans e5
                have thy : Thing K H y := hT.each y (List.mem_cons_of_mem _ (List.mem_of_getElem? hy))
                have fail : sortOk c y = false → ∀ H', Ex H H' → Q (.bl false) H' := fun q H' e => by
                  have := F.bad r hl (good_bad hy hc q)
                  rw [this] at k
                  exact k H' e
                have next : sortOk c y = true → ∀ j, j < i + 1 → ∀ v c', r[j]? = some v → S.cps[j]? = some c' → sortOk c' v = true := fun q j hj v c' hv' hc' => by
                  by_cases hji : j < i
                  · exact hall j hji v c' hv' hc'
                  · obtain rfl : j = i := by omega
                    rw [hy] at hv'
                    rw [hc] at hc'
                    cases hv'
                    cases hc'
                    exact q
                have em : (("m" : Str)) = ⟨#[109]⟩ := by decide +kernel
                have ec : (("c" : Str)) = ⟨#[99]⟩ := by decide +kernel
                walk_at "ww"
                rw [em, one_sign]
                refine ite2 (fun cm => ?_) (fun cm => ?_)
                · have cm : c = 109 := of_decide_eq_true cm
                  subst cm
                  walk_at "ww"
                  obtain ⟨n, ty⟩ := (thy.ex E5).ty
                  refine wIsi ty ty.int_is ?_
                  walk_at "ww"
                  cases hi : isIntV y with
                  | false =>
                    walk_at "ww"
                    refine fail ?_ _ E5
                    show measV y = false
                    cases y <;> first | rfl | cases hi
                  | true =>
                    walk_at "ww"
                    refine wIsi ty ty.bl_is ?_
                    walk_at "ww"
                    cases hb : isBlV y with
                    | true =>
                      walk_at "ww"
                      refine fail ?_ _ E5
                      show measV y = false
                      cases y <;> first | rfl | cases hb
                    | false =>
                      obtain ⟨q, rfl⟩ := int_of hi hb
                      walk_at "ww"
                      refine ite2 (fun c1 => ?_) (fun c1 => ?_)
                      · walk_at "ww"
                        refine ite2 (fun c2 => ?_) (fun c2 => ?_)
                        · walk_at "ww"
                          refine fail ?_ _ E5
                          show (decide (1 ≤ q) && decide (q ≤ 9999)) = false
                          simp at c1 c2 ⊢
                          omega
                        · walk_at "ww"
                          refine ⟨_, _, rfl, e4.trans e5, next ?_⟩
                          show (decide (1 ≤ q) && decide (q ≤ 9999)) = true
                          simp at c1 c2 ⊢
                          omega
                      · walk_at "ww"
                        refine fail ?_ _ E5
                        show (decide (1 ≤ q) && decide (q ≤ 9999)) = false
                        simp at c1 ⊢
                        omega
                · have cm : c ≠ 109 := fun q => cm (decide_eq_true q)
                  have eo : sortOk c y = if c = 99 then holdV y else nameV y := by unfold sortOk; rw [if_neg cm]
                  walk_at "ww"
                  refine ⟨y, rfl, thy.ex E5, fun H6 e6 => ?_⟩
                  have E6 := E5.trans e6
                  walk_at "ww"
                  cases cn : nameV y with
                  | true =>
                    walk_at "ww"
                    refine ⟨_, _, rfl, (e4.trans e5).trans e6, next ?_⟩
                    rw [eo, cn]
                    unfold holdV
                    rw [cn]
                    split <;> rfl
                  | false =>
                    walk_at "ww"
                    rw [ec, one_sign]
                    by_cases cc : c = 99
                    · rw [if_pos cc] at eo
                      rw [decide_eq_true cc]
                      walk_at "ww"
                      obtain ⟨n, ty⟩ := (thy.ex E6).ty
                      refine wIsi ty ty.str_is ?_
                      walk_at "ww"
                      cases hs : isStr y with
                      | false =>
                        walk_at "ww"
                        refine fail ?_ _ E6
                        rw [eo]
                        unfold holdV
                        rw [cn, isW_no hs]
                        rfl
                      | true =>
                        obtain ⟨q, rfl⟩ : ∃ q, y = .str q := by
                          cases y <;> first | exact ⟨_, rfl⟩ | cases hs
                        walk_at "ww"
                        cases hq : decide (V.str q = V.str "chest") with
                        | true =>
                          walk_at "ww"
                          refine ⟨_, _, rfl, (e4.trans e5).trans e6, next ?_⟩
                          rw [eo]
                          unfold holdV isW
                          rw [cn, hq]
                          rfl
                        | false =>
                          walk_at "ww"
                          refine fail ?_ _ E6
                          rw [eo]
                          unfold holdV isW
                          rw [cn, hq]
                          rfl
                    · rw [if_neg cc] at eo
                      rw [decide_eq_false cc]
                      walk_at "ww"
                      refine fail ?_ _ E6
                      rw [eo]
                      exact cn
              · rintro σ H4 ⟨v3, v4, rfl, e4, hall⟩
                have hg : good S.cps.toList r = true := good_all fun j v c hv hc => hall j (Array.getElem?_eq_some_iff.mp hc).1 v c hv hc
                have h4 := e4 _ _ h3
                have E4 := E3.trans e4
                walk_at "ww"
                refine wIxT (SqT.of h4) (at_of (j := 0) rfl rfl) ?_
                walk_at "ww"
                refine alI fun t5 H5 n5 e5 f5 => ?_
                refine ⟨t5, _, rfl, .inl (SqL.of f5), rfl, rfl, ?_⟩
                rw [if_pos rfl, in3]
                walk_at "ww"
                cases h3z : three z with
                | false =>
                  walk_at "ww"
                  rw [F.ok r hl hg h3z] at k
                  exact k H5 (E4.trans e5)
                | true =>
                  obtain ⟨x, y, r', rfl, hd⟩ := F.two r hl hg h3z
                  walk_at "ww"
                  refine wIxT (SqT.of (e5 _ _ h4)) (at_of (j := 1) rfl rfl) ?_
                  walk_at "ww"
                  refine wIxT (SqT.of (e5 _ _ h4)) (at_of (j := 2) rfl rfl) ?_
                  walk_at "ww"
                  rw [hd] at k
                  exact k H5 (E4.trans e5)
            · rw [show decide (V.int (((V.str z :: r).length : Nat) : Int) = V.int (1 + (S.length : Int))) = false from decide_eq_false (fun q => by
                have q := V.int.inj q
                have : S.length = S.cps.size := rfl
                rw [Array.length_toList (xs := S.cps)] at hl
                simp only [List.length_cons] at q
                omega)]
              walk_at "ww"
              rw [F.no r hl] at k
              exact k H2 (e1.trans e2)
/-- join with the written part named -/
theorem pe_joinV {X : Cx} {K : PySem.W.Frag} {o e : Expr} {to te : TE} {apos pos : Pos} (hK : X.K = K) (ho : PE X o to) (he : PE X e te) (hs : starEach [e] X.env = [(false, eval e X.env)] := by rfl) (hbase : attributeBase o "join" X.env (eval o X.env) = eval o X.env := by rfl) (hline : (apos.endLine == pos.line) = true := by rfl) :
    PE X (.Call (.Attribute o "join" apos) [e] [] pos) (tM1 (fun x xs H Q => ∃ a p, ∃ ys : List Str, x = .str a ∧ xs = [.ref p] ∧ (SqL K H p (ys.map V.str) ∨ SqT K H p (ys.map V.str)) ∧
      (ys.map (·.length)).sum + ys.length * a.length ≤ 16777216 ∧ Q (.str (Txt.join a ys)) H) to te) := hK ▸ pe_join ho he hs hbase hline
/-- a text that repr shows without ado, not too long -/
structure Nm (z : Str) : Prop where
  len : z.length ≤ 1000
  sgn : ∀ c ∈ z.cps.toList, c < 16 ^ 8
/-- a part of a deed -/
inductive Flat : V → Prop where
  | s {z : Str} (h : Nm z) : Flat (.str z)
  | i {n : Int} (h : n.natAbs < 10 ^ 60) : Flat (.int n)
theorem Flat.thing {K : PySem.W.Frag} {H : Hp} {v : V} (f : Flat v) : Thing K H v := by
  cases f with
  | s h => exact .s h.len
  | i => exact .i
theorem Flat.sh {H : Hp} {l : Bool} {k : Nat} {v : V} (f : Flat v) : Sh H l k 10002 v := by
  cases f with
  | s h => exact (Sh.str h.sgn).le (by have := h.len; omega)
  | i h => exact (Sh.int h).le (by omega)
theorem nm_of {z : Str} (h : (decide (z.length ≤ 1000) && z.cps.toList.all fun c => decide (c < 16 ^ 8)) = true) : Nm z := by
  rw [Bool.and_eq_true] at h
  exact ⟨of_decide_eq_true h.1, signs_ok h.2⟩
def spLname : Sp := fun vs H Q _ => ∃ p : Addr, vs = [.ref p] ∧ Pool H p ∧ ∀ z H', Kp p H H' → Pool H' p → Nm z → Q (.str z) H'
theorem ok_Lname (T : Tx K mg A) : FnOk P w K mg base CX0 2 A.f_Lname A.d_Lname ["_law_pool_here"] spLname := by
  refine T.F_Lname.ok sc_Lname (fun vs H Q E h => ?_) (fun cdv A' outer s H vs Q E hr h => ?_)
  · obtain ⟨p, rfl, _⟩ := h
    rfl
  · obtain ⟨p, rfl, hP, k⟩ := h
    refine ⟨_, (pss_cons (ps_set (i := 1) sc_Lname.nd rfl (Or.inl rfl) (pe_lst (pa_cons pe_str (pa_cons pe_str (pa_cons pe_str (pa_cons pe_str (pa_cons pe_str (pa_cons pe_str (pa_cons pe_str (pa_cons pe_str (pa_cons pe_str (pa_cons pe_str (pa_cons pe_str (pa_cons pe_str pa_nil))))))))))))))
    (pss_cons (ps_if (pt_cmpR op_eq (pe_call (ok_Ltake T) (hr.mono (by decide)) (by rfl) T.g_Ltake T.F_Ltake.kp T.b_Ltake .nil pass0 (pa_cons (pv 0) (pa_cons pe_int pa_nil))) pe_int (nomark _))
    (pss_one (ps_ret (pe_ix (ix_listV (K := K) rfl) (pv 1) (pe_call (ok_Ltake T) (hr.mono (by decide)) (by rfl) T.g_Ltake T.F_Ltake.kp T.b_Ltake .nil pass0 (pa_cons (pv 0) (pa_cons pe_int pa_nil))) (fun _ _ => rfl))))
    pss_nil)
    (pss_one (ps_ret (pe_joinV (K := K) rfl pe_str (pe_lc rfl sc_Lname.nd (g := gName 2) (pi_range1 (by rfl) T.m_range (pa_cons (pe_op op_add pe_int (pe_call (ok_Ltake T) (hr.mono (by decide)) (by rfl) T.g_Ltake T.F_Ltake.kp T.b_Ltake .nil pass0 (pa_cons (pv 0) (pa_cons pe_int pa_nil)))) pa_nil)) (blkOk_by (own := [("_law_k", 2)]) (N := ["_law_pool_here", "_law_own", "_law_k"]) (sc := defScope s_Lname) (by decide +kernel)) (fun _ _ _ _ _ => (pg_name (i := 2) sc_Lname.nd rfl (Or.inl rfl))) (fun _ _ _ _ _ => pts_nil) (fun _ _ _ _ _ => (pe_ix ix_str pe_str (pe_call (ok_Ltake T) (hr.mono (by decide)) (by rfl) T.g_Ltake T.F_Ltake.kp T.b_Ltake .nil pass0 (pa_cons (pv 0) (pa_cons pe_int pa_nil))) (fun _ _ => rfl))))))))), ?_⟩
    walk_at "ww"
    refine alI fun l1 H1 n1 e1 f1 => ?_
    have hP1 := hP.ex e1
    have m1 : l1 ≠ p := hP.ne n1
    walk_at "ww"
    refine ⟨p, 3, rfl, hP1, by omega, by omega, fun d H2 d0 d1 e2 hP2 => ?_⟩
    have K2 : Kp p H H2 := e1.kp.trans e2
    walk_at "ww"
    refine ite2 (fun c => ?_) (fun c => ?_)
    · walk_at "ww"
      refine ⟨p, 12, rfl, hP2, by omega, by omega, fun d3 H3 d30 d31 e3 hP3 => ?_⟩
      obtain ⟨wv, hwv, hwm⟩ := at_ex (xs := [V.str "come", V.str "bring", V.str "give", V.str "hand", V.str "forget", V.str "go", V.str "has", V.str "thanks", V.str "none", V.str "now", V.str "a", V.str "abcdefgh"]) d30 (by show d3 < 12; omega)
      refine wIxL (SqL.of (e3 _ _ m1 (e2 _ _ m1 f1))) hwv ?_
      obtain ⟨wz, rfl, wn⟩ : ∃ z, wv = .str z ∧ Nm z := by
        simp only [List.mem_cons, List.not_mem_nil, or_false] at hwm
        rcases hwm with rfl | rfl | rfl | rfl | rfl | rfl | rfl | rfl | rfl | rfl | rfl | rfl <;> exact ⟨_, rfl, nm_of (by decide +kernel)⟩
      exact k _ _ (K2.trans e3) hP3 wn
    · walk_at "ww"
      refine ⟨p, 8, rfl, hP2, by omega, by omega, fun d3 H3 d30 d31 e3 hP3 => ?_⟩
      walk_at "ww"
      refine ⟨by omega, by omega, ?_⟩
      intro D hD
      have nDp : D ≠ p := hP3.ne hD
      have e0 : (("" : Str)) = ⟨#[]⟩ := by decide +kernel
      have letL : (("abcdefghijklmnopqrstuvwxyz" : Str)).cps.toList.length = 26 := by decide +kernel
      have letS : (("abcdefghijklmnopqrstuvwxyz" : Str)).length ≤ sizeLine := by decide +kernel
      have letG : ∀ c ∈ (("abcdefghijklmnopqrstuvwxyz" : Str)).cps.toList, c < 16 ^ 8 := signs_ok (by decide +kernel)
      refine lcRng (fun H' => Kp p H3 H' ∧ Pool H' p) (fun i y _ => ∃ c, c < 16 ^ 8 ∧ y = .str ⟨#[c]⟩) (fun _ => rfl) ⟨Kp.new hD, hP3.upd nDp⟩ (fun i hi H4 acc hI hD4 hl hR => ?_) (fun H4 ys hI hD4 hl hR => ?_)
      · walk_at "ww"
        refine ⟨p, 26, rfl, hI.2, by omega, by omega, fun d5 H5 d50 d51 e5 hP5 => ?_⟩
        obtain ⟨c, hc, hcm⟩ := at_ex (xs := (("abcdefghijklmnopqrstuvwxyz" : Str)).cps.toList) d50 (by rw [letL]; omega)
        refine wIxS letS hc ?_
        exact lcAdd (e5 _ _ nDp hD4) hl (by omega) ⟨(hI.1.trans e5).mut hD, hP5.upd nDp⟩ hR ⟨c, letG c hcm, rfl⟩
      · obtain ⟨cs, c1, c2, rfl⟩ := join_ones (P := fun c => c < 16 ^ 8) hR
        refine ⟨_, D, _, rfl, rfl, .inl (SqL.of hD4), ?_, ?_⟩
        · rw [ones_sum, e0]
          have : ((⟨#[]⟩ : Str)).length = 0 := rfl
          rw [this]
          omega
        have hj : (Txt.join ("" : Str) (cs.map fun c => (⟨#[c]⟩ : Str))).cps.toList = cs := by
          rw [e0, TL.join_eq]
          exact ones_cps cs
        refine k _ _ ((K2.trans e3).trans hI.1) hI.2 ⟨?_, ?_⟩
        · show (Txt.join ("" : Str) (cs.map fun c => (⟨#[c]⟩ : Str))).cps.size ≤ 1000
          rw [← Array.length_toList, hj]
          omega
        · rw [hj]
          exact c2
def spLdeed : Sp := fun vs H Q _ => ∃ (p : Addr) (z : Str), vs = [.ref p, .str z] ∧ Pool H p ∧ Nm z ∧ ∀ t xs H', Kp p H H' → Pool H' p → H t = none → H' t = some (.tup xs) → xs ≠ [] → xs.length ≤ 10 → (∀ x ∈ xs, Flat x) → Q (.ref t) H'
theorem wCatN {K : PySem.W.Frag} {H : Hp} {Q : VK} {a b : Addr} {xs ys : List V} (h1 : SqT K H a xs) (h2 : SqT K H b ys) (hl : xs.length + ys.length ≤ 100000) (hx : xs ≠ []) (k0 : ys = [] → Q (.ref a) H) (k1 : ys ≠ [] → Al Q (.tup (xs ++ ys)) H) : rCatA K (.ref a) (.ref b) H Q :=
  ⟨a, b, xs, ys, rfl, rfl, h1, h2, sz6 hl, fun q => absurd q hx, fun _ q => k0 q, fun _ q => k1 q⟩
theorem ok_Ldeed (T : Tx K mg A) : FnOk P w K mg base CX0 3 A.f_Ldeed A.d_Ldeed ["_law_pool_here", "_law_word"] spLdeed := by
  refine T.F_Ldeed.ok sc_Ldeed (fun vs H Q E h => ?_) (fun cdv A' outer s H vs Q E hr h => ?_)
  · obtain ⟨p, z, rfl, _⟩ := h
    rfl
  · obtain ⟨p, wz, rfl, hP, wn, k⟩ := h
    refine ⟨_, (pss_cons (ps_par3 (i := 2) (j := 3) (l := 4) rfl sc_Ldeed.nd rfl rfl rfl (by decide) (by decide) (by decide) rfl rfl rfl (pa_cons (pe_call (ok_Lname T) (hr.mono (by decide)) (by rfl) T.g_Lname T.F_Lname.kp T.b_Lname .nil pass0 (pa_cons (pv 0) pa_nil)) (pa_cons (pe_call (ok_Lname T) (hr.mono (by decide)) (by rfl) T.g_Lname T.F_Lname.kp T.b_Lname .nil pass0 (pa_cons (pv 0) pa_nil)) (pa_cons (pe_call (ok_Lname T) (hr.mono (by decide)) (by rfl) T.g_Lname T.F_Lname.kp T.b_Lname .nil pass0 (pa_cons (pv 0) pa_nil)) pa_nil))) rfl)
    (pss_cons (ps_set (i := 5) sc_Ldeed.nd rfl (Or.inl rfl) (pe_ix (ix_listV (K := K) rfl) (pe_lst (pa_cons pe_int (pa_cons pe_int (pa_cons (pe_op op_add pe_int (pe_call (ok_Ltake T) (hr.mono (by decide)) (by rfl) T.g_Ltake T.F_Ltake.kp T.b_Ltake .nil pass0 (pa_cons (pv 0) (pa_cons pe_int pa_nil)))) pa_nil)))) (pe_call (ok_Ltake T) (hr.mono (by decide)) (by rfl) T.g_Ltake T.F_Ltake.kp T.b_Ltake .nil pass0 (pa_cons (pv 0) (pa_cons pe_int pa_nil))) (fun _ _ => rfl)))
    (pss_cons (ps_if (pt_cmpR (op_in_seqV (K := K) rfl) (pv 1) (pe_lst (pa_cons pe_str (pa_cons pe_str pa_nil))) (by rfl))
    (pss_one (ps_ret (pe_tup (pa_cons (pv 1) (pa_cons (pv 2) pa_nil)))))
    pss_nil)
    (pss_cons (ps_if (pt_cmpR op_eq (pv 1) pe_str (nomark _))
    (pss_one (ps_ret (pe_tup (pa_cons (pv 1) (pa_cons (pv 2) (pa_cons (pv 4) (pa_cons (pv 5) pa_nil)))))))
    pss_nil)
    (C8.pss_cut (ps_if (PW.pt (pw_and (pt_cmpR op_eq (pv 1) pe_str (nomark _)) (pw_and1 (pt_cmpR op_eq (pe_call (ok_Ltake T) (hr.mono (by decide)) (by rfl) T.g_Ltake T.F_Ltake.kp T.b_Ltake .nil pass0 (pa_cons (pv 0) (pa_cons pe_int pa_nil))) pe_int (nomark _)))))
    (pss_one (ps_set (i := 3) sc_Ldeed.nd rfl (Or.inl rfl) pe_str))
    pss_nil)
    (pss_one (ps_ret (pe_op (op_catTV (K := K) rfl) (pe_op (op_catTV (K := K) rfl) (pe_tup (pa_cons (pv 1) (pa_cons (pv 2) (pa_cons (pv 3) pa_nil)))) (pe_op (op_repT01V (K := K) rfl) (pe_tup (pa_cons (pv 4) pa_nil)) (pe_callTy call_int1 (by rfl) T.m_int (by decide +kernel) (pa_cons (pe_cmpR op_eq (pv 1) pe_str (nomark _)) pa_nil)))) (pe_tup (pa_cons (pv 5) pa_nil)))))))))), ?_⟩
    walk_at "ww"
    refine ⟨p, rfl, hP, fun z0 H1 e1 hP1 g0 => ?_⟩
    walk_at "ww"
    refine ⟨p, rfl, hP1, fun z1 H2 e2 hP2 g1 => ?_⟩
    walk_at "ww"
    refine ⟨p, rfl, hP2, fun z2 H3 e3 hP3 g2 => ?_⟩
    have K3 : Kp p H H3 := (e1.trans e2).trans e3
    walk_at "ww"
    refine ⟨p, 9999, rfl, hP3, by omega, by omega, fun d3 H4 d30 d31 e4 hP4 => ?_⟩
    walk_at "ww"
    refine alI fun l4 H5 n5 e5 f5 => ?_
    have n4p : l4 ≠ p := hP4.ne n5
    walk_at "ww"
    refine ⟨p, 3, rfl, hP4.ex e5, by omega, by omega, fun d5 H6 d50 d51 e6 hP6 => ?_⟩
    obtain ⟨mv, hmv, hmm⟩ := at_ex (xs := [V.int 1, V.int 9999, V.int (1 + d3)]) d50 (by show d5 < 3; omega)
    refine wIxL (SqL.of (e6 _ _ n4p f5)) hmv ?_
    obtain ⟨m, rfl, hm0, hm1⟩ : ∃ m, mv = .int m ∧ 0 ≤ m ∧ m ≤ 9999 := by
      simp only [List.mem_cons, List.not_mem_nil, or_false] at hmm
      rcases hmm with rfl | rfl | rfl <;> exact ⟨_, rfl, by omega, by omega⟩
    have K6 : Kp p H H6 := ((K3.trans e4).trans e5.kp).trans e6
    have fin : ∀ H8 xs, Kp p H H8 → Pool H8 p → xs ≠ [] → xs.length ≤ 10 → (∀ x ∈ xs, Flat x) → Al Q (.tup xs) H8 := fun H8 xs kp hp h1 h2 h3 t ht => k t xs _ (kp.trans (Kp.new ht)) (hp.upd (hp.ne ht)) (kp.free (hp.ne ht) ht) upd_same h1 h2 h3
    have fw : Flat (.str wz) := .s wn
    have f0 : Flat (.str z0) := .s g0
    have f1 : Flat (.str z1) := .s g1
    have f2 : Flat (.str z2) := .s g2
    have fm : Flat (.int m) := .i (Nat.lt_trans (by omega : m.natAbs < 10000) (by decide +kernel))
    walk_at "ww"
    refine alI fun l6 H7 n7 e7 f7 => ?_
    refine ⟨l6, _, rfl, .inl (SqL.of f7), rfl, rfl, ?_⟩
    rw [if_neg (by decide), in2]
    have K7 := K6.trans e7.kp
    have hP7 := hP6.ex e7
    walk_at "ww"
    refine ite2 (fun c1 => ?_) (fun c1 => ?_)
    · walk_at "ww"
      exact fin _ _ K7 hP7 (by simp) (by simp) (by simp [fw, f0])
    · walk_at "ww"
      refine ite2 (fun c2 => ?_) (fun c2 => ?_)
      · walk_at "ww"
        exact fin _ _ K7 hP7 (by simp) (by simp) (by simp [fw, f0, f2, fm])
      · walk_at "ww"
        refine wCut (fun σ H' => ∃ v, σ = [some (.ref p), some (.str wz), some (.str z0), some v, some (.str z2), some (.int m)] ∧ Flat v ∧ Kp p H H' ∧ Pool H' p) ?_ ?_
        · walk_at "ww"
          refine ite2 (fun c3 => ?_) (fun c3 => ?_)
          · walk_at "ww"
            refine ⟨p, 4, rfl, hP7, by omega, by omega, fun d8 H8 d80 d81 e8 hP8 => ?_⟩
            walk_at "ww"
            refine ite2 (fun c4 => ?_) (fun c4 => ?_)
            · walk_at "ww"
              exact ⟨_, rfl, .s (nm_of (by decide +kernel)), K7.trans e8, hP8⟩
            · walk_at "ww"
              exact ⟨_, rfl, f1, K7.trans e8, hP8⟩
          · walk_at "ww"
            exact ⟨_, rfl, f1, K7, hP7⟩
        · rintro σ H8 ⟨v, rfl, fv, K8, hP8⟩
          walk_at "ww"
          refine alI fun t1 H9 n9 e9 f9 => ?_
          walk_at "ww"
          refine alI fun t2 H10 n10 e10 f10 => ?_
          have g9 := e10 _ _ f9
          have K10 := (K8.trans e9.kp).trans e10.kp
          have hP10 := (hP8.ex e9).ex e10
          walk_at "ww"
          refine .inr ⟨_, rfl, ?_⟩
          refine ⟨t2, _, _, rfl, rfl, SqT.of f10, by simp, fun q1 => ?_, fun q0 => ?_, ?_⟩
          · refine wCatN (SqT.of g9) (SqT.of f10) (by simp) (by simp) (fun q => by cases q) fun _ => ?_
            refine alI fun t3 H11 n11 e11 f11 => ?_
            walk_at "ww"
            refine alI fun t4 H12 n12 e12 f12 => ?_
            refine wCatN (SqT.of (e12 _ _ f11)) (SqT.of f12) (by simp) (by simp) (fun q => by cases q) fun _ => ?_
            exact fin _ _ ((K10.trans e11.kp).trans e12.kp) ((hP10.ex e11).ex e12) (by simp) (by simp) (by simp [fw, f0, fv, fm, f2])
          · intro t0 n11
            have e11 : Ex H10 (upd H10 t0 (.tup [])) := Ex.new n11
            have f11 : (upd H10 t0 (.tup [])) t0 = some (.tup []) := upd_same
            generalize upd H10 t0 (.tup []) = H11 at e11 f11 ⊢
            show rCatA K (.ref t1) (.ref t0) H11 _
            refine wCatN (SqT.of (e11 _ _ g9)) (SqT.of f11) (by simp) (by simp) (fun _ => ?_) fun q => absurd rfl q
            walk_at "ww"
            refine alI fun t4 H12 n12 e12 f12 => ?_
            refine wCatN (SqT.of (e12 _ _ (e11 _ _ g9))) (SqT.of f12) (by simp) (by simp) (fun q => by cases q) fun _ => ?_
            exact fin _ _ ((K10.trans e11.kp).trans e12.kp) ((hP10.ex e11).ex e12) (by simp) (by simp) (by simp [fw, f0, fv, fm])
          · split <;> simp
/-- a matter: a thing that is a deed or none, and that repr shows -/
structure Mt (K : PySem.W.Frag) (H : Hp) (v : V) : Prop where
  deed : ∃ b, Dd K H v b
  show_ : ∃ l, Sh H l 64 10000000 v
theorem Mt.ex {K : PySem.W.Frag} {H H' : Hp} {v : V} (d : Mt K H v) (e : Ex H H') : Mt K H' v :=
  ⟨d.deed.elim fun b h => ⟨b, h.ex e⟩, d.show_.elim fun l h => ⟨l, h.ex e⟩⟩
def spRight (K : PySem.W.Frag) : Sp := fun vs H Q _ => ∃ v, vs = [v] ∧ Mt K H v ∧ ∀ H', Ex H H' → Q (.bl true) H'
theorem ok_Lright (T : Tx K mg A) : FnQ P w K mg base CX0 5 A.f_Lright A.d_Lright ["_law_matter"] (spRight K) := by
  refine okQ T.F_Lright sc_Lright (fun vs H Q E h => ?_) (fun cdv A' outer s H vs Q E hq h => ?_)
  · obtain ⟨v, rfl, _⟩ := h
    rfl
  · obtain ⟨v, rfl, ⟨⟨b, d⟩, ⟨l, dt, n, rp, hn⟩⟩, k⟩ := h
    have hr := hq.room
    refine ⟨_, (C8.pss_cut (ps_par (i := 1) (j := 2) (by rfl) sc_Lright.nd rfl rfl (by decide) rfl rfl (pa_cons (pe_call (ok_Lis_deed T) (hr.mono (by decide)) (by rfl) T.g_Lis_deed T.F_Lis_deed.kp T.b_Lis_deed .nil pass0 (pa_cons (pv 0) pa_nil)) (pa_cons (pe_callB (call_repr hq) (by rfl) T.m_repr (by decide +kernel) (pa_cons (pv 0) pa_nil)) pa_nil)) (by rfl))
    (pss_cons (ps_for PassesOwn.never rfl (pi_listV (K := K) rfl (pe_lst (pa_cons (pe_call (ok_is_deed T) (hr.mono (by decide)) (by rfl) T.g_is_deed T.F_is_deed.kp T.b_is_deed .nil pass0 (pa_cons (pv 0) pa_nil)) (pa_cons (pe_callN0 (ok_is_deed T) (hr.mono (by decide)) (by rfl) T.g_is_deed T.F_is_deed.kp T.kb0_is_deed_thing pass0 (pk_cons (pv 0) pk_nil)) (pa_cons (pe_call (ok_is_deed T) (hr.mono (by decide)) (by rfl) T.g_is_deed T.F_is_deed.kp T.b_is_deed .nil pass0 (pa_cons (pv 0) pa_nil)) pa_nil))))) (pg_name (i := 3) sc_Lright.nd rfl (Or.inl rfl))
    (pss_one (ps_if (PW.pt (pw_or (pt_not (pt_val (pe_callB (call_isiV (K := K) rfl) (by rfl) T.m_isinstance (by decide +kernel) (pa_cons (pv 3) (pa_cons (pe_bltn (v := .ty "bool") (by rfl) T.m_bool (by decide +kernel) rfl) pa_nil))))) (pw_or1 (pt_cmpR op_ne (pv 3) (pv 1) (nomark _)))))
      (pss_one (ps_ret pe_bl))
      pss_nil)))
    (pss_one (ps_ret (pe_cmpR op_eq (pe_callB (call_repr hq) (by rfl) T.m_repr (by decide +kernel) (pa_cons (pv 0) pa_nil)) (pv 2) (nomark _)))))), ?_⟩
    refine wCut (fun σ H' => σ = [some v, some (.bl b), some (.str dt.shown), none] ∧ Ex H H') ?_ ?_
    · walk_at "ww"
      refine ⟨v, b, rfl, d, fun H1 e1 => ?_⟩
      walk_at "ww"
      refine ⟨v, l, dt, n, rfl, rp.ex e1, hn, ?_⟩
      walk_at "ww"
      exact ⟨rfl, e1⟩
    · rintro σ H1 ⟨rfl, e0⟩
      have d := d.ex e0
      walk_at "ww"
      refine ⟨v, b, rfl, d, fun H2 e2 => ?_⟩
      walk_at "ww"
      refine ⟨rfl, rfl, v, b, rfl, d.ex e2, fun H3 e3 => ?_⟩
      walk_at "ww"
      refine ⟨v, b, rfl, (d.ex e2).ex e3, fun H4 e4 => ?_⟩
      walk_at "ww"
      intro l1 hl
      walk_at "ww"
      refine exSq (SqL.of upd_same) ?_
      refine for_list (K := K) (a := l1) (xs := [V.bl b, V.bl b, V.bl b]) (fun i σ H' => ∃ t, σ = [some v, some (.bl b), some (.str dt.shown), t] ∧ Ex (upd H4 l1 (.lst [V.bl b, V.bl b, V.bl b])) H')
        ⟨none, rfl, Ex.refl _⟩ (fun i σ H' _ ⟨_, _, e⟩ => SqL.of (e _ _ upd_same)) ?_ ?_
      · rintro i y σ H' hi ⟨t, rfl, e⟩
        obtain rfl : y = V.bl b := by
          match i, hi with
          | 0, h => exact (Option.some.inj h).symm
          | 1, h => exact (Option.some.inj h).symm
          | 2, h => exact (Option.some.inj h).symm
        walk_at "ww"
        exact ⟨_, rfl, e⟩
      · rintro σ H' ⟨t, rfl, e⟩
        have E' : Ex H H' := (((e0.trans e2).trans e3).trans e4).trans ((Ex.new hl).trans e)
        walk_at "ww"
        refine ⟨v, l, dt, n, rfl, rp.ex E', hn, ?_⟩
        walk_at "ww"
        rw [decide_eq_true rfl]
        exact k _ E'
/-- the heap without the place p -/
def hide (p : Addr) (H : Hp) : Hp := fun a => if a = p then none else H a
theorem hide_ex {p : Addr} {H : Hp} : Ex (hide p H) H := fun a o h => by
  unfold hide at h
  split at h
  · cases h
  · exact h
theorem hide_at {p a : Addr} {H : Hp} {o : HO} (n : a ≠ p) (h : H a = some o) : hide p H a = some o := by
  unfold hide
  rw [if_neg n]
  exact h
theorem hide_ne {p a : Addr} {H : Hp} {o : HO} (h : hide p H a = some o) : a ≠ p := fun e => by
  unfold hide at h
  rw [if_pos e] at h
  cases h
theorem Kp.hide {p : Addr} {H H' : Hp} (e : Kp p H H') : Ex (Ver.hide p H) (Ver.hide p H') := fun a o h => hide_at (hide_ne h) (e a o (hide_ne h) (hide_ex a o h))
theorem Ex.hide {p : Addr} {H H' : Hp} (e : Ex H H') : Ex (Ver.hide p H) (Ver.hide p H') := Kp.hide e.kp
/-- a part of what may be a deed: a thing that repr shows -/
def Part (K : PySem.W.Frag) (H : Hp) (l : Bool) (v : V) : Prop := Thing K H v ∧ Sh H l 63 100000 v
theorem Part.ex {K : PySem.W.Frag} {H H' : Hp} {l : Bool} {v : V} (d : Part K H l v) (e : Ex H H') : Part K H' l v := ⟨d.1.ex e, d.2.ex e⟩
theorem Flat.part {K : PySem.W.Frag} {H : Hp} {l : Bool} {v : V} (f : Flat v) : Part K H l v := ⟨f.thing, f.sh.le (by omega)⟩
def Od (K : PySem.W.Frag) (H : Hp) (v : V) : Prop := ∃ l, Part K H l v
theorem Od.ex {K : PySem.W.Frag} {H H' : Hp} {v : V} (d : Od K H v) (e : Ex H H') : Od K H' v := d.elim fun l h => ⟨l, h.ex e⟩
section
variable {K : PySem.W.Frag} {H : Hp} {p a : Addr}
theorem cut_len (xs : List V) (lo hi : Option Int) : (cutV xs lo hi).length ≤ xs.length := by
  unfold cutV
  simp
  omega
theorem cut_mem {xs : List V} {lo hi : Option Int} {y : V} (h : y ∈ cutV xs lo hi) : y ∈ xs := by
  unfold cutV at h
  first
    | exact List.mem_of_mem_take (List.mem_of_mem_drop h)
    | exact List.mem_of_mem_drop (List.mem_of_mem_take h)
theorem wSlAny {Q : VK} {xs : List V} {lo hi : Option Int} (h : H a = some (.tup xs)) (k : ∀ b ys H', Ex H H' → H' b = some (.tup ys) → ys.length ≤ xs.length → (∀ y ∈ ys, y ∈ xs) → (b = a ∨ H b = none) → Q (.ref b) H') : rSlA K (.ref a) lo hi H Q :=
  ⟨a, xs, rfl, SqT.of h, fun _ => k a xs H (Ex.refl H) h (Nat.le_refl _) (fun _ h => h) (.inl rfl), fun _ q hq => k q _ _ (Ex.new hq) upd_same (cut_len _ _ _) (fun _ h => cut_mem h) (.inr hq)⟩
theorem wCatAny {Q : VK} {b : Addr} {xs ys : List V} (h1 : H a = some (.tup xs)) (h2 : H b = some (.tup ys)) (hl : xs.length + ys.length ≤ 100000) (k : ∀ c H', Ex H H' → H' c = some (.tup (xs ++ ys)) → (c = a ∨ c = b ∨ H c = none) → Q (.ref c) H') : rCatA K (.ref a) (.ref b) H Q :=
  ⟨a, b, xs, ys, rfl, rfl, SqT.of h1, SqT.of h2, sz6 hl, fun e => k b H (Ex.refl H) (by rw [e]; exact h2) (.inr (.inl rfl)), fun _ e => k a H (Ex.refl H) (by rw [e, List.append_nil]; exact h1) (.inl rfl), fun _ _ q hq => k q _ (Ex.new hq) upd_same (.inr (.inr hq))⟩
theorem wCatL {Q : VK} {b : Addr} {xs ys : List V} (h1 : H a = some (.lst xs)) (h2 : H b = some (.lst ys)) (hl : xs.length + ys.length ≤ 100000) (k : ∀ c H', Ex H H' → H' c = some (.lst (xs ++ ys)) → H c = none → Q (.ref c) H') : rCat (.ref a) (.ref b) H Q :=
  wCat h1 h2 (sz6 hl) fun q hq => k q _ (Ex.new hq) upd_same hq
theorem wRevT {K : PySem.W.Frag} {σ : L2.St} {H : Hp} {Q : VK} {te : TE} (k : te σ H fun x H1 => ∃ a xs, x = .ref a ∧ SqT K H1 a xs ∧ Al Q (.tup xs.reverse) H1) : tRevT K te σ H Q := k
theorem odF {v : V} (f : Flat v) : Od K H v := ⟨true, f.part⟩
theorem odN : Od K H .non := ⟨true, Thing.n, Sh.non.le (by omega)⟩
theorem odB {b : Bool} : Od K H (.bl b) := ⟨true, Thing.b, Sh.bl.le (by omega)⟩
theorem odI {i : Int} (h : i.natAbs < 10 ^ 60) : Od K H (.int i) := odF (.i h)
theorem odS {z : Str} (h : (decide (z.length ≤ 1000) && z.cps.toList.all fun c => decide (c < 16 ^ 8)) = true) : Od K H (.str z) := odF (.s (nm_of h))
theorem odT {xs : List V} (n : a ≠ p) (h : H a = some (.tup xs)) (hl : xs.length ≤ 9) (q : ∀ x ∈ xs, Flat x) : Od K (hide p H) (.ref a) :=
  ⟨true, Thing.t (hide_at n h), (Sh.tup (n := 10002) (hide_at n h) fun x hx => (q x hx).sh).le (by
    have := Nat.mul_le_mul_right (10002 + 2) hl
    omega)⟩
theorem odL {xs : List V} (n : a ≠ p) (h : H a = some (.lst xs)) (hl : xs.length ≤ 9) (q : ∀ x ∈ xs, Flat x) : Od K (hide p H) (.ref a) :=
  ⟨true, Thing.l (hide_at n h), (Sh.lst (n := 10002) (hide_at n h) fun x hx => (q x hx).sh).le (by
    have := Nat.mul_le_mul_right (10002 + 2) hl
    omega)⟩
end
def spOdd (K : PySem.W.Frag) : Sp := fun vs H Q _ => ∃ p : Addr, vs = [.ref p] ∧ Pool H p ∧ ∀ v H', Kp p H H' → Pool H' p → Od K (hide p H') v → Q v H'
theorem ann_merge : mergeK [] [((.inr "ann" : Key), V.int 1)] = [((.inr "ann" : Key), V.int 1)] := by with_unfolding_all rfl
theorem ok_Lodd (T : Tx K mg A) : FnOk P w K mg base CX0 2 A.f_Lodd A.d_Lodd ["_law_pool_here"] (spOdd K) := by
  refine T.F_Lodd.ok sc_Lodd (fun vs H Q E h => ?_) (fun cdv A' outer s H vs Q E hr h => ?_)
  · obtain ⟨p, rfl, _⟩ := h
    rfl
  · obtain ⟨p, rfl, hP0, k⟩ := h
    have K0 := Kp.refl p H
    refine ⟨_, (pss_cons (ps_set (i := 1) sc_Lodd.nd rfl (Or.inl rfl) (pe_lst (pa_cons pe_non (pa_cons pe_bl (pa_cons pe_bl (pa_cons pe_int (pa_cons pe_int (pa_cons (pe_un un_neg pe_int) (pa_cons pe_int (pa_cons pe_int (pa_cons pe_str (pa_cons pe_str (pa_cons pe_str (pa_cons pe_str (pa_cons pe_str (pa_cons pe_str (pa_cons pe_str (pa_cons (pe_tup pa_nil) pa_nil))))))))))))))))))
    (pss_cons (ps_set (i := 1) sc_Lodd.nd rfl (Or.inl rfl) (pe_op op_cat (pv 1) (pe_lst (pa_cons (pe_tup (pa_cons pe_str pa_nil)) (pa_cons (pe_lst (pa_cons pe_str pa_nil)) (pa_cons (pe_lst pa_nil) (pa_cons pe_dnewK (pa_cons (pe_tup (pa_cons (pe_lst pa_nil) pa_nil)) (pa_cons pe_str (pa_cons (pe_tup (pa_cons pe_int pa_nil)) (pa_cons (pe_tup (pa_cons pe_int (pa_cons pe_int pa_nil))) (pa_cons (pe_op op_pow pe_int pe_int) (pa_cons (pe_disp (pps_cons pe_str pe_int pps_nil) rfl rfl (by simp) (by decide)) pa_nil)))))))))))))
    (pss_one (ps_ret (pe_ix (ix_listV (K := K) rfl) (pv 1) (pe_call (ok_Ltake T) (hr.mono (by decide)) (by rfl) T.g_Ltake T.F_Ltake.kp T.b_Ltake .nil pass0 (pa_cons (pv 0) (pa_cons pe_int pa_nil))) (fun _ _ => rfl)))))), ?_⟩
    walk_at "ww"
    refine alI fun t1 H1 t1_new e1 t1_f => ?_
    have t1_m : t1 ≠ p := hP0.ne t1_new
    have hP1 := hP0.ex e1
    have K1 := K0.trans e1.kp
    have t1_1 := t1_f
    walk_at "ww"
    refine alI fun l1 H2 l1_new e2 l1_f => ?_
    have l1_m : l1 ≠ p := hP1.ne l1_new
    have hP2 := hP1.ex e2
    have K2 := K1.trans e2.kp
    have t1_2 := e2 _ _ t1_1
    have l1_2 := l1_f
    walk_at "ww"
    refine alI fun t2 H3 t2_new e3 t2_f => ?_
    have t2_m : t2 ≠ p := hP2.ne t2_new
    have hP3 := hP2.ex e3
    have K3 := K2.trans e3.kp
    have t1_3 := e3 _ _ t1_2
    have l1_3 := e3 _ _ l1_2
    have t2_3 := t2_f
    walk_at "ww"
    refine alI fun l2 H4 l2_new e4 l2_f => ?_
    have l2_m : l2 ≠ p := hP3.ne l2_new
    have hP4 := hP3.ex e4
    have K4 := K3.trans e4.kp
    have t1_4 := e4 _ _ t1_3
    have l1_4 := e4 _ _ l1_3
    have t2_4 := e4 _ _ t2_3
    have l2_4 := l2_f
    walk_at "ww"
    refine alI fun l3 H5 l3_new e5 l3_f => ?_
    have l3_m : l3 ≠ p := hP4.ne l3_new
    have hP5 := hP4.ex e5
    have K5 := K4.trans e5.kp
    have t1_5 := e5 _ _ t1_4
    have l1_5 := e5 _ _ l1_4
    have t2_5 := e5 _ _ t2_4
    have l2_5 := e5 _ _ l2_4
    have l3_5 := l3_f
    walk_at "ww"
    refine alI fun d1 H6 d1_new e6 d1_f => ?_
    have d1_m : d1 ≠ p := hP5.ne d1_new
    have hP6 := hP5.ex e6
    have K6 := K5.trans e6.kp
    have t1_6 := e6 _ _ t1_5
    have l1_6 := e6 _ _ l1_5
    have t2_6 := e6 _ _ t2_5
    have l2_6 := e6 _ _ l2_5
    have l3_6 := e6 _ _ l3_5
    have d1_6 := d1_f
    walk_at "ww"
    refine alI fun l4 H7 l4_new e7 l4_f => ?_
    have l4_m : l4 ≠ p := hP6.ne l4_new
    have hP7 := hP6.ex e7
    have K7 := K6.trans e7.kp
    have t1_7 := e7 _ _ t1_6
    have l1_7 := e7 _ _ l1_6
    have t2_7 := e7 _ _ t2_6
    have l2_7 := e7 _ _ l2_6
    have l3_7 := e7 _ _ l3_6
    have d1_7 := e7 _ _ d1_6
    have l4_7 := l4_f
    walk_at "ww"
    refine alI fun t3 H8 t3_new e8 t3_f => ?_
    have t3_m : t3 ≠ p := hP7.ne t3_new
    have hP8 := hP7.ex e8
    have K8 := K7.trans e8.kp
    have t1_8 := e8 _ _ t1_7
    have l1_8 := e8 _ _ l1_7
    have t2_8 := e8 _ _ t2_7
    have l2_8 := e8 _ _ l2_7
    have l3_8 := e8 _ _ l3_7
    have d1_8 := e8 _ _ d1_7
    have l4_8 := e8 _ _ l4_7
    have t3_8 := t3_f
    walk_at "ww"
    refine alI fun t4 H9 t4_new e9 t4_f => ?_
    have t4_m : t4 ≠ p := hP8.ne t4_new
    have hP9 := hP8.ex e9
    have K9 := K8.trans e9.kp
    have t1_9 := e9 _ _ t1_8
    have l1_9 := e9 _ _ l1_8
    have t2_9 := e9 _ _ t2_8
    have l2_9 := e9 _ _ l2_8
    have l3_9 := e9 _ _ l3_8
    have d1_9 := e9 _ _ d1_8
    have l4_9 := e9 _ _ l4_8
    have t3_9 := e9 _ _ t3_8
    have t4_9 := t4_f
    walk_at "ww"
    refine alI fun t5 H10 t5_new e10 t5_f => ?_
    have t5_m : t5 ≠ p := hP9.ne t5_new
    have hP10 := hP9.ex e10
    have K10 := K9.trans e10.kp
    have t1_10 := e10 _ _ t1_9
    have l1_10 := e10 _ _ l1_9
    have t2_10 := e10 _ _ t2_9
    have l2_10 := e10 _ _ l2_9
    have l3_10 := e10 _ _ l3_9
    have d1_10 := e10 _ _ d1_9
    have l4_10 := e10 _ _ l4_9
    have t3_10 := e10 _ _ t3_9
    have t4_10 := e10 _ _ t4_9
    have t5_10 := t5_f
    walk_at "ww"
    intro d2 d2_new
    walk_at "ww"
    refine ⟨upd_same, [((.inr "ann" : Key), V.int 1)], rfl, by decide, ?_⟩
    rw [ann_merge]
    have e11 : Ex H10 (upd (upd H10 d2 (.dK [])) d2 (.dK [((.inr "ann" : Key), V.int 1)])) := (Ex.new d2_new).mut d2_new
    have d2_f : (upd (upd H10 d2 (.dK [])) d2 (.dK [((.inr "ann" : Key), V.int 1)])) d2 = some (.dK [((.inr "ann" : Key), V.int 1)]) := upd_same
    generalize upd (upd H10 d2 (.dK [])) d2 (.dK [((.inr "ann" : Key), V.int 1)]) = H11 at e11 d2_f ⊢
    have d2_m : d2 ≠ p := hP10.ne d2_new
    have hP11 := hP10.ex e11
    have K11 := K10.trans e11.kp
    have t1_11 := e11 _ _ t1_10
    have l1_11 := e11 _ _ l1_10
    have t2_11 := e11 _ _ t2_10
    have l2_11 := e11 _ _ l2_10
    have l3_11 := e11 _ _ l3_10
    have d1_11 := e11 _ _ d1_10
    have l4_11 := e11 _ _ l4_10
    have t3_11 := e11 _ _ t3_10
    have t4_11 := e11 _ _ t4_10
    have t5_11 := e11 _ _ t5_10
    have d2_11 := d2_f
    walk_at "ww"
    refine alI fun l5 H12 l5_new e12 l5_f => ?_
    have l5_m : l5 ≠ p := hP11.ne l5_new
    have hP12 := hP11.ex e12
    have K12 := K11.trans e12.kp
    have t1_12 := e12 _ _ t1_11
    have l1_12 := e12 _ _ l1_11
    have t2_12 := e12 _ _ t2_11
    have l2_12 := e12 _ _ l2_11
    have l3_12 := e12 _ _ l3_11
    have d1_12 := e12 _ _ d1_11
    have l4_12 := e12 _ _ l4_11
    have t3_12 := e12 _ _ t3_11
    have t4_12 := e12 _ _ t4_11
    have t5_12 := e12 _ _ t5_11
    have d2_12 := e12 _ _ d2_11
    have l5_12 := l5_f
    refine wCatL l1_12 l5_12 (by simp) fun l6 H13 e13 l6_f l6_new => ?_
    have l6_m : l6 ≠ p := hP12.ne l6_new
    have hP13 := hP12.ex e13
    have K13 := K12.trans e13.kp
    have t1_13 := e13 _ _ t1_12
    have l1_13 := e13 _ _ l1_12
    have t2_13 := e13 _ _ t2_12
    have l2_13 := e13 _ _ l2_12
    have l3_13 := e13 _ _ l3_12
    have d1_13 := e13 _ _ d1_12
    have l4_13 := e13 _ _ l4_12
    have t3_13 := e13 _ _ t3_12
    have t4_13 := e13 _ _ t4_12
    have t5_13 := e13 _ _ t5_12
    have d2_13 := e13 _ _ d2_12
    have l5_13 := e13 _ _ l5_12
    have l6_13 := l6_f
    walk_at "ww"
    refine ⟨p, 26, rfl, hP13, by omega, by omega, fun d H14 d0 d1 e14 hP14 => ?_⟩
    have K14 := K13.trans e14
    have t1_14 := e14 _ _ t1_m t1_13
    have l1_14 := e14 _ _ l1_m l1_13
    have t2_14 := e14 _ _ t2_m t2_13
    have l2_14 := e14 _ _ l2_m l2_13
    have l3_14 := e14 _ _ l3_m l3_13
    have d1_14 := e14 _ _ d1_m d1_13
    have l4_14 := e14 _ _ l4_m l4_13
    have t3_14 := e14 _ _ t3_m t3_13
    have t4_14 := e14 _ _ t4_m t4_13
    have t5_14 := e14 _ _ t5_m t5_13
    have d2_14 := e14 _ _ d2_m d2_13
    have l5_14 := e14 _ _ l5_m l5_13
    have l6_14 := e14 _ _ l6_m l6_13
    obtain ⟨v, hv, hm⟩ := at_ex d0 (show d < (([_, _, _, _, _, _, _, _, _, _, _, _, _, _, _, _] ++ [_, _, _, _, _, _, _, _, _, _] : List V).length : Nat) from d1)
    refine wIxL (SqL.of l6_14) hv ?_
    refine k v H14 K14 hP14 ?_
    simp only [List.cons_append, List.nil_append, List.mem_cons, List.not_mem_nil, or_false] at hm
    have fa : Flat (.str "ann") := .s (nm_of (by decide +kernel))
    rcases hm with rfl | rfl | rfl | rfl | rfl | rfl | rfl | rfl | rfl | rfl | rfl | rfl | rfl | rfl | rfl | rfl | rfl | rfl | rfl | rfl | rfl | rfl | rfl | rfl | rfl | rfl
    · exact odN
    · exact odB
    · exact odB
    · exact odI (by decide +kernel)
    · exact odI (by decide +kernel)
    · exact odI (by decide +kernel)
    · exact odI (by decide +kernel)
    · exact odI (by decide +kernel)
    · exact odS (by decide +kernel)
    · exact odS (by decide +kernel)
    · exact odS (by decide +kernel)
    · exact odS (by decide +kernel)
    · exact odS (by decide +kernel)
    · exact odS (by decide +kernel)
    · exact odS (by decide +kernel)
    · exact odT (xs := []) t1_m t1_14 (by simp) (by simp)
    · exact odT t2_m t2_14 (by simp) (by simp [fa])
    · exact odL l2_m l2_14 (by simp) (by simp [fa])
    · exact odL (xs := []) l3_m l3_14 (by simp) (by simp)
    · exact ⟨false, Thing.d (hide_at d1_m d1_14), (Sh.dct0 (k := 62) (hide_at d1_m d1_14)).le (by omega)⟩
    · exact ⟨true, Thing.t (hide_at t3_m t3_14), (Sh.tup (k := 62) (n := 4) (hide_at t3_m t3_14) fun x hx => by
          rw [List.mem_singleton] at hx
          rw [hx]
          exact (Sh.lst (k := 61) (n := 0) (hide_at l4_m l4_14) (by simp)).le (by simp)).le (by simp)⟩
    · exact odS (by decide +kernel)
    · exact odT t4_m t4_14 (by simp) (by simp [show Flat (.int 5) from .i (by decide +kernel)])
    · exact odT t5_m t5_14 (by simp) (by simp [show Flat (.int 1) from .i (by decide +kernel)])
    · exact odI (by decide +kernel)
    · exact ⟨false, Thing.d (hide_at d2_m d2_14), (Sh.dct1 (k := 62) (hide_at d2_m d2_14) (signs_ok (by decide +kernel)) (by decide +kernel)).le (by decide +kernel)⟩
section
variable {K : PySem.W.Frag} {H : Hp} {p a : Addr} {l : Bool}
theorem mtP0 {xs : List V} (h : H a = some (.tup xs)) (hl : xs.length ≤ 30) (q : ∀ x ∈ xs, Part K H l x) : Mt K H (.ref a) :=
  ⟨⟨_, .tup ⟨h, by omega, fun x hx => (q x hx).1⟩⟩, l, (Sh.tup (k := 63) (n := 100000) h fun x hx => (q x hx).2).le (Nat.le_trans (Nat.add_le_add_right (Nat.mul_le_mul_right _ hl) 4) (by decide +kernel))⟩
theorem mtF0 {xs : List V} (h : H a = some (.tup xs)) (hl : xs.length ≤ 30) (q : ∀ x ∈ xs, Flat x) : Mt K H (.ref a) := mtP0 (l := true) h hl fun x hx => (q x hx).part
theorem mtL0 {xs : List V} (h : H a = some (.lst xs)) (hl : xs.length ≤ 30) (q : ∀ x ∈ xs, Flat x) : Mt K H (.ref a) :=
  ⟨⟨_, .oth (.lst h) (by decide)⟩, true, (Sh.lst (k := 63) (n := 10002) h fun x hx => (q x hx).sh).le (by
    have := Nat.mul_le_mul_right (10002 + 2) hl
    omega)⟩
theorem mtP {xs : List V} (n : a ≠ p) (h : H a = some (.tup xs)) (hl : xs.length ≤ 30) (q : ∀ x ∈ xs, Part K (hide p H) l x) : Mt K (hide p H) (.ref a) := mtP0 (hide_at n h) hl q
theorem mtF {xs : List V} (n : a ≠ p) (h : H a = some (.tup xs)) (hl : xs.length ≤ 30) (q : ∀ x ∈ xs, Flat x) : Mt K (hide p H) (.ref a) := mtF0 (hide_at n h) hl q
theorem mtL {xs : List V} (n : a ≠ p) (h : H a = some (.lst xs)) (hl : xs.length ≤ 30) (q : ∀ x ∈ xs, Flat x) : Mt K (hide p H) (.ref a) := mtL0 (hide_at n h) hl q
theorem mtV {v : V} (f : Flat v) : Mt K H v := by
  refine ⟨?_, true, f.sh.le (by omega)⟩
  cases f with
  | s h => exact ⟨_, .oth (.str _) (by decide)⟩
  | i h => exact ⟨_, .oth (.int _) (by decide)⟩
theorem mtT {b : Addr} {xs : List V} (n : a ≠ p) (h : H a = some (.tup [.ref b])) (m : b ≠ p) (g : H b = some (.tup xs)) (hl : xs.length ≤ 30) (q : ∀ x ∈ xs, Flat x) : Mt K (hide p H) (.ref a) := by
  have th : Thing K (hide p H) (.ref b) := Thing.t (hide_at m g)
  have sh : Sh (hide p H) true 63 400000 (.ref b) := (Sh.tup (k := 62) (n := 10002) (hide_at m g) fun x hx => (q x hx).sh).le (by
    have := Nat.mul_le_mul_right (10002 + 2) hl
    omega)
  refine ⟨⟨_, .tup ⟨hide_at n h, by simp, fun x hx => ?_⟩⟩, true, (Sh.tup (k := 63) (n := 400000) (hide_at n h) fun x hx => ?_).le (by simp)⟩
  · rw [List.mem_singleton] at hx
    rw [hx]
    exact th
  · rw [List.mem_singleton] at hx
    rw [hx]
    exact sh
end
def spBent (K : PySem.W.Frag) : Sp := fun vs H Q _ => ∃ (p t : Addr) (xs : List V), vs = [.ref p, .ref t] ∧ Pool H p ∧ H t = some (.tup xs) ∧ xs ≠ [] ∧ xs.length ≤ 10 ∧ (∀ x ∈ xs, Flat x) ∧ ∀ v H', Kp p H H' → Pool H' p → Mt K (hide p H') v → Q v H'
theorem ok_Lbent (T : Tx K mg A) : FnOk P w K mg base CX0 3 A.f_Lbent A.d_Lbent ["_law_pool_here", "_law_deed_here"] (spBent K) := by
  refine T.F_Lbent.ok sc_Lbent (fun vs H Q E h => ?_) (fun cdv A' outer s H vs Q E hr h => ?_)
  · obtain ⟨p, t, xs, rfl, _⟩ := h
    rfl
  · obtain ⟨p, t, xs, rfl, hP0, t_0, hne, hl, hf, k⟩ := h
    have K0 := Kp.refl p H
    have t_m : t ≠ p := fun e => by
      obtain ⟨_, _, _, q, _⟩ := hP0
      rw [← e, t_0] at q
      cases q
    have hpos : 0 < xs.length := List.length_pos_iff.mpr hne
    have fin : ∀ {c : Addr} {cs : List V} {G : Hp}, Kp p H G → Pool G p → c ≠ p → G c = some (.tup cs) → cs.length ≤ 30 → (∀ x ∈ cs, Flat x) → Q (.ref c) G := fun kp hp n h hl q => k _ _ kp hp (mtF n h hl q)
    refine ⟨_, (pss_cons (ps_par3 (i := 2) (j := 3) (l := 4) rfl sc_Lbent.nd rfl rfl rfl (by decide) (by decide) (by decide) rfl rfl rfl (pa_cons (pe_call (ok_Ltake T) (hr.mono (by decide)) (by rfl) T.g_Ltake T.F_Ltake.kp T.b_Ltake .nil pass0 (pa_cons (pv 0) (pa_cons (pe_callB (call_lenV (K := K) rfl) (by rfl) T.m_len (by decide +kernel) (pa_cons (pv 1) pa_nil)) pa_nil))) (pa_cons (pe_call (ok_Ltake T) (hr.mono (by decide)) (by rfl) T.g_Ltake T.F_Ltake.kp T.b_Ltake .nil pass0 (pa_cons (pv 0) (pa_cons (pe_callB (call_lenV (K := K) rfl) (by rfl) T.m_len (by decide +kernel) (pa_cons (pv 1) pa_nil)) pa_nil))) (pa_cons (pe_call (ok_Ltake T) (hr.mono (by decide)) (by rfl) T.g_Ltake T.F_Ltake.kp T.b_Ltake .nil pass0 (pa_cons (pv 0) (pa_cons pe_int pa_nil))) pa_nil))) rfl)
    (pss_cons (ps_set (i := 5) sc_Lbent.nd rfl (Or.inl rfl) (pe_lst (pa_cons pe_str (pa_cons pe_str (pa_cons pe_str (pa_cons pe_str (pa_cons pe_str (pa_cons pe_str (pa_cons pe_str (pa_cons pe_str (pa_cons pe_str (pa_cons pe_str pa_nil))))))))))))
    (pss_cons (ps_if (pt_cmpR op_eq (pv 4) pe_int (nomark _))
    (pss_one (ps_ret (pe_op (op_catTV (K := K) rfl) (pe_tup (pa_cons (pe_ix (ix_listV (K := K) rfl) (pv 5) (pe_call (ok_Ltake T) (hr.mono (by decide)) (by rfl) T.g_Ltake T.F_Ltake.kp T.b_Ltake .nil pass0 (pa_cons (pv 0) (pa_cons pe_int pa_nil))) (fun _ _ => rfl)) pa_nil)) (pe_slice (sl_tupV (K := K) rfl) (pv 1) (po_some pe_int) po_none))))
    pss_nil)
    (pss_cons (ps_if (pt_cmpR op_eq (pv 4) pe_int (nomark _))
    (pss_one (ps_ret (pe_op (op_catTV (K := K) rfl) (pe_slice (sl_tupV (K := K) rfl) (pv 1) po_none (po_some (pv 2))) (pe_slice (sl_tupV (K := K) rfl) (pv 1) (po_some (pe_op op_add (pv 2) pe_int)) po_none))))
    pss_nil)
    (pss_cons (ps_if (pt_cmpR op_eq (pv 4) pe_int (nomark _))
    (pss_one (ps_ret (pe_op (op_catTV (K := K) rfl) (pe_op (op_catTV (K := K) rfl) (pe_slice (sl_tupV (K := K) rfl) (pv 1) po_none (po_some (pv 2))) (pe_slice (sl_tupV (K := K) rfl) (pv 1) (po_some (pv 2)) (po_some (pe_op op_add (pv 2) pe_int)))) (pe_slice (sl_tupV (K := K) rfl) (pv 1) (po_some (pv 2)) po_none))))
    pss_nil)
    (pss_cons (ps_if (pt_cmpR op_eq (pv 4) pe_int (nomark _))
    (pss_one (ps_ret (pe_op (op_catTV (K := K) rfl) (pe_op (op_catTV (K := K) rfl) (pe_slice (sl_tupV (K := K) rfl) (pv 1) po_none (po_some (pv 2))) (pe_tup (pa_cons (pe_call (ok_Lodd T) (hr.mono (by decide)) (by rfl) T.g_Lodd T.F_Lodd.kp T.b_Lodd .nil pass0 (pa_cons (pv 0) pa_nil)) pa_nil))) (pe_slice (sl_tupV (K := K) rfl) (pv 1) (po_some (pv 2)) po_none))))
    pss_nil)
    (pss_cons (ps_if (pt_cmpR op_eq (pv 4) pe_int (nomark _))
    (pss_one (ps_ret (pe_ix (ix_listV (K := K) rfl) (pe_lst (pa_cons (pe_callTy (call_list_ofV (K := K) rfl) (by rfl) T.m_list (by decide +kernel) (pa_cons (pv 1) pa_nil)) (pa_cons (pe_tup (pa_cons (pv 1) pa_nil)) (pa_cons (pe_ix (ix_tupV (K := K) rfl) (pv 1) pe_int (fun _ _ => rfl)) (pa_cons (pe_revT (K := K) rfl (pv 1)) (pa_cons (pe_op (op_catTV (K := K) rfl) (pv 1) (pe_tup (pa_cons pe_non pa_nil))) pa_nil)))))) (pe_call (ok_Ltake T) (hr.mono (by decide)) (by rfl) T.g_Ltake T.F_Ltake.kp T.b_Ltake .nil pass0 (pa_cons (pv 0) (pa_cons pe_int pa_nil))) (fun _ _ => rfl))))
    pss_nil)
    (pss_cons (ps_if (pt_cmpR op_eq (pv 4) pe_int (nomark _))
    (pss_one (ps_ret (pe_op (op_catTV (K := K) rfl) (pe_op (op_catTV (K := K) rfl) (pe_slice (sl_tupV (K := K) rfl) (pv 1) po_none (po_some (pv 2))) (pe_slice (sl_tupV (K := K) rfl) (pv 1) (po_some (pv 3)) (po_some (pe_op op_add (pv 3) pe_int)))) (pe_slice (sl_tupV (K := K) rfl) (pv 1) (po_some (pe_op op_add (pv 2) pe_int)) po_none))))
    pss_nil)
    (pss_one (ps_ret (pe_op (op_catTV (K := K) rfl) (pe_op (op_catTV (K := K) rfl) (pe_slice (sl_tupV (K := K) rfl) (pv 1) po_none (po_some (pv 2))) (pe_tup (pa_cons (pe_call (ok_Lodd T) (hr.mono (by decide)) (by rfl) T.g_Lodd T.F_Lodd.kp T.b_Lodd .nil pass0 (pa_cons (pv 0) pa_nil)) pa_nil))) (pe_slice (sl_tupV (K := K) rfl) (pv 1) (po_some (pe_op op_add (pv 2) pe_int)) po_none)))))))))))), ?_⟩
    walk_at "ww"
    refine wLenT (SqT.of t_0) ?_
    walk_at "ww"
    refine ⟨p, (xs.length : Int), rfl, hP0, by omega, by omega, fun at_ H1 at_0 at_1 e1 hP1 => ?_⟩
    have K1 := K0.trans e1
    have t_1 := e1 _ _ t_m t_0
    walk_at "ww"
    refine wLenT (SqT.of t_1) ?_
    walk_at "ww"
    refine ⟨p, (xs.length : Int), rfl, hP1, by omega, by omega, fun to_ H2 to_0 to_1 e2 hP2 => ?_⟩
    have K2 := K1.trans e2
    have t_2 := e2 _ _ t_m t_1
    walk_at "ww"
    refine ⟨p, 9, rfl, hP2, by omega, by omega, fun mode H3 mode0 mode1 e3 hP3 => ?_⟩
    have K3 := K2.trans e3
    have t_3 := e3 _ _ t_m t_2
    walk_at "ww"
    refine alI fun ws H4 ws_new e4 ws_f => ?_
    have ws_m : ws ≠ p := hP3.ne ws_new
    have hP4 := hP3.ex e4
    have K4 := K3.trans e4.kp
    have t_4 := e4 _ _ t_3
    have ws_4 := ws_f
    walk_at "ww"
    refine ite2 (fun c0 => ?_) (fun c0 => ?_)
    · walk_at "ww"
      refine ⟨p, 10, rfl, hP4, by omega, by omega, fun d H5 d0 d1 e5 hP5 => ?_⟩
      have K5 := K4.trans e5
      have t_5 := e5 _ _ t_m t_4
      have ws_5 := e5 _ _ ws_m ws_4
      obtain ⟨wv, hwv, hwm⟩ := at_ex (xs := [V.str "come", V.str "bring", V.str "give", V.str "hand", V.str "forget", V.str "go", V.str "Give", V.str "take", V.str "", V.str "chest"]) d0 (by show d < 10; omega)
      refine wIxL (SqL.of ws_5) hwv ?_
      obtain ⟨wz, rfl, wn⟩ : ∃ z, wv = .str z ∧ Nm z := by
        simp only [List.mem_cons, List.not_mem_nil, or_false] at hwm
        rcases hwm with rfl | rfl | rfl | rfl | rfl | rfl | rfl | rfl | rfl | rfl <;> exact ⟨_, rfl, nm_of (by decide +kernel)⟩
      have fw : Flat (.str wz) := .s wn
      walk_at "ww"
      refine alI fun w1 H6 w1_new e6 w1_f => ?_
      have w1_m : w1 ≠ p := hP5.ne w1_new
      have hP6 := hP5.ex e6
      have K6 := K5.trans e6.kp
      have t_6 := e6 _ _ t_5
      have ws_6 := e6 _ _ ws_5
      have w1_6 := w1_f
      walk_at "ww"
      refine wSlAny t_6 fun s1 s1_x H7 e7 s1_f s1_l s1_s s1_o => ?_
      have s1_m : s1 ≠ p := s1_o.elim (fun e => e ▸ t_m) hP6.ne
      have hP7 := hP6.ex e7
      have K7 := K6.trans e7.kp
      have t_7 := e7 _ _ t_6
      have ws_7 := e7 _ _ ws_6
      have w1_7 := e7 _ _ w1_6
      have s1_7 := s1_f
      refine wCatAny w1_7 s1_7 (by (try simp only [List.length_append, List.length_cons, List.length_nil]); omega) fun c1 H8 e8 c1_f c1_o => ?_
      have c1_m : c1 ≠ p := c1_o.elim (fun e => e ▸ w1_m) fun q => q.elim (fun e => e ▸ s1_m) hP7.ne
      have hP8 := hP7.ex e8
      have K8 := K7.trans e8.kp
      have t_8 := e8 _ _ t_7
      have ws_8 := e8 _ _ ws_7
      have w1_8 := e8 _ _ w1_7
      have s1_8 := e8 _ _ s1_7
      have c1_8 := c1_f
      exact fin K8 hP8 c1_m c1_8 (by (try simp only [List.length_append, List.length_cons, List.length_nil]); omega) (List.forall_mem_append.mpr ⟨fun y hy => by
          rw [List.mem_singleton] at hy
          rw [hy]
          exact fw, fun y hy => hf y (s1_s y hy)⟩)
    · walk_at "ww"
      refine ite2 (fun c1 => ?_) (fun c1 => ?_)
      · walk_at "ww"
        refine wSlAny t_4 fun a1 a1_x H5 e5 a1_f a1_l a1_s a1_o => ?_
        have a1_m : a1 ≠ p := a1_o.elim (fun e => e ▸ t_m) hP4.ne
        have hP5 := hP4.ex e5
        have K5 := K4.trans e5.kp
        have t_5 := e5 _ _ t_4
        have ws_5 := e5 _ _ ws_4
        have a1_5 := a1_f
        walk_at "ww"
        refine wSlAny t_5 fun b1 b1_x H6 e6 b1_f b1_l b1_s b1_o => ?_
        have b1_m : b1 ≠ p := b1_o.elim (fun e => e ▸ t_m) hP5.ne
        have hP6 := hP5.ex e6
        have K6 := K5.trans e6.kp
        have t_6 := e6 _ _ t_5
        have ws_6 := e6 _ _ ws_5
        have a1_6 := e6 _ _ a1_5
        have b1_6 := b1_f
        refine wCatAny a1_6 b1_6 (by (try simp only [List.length_append, List.length_cons, List.length_nil]); omega) fun c1 H7 e7 c1_f c1_o => ?_
        have c1_m : c1 ≠ p := c1_o.elim (fun e => e ▸ a1_m) fun q => q.elim (fun e => e ▸ b1_m) hP6.ne
        have hP7 := hP6.ex e7
        have K7 := K6.trans e7.kp
        have t_7 := e7 _ _ t_6
        have ws_7 := e7 _ _ ws_6
        have a1_7 := e7 _ _ a1_6
        have b1_7 := e7 _ _ b1_6
        have c1_7 := c1_f
        exact fin K7 hP7 c1_m c1_7 (by (try simp only [List.length_append, List.length_cons, List.length_nil]); omega) (List.forall_mem_append.mpr ⟨fun y hy => hf y (a1_s y hy), fun y hy => hf y (b1_s y hy)⟩)
      · walk_at "ww"
        refine ite2 (fun c2 => ?_) (fun c2 => ?_)
        · walk_at "ww"
          refine wSlAny t_4 fun a1 a1_x H5 e5 a1_f a1_l a1_s a1_o => ?_
          have a1_m : a1 ≠ p := a1_o.elim (fun e => e ▸ t_m) hP4.ne
          have hP5 := hP4.ex e5
          have K5 := K4.trans e5.kp
          have t_5 := e5 _ _ t_4
          have ws_5 := e5 _ _ ws_4
          have a1_5 := a1_f
          walk_at "ww"
          refine wSlAny t_5 fun b1 b1_x H6 e6 b1_f b1_l b1_s b1_o => ?_
          have b1_m : b1 ≠ p := b1_o.elim (fun e => e ▸ t_m) hP5.ne
          have hP6 := hP5.ex e6
          have K6 := K5.trans e6.kp
          have t_6 := e6 _ _ t_5
          have ws_6 := e6 _ _ ws_5
          have a1_6 := e6 _ _ a1_5
          have b1_6 := b1_f
          refine wCatAny a1_6 b1_6 (by (try simp only [List.length_append, List.length_cons, List.length_nil]); omega) fun c1 H7 e7 c1_f c1_o => ?_
          have c1_m : c1 ≠ p := c1_o.elim (fun e => e ▸ a1_m) fun q => q.elim (fun e => e ▸ b1_m) hP6.ne
          have hP7 := hP6.ex e7
          have K7 := K6.trans e7.kp
          have t_7 := e7 _ _ t_6
          have ws_7 := e7 _ _ ws_6
          have a1_7 := e7 _ _ a1_6
          have b1_7 := e7 _ _ b1_6
          have c1_7 := c1_f
          walk_at "ww"
          refine wSlAny t_7 fun d1 d1_x H8 e8 d1_f d1_l d1_s d1_o => ?_
          have d1_m : d1 ≠ p := d1_o.elim (fun e => e ▸ t_m) hP7.ne
          have hP8 := hP7.ex e8
          have K8 := K7.trans e8.kp
          have t_8 := e8 _ _ t_7
          have ws_8 := e8 _ _ ws_7
          have a1_8 := e8 _ _ a1_7
          have b1_8 := e8 _ _ b1_7
          have c1_8 := e8 _ _ c1_7
          have d1_8 := d1_f
          refine wCatAny c1_8 d1_8 (by (try simp only [List.length_append, List.length_cons, List.length_nil]); omega) fun g1 H9 e9 g1_f g1_o => ?_
          have g1_m : g1 ≠ p := g1_o.elim (fun e => e ▸ c1_m) fun q => q.elim (fun e => e ▸ d1_m) hP8.ne
          have hP9 := hP8.ex e9
          have K9 := K8.trans e9.kp
          have t_9 := e9 _ _ t_8
          have ws_9 := e9 _ _ ws_8
          have a1_9 := e9 _ _ a1_8
          have b1_9 := e9 _ _ b1_8
          have c1_9 := e9 _ _ c1_8
          have d1_9 := e9 _ _ d1_8
          have g1_9 := g1_f
          exact fin K9 hP9 g1_m g1_9 (by (try simp only [List.length_append, List.length_cons, List.length_nil]); omega) (List.forall_mem_append.mpr ⟨(List.forall_mem_append.mpr ⟨fun y hy => hf y (a1_s y hy), fun y hy => hf y (b1_s y hy)⟩), fun y hy => hf y (d1_s y hy)⟩)
        · walk_at "ww"
          refine ite2 (fun c3 => ?_) (fun c3 => ?_)
          · walk_at "ww"
            refine wSlAny t_4 fun a1 a1_x H5 e5 a1_f a1_l a1_s a1_o => ?_
            have a1_m : a1 ≠ p := a1_o.elim (fun e => e ▸ t_m) hP4.ne
            have hP5 := hP4.ex e5
            have K5 := K4.trans e5.kp
            have t_5 := e5 _ _ t_4
            have ws_5 := e5 _ _ ws_4
            have a1_5 := a1_f
            walk_at "ww"
            refine ⟨p, rfl, hP5, fun o1 H6 e6 hP6 o1_w0 => ?_⟩
            have K6 := K5.trans e6
            have t_6 := e6 _ _ t_m t_5
            have ws_6 := e6 _ _ ws_m ws_5
            have a1_6 := e6 _ _ a1_m a1_5
            have o1_w6 := o1_w0
            walk_at "ww"
            refine alI fun u1 H7 u1_new e7 u1_f => ?_
            have u1_m : u1 ≠ p := hP6.ne u1_new
            have hP7 := hP6.ex e7
            have K7 := K6.trans e7.kp
            have t_7 := e7 _ _ t_6
            have ws_7 := e7 _ _ ws_6
            have a1_7 := e7 _ _ a1_6
            have o1_w7 := o1_w6.ex e7.hide
            have u1_7 := u1_f
            refine wCatAny a1_7 u1_7 (by (try simp only [List.length_append, List.length_cons, List.length_nil]); omega) fun c1 H8 e8 c1_f c1_o => ?_
            have c1_m : c1 ≠ p := c1_o.elim (fun e => e ▸ a1_m) fun q => q.elim (fun e => e ▸ u1_m) hP7.ne
            have hP8 := hP7.ex e8
            have K8 := K7.trans e8.kp
            have t_8 := e8 _ _ t_7
            have ws_8 := e8 _ _ ws_7
            have a1_8 := e8 _ _ a1_7
            have u1_8 := e8 _ _ u1_7
            have o1_w8 := o1_w7.ex e8.hide
            have c1_8 := c1_f
            walk_at "ww"
            refine wSlAny t_8 fun b1 b1_x H9 e9 b1_f b1_l b1_s b1_o => ?_
            have b1_m : b1 ≠ p := b1_o.elim (fun e => e ▸ t_m) hP8.ne
            have hP9 := hP8.ex e9
            have K9 := K8.trans e9.kp
            have t_9 := e9 _ _ t_8
            have ws_9 := e9 _ _ ws_8
            have a1_9 := e9 _ _ a1_8
            have u1_9 := e9 _ _ u1_8
            have c1_9 := e9 _ _ c1_8
            have o1_w9 := o1_w8.ex e9.hide
            have b1_9 := b1_f
            refine wCatAny c1_9 b1_9 (by (try simp only [List.length_append, List.length_cons, List.length_nil]); omega) fun g1 H10 e10 g1_f g1_o => ?_
            have g1_m : g1 ≠ p := g1_o.elim (fun e => e ▸ c1_m) fun q => q.elim (fun e => e ▸ b1_m) hP9.ne
            have hP10 := hP9.ex e10
            have K10 := K9.trans e10.kp
            have t_10 := e10 _ _ t_9
            have ws_10 := e10 _ _ ws_9
            have a1_10 := e10 _ _ a1_9
            have u1_10 := e10 _ _ u1_9
            have c1_10 := e10 _ _ c1_9
            have b1_10 := e10 _ _ b1_9
            have o1_w10 := o1_w9.ex e10.hide
            have g1_10 := g1_f
            obtain ⟨l, o1_p⟩ := o1_w10
            exact k _ _ K10 hP10 (mtP (l := l) g1_m g1_10 (by (try simp only [List.length_append, List.length_cons, List.length_nil]); omega) (List.forall_mem_append.mpr ⟨(List.forall_mem_append.mpr ⟨fun y hy => (hf y (a1_s y hy)).part, fun y hy => by
                rw [List.mem_singleton] at hy
                rw [hy]
                exact o1_p⟩), fun y hy => (hf y (b1_s y hy)).part⟩))
          · walk_at "ww"
            refine ite2 (fun c4 => ?_) (fun c4 => ?_)
            · obtain ⟨x0, r0, rfl⟩ : ∃ x0 r0, xs = x0 :: r0 := by
                cases xs with
                | nil => exact absurd rfl hne
                | cons x0 r0 => exact ⟨x0, r0, rfl⟩
              have hr0 : r0.length + 1 ≤ 10 := hl
              walk_at "ww"
              refine ⟨t, _, rfl, .inr (SqT.of t_4), ?_⟩
              intro l1 l1_new
              have e5 : Ex H4 (upd H4 l1 (.lst (x0 :: r0))) := Ex.new l1_new
              have l1_f : (upd H4 l1 (.lst (x0 :: r0))) l1 = some (.lst (x0 :: r0)) := upd_same
              generalize upd H4 l1 (.lst (x0 :: r0)) = H5 at e5 l1_f ⊢
              have l1_m : l1 ≠ p := hP4.ne l1_new
              have hP5 := hP4.ex e5
              have K5 := K4.trans e5.kp
              have t_5 := e5 _ _ t_4
              have ws_5 := e5 _ _ ws_4
              have l1_5 := l1_f
              walk_at "ww"
              refine alI fun u1 H6 u1_new e6 u1_f => ?_
              have u1_m : u1 ≠ p := hP5.ne u1_new
              have hP6 := hP5.ex e6
              have K6 := K5.trans e6.kp
              have t_6 := e6 _ _ t_5
              have ws_6 := e6 _ _ ws_5
              have l1_6 := e6 _ _ l1_5
              have u1_6 := u1_f
              walk_at "ww"
              refine wIxT (SqT.of t_6) (show atI (x0 :: r0) 0 = some x0 from atI_nat (xs := x0 :: r0) (j := 0) rfl) ?_
              try walk_at "ww"
              refine wRevT ?_
              walk_at "ww"
              refine ⟨t, _, rfl, SqT.of t_6, alI fun v1 H7 v1_new e7 v1_f => ?_⟩
              have v1_m : v1 ≠ p := hP6.ne v1_new
              have hP7 := hP6.ex e7
              have K7 := K6.trans e7.kp
              have t_7 := e7 _ _ t_6
              have ws_7 := e7 _ _ ws_6
              have l1_7 := e7 _ _ l1_6
              have u1_7 := e7 _ _ u1_6
              have v1_7 := v1_f
              walk_at "ww"
              refine alI fun n1 H8 n1_new e8 n1_f => ?_
              have n1_m : n1 ≠ p := hP7.ne n1_new
              have hP8 := hP7.ex e8
              have K8 := K7.trans e8.kp
              have t_8 := e8 _ _ t_7
              have ws_8 := e8 _ _ ws_7
              have l1_8 := e8 _ _ l1_7
              have u1_8 := e8 _ _ u1_7
              have v1_8 := e8 _ _ v1_7
              have n1_8 := n1_f
              refine wCatAny t_8 n1_8 (by (try simp only [List.length_append, List.length_cons, List.length_nil]); omega) fun c1 H9 e9 c1_f c1_o => ?_
              have c1_m : c1 ≠ p := c1_o.elim (fun e => e ▸ t_m) fun q => q.elim (fun e => e ▸ n1_m) hP8.ne
              have hP9 := hP8.ex e9
              have K9 := K8.trans e9.kp
              have t_9 := e9 _ _ t_8
              have ws_9 := e9 _ _ ws_8
              have l1_9 := e9 _ _ l1_8
              have u1_9 := e9 _ _ u1_8
              have v1_9 := e9 _ _ v1_8
              have n1_9 := e9 _ _ n1_8
              have c1_9 := c1_f
              walk_at "ww"
              refine alI fun l2 H10 l2_new e10 l2_f => ?_
              have l2_m : l2 ≠ p := hP9.ne l2_new
              have hP10 := hP9.ex e10
              have K10 := K9.trans e10.kp
              have t_10 := e10 _ _ t_9
              have ws_10 := e10 _ _ ws_9
              have l1_10 := e10 _ _ l1_9
              have u1_10 := e10 _ _ u1_9
              have v1_10 := e10 _ _ v1_9
              have n1_10 := e10 _ _ n1_9
              have c1_10 := e10 _ _ c1_9
              have l2_10 := l2_f
              walk_at "ww"
              refine ⟨p, 5, rfl, hP10, by omega, by omega, fun d H11 d0 d1 e11 hP11 => ?_⟩
              have K11 := K10.trans e11
              have t_11 := e11 _ _ t_m t_10
              have ws_11 := e11 _ _ ws_m ws_10
              have l1_11 := e11 _ _ l1_m l1_10
              have u1_11 := e11 _ _ u1_m u1_10
              have v1_11 := e11 _ _ v1_m v1_10
              have n1_11 := e11 _ _ n1_m n1_10
              have c1_11 := e11 _ _ c1_m c1_10
              have l2_11 := e11 _ _ l2_m l2_10
              obtain ⟨v, hv, hm⟩ := at_ex (xs := [V.ref l1, V.ref u1, x0, V.ref v1, V.ref c1]) d0 (by show d < 5; omega)
              refine wIxL (SqL.of l2_11) hv ?_
              refine k v H11 K11 hP11 ?_
              simp only [List.mem_cons, List.not_mem_nil, or_false] at hm
              have hl9 : (x0 :: r0).length ≤ 30 := by omega
              rcases hm with rfl | rfl | rfl | rfl | rfl
              · exact mtL l1_m l1_11 hl9 hf
              · exact mtT u1_m u1_11 t_m t_11 hl9 hf
              · exact mtV (hf _ List.mem_cons_self)
              · exact mtF v1_m v1_11 (by rw [List.length_reverse]; exact hl9) fun y hy => hf y (List.mem_reverse.mp hy)
              · refine mtP (l := true) c1_m c1_11 (by (try simp only [List.length_append, List.length_cons, List.length_nil]); omega) (List.forall_mem_append.mpr ⟨fun y hy => (hf y hy).part, fun y hy => by
                    rw [List.mem_singleton] at hy
                    rw [hy]
                    exact ⟨Thing.n, Sh.non.le (by omega)⟩⟩)
            · walk_at "ww"
              refine ite2 (fun c5 => ?_) (fun c5 => ?_)
              · walk_at "ww"
                refine wSlAny t_4 fun a1 a1_x H5 e5 a1_f a1_l a1_s a1_o => ?_
                have a1_m : a1 ≠ p := a1_o.elim (fun e => e ▸ t_m) hP4.ne
                have hP5 := hP4.ex e5
                have K5 := K4.trans e5.kp
                have t_5 := e5 _ _ t_4
                have ws_5 := e5 _ _ ws_4
                have a1_5 := a1_f
                walk_at "ww"
                refine wSlAny t_5 fun b1 b1_x H6 e6 b1_f b1_l b1_s b1_o => ?_
                have b1_m : b1 ≠ p := b1_o.elim (fun e => e ▸ t_m) hP5.ne
                have hP6 := hP5.ex e6
                have K6 := K5.trans e6.kp
                have t_6 := e6 _ _ t_5
                have ws_6 := e6 _ _ ws_5
                have a1_6 := e6 _ _ a1_5
                have b1_6 := b1_f
                refine wCatAny a1_6 b1_6 (by (try simp only [List.length_append, List.length_cons, List.length_nil]); omega) fun c1 H7 e7 c1_f c1_o => ?_
                have c1_m : c1 ≠ p := c1_o.elim (fun e => e ▸ a1_m) fun q => q.elim (fun e => e ▸ b1_m) hP6.ne
                have hP7 := hP6.ex e7
                have K7 := K6.trans e7.kp
                have t_7 := e7 _ _ t_6
                have ws_7 := e7 _ _ ws_6
                have a1_7 := e7 _ _ a1_6
                have b1_7 := e7 _ _ b1_6
                have c1_7 := c1_f
                walk_at "ww"
                refine wSlAny t_7 fun d1 d1_x H8 e8 d1_f d1_l d1_s d1_o => ?_
                have d1_m : d1 ≠ p := d1_o.elim (fun e => e ▸ t_m) hP7.ne
                have hP8 := hP7.ex e8
                have K8 := K7.trans e8.kp
                have t_8 := e8 _ _ t_7
                have ws_8 := e8 _ _ ws_7
                have a1_8 := e8 _ _ a1_7
                have b1_8 := e8 _ _ b1_7
                have c1_8 := e8 _ _ c1_7
                have d1_8 := d1_f
                refine wCatAny c1_8 d1_8 (by (try simp only [List.length_append, List.length_cons, List.length_nil]); omega) fun g1 H9 e9 g1_f g1_o => ?_
                have g1_m : g1 ≠ p := g1_o.elim (fun e => e ▸ c1_m) fun q => q.elim (fun e => e ▸ d1_m) hP8.ne
                have hP9 := hP8.ex e9
                have K9 := K8.trans e9.kp
                have t_9 := e9 _ _ t_8
                have ws_9 := e9 _ _ ws_8
                have a1_9 := e9 _ _ a1_8
                have b1_9 := e9 _ _ b1_8
                have c1_9 := e9 _ _ c1_8
                have d1_9 := e9 _ _ d1_8
                have g1_9 := g1_f
                exact fin K9 hP9 g1_m g1_9 (by (try simp only [List.length_append, List.length_cons, List.length_nil]); omega) (List.forall_mem_append.mpr ⟨(List.forall_mem_append.mpr ⟨fun y hy => hf y (a1_s y hy), fun y hy => hf y (b1_s y hy)⟩), fun y hy => hf y (d1_s y hy)⟩)
              · walk_at "ww"
                walk_at "ww"
                refine wSlAny t_4 fun a1 a1_x H5 e5 a1_f a1_l a1_s a1_o => ?_
                have a1_m : a1 ≠ p := a1_o.elim (fun e => e ▸ t_m) hP4.ne
                have hP5 := hP4.ex e5
                have K5 := K4.trans e5.kp
                have t_5 := e5 _ _ t_4
                have ws_5 := e5 _ _ ws_4
                have a1_5 := a1_f
                walk_at "ww"
                refine ⟨p, rfl, hP5, fun o1 H6 e6 hP6 o1_w0 => ?_⟩
                have K6 := K5.trans e6
                have t_6 := e6 _ _ t_m t_5
                have ws_6 := e6 _ _ ws_m ws_5
                have a1_6 := e6 _ _ a1_m a1_5
                have o1_w6 := o1_w0
                walk_at "ww"
                refine alI fun u1 H7 u1_new e7 u1_f => ?_
                have u1_m : u1 ≠ p := hP6.ne u1_new
                have hP7 := hP6.ex e7
                have K7 := K6.trans e7.kp
                have t_7 := e7 _ _ t_6
                have ws_7 := e7 _ _ ws_6
                have a1_7 := e7 _ _ a1_6
                have o1_w7 := o1_w6.ex e7.hide
                have u1_7 := u1_f
                refine wCatAny a1_7 u1_7 (by (try simp only [List.length_append, List.length_cons, List.length_nil]); omega) fun c1 H8 e8 c1_f c1_o => ?_
                have c1_m : c1 ≠ p := c1_o.elim (fun e => e ▸ a1_m) fun q => q.elim (fun e => e ▸ u1_m) hP7.ne
                have hP8 := hP7.ex e8
                have K8 := K7.trans e8.kp
                have t_8 := e8 _ _ t_7
                have ws_8 := e8 _ _ ws_7
                have a1_8 := e8 _ _ a1_7
                have u1_8 := e8 _ _ u1_7
                have o1_w8 := o1_w7.ex e8.hide
                have c1_8 := c1_f
                walk_at "ww"
                refine wSlAny t_8 fun b1 b1_x H9 e9 b1_f b1_l b1_s b1_o => ?_
                have b1_m : b1 ≠ p := b1_o.elim (fun e => e ▸ t_m) hP8.ne
                have hP9 := hP8.ex e9
                have K9 := K8.trans e9.kp
                have t_9 := e9 _ _ t_8
                have ws_9 := e9 _ _ ws_8
                have a1_9 := e9 _ _ a1_8
                have u1_9 := e9 _ _ u1_8
                have c1_9 := e9 _ _ c1_8
                have o1_w9 := o1_w8.ex e9.hide
                have b1_9 := b1_f
                refine wCatAny c1_9 b1_9 (by (try simp only [List.length_append, List.length_cons, List.length_nil]); omega) fun g1 H10 e10 g1_f g1_o => ?_
                have g1_m : g1 ≠ p := g1_o.elim (fun e => e ▸ c1_m) fun q => q.elim (fun e => e ▸ b1_m) hP9.ne
                have hP10 := hP9.ex e10
                have K10 := K9.trans e10.kp
                have t_10 := e10 _ _ t_9
                have ws_10 := e10 _ _ ws_9
                have a1_10 := e10 _ _ a1_9
                have u1_10 := e10 _ _ u1_9
                have c1_10 := e10 _ _ c1_9
                have b1_10 := e10 _ _ b1_9
                have o1_w10 := o1_w9.ex e10.hide
                have g1_10 := g1_f
                obtain ⟨l, o1_p⟩ := o1_w10
                exact k _ _ K10 hP10 (mtP (l := l) g1_m g1_10 (by (try simp only [List.length_append, List.length_cons, List.length_nil]); omega) (List.forall_mem_append.mpr ⟨(List.forall_mem_append.mpr ⟨fun y hy => (hf y (a1_s y hy)).part, fun y hy => by
                    rw [List.mem_singleton] at hy
                    rw [hy]
                    exact o1_p⟩), fun y hy => (hf y (b1_s y hy)).part⟩))
def spLaw (K : PySem.W.Frag) : Sp := fun vs H Q _ => ∃ (a : Addr) (ns : List Int), vs = [.ref a] ∧ SqL K H a (ns.map V.int) ∧ ns.length ≤ 63 ∧ ∀ H', Q (.bl true) H'
theorem ok_law (T : Tx K mg A) {f : Addr} {fd : FuncData} (F : Fun K "law" "law" s_law f fd) : FnQ P w K mg base CX0 6 f fd ["_law_script"] (spLaw K) := by
  refine okQ F sc_law (fun vs H Q E h => ?_) (fun cdv A' outer s H vs Q E hq h => ?_)
  · obtain ⟨a, ns, rfl, _⟩ := h
    rfl
  · obtain ⟨a, ns, rfl, hS, hlen, k⟩ := h
    have hr := hq.room
    have E0 := Ex.refl H
    refine ⟨_, (pss_cons (ps_set (i := 1) sc_law.nd rfl (Or.inl rfl) (pe_lst (pa_cons pe_str (pa_cons pe_str (pa_cons pe_str (pa_cons pe_str (pa_cons pe_str (pa_cons pe_str pa_nil))))))))
    (pss_cons (ps_set (i := 2) sc_law.nd rfl (Or.inl rfl) (pe_lst (pa_cons pe_non (pa_cons pe_int (pa_cons pe_bl (pa_cons pe_str (pa_cons pe_str (pa_cons (pe_tup pa_nil) (pa_cons (pe_lst pa_nil) (pa_cons pe_dnewK (pa_cons (pe_tup (pa_cons pe_str pa_nil)) (pa_cons (pe_lst (pa_cons pe_str (pa_cons pe_str pa_nil))) (pa_cons (pe_tup (pa_cons (pe_lst (pa_cons pe_str pa_nil)) (pa_cons pe_str pa_nil))) (pa_cons (pe_tup (pa_cons pe_str (pa_cons pe_str pa_nil))) pa_nil))))))))))))))
    (pss_cons (ps_set (i := 2) sc_law.nd rfl (Or.inl rfl) (pe_op op_cat (pv 2) (pe_lst (pa_cons (pe_tup (pa_cons pe_str (pa_cons pe_str (pa_cons pe_str (pa_cons pe_int pa_nil))))) (pa_cons (pe_tup (pa_cons pe_str (pa_cons pe_str (pa_cons pe_str (pa_cons pe_int pa_nil))))) (pa_cons (pe_tup (pa_cons pe_str (pa_cons pe_str (pa_cons pe_str (pa_cons pe_int pa_nil))))) pa_nil))))))
    (pss_cons (ps_expr (pe_bm PySem.F.plainAttrs_list PySem.F.slot_list_append PySem.F.type_list_append mt_append (pv 2) (pa_cons (pe_tup (pa_cons pe_str (pa_cons pe_str (pa_cons pe_str (pa_cons pe_int pa_nil))))) pa_nil)))
    (pss_cons (ps_if (pt_not (pt_val (pe_callB (cr_allV (K := K) rfl rfl) (by rfl) T.m_all (by decide +kernel) (pa_cons (pe_lc rfl sc_law.nd (g := gName 7) (pi_listV (K := K) rfl (pv 2)) (blkOk_by (own := [("_law_matter", 7)]) (N := ["_law_script", "_law_words", "_law_odd_here", "_law_k", "_law_pool_here", "_law_word", "_law_deed_here", "_law_matter", "_law_turn"]) (sc := defScope s_law) (by decide +kernel)) (fun _ _ _ _ _ => (pg_name (i := 7) sc_law.nd rfl (Or.inl rfl))) (fun _ _ _ _ _ => pts_nil) (fun _ _ _ _ _ => (pe_callQ (ok_Lright T) (hq.mono (by decide)) (by rfl) T.g_Lright T.F_Lright.kp T.b_Lright pass0 (pa_cons (pv 7) pa_nil)))) pa_nil))))
    (pss_one (ps_ret pe_bl))
    pss_nil)
    (pss_cons (ps_for PassesOwn.never rfl (pi_range1 (by rfl) T.m_range (pa_cons (pe_callB (call_max2 rfl) (by rfl) T.m_max (by decide +kernel) (pa_cons pe_int (pa_cons (pe_callB (call_min2 rfl) (by rfl) T.m_min (by decide +kernel) (pa_cons (pe_callB (call_lenV (K := K) rfl) (by rfl) T.m_len (by decide +kernel) (pa_cons (pv 0) pa_nil)) (pa_cons pe_int pa_nil))) pa_nil))) pa_nil)) (pg_name (i := 3) sc_law.nd rfl (Or.inl rfl))
    (pss_cons (ps_set (i := 4) sc_law.nd rfl (Or.inr rfl) (pe_call (ok_Lpool T) (hr.mono (by decide)) (by rfl) T.g_Lpool T.F_Lpool.kp T.b_Lpool .nil pass0 (pa_cons (pe_call (ok_Lcell T) (hr.mono (by decide)) (by rfl) T.g_Lcell T.F_Lcell.kp T.b_Lcell .nil pass0 (pa_cons (pv 0) (pa_cons (pv 3) pa_nil))) pa_nil)))
      (pss_one (ps_for PassesOwn.never rfl (pi_listV (K := K) rfl (pv 1)) (pg_name (i := 5) sc_law.nd rfl (Or.inl rfl))
      (pss_cons (ps_set (i := 6) sc_law.nd rfl (Or.inr rfl) (pe_call (ok_Ldeed T) (hr.mono (by decide)) (by rfl) T.g_Ldeed T.F_Ldeed.kp T.b_Ldeed .nil pass0 (pa_cons (pv 4) (pa_cons (pv 5) pa_nil))))
        (pss_one (ps_if (PW.pt (pw_or (pt_not (pt_val (pe_callQ (ok_Lright T) (hq.mono (by decide)) (by rfl) T.g_Lright T.F_Lright.kp T.b_Lright pass0 (pa_cons (pv 6) pa_nil)))) (pw_or1 (pt_not (pt_val (pe_callB (cr_allV (K := K) rfl rfl) (by rfl) T.m_all (by decide +kernel) (pa_cons (pe_lc rfl sc_law.nd (g := gName 8) (pi_range1 (by rfl) T.m_range (pa_cons pe_int pa_nil)) (blkOk_by (own := [("_law_turn", 8)]) (N := ["_law_script", "_law_words", "_law_odd_here", "_law_k", "_law_pool_here", "_law_word", "_law_deed_here", "_law_matter", "_law_turn"]) (sc := defScope s_law) (by decide +kernel)) (fun _ _ _ _ _ => (pg_name (i := 8) sc_law.nd rfl (Or.inl rfl))) (fun _ _ _ _ _ => pts_nil) (fun _ _ _ _ _ => (pe_callQ (ok_Lright T) (hq.mono (by decide)) (by rfl) T.g_Lright T.F_Lright.kp T.b_Lright pass0 (pa_cons (pe_call (ok_Lbent T) (hr.mono (by decide)) (by rfl) T.g_Lbent T.F_Lbent.kp T.b_Lbent .nil pass0 (pa_cons (pv 4) (pa_cons (pv 6) pa_nil))) pa_nil)))) pa_nil)))))))
        (pss_one (ps_ret pe_bl))
        pss_nil)))))))
    (pss_one (ps_ret pe_bl)))))))), ?_⟩
    walk_at "ww"
    refine alI fun ws H1 ws_new e1 ws_f => ?_
    replace E0 := E0.trans e1
    clear e1 ws_new
    walk_at "ww"
    refine alI fun t1 H2 t1_new e2 t1_f => ?_
    replace E0 := E0.trans e2
    replace ws_f := e2 _ _ ws_f
    clear e2 t1_new
    walk_at "ww"
    refine alI fun l1 H3 l1_new e3 l1_f => ?_
    replace E0 := E0.trans e3
    replace ws_f := e3 _ _ ws_f
    replace t1_f := e3 _ _ t1_f
    clear e3 l1_new
    walk_at "ww"
    refine alI fun d1 H4 d1_new e4 d1_f => ?_
    replace E0 := E0.trans e4
    replace ws_f := e4 _ _ ws_f
    replace t1_f := e4 _ _ t1_f
    replace l1_f := e4 _ _ l1_f
    clear e4 d1_new
    walk_at "ww"
    refine alI fun t2 H5 t2_new e5 t2_f => ?_
    replace E0 := E0.trans e5
    replace ws_f := e5 _ _ ws_f
    replace t1_f := e5 _ _ t1_f
    replace l1_f := e5 _ _ l1_f
    replace d1_f := e5 _ _ d1_f
    clear e5 t2_new
    walk_at "ww"
    refine alI fun l2 H6 l2_new e6 l2_f => ?_
    replace E0 := E0.trans e6
    replace ws_f := e6 _ _ ws_f
    replace t1_f := e6 _ _ t1_f
    replace l1_f := e6 _ _ l1_f
    replace d1_f := e6 _ _ d1_f
    replace t2_f := e6 _ _ t2_f
    clear e6 l2_new
    walk_at "ww"
    refine alI fun l3 H7 l3_new e7 l3_f => ?_
    replace E0 := E0.trans e7
    replace ws_f := e7 _ _ ws_f
    replace t1_f := e7 _ _ t1_f
    replace l1_f := e7 _ _ l1_f
    replace d1_f := e7 _ _ d1_f
    replace t2_f := e7 _ _ t2_f
    replace l2_f := e7 _ _ l2_f
    clear e7 l3_new
    walk_at "ww"
    refine alI fun t3 H8 t3_new e8 t3_f => ?_
    replace E0 := E0.trans e8
    replace ws_f := e8 _ _ ws_f
    replace t1_f := e8 _ _ t1_f
    replace l1_f := e8 _ _ l1_f
    replace d1_f := e8 _ _ d1_f
    replace t2_f := e8 _ _ t2_f
    replace l2_f := e8 _ _ l2_f
    replace l3_f := e8 _ _ l3_f
    clear e8 t3_new
    walk_at "ww"
    refine alI fun t4 H9 t4_new e9 t4_f => ?_
    replace E0 := E0.trans e9
    replace ws_f := e9 _ _ ws_f
    replace t1_f := e9 _ _ t1_f
    replace l1_f := e9 _ _ l1_f
    replace d1_f := e9 _ _ d1_f
    replace t2_f := e9 _ _ t2_f
    replace l2_f := e9 _ _ l2_f
    replace l3_f := e9 _ _ l3_f
    replace t3_f := e9 _ _ t3_f
    clear e9 t4_new
    walk_at "ww"
    refine alI fun q1 H10 q1_new e10 q1_f => ?_
    replace E0 := E0.trans e10
    replace ws_f := e10 _ _ ws_f
    replace t1_f := e10 _ _ t1_f
    replace l1_f := e10 _ _ l1_f
    replace d1_f := e10 _ _ d1_f
    replace t2_f := e10 _ _ t2_f
    replace l2_f := e10 _ _ l2_f
    replace l3_f := e10 _ _ l3_f
    replace t3_f := e10 _ _ t3_f
    replace t4_f := e10 _ _ t4_f
    clear e10 q1_new
    walk_at "ww"
    refine alI fun t5 H11 t5_new e11 t5_f => ?_
    replace E0 := E0.trans e11
    replace ws_f := e11 _ _ ws_f
    replace t1_f := e11 _ _ t1_f
    replace l1_f := e11 _ _ l1_f
    replace d1_f := e11 _ _ d1_f
    replace t2_f := e11 _ _ t2_f
    replace l2_f := e11 _ _ l2_f
    replace l3_f := e11 _ _ l3_f
    replace t3_f := e11 _ _ t3_f
    replace t4_f := e11 _ _ t4_f
    replace q1_f := e11 _ _ q1_f
    clear e11 t5_new
    walk_at "ww"
    refine alI fun t6 H12 t6_new e12 t6_f => ?_
    replace E0 := E0.trans e12
    replace ws_f := e12 _ _ ws_f
    replace t1_f := e12 _ _ t1_f
    replace l1_f := e12 _ _ l1_f
    replace d1_f := e12 _ _ d1_f
    replace t2_f := e12 _ _ t2_f
    replace l2_f := e12 _ _ l2_f
    replace l3_f := e12 _ _ l3_f
    replace t3_f := e12 _ _ t3_f
    replace t4_f := e12 _ _ t4_f
    replace q1_f := e12 _ _ q1_f
    replace t5_f := e12 _ _ t5_f
    clear e12 t6_new
    walk_at "ww"
    refine alI fun t7 H13 t7_new e13 t7_f => ?_
    replace E0 := E0.trans e13
    replace ws_f := e13 _ _ ws_f
    replace t1_f := e13 _ _ t1_f
    replace l1_f := e13 _ _ l1_f
    replace d1_f := e13 _ _ d1_f
    replace t2_f := e13 _ _ t2_f
    replace l2_f := e13 _ _ l2_f
    replace l3_f := e13 _ _ l3_f
    replace t3_f := e13 _ _ t3_f
    replace t4_f := e13 _ _ t4_f
    replace q1_f := e13 _ _ q1_f
    replace t5_f := e13 _ _ t5_f
    replace t6_f := e13 _ _ t6_f
    clear e13 t7_new
    walk_at "ww"
    refine alI fun q2 H14 q2_new e14 q2_f => ?_
    replace E0 := E0.trans e14
    replace ws_f := e14 _ _ ws_f
    replace t1_f := e14 _ _ t1_f
    replace l1_f := e14 _ _ l1_f
    replace d1_f := e14 _ _ d1_f
    replace t2_f := e14 _ _ t2_f
    replace l2_f := e14 _ _ l2_f
    replace l3_f := e14 _ _ l3_f
    replace t3_f := e14 _ _ t3_f
    replace t4_f := e14 _ _ t4_f
    replace q1_f := e14 _ _ q1_f
    replace t5_f := e14 _ _ t5_f
    replace t6_f := e14 _ _ t6_f
    replace t7_f := e14 _ _ t7_f
    clear e14 q2_new
    refine wCatL q1_f q2_f (by simp) fun q3 H15 e15 q3_f q3_new => ?_
    walk_at "ww"
    refine anTyL q3_f ?_
    have q3_g := q3_f
    walk_at "ww"
    refine alI fun t8 H16 t8_new e16 t8_f => ?_
    replace q3_f := e16 _ _ q3_f
    have t8_q3 : t8 ≠ q3 := fun z => by
      rw [z, q3_g] at t8_new
      cases t8_new
    try walk_at "ww"
    refine wAppendI q3_f (by simp) q3_new (e15.trans e16) fun H17 e17 k17 q4_f => ?_
    replace E0 := E0.trans e17
    replace ws_f := e17 _ _ ws_f
    replace t1_f := e17 _ _ t1_f
    replace l1_f := e17 _ _ l1_f
    replace d1_f := e17 _ _ d1_f
    replace t2_f := e17 _ _ t2_f
    replace l2_f := e17 _ _ l2_f
    replace l3_f := e17 _ _ l3_f
    replace t3_f := e17 _ _ t3_f
    replace t4_f := e17 _ _ t4_f
    replace q1_f := e17 _ _ q1_f
    replace t5_f := e17 _ _ t5_f
    replace t6_f := e17 _ _ t6_f
    replace t7_f := e17 _ _ t7_f
    replace q2_f := e17 _ _ q2_f
    replace t8_f := k17 _ _ t8_q3 t8_f
    clear q3_f q3_g k17 e17 e16 e15 t8_new q3_new q1_f q2_f
    walk_at "ww"
    refine exSq (SqL.of q4_f) ?_
    intro D hD
    have fc : Flat (.str "come") := .s (nm_of (by decide +kernel))
    have fe : Flat (.str "") := .s (nm_of (by decide +kernel))
    have f_ann : Flat (.str "ann") := .s (nm_of (by decide +kernel))
    have f_go : Flat (.str "go") := .s (nm_of (by decide +kernel))
    have f_ch : Flat (.str "chest") := .s (nm_of (by decide +kernel))
    have f_fo : Flat (.str "forget") := .s (nm_of (by decide +kernel))
    have f_gi : Flat (.str "give") := .s (nm_of (by decide +kernel))
    have f_br : Flat (.str "bring") := .s (nm_of (by decide +kernel))
    have f1 : Flat (.int 1) := .i (by decide +kernel)
    have f0 : Flat (.int 0) := .i (by decide +kernel)
    have th : ∀ x ∈ (([V.non, V.int 0, V.bl true, V.str "come", V.str "", V.ref t1, V.ref l1, V.ref d1, V.ref t2, V.ref l2, V.ref t3, V.ref t4] ++ [V.ref t5, V.ref t6, V.ref t7]) ++ [V.ref t8] : List V), Mt K H17 x := by
      intro x hx
      simp only [List.cons_append, List.nil_append, List.mem_cons, List.not_mem_nil, or_false] at hx
      rcases hx with rfl | rfl | rfl | rfl | rfl | rfl | rfl | rfl | rfl | rfl | rfl | rfl | rfl | rfl | rfl | rfl
      · exact ⟨⟨_, .oth .non (by decide)⟩, true, Sh.non.le (by omega)⟩
      · exact mtV f0
      · exact ⟨⟨_, .oth (.bl _) (by decide)⟩, true, Sh.bl.le (by omega)⟩
      · exact mtV fc
      · exact mtV fe
      · exact mtF0 (xs := []) t1_f (by simp) (by simp)
      · exact mtL0 (xs := []) l1_f (by simp) (by simp)
      · exact ⟨⟨_, .oth (.dK d1_f) (by decide)⟩, false, (Sh.dct0 (k := 63) d1_f).le (by omega)⟩
      · exact mtF0 t2_f (by simp) (by simp [fc])
      · exact mtL0 l2_f (by simp) (by simp [fc, f_ann])
      · exact mtP0 (l := true) t3_f (by simp) (List.forall_mem_cons.mpr ⟨⟨Thing.l l3_f, (Sh.lst (k := 62) (n := 10002) l3_f fun y hy => by
        rw [List.mem_singleton] at hy
        rw [hy]
        exact fc.sh).le (by simp)⟩, fun y hy => by
        rw [List.mem_singleton] at hy
        rw [hy]
        exact f_ann.part⟩)
      · exact mtF0 t4_f (by simp) (by simp [f_go, f_ch])
      · exact mtF0 t5_f (by simp) (by simp [f_fo, f_ann, f_ch, f1])
      · exact mtF0 t6_f (by simp) (by simp [f_gi, f_ann, f_ch, f1])
      · exact mtF0 t7_f (by simp) (by simp [f_br, f_ann, f_ch, f1])
      · exact mtF0 t8_f (by simp) (by simp [f_fo, f_ann, f_ch, f1])
    refine lcList (fun H' => Ex H17 H') (fun i y _ => y = .bl true) (fun _ => rfl) (Ex.new hD) (fun H' e => SqL.of (e _ _ q4_f)) (fun i x hx H' acc e hD' hl hR => ?_) (fun H' ys e hD' hl hR => ?_)
    · have hi : i ≤ 100000 := by
        have h1 := (List.getElem?_eq_some_iff.mp hx).1
        simp only [List.length_append, List.length_cons, List.length_nil] at h1
        omega
      walk_at "ww"
      refine ⟨x, rfl, (th x (List.mem_of_getElem? hx)).ex e, fun H'' e' => ?_⟩
      exact lcAdd (e' _ _ hD') hl hi ((e.trans e').mut hD) hR rfl
    · obtain ⟨bs, rfl, hb⟩ := all_true hR
      have EB : Ex H H' := E0.trans e
      have wsB := e _ _ ws_f
      walk_at "ww"
      refine wAll (SqL.of hD') ?_
      rw [hb]
      walk_at "ww"
      refine wLenL (EB.sq hS) ?_
      walk_at "ww"
      obtain ⟨N, hN1, hN2, hN⟩ : ∃ N : Int, 2 ≤ N ∧ N ≤ 8 ∧ (if (if 8 < ((ns.map V.int).length : Int) then (8 : Int) else ((ns.map V.int).length : Int)) > 2 then (if 8 < ((ns.map V.int).length : Int) then (8 : Int) else ((ns.map V.int).length : Int)) else 2) = N := by
        refine ⟨_, ?_, ?_, rfl⟩ <;> (split <;> split <;> omega)
      rw [hN]
      refine ⟨by omega, by omega, ?_⟩
      refine for_range (lo := 0) (n := N.toNat) (fun i σ H2 => ∃ v1 v2 v3 v4 v5 v6, σ = [some (.ref a), some (.ref ws), some (.ref q3), v1, v2, v3, v4, v5, v6] ∧ Ex H H2 ∧ H2 ws = some (.lst [V.str "come", V.str "bring", V.str "give", V.str "hand", V.str "forget", V.str "go"])) ⟨_, _, _, _, _, _, rfl, EB, wsB⟩ ?_ ?_
      · rintro i σ H2 hi ⟨v1, v2, v3, v4, v5, v6, rfl, e2x, ws2⟩
        walk_at "ww"
        refine ⟨a, ns, 0 + i, rfl, e2x.sq hS, hlen, by omega, by omega, fun c H3 e3 => ?_⟩
        walk_at "ww"
        refine ⟨c, rfl, fun p H4 np e4 hP => ?_⟩
        have ws4 := e4 _ _ (e3 _ _ ws2)
        have ws_m : ws ≠ p := fun z => by
          rw [← z, e3 _ _ ws2] at np
          cases np
        walk_at "ww"
        refine exSq (SqL.of ws4) ?_
        refine for_list (K := K) (a := ws) (xs := [V.str "come", V.str "bring", V.str "give", V.str "hand", V.str "forget", V.str "go"]) (fun j σ H' => ∃ v3 v4 v5 v6, σ = [some (.ref a), some (.ref ws), some (.ref q3), some (.int (0 + i)), some (.ref p), v3, v4, v5, v6] ∧ Kp p H4 H' ∧ Pool H' p)
          ⟨_, _, _, _, rfl, Kp.refl p H4, hP⟩ (fun j σ H' _ ⟨_, _, _, _, _, kp, _⟩ => SqL.of (kp _ _ ws_m ws4)) ?_ ?_
        · rintro j y σ H5 hj ⟨u3, u4, u5, u6, rfl, k5, hP5⟩
          obtain ⟨z, rfl, zn⟩ : ∃ z, y = .str z ∧ Nm z := by
            have hy := List.mem_of_getElem? hj
            simp only [List.mem_cons, List.not_mem_nil, or_false] at hy
            rcases hy with rfl | rfl | rfl | rfl | rfl | rfl <;> exact ⟨_, rfl, nm_of (by decide +kernel)⟩
          walk_at "ww"
          refine ⟨p, z, rfl, hP5, zn, fun t xs H6 k6 hP6 tn tf tne tl tfl => ?_⟩
          walk_at "ww"
          refine ⟨.ref t, rfl, mtF0 tf (by omega) tfl, fun H7 e7 => ?_⟩
          have tf7 := e7 _ _ tf
          have hP7 := hP6.ex e7
          walk_at "ww"
          refine ⟨by omega, by omega, ?_⟩
          intro D2 hD2
          have nDp : D2 ≠ p := hP7.ne hD2
          have nDt : t ≠ D2 := ne_of_none tf7 hD2
          have t_m : t ≠ p := fun z => by
            obtain ⟨_, _, _, q, _⟩ := hP7
            rw [← z, tf7] at q
            cases q
          refine lcRng (fun H' => Kp p H7 H' ∧ Pool H' p) (fun i y _ => y = .bl true) (fun _ => rfl) ⟨Kp.new hD2, hP7.upd nDp⟩ (fun i2 hi2 H8 acc hI hD' hl hR => ?_) (fun H8 ys hI hD' hl hR => ?_)
          · have tf8 := hI.1 _ _ t_m tf7
            walk_at "ww"
            refine ⟨p, t, xs, rfl, hI.2, tf8, tne, tl, tfl, fun v H9 k9 hP9 hv => ?_⟩
            walk_at "ww"
            refine ⟨v, rfl, hv.ex hide_ex, fun H10 e10 => ?_⟩
            exact lcAdd (e10 _ _ (k9 _ _ nDp hD')) hl (by omega) ⟨((hI.1.trans k9).trans e10.kp).mut hD2, (hP9.ex e10).upd nDp⟩ hR rfl
          · obtain ⟨bs, rfl, hb2⟩ := all_true hR
            walk_at "ww"
            refine wAll (SqL.of hD') ?_
            rw [hb2]
            walk_at "ww"
            exact ⟨_, _, _, _, rfl, ((k5.trans k6).trans e7.kp).trans hI.1, hI.2⟩
        · rintro σ H5 ⟨u3, u4, u5, u6, rfl, k5, hP5⟩
          have E5 : Ex H H5 := Kp.back ((e2x.trans e3).trans e4) k5 ((e2x.trans e3).free np)
          try walk_at "ww"
          exact ⟨_, _, _, _, _, _, rfl, E5, k5 _ _ ws_m ws4⟩
      · rintro σ H2 ⟨v1, v2, v3, v4, v5, v6, rfl, e2x, ws2⟩
        walk_at "ww"
        exact k H2
end
theorem all_mk {l : PySem.W.OpenLaw} {w : World} {K : PySem.W.Frag} {h : Heap} {mg : Str → Option Value} {fa f_is_whole f_is_name f_is_holder f_is_measure f_is_deed f_is_short_deed f_is_deed_between_two f_Lcell f_Lpool f_Ltake f_Lis_name f_Lis_deed f_Lname f_Ldeed f_Lodd f_Lbent f_Lright f_law : Addr} (X : K.In h) (G : h.Ns mainGlobals mg) (hfa : mg "law" = some (.ref fa))
    {od_is_whole an_is_whole od_is_name an_is_name od_is_holder an_is_holder od_is_measure an_is_measure od_is_deed an_is_deed od_is_short_deed an_is_short_deed od_is_deed_between_two an_is_deed_between_two od_Lcell an_Lcell od_Lpool an_Lpool od_Ltake an_Ltake od_Lis_name an_Lis_name od_Lis_deed an_Lis_deed od_Lname an_Lname od_Ldeed an_Ldeed od_Lodd an_Lodd od_Lbent an_Lbent od_Lright an_Lright od_law an_law : Option Addr} {sl_is_whole sl_is_name sl_is_holder sl_is_measure sl_is_deed sl_is_short_deed sl_is_deed_between_two sl_Lcell sl_Lpool sl_Ltake sl_Lis_name sl_Lis_deed sl_Lname sl_Ldeed sl_Lodd sl_Lbent sl_Lright sl_law : Array (Option Value)} {oc_is_whole kV_is_whole dc_is_whole pm_is_whole cd_is_whole ct_is_whole oc_is_name kV_is_name dc_is_name pm_is_name cd_is_name ct_is_name oc_is_holder kV_is_holder dc_is_holder pm_is_holder cd_is_holder ct_is_holder oc_is_measure kV_is_measure dc_is_measure pm_is_measure cd_is_measure ct_is_measure oc_is_deed kV_is_deed dc_is_deed pm_is_deed cd_is_deed ct_is_deed oc_is_short_deed kV_is_short_deed dc_is_short_deed pm_is_short_deed cd_is_short_deed ct_is_short_deed oc_is_deed_between_two kV_is_deed_between_two dc_is_deed_between_two pm_is_deed_between_two cd_is_deed_between_two ct_is_deed_between_two oc_Lcell kV_Lcell dc_Lcell pm_Lcell cd_Lcell ct_Lcell oc_Lpool kV_Lpool dc_Lpool pm_Lpool cd_Lpool ct_Lpool oc_Ltake kV_Ltake dc_Ltake pm_Ltake cd_Ltake ct_Ltake oc_Lis_name kV_Lis_name dc_Lis_name pm_Lis_name cd_Lis_name ct_Lis_name oc_Lis_deed kV_Lis_deed dc_Lis_deed pm_Lis_deed cd_Lis_deed ct_Lis_deed oc_Lname kV_Lname dc_Lname pm_Lname cd_Lname ct_Lname oc_Ldeed kV_Ldeed dc_Ldeed pm_Ldeed cd_Ldeed ct_Ldeed oc_Lodd kV_Lodd dc_Lodd pm_Lodd cd_Lodd ct_Lodd oc_Lbent kV_Lbent dc_Lbent pm_Lbent cd_Lbent ct_Lbent oc_Lright kV_Lright dc_Lright pm_Lright cd_Lright ct_Lright oc_law kV_law dc_law pm_law cd_law ct_law : Value}
    {t_CHEST t_MOST_LETTERS t_MOST_MEASURES : Tok}
    (a_is_whole : PySem.W.nsIn K mainGlobals "is_whole" = some (some (.ref f_is_whole))) (l_is_whole : K.lookup f_is_whole = some ⟨oc_is_whole, od_is_whole, .func (PySem.W.fnOf "is_whole" "is_whole" (defArgs s_is_whole) (defBody s_is_whole) (defScope s_is_whole) .none kV_is_whole dc_is_whole pm_is_whole an_is_whole cd_is_whole ct_is_whole), sl_is_whole⟩) (c_is_whole : PySem.W.codeIn K cd_is_whole "is_whole" = true) (k_is_whole : PySem.W.keepIn K (.ref f_is_whole) = true)
    (a_is_name : PySem.W.nsIn K mainGlobals "is_name" = some (some (.ref f_is_name))) (l_is_name : K.lookup f_is_name = some ⟨oc_is_name, od_is_name, .func (PySem.W.fnOf "is_name" "is_name" (defArgs s_is_name) (defBody s_is_name) (defScope s_is_name) .none kV_is_name dc_is_name pm_is_name an_is_name cd_is_name ct_is_name), sl_is_name⟩) (c_is_name : PySem.W.codeIn K cd_is_name "is_name" = true) (k_is_name : PySem.W.keepIn K (.ref f_is_name) = true)
    (a_is_holder : PySem.W.nsIn K mainGlobals "is_holder" = some (some (.ref f_is_holder))) (l_is_holder : K.lookup f_is_holder = some ⟨oc_is_holder, od_is_holder, .func (PySem.W.fnOf "is_holder" "is_holder" (defArgs s_is_holder) (defBody s_is_holder) (defScope s_is_holder) .none kV_is_holder dc_is_holder pm_is_holder an_is_holder cd_is_holder ct_is_holder), sl_is_holder⟩) (c_is_holder : PySem.W.codeIn K cd_is_holder "is_holder" = true) (k_is_holder : PySem.W.keepIn K (.ref f_is_holder) = true)
    (a_is_measure : PySem.W.nsIn K mainGlobals "is_measure" = some (some (.ref f_is_measure))) (l_is_measure : K.lookup f_is_measure = some ⟨oc_is_measure, od_is_measure, .func (PySem.W.fnOf "is_measure" "is_measure" (defArgs s_is_measure) (defBody s_is_measure) (defScope s_is_measure) .none kV_is_measure dc_is_measure pm_is_measure an_is_measure cd_is_measure ct_is_measure), sl_is_measure⟩) (c_is_measure : PySem.W.codeIn K cd_is_measure "is_measure" = true) (k_is_measure : PySem.W.keepIn K (.ref f_is_measure) = true)
    (a_is_deed : PySem.W.nsIn K mainGlobals "is_deed" = some (some (.ref f_is_deed))) (l_is_deed : K.lookup f_is_deed = some ⟨oc_is_deed, od_is_deed, .func (PySem.W.fnOf "is_deed" "is_deed" (defArgs s_is_deed) (defBody s_is_deed) (defScope s_is_deed) .none kV_is_deed dc_is_deed pm_is_deed an_is_deed cd_is_deed ct_is_deed), sl_is_deed⟩) (c_is_deed : PySem.W.codeIn K cd_is_deed "is_deed" = true) (k_is_deed : PySem.W.keepIn K (.ref f_is_deed) = true)
    (a_is_short_deed : PySem.W.nsIn K mainGlobals "is_short_deed" = some (some (.ref f_is_short_deed))) (l_is_short_deed : K.lookup f_is_short_deed = some ⟨oc_is_short_deed, od_is_short_deed, .func (PySem.W.fnOf "is_short_deed" "is_short_deed" (defArgs s_is_short_deed) (defBody s_is_short_deed) (defScope s_is_short_deed) .none kV_is_short_deed dc_is_short_deed pm_is_short_deed an_is_short_deed cd_is_short_deed ct_is_short_deed), sl_is_short_deed⟩) (c_is_short_deed : PySem.W.codeIn K cd_is_short_deed "is_short_deed" = true) (k_is_short_deed : PySem.W.keepIn K (.ref f_is_short_deed) = true)
    (a_is_deed_between_two : PySem.W.nsIn K mainGlobals "is_deed_between_two" = some (some (.ref f_is_deed_between_two))) (l_is_deed_between_two : K.lookup f_is_deed_between_two = some ⟨oc_is_deed_between_two, od_is_deed_between_two, .func (PySem.W.fnOf "is_deed_between_two" "is_deed_between_two" (defArgs s_is_deed_between_two) (defBody s_is_deed_between_two) (defScope s_is_deed_between_two) .none kV_is_deed_between_two dc_is_deed_between_two pm_is_deed_between_two an_is_deed_between_two cd_is_deed_between_two ct_is_deed_between_two), sl_is_deed_between_two⟩) (c_is_deed_between_two : PySem.W.codeIn K cd_is_deed_between_two "is_deed_between_two" = true) (k_is_deed_between_two : PySem.W.keepIn K (.ref f_is_deed_between_two) = true)
    (a_Lcell : PySem.W.nsIn K mainGlobals "_law_cell" = some (some (.ref f_Lcell))) (l_Lcell : K.lookup f_Lcell = some ⟨oc_Lcell, od_Lcell, .func (PySem.W.fnOf "_law_cell" "_law_cell" (defArgs s_Lcell) (defBody s_Lcell) (defScope s_Lcell) .none kV_Lcell dc_Lcell pm_Lcell an_Lcell cd_Lcell ct_Lcell), sl_Lcell⟩) (c_Lcell : PySem.W.codeIn K cd_Lcell "_law_cell" = true) (k_Lcell : PySem.W.keepIn K (.ref f_Lcell) = true)
    (a_Lpool : PySem.W.nsIn K mainGlobals "_law_pool" = some (some (.ref f_Lpool))) (l_Lpool : K.lookup f_Lpool = some ⟨oc_Lpool, od_Lpool, .func (PySem.W.fnOf "_law_pool" "_law_pool" (defArgs s_Lpool) (defBody s_Lpool) (defScope s_Lpool) .none kV_Lpool dc_Lpool pm_Lpool an_Lpool cd_Lpool ct_Lpool), sl_Lpool⟩) (c_Lpool : PySem.W.codeIn K cd_Lpool "_law_pool" = true) (k_Lpool : PySem.W.keepIn K (.ref f_Lpool) = true)
    (a_Ltake : PySem.W.nsIn K mainGlobals "_law_take" = some (some (.ref f_Ltake))) (l_Ltake : K.lookup f_Ltake = some ⟨oc_Ltake, od_Ltake, .func (PySem.W.fnOf "_law_take" "_law_take" (defArgs s_Ltake) (defBody s_Ltake) (defScope s_Ltake) .none kV_Ltake dc_Ltake pm_Ltake an_Ltake cd_Ltake ct_Ltake), sl_Ltake⟩) (c_Ltake : PySem.W.codeIn K cd_Ltake "_law_take" = true) (k_Ltake : PySem.W.keepIn K (.ref f_Ltake) = true)
    (a_Lis_name : PySem.W.nsIn K mainGlobals "_law_is_name" = some (some (.ref f_Lis_name))) (l_Lis_name : K.lookup f_Lis_name = some ⟨oc_Lis_name, od_Lis_name, .func (PySem.W.fnOf "_law_is_name" "_law_is_name" (defArgs s_Lis_name) (defBody s_Lis_name) (defScope s_Lis_name) .none kV_Lis_name dc_Lis_name pm_Lis_name an_Lis_name cd_Lis_name ct_Lis_name), sl_Lis_name⟩) (c_Lis_name : PySem.W.codeIn K cd_Lis_name "_law_is_name" = true) (k_Lis_name : PySem.W.keepIn K (.ref f_Lis_name) = true)
    (a_Lis_deed : PySem.W.nsIn K mainGlobals "_law_is_deed" = some (some (.ref f_Lis_deed))) (l_Lis_deed : K.lookup f_Lis_deed = some ⟨oc_Lis_deed, od_Lis_deed, .func (PySem.W.fnOf "_law_is_deed" "_law_is_deed" (defArgs s_Lis_deed) (defBody s_Lis_deed) (defScope s_Lis_deed) .none kV_Lis_deed dc_Lis_deed pm_Lis_deed an_Lis_deed cd_Lis_deed ct_Lis_deed), sl_Lis_deed⟩) (c_Lis_deed : PySem.W.codeIn K cd_Lis_deed "_law_is_deed" = true) (k_Lis_deed : PySem.W.keepIn K (.ref f_Lis_deed) = true)
    (a_Lname : PySem.W.nsIn K mainGlobals "_law_name" = some (some (.ref f_Lname))) (l_Lname : K.lookup f_Lname = some ⟨oc_Lname, od_Lname, .func (PySem.W.fnOf "_law_name" "_law_name" (defArgs s_Lname) (defBody s_Lname) (defScope s_Lname) .none kV_Lname dc_Lname pm_Lname an_Lname cd_Lname ct_Lname), sl_Lname⟩) (c_Lname : PySem.W.codeIn K cd_Lname "_law_name" = true) (k_Lname : PySem.W.keepIn K (.ref f_Lname) = true)
    (a_Ldeed : PySem.W.nsIn K mainGlobals "_law_deed" = some (some (.ref f_Ldeed))) (l_Ldeed : K.lookup f_Ldeed = some ⟨oc_Ldeed, od_Ldeed, .func (PySem.W.fnOf "_law_deed" "_law_deed" (defArgs s_Ldeed) (defBody s_Ldeed) (defScope s_Ldeed) .none kV_Ldeed dc_Ldeed pm_Ldeed an_Ldeed cd_Ldeed ct_Ldeed), sl_Ldeed⟩) (c_Ldeed : PySem.W.codeIn K cd_Ldeed "_law_deed" = true) (k_Ldeed : PySem.W.keepIn K (.ref f_Ldeed) = true)
    (a_Lodd : PySem.W.nsIn K mainGlobals "_law_odd" = some (some (.ref f_Lodd))) (l_Lodd : K.lookup f_Lodd = some ⟨oc_Lodd, od_Lodd, .func (PySem.W.fnOf "_law_odd" "_law_odd" (defArgs s_Lodd) (defBody s_Lodd) (defScope s_Lodd) .none kV_Lodd dc_Lodd pm_Lodd an_Lodd cd_Lodd ct_Lodd), sl_Lodd⟩) (c_Lodd : PySem.W.codeIn K cd_Lodd "_law_odd" = true) (k_Lodd : PySem.W.keepIn K (.ref f_Lodd) = true)
    (a_Lbent : PySem.W.nsIn K mainGlobals "_law_bent" = some (some (.ref f_Lbent))) (l_Lbent : K.lookup f_Lbent = some ⟨oc_Lbent, od_Lbent, .func (PySem.W.fnOf "_law_bent" "_law_bent" (defArgs s_Lbent) (defBody s_Lbent) (defScope s_Lbent) .none kV_Lbent dc_Lbent pm_Lbent an_Lbent cd_Lbent ct_Lbent), sl_Lbent⟩) (c_Lbent : PySem.W.codeIn K cd_Lbent "_law_bent" = true) (k_Lbent : PySem.W.keepIn K (.ref f_Lbent) = true)
    (a_Lright : PySem.W.nsIn K mainGlobals "_law_right" = some (some (.ref f_Lright))) (l_Lright : K.lookup f_Lright = some ⟨oc_Lright, od_Lright, .func (PySem.W.fnOf "_law_right" "_law_right" (defArgs s_Lright) (defBody s_Lright) (defScope s_Lright) .none kV_Lright dc_Lright pm_Lright an_Lright cd_Lright ct_Lright), sl_Lright⟩) (c_Lright : PySem.W.codeIn K cd_Lright "_law_right" = true) (k_Lright : PySem.W.keepIn K (.ref f_Lright) = true)
    (a_law : PySem.W.nsIn K mainGlobals "law" = some (some (.ref f_law))) (l_law : K.lookup f_law = some ⟨oc_law, od_law, .func (PySem.W.fnOf "law" "law" (defArgs s_law) (defBody s_law) (defScope s_law) .none kV_law dc_law pm_law an_law cd_law ct_law), sl_law⟩) (c_law : PySem.W.codeIn K cd_law "law" = true) (k_law : PySem.W.keepIn K (.ref f_law) = true)
    (v_CHEST : PySem.W.nsIn K mainGlobals "CHEST" = some (some (.str "chest" t_CHEST)))
    (v_MOST_LETTERS : PySem.W.nsIn K mainGlobals "MOST_LETTERS" = some (some (.int 8 t_MOST_LETTERS)))
    (v_MOST_MEASURES : PySem.W.nsIn K mainGlobals "MOST_MEASURES" = some (some (.int 9999 t_MOST_MEASURES)))
    (z_abs : PySem.W.nsIn K mainGlobals "abs" = some none)
    (z_all : PySem.W.nsIn K mainGlobals "all" = some none)
    (z_bool : PySem.W.nsIn K mainGlobals "bool" = some none)
    (z_divmod : PySem.W.nsIn K mainGlobals "divmod" = some none)
    (z_int : PySem.W.nsIn K mainGlobals "int" = some none)
    (z_isinstance : PySem.W.nsIn K mainGlobals "isinstance" = some none)
    (z_len : PySem.W.nsIn K mainGlobals "len" = some none)
    (z_list : PySem.W.nsIn K mainGlobals "list" = some none)
    (z_max : PySem.W.nsIn K mainGlobals "max" = some none)
    (z_min : PySem.W.nsIn K mainGlobals "min" = some none)
    (z_range : PySem.W.nsIn K mainGlobals "range" = some none)
    (z_repr : PySem.W.nsIn K mainGlobals "repr" = some none)
    (z_str : PySem.W.nsIn K mainGlobals "str" = some none)
    (z_tuple : PySem.W.nsIn K mainGlobals "tuple" = some none)
    (z_zip : PySem.W.nsIn K mainGlobals "zip" = some none)
    : ∃ fd : FuncData, (∀ (s : Shared) (v : Value), BindsTo s fd ⟨[v], []⟩ [("_law_script", v)]) ∧ ∀ base : Heap, K.In base → base.Ns mainGlobals mg → FnQ l.prog w K mg base CX0 6 fa fd ["_law_script"] (spLaw K) := by
  have e := hfa.symm.trans (PySem.W.mg_of X G a_law)
  cases e
  have F_is_whole := fun_mk (st := s_is_whole) l_is_whole c_is_whole k_is_whole
  have F_is_name := fun_mk (st := s_is_name) l_is_name c_is_name k_is_name
  have F_is_holder := fun_mk (st := s_is_holder) l_is_holder c_is_holder k_is_holder
  have F_is_measure := fun_mk (st := s_is_measure) l_is_measure c_is_measure k_is_measure
  have F_is_deed := fun_mk (st := s_is_deed) l_is_deed c_is_deed k_is_deed
  have F_is_short_deed := fun_mk (st := s_is_short_deed) l_is_short_deed c_is_short_deed k_is_short_deed
  have F_is_deed_between_two := fun_mk (st := s_is_deed_between_two) l_is_deed_between_two c_is_deed_between_two k_is_deed_between_two
  have F_Lcell := fun_mk (st := s_Lcell) l_Lcell c_Lcell k_Lcell
  have F_Lpool := fun_mk (st := s_Lpool) l_Lpool c_Lpool k_Lpool
  have F_Ltake := fun_mk (st := s_Ltake) l_Ltake c_Ltake k_Ltake
  have F_Lis_name := fun_mk (st := s_Lis_name) l_Lis_name c_Lis_name k_Lis_name
  have F_Lis_deed := fun_mk (st := s_Lis_deed) l_Lis_deed c_Lis_deed k_Lis_deed
  have F_Lname := fun_mk (st := s_Lname) l_Lname c_Lname k_Lname
  have F_Ldeed := fun_mk (st := s_Ldeed) l_Ldeed c_Ldeed k_Ldeed
  have F_Lodd := fun_mk (st := s_Lodd) l_Lodd c_Lodd k_Lodd
  have F_Lbent := fun_mk (st := s_Lbent) l_Lbent c_Lbent k_Lbent
  have F_Lright := fun_mk (st := s_Lright) l_Lright c_Lright k_Lright
  have F_law := fun_mk (st := s_law) l_law c_law k_law
  have T : Tx K mg ⟨f_is_whole, _, f_is_name, _, f_is_holder, _, f_is_measure, _, f_is_deed, _, f_is_short_deed, _, f_is_deed_between_two, _, f_Lcell, _, f_Lpool, _, f_Ltake, _, f_Lis_name, _, f_Lis_deed, _, f_Lname, _, f_Ldeed, _, f_Lodd, _, f_Lbent, _, f_Lright, _, t_CHEST, t_MOST_LETTERS, t_MOST_MEASURES⟩ := {
    c_CHEST := PySem.W.mg_of X G v_CHEST
    c_MOST_LETTERS := PySem.W.mg_of X G v_MOST_LETTERS
    c_MOST_MEASURES := PySem.W.mg_of X G v_MOST_MEASURES
    m_abs := PySem.W.mg_none_of X G z_abs
    m_all := PySem.W.mg_none_of X G z_all
    m_bool := PySem.W.mg_none_of X G z_bool
    m_divmod := PySem.W.mg_none_of X G z_divmod
    m_int := PySem.W.mg_none_of X G z_int
    m_isinstance := PySem.W.mg_none_of X G z_isinstance
    m_len := PySem.W.mg_none_of X G z_len
    m_list := PySem.W.mg_none_of X G z_list
    m_max := PySem.W.mg_none_of X G z_max
    m_min := PySem.W.mg_none_of X G z_min
    m_range := PySem.W.mg_none_of X G z_range
    m_repr := PySem.W.mg_none_of X G z_repr
    m_str := PySem.W.mg_none_of X G z_str
    m_tuple := PySem.W.mg_none_of X G z_tuple
    m_zip := PySem.W.mg_none_of X G z_zip
    F_is_whole := F_is_whole
    g_is_whole := PySem.W.mg_of X G a_is_whole
    b_is_whole := F_is_whole.binds (ps := ["thing"]) fun _ _ _ _ _ _ us hl => match us, hl with | [_], _ => rfl
    F_is_name := F_is_name
    g_is_name := PySem.W.mg_of X G a_is_name
    b_is_name := F_is_name.binds (ps := ["thing"]) fun _ _ _ _ _ _ us hl => match us, hl with | [_], _ => rfl
    F_is_holder := F_is_holder
    g_is_holder := PySem.W.mg_of X G a_is_holder
    b_is_holder := F_is_holder.binds (ps := ["thing"]) fun _ _ _ _ _ _ us hl => match us, hl with | [_], _ => rfl
    F_is_measure := F_is_measure
    g_is_measure := PySem.W.mg_of X G a_is_measure
    b_is_measure := F_is_measure.binds (ps := ["thing"]) fun _ _ _ _ _ _ us hl => match us, hl with | [_], _ => rfl
    F_is_deed := F_is_deed
    g_is_deed := PySem.W.mg_of X G a_is_deed
    b_is_deed := F_is_deed.binds (ps := ["thing"]) fun _ _ _ _ _ _ us hl => match us, hl with | [_], _ => rfl
    F_is_short_deed := F_is_short_deed
    g_is_short_deed := PySem.W.mg_of X G a_is_short_deed
    b_is_short_deed := F_is_short_deed.binds (ps := ["row"]) fun _ _ _ _ _ _ us hl => match us, hl with | [_], _ => rfl
    F_is_deed_between_two := F_is_deed_between_two
    g_is_deed_between_two := PySem.W.mg_of X G a_is_deed_between_two
    b_is_deed_between_two := F_is_deed_between_two.binds (ps := ["row"]) fun _ _ _ _ _ _ us hl => match us, hl with | [_], _ => rfl
    F_Lcell := F_Lcell
    g_Lcell := PySem.W.mg_of X G a_Lcell
    b_Lcell := F_Lcell.binds (ps := ["_law_script", "_law_k"]) fun _ _ _ _ _ _ us hl => match us, hl with | [_, _], _ => rfl
    F_Lpool := F_Lpool
    g_Lpool := PySem.W.mg_of X G a_Lpool
    b_Lpool := F_Lpool.binds (ps := ["_law_cell_here"]) fun _ _ _ _ _ _ us hl => match us, hl with | [_], _ => rfl
    F_Ltake := F_Ltake
    g_Ltake := PySem.W.mg_of X G a_Ltake
    b_Ltake := F_Ltake.binds (ps := ["_law_pool_here", "_law_many"]) fun _ _ _ _ _ _ us hl => match us, hl with | [_, _], _ => rfl
    F_Lis_name := F_Lis_name
    g_Lis_name := PySem.W.mg_of X G a_Lis_name
    b_Lis_name := F_Lis_name.binds (ps := ["_law_matter"]) fun _ _ _ _ _ _ us hl => match us, hl with | [_], _ => rfl
    F_Lis_deed := F_Lis_deed
    g_Lis_deed := PySem.W.mg_of X G a_Lis_deed
    b_Lis_deed := F_Lis_deed.binds (ps := ["_law_matter"]) fun _ _ _ _ _ _ us hl => match us, hl with | [_], _ => rfl
    F_Lname := F_Lname
    g_Lname := PySem.W.mg_of X G a_Lname
    b_Lname := F_Lname.binds (ps := ["_law_pool_here"]) fun _ _ _ _ _ _ us hl => match us, hl with | [_], _ => rfl
    F_Ldeed := F_Ldeed
    g_Ldeed := PySem.W.mg_of X G a_Ldeed
    b_Ldeed := F_Ldeed.binds (ps := ["_law_pool_here", "_law_word"]) fun _ _ _ _ _ _ us hl => match us, hl with | [_, _], _ => rfl
    F_Lodd := F_Lodd
    g_Lodd := PySem.W.mg_of X G a_Lodd
    b_Lodd := F_Lodd.binds (ps := ["_law_pool_here"]) fun _ _ _ _ _ _ us hl => match us, hl with | [_], _ => rfl
    F_Lbent := F_Lbent
    g_Lbent := PySem.W.mg_of X G a_Lbent
    b_Lbent := F_Lbent.binds (ps := ["_law_pool_here", "_law_deed_here"]) fun _ _ _ _ _ _ us hl => match us, hl with | [_, _], _ => rfl
    F_Lright := F_Lright
    g_Lright := PySem.W.mg_of X G a_Lright
    b_Lright := F_Lright.binds (ps := ["_law_matter"]) fun _ _ _ _ _ _ us hl => match us, hl with | [_], _ => rfl
    kb0_is_deed_thing := ⟨fun s us ws _ l1 l2 => match us, ws, l1, l2 with | [], [_], _, _ => .of_eq rfl, fun _ r => r⟩
  }
  exact ⟨PySem.W.fnOf "law" "law" (defArgs s_law) (defBody s_law) (defScope s_law) .none kV_law dc_law pm_law an_law cd_law ct_law, fun s v => .of_eq rfl, fun base _ _ => ok_law T F_law⟩
theorem walk {l : PySem.W.OpenLaw} {q : Program} {loose : List Str} {XP : (Str → Option Value) → Heap → Prop} {YP : World → Heap → Prop} {d : DefRec} {K : Params → PySem.W.Frag} (hn : l.most = some 63) (hdf : d.params.defaults = [])
    (hY : ∀ (w : World) (h : Heap), YP w h → (K w.params).In h)
    (F : ∀ (w : World) (mg : Str → Option Value) (fa : Addr) (h : Heap), (K w.params).In h → h.Ns mainGlobals mg → mg d.name = some (.ref fa) →
      ∃ fd : FuncData, (∀ (s : Shared) (u : Value), BindsTo s fd ⟨[u], []⟩ [("_law_script", u)]) ∧ ∀ base : Heap, (K w.params).In base → base.Ns mainGlobals mg → FnQ l.prog w (K w.params) mg base CX0 6 fa fd ["_law_script"] (spLaw (K w.params))) :
    PySem.W.WalkO q loose XP YP l.row.toRowW d [] (fun f vs => PySem.call f vs) :=
  walk_quiet (n := 63) (k := 6) (x := "_law_script") (C := fun _ => CX0) (sp := fun w => spLaw (K w.params)) hn (by decide) hdf ⟨⟨rfl, by decide, by decide⟩, rfl⟩ hY F (fun _ _ a ns hl _ hS => ⟨a, ns, rfl, hS, hl, fun _ => rfl⟩) fun _ _ _ _ _ z => z
end Ver
open PySem PySem.W PyProof.Rows in
set_option maxRecDepth 100000 in
set_option maxHeartbeats 0 in
theorem PySem.Challenge.cw_thankways_k04_deeds_of_any_kind_holds : PySem.Challenge.rw_thankways_k04_deeds_of_any_kind.Holds := by
  w_on; o_law; k_head; (case hw => w_witness2)
  k_fill
  refine Ver.walk (l := PySem.Challenge.rw_thankways_k04_deeds_of_any_kind) rfl rfl (fun w h Y => PySem.W.kIn_of Y) ?F
  case F =>
    intro w mg fa h KX G hmg
    refine' Ver.all_mk KX G hmg ?a_is_whole ?l_is_whole ?c_is_whole ?k_is_whole ?a_is_name ?l_is_name ?c_is_name ?k_is_name ?a_is_holder ?l_is_holder ?c_is_holder ?k_is_holder ?a_is_measure ?l_is_measure ?c_is_measure ?k_is_measure ?a_is_deed ?l_is_deed ?c_is_deed ?k_is_deed ?a_is_short_deed ?l_is_short_deed ?c_is_short_deed ?k_is_short_deed ?a_is_deed_between_two ?l_is_deed_between_two ?c_is_deed_between_two ?k_is_deed_between_two ?a_Lcell ?l_Lcell ?c_Lcell ?k_Lcell ?a_Lpool ?l_Lpool ?c_Lpool ?k_Lpool ?a_Ltake ?l_Ltake ?c_Ltake ?k_Ltake ?a_Lis_name ?l_Lis_name ?c_Lis_name ?k_Lis_name ?a_Lis_deed ?l_Lis_deed ?c_Lis_deed ?k_Lis_deed ?a_Lname ?l_Lname ?c_Lname ?k_Lname ?a_Ldeed ?l_Ldeed ?c_Ldeed ?k_Ldeed ?a_Lodd ?l_Lodd ?c_Lodd ?k_Lodd ?a_Lbent ?l_Lbent ?c_Lbent ?k_Lbent ?a_Lright ?l_Lright ?c_Lright ?k_Lright ?a_law ?l_law ?c_law ?k_law ?v_CHEST ?v_MOST_LETTERS ?v_MOST_MEASURES ?z_abs ?z_all ?z_bool ?z_divmod ?z_int ?z_isinstance ?z_len ?z_list ?z_max ?z_min ?z_range ?z_repr ?z_str ?z_tuple ?z_zip
    (case a_is_whole => k_is)
    (case l_is_whole => k_is)
    (case c_is_whole => k_is)
    (case k_is_whole => k_is)
    (case a_is_name => k_is)
    (case l_is_name => k_is)
    (case c_is_name => k_is)
    (case k_is_name => k_is)
    (case a_is_holder => k_is)
    (case l_is_holder => k_is)
    (case c_is_holder => k_is)
    (case k_is_holder => k_is)
    (case a_is_measure => k_is)
    (case l_is_measure => k_is)
    (case c_is_measure => k_is)
    (case k_is_measure => k_is)
    (case a_is_deed => k_is)
    (case l_is_deed => k_is)
    (case c_is_deed => k_is)
    (case k_is_deed => k_is)
    (case a_is_short_deed => k_is)
    (case l_is_short_deed => k_is)
    (case c_is_short_deed => k_is)
    (case k_is_short_deed => k_is)
    (case a_is_deed_between_two => k_is)
    (case l_is_deed_between_two => k_is)
    (case c_is_deed_between_two => k_is)
    (case k_is_deed_between_two => k_is)
    (case a_Lcell => k_is)
    (case l_Lcell => k_is)
    (case c_Lcell => k_is)
    (case k_Lcell => k_is)
    (case a_Lpool => k_is)
    (case l_Lpool => k_is)
    (case c_Lpool => k_is)
    (case k_Lpool => k_is)
    (case a_Ltake => k_is)
    (case l_Ltake => k_is)
    (case c_Ltake => k_is)
    (case k_Ltake => k_is)
    (case a_Lis_name => k_is)
    (case l_Lis_name => k_is)
    (case c_Lis_name => k_is)
    (case k_Lis_name => k_is)
    (case a_Lis_deed => k_is)
    (case l_Lis_deed => k_is)
    (case c_Lis_deed => k_is)
    (case k_Lis_deed => k_is)
    (case a_Lname => k_is)
    (case l_Lname => k_is)
    (case c_Lname => k_is)
    (case k_Lname => k_is)
    (case a_Ldeed => k_is)
    (case l_Ldeed => k_is)
    (case c_Ldeed => k_is)
    (case k_Ldeed => k_is)
    (case a_Lodd => k_is)
    (case l_Lodd => k_is)
    (case c_Lodd => k_is)
    (case k_Lodd => k_is)
    (case a_Lbent => k_is)
    (case l_Lbent => k_is)
    (case c_Lbent => k_is)
    (case k_Lbent => k_is)
    (case a_Lright => k_is)
    (case l_Lright => k_is)
    (case c_Lright => k_is)
    (case k_Lright => k_is)
    (case a_law => k_is)
    (case l_law => k_is)
    (case c_law => k_is)
    (case k_law => k_is)
    (case v_CHEST => k_is)
    (case v_MOST_LETTERS => k_is)
    (case v_MOST_MEASURES => k_is)
    (case z_abs => k_is)
    (case z_all => k_is)
    (case z_bool => k_is)
    (case z_divmod => k_is)
    (case z_int => k_is)
    (case z_isinstance => k_is)
    (case z_len => k_is)
    (case z_list => k_is)
    (case z_max => k_is)
    (case z_min => k_is)
    (case z_range => k_is)
    (case z_repr => k_is)
    (case z_str => k_is)
    (case z_tuple => k_is)
    (case z_zip => k_is)
