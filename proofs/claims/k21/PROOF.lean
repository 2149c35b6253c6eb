import PyProof.Rows.All
import Wide.All
import OpenK.AllK
import Wide.FinOn
import HandS.ForMost
import HandS.Walk
import HandS.Wide
import HandS.TupAny
import HandS.TupMul
import HandS.Deep
import HandS.IsInst
import HandS.Zip
import HandS.Rev
import HandS.Style
import HandS.Flow
import HandS.FStr
import HandS.StrMore
import HandS.Conv
import KE.GoesEnum
import KE.GoesZip
import KE.KDictZip
import HandS.Ends
import PyProof.StrLawsRepr
import KE.DataFind
import HandS.SortInts
import HandS.TryOnly
import HandS.WideBits
import HandS.SortKw
import HandS.TupLe
import PyProof.LongRange
import HandS.More
import HandS.Text
import PySem.Challenge.RW_latewires_k21_whole_exchanges_by_all_of
set_option Elab.async false
set_option linter.all false
set_option maxRecDepth 100000
set_option maxHeartbeats 4000000
set_option exponentiation.threshold 3000
/-! The draws of a law: what stands at their addresses. One text a family of laws; this one: a list of two lists and two numbers. -/
namespace DL
open PySem L2
def stockOk (st fl : List Int) (q n : Int) : Prop := (∀ x ∈ st, 0 ≤ x) ∧ st.length ≤ 63 ∧ (∀ x ∈ fl, 0 ≤ x) ∧ 0 < fl.length ∧ fl.length ≤ 64 ∧ 0 ≤ q ∧ 0 ≤ n
def DkAt (H : Hp) (a : Addr) (l : Addr × Addr) : Prop := l.1 ≠ l.2 ∧ a ≠ l.1 ∧ a ≠ l.2 ∧ ∃ st fl q n, H a = some (.lst [V.ref l.1, V.ref l.2, .int q, .int n]) ∧ H l.1 = some (.lst (st.map V.int)) ∧ H l.2 = some (.lst (fl.map V.int)) ∧ stockOk st fl q n
theorem DkAt.has {H : Hp} {a : Addr} {l : Addr × Addr} (k : DkAt H a l) : ∀ b, b = a ∨ b = l.1 ∨ b = l.2 → Mut (H b) := by
  obtain ⟨e, ne, ne2, st, fl, q, n, h1, h2, h3, ok⟩ := k
  rintro b (z | z | z)
  · rw [z, h1]; trivial
  · rw [z, h2]; trivial
  · rw [z, h3]; trivial
theorem DkAt.st {H H' : Hp} {a : Addr} {l : Addr × Addr} (k : DkAt H a l) (s : ∀ b o, b = a ∨ b = l.1 ∨ b = l.2 → H b = some o → H' b = some o) : DkAt H' a l := by
  obtain ⟨e, ne, ne2, st, fl, q, n, h1, h2, h3, ok⟩ := k
  exact ⟨e, ne, ne2, st, fl, q, n, s _ _ (.inl rfl) h1, s _ _ (.inr (.inl rfl)) h2, s _ _ (.inr (.inr rfl)) h3, ok⟩
end DL
/-! Tuples whose object is known to have no dict of its own: their methods can be called. -/
namespace DL
open PySem L2 PySem.Spec PyProof.Rows
def SqX (K : PySem.W.Frag) (H : Hp) (a : Addr) (xs : List V) : Prop :=
  (∃ o, H a = some (.frz o (.tup xs)) ∧ o.dict = none) ∨ ∃ (o : Obj) (its : Array Value) (n : Nat), K.lookup a = some o ∧ o.cls = .type "tuple" ∧ o.dict = none ∧ o.data = .seq its n ∧ its.size ≤ sizeLine ∧ Vals xs its.toList
theorem SqX.t {K : PySem.W.Frag} {H : Hp} {a : Addr} {xs : List V} (h : SqX K H a xs) : SqT K H a xs := by
  rcases h with ⟨o, h, _⟩ | ⟨o, its, n, h1, h2, _, h3, h4, h5⟩
  · exact .inl (.inr ⟨o, h⟩)
  · exact .inr ⟨o, its, n, h1, h2, h3, h4, h5⟩
/-- something new: a tuple -/
abbrev NewT (H : Hp) (xs : List V) (Q : VK) : Prop := ∀ p o, H p = none → o.dict = none → Q (.ref p) (upd H p (.frz o (.tup xs)))
theorem SqX.new {K : PySem.W.Frag} {H : Hp} {p : Addr} {o : Obj} {xs : List V} (d : o.dict = none) : SqX K (upd H p (.frz o (.tup xs))) p xs := .inl ⟨o, upd_same, d⟩
section
variable {X : Cx} {pins : List (Addr × Obj)} {σ : L2.St} {H : Hp} {s : Shared} {a : Addr} {xs : List V} {its : List Value} {Q : VK}
/-- the object is laid, and known -/
theorem newT_of {t' n : Nat} (I : Inv X pins σ H s) (hz : xs.length ≤ sizeLine) (r : Vals xs its) (q : NewT H xs Q) : EP X pins σ Q (.ref s.heap.objs.size) { s with heap := s.heap.push { cls := .type "tuple", data := .seq its.toArray n }, toks := t' } := by
  have at_ : (s.heap.push { cls := .type "tuple", data := .seq its.toArray n }).get? s.heap.objs.size = some { cls := .type "tuple", data := .seq its.toArray n } := Heap.get?_push_size _ rfl
  refine ⟨.ref s.heap.objs.size, _, I.laid (o := .frz { cls := .type "tuple", data := .seq its.toArray n } (.tup xs)) (fun _ _ e => Heap.get?_push_of_some _ e) (Nat.le_refl _) ⟨at_, hz, its, r, _, at_, rfl, n, rfl⟩, rfl, q _ _ (I.hok.fresh (Nat.le_refl _)) rfl⟩
variable {es : List Expr} {t : L2.TA} {pos : Pos}
def tTupX (t : L2.TA) : TE := fun σ H Q => t σ H fun xs H1 => xs.length ≤ sizeLine ∧ NewT H1 xs Q
theorem pe_tupX {x1} (h : PA X es t) : PE X (.Tuple es x1 pos) (tTupX t) := by
  constructor
  intro pins s σ H Q I hq
  apply wpAny_Tuple_spliced
  refine thn (h.run pos pins s σ H _ I hq) ?_
  rintro us s1 ⟨xs, H1, I1, r, z, q⟩
  exact ⟨by have := r.length; omega, newT_of (t' := s1.toks) I1 z r q⟩
theorem call_tupleX : CallR X (.type "tuple") (fun xs H Q => ∃ p ys, xs = [.ref p] ∧ ((SqL X.K H p ys ∧ NewT H ys Q) ∨ (SqX X.K H p ys ∧ Q (.ref p) H))) := by
  intro pins s σ H xs us Q I r h
  obtain ⟨p, ys, rfl, h⟩ := h
  rcases h with ⟨hq, q⟩ | ⟨hq, q⟩
  · obtain ⟨u, rfl, rx⟩ := vals1 r
    cases rx
    obtain ⟨its, r', pl, hz⟩ := I.list hq
    have hlen := r'.length
    refine call_tuple_list pl.isList (fun h' kp => ?_) ?_
    · exact newT_of (t' := s.toks) (I.kept (t' := s.toks) kp) hz r' q
    · rw [List.size_toArray]
      omega
  · exact call_tuple_of pins s σ H _ us Q I r ⟨p, ys, rfl, .inr ⟨hq.t, q⟩⟩
/-- t + u -/
def rCatX (K : PySem.W.Frag) : R2 := fun x y H Q => ∃ a b xs ys, x = .ref a ∧ y = .ref b ∧ SqX K H a xs ∧ SqX K H b ys ∧ xs.length + ys.length ≤ sizeLine ∧
  (xs = [] → Q (.ref b) H) ∧ (xs ≠ [] → ys = [] → Q (.ref a) H) ∧ (xs ≠ [] → ys ≠ [] → NewT H (xs ++ ys) Q)
theorem op_catX : OpR X (binaryOp .Add) (rCatX X.K) := by
  intro pins s σ H x y v u Q I rx ry h
  obtain ⟨a, b, xs, ys, rfl, rfl, ha, hb, hz, q0, q1, q2⟩ := h
  by_cases hx : xs = []
  · exact op_catA pins s σ H _ _ v u Q I rx ry ⟨a, b, xs, ys, rfl, rfl, ha.t, hb.t, hz, q0, q1, fun z => absurd hx z⟩
  · obtain ⟨its, r1, p1, _⟩ := I.tuple ha.t
    obtain ⟨its2, r2, p2, _⟩ := I.tuple hb.t
    cases rx
    cases ry
    refine HT.cat_tup p1 p2 (fun z => hx (r1.nil_iff.mp z)) (fun z => ⟨.ref a, _, I, rfl, q1 hx (r2.nil_iff.mp z)⟩) (fun z => ?_) ?_
    · exact newT_of (t' := s.toks) I (by rw [List.length_append]; exact hz) (r1.append r2) (q2 hx fun w => z (r2.nil_iff.mpr w))
    · have e1 := r1.length
      have e2 := r2.length
      omega
/-- t[lo:hi] -/
def rSlX (K : PySem.W.Frag) : V → Option Int → Option Int → Hp → VK → Prop := fun x lo hi H Q => ∃ a xs, x = .ref a ∧ SqX K H a xs ∧
  (HT.sIx xs.length 0 lo = 0 ∧ HT.sIx xs.length xs.length hi = xs.length → Q (.ref a) H) ∧ (¬ (HT.sIx xs.length 0 lo = 0 ∧ HT.sIx xs.length xs.length hi = xs.length) → NewT H (cutV xs lo hi) Q)
theorem sl_tupX : SlR X (rSlX X.K) := by
  intro pins s σ H x v vl vu lo hi sl Q I rx hs pl pu h
  obtain ⟨a, xs, rfl, hx, q1, q2⟩ := h
  by_cases hw : HT.sIx xs.length 0 lo = 0 ∧ HT.sIx xs.length xs.length hi = xs.length
  · exact sl_tupA pins s σ H _ v vl vu lo hi sl Q I rx hs pl pu ⟨a, xs, rfl, hx.t, q1, fun n => absurd hw n⟩
  · obtain ⟨its, r, ht, hz⟩ := I.tuple hx.t
    cases rx
    have hlen : its.toArray.size = xs.length := by rw [List.size_toArray, r.length]
    refine ⟨"tuple", _, slot_tuple_getitem.lookup, ht.typeIs, HT.getItem_tuple_cut ht hs pl pu (by rw [hlen]; exact hw) ?_ (by rw [hlen]; exact hz)⟩
    rw [hlen]
    exact newT_of (t' := s.toks) I (Nat.le_trans (cutV_length xs lo hi) hz) ((r.drop (HT.sIx xs.length 0 lo)).take (HT.sIx xs.length xs.length hi - HT.sIx xs.length 0 lo)) (q2 hw)
/-- t * k -/
def rRepX (K : PySem.W.Frag) : R2 := fun x y H Q => ∃ l k xs, x = .ref l ∧ y = .int k ∧ SqX K H l xs ∧ xs ≠ [] ∧ 2 ≤ k ∧ k ≤ 1000 ∧ xs.length ≤ 1000 ∧ NewT H (List.replicate k.toNat xs).flatten Q
theorem mulRange {k : Int} (h1 : 2 ≤ k) (h2 : k ≤ 1000) : (decide (k < -(2 ^ 63)) || decide (k ≥ 2 ^ 63)) = false := by
  have a : decide (k < -(2 ^ 63)) = false := decide_eq_false (by omega)
  have b : decide (k ≥ 2 ^ 63) = false := decide_eq_false (by omega)
  rw [a, b]; rfl
theorem op_repX : OpR X (binaryOp .Mult) (rRepX X.K) := by
  intro pins s σ H x y v u Q I rx ry h
  obtain ⟨l, k, xs, rfl, rfl, hT, hne, h1, h2, hz, q⟩ := h
  obtain ⟨t, rfl⟩ := ry
  cases rx
  obtain ⟨its, r, ⟨⟨cls, dd, data, sl⟩, ho, hc, n, hd⟩, hs⟩ := I.tuple hT.t
  simp only at hc hd
  subst hc hd
  have hle := r.length
  have hlen : its.toArray.size = xs.length := by rw [List.size_toArray]; omega
  have hpos : 0 < xs.length := List.length_pos_iff.mpr hne
  have emp : its.toArray.isEmpty = false := by
    cases its with
    | nil => rw [List.length_nil] at hle; omega
    | cons a b => rfl
  have amost : k.toNat * xs.length ≤ 1000 * 1000 := Nat.mul_le_mul (by omega) hz
  have flat : (List.replicate k.toNat its).flatten.length ≤ sizeLine := by
    rw [PyProof.Rows.lm_len_rep_flat, sizeLine_eq, ← hle]
    omega
  have prod : ((its.toArray.size : Nat) : Int) * k ≤ 1000000 := by
    rw [hlen]
    have : ((xs.length : Nat) : Int) * k ≤ 1000 * k := Int.mul_le_mul_of_nonneg_right (by omega) (by omega)
    omega
  have few : Builtin.Tuple.tupleTooMany (((its.toArray.size : Nat) : Int) * k) = false := by
    unfold Builtin.Tuple.tupleTooMany
    rw [sizeLine_eq]
    exact decide_eq_false (by omega)
  have one : (its.toArray.isEmpty || k == 1) = false := by
    rw [emp]
    exact beq_eq_false_iff_ne.mpr (by omega)
  have non : (decide (k ≤ 0) || its.toArray.isEmpty) = false := by
    rw [emp, decide_eq_false (by omega)]; rfl
  have fits : (List.replicate k.toNat xs).flatten.length ≤ sizeLine := by
    rw [PyProof.Rows.lm_len_rep_flat, sizeLine_eq]
    omega
  have ty : s.TypeIs (.ref l) "tuple" := ⟨_, ho, rfl⟩
  have body := call_meets (Q := EP X pins σ Q) (E := X.xe) (prog := X.prog) (w := X.w) (A := X.A) F.slot_tuple_mul ty F.entry_tuple_mul (F.args_tuple_mul_2 (.ref l) (.int k t))
    (tuple_mulW l its.toArray n dd sl k t (mulRange h1 h2) one non (by omega) few (by rw [size_rep, List.size_toArray]; exact flat))
    ⟨ho, by rw [size_rep]; exact newT_of (t' := s.toks) I fits (r.rep k.toNat) q⟩
  exact wpAny_binaryOp_repeat_ref (T := "tuple") (U := "int") (by decide) ⟨_, ho, rfl⟩ (fun _ => typeIs_int _ k t) noFill_tuple_mul F.fills_int_mul
    F.slot_int_rmul repeat_tuple F.slot_int_index.lookup (call_meets F.slot_int_rmul (typeIs_int s k t) F.entry_int_rmul (F.args_int_rmul_2 _ _) (int_rmul_tuple k t l its.toArray n dd sl) ⟨ho, rfl, ⟨_, ho, rfl⟩, body⟩)
end
end DL
/-! The data layer: what a def does, over data alone. -/
namespace DL
open PySem L2

/-! ### data at a value, avoiding what may be written -/
mutual
def Da (K : PySem.W.Frag) (Av : Addr → Prop) (H : Hp) : PyData → V → Prop
  | .none, v => v = .non
  | .bool b, v => v = .bl b
  | .int i, v => v = .int i
  | .str x, v => v = .str x
  | .list ds, v => ∃ a xs, v = .ref a ∧ ¬ Av a ∧ H a = some (.lst xs) ∧ Das K Av H ds xs
  | .tuple ds, v => ∃ a xs, v = .ref a ∧ SqX K H a xs ∧ Das K Av H ds xs
  | .dict kvs, v => ∃ a, v = .ref a ∧ ¬ Av a ∧ H a = some (.dK []) ∧ kvs = []
def Das (K : PySem.W.Frag) (Av : Addr → Prop) (H : Hp) : List PyData → List V → Prop
  | [], xs => xs = []
  | d :: ds, xs => ∃ x r, xs = x :: r ∧ Da K Av H d x ∧ Das K Av H ds r
end
def Av0 : Addr → Prop := fun _ => False
def Stp (Av : Addr → Prop) (H H' : Hp) : Prop := ∀ b o, H b = some o → ¬ Av b → H' b = some o
section
variable {K : PySem.W.Frag} {Av Av' : Addr → Prop} {H H' : Hp}
theorem SqX.stp {a : Addr} {xs : List V} (h : SqX K H a xs) (mu : ∀ b, Av b → H b = none ∨ Mut (H b)) (st : Stp Av H H') : SqX K H' a xs := by
  rcases h with ⟨o, h, d⟩ | h
  · exact .inl ⟨o, st _ _ h fun q => by
      have := mu _ q
      rw [h] at this
      rcases this with z | z
      · cases z
      · exact z, d⟩
  · exact .inr h
/-- an item that a loop makes: its own object need not be known -/
def DaB (wk : Bool) (K : PySem.W.Frag) (Av : Addr → Prop) (H : Hp) (d : PyData) (v : V) : Prop := Da K Av H d v ∨ wk = true ∧ ∃ ds a xs, d = .tuple ds ∧ v = .ref a ∧ SqT K H a xs ∧ Das K Av H ds xs
theorem DaB.str {d : PyData} {v : V} (h : DaB false K Av H d v) : Da K Av H d v := h.elim id fun z => nomatch z.1
mutual
theorem Da.stp (mu : ∀ b, Av b → H b = none ∨ Mut (H b)) (st : Stp Av H H') : ∀ (d : PyData) (v : V), Da K Av H d v → Da K Av H' d v
  | .none, _, h => h
  | .bool _, _, h => h
  | .int _, _, h => h
  | .str _, _, h => h
  | .list ds, v, h => by
    simp only [Da] at h ⊢
    obtain ⟨a, xs, e, na, q, r⟩ := h
    exact ⟨a, xs, e, na, st _ _ q na, Das.stp mu st ds xs r⟩
  | .tuple ds, v, h => by
    simp only [Da] at h ⊢
    obtain ⟨a, xs, e, q, r⟩ := h
    exact ⟨a, xs, e, SqX.stp q mu st, Das.stp mu st ds xs r⟩
  | .dict kvs, v, h => by
    simp only [Da] at h ⊢
    obtain ⟨a, e, na, q, r⟩ := h
    exact ⟨a, e, na, st _ _ q na, r⟩
theorem Das.stp (mu : ∀ b, Av b → H b = none ∨ Mut (H b)) (st : Stp Av H H') : ∀ (ds : List PyData) (xs : List V), Das K Av H ds xs → Das K Av H' ds xs
  | [], _, h => h
  | d :: ds, xs, h => by
    simp only [Das] at h ⊢
    obtain ⟨x, r, e, h1, h2⟩ := h
    exact ⟨x, r, e, Da.stp mu st d x h1, Das.stp mu st ds r h2⟩
end
-- another set to avoid: what is avoided now was avoided, or nothing stood there
mutual
theorem Da.av (h : ∀ b, Av' b → Av b ∨ H b = none) : ∀ (d : PyData) (v : V), Da K Av H d v → Da K Av' H d v
  | .none, _, q => q
  | .bool _, _, q => q
  | .int _, _, q => q
  | .str _, _, q => q
  | .list ds, v, q => by
    simp only [Da] at q ⊢
    obtain ⟨a, xs, e, na, q, r⟩ := q
    refine ⟨a, xs, e, fun z => ?_, q, Das.av h ds xs r⟩
    rcases h a z with z | z
    · exact na z
    · rw [z] at q; cases q
  | .tuple ds, v, q => by
    simp only [Da] at q ⊢
    obtain ⟨a, xs, e, q, r⟩ := q
    exact ⟨a, xs, e, q, Das.av h ds xs r⟩
  | .dict kvs, v, q => by
    simp only [Da] at q ⊢
    obtain ⟨a, e, na, q, r⟩ := q
    refine ⟨a, e, fun z => ?_, q, r⟩
    rcases h a z with z | z
    · exact na z
    · rw [z] at q; cases q
theorem Das.av (h : ∀ b, Av' b → Av b ∨ H b = none) : ∀ (ds : List PyData) (xs : List V), Das K Av H ds xs → Das K Av' H ds xs
  | [], _, q => q
  | d :: ds, xs, q => by
    simp only [Das] at q ⊢
    obtain ⟨x, r, e, h1, h2⟩ := q
    exact ⟨x, r, e, Da.av h d x h1, Das.av h ds r h2⟩
end
theorem Da.anti (h : ∀ b, Av' b → Av b) {d : PyData} {v : V} (q : Da K Av H d v) : Da K Av' H d v := Da.av (fun b z => .inl (h b z)) d v q
theorem Das.anti (h : ∀ b, Av' b → Av b) {d : List PyData} {v : List V} (q : Das K Av H d v) : Das K Av' H d v := Das.av (fun b z => .inl (h b z)) d v q
theorem Da.free {d : PyData} {v : V} (q : Da K Av H d v) : Da K Av0 H d v := q.anti fun _ z => z.elim
theorem Das.free {d : List PyData} {v : List V} (q : Das K Av H d v) : Das K Av0 H d v := q.anti fun _ z => z.elim

theorem Das.length : ∀ {ds : List PyData} {xs : List V}, Das K Av H ds xs → ds.length = xs.length
  | [], xs, h => by simp only [Das] at h; subst h; rfl
  | d :: ds, xs, h => by
    simp only [Das] at h
    obtain ⟨x, r, rfl, _, h2⟩ := h
    simp [Das.length h2]
theorem Das.get : ∀ {ds : List PyData} {xs : List V} {i : Nat} {d : PyData}, Das K Av H ds xs → ds[i]? = some d → ∃ x, xs[i]? = some x ∧ Da K Av H d x
  | [], _, i, d, _, e => by simp at e
  | d0 :: ds, xs, 0, d, h, e => by
    simp only [Das] at h
    obtain ⟨x, r, rfl, h1, _⟩ := h
    simp at e; subst e
    exact ⟨x, rfl, h1⟩
  | d0 :: ds, xs, i + 1, d, h, e => by
    simp only [Das] at h
    obtain ⟨x, r, rfl, _, h2⟩ := h
    obtain ⟨y, e1, e2⟩ := Das.get (i := i) h2 (by simpa using e)
    exact ⟨y, by simpa using e1, e2⟩
theorem Das.getV {ds : List PyData} {xs : List V} {i : Nat} {x : V} (h : Das K Av H ds xs) (e : xs[i]? = some x) : ∃ d, ds[i]? = some d ∧ Da K Av H d x := by
  have hl := h.length
  have hi : i < ds.length := by
    have := (List.getElem?_eq_some_iff.mp e).1
    omega
  obtain ⟨y, e1, e2⟩ := h.get (i := i) (d := ds[i]) (by simp [hi])
  rw [e] at e1; cases e1
  exact ⟨ds[i], by simp [hi], e2⟩
theorem Das.cons {d : PyData} {ds : List PyData} {x : V} {xs : List V} (h1 : Da K Av H d x) (h2 : Das K Av H ds xs) : Das K Av H (d :: ds) (x :: xs) := by
  simp only [Das]
  exact ⟨x, xs, rfl, h1, h2⟩
theorem Das.nil : Das K Av H [] [] := by simp only [Das]
theorem Das.app : ∀ {ds es : List PyData} {xs ys : List V}, Das K Av H ds xs → Das K Av H es ys → Das K Av H (ds ++ es) (xs ++ ys)
  | [], es, xs, ys, h, q => by simp only [Das] at h; subst h; exact q
  | d :: ds, es, xs, ys, h, q => by
    simp only [Das] at h
    obtain ⟨x, r, rfl, h1, h2⟩ := h
    exact Das.cons h1 (Das.app h2 q)
theorem Das.take : ∀ {ds : List PyData} {xs : List V} (n : Nat), Das K Av H ds xs → Das K Av H (ds.take n) (xs.take n)
  | _, _, 0, _ => by simpa using Das.nil
  | [], xs, n + 1, h => by simp only [Das] at h; subst h; exact Das.nil
  | d :: ds, xs, n + 1, h => by
    simp only [Das] at h
    obtain ⟨x, r, rfl, h1, h2⟩ := h
    exact Das.cons h1 (Das.take n h2)
theorem Das.drop : ∀ {ds : List PyData} {xs : List V} (n : Nat), Das K Av H ds xs → Das K Av H (ds.drop n) (xs.drop n)
  | _, _, 0, h => h
  | [], xs, n + 1, h => by simp only [Das] at h; subst h; exact Das.nil
  | d :: ds, xs, n + 1, h => by
    simp only [Das] at h
    obtain ⟨x, r, rfl, h1, h2⟩ := h
    exact Das.drop n h2
theorem Das.set : ∀ {ds : List PyData} {xs : List V} {d : PyData} {x : V} (n : Nat), Das K Av H ds xs → Da K Av H d x → Das K Av H (ds.set n d) (xs.set n x)
  | [], xs, d, x, n, h, q => by simp only [Das] at h; subst h; exact Das.nil
  | d0 :: ds, xs, d, x, n, h, q => by
    simp only [Das] at h
    obtain ⟨y, r, rfl, h1, h2⟩ := h
    cases n with
    | zero => exact Das.cons q h2
    | succ n => exact Das.cons h1 (Das.set n h2 q)
theorem Das.rep : ∀ {ds : List PyData} {xs : List V} (n : Nat), Das K Av H ds xs → Das K Av H (List.replicate n ds).flatten (List.replicate n xs).flatten
  | _, _, 0, h => by simpa using Das.nil
  | ds, xs, n + 1, h => by
    simp only [List.replicate_succ, List.flatten_cons]
    exact Das.app h (Das.rep n h)
theorem Das.ints : ∀ {ns : List Int}, Das K Av H (ns.map PyData.int) (ns.map V.int)
  | [] => Das.nil
  | n :: ns => Das.cons (by simp only [Da]) Das.ints
theorem Das.of_ints : ∀ {ns : List Int} {xs : List V}, Das K Av H (ns.map PyData.int) xs → xs = ns.map V.int
  | [], xs, h => by simpa only [List.map_nil, Das] using h
  | n :: ns, xs, h => by
    simp only [List.map_cons, Das] at h
    obtain ⟨x, r, rfl, h1, h2⟩ := h
    simp only [Da] at h1
    rw [Das.of_ints h2, h1]; rfl
end

/-! ### slots and frames -/
/-- what a name holds: data; a list of its own; the draws -/
inductive SV where
  | dat (d : PyData) | own (xs : List PyData) | orf (i : Nat) | dk | scr (ns : List Int) | dct (kvs : List (Str × Int))
abbrev DS := List (Option SV)
/-- what stays through a def: the written part, the heap at the entry, what others may write, the draws' dict and list -/
structure Fx where
  K : PySem.W.Frag
  H0 : Hp
  Av : Addr → Prop
  dk : Option (Addr × Addr × Addr)
abbrev Own := Nat → Option Addr
def AvC (F : Fx) (A : Own) (b : Addr) : Prop := F.Av b ∨ ∃ i, A i = some b
def isDk (dk : Option (Addr × Addr × Addr)) (b : Addr) : Prop := ∃ a l, dk = some (a, l) ∧ (b = a ∨ b = l.1 ∨ b = l.2)
abbrev Fx.plus (F : Fx) (p : Addr) : Fx := { F with Av := fun b => F.Av b ∨ b = p }
/-- the script: not of the draws, or of the written part -/
def ScrAt (F : Fx) (a : Addr) (ns : List Int) : Prop := (SqL F.K F.H0 a (ns.map V.int) ∧ ¬ isDk F.dk a) ∨ SqL F.K (fun _ => none) a (ns.map V.int)
/-- a dict of numbers under words -/
def kvE (kvs : List (Str × Int)) : List (Key × V) := kvs.map fun p => ((Sum.inr p.1 : Key), V.int p.2)
def isOwn : SV → Prop
  | .own _ => True
  | .dct _ => True
  | _ => False
def SRep (F : Fx) (A : Own) (H : Hp) (i : Nat) (v : V) : SV → Prop
  | .dat d => Da F.K (AvC F A) H d v
  | .own xs => ∃ a vs, A i = some a ∧ v = .ref a ∧ H a = some (.lst vs) ∧ Das F.K (AvC F A) H xs vs
  | .dk => ∃ a l, F.dk = some (a, l) ∧ v = .ref a
  | .scr ns => ∃ a, v = .ref a ∧ ScrAt F a ns
  | .dct kvs => ∃ a, A i = some a ∧ v = .ref a ∧ H a = some (.dK (kvE kvs))
  | .orf _ => False
structure Rep (F : Fx) (A : Own) (σ : St) (H : Hp) (ρ : DS) : Prop where
  len : ρ.length = σ.length
  slot : ∀ i sv, ρ[i]? = some (some sv) → ∃ v, σ[i]? = some (some v) ∧ SRep F A H i v sv
  ownA : ∀ i a, A i = some a → ∃ sv, ρ[i]? = some (some sv) ∧ isOwn sv
  inj : ∀ i j a, A i = some a → A j = some a → i = j
  fresh : ∀ i a, A i = some a → F.H0 a = none ∧ ¬ F.Av a
  mu : ∀ b, AvC F A b → Mut (H b)
  keep : ∀ b o, F.H0 b = some o → ¬ isDk F.dk b → H b = some o
  dav : ∀ b, isDk F.dk b → F.Av b
  deck : ∀ a l, F.dk = some (a, l) → DkAt H a l
/-- what happened to the heap: what nobody may write stands; the lists of one's own are those from ahead or new -/
def Wr (F : Fx) (A : Own) (b : Addr) : Prop := isDk F.dk b ∨ ∃ i, A i = some b
structure Tr (F : Fx) (A : Own) (H : Hp) (A' : Own) (H' : Hp) : Prop where
  stp : Stp (Wr F A) H H'
  nw : ∀ i b, A' i = some b → (∃ j, A j = some b) ∨ H b = none
  trk : ∀ b, H' b = none → H b = none
section
variable {F : Fx} {A A' A2 : Own} {σ σ' : St} {H H' H2 : Hp} {ρ ρ' : DS}
theorem Tr.refl : Tr F A H A H := ⟨fun _ _ h _ => h, fun i b h => .inl ⟨i, h⟩, fun _ h => h⟩
theorem Mut.some {H : Hp} {b : Addr} (h : Mut (H b)) : H b ≠ none := fun z => by rw [z] at h; exact h
theorem Tr.av (t : Tr F A H A' H') : ∀ b, AvC F A' b → AvC F A b ∨ H b = none := fun b z => by
  rcases z with z | ⟨i, z⟩
  · exact .inl (.inl z)
  · rcases t.nw i b z with ⟨j, q⟩ | q
    · exact .inl (.inr ⟨j, q⟩)
    · exact .inr q
theorem Tr.trans (t : Tr F A H A' H') (u : Tr F A' H' A2 H2) : Tr F A H A2 H2 := by
  refine ⟨fun b o h n => ?_, fun i b h => ?_, fun b h => t.trk b (u.trk b h)⟩
  · have h1 := t.stp b o h n
    refine u.stp b o h1 fun z => ?_
    rcases z with z | ⟨i, z⟩
    · exact n (.inl z)
    · rcases t.nw i b z with q | q
      · exact n (.inr q)
      · rw [q] at h; cases h
  · rcases u.nw i b h with ⟨j, q⟩ | q
    · exact t.nw j b q
    · exact .inr (t.trk b q)
theorem Rep.stp (R : Rep F A σ H ρ) (t : Tr F A H A' H') : Stp (AvC F A) H H' := fun b o e n => t.stp b o e fun z => n (z.elim (fun z => .inl (R.dav b z)) .inr)
theorem Rep.das (R : Rep F A σ H ρ) (t : Tr F A H A' H') {d : List PyData} {v : List V} (h : Das F.K (AvC F A) H d v) : Das F.K (AvC F A') H' d v := by
  have h1 : Das F.K (fun b => AvC F A b ∨ AvC F A' b) H d v := Das.av (fun b z => by
    rcases z with z | z
    · exact .inl z
    · exact t.av b z) d v h
  have h2 := Das.stp (Av := fun b => AvC F A b ∨ AvC F A' b) (H' := H') (fun b z => by
    rcases z with z | z
    · exact .inr (R.mu b z)
    · rcases t.av b z with z | z
      · exact .inr (R.mu b z)
      · exact .inl z) (fun b o e n => t.stp b o e fun z => n (.inl (z.elim (fun z => .inl (R.dav b z)) .inr))) d v h1
  exact h2.anti fun b z => .inr z
theorem Rep.da (R : Rep F A σ H ρ) (t : Tr F A H A' H') {d : PyData} {v : V} (h : Da F.K (AvC F A) H d v) : Da F.K (AvC F A') H' d v := by
  have q := R.das t (Das.cons h Das.nil)
  simp only [Das] at q
  obtain ⟨x, r, e, h1, _⟩ := q
  cases e
  exact h1
end
end DL
namespace DL
open PySem L2

/-! ### what an expression gives -/
def RR (F : Fx) (A : Own) (σ : St) (Hs H : Hp) (ρ : DS) (v : V) : SV → Prop
  | .dat d => Da F.K (AvC F A) H d v
  | .own xs => ∃ a vs, v = .ref a ∧ Hs a = none ∧ F.H0 a = none ∧ ¬ AvC F A a ∧ H a = some (.lst vs) ∧ Das F.K (AvC (F.plus a) A) H xs vs ∧ Rep (F.plus a) A σ H ρ
  | .orf i => σ[i]? = some (some v)
  | .dk => ∃ a l, F.dk = some (a, l) ∧ v = .ref a
  | .scr ns => ∃ a, v = .ref a ∧ ScrAt F a ns
  | .dct _ => False
/-- the same for a while: an own list is data then -/
def RW (F : Fx) (A : Own) (σ : St) (H : Hp) (v : V) : SV → Prop
  | .dat d => Da F.K (AvC F A) H d v
  | .own xs => Da F.K (AvC F A) H (.list xs) v
  | .orf i => σ[i]? = some (some v)
  | .dk => ∃ a l, F.dk = some (a, l) ∧ v = .ref a
  | .scr ns => ∃ a, v = .ref a ∧ ScrAt F a ns
  | .dct _ => False
/-- data whose own top may be written -/
def DaT (K : PySem.W.Frag) (Av : Addr → Prop) (H : Hp) : PyData → V → Prop
  | .list ds, v => ∃ a xs, v = .ref a ∧ H a = some (.lst xs) ∧ Das K Av H ds xs
  | d, v => Da K Av H d v
def lookD (ρ : DS) : SV → Option PyData
  | .dat d => some d
  | .own xs => some (.list xs)
  | .orf i => match ρ[i]? with
    | some (some (.dat d)) => some d
    | some (some (.own xs)) => some (.list xs)
    | _ => none
  | .dk => none
  | .scr _ => none
  | .dct _ => none
theorem DaT.of {K : PySem.W.Frag} {Av : Addr → Prop} {H : Hp} {d : PyData} {v : V} (h : Da K Av H d v) : DaT K Av H d v := by
  cases d with
  | list ds =>
    simp only [Da] at h
    obtain ⟨a, xs, e, _, q, r⟩ := h
    exact ⟨a, xs, e, q, r⟩
  | _ => exact h
theorem DaT.dp : ∀ {K : PySem.W.Frag} {Av : Addr → Prop} {H : Hp} {d : PyData} {v : V}, DaT K Av H d v → DaT K Av0 H d v := by
  intro K Av H d v h
  cases d with
  | list ds =>
    obtain ⟨a, xs, e, q, r⟩ := h
    exact ⟨a, xs, e, q, r.free⟩
  | _ => exact Da.free (Av := Av) h
section
variable {F : Fx} {A A' A2 : Own} {σ σ' : St} {H H' H2 : Hp} {ρ ρ' : DS} {v : V} {r : SV} {d : PyData}
theorem avc_plus {a b : Addr} : AvC (F.plus a) A b ↔ AvC F A b ∨ b = a := by
  unfold AvC
  constructor
  · rintro ((h | h) | h)
    · exact .inl (.inl h)
    · exact .inr h
    · exact .inl (.inr h)
  · rintro ((h | h) | h)
    · exact .inl (.inl h)
    · exact .inr h
    · exact .inl (.inr h)
theorem RR.rw {Hs : Hp} (h : RR F A σ Hs H ρ v r) : RW F A σ H v r := by
  cases r with
  | own xs =>
    obtain ⟨a, vs, e, _, _, na, q, r, _⟩ := h
    show Da F.K (AvC F A) H (.list xs) v
    simp only [Da]
    exact ⟨a, vs, e, na, q, r.anti fun b z => avc_plus.mpr (.inl z)⟩
  | dat d => exact h
  | orf i => exact h
  | dk => exact h
  | scr ns => exact h
  | dct kvs => exact h
theorem RR.back {Hs Hs' : Hp} (h : RR F A σ Hs H ρ v r) (t : ∀ b, Hs b = none → Hs' b = none) : RR F A σ Hs' H ρ v r := by
  cases r with
  | own xs =>
    obtain ⟨a, vs, e, n, q⟩ := h
    exact ⟨a, vs, e, t a n, q⟩
  | dat d => exact h
  | orf i => exact h
  | dk => exact h
  | scr ns => exact h
  | dct kvs => exact h
theorem Rep.rw (R : Rep F A σ H ρ) (t : Tr F A H A' H') (h : RW F A σ H v r) : RW F A' σ H' v r := by
  cases r with
  | own xs => exact R.da t h
  | dat d => exact R.da t h
  | orf i => exact h
  | dk => exact h
  | scr ns => exact h
  | dct kvs => exact h
theorem Rep.look (R : Rep F A σ H ρ) (h : RW F A σ H v r) (e : lookD ρ r = some d) : DaT F.K (AvC F A) H d v := by
  cases r with
  | own xs =>
    have e' : d = .list xs := (Option.some.inj e).symm
    subst e'
    exact DaT.of h
  | dat d' =>
    have e' : d' = d := Option.some.inj e
    subst e'
    exact DaT.of h
  | dk => cases e
  | scr ns => cases e
  | dct kvs => cases e
  | orf i =>
    have hv : σ[i]? = some (some v) := h
    cases q : ρ[i]? with
    | none => simp [lookD, q] at e
    | some o =>
      cases o with
      | none => simp [lookD, q] at e
      | some sv =>
        obtain ⟨v', e1, s⟩ := R.slot i sv q
        rw [hv] at e1
        have ev : v = v' := by simpa using e1
        subst ev
        cases sv with
        | dat d' =>
          have e' : d' = d := by simpa [lookD, q] using e
          subst e'
          exact DaT.of s
        | own xs =>
          have e' : PyData.list xs = d := by simpa [lookD, q] using e
          subst e'
          obtain ⟨a, vs, _, e2, e3, e4⟩ := s
          exact ⟨a, vs, e2, e3, e4⟩
        | orf j => exact s.elim
        | dk => simp [lookD, q] at e
        | scr ns => simp [lookD, q] at e
        | dct kvs => simp [lookD, q] at e
theorem sameStp (s : Same H H') {Av : Addr → Prop} : Stp Av H H' := fun b o h _ => s b o h
theorem Rep.mu' (R : Rep F A σ H ρ) : ∀ b, AvC F A b → H b = none ∨ Mut (H b) := fun b z => .inr (R.mu b z)
theorem Rep.notin (R : Rep F A σ H ρ) {a : Addr} (n : H a = none) : ¬ AvC F A a := fun z => Mut.some (R.mu a z) n
theorem Rep.new0 (R : Rep F A σ H ρ) {a : Addr} (n : H a = none) : F.H0 a = none := by
  cases e : F.H0 a with
  | none => rfl
  | some o =>
    by_cases k : isDk F.dk a
    · exact absurd (.inl (R.dav a k)) (R.notin n)
    · have := R.keep a o e k
      rw [n] at this; cases this
theorem DkAt.same {a : Addr} {l : Addr × Addr} (k : DkAt H a l) (s : Same H H') : DkAt H' a l := k.st fun b o _ h => s b o h
/-- the heap has grown -/
theorem Rep.same (R : Rep F A σ H ρ) (s : Same H H') : Rep F A σ H' ρ := by
  refine ⟨R.len, fun i sv e => ?_, R.ownA, R.inj, R.fresh, fun b z => ?_, fun b o e n => s _ _ (R.keep b o e n), R.dav, fun a l e => (R.deck a l e).same s⟩
  · obtain ⟨v, e1, q⟩ := R.slot i sv e
    refine ⟨v, e1, ?_⟩
    cases sv with
    | dat d => exact Da.stp R.mu' (sameStp s) d v q
    | own xs =>
      obtain ⟨a, vs, q1, q2, q3, q4⟩ := q
      exact ⟨a, vs, q1, q2, s _ _ q3, Das.stp R.mu' (sameStp s) _ _ q4⟩
    | orf j => exact q
    | dk => exact q
    | scr ns => exact q
    | dct kvs =>
      obtain ⟨a, q1, q2, q3⟩ := q
      exact ⟨a, q1, q2, s _ _ q3⟩
  · have := R.mu b z
    cases e : H b with
    | none => rw [e] at this; exact this.elim
    | some o => rw [e] at this; rw [s b o e]; exact this
/-- .. and something new stands at a, which nothing else speaks of -/
theorem Rep.grow (R : Rep F A σ H ρ) {a : Addr} (n : H a = none) (s : Same H H') (m : Mut (H' a)) : Rep (F.plus a) A σ H' ρ := by
  have av : ∀ b, AvC (F.plus a) A b → AvC F A b ∨ H b = none := fun b z => by
    rcases avc_plus.mp z with z | z
    · exact .inl z
    · exact .inr (by rw [z]; exact n)
  have R' := R.same s
  refine ⟨R.len, fun i sv e => ?_, R.ownA, R.inj, fun i b e => ⟨(R.fresh i b e).1, fun z => ?_⟩, fun b z => ?_, R'.keep, fun b z => .inl (R.dav b z), R'.deck⟩
  · obtain ⟨v, e1, q⟩ := R.slot i sv e
    refine ⟨v, e1, ?_⟩
    have mu2 : ∀ b, AvC (F.plus a) A b → H b = none ∨ Mut (H b) := fun b z => by
      rcases av b z with z | z
      · exact .inr (R.mu b z)
      · exact .inl z
    cases sv with
    | dat d => exact Da.stp mu2 (sameStp s) d v (Da.av av d v q)
    | own xs =>
      obtain ⟨c, vs, q1, q2, q3, q4⟩ := q
      exact ⟨c, vs, q1, q2, s _ _ q3, Das.stp mu2 (sameStp s) _ _ (Das.av av _ _ q4)⟩
    | orf j => exact q
    | dk => exact q
    | scr ns => exact q
    | dct kvs =>
      obtain ⟨a, q1, q2, q3⟩ := q
      exact ⟨a, q1, q2, s _ _ q3⟩
  · rcases z with z | z
    · exact (R.fresh i b e).2 z
    · exact R.notin n (.inr ⟨i, by rw [e, z]⟩)
  · rcases avc_plus.mp z with z | z
    · exact R'.mu b z
    · rw [z]; exact m
/-- what an operation gives, that changes nothing -/
def Res (K : PySem.W.Frag) (Av : Addr → Prop) (H H' : Hp) (v : V) : SV → Prop
  | .dat d => Da K Av H' d v
  | .own xs => ∃ a vs, v = .ref a ∧ H a = none ∧ H' a = some (.lst vs) ∧ Das K (fun b => Av b ∨ b = a) H' xs vs
  | _ => False
theorem Rep.res (R : Rep F A σ H ρ) (s : Same H H') (h : Res F.K (AvC F A) H H' v r) : RR F A σ H H' ρ v r := by
  cases r with
  | dat d => exact h
  | own xs =>
    obtain ⟨a, vs, e, n, q, w⟩ := h
    refine ⟨a, vs, e, n, R.new0 n, R.notin n, q, w.anti fun b z => avc_plus.mp z, R.grow n s ?_⟩
    rw [q]; trivial
  | orf i => exact h.elim
  | dk => exact h.elim
  | scr ns => exact h.elim
  | dct kvs => exact h.elim
theorem sameTrk (s : Same H H') : ∀ b, H' b = none → H b = none := fun b h => by
  cases e : H b with
  | none => rfl
  | some o => rw [s b o e] at h; cases h
theorem sameTr (s : Same H H') : Tr F A H A H' := ⟨fun b o h _ => s b o h, fun i b h => .inl ⟨i, h⟩, sameTrk s⟩
end

/-! ### the judgements -/
abbrev DVK := SV → DS → Prop
abbrev DTE := DS → DVK → Prop
abbrev DTT := DS → (Bool → DS → Prop) → Prop
abbrev DTA := DS → (List SV → DS → Prop) → Prop
structure DEnds where
  nx : DS → Prop
  rt : DVK
  bk : DS → Prop := fun _ => False
  ct : DS → Prop := fun _ => False
abbrev DTS := DEnds → DS → Prop
def ES (K : PySem.W.Frag) (t : TE) (T : DTE) : Prop := ∀ (F : Fx) (A : Own) (σ : St) (H : Hp) (ρ : DS) (Q : VK) (QD : DVK), F.K = K → Rep F A σ H ρ → T ρ QD →
  (∀ r ρ' v H' A', QD r ρ' → Rep F A' σ H' ρ' → Tr F A H A' H' → RR F A' σ H H' ρ' v r → Q v H') → t σ H Q
def TSd (K : PySem.W.Frag) (t : TT) (T : DTT) : Prop := ∀ (F : Fx) (A : Own) (σ : St) (H : Hp) (ρ : DS) (Q : Bool → Hp → Prop) (QD : Bool → DS → Prop), F.K = K → Rep F A σ H ρ → T ρ QD →
  (∀ b ρ' H' A', QD b ρ' → Rep F A' σ H' ρ' → Tr F A H A' H' → Q b H') → t σ H Q
inductive RWs (F : Fx) (A : Own) (σ : St) (H : Hp) : List V → List SV → Prop
  | nil : RWs F A σ H [] []
  | cons {v r vs rs} : RW F A σ H v r → RWs F A σ H vs rs → RWs F A σ H (v :: vs) (r :: rs)
def AS (K : PySem.W.Frag) (t : TA) (T : DTA) : Prop := ∀ (F : Fx) (A : Own) (σ : St) (H : Hp) (ρ : DS) (Q : List V → Hp → Prop) (QD : List SV → DS → Prop), F.K = K → Rep F A σ H ρ → T ρ QD →
  (∀ rs ρ' vs H' A', QD rs ρ' → Rep F A' σ H' ρ' → Tr F A H A' H' → RWs F A' σ H' vs rs → Q vs H') → t σ H Q
def EndsOk (F : Fx) (A : Own) (H : Hp) (D : Ends) (E : DEnds) : Prop :=
  (∀ ρ' σ' H' A', E.nx ρ' → Rep F A' σ' H' ρ' → Tr F A H A' H' → D.nx σ' H') ∧
  (∀ r ρ' v σ' H' A', E.rt r ρ' → Rep F A' σ' H' ρ' → Tr F A H A' H' → RR F A' σ' H H' ρ' v r → D.rt v H') ∧
  (∀ ρ' σ' H' A', E.bk ρ' → Rep F A' σ' H' ρ' → Tr F A H A' H' → D.bk σ' H') ∧
  (∀ ρ' σ' H' A', E.ct ρ' → Rep F A' σ' H' ρ' → Tr F A H A' H' → D.ct σ' H')
def SS (K : PySem.W.Frag) (t : TS) (T : DTS) : Prop := ∀ (F : Fx) (A : Own) (σ : St) (H : Hp) (ρ : DS) (D : Ends) (E : DEnds), F.K = K → Rep F A σ H ρ → T E ρ → EndsOk F A H D E → t D σ H
structure DE (K : PySem.W.Frag) (X : Cx) (e : Expr) (t : TE) (T : DTE) : Prop where
  p : PE X e t
  s : ES K t T
structure DT (K : PySem.W.Frag) (X : Cx) (e : Expr) (t : TT) (T : DTT) : Prop where
  p : PT X e t
  s : TSd K t T
structure DA (K : PySem.W.Frag) (X : Cx) (es : List Expr) (t : TA) (T : DTA) : Prop where
  p : PA X es t
  s : AS K t T
structure DSt (K : PySem.W.Frag) (X : Cx) (st : Stmt) (t : TS) (T : DTS) : Prop where
  p : PS X st t
  s : SS K t T
structure DSs (K : PySem.W.Frag) (X : Cx) (st : List Stmt) (t : TS) (T : DTS) : Prop where
  p : PSs X st t
  s : SS K t T
theorem EndsOk.tr {F : Fx} {A A1 : Own} {σ : St} {H H1 : Hp} {ρ : DS} {D : Ends} {E : DEnds} (h : EndsOk F A H D E) (R : Rep F A1 σ H1 ρ) (t : Tr F A H A1 H1) : EndsOk F A1 H1 D E :=
  ⟨fun ρ' σ' H' A' e R' t' => h.1 ρ' σ' H' A' e R' (t.trans t'), fun r ρ' v σ' H' A' e R' t' w => h.2.1 r ρ' v σ' H' A' e R' (t.trans t') (w.back t.trk),
    fun ρ' σ' H' A' e R' t' => h.2.2.1 ρ' σ' H' A' e R' (t.trans t'), fun ρ' σ' H' A' e R' t' => h.2.2.2 ρ' σ' H' A' e R' (t.trans t')⟩

/-! ### names and constants -/
def rdv (i : Nat) : SV → SV
  | .dat d => .dat d
  | .own _ => .orf i
  | .orf j => .orf j
  | .dk => .dk
  | .scr ns => .scr ns
  | .dct _ => .orf i
def dVar (i : Nat) : DTE := fun ρ QD => ∃ sv, ρ[i]? = some (some sv) ∧ QD (rdv i sv) ρ
def dC (d : PyData) : DTE := fun ρ QD => QD (.dat d) ρ
section
variable {K : PySem.W.Frag} {X : Cx} {a b c e : Expr} {Ta Tb Tc : DTE} {ta tb tc : TE} {pos : Pos}
theorem es_var {i : Nat} : ES K (tVar i) (dVar i) := by
  intro F A σ H ρ Q QD hK R h k
  obtain ⟨sv, e, h⟩ := h
  obtain ⟨v, e1, s⟩ := R.slot i sv e
  refine ⟨v, e1, k _ _ v H A h R .refl ?_⟩
  cases sv with
  | dat d => exact s
  | own xs => exact e1
  | orf j => exact s.elim
  | dk => exact s
  | scr ns => exact s
  | dct kvs => exact e1
theorem de_var (i : Nat) {x : Str} (hN : X.N[i]? = some x := by rfl) (hv : Vis X.env.scope x := by first | exact Or.inl rfl | exact Or.inr (Or.inl rfl) | exact Or.inr (Or.inr rfl)) (hd : (x == ("__debug__" : Str)) = false := by decide)
    (hcd : (x == ("__classdict__" : Str)) = false := by decide) : DE K X (.Name x pos) (tVar i) (dVar i) := ⟨pe_var hN hv hd hcd, es_var⟩
theorem es_c {v : V} {d : PyData} (h : ∀ (Av : Addr → Prop) (H : Hp), Da K Av H d v) : ES K (tC v) (dC d) := by
  intro F A σ H ρ Q QD hK R q k
  subst hK
  exact k _ _ v H A q R .refl (h _ _)
theorem de_int {i j} : DE K X (.Constant (.int i) j pos) (tC (.int i)) (dC (.int i)) := ⟨pe_int, es_c fun _ _ => by simp only [Da]⟩
theorem de_bl {i j} : DE K X (.Constant (.bool i) j pos) (tC (.bl i)) (dC (.bool i)) := ⟨pe_bl, es_c fun _ _ => by simp only [Da]⟩
theorem de_non {j} : DE K X (.Constant .none j pos) (tC .non) (dC .none) := ⟨pe_non, es_c fun _ _ => by simp only [Da]⟩
theorem de_str {i j} : DE K X (.Constant (.str i) j pos) (tC (.str i)) (dC (.str i)) := ⟨pe_str, es_c fun _ _ => by simp only [Da]⟩
/-- a constant of the module -/
theorem de_glob {x : Str} {v : V} {u : Value} {d : PyData} (hg : Gl X x) (hm : X.mg x = some u) (r : RelV v u) (h : ∀ (Av : Addr → Prop) (H : Hp), Da K Av H d v) (hd : (x == ("__debug__" : Str)) = false := by decide) : DE K X (.Name x pos) (tC v) (dC d) :=
  ⟨pe_glob hg hm r hd, es_c h⟩

/-! ### two expressions and what becomes of them -/
abbrev G2 := PyData → PyData → (SV → Prop) → Prop
def OpD (K : PySem.W.Frag) (r : R2) (g : G2) : Prop := ∀ (Av : Addr → Prop) (H : Hp) (x y : V) (d e : PyData) (Q : VK) (G : SV → Prop), (∀ b, Av b → H b = none ∨ Mut (H b)) → DaT K Av H d x → DaT K Av H e y → g d e G →
  (∀ v H' sv, G sv → Same H H' → Res K Av H H' v sv → Q v H') → r x y H Q
def dBin (g : G2) (Ta Tb : DTE) : DTE := fun ρ QD => Ta ρ fun r1 ρ1 => Tb ρ1 fun r2 ρ2 => ∃ d e, lookD ρ2 r1 = some d ∧ lookD ρ2 r2 = some e ∧ g d e fun sv => QD sv ρ2
theorem es_op {r : R2} {g : G2} (og : OpD K r g) (ha : ES K ta Ta) (hb : ES K tb Tb) : ES K (tOp r ta tb) (dBin g Ta Tb) := by
  intro F A σ H ρ Q QD hK R h k
  refine ha F A σ H ρ _ _ hK R h fun r1 ρ1 v1 H1 A1 h1 R1 t1 w1 => ?_
  refine hb F A1 σ H1 ρ1 _ _ hK R1 h1 fun r2 ρ2 v2 H2 A2 h2 R2 t2 w2 => ?_
  obtain ⟨d, e, e1, e2, h2⟩ := h2
  subst hK
  refine og (AvC F A2) H2 v1 v2 d e _ _ R2.mu' (R2.look (R1.rw t2 w1.rw) e1) (R2.look w2.rw e2) h2 fun v H' sv hs s w => ?_
  exact k _ _ v H' A2 hs (R2.same s) (t1.trans (t2.trans (sameTr s))) ((R2.res s w).back fun b h => t1.trk b (t2.trk b h))
theorem de_bin {op : Operator} {r : R2} {g : G2} (ho : OpR X (binaryOp op) r) (og : OpD K r g) (ha : DE K X a ta Ta) (hb : DE K X b tb Tb) : DE K X (.BinOp a op b pos) (tOp r ta tb) (dBin g Ta Tb) := by
  obtain ⟨pa, sa⟩ := ha
  obtain ⟨pb, sb⟩ := hb
  exact ⟨pe_op ho pa pb, es_op og sa sb⟩
theorem de_cmp {op : CmpOp} {r : R2} {g : G2} (ho : OpR X (compareOp op) r) (og : OpD K r g) (ha : DE K X a ta Ta) (hb : DE K X b tb Tb) (hm : behindInMarks op b = false) : DE K X (.Compare a [op] [b] pos) (tOp r ta tb) (dBin g Ta Tb) := by
  obtain ⟨pa, sa⟩ := ha
  obtain ⟨pb, sb⟩ := hb
  exact ⟨pe_cmpR ho pa pb hm, es_op og sa sb⟩
/-- a value as a test: a bool -/
def dTst (T : DTE) : DTT := fun ρ QB => T ρ fun r ρ1 => ∃ b, r = .dat (.bool b) ∧ QB b ρ1
theorem ts_tst {t : TE} {T : DTE} (h : ES K t T) : TSd K (tTest t) (dTst T) := by
  intro F A σ H ρ Q QD hK R q k
  refine h F A σ H ρ _ _ hK R q fun r ρ1 v H1 A1 h1 R1 t1 w1 => ?_
  obtain ⟨b, e, h1⟩ := h1
  subst e
  have e : v = .bl b := by have : Da F.K (AvC F A1) H1 (.bool b) v := w1; simpa only [Da] using this
  exact ⟨b, e, k _ _ _ _ h1 R1 t1⟩
theorem dt_cmp {op : CmpOp} {r : R2} {g : G2} (ho : OpR X (compareOp op) r) (og : OpD K r g) (ha : DE K X a ta Ta) (hb : DE K X b tb Tb) (hm : behindInMarks op b = false) : DT K X (.Compare a [op] [b] pos) (tTest (tOp r ta tb)) (dTst (dBin g Ta Tb)) := by
  obtain ⟨pa, sa⟩ := ha
  obtain ⟨pb, sb⟩ := hb
  exact ⟨pt_cmpR ho pa pb hm, ts_tst (es_op og sa sb)⟩
/-- a < b < c -/
def dChain (g g' : G2) (Ta Tb Tc : DTE) : DTE := fun ρ QD => Ta ρ fun r1 ρ1 => Tb ρ1 fun r2 ρ2 => ∃ d e, lookD ρ2 r1 = some d ∧ lookD ρ2 r2 = some e ∧ g d e fun sv => ∃ k, sv = .dat (.bool k) ∧
  if k = true then Tc ρ2 fun r3 ρ3 => ∃ e' f, lookD ρ3 r2 = some e' ∧ lookD ρ3 r3 = some f ∧ g' e' f fun sv => QD sv ρ3 else QD (.dat (.bool false)) ρ2
theorem es_chain {r r' : R2} {g g' : G2} (og : OpD K r g) (og' : OpD K r' g') (ha : ES K ta Ta) (hb : ES K tb Tb) (hc : ES K tc Tc) : ES K (tChain r r' ta tb tc) (dChain g g' Ta Tb Tc) := by
  intro F A σ H ρ Q QD hK R h k
  refine ha F A σ H ρ _ _ hK R h fun r1 ρ1 v1 H1 A1 h1 R1 t1 w1 => ?_
  refine hb F A1 σ H1 ρ1 _ _ hK R1 h1 fun r2 ρ2 v2 H2 A2 h2 R2 t2 w2 => ?_
  obtain ⟨d, e, e1, e2, h2⟩ := h2
  subst hK
  refine og (AvC F A2) H2 v1 v2 d e _ _ R2.mu' (R2.look (R1.rw t2 w1.rw) e1) (R2.look w2.rw e2) h2 fun v H' sv hs s w => ?_
  obtain ⟨b, eb, hs⟩ := hs
  subst eb
  have ev : v = .bl b := by have : Da F.K (AvC F A2) H' (.bool b) v := w; simpa only [Da] using this
  refine ⟨b, ev, ?_⟩
  have R3 := R2.same s
  have t3 : Tr F A H A2 H' := t1.trans (t2.trans (sameTr s))
  cases b with
  | false => exact k _ _ _ H' A2 hs R3 t3 (by show Da _ _ _ _ _; simp only [Da])
  | true =>
    refine hc F A2 σ H' ρ2 _ _ rfl R3 hs fun r3 ρ3 v3 H3 A3 h3 R4 t4 w4 => ?_
    obtain ⟨e', f, e3, e4, h3⟩ := h3
    refine og' (AvC F A3) H3 v2 v3 e' f _ _ R4.mu' (R4.look (R3.rw t4 (R2.rw (sameTr s) w2.rw)) e3) (R4.look w4.rw e4) h3 fun v' H4 sv' hs' s' w' => ?_
    exact k _ _ v' H4 A3 hs' (R4.same s') (t3.trans (t4.trans (sameTr s'))) ((R4.res s' w').back fun b h => t3.trk b (t4.trk b h))
theorem de_chain {op op' : CmpOp} {r r' : R2} {g g' : G2} (ho : OpR X (compareOp op) r) (og : OpD K r g) (ho' : OpR X (compareOp op') r') (og' : OpD K r' g') (ha : DE K X a ta Ta) (hb : DE K X b tb Tb) (hc : DE K X c tc Tc)
    (hm : lastMarks [op, op'] [b, c] = false := by with_unfolding_all rfl) : DE K X (.Compare a [op, op'] [b, c] pos) (tChain r r' ta tb tc) (dChain g g' Ta Tb Tc) := by
  obtain ⟨pa, sa⟩ := ha
  obtain ⟨pb, sb⟩ := hb
  obtain ⟨pc, sc⟩ := hc
  exact ⟨pe_chain ho ho' pa pb pc hm, es_chain og og' sa sb sc⟩
theorem dt_chain {op op' : CmpOp} {r r' : R2} {g g' : G2} (ho : OpR X (compareOp op) r) (og : OpD K r g) (ho' : OpR X (compareOp op') r') (og' : OpD K r' g') (ha : DE K X a ta Ta) (hb : DE K X b tb Tb) (hc : DE K X c tc Tc)
    (hm : lastMarks [op, op'] [b, c] = false := by with_unfolding_all rfl) : DT K X (.Compare a [op, op'] [b, c] pos) (tTest (tChain r r' ta tb tc)) (dTst (dChain g g' Ta Tb Tc)) := by
  obtain ⟨pa, sa⟩ := ha
  obtain ⟨pb, sb⟩ := hb
  obtain ⟨pc, sc⟩ := hc
  exact ⟨pt_chain ho ho' pa pb pc hm, ts_tst (es_chain og og' sa sb sc)⟩

/-! ### truth, and, or, not -/
def trOk : PyData → Prop
  | .str y => y.length ≤ sizeLine
  | _ => True
def truD : PyData → Bool
  | .none => false
  | .bool b => b
  | .int i => i != 0
  | .str y => (y.length : Int) != 0
  | .list xs => !xs.isEmpty
  | .tuple xs => !xs.isEmpty
  | .dict kvs => !kvs.isEmpty
theorem isEmpty_das {K : PySem.W.Frag} {Av : Addr → Prop} {H : Hp} {ds : List PyData} {xs : List V} (h : Das K Av H ds xs) : ds.isEmpty = xs.isEmpty := by
  have := h.length
  cases ds <;> cases xs <;> simp at this ⊢
theorem tru_da {K : PySem.W.Frag} {Av : Addr → Prop} {H : Hp} {d : PyData} {v : V} (h : DaT K Av H d v) (ok : trOk d) : TruV K v H (truD d) := by
  cases d with
  | none => have e : v = .non := by have : Da K Av H .none v := h; simpa only [Da] using this
            subst e; exact rfl
  | bool b => have e : v = .bl b := by have : Da K Av H (.bool b) v := h; simpa only [Da] using this
              subst e; exact rfl
  | int b => have e : v = .int b := by have : Da K Av H (.int b) v := h; simpa only [Da] using this
             subst e; exact rfl
  | str b => have e : v = .str b := by have : Da K Av H (.str b) v := h; simpa only [Da] using this
             subst e; exact ⟨ok, rfl⟩
  | list ds =>
    obtain ⟨a, xs, e, q, r⟩ := h
    subst e
    exact .inl ⟨xs, SqL.of q, by simp only [truD]; rw [isEmpty_das r]⟩
  | tuple ds =>
    have h' : Da K Av H (.tuple ds) v := h
    simp only [Da] at h'
    obtain ⟨a, xs, e, q, r⟩ := h'
    subst e
    exact .inr (.inl ⟨xs, q.t, by simp only [truD]; rw [isEmpty_das r]⟩)
  | dict kvs =>
    have h' : Da K Av H (.dict kvs) v := h
    simp only [Da] at h'
    obtain ⟨a, e, _, q, r⟩ := h'
    subst e; subst r
    exact .inr (.inr ⟨[], q, rfl⟩)
def dTru (T : DTE) : DTT := fun ρ QB => T ρ fun r ρ1 => ∃ d, lookD ρ1 r = some d ∧ trOk d ∧ QB (truD d) ρ1
def tTru (K : PySem.W.Frag) (ta : TE) : TT := fun σ H Q => ta σ H fun x H' => ∃ k, TruV K x H' k ∧ Q k H'
theorem dt_val (ha : DE K X a ta Ta) (hK : X.K = K := by rfl) (he : ∀ whole, isTrue a X.env whole = (do let v ← whole; standAt a.pos; holding [v] (truthy v)) := by intro _; rfl) : DT K X a (tTru K ta) (dTru Ta) := by
  obtain ⟨pa, sa⟩ := ha
  subst hK
  refine ⟨pt_truth pa he, ?_⟩
  intro F A σ H ρ Q QD hK R q k
  refine sa F A σ H ρ _ _ hK R q fun r ρ1 v H1 A1 h1 R1 t1 w1 => ?_
  obtain ⟨d, e, ok, h1⟩ := h1
  exact ⟨truD d, hK ▸ tru_da (R1.look w1.rw e) ok, k _ _ _ _ h1 R1 t1⟩
variable {tA tB tC : DTT} {uA uB uC : TT} {rest : List Expr}
def dAnd (t u : DTT) : DTT := fun ρ Q => t ρ fun c ρ1 => if c = true then u ρ1 Q else Q false ρ1
def dOr (t u : DTT) : DTT := fun ρ Q => t ρ fun c ρ1 => if c = true then Q true ρ1 else u ρ1 Q
def dNot (t : DTT) : DTT := fun ρ Q => t ρ fun c ρ1 => Q (!c) ρ1
structure DW (K : PySem.W.Frag) (X : Cx) (e : Expr) (t : TT) (T : DTT) : Prop where
  p : PW X e t
  s : TSd K t T
theorem dw_and1 (ha : DT K X a uA tA) : DW K X (.BoolOp .And [a] pos) uA tA := ⟨pw_and1 ha.p, ha.s⟩
theorem dw_or1 (ha : DT K X a uA tA) : DW K X (.BoolOp .Or [a] pos) uA tA := ⟨pw_or1 ha.p, ha.s⟩
theorem dw_and (ha : DT K X a uA tA) (hb : DW K X (.BoolOp .And (b :: rest) pos) uB tB) : DW K X (.BoolOp .And (a :: b :: rest) pos) (tAnd uA uB) (dAnd tA tB) := by
  obtain ⟨p, s⟩ := ha
  obtain ⟨p', s'⟩ := hb
  refine ⟨pw_and p p', ?_⟩
  intro F A σ H ρ Q QD hK R q k
  refine s F A σ H ρ _ _ hK R q fun c ρ1 H1 A1 h1 R1 t1 => ?_
  cases c with
  | true => exact s' F A1 σ H1 ρ1 _ _ hK R1 h1 fun c' ρ2 H2 A2 h2 R2 t2 => k _ _ _ _ h2 R2 (t1.trans t2)
  | false => exact k _ _ _ _ h1 R1 t1
theorem dw_or (ha : DT K X a uA tA) (hb : DW K X (.BoolOp .Or (b :: rest) pos) uB tB) : DW K X (.BoolOp .Or (a :: b :: rest) pos) (tOr uA uB) (dOr tA tB) := by
  obtain ⟨p, s⟩ := ha
  obtain ⟨p', s'⟩ := hb
  refine ⟨pw_or p p', ?_⟩
  intro F A σ H ρ Q QD hK R q k
  refine s F A σ H ρ _ _ hK R q fun c ρ1 H1 A1 h1 R1 t1 => ?_
  cases c with
  | true => exact k _ _ _ _ h1 R1 t1
  | false => exact s' F A1 σ H1 ρ1 _ _ hK R1 h1 fun c' ρ2 H2 A2 h2 R2 t2 => k _ _ _ _ h2 R2 (t1.trans t2)
theorem dt_w (h : DW K X e uA tA) : DT K X e uA tA := ⟨h.p.pt, h.s⟩
theorem dt_not (ha : DT K X a uA tA) : DT K X (.UnaryOp .Not a pos) (tNot uA) (dNot tA) := by
  obtain ⟨p, s⟩ := ha
  refine ⟨pt_not p, ?_⟩
  intro F A σ H ρ Q QD hK R q k
  exact s F A σ H ρ _ _ hK R q fun c ρ1 H1 A1 h1 R1 t1 => k _ _ _ _ h1 R1 t1
/-- as values -/
theorem de_one {op} (ha : DE K X a ta Ta) : DE K X (.BoolOp op [a] pos) ta Ta := ⟨pe_one ha.p, ha.s⟩
def dOrV (Ta Tb : DTE) : DTE := fun ρ QD => Ta ρ fun r ρ1 => ∃ d, lookD ρ1 r = some d ∧ trOk d ∧ if truD d = true then QD r ρ1 else Tb ρ1 QD
def dAndV (Ta Tb : DTE) : DTE := fun ρ QD => Ta ρ fun r ρ1 => ∃ d, lookD ρ1 r = some d ∧ trOk d ∧ if truD d = true then Tb ρ1 QD else QD r ρ1
theorem de_or (ha : DE K X a ta Ta) (hb : DE K X (.BoolOp .Or (b :: rest) pos) tb Tb) (hK : X.K = K := by rfl) : DE K X (.BoolOp .Or (a :: b :: rest) pos) (tOrT K ta tb) (dOrV Ta Tb) := by
  obtain ⟨p, s⟩ := ha
  obtain ⟨p', s'⟩ := hb
  subst hK
  refine ⟨pe_orT p p', ?_⟩
  intro F A σ H ρ Q QD hK R q k
  refine s F A σ H ρ _ _ hK R q fun r ρ1 v H1 A1 h1 R1 t1 w1 => ?_
  obtain ⟨d, e, ok, h1⟩ := h1
  refine ⟨truD d, hK ▸ tru_da (R1.look w1.rw e) ok, ?_⟩
  cases hd : truD d with
  | true => rw [if_pos hd] at h1; rw [if_pos rfl]; exact k _ _ _ _ _ h1 R1 t1 w1
  | false =>
    rw [if_neg (by rw [hd]; decide)] at h1; rw [if_neg (by decide)]
    exact s' F A1 σ H1 ρ1 _ _ hK R1 h1 fun r' ρ2 v' H2 A2 h2 R2 t2 w2 => k _ _ _ _ _ h2 R2 (t1.trans t2) (w2.back t1.trk)
theorem de_and (ha : DE K X a ta Ta) (hb : DE K X (.BoolOp .And (b :: rest) pos) tb Tb) (hK : X.K = K := by rfl) : DE K X (.BoolOp .And (a :: b :: rest) pos) (tAndT K ta tb) (dAndV Ta Tb) := by
  obtain ⟨p, s⟩ := ha
  obtain ⟨p', s'⟩ := hb
  subst hK
  refine ⟨pe_andT p p', ?_⟩
  intro F A σ H ρ Q QD hK R q k
  refine s F A σ H ρ _ _ hK R q fun r ρ1 v H1 A1 h1 R1 t1 w1 => ?_
  obtain ⟨d, e, ok, h1⟩ := h1
  refine ⟨truD d, hK ▸ tru_da (R1.look w1.rw e) ok, ?_⟩
  cases hd : truD d with
  | false => rw [if_neg (by rw [hd]; decide)] at h1; rw [if_neg (by decide)]; exact k _ _ _ _ _ h1 R1 t1 w1
  | true =>
    rw [if_pos hd] at h1; rw [if_pos rfl]
    exact s' F A1 σ H1 ρ1 _ _ hK R1 h1 fun r' ρ2 v' H2 A2 h2 R2 t2 w2 => k _ _ _ _ _ h2 R2 (t1.trans t2) (w2.back t1.trk)
def dNotV (Ta : DTE) : DTE := fun ρ QD => Ta ρ fun r ρ1 => ∃ d, lookD ρ1 r = some d ∧ trOk d ∧ QD (.dat (.bool (!truD d))) ρ1
theorem de_not (ha : DE K X a ta Ta) (hK : X.K = K := by rfl) : DE K X (.UnaryOp .Not a pos) (tNotT K ta) (dNotV Ta) := by
  obtain ⟨p, s⟩ := ha
  subst hK
  refine ⟨pe_notT p, ?_⟩
  intro F A σ H ρ Q QD hK R q k
  refine s F A σ H ρ _ _ hK R q fun r ρ1 v H1 A1 h1 R1 t1 w1 => ?_
  obtain ⟨d, e, ok, h1⟩ := h1
  exact ⟨truD d, hK ▸ tru_da (R1.look w1.rw e) ok, k _ _ _ _ _ h1 R1 t1 (by show Da _ _ _ _ _; simp only [Da])⟩
def dIf (t : DTT) (Ta Tb : DTE) : DTE := fun ρ QD => t ρ fun c ρ1 => if c = true then Ta ρ1 QD else Tb ρ1 QD
theorem de_if (hc : DT K X c uC tC) (ha : DE K X a ta Ta) (hb : DE K X b tb Tb) : DE K X (.IfExp c a b pos) (tIf uC ta tb) (dIf tC Ta Tb) := by
  obtain ⟨p, s⟩ := hc
  obtain ⟨pa, sa⟩ := ha
  obtain ⟨pb, sb⟩ := hb
  refine ⟨pe_ifExp p pa pb, ?_⟩
  intro F A σ H ρ Q QD hK R q k
  refine s F A σ H ρ _ _ hK R q fun c ρ1 H1 A1 h1 R1 t1 => ?_
  cases c with
  | true => exact sa F A1 σ H1 ρ1 _ _ hK R1 h1 fun r' ρ2 v' H2 A2 h2 R2 t2 w2 => k _ _ _ _ _ h2 R2 (t1.trans t2) (w2.back t1.trk)
  | false => exact sb F A1 σ H1 ρ1 _ _ hK R1 h1 fun r' ρ2 v' H2 A2 h2 R2 t2 w2 => k _ _ _ _ _ h2 R2 (t1.trans t2) (w2.back t1.trk)
end
end DL
namespace DL
open PySem L2

/-! ### freezing: what leaves its name is written no more -/
def frz1 (ρ : DS) : SV → Option (SV × DS)
  | .dat d => some (.dat d, ρ)
  | .own xs => some (.dat (.list xs), ρ)
  | .dk => some (.dk, ρ)
  | .scr _ => none
  | .dct _ => none
  | .orf i => match ρ[i]? with
    | some (some (.own xs)) => some (.dat (.list xs), ρ.set i (some (.dat (.list xs))))
    | some (some (.dat d)) => some (.dat d, ρ)
    | _ => none
def sto1 (ρ : DS) : SV → Option (SV × DS)
  | .own xs => some (.own xs, ρ)
  | r => frz1 ρ r
def frzAll : DS → List SV → Option (List SV × DS)
  | ρ, [] => some ([], ρ)
  | ρ, r :: rs => (frz1 ρ r).bind fun p => (frzAll p.2 rs).bind fun q => some (p.1 :: q.1, q.2)
def datas : List SV → Option (List PyData)
  | [] => some []
  | .dat d :: rs => (datas rs).bind fun ds => some (d :: ds)
  | _ :: _ => none
def looks (ρ : DS) : List SV → Option (List PyData)
  | [] => some []
  | r :: rs => (lookD ρ r).bind fun d => (looks ρ rs).bind fun ds => some (d :: ds)
inductive DasT (K : PySem.W.Frag) (Av : Addr → Prop) (H : Hp) : List PyData → List V → Prop
  | nil : DasT K Av H [] []
  | cons {d v ds vs} : DaT K Av H d v → DasT K Av H ds vs → DasT K Av H (d :: ds) (v :: vs)
section
variable {F : Fx} {A A' A2 : Own} {σ σ' : St} {H H' H2 : Hp} {ρ ρ' : DS} {v : V} {r sv : SV} {d : PyData}
theorem RWs.tr (R : Rep F A σ H ρ) (t : Tr F A H A' H') : ∀ {vs : List V} {rs : List SV}, RWs F A σ H vs rs → RWs F A' σ H' vs rs
  | _, _, .nil => .nil
  | _, _, .cons h t' => .cons (R.rw t h) (RWs.tr R t t')
theorem Rep.looks (R : Rep F A σ H ρ) : ∀ {vs : List V} {rs : List SV} {ds : List PyData}, RWs F A σ H vs rs → looks ρ rs = some ds → DasT F.K (AvC F A) H ds vs
  | _, _, ds, .nil, e => by
    have e' : ds = [] := (Option.some.inj e).symm
    subst e'
    exact .nil
  | _, _, ds, .cons (r := r) (rs := rs) h t, e => by
    cases e1 : lookD ρ r with
    | none => simp [DL.looks, e1] at e
    | some d =>
      cases e2 : DL.looks ρ rs with
      | none => simp [DL.looks, e1, e2] at e
      | some es =>
        have e' : d :: es = ds := by simpa [DL.looks, e1, e2] using e
        subst e'
        exact .cons (R.look h e1) (Rep.looks R t e2)
def delA (A : Own) (i : Nat) : Own := fun j => if j = i then none else A j
def setA (A : Own) (i : Nat) (a : Addr) : Own := fun j => if j = i then some a else A j
theorem delA_av {i : Nat} {b : Addr} (h : AvC F (delA A i) b) : AvC F A b := by
  rcases h with h | ⟨j, h⟩
  · exact .inl h
  · refine .inr ⟨j, ?_⟩
    unfold delA at h
    split at h
    · cases h
    · exact h
theorem delA_tr {i : Nat} : Tr F A H (delA A i) H := ⟨fun b o h _ => h, fun j b h => by
  refine .inl ⟨j, ?_⟩
  unfold delA at h
  split at h
  · cases h
  · exact h, fun _ h => h⟩
/-- a name takes data (an own list of it is dropped) -/
theorem Rep.setDat (R : Rep F A σ H ρ) {i : Nat} (hi : i < ρ.length) (h : Da F.K (AvC F A) H d v) : Rep F (delA A i) (σ.set i (some v)) H (ρ.set i (some (.dat d))) := by
  have hi' : i < σ.length := by rw [← R.len]; exact hi
  refine ⟨by simpa using R.len, fun j sv e => ?_, fun j a e => ?_, fun j k a e1 e2 => ?_, fun j a e => ?_, fun b z => R.mu b (delA_av z), R.keep, R.dav, R.deck⟩
  · by_cases hj : j = i
    · subst hj
      rw [List.getElem?_set_self hi] at e
      have e' : sv = .dat d := by simpa using e.symm
      subst e'
      exact ⟨v, by rw [List.getElem?_set_self hi'], h.anti fun b z => delA_av z⟩
    · rw [List.getElem?_set_ne (Ne.symm hj)] at e
      obtain ⟨w, e1, s⟩ := R.slot j sv e
      refine ⟨w, by rw [List.getElem?_set_ne (Ne.symm hj)]; exact e1, ?_⟩
      cases sv with
      | dat d => exact Da.anti (fun b z => delA_av z) s
      | own xs =>
        obtain ⟨a, vs, q1, q2, q3, q4⟩ := s
        exact ⟨a, vs, by unfold delA; rw [if_neg hj]; exact q1, q2, q3, q4.anti fun b z => delA_av z⟩
      | orf k => exact s
      | dk => exact s
      | scr ns => exact s
      | dct kvs =>
        obtain ⟨a, q1, q2, q3⟩ := s
        exact ⟨a, by unfold delA; rw [if_neg hj]; exact q1, q2, q3⟩
  · unfold delA at e
    split at e
    · cases e
    · rename_i hj
      obtain ⟨xs, q, hq⟩ := R.ownA j a e
      exact ⟨xs, by rw [List.getElem?_set_ne (Ne.symm hj)]; exact q, hq⟩
  · unfold delA at e1 e2
    split at e1
    · cases e1
    · split at e2
      · cases e2
      · exact R.inj j k a e1 e2
  · unfold delA at e
    split at e
    · cases e
    · exact R.fresh j a e
theorem Rep.setDk (R : Rep F A σ H ρ) {i : Nat} (hi : i < ρ.length) (h : ∃ a l, F.dk = some (a, l) ∧ v = .ref a) : Rep F (delA A i) (σ.set i (some v)) H (ρ.set i (some .dk)) := by
  have R' := R.setDat (v := .non) (d := .none) hi (by simp only [Da])
  have hi' : i < σ.length := by rw [← R.len]; exact hi
  refine ⟨by simpa using R.len, fun j sv e => ?_, fun j a e => ?_, R'.inj, R'.fresh, R'.mu, R'.keep, R'.dav, R'.deck⟩
  · by_cases hj : j = i
    · subst hj
      rw [List.getElem?_set_self hi] at e
      have e' : sv = .dk := by simpa using e.symm
      subst e'
      exact ⟨v, by rw [List.getElem?_set_self hi'], h⟩
    · rw [List.getElem?_set_ne (Ne.symm hj)] at e
      obtain ⟨w, e1, s⟩ := R'.slot j sv (by rw [List.getElem?_set_ne (Ne.symm hj)]; exact e)
      rw [List.getElem?_set_ne (Ne.symm hj)] at e1
      exact ⟨w, by rw [List.getElem?_set_ne (Ne.symm hj)]; exact e1, s⟩
  · by_cases hj : j = i
    · subst hj; unfold delA at e; rw [if_pos rfl] at e; cases e
    · obtain ⟨xs, q, hq⟩ := R'.ownA j a e
      rw [List.getElem?_set_ne (Ne.symm hj)] at q
      exact ⟨xs, by rw [List.getElem?_set_ne (Ne.symm hj)]; exact q, hq⟩
/-- a name takes a new list of its own -/
theorem Rep.setOwn {xs : List PyData} {a : Addr} {vs : List V} (dv : ∀ b, isDk F.dk b → F.Av b) (R : Rep (F.plus a) A σ H ρ) {i : Nat} (hi : i < ρ.length) (h0 : F.H0 a = none) (na : ¬ AvC F A a) (q : H a = some (.lst vs)) (h : Das F.K (AvC (F.plus a) A) H xs vs) :
    Rep F (setA A i a) (σ.set i (some (.ref a))) H (ρ.set i (some (.own xs))) := by
  have hi' : i < σ.length := by rw [← R.len]; exact hi
  have av : ∀ b, AvC F (setA A i a) b → AvC (F.plus a) A b := fun b z => by
    rcases z with z | ⟨j, z⟩
    · exact .inl (.inl z)
    · unfold setA at z
      split at z
      · exact .inl (.inr (Option.some.inj z).symm)
      · exact .inr ⟨j, z⟩
  refine ⟨by simpa using R.len, fun j sv e => ?_, fun j b e => ?_, fun j k b e1 e2 => ?_, fun j b e => ?_, fun b z => R.mu b (av b z), R.keep, fun b k => ?_, R.deck⟩
  · by_cases hj : j = i
    · subst hj
      rw [List.getElem?_set_self hi] at e
      have e' : sv = .own xs := by simpa using e.symm
      subst e'
      exact ⟨.ref a, by rw [List.getElem?_set_self hi'], a, vs, by unfold setA; rw [if_pos rfl], rfl, q, h.anti av⟩
    · rw [List.getElem?_set_ne (Ne.symm hj)] at e
      obtain ⟨w, e1, s⟩ := R.slot j sv e
      refine ⟨w, by rw [List.getElem?_set_ne (Ne.symm hj)]; exact e1, ?_⟩
      cases sv with
      | dat d => exact Da.anti av s
      | own ys =>
        obtain ⟨b, ws, q1, q2, q3, q4⟩ := s
        exact ⟨b, ws, by unfold setA; rw [if_neg hj]; exact q1, q2, q3, q4.anti av⟩
      | orf k => exact s
      | dk => exact s
      | scr ns => exact s
      | dct kvs =>
        obtain ⟨b, q1, q2, q3⟩ := s
        exact ⟨b, by unfold setA; rw [if_neg hj]; exact q1, q2, q3⟩
  · unfold setA at e
    split at e
    · rename_i hj
      subst hj
      exact ⟨.own _, by rw [List.getElem?_set_self hi], trivial⟩
    · rename_i hj
      obtain ⟨ys, z, hz⟩ := R.ownA j b e
      exact ⟨ys, by rw [List.getElem?_set_ne (Ne.symm hj)]; exact z, hz⟩
  · unfold setA at e1 e2
    split at e1 <;> split at e2
    · rename_i h1 h2; rw [h1, h2]
    · exact absurd (.inr ⟨k, by rw [e2]; exact e1.symm⟩) na
    · exact absurd (.inr ⟨j, by rw [e1]; exact e2.symm⟩) na
    · exact R.inj j k b e1 e2
  · unfold setA at e
    split at e
    · have e' : a = b := Option.some.inj e
      subst e'
      exact ⟨h0, fun z => na (.inl z)⟩
    · exact ⟨(R.fresh j b e).1, fun z => (R.fresh j b e).2 (.inl z)⟩
  · exact dv b k

/-- what leaves its name is data from then on -/
theorem Rep.frz1 (R : Rep F A σ H ρ) (w : RW F A σ H v r) (e : frz1 ρ r = some (sv, ρ')) : ∃ A', Rep F A' σ H ρ' ∧ Tr F A H A' H ∧ RW F A' σ H v sv ∧ ((∃ d, sv = .dat d) ∨ sv = .dk) := by
  cases r with
  | dat d =>
    have e' : SV.dat d = sv ∧ ρ = ρ' := by simpa [DL.frz1] using e
    obtain ⟨rfl, rfl⟩ := e'
    exact ⟨A, R, .refl, w, .inl ⟨d, rfl⟩⟩
  | own xs =>
    have e' : SV.dat (.list xs) = sv ∧ ρ = ρ' := by simpa [DL.frz1] using e
    obtain ⟨rfl, rfl⟩ := e'
    exact ⟨A, R, .refl, w, .inl ⟨_, rfl⟩⟩
  | dk =>
    have e' : SV.dk = sv ∧ ρ = ρ' := by simpa [DL.frz1] using e
    obtain ⟨rfl, rfl⟩ := e'
    exact ⟨A, R, .refl, w, .inr rfl⟩
  | scr ns => simp [DL.frz1] at e
  | dct kvs => simp [DL.frz1] at e
  | orf i =>
    have hv : σ[i]? = some (some v) := w
    cases q : ρ[i]? with
    | none => simp [DL.frz1, q] at e
    | some o =>
      cases o with
      | none => simp [DL.frz1, q] at e
      | some s0 =>
        obtain ⟨v', e1, s⟩ := R.slot i s0 q
        rw [hv] at e1
        have ev : v = v' := by simpa using e1
        subst ev
        cases s0 with
        | dat d =>
          have e' : SV.dat d = sv ∧ ρ = ρ' := by simpa [DL.frz1, q] using e
          obtain ⟨rfl, rfl⟩ := e'
          exact ⟨A, R, .refl, s, .inl ⟨d, rfl⟩⟩
        | orf j => simp [DL.frz1, q] at e
        | dk => simp [DL.frz1, q] at e
        | scr ns => simp [DL.frz1, q] at e
        | dct kvs => simp [DL.frz1, q] at e
        | own xs =>
          have e' : SV.dat (.list xs) = sv ∧ ρ.set i (some (.dat (.list xs))) = ρ' := by simpa [DL.frz1, q] using e
          obtain ⟨rfl, rfl⟩ := e'
          obtain ⟨a, vs, q1, q2, q3, q4⟩ := s
          have hi : i < ρ.length := (List.getElem?_eq_some_iff.mp q).1
          have na : ¬ AvC F (delA A i) a := by
            rintro (z | ⟨j, z⟩)
            · exact (R.fresh i a q1).2 z
            · unfold delA at z
              split at z
              · cases z
              · rename_i hj
                exact hj (R.inj j i a z q1)
          have hd : Da F.K (AvC F (delA A i)) H (.list xs) v := by
            simp only [Da]
            exact ⟨a, vs, q2, na, q3, q4.anti fun b z => delA_av z⟩
          refine ⟨delA A i, ?_, delA_tr, hd, .inl ⟨_, rfl⟩⟩
          -- first the name is none's, then it takes the list
          have R1 := R.setDat (v := .non) (d := .none) hi (by simp only [Da])
          have hdd : ∀ j, delA (delA A i) i j = delA A i j := fun j => by unfold delA; split <;> rfl
          have e0 : delA (delA A i) i = delA A i := funext hdd
          have R2 := R1.setDat (i := i) (v := v) (d := .list xs) (by simpa using hi) hd
          rw [e0, List.set_set, List.set_set] at R2
          have e3 : σ.set i (some v) = σ := by
            apply List.ext_getElem?
            intro n
            by_cases hn : n = i
            · subst hn
              rw [List.getElem?_set_self (by rw [← R.len]; exact hi), hv]
            · rw [List.getElem?_set_ne (Ne.symm hn)]
          rw [e3] at R2
          exact R2
theorem Rep.frzAll : ∀ {A : Own} {ρ ρ' : DS} {vs : List V} {rs svs : List SV}, Rep F A σ H ρ → RWs F A σ H vs rs → frzAll ρ rs = some (svs, ρ') → ∃ A', Rep F A' σ H ρ' ∧ Tr F A H A' H ∧ RWs F A' σ H vs svs ∧ ∀ sv ∈ svs, (∃ d, sv = .dat d) ∨ sv = .dk
  | A, ρ, ρ', _, _, svs, R, .nil, e => by
    have e' : [] = svs ∧ ρ = ρ' := by simpa [DL.frzAll] using e
    obtain ⟨rfl, rfl⟩ := e'
    exact ⟨A, R, .refl, .nil, fun _ h => absurd h List.not_mem_nil⟩
  | A, ρ, ρ', _, _, svs, R, .cons (v := v) (r := r) (vs := vs) (rs := rs) w t, e => by
    cases e1 : DL.frz1 ρ r with
    | none => simp [DL.frzAll, e1] at e
    | some p =>
      obtain ⟨sv, ρ1⟩ := p
      cases e2 : DL.frzAll ρ1 rs with
      | none => simp [DL.frzAll, e1, e2] at e
      | some q =>
        obtain ⟨svs', ρ2⟩ := q
        have e' : sv :: svs' = svs ∧ ρ2 = ρ' := by simpa [DL.frzAll, e1, e2] using e
        obtain ⟨rfl, rfl⟩ := e'
        obtain ⟨A1, R1, t1, w1, k1⟩ := R.frz1 w e1
        obtain ⟨A2, R2, t2, w2, k2⟩ := Rep.frzAll R1 (RWs.tr R t1 t) e2
        refine ⟨A2, R2, t1.trans t2, .cons (R1.rw t2 w1) w2, fun x h => ?_⟩
        rcases List.mem_cons.mp h with z | z
        · rw [z]; exact k1
        · exact k2 x z
theorem RWs.datas : ∀ {vs : List V} {svs : List SV} {ds : List PyData}, RWs F A σ H vs svs → datas svs = some ds → Das F.K (AvC F A) H ds vs
  | _, _, ds, .nil, e => by
    have e' : ds = [] := (Option.some.inj e).symm
    subst e'
    exact Das.nil
  | _, _, ds, .cons (r := r) (rs := rs) w t, e => by
    cases r with
    | dat d =>
      cases e2 : DL.datas rs with
      | none => simp [DL.datas, e2] at e
      | some es =>
        have e' : d :: es = ds := by simpa [DL.datas, e2] using e
        subst e'
        exact Das.cons w (RWs.datas t e2)
    | own xs => simp [DL.datas] at e
    | orf i => simp [DL.datas] at e
    | dk => simp [DL.datas] at e
    | scr ns => simp [DL.datas] at e
    | dct kvs => simp [DL.datas] at e
/-- a name takes what an expression gave -/
theorem Rep.store {Hs : Hp} {As : Own} (R : Rep F A σ H ρ) (t : Tr F As Hs A H) (w : RR F A σ Hs H ρ v r) {i : Nat} (hi : i < ρ.length) (e : sto1 ρ r = some (sv, ρ')) : ∃ A', Rep F A' (σ.set i (some v)) H (ρ'.set i (some sv)) ∧ Tr F As Hs A' H := by
  have other : DL.frz1 ρ r = some (sv, ρ') → ∃ A', Rep F A' (σ.set i (some v)) H (ρ'.set i (some sv)) ∧ Tr F As Hs A' H := fun e => by
    obtain ⟨A1, R1, t1, w1, k1⟩ := R.frz1 w.rw e
    have hi1 : i < ρ'.length := by rw [R1.len, ← R.len]; exact hi
    rcases k1 with ⟨d, rfl⟩ | rfl
    · exact ⟨_, R1.setDat hi1 w1, t.trans (t1.trans delA_tr)⟩
    · exact ⟨_, R1.setDk hi1 w1, t.trans (t1.trans delA_tr)⟩
  cases r with
  | dat d => exact other e
  | dk => exact other e
  | scr ns => exact other e
  | dct kvs => exact other e
  | orf j => exact other e
  | own xs =>
    have e' : SV.own xs = sv ∧ ρ = ρ' := by simpa [sto1] using e
    obtain ⟨rfl, rfl⟩ := e'
    obtain ⟨a, vs, rfl, n, h0, na, q, h, R2⟩ := w
    refine ⟨_, Rep.setOwn R.dav R2 hi h0 na q h, t.stp, fun j b z => ?_, t.trk⟩
    unfold setA at z
    split at z
    · exact .inr (by rw [← Option.some.inj z]; exact n)
    · exact t.nw j b z
end
end DL
namespace DL
open PySem L2

/-! ### argument lists, displays, calls of built-ins -/
section
variable {K : PySem.W.Frag} {X : Cx} {e o : Expr} {es : List Expr} {T : DTE} {t : TE} {TA TB : DTA} {ta tb : L2.TA} {pos p : Pos}
def dNil : DTA := fun ρ Q => Q [] ρ
def dCons (T : DTE) (TA : DTA) : DTA := fun ρ Q => T ρ fun r ρ1 => TA ρ1 fun rs ρ2 => Q (r :: rs) ρ2
theorem da_nil : DA K X [] tNil dNil := ⟨pa_nil, fun F A σ H ρ Q QD hK R h k => k _ _ _ H A h R .refl .nil⟩
theorem da_cons (he : DE K X e t T) (hr : DA K X es ta TA) (hs : starEach (e :: es) X.env = (false, eval e X.env) :: starEach es X.env := by rfl) : DA K X (e :: es) (tCons t ta) (dCons T TA) := by
  obtain ⟨pe, se⟩ := he
  obtain ⟨pr, sr⟩ := hr
  refine ⟨pa_cons pe pr hs, ?_⟩
  intro F A σ H ρ Q QD hK R h k
  refine se F A σ H ρ _ _ hK R h fun r ρ1 v H1 A1 h1 R1 t1 w1 => ?_
  refine sr F A1 σ H1 ρ1 _ _ hK R1 h1 fun rs ρ2 vs H2 A2 h2 R2 t2 w2 => ?_
  exact k _ _ _ H2 A2 h2 R2 (t1.trans t2) (.cons (R1.rw t2 w1.rw) w2)
/-- data frozen from an argument list -/
def dFz (TA : DTA) (Q : List PyData → DS → Prop) : DS → Prop := fun ρ => TA ρ fun rs ρ1 => ∃ svs ρ2 ds, frzAll ρ1 rs = some (svs, ρ2) ∧ datas svs = some ds ∧ Q ds ρ2
theorem fz {Q0 : List PyData → DS → Prop} {F : Fx} {A : Own} {σ : St} {H : Hp} {ρ : DS} {Q : List V → Hp → Prop} (s : AS K ta TA) (hK : F.K = K) (R : Rep F A σ H ρ) (h : dFz TA Q0 ρ)
    (k : ∀ ds ρ' vs H' A', Q0 ds ρ' → Rep F A' σ H' ρ' → Tr F A H A' H' → Das F.K (AvC F A') H' ds vs → Q vs H') : ta σ H Q := by
  refine s F A σ H ρ _ _ hK R h fun rs ρ1 vs H1 A1 h1 R1 t1 w1 => ?_
  obtain ⟨svs, ρ2, ds, e1, e2, h2⟩ := h1
  obtain ⟨A2, R2, t2, w2, _⟩ := Rep.frzAll R1 w1 e1
  exact k ds ρ2 vs H1 A2 h2 R2 (t1.trans t2) (w2.datas e2)
theorem sameUpd {H : Hp} {q : Addr} {u : HO} (n : H q = none) : Same H (upd H q u) := fun b ob h => by rw [upd_ne (ne_of_none h n)]; exact h
def dTup (TA : DTA) : DTE := fun ρ QD => dFz TA (fun ds ρ2 => ds.length ≤ sizeLine ∧ QD (.dat (.tuple ds)) ρ2) ρ
theorem de_tup {x1} (h : DA K X es ta TA) : DE K X (.Tuple es x1 pos) (tTupX ta) (dTup TA) := by
  obtain ⟨pe, se⟩ := h
  refine ⟨pe_tupX pe, ?_⟩
  intro F A σ H ρ Q QD hK R h k
  refine fz se hK R h fun ds ρ' vs H' A' h1 R1 t1 d1 => ?_
  refine ⟨by rw [← d1.length]; exact h1.1, fun q o n dn => ?_⟩
  have s : Same H' (upd H' q (.frz o (.tup vs))) := sameUpd n
  refine k _ _ _ _ A' h1.2 (R1.same s) (t1.trans (sameTr s)) ?_
  show Da _ _ _ _ _
  simp only [Da]
  exact ⟨q, vs, rfl, SqX.new dn, Das.stp R1.mu' (sameStp s) _ _ d1⟩
def dLst (TA : DTA) : DTE := fun ρ QD => dFz TA (fun ds ρ2 => ds.length ≤ sizeLine ∧ QD (.own ds) ρ2) ρ
theorem de_lst {x1} (h : DA K X es ta TA) : DE K X (.List es x1) (tLst ta) (dLst TA) := by
  obtain ⟨pe, se⟩ := h
  refine ⟨pe_lst pe, ?_⟩
  intro F A σ H ρ Q QD hK R h k
  refine fz se hK R h fun ds ρ' vs H' A' h1 R1 t1 d1 => ?_
  refine ⟨by rw [← d1.length]; exact h1.1, fun q n => ?_⟩
  have s : Same H' (upd H' q (.lst vs)) := sameUpd n
  refine k _ _ _ _ A' h1.2 (R1.same s) (t1.trans (sameTr s)) ?_
  have av : ∀ b, (fun b => AvC F A' b ∨ b = q) b → AvC F A' b ∨ H' b = none := fun b z => by
    rcases z with z | z
    · exact .inl z
    · exact .inr (by rw [z]; exact n)
  have d2 : Das F.K (fun b => AvC F A' b ∨ b = q) H' ds vs := Das.av av ds vs d1
  have d3 := Das.stp (H' := upd H' q (.lst vs)) (fun b z => by
    rcases av b z with z | z
    · exact .inr (R1.mu b z)
    · exact .inl z) (sameStp s) ds vs d2
  have rr := R1.res (v := .ref q) (r := .own ds) s ⟨q, vs, rfl, n, upd_same, d3⟩
  exact rr.back t1.trk
/-- {} -/
def dDic : DTE := fun ρ QD => QD (.dat (.dict [])) ρ
theorem de_dic : DE K X (.Dict [] [] pos) tDNewK dDic := by
  refine ⟨pe_dnewK, ?_⟩
  intro F A σ H ρ Q QD hK R h k d hd
  have s : Same H (upd H d (.dK [])) := sameUpd hd
  refine k _ _ _ _ A h (R.same s) (sameTr s) ?_
  show Da _ _ _ _ _
  simp only [Da]
  exact ⟨d, rfl, R.notin hd, upd_same, trivial⟩
abbrev G1 := List PyData → (SV → Prop) → Prop
def CalD (K : PySem.W.Frag) (r : List V → Hp → VK → Prop) (g : G1) : Prop := ∀ (Av : Addr → Prop) (H : Hp) (vs : List V) (ds : List PyData) (Q : VK) (G : SV → Prop), (∀ b, Av b → H b = none ∨ Mut (H b)) → DasT K Av H ds vs → g ds G →
  (∀ v H' sv, G sv → Same H H' → Res K Av H H' v sv → Q v H') → r vs H Q
def dCal (g : G1) (TA : DTA) : DTE := fun ρ QD => TA ρ fun rs ρ1 => ∃ ds, looks ρ1 rs = some ds ∧ g ds fun sv => QD sv ρ1
theorem es_cal {r : List V → Hp → VK → Prop} {g : G1} (og : CalD K r g) (ha : AS K ta TA) : ES K (tCB r ta) (dCal g TA) := by
  intro F A σ H ρ Q QD hK R h k
  refine ha F A σ H ρ _ _ hK R h fun rs ρ1 vs H1 A1 h1 R1 t1 w1 => ?_
  obtain ⟨ds, e, h1⟩ := h1
  subst hK
  refine og (AvC F A1) H1 vs ds _ _ R1.mu' (R1.looks w1 e) h1 fun v H' sv hs s w => ?_
  exact k _ _ v H' A1 hs (R1.same s) (t1.trans (sameTr s)) ((R1.res s w).back t1.trk)
variable {id Ty : String} {x name : Str} {r : List V → Hp → VK → Prop} {g : G1}
theorem de_callB (hc : CallR X (.builtin id) r) (og : CalD K r g) (hg : Gl X x) (hm : X.mg x = none) (hv : bootBuiltins x = some (.builtin id)) (ha : DA K X (e :: es) ta TA) (hn : x ≠ "__name__" := by decide) (hdb : (x == ("__debug__" : Str)) = false := by decide)
    (he : starEach (e :: es) X.env = (false, eval e X.env) :: starEach es X.env := by rfl) (hpl : (backTo pos (starEach es X.env)).any (·.1) = false := by rfl) : DE K X (.Call (.Name x p) (e :: es) [] pos) (tCB r ta) (dCal g TA) := by
  obtain ⟨pe, se⟩ := ha
  exact ⟨pe_callB hc hg hm hv pe hn hdb he hpl, es_cal og se⟩
theorem de_callTy (hc : CallR X (.type Ty) r) (og : CalD K r g) (hg : Gl X x) (hm : X.mg x = none) (hv : bootBuiltins x = some (.type Ty)) (ha : DA K X (e :: es) ta TA) (hn : x ≠ "__name__" := by decide) (hdb : (x == ("__debug__" : Str)) = false := by decide)
    (he : starEach (e :: es) X.env = (false, eval e X.env) :: starEach es X.env := by rfl) (hpl : (backTo pos (starEach es X.env)).any (·.1) = false := by rfl) : DE K X (.Call (.Name x p) (e :: es) [] pos) (tCB r ta) (dCal g TA) := by
  obtain ⟨pe, se⟩ := ha
  exact ⟨pe_callTy hc hg hm hv pe hn hdb he hpl, es_cal og se⟩
/-- one value and what becomes of it -/
abbrev GU := PyData → (SV → Prop) → Prop
def UnD (K : PySem.W.Frag) (r : V → Hp → VK → Prop) (g : GU) : Prop := ∀ (Av : Addr → Prop) (H : Hp) (v : V) (d : PyData) (Q : VK) (G : SV → Prop), (∀ b, Av b → H b = none ∨ Mut (H b)) → DaT K Av H d v → g d G → (∀ v H' sv, G sv → Same H H' → Res K Av H H' v sv → Q v H') → r v H Q
def dUn (g : GU) (T : DTE) : DTE := fun ρ QD => T ρ fun r ρ1 => ∃ d, lookD ρ1 r = some d ∧ g d fun sv => QD sv ρ1
theorem es_un {r : V → Hp → VK → Prop} {g : GU} (og : UnD K r g) (se : ES K t T) : ES K (fun σ H Q => t σ H fun v H1 => r v H1 Q) (dUn g T) := by
  intro F A σ H ρ Q QD hK R h k
  refine se F A σ H ρ _ _ hK R h fun r ρ1 v H1 A1 h1 R1 t1 w1 => ?_
  obtain ⟨d, e, h1⟩ := h1
  subst hK
  refine og (AvC F A1) H1 v d _ _ R1.mu' (R1.look w1.rw e) h1 fun v H' sv hs s w => ?_
  exact k _ _ v H' A1 hs (R1.same s) (t1.trans (sameTr s)) ((R1.res s w).back t1.trk)
theorem de_un {op : UnaryOp} {r : V → Hp → VK → Prop} {g : GU} (ho : UnR X (unaryOp op) r) (og : UnD K r g) (ha : DE K X e t T) : DE K X (.UnaryOp op e pos) (tUn r t) (dUn g T) := by
  obtain ⟨pe, se⟩ := ha
  exact ⟨pe_un ho pe, es_un (r := r) og se⟩
/-- xs[i] -/
theorem de_ix {a b : Expr} {Ta Tb : DTE} {ta tb : TE} {r : R2} {g : G2} (hr : IxR X r) (og : OpD K r g) (ha : DE K X a ta Ta) (hb : DE K X b tb Tb) (hs : PlainIx b) : DE K X (.Subscript a b pos) (tOp r ta tb) (dBin g Ta Tb) := by
  obtain ⟨pa, sa⟩ := ha
  obtain ⟨pb, sb⟩ := hb
  exact ⟨pe_ix hr pa pb hs, es_op og sa sb⟩
end

/-! ### promises of defs -/
structure FnG (P : Program) (w : World) (K : PySem.W.Frag) (mg : Str → Option Value) (base : Heap) (k : Nat) (f : Addr) (fd : FuncData) (ps : List Str) (sp : Sp) : Prop where
  len : ∀ vs H Q E, sp vs H Q E → vs.length = ps.length
  run : ∀ (A : Around) (outer : List Env) (s : Shared) (H : Hp) (args : Args) (us : List Value) (vs : List V) (Q : VK) (E : XK), Room k A → A.guards = some [] → Env0 P w K mg base A outer s H → BindsTo s fd args (ps.zip us) → Vals vs us → sp vs H Q E →
    codeAny (model P w) A (.call (.ref f) args) (CR CX0 outer P w H s Q E) s
inductive ArgR (K : PySem.W.Frag) (Av : Addr → Prop) (dk : Option (Addr × Addr × Addr)) (H : Hp) : V → SV → Prop
  | dat {v d} : Da K Av H d v → ArgR K Av dk H v (.dat d)
  | dk {a l} : dk = some (a, l) → ArgR K Av dk H (.ref a) .dk
inductive ArgRs (K : PySem.W.Frag) (Av : Addr → Prop) (dk : Option (Addr × Addr × Addr)) (H : Hp) : List V → List SV → Prop
  | nil : ArgRs K Av dk H [] []
  | cons {v r vs rs} : ArgR K Av dk H v r → ArgRs K Av dk H vs rs → ArgRs K Av dk H (v :: vs) (r :: rs)
abbrev DSp := List SV → (SV → Prop) → Prop
def KeepD (dk : Option (Addr × Addr × Addr)) (H H' : Hp) : Prop := ∀ b o, H b = some o → ¬ isDk dk b → H' b = some o
/-- the promise T over data, as a promise over values and the heap -/
def spD (K : PySem.W.Frag) (n : Nat) (T : DSp) : Sp := fun vs H Q _ => ∃ (Av : Addr → Prop) (dk : Option (Addr × Addr × Addr)) (args : List SV) (G : SV → Prop), vs.length = n ∧
  (∀ b, Av b → Mut (H b)) ∧ (∀ b, isDk dk b → Av b) ∧ (∀ a l, dk = some (a, l) → DkAt H a l) ∧ ArgRs K Av dk H vs args ∧ T args G ∧
  ∀ v H' sv, G sv → KeepD dk H H' → (∀ a l, dk = some (a, l) → DkAt H' a l) → Res K Av H H' v sv → Q v H'
theorem ArgRs.length {K : PySem.W.Frag} {Av : Addr → Prop} {dk : Option (Addr × Addr × Addr)} {H : Hp} : ∀ {vs : List V} {rs : List SV}, ArgRs K Av dk H vs rs → vs.length = rs.length
  | _, _, .nil => rfl
  | _, _, .cons _ t => by simp [ArgRs.length t]
theorem ArgRs.get {K : PySem.W.Frag} {Av : Addr → Prop} {dk : Option (Addr × Addr × Addr)} {H : Hp} : ∀ {vs : List V} {rs : List SV} {i : Nat} {r : SV}, ArgRs K Av dk H vs rs → rs[i]? = some r → ∃ v, vs[i]? = some v ∧ ArgR K Av dk H v r
  | _, _, i, r, .nil, e => by simp at e
  | _, _, 0, r, .cons h _, e => by
    simp at e; subst e
    exact ⟨_, rfl, h⟩
  | _, _, i + 1, r, .cons _ t, e => by
    obtain ⟨v, e1, h⟩ := t.get (i := i) (r := r) (by simpa using e)
    exact ⟨v, by simpa using e1, h⟩
section
variable {F : Fx} {A A' : Own} {σ : St} {H H' : Hp} {ρ : DS}
theorem KeepD.trk (k : KeepD F.dk H H') (R : Rep F A σ H ρ) (kd : ∀ a l, F.dk = some (a, l) → DkAt H' a l) : ∀ b, H' b = none → H b = none := fun b h => by
  cases e : H b with
  | none => rfl
  | some o =>
    by_cases z : isDk F.dk b
    · obtain ⟨a, l, e1, w⟩ := z
      have := (kd a l e1).has b w
      rw [h] at this
      exact this.elim
    · rw [k b o e z] at h; cases h
/-- behind a call -/
theorem Rep.call (R : Rep F A σ H ρ) (k : KeepD F.dk H H') (kd : ∀ a l, F.dk = some (a, l) → DkAt H' a l) : Rep F A σ H' ρ ∧ Tr F A H A H' := by
  have st : Stp (AvC F A) H H' := fun b o h n => k b o h fun z => n (.inl (R.dav b z))
  have nd : ∀ i a, A i = some a → ¬ isDk F.dk a := fun i a e z => (R.fresh i a e).2 (R.dav a z)
  refine ⟨⟨R.len, fun i sv e => ?_, R.ownA, R.inj, R.fresh, fun b z => ?_, fun b o e n => k b o (R.keep b o e n) n, R.dav, kd⟩, ⟨fun b o h n => k b o h fun z => n (.inl z), fun i b h => .inl ⟨i, h⟩, k.trk R kd⟩⟩
  · obtain ⟨v, e1, q⟩ := R.slot i sv e
    refine ⟨v, e1, ?_⟩
    cases sv with
    | dat d => exact Da.stp R.mu' st d v q
    | own xs =>
      obtain ⟨a, vs, q1, q2, q3, q4⟩ := q
      exact ⟨a, vs, q1, q2, k _ _ q3 (nd i a q1), Das.stp R.mu' st _ _ q4⟩
    | orf j => exact q
    | dk => exact q
    | scr ns => exact q
    | dct kvs =>
      obtain ⟨a, q1, q2, q3⟩ := q
      exact ⟨a, q1, q2, k _ _ q3 (nd i a q1)⟩
  · by_cases z2 : isDk F.dk b
    · obtain ⟨a, l, e1, w⟩ := z2
      exact (kd a l e1).has b w
    · have := R.mu b z
      cases e : H b with
      | none => rw [e] at this; exact this.elim
      | some o => rw [e] at this; rw [k b o e z2]; exact this
theorem Rep.callPlus (R : Rep F A σ H ρ) {a : Addr} (n : H a = none) (k : KeepD F.dk H H') (kd : ∀ a l, F.dk = some (a, l) → DkAt H' a l) (m : Mut (H' a)) : Rep (F.plus a) A σ H' ρ := by
  have R' := (R.call k kd).1
  have st : Stp (AvC F A) H H' := fun b o h n => k b o h fun z => n (.inl (R.dav b z))
  have av : ∀ b, AvC (F.plus a) A b → AvC F A b ∨ H b = none := fun b z => by
    rcases avc_plus.mp z with z | z
    · exact .inl z
    · exact .inr (by rw [z]; exact n)
  have mu2 : ∀ b, AvC (F.plus a) A b → H b = none ∨ Mut (H b) := fun b z => by
    rcases av b z with z | z
    · exact .inr (R.mu b z)
    · exact .inl z
  have st2 : Stp (AvC (F.plus a) A) H H' := fun b o h n => st b o h fun z => n (avc_plus.mpr (.inl z))
  refine ⟨R.len, fun i sv e => ?_, R.ownA, R.inj, fun i b e => ⟨(R.fresh i b e).1, fun z => ?_⟩, fun b z => ?_, R'.keep, fun b z => .inl (R.dav b z), kd⟩
  · obtain ⟨v, e1, q⟩ := R.slot i sv e
    obtain ⟨v', e1', q'⟩ := R'.slot i sv e
    rw [e1] at e1'
    have ev : v = v' := by simpa using e1'
    subst ev
    refine ⟨v, e1, ?_⟩
    cases sv with
    | dat d => exact Da.stp mu2 st2 d v (Da.av av d v q)
    | own xs =>
      obtain ⟨c, vs, q1, q2, q3, q4⟩ := q
      obtain ⟨c', vs', q1', q2', q3', q4'⟩ := q'
      rw [q1] at q1'
      cases q1'
      refine ⟨c, vs, q1, q2, k _ _ q3 (fun z => (R.fresh i c q1).2 (R.dav c z)), Das.stp mu2 st2 _ _ (Das.av av _ _ q4)⟩
    | orf j => exact q
    | dk => exact q
    | scr ns => exact q
    | dct kvs =>
      obtain ⟨c, q1, q2, q3⟩ := q
      exact ⟨c, q1, q2, k _ _ q3 (fun z => (R.fresh i c q1).2 (R.dav c z))⟩
  · rcases z with z | z
    · exact (R.fresh i b e).2 z
    · exact R.notin n (.inr ⟨i, by rw [e, z]⟩)
  · rcases avc_plus.mp z with z | z
    · exact R'.mu b z
    · rw [z]; exact m
theorem Rep.callRes (R : Rep F A σ H ρ) {v : V} {r : SV} (k : KeepD F.dk H H') (kd : ∀ a l, F.dk = some (a, l) → DkAt H' a l) (h : Res F.K (AvC F A) H H' v r) : RR F A σ H H' ρ v r := by
  cases r with
  | dat d => exact h
  | own xs =>
    obtain ⟨a, vs, e, n, q, w⟩ := h
    refine ⟨a, vs, e, n, R.new0 n, R.notin n, q, w.anti fun b z => avc_plus.mp z, R.callPlus n k kd ?_⟩
    rw [q]; trivial
  | orf i => exact h.elim
  | dk => exact h.elim
  | scr ns => exact h.elim
  | dct kvs => exact h.elim
theorem RWs.args (R : Rep F A σ H ρ) : ∀ {vs : List V} {svs : List SV}, RWs F A σ H vs svs → (∀ sv ∈ svs, (∃ d, sv = .dat d) ∨ sv = .dk) → ArgRs F.K (AvC F A) F.dk H vs svs
  | _, _, .nil, _ => .nil
  | _, _, .cons (r := r) w t, h => by
    refine .cons ?_ (RWs.args R t fun x q => h x (List.mem_cons_of_mem _ q))
    rcases h r List.mem_cons_self with ⟨d, e⟩ | e
    · subst e; exact .dat w
    · subst e
      obtain ⟨a, l, e1, e2⟩ := w
      subst e2
      exact .dk e1
end
section
variable {K : PySem.W.Frag} {X : Cx} {k : Nat} {f : Addr} {fd : FuncData} {ps ks : List Str} {n : Nat} {S : DSp} {x : Str} {p pos : Pos} {e : Expr} {es : List Expr} {TA : DTA} {ta : L2.TA} {kws : List Keyword}
theorem run_fnG {pins : List (Addr × Obj)} {σ : St} {H : Hp} {s : Shared} {Q : VK} {sp : Sp} {kw : List (Str × Value)} {us all : List Value} {vs : List V} (G : FnG X.prog X.w X.K X.mg X.base k f fd ps sp) (hr : Room k X.A) (hgd : X.A.guards = some []) (hb : BindsTo s fd ⟨us, kw⟩ (ps.zip all))
    (I : Inv X pins σ H s) (r : Vals vs all) (h : sp vs H Q E0) : wpAny (model X.prog X.w) X.A (call (.ref f) us kw) (EP X pins σ Q) X.xe s := by
  refine wpAny_call (codeAny_mono (G.run X.A X.stack s H ⟨us, kw⟩ all vs Q E0 hr hgd I.env0 hb r h) fun res s' hq => ?_)
  cases res with
  | error z => exact False.elim hq
  | ok fl =>
    cases fl with
    | ret u => exact I.after hq
    | next => exact False.elim hq
    | brk => exact False.elim hq
    | cont => exact False.elim hq
theorem pe_callG1 {t : L2.TA} {sp : Sp} (G : FnG X.prog X.w X.K X.mg X.base k f fd ps sp) (hr : Room k X.A) (hgd : X.A.guards = some []) (hg : Gl X x) (hm : X.mg x = some (.ref f)) (hk : PySem.W.keepIn X.K (.ref f) = true) (hb : Binds X.K fd ps [])
    (ha : PA X (e :: es) t) (hdb : (x == ("__debug__" : Str)) = false := by decide) (he : starEach (e :: es) X.env = (false, eval e X.env) :: starEach es X.env := by rfl) (hpl : (backTo pos (starEach es X.env)).any (·.1) = false := by rfl) :
    PE X (.Call (.Name x p) (e :: es) [] pos) (fun σ H Q => t σ H fun vs H1 => sp vs H1 Q E0) := by
  refine ⟨fun pins s σ H Q I h => wpAny_Call_Name_kw (ld_glob I hg hm ?_ hdb)⟩
  refine PySem.W.callWith_K (h₀ := X.base) I.ok.mod.kin hk (thn (ha.run pos pins s σ H _ I h) fun us s1 ⟨vs, H1, I1, r, q⟩ => ⟨I1.kIn, ?_⟩) he hpl
  have hl : us.length = ps.length := by rw [← r.length]; exact G.len _ _ _ _ q
  exact run_fnG G hr hgd (by simpa using hb s1 us I1.kIn (by simpa using hl)) I1 r q
theorem pe_callG0 {sp : Sp} (G : FnG X.prog X.w X.K X.mg X.base k f fd ps sp) (hr : Room k X.A) (hgd : X.A.guards = some []) (hg : Gl X x) (hm : X.mg x = some (.ref f)) (hk : PySem.W.keepIn X.K (.ref f) = true) (hb : Binds X.K fd ps [])
    (hdb : (x == ("__debug__" : Str)) = false := by decide) : PE X (.Call (.Name x p) [] [] pos) (fun σ H Q => sp [] H Q E0) := by
  refine ⟨fun pins s σ H Q I h => wpAny_Call_Name_kw (ld_glob I hg hm ?_ hdb)⟩
  refine PySem.W.callWith_K0 I.kIn hk ?_
  have hl : ([] : List Value).length = ps.length := G.len _ _ _ _ h
  exact run_fnG (us := []) G hr hgd (by simpa using hb s [] I.kIn (by simpa using hl)) I .nil h
/-- f(e, ..): what T promises of the arguments, frozen -/
def dCall (S : DSp) (TA : DTA) : DTE := fun ρ QD => TA ρ fun rs ρ1 => ∃ svs ρ2, frzAll ρ1 rs = some (svs, ρ2) ∧ S svs fun sv => QD sv ρ2
def tCallG (K : PySem.W.Frag) (n : Nat) (S : DSp) (t : L2.TA) : TE := fun σ H Q => t σ H fun vs H1 => spD K n S vs H1 Q E0
theorem es_call (ha : AS K ta TA) (hn : ∀ svs G, S svs G → svs.length = n) : ES K (tCallG K n S ta) (dCall S TA) := by
  intro F A σ H ρ Q QD hK R h k
  refine ha F A σ H ρ _ _ hK R h fun rs ρ1 vs H1 A1 h1 R1 t1 w1 => ?_
  obtain ⟨svs, ρ2, e, h1⟩ := h1
  obtain ⟨A2, R2, t2, w2, k2⟩ := Rep.frzAll R1 w1 e
  subst hK
  have ar := RWs.args R2 w2 k2
  refine ⟨AvC F A2, F.dk, svs, _, ar.length.trans (hn _ _ h1), R2.mu, fun b z => .inl (R2.dav b z), R2.deck, ar, h1, fun v H' sv hs kp kd w => ?_⟩
  obtain ⟨R3, t3⟩ := R2.call kp kd
  exact k _ _ v H' A2 hs R3 (t1.trans (t2.trans t3)) ((R2.callRes kp kd w).back fun b h => t1.trk b (t2.trk b h))
theorem de_call (G : FnG X.prog X.w X.K X.mg X.base k f fd ps (spD K n S)) (hr : Room k X.A) (hgd : X.A.guards = some []) (hg : Gl X x) (hm : X.mg x = some (.ref f)) (hk : PySem.W.keepIn X.K (.ref f) = true) (hb : Binds X.K fd ps [])
    (hn : ∀ svs G, S svs G → svs.length = n) (ha : DA K X (e :: es) ta TA) (hdb : (x == ("__debug__" : Str)) = false := by decide) (he : starEach (e :: es) X.env = (false, eval e X.env) :: starEach es X.env := by rfl) (hpl : (backTo pos (starEach es X.env)).any (·.1) = false := by rfl) :
    DE K X (.Call (.Name x p) (e :: es) [] pos) (tCallG K n S ta) (dCall S TA) := by
  obtain ⟨pe, se⟩ := ha
  exact ⟨pe_callG1 G hr hgd hg hm hk hb pe hdb he hpl, es_call se hn⟩
theorem de_call0 (G : FnG X.prog X.w X.K X.mg X.base k f fd ps (spD K n S)) (hr : Room k X.A) (hgd : X.A.guards = some []) (hg : Gl X x) (hm : X.mg x = some (.ref f)) (hk : PySem.W.keepIn X.K (.ref f) = true) (hb : Binds X.K fd ps [])
    (hn : ∀ svs G, S svs G → svs.length = n) (hdb : (x == ("__debug__" : Str)) = false := by decide) : DE K X (.Call (.Name x p) [] [] pos) (tCallG K n S tNil) (dCall S dNil) :=
  ⟨pe_callG0 G hr hgd hg hm hk hb hdb, es_call (ta := tNil) (fun F A σ H ρ Q QD hK R h k => k _ _ _ H A h R .refl .nil) hn⟩
end
end DL
namespace DL
open PySem L2 PySem.Spec
open PyProof.Rows (envOfC)

/-! ### a def by its body -/
def relV (ρ : DS) : SV → Option SV
  | .dat d => some (.dat d)
  | .own xs => some (.own xs)
  | .dk => none
  | .scr _ => none
  | .dct _ => none
  | .orf i => match ρ[i]? with
    | some (some (.own xs)) => some (.own xs)
    | some (some (.dat d)) => some (.dat d)
    | _ => none
def dDef (m : Nat) (TB : DTS) : DSp := fun args G => TB { nx := fun _ => G (.dat .none), rt := fun r ρ => ∃ sv, relV ρ r = some sv ∧ G sv } (args.map some ++ List.replicate m none)
theorem start_rep {K : PySem.W.Frag} {Av : Addr → Prop} {dk : Option (Addr × Addr × Addr)} {H : Hp} {vs : List V} {args : List SV} {N : List Str} {n : Nat} (hn : vs.length = n) (hm : ∀ b, Av b → Mut (H b)) (hd : ∀ b, isDk dk b → Av b)
    (hk : ∀ a l, dk = some (a, l) → DkAt H a l) (ar : ArgRs K Av dk H vs args) : Rep ⟨K, H, Av, dk⟩ (fun _ => none) (L2.start N vs) H (args.map some ++ List.replicate (N.length - n) none) := by
  have hl := ar.length
  have avz : ∀ b, AvC ⟨K, H, Av, dk⟩ (fun _ => none) b → Av b := fun b z => by
    rcases z with z | ⟨i, z⟩
    · exact z
    · cases z
  refine ⟨?_, fun i sv e => ?_, fun i a e => ?_, fun i j a e => ?_, fun i a e => ?_, fun b z => hm b (avz b z), fun b o e _ => e, hd, hk⟩
  · unfold L2.start
    simp [hl, hn]
    omega
  · have hi : i < args.length := by
      by_cases hi : i < args.length
      · exact hi
      · rw [List.getElem?_append_right (by simpa using hi), List.getElem?_replicate] at e
        split at e <;> cases e
    rw [List.getElem?_append_left (by simpa using hi), List.getElem?_map] at e
    cases e2 : args[i]? with
    | none => rw [e2] at e; cases e
    | some r =>
      rw [e2] at e
      have er : r = sv := by simpa using e
      subst er
      obtain ⟨v, e3, q⟩ := ar.get e2
      refine ⟨v, ?_, ?_⟩
      · unfold L2.start
        rw [List.getElem?_append_left (by simpa [hl] using hi), List.getElem?_map, e3]
        rfl
      · cases q with
        | dat h => exact Da.anti avz h
        | dk h => exact ⟨_, _, h, rfl⟩
  · cases e
  · cases e
  · cases e
section
variable {P : Program} {w : World} {K : PySem.W.Frag} {mg : Str → Option Value} {base : Heap}
theorem def_ends {Av : Addr → Prop} {dk : Option (Addr × Addr × Addr)} {H : Hp} {Q : VK} {G : SV → Prop} (post : ∀ v H' sv, G sv → KeepD dk H H' → (∀ a l, dk = some (a, l) → DkAt H' a l) → Res K Av H H' v sv → Q v H') :
    EndsOk ⟨K, H, Av, dk⟩ (fun _ => none) H { nx := fun _ H' => Q .non H', rt := Q } { nx := fun _ => G (.dat .none), rt := fun r ρ => ∃ sv, relV ρ r = some sv ∧ G sv } := by
  refine ⟨fun ρ' σ' H' A' g R' t' => ?_, fun r ρ' v σ' H' A' g R' t' w' => ?_, fun _ _ _ _ z => z.elim, fun _ _ _ _ z => z.elim⟩
  · exact post .non H' _ g R'.keep R'.deck (by show Da _ _ _ _ _; simp only [Da])
  · obtain ⟨sv, e, g⟩ := g
    have dat : ∀ {d : PyData}, Da K (AvC ⟨K, H, Av, dk⟩ A') H' d v → Res K Av H H' v (.dat d) := fun {d} h => Da.anti (fun b z => .inl z) h
    refine post v H' sv g R'.keep R'.deck ?_
    cases r with
    | dat d =>
      have es : SV.dat d = sv := by simpa [relV] using e
      subst es
      exact dat w'
    | dk => simp [relV] at e
    | scr ns => simp [relV] at e
    | dct kvs => simp [relV] at e
    | own xs =>
      have es : SV.own xs = sv := by simpa [relV] using e
      subst es
      obtain ⟨a, vs, e1, n, _, _, q, h, _⟩ := w'
      exact ⟨a, vs, e1, n, q, h.anti fun b z => avc_plus.mpr (z.elim (fun z => .inl (.inl z)) fun z => .inr z)⟩
    | orf i =>
      have hv : σ'[i]? = some (some v) := w'
      cases q : ρ'[i]? with
      | none => simp [relV, q] at e
      | some o =>
        cases o with
        | none => simp [relV, q] at e
        | some s0 =>
          obtain ⟨v', e1, s⟩ := R'.slot i s0 q
          rw [hv] at e1
          have ev : v = v' := by simpa using e1
          subst ev
          cases s0 with
          | dat d =>
            have es : SV.dat d = sv := by simpa [relV, q] using e
            subst es
            exact dat s
          | orf j => simp [relV, q] at e
          | dk => simp [relV, q] at e
          | scr ns => simp [relV, q] at e
          | dct kvs => simp [relV, q] at e
          | own xs =>
            have es : SV.own xs = sv := by simpa [relV, q] using e
            subst es
            obtain ⟨a, vs, q1, q2, q3, q4⟩ := s
            refine ⟨a, vs, q2, (R'.fresh i a q1).1, q3, q4.anti fun b z => ?_⟩
            rcases z with z | z
            · exact .inl z
            · exact .inr ⟨i, by rw [q1, z]⟩
theorem okD {x qual : Str} {st : Stmt} {f : Addr} {fd : FuncData} {N ps : List Str} {k n : Nat} {T : DSp} {TB : DTS} {tb : TS} (F : Fun K x qual st f fd) (S : FnScope N ps (defScope st)) (hn : ps.length = n)
    (term : ∀ (cdv : Value) (A : Around) (outer : List Env) (s : Shared) (H : Hp) (E : XK), Room k (A.deeper (envOfC qual (defScope st) s.heap.objs.size f cdv)) → A.guards = some [] → DSs K (cxOf CX0 P w K mg base N qual (defScope st) f cdv A outer s H E).nox (defBody st) tb TB)
    (spec : ∀ args G, args.length = n → T args G → dDef (N.length - n) TB args G) : FnG P w K mg base (k + 1) f fd ps (spD K n T) := by
  obtain ⟨oc, od, kV, doc, pm, an, cdv, ct, osl, rfl, lk, hcd⟩ := F.ex
  refine ⟨fun vs H Q E h => ?_, fun A outer s H args us vs Q E hr hgd e0 hb r hsp => ?_⟩
  · obtain ⟨_, _, _, _, h, _⟩ := h
    exact h.trans hn.symm
  obtain ⟨Av, dk, svs, G, hl, hm, hdk, hkk, ar, hT, post⟩ := hsp
  have hlp : vs.length = ps.length := hl.trans hn.symm
  have KX : K.In s.heap := e0.mod.kin.keeps fun b o e => (e0.bs b o e).1
  have lim : s.heap.NoLimit := e0.mod.nolimit.keeps fun b o e => (e0.bs b o e).1
  refine codeAny_call_function hr.depth (KX _ _ lk) rfl S.co S.gen rfl (PySem.W.codeRec_of KX hcd) (hb _ _ _ _ ?_)
  refine wpAny_newFunctionEnv_cells S.kind (fun y hy => ?_) fun env he s1 x => ?_
  · rcases S.par y.1 (List.of_mem_zip (show (y.1, y.2) ∈ ps.zip us from hy)).1 with q | q
    · exact .inl q
    · exact .inr ⟨q, PySem.W.cellsFrom_some _ _ _ (.inl q)⟩
  subst he
  refine ⟨lim.keeps x.toInCall.keep, codeAny_func ?_⟩
  obtain ⟨ht, hs⟩ := term cdv A outer s H E (hr.deeper _) hgd
  have I := inv_start (CX := CX0) (N := N) (E := E) S hr.hd e0 hlp r x
  have body := spec svs G (ar.length.symm.trans hl) hT
  have red := hs ⟨K, H, Av, dk⟩ (fun _ => none) (L2.start N vs) H _ { nx := fun _ H' => Q .non H', rt := Q } _ rfl (start_rep (N := N) hl hm hdk hkk ar) body (def_ends post)
  refine wpAny_mono (ht.nox.run [] s1 (L2.start N vs) H _ I red) (fun fl s' q => ?_) fun e s' q => q
  cases fl with
  | ret u =>
    obtain ⟨v, σ', H', J, rv, q⟩ := q
    exact ⟨v, H', J.os, J.bare, J.base, J.hok, rv, q⟩
  | next =>
    obtain ⟨σ', H', J, q⟩ := q
    exact ⟨.non, H', J.os, J.bare, J.base, J.hok, rfl, q⟩
  | brk =>
    obtain ⟨_, _, _, q⟩ := q
    exact q.elim
  | cont =>
    obtain ⟨_, _, _, q⟩ := q
    exact q.elim
end

/-! ### blocks and statements -/
section
variable {K : PySem.W.Frag} {X : Cx} {st : Stmt} {rest : List Stmt} {t u : DTS} {a b : TS} {e : Expr} {T : DTE} {te : TE} {pos : Pos} {TC : DTT} {tc : TT}
def dNext : DTS := fun E ρ => E.nx ρ
def dSeq (t u : DTS) : DTS := fun E ρ => t { E with nx := u E } ρ
theorem dss_nil : DSs K X [] tNext dNext := ⟨pss_nil, fun F A σ H ρ D E hK R h k => k.1 ρ σ H A h R .refl⟩
theorem EndsOk.seq {F : Fx} {A : Own} {H : Hp} {D : Ends} {E : DEnds} {u : DTS} {tu : TS} (k : EndsOk F A H D E) (hK : F.K = K) (su : SS K tu u) : EndsOk F A H { D with nx := tu D } { E with nx := u E } :=
  ⟨fun ρ' σ' H' A' h R t => su F A' σ' H' ρ' D E hK R h (k.tr R t), k.2.1, k.2.2.1, k.2.2.2⟩
theorem dss_cons (h1 : DSt K X st a t) (h2 : DSs K X rest b u) : DSs K X (st :: rest) (tSeq a b) (dSeq t u) :=
  ⟨pss_cons h1.p h2.p, fun F A σ H ρ D E hK R h k => h1.s F A σ H ρ _ _ hK R h (k.seq hK h2.s)⟩
theorem dss_one (h1 : DSt K X st a t) : DSs K X [st] a t := ⟨pss_one h1.p, h1.s⟩
theorem ds_pass : DSt K X (.Pass pos) tNext dNext := ⟨ps_pass, fun F A σ H ρ D E hK R h k => k.1 ρ σ H A h R .refl⟩
def dBreak : DTS := fun E ρ => E.bk ρ
def dCont : DTS := fun E ρ => E.ct ρ
theorem ds_break : DSt K X (.Break pos) tBreak dBreak := ⟨ps_break, fun F A σ H ρ D E hK R h k => k.2.2.1 ρ σ H A h R .refl⟩
theorem ds_continue : DSt K X (.Continue pos) tCont dCont := ⟨ps_continue, fun F A σ H ρ D E hK R h k => k.2.2.2 ρ σ H A h R .refl⟩
def dDrop (T : DTE) : DTS := fun E ρ => T ρ fun _ ρ1 => E.nx ρ1
theorem ds_expr (he : DE K X e te T) (hs : swapsWith e none pos.line X.env = pure false := by rfl) : DSt K X (.Expr e pos) (tDrop te) (dDrop T) :=
  ⟨ps_expr he.p hs, fun F A σ H ρ D E hK R h k => he.s F A σ H ρ _ _ hK R h fun r ρ' v H' A' h R t w => k.1 _ _ _ _ h R t⟩
def dRet (T : DTE) : DTS := fun E ρ => T ρ E.rt
theorem ds_ret (he : DE K X e te T) : DSt K X (.Return (some e) pos) (tRet te) (dRet T) :=
  ⟨ps_ret he.p, fun F A σ H ρ D E hK R h k => he.s F A σ H ρ _ _ hK R h fun r ρ' v H' A' h R t w => k.2.1 _ _ _ _ _ _ h R t w⟩
def dIfS (c : DTT) (t u : DTS) : DTS := fun E ρ => c ρ fun b ρ1 => if b = true then t E ρ1 else u E ρ1
theorem ds_if {c : Expr} {sa sb : List Stmt} (hc : DT K X c tc TC) (ha : DSs K X sa a t) (hb : DSs K X sb b u) : DSt K X (.If c sa sb pos) (tIfS tc a b) (dIfS TC t u) := by
  refine ⟨ps_if hc.p ha.p hb.p, fun F A σ H ρ D E hK R h k => hc.s F A σ H ρ _ _ hK R h fun d ρ1 H1 A1 h1 R1 t1 => ?_⟩
  cases d with
  | true => exact ha.s F A1 σ H1 ρ1 D E hK R1 h1 (k.tr R1 t1)
  | false => exact hb.s F A1 σ H1 ρ1 D E hK R1 h1 (k.tr R1 t1)
/-- name = e -/
def dSet (i : Nat) (T : DTE) : DTS := fun E ρ => T ρ fun r ρ1 => i < ρ1.length ∧ ∃ sv ρ2, sto1 ρ1 r = some (sv, ρ2) ∧ E.nx (ρ2.set i (some sv))
theorem ss_set {i : Nat} (s : ES K te T) : SS K (tAsg te (gName i)) (dSet i T) := by
  intro F A σ H ρ D E hK R h k
  refine s F A σ H ρ _ _ hK R h fun r ρ' v H' A' h R t w => ?_
  obtain ⟨hl, sv, ρ2, e1, h⟩ := h
  obtain ⟨A2, R2, t2⟩ := R.store t w hl e1
  exact k.1 _ _ _ _ h R2 t2
theorem ds_set (i : Nat) {x : Str} {pos' : Pos} (hN : X.N.Nodup) (he : DE K X e te T) (hi : X.N[i]? = some x := by rfl) (hx : Loc X.env.scope x := by first | exact Or.inl rfl | exact Or.inr rfl) (hs : swapsWith e (some (.Name x pos')) pos.line X.env = pure false := by rfl)
    (hf : X.fn x = true ∨ X.env.scope.names.lookup x = some .local := by first | exact .inl rfl | exact .inr rfl) : DSt K X (.Assign [.Name x pos'] e pos) (tAsg te (gName i)) (dSet i T) := ⟨ps_set hN hi hx he.p hs hf, ss_set he.s⟩
/-! ### targets -/
abbrev DTG := PyData → DS → (DS → Prop) → Prop
abbrev DTGs := List PyData → DS → (DS → Prop) → Prop
def GS (wk : Bool) (K : PySem.W.Frag) (g : TG) (G : DTG) (is : List Nat) : Prop := ∀ (F : Fx) (A : Own) (σ : St) (H : Hp) (ρ : DS) (v : V) (d : PyData) (Q : St → Hp → Prop) (QD : DS → Prop), F.K = K → Rep F A σ H ρ → DaB wk F.K (AvC F A) H d v → G d ρ QD →
  (∀ ρ' σ' A', QD ρ' → Rep F A' σ' H ρ' → Tr F A H A' H → (∀ vs, (∀ i ∈ is, i ∈ vs) → wipe σ' vs = wipe σ vs) → Q σ' H) → g v σ H Q
def GSs (K : PySem.W.Frag) (g : TGs) (G : DTGs) (is : List Nat) : Prop := ∀ (F : Fx) (A : Own) (σ : St) (H : Hp) (ρ : DS) (vs : List V) (ds : List PyData) (Q : St → Hp → Prop) (QD : DS → Prop), F.K = K → Rep F A σ H ρ → Das F.K (AvC F A) H ds vs → G ds ρ QD →
  (∀ ρ' σ' A', QD ρ' → Rep F A' σ' H ρ' → Tr F A H A' H → (∀ vs, (∀ i ∈ is, i ∈ vs) → wipe σ' vs = wipe σ vs) → Q σ' H) → g vs σ H Q
structure DG (wk : Bool) (K : PySem.W.Frag) (X : Cx) (e : Expr) (g : TG) (G : DTG) (is : List Nat) : Prop where
  p : PG X e g
  s : GS wk K g G is
structure DGs (K : PySem.W.Frag) (X : Cx) (es : List Expr) (g : TGs) (G : DTGs) (is : List Nat) : Prop where
  p : PGs X es g
  s : GSs K g G is
theorem wipe_out : ∀ {vs : List Nat} {σ : St} {i : Nat} {v : Option V}, i ∉ vs → wipe (σ.set i v) vs = (wipe σ vs).set i v := by
  intro vs
  induction vs with
  | nil => intro σ i v h; rfl
  | cons j vs ih =>
    intro σ i v h
    have hj : i ≠ j := fun z => h (by rw [z]; exact List.mem_cons_self)
    show (wipe (σ.set i v) vs).set j none = ((wipe σ vs).set j none).set i v
    rw [ih fun z => h (List.mem_cons_of_mem _ z), List.set_comm _ _ hj]
theorem wipe_set : ∀ {vs : List Nat} {σ : St} {i : Nat} {v : Option V}, i ∈ vs → wipe (σ.set i v) vs = wipe σ vs := by
  intro vs
  induction vs with
  | nil => intro σ i v h; cases h
  | cons j vs ih =>
    intro σ i v h
    by_cases hm : i ∈ vs
    · show (wipe (σ.set i v) vs).set j none = (wipe σ vs).set j none
      rw [ih hm]
    · have hj : i = j := by
        rcases List.mem_cons.mp h with z | z
        · exact z
        · exact absurd z hm
      subst hj
      show (wipe (σ.set i v) vs).set i none = (wipe σ vs).set i none
      rw [wipe_out hm, List.set_set]
def gNm (i : Nat) : DTG := fun d ρ Q => i < ρ.length ∧ Q (ρ.set i (some (.dat d)))
theorem dg_name (i : Nat) {x : Str} (hN : X.N.Nodup) (hi : X.N[i]? = some x := by rfl) (hx : Loc X.env.scope x := by first | exact Or.inl rfl | exact Or.inr rfl)
    (hf : X.fn x = true ∨ X.env.scope.names.lookup x = some .local := by first | exact .inl rfl | exact .inr rfl) : DG false K X (.Name x pos) (gName i) (gNm i) [i] :=
  ⟨pg_name hN hi hx hf, fun F A σ H ρ v d Q QD hK R hd h k => k _ _ _ h.2 (R.setDat h.1 hd.str) delA_tr fun vs q => wipe_set (q i (by simp))⟩
def gNil' : DTGs := fun ds ρ Q => ds = [] ∧ Q ρ
def gCons' (g : DTG) (u : DTGs) : DTGs := fun ds ρ Q => ∃ d r, ds = d :: r ∧ g d ρ fun ρ1 => u r ρ1 Q
theorem dgs_nil : DGs K X [] gNil gNil' [] := ⟨pgs_nil, fun F A σ H ρ vs ds Q QD hK R hd h k => by
  obtain ⟨e, h⟩ := h
  subst e
  have e2 : vs = [] := by simpa only [Das] using hd
  exact ⟨e2, k _ _ A h R .refl fun _ _ => rfl⟩⟩
theorem dgs_cons {es : List Expr} {g : DTG} {u : DTGs} {gg : TG} {uu : TGs} {is js : List Nat} (h1 : DG false K X e gg g is) (h2 : DGs K X es uu u js) (hs : (assignEach (e :: es) X.env).map (·.2) = assign e X.env :: (assignEach es X.env).map (·.2) := by rfl) : DGs K X (e :: es) (gCons gg uu) (gCons' g u) (is ++ js) := by
  refine ⟨pgs_cons h1.p h2.p hs, fun F A σ H ρ vs ds Q QD hK R hd h k => ?_⟩
  obtain ⟨d, r, e, h⟩ := h
  subst e
  simp only [Das] at hd
  obtain ⟨v, vr, e, d1, d2⟩ := hd
  subst e
  refine ⟨v, vr, rfl, h1.s F A σ H ρ v d _ _ hK R (.inl d1) h fun ρ1 σ1 A1 q R1 t1 w1 => ?_⟩
  refine h2.s F A1 σ1 H ρ1 vr r _ _ hK R1 (R.das t1 d2) q fun ρ2 σ2 A2 q2 R2 t2 w2 => ?_
  exact k _ _ A2 q2 R2 (t1.trans t2) fun vs m => (w2 vs fun i hi => m i (List.mem_append_right _ hi)).trans (w1 vs fun i hi => m i (List.mem_append_left _ hi))
def gTu (n : Nat) (g : DTGs) : DTG := fun d ρ Q => ∃ ds, d = .tuple ds ∧ ds.length = n ∧ g ds ρ Q
theorem dg_tup {wk : Bool} {es : List Expr} {kk : Nat} {g : DTGs} {gg : TGs} {n : Nat} {is : List Nat} (hc : X.calm = true) (h : DGs K X es gg g is) (hK : X.K = K := by rfl) (hn : (assignEach es X.env).length = n := by rfl) (hst : (assignEach es X.env).findIdx? (·.1) = none := by rfl) : DG wk K X (.Tuple es kk pos) (gTup K n gg) (gTu n g) is := by
  refine ⟨hK ▸ pg_tup hc h.p hn hst, fun F A σ H ρ v d Q QD hK R hd q k => ?_⟩
  obtain ⟨ds, e, hl, q⟩ := q
  subst e
  have hd' : ∃ p xs, v = .ref p ∧ SqT F.K H p xs ∧ Das F.K (AvC F A) H ds xs := by
    rcases hd with hd | ⟨_, ds', a, xs, e1, e2, e3, e4⟩
    · simp only [Da] at hd
      obtain ⟨p, xs, e, q2, hd⟩ := hd
      exact ⟨p, xs, e, q2.t, hd⟩
    · cases e1
      exact ⟨a, xs, e2, e3, e4⟩
  obtain ⟨p, xs, e, q2, hd⟩ := hd'
  exact ⟨p, xs, e, hK ▸ q2, hd.length.symm.trans hl, h.s F A σ H ρ xs ds _ _ hK R hd q k⟩
/-- target = e -/
def dAsg (T : DTE) (g : DTG) : DTS := fun E ρ => T ρ fun r ρ1 => ∃ d ρ2, frz1 ρ1 r = some (.dat d, ρ2) ∧ g d ρ2 E.nx
theorem ss_asg {g : DTG} {gg : TG} {is : List Nat} (s : ES K te T) (sa : GS false K gg g is) : SS K (tAsg te gg) (dAsg T g) := by
  intro F A σ H ρ D E hK R h k
  refine s F A σ H ρ _ _ hK R h fun r ρ' v H' A' h R t w => ?_
  obtain ⟨d, ρ2, e1, h⟩ := h
  obtain ⟨A2, R2, t2, w2, _⟩ := R.frz1 w.rw e1
  exact sa F A2 σ H' ρ2 v d _ _ hK R2 (.inl w2) h fun ρ3 σ3 A3 q R3 t3 _ => k.1 _ _ _ _ q R3 (t.trans (t2.trans t3))
theorem ds_asg {tg : Expr} {g : DTG} {gg : TG} {is : List Nat} (he : DE K X e te T) (hg : DG false K X tg gg g is) (hs : swapsWithSole [tg] e pos.line X.env = pure false := by rfl) (hw : swappedStores [tg] e X.env = pure none := by rfl)
    (h1 : (assignEach [tg] X.env).map (·.2) = [assign tg X.env] := by rfl) : DSt K X (.Assign [tg] e pos) (tAsg te gg) (dAsg T g) := ⟨ps_asg he.p hg.p hs hw h1, ss_asg he.s hg.s⟩
end
end DL
namespace DL
open PySem L2

/-! ### what a loop goes over -/
abbrev DTI := DS → (List PyData → DS → Prop) → Prop
structure Yields (wk : Bool) (F : Fx) (A : Own) (H : Hp) (ds : List PyData) (J : It) : Prop where
  run : ∃ (G : Hp → Prop) (Y : Nat → Hp → V → Hp → Prop), Walk J ds.length G Y ∧ (∀ H2, Stp (AvC F A) H H2 → G H2) ∧
    ∀ i H2 x H3 (Av2 : Addr → Prop), i < ds.length → Stp (AvC F A) H H2 → (∀ b, Av2 b → AvC F A b ∨ H b = none) → (∀ b, Av2 b → H2 b = none ∨ Mut (H2 b)) → Y i H2 x H3 → Same H2 H3 ∧ ∃ d, ds[i]? = some d ∧ DaB wk F.K Av2 H3 d x
def IS (wk : Bool) (K : PySem.W.Frag) (wi : TI) (W : DTI) : Prop := ∀ (F : Fx) (A : Own) (σ : St) (H : Hp) (ρ : DS) (R : It → Hp → Prop) (QD : List PyData → DS → Prop), F.K = K → Rep F A σ H ρ → W ρ QD →
  (∀ ds ρ' H' A' J, QD ds ρ' → Rep F A' σ H' ρ' → Tr F A H A' H' → Yields wk F A' H' ds J → R J H') → wi σ H R
structure DI (wk : Bool) (K : PySem.W.Frag) (X : Cx) (tg iter : Expr) (wi : TI) (W : DTI) : Prop where
  p : PI X tg iter wi
  s : IS wk K wi W
/-! ### for -/
def forT (g : DTG) (tb : DTS) (E : DEnds) : List PyData → DS → Prop
  | [], ρ => E.nx ρ
  | d :: ds, ρ => g d ρ fun ρ1 => tb { nx := forT g tb E ds, rt := E.rt, bk := E.nx, ct := forT g tb E ds } ρ1
def dFor (W : DTI) (g : DTG) (tb : DTS) : DTS := fun E ρ => W ρ fun ds ρ1 => forT g tb E ds ρ1
section
variable {K : PySem.W.Frag} {X : Cx} {tg iter e : Expr} {W : DTI} {wi : TI} {g : DTG} {gg : TG} {tb : DTS} {b : TS} {T : DTE} {te : TE} {pos p : Pos} {is : List Nat} {TC : DTT} {tc : TT}
theorem ss_for {wk : Bool} (si : IS wk K wi W) (sg : GS wk K gg g is) (sb : SS K b tb) : SS K (tFor wi gg b) (dFor W g tb) := by
  intro F A σ H ρ D E hK R h k
  refine si F A σ H ρ _ _ hK R h fun ds ρ1 H1 A1 J h1 R1 t1 y => ?_
  obtain ⟨G, Y, w, hG, hY⟩ := y.run
  refine for_it w (fun i σ H => ∃ A2 ρ2, Rep F A2 σ H ρ2 ∧ Tr F A1 H1 A2 H ∧ forT g tb E (ds.drop i) ρ2) ⟨A1, ρ1, R1, .refl, h1⟩ (fun i σ H _ ⟨A2, ρ2, R2, t2, _⟩ => hG H (R1.stp t2)) (fun i x σ2 H2 H3 hi q y => ?_) fun σ2 H2 q => ?_
  · obtain ⟨A2, ρ2, R2, t2, h2⟩ := q
    obtain ⟨s, d, ed, hd⟩ := hY i H2 x H3 (AvC F A2) hi (R1.stp t2) t2.av R2.mu' y
    have ec : ds.drop i = d :: ds.drop (i + 1) := by
      obtain ⟨hl, e⟩ := List.getElem?_eq_some_iff.mp ed
      rw [← e]
      exact List.drop_eq_getElem_cons hl
    rw [ec] at h2
    refine sg F A2 σ2 H3 ρ2 x d _ _ hK (R2.same s) hd h2 fun ρ3 σ3 A3 q3 R3 t3 _ => ?_
    have t13 : Tr F A1 H1 A3 H3 := t2.trans ((sameTr s).trans t3)
    refine sb F A3 σ3 H3 ρ3 _ _ hK R3 q3 ⟨fun ρ4 σ4 H4 A4 q4 R4 t4 => ⟨A4, ρ4, R4, t13.trans t4, q4⟩, fun r ρ4 v σ4 H4 A4 q4 R4 t4 w4 => k.2.1 _ _ _ _ _ _ q4 R4 (t1.trans (t13.trans t4)) (w4.back fun b hb => t1.trk b (t13.trk b hb)),
      fun ρ4 σ4 H4 A4 q4 R4 t4 => k.1 _ _ _ _ q4 R4 (t1.trans (t13.trans t4)), fun ρ4 σ4 H4 A4 q4 R4 t4 => ⟨A4, ρ4, R4, t13.trans t4, q4⟩⟩
  · obtain ⟨A2, ρ2, R2, t2, h2⟩ := q
    rw [List.drop_length] at h2
    exact k.1 _ _ _ _ h2 R2 (t1.trans t2)
theorem ds_for {wk : Bool} {body : List Stmt} (hp : PassesOwn (model X.prog X.w) X.A X.env X.xe) (hc : X.calm = true) (hi : DI wk K X tg iter wi W) (hg : DG wk K X tg gg g is) (hb : DSs K X body b tb) (hs : ∀ x, foldedSetIterable iter X.env x = pure x := by intro _; rfl) : DSt K X (.For tg iter body [] pos) (tFor wi gg b) (dFor W g tb) :=
  ⟨ps_for hp hc hi.p hg.p hb.p hs, ss_for hi.s hg.s hb.s⟩
/-! ### what is gone over: a list, a tuple, a text -/
def chr1 (c : Nat) : PyData := .str ⟨#[c]⟩
def itemsD : PyData → Option (List PyData)
  | .list ds => some ds
  | .tuple ds => some ds
  | .str x => some (x.cps.toList.map chr1)
  | _ => none
def iSeq (K : PySem.W.Frag) (tl : TE) : TI := fun σ H R => tl σ H fun x H1 => (∃ a, x = .ref a ∧ (∃ xs, SqL K H1 a xs) ∧ R (Itl K a) H1) ∨ (∃ a, x = .ref a ∧ (∃ xs, SqT K H1 a xs) ∧ R (Itt K a) H1) ∨ ∃ z, x = .str z ∧ R (Its z) H1
theorem pi_seq {l : Expr} {tl : TE} (hl : PE X l tl) : PI X tg l (iSeq X.K tl) := by
  refine ⟨fun pins s σ H R I h => thn (hl.run pins s σ H _ I h) fun u s1 ⟨x, H1, I1, r1, q1⟩ => ?_⟩
  have fresh1 : ∀ b ∈ [s1.heap.objs.size], FpOk X pins H1 b := fun b hb => by
    obtain rfl : b = s1.heap.objs.size := by simpa using hb
    exact I1.fpOk (Nat.le_refl _) (I1.hok.fresh (Nat.le_refl _))
  rcases q1 with ⟨a, e, ⟨xs, hq⟩, q⟩ | ⟨a, e, ⟨xs, hq⟩, q⟩ | ⟨z, e, q⟩
  · subst e
    cases r1
    obtain ⟨its, rv, pl, _⟩ := I1.list hq
    exact wpAny_pyIter_list pl.isList ⟨_, _, _, _, H1, rfl, I1.kept (t' := s1.toks) fun b o e => Heap.get?_push_of_some _ e, turn_list a _, ⟨_, Heap.get?_push_size _ rfl, rfl, rfl⟩, fresh1, q⟩
  · subst e
    cases r1
    obtain ⟨its, rv, pl, _⟩ := I1.tuple hq
    exact wpAny_pyIter_tuple (show s1.heap.IsTuple a its.toArray from pl) ⟨_, _, _, _, H1, rfl, I1.kept (t' := s1.toks) fun b o e => Heap.get?_push_of_some _ e, turn_tuple a _, ⟨_, Heap.get?_push_size _ rfl, rfl, rfl⟩, fresh1, q⟩
  · subst e
    obtain ⟨t, rfl⟩ := r1
    cases ha : z.cps.all (· < 128)
    · exact wpAny_pyIter_wide ha (pi_one (tk := s1.toks) I1 _ (turn_str _ z t "str_iterator" (.inr rfl)) ⟨_, Heap.get?_push_size _ rfl, rfl, rfl⟩ q)
    · exact wpAny_pyIter_ascii ha (pi_one (tk := s1.toks) I1 _ (turn_str _ z t "str_ascii_iterator" (.inl rfl)) ⟨_, Heap.get?_push_size _ rfl, rfl, rfl⟩ q)
def dIt (T : DTE) : DTI := fun ρ Q => T ρ fun r ρ1 => ∃ d ρ2 ds, frz1 ρ1 r = some (.dat d, ρ2) ∧ itemsD d = some ds ∧ Q ds ρ2
theorem yields_items {F : Fx} {A : Own} {σ : St} {H : Hp} {ρ : DS} {d : PyData} {ds : List PyData} {x : V} (R : Rep F A σ H ρ) (h : Da F.K (AvC F A) H d x) (e : itemsD d = some ds) :
    (∃ a, x = .ref a ∧ (∃ xs, SqL F.K H a xs) ∧ Yields false F A H ds (Itl F.K a)) ∨ (∃ a, x = .ref a ∧ (∃ xs, SqT F.K H a xs) ∧ Yields false F A H ds (Itt F.K a)) ∨ ∃ z, x = .str z ∧ Yields false F A H ds (Its z) := by
  have item : ∀ {xs : List V} {i : Nat} {H2 : Hp} {y : V} {Av2 : Addr → Prop}, Das F.K (AvC F A) H ds xs → Stp (AvC F A) H H2 → (∀ b, Av2 b → AvC F A b ∨ H b = none) → (∀ b, Av2 b → H2 b = none ∨ Mut (H2 b)) → xs[i]? = some y → ∃ d, ds[i]? = some d ∧ Da F.K Av2 H2 d y := by
    intro xs i H2 y Av2 hd st av mu hy
    obtain ⟨d, e1, e2⟩ := hd.getV hy
    refine ⟨d, e1, ?_⟩
    have q1 : Da F.K (fun b => AvC F A b ∨ Av2 b) H d y := Da.av (fun b z => z.elim .inl (av b)) d y e2
    have q2 := Da.stp (Av := fun b => AvC F A b ∨ Av2 b) (H' := H2) (fun b z => by
      rcases z with z | z
      · exact R.mu' b z
      · rcases av b z with w | w
        · exact R.mu' b w
        · exact .inl w) (fun b o e n => st b o e fun z => n (.inl z)) d y q1
    exact q2.anti fun b z => .inr z
  cases d with
  | list es =>
    have e' : es = ds := Option.some.inj e
    subst e'
    simp only [Da] at h
    obtain ⟨a, xs, e1, na, q, hd⟩ := h
    refine .inl ⟨a, e1, ⟨xs, SqL.of q⟩, ⟨_, _, (hd.length ▸ walk_list : Walk _ es.length _ (YAt xs)), fun H2 st => SqL.of (st _ _ q na), fun i H2 x H3 Av2 hi st av mu y => ?_⟩⟩
    obtain ⟨y1, y2⟩ := y
    subst y1
    obtain ⟨d, e1, e2⟩ := item hd st av mu y2
    exact ⟨fun _ _ h => h, d, e1, .inl e2⟩
  | tuple es =>
    have e' : es = ds := Option.some.inj e
    subst e'
    simp only [Da] at h
    obtain ⟨a, xs, e1, q, hd⟩ := h
    refine .inr (.inl ⟨a, e1, ⟨xs, q.t⟩, ⟨_, _, (hd.length ▸ walk_tup : Walk _ es.length _ (YAt xs)), fun H2 st => (SqX.stp q R.mu' st).t, fun i H2 x H3 Av2 hi st av mu y => ?_⟩⟩)
    obtain ⟨y1, y2⟩ := y
    subst y1
    obtain ⟨d, e1, e2⟩ := item hd st av mu y2
    exact ⟨fun _ _ h => h, d, e1, .inl e2⟩
  | str z =>
    have e' : z.cps.toList.map chr1 = ds := Option.some.inj e
    subst e'
    have hx : x = .str z := by simpa only [Da] using h
    have hl : (z.cps.toList.map chr1).length = z.cps.size := by simp
    refine .inr (.inr ⟨z, hx, ⟨_, _, (hl ▸ walk_str : Walk _ (z.cps.toList.map chr1).length _ _), fun _ _ => trivial, fun i H2 x H3 Av2 hi st av mu y => ?_⟩⟩)
    obtain ⟨y1, c, y2, y3⟩ := y
    subst y1
    subst y3
    exact ⟨fun _ _ h => h, chr1 c, by simp [List.getElem?_map, y2], .inl (by show Da _ _ _ (.str _) _; simp only [Da])⟩
  | none => cases e
  | bool _ => cases e
  | int _ => cases e
  | dict _ => cases e
theorem di_seq (he : DE K X iter te T) (hK : X.K = K := by rfl) : DI false K X tg iter (iSeq K te) (dIt T) := by
  refine ⟨hK ▸ pi_seq he.p, fun F A σ H ρ R QD hK R0 h k => ?_⟩
  subst hK
  refine he.s F A σ H ρ _ _ rfl R0 h fun r ρ1 v H1 A1 h1 R1 t1 w1 => ?_
  obtain ⟨d, ρ2, ds, e1, e2, h2⟩ := h1
  obtain ⟨A2, R2, t2, w2, _⟩ := R1.frz1 w1.rw e1
  rcases yields_items R2 w2 e2 with ⟨a, e, q, y⟩ | ⟨a, e, q, y⟩ | ⟨z, e, y⟩
  · exact .inl ⟨a, e, q, k _ _ _ _ _ h2 R2 (t1.trans t2) y⟩
  · exact .inr (.inl ⟨a, e, q, k _ _ _ _ _ h2 R2 (t1.trans t2) y⟩)
  · exact .inr (.inr ⟨z, e, k _ _ _ _ _ h2 R2 (t1.trans t2) y⟩)
/-! ### ranges -/
def rngD (lo : Int) (n : Nat) : List PyData := (List.range n).map fun k => .int (lo + (k : Nat))
theorem yields_range {F : Fx} {A : Own} {H : Hp} {lo : Int} {n : Nat} : Yields false F A H (rngD lo n) (Itr lo n) := by
  have hl : (rngD lo n).length = n := by simp [rngD]
  refine ⟨_, _, (hl.symm ▸ walk_range : Walk (Itr lo n) (rngD lo n).length (fun _ => True) (YFn fun i => .int (lo + i))), fun _ _ => trivial, fun i H2 x H3 Av2 hi st av mu y => ?_⟩
  obtain ⟨y1, y2⟩ := y
  subst y1
  subst y2
  rw [hl] at hi
  exact ⟨fun _ _ h => h, .int (lo + (i : Nat)), by simp [rngD, List.getElem?_range hi], .inl (by simp only [Da])⟩
def dRng (TA : DTA) : DTI := fun ρ Q => TA ρ fun rs ρ1 => ∃ ds, looks ρ1 rs = some ds ∧ ∃ j, ds = [.int j] ∧ -(2 ^ 62) ≤ j ∧ j < 2 ^ 62 ∧ Q (rngD 0 j.toNat) ρ1
def dRng2 (TA : DTA) : DTI := fun ρ Q => TA ρ fun rs ρ1 => ∃ ds, looks ρ1 rs = some ds ∧ ∃ i j, ds = [.int i, .int j] ∧ (-(2 ^ 62) ≤ i ∧ i < 2 ^ 62 ∧ -(2 ^ 62) ≤ j ∧ j < 2 ^ 62) ∧ Q (rngD i (j - i).toNat) ρ1
variable {a c : Expr} {TA : DTA} {ta : L2.TA}
theorem dast_int {Av : Addr → Prop} {H : Hp} {j : Int} {v : V} (h : DaT K Av H (.int j) v) : v = .int j := by
  have h' : Da K Av H (.int j) v := h
  simpa only [Da] using h'
theorem di_range (ha : DA K X [a] ta TA) (hg : Gl X "range" := by rfl) (hm : X.mg "range" = none) (hs : starEach [a] X.env = [(false, eval a X.env)] := by rfl) : DI false K X tg (.Call (.Name "range" p) [a] [] pos) (iRng1 ta) (dRng TA) := by
  refine ⟨pi_range1 hg hm ha.p hs, fun F A σ H ρ R QD hK R0 h k => ?_⟩
  refine ha.s F A σ H ρ _ _ hK R0 h fun rs ρ1 vs H1 A1 h1 R1 t1 w1 => ?_
  obtain ⟨ds, e, j, ej, b1, b2, h2⟩ := h1
  subst ej
  have q := R1.looks w1 e
  cases q with
  | cons q1 q2 =>
    cases q2
    rw [dast_int q1]
    exact ⟨j, rfl, b1, b2, k _ _ _ _ _ h2 R1 t1 yields_range⟩
theorem di_range2 (ha : DA K X [a, c] ta TA) (hg : Gl X "range" := by rfl) (hm : X.mg "range" = none) (hs : starEach [a, c] X.env = [(false, eval a X.env), (false, eval c X.env)] := by rfl) (hs2 : starEach [c] X.env = [(false, eval c X.env)] := by rfl) : DI false K X tg (.Call (.Name "range" p) [a, c] [] pos) (iRng2 ta) (dRng2 TA) := by
  refine ⟨pi_range2 hg hm ha.p hs hs2, fun F A σ H ρ R QD hK R0 h k => ?_⟩
  refine ha.s F A σ H ρ _ _ hK R0 h fun rs ρ1 vs H1 A1 h1 R1 t1 w1 => ?_
  obtain ⟨ds, e, i, j, ej, b1, h2⟩ := h1
  subst ej
  have q := R1.looks w1 e
  cases q with
  | cons q1 q2 =>
    cases q2 with
    | cons q3 q4 =>
      cases q4
      rw [dast_int q1, dast_int q3]
      exact ⟨i, j, rfl, b1, k _ _ _ _ _ h2 R1 t1 yields_range⟩
/-! ### while -/
def whileT (TC : DTT) (tb : DTS) (E : DEnds) : Nat → DS → Prop
  | 0, _ => False
  | n + 1, ρ => TC ρ fun b ρ1 => if b = true then tb { nx := whileT TC tb E n, rt := E.rt, bk := E.nx, ct := whileT TC tb E n } ρ1 else E.nx ρ1
def dWhile (TC : DTT) (tb : DTS) : DTS := fun E ρ => ∃ n, whileT TC tb E n ρ
theorem ss_while (sc : TSd K tc TC) (sb : SS K b tb) : SS K (tWhile tc b) (dWhile TC tb) := by
  intro F A σ H ρ D E hK R h k
  obtain ⟨n, h⟩ := h
  refine ⟨fun m σ2 H2 => ∃ A2 ρ2, Rep F A2 σ2 H2 ρ2 ∧ Tr F A H A2 H2 ∧ whileT TC tb E m ρ2, ⟨n, A, ρ, R, .refl, h⟩, fun m σ2 H2 q => ?_⟩
  obtain ⟨A2, ρ2, R2, t2, q⟩ := q
  cases m with
  | zero => exact q.elim
  | succ m =>
    refine sc F A2 σ2 H2 ρ2 _ _ hK R2 q fun c ρ3 H3 A3 q3 R3 t3 => ?_
    cases c with
    | false =>
      rw [if_neg (by decide)] at q3 ⊢
      exact k.1 _ _ _ _ q3 R3 (t2.trans t3)
    | true =>
      rw [if_pos rfl] at q3 ⊢
      have t23 := t2.trans t3
      refine ⟨fun σ' H' => ∃ A2 ρ2, Rep F A2 σ' H' ρ2 ∧ Tr F A H A2 H' ∧ whileT TC tb E m ρ2, fun σ' H' q => ⟨m, Nat.lt_succ_self m, q⟩, ?_⟩
      exact sb F A3 σ2 H3 ρ3 _ _ hK R3 q3 ⟨fun ρ4 σ4 H4 A4 q4 R4 t4 => ⟨A4, ρ4, R4, t23.trans t4, q4⟩, fun r ρ4 v σ4 H4 A4 q4 R4 t4 w4 => k.2.1 _ _ _ _ _ _ q4 R4 (t23.trans t4) (w4.back t23.trk),
        fun ρ4 σ4 H4 A4 q4 R4 t4 => k.1 _ _ _ _ q4 R4 (t23.trans t4), fun ρ4 σ4 H4 A4 q4 R4 t4 => ⟨A4, ρ4, R4, t23.trans t4, q4⟩⟩
theorem ds_while {c : Expr} {body : List Stmt} (hp : PassesOwn (model X.prog X.w) X.A X.env X.xe) (hc : DT K X c tc TC) (hb : DSs K X body b tb) : DSt K X (.While c body [] pos) (tWhile tc b) (dWhile TC tb) := ⟨ps_while hp hc.p hb.p, ss_while hc.s hb.s⟩
/-! ### [e for x in xs if t] -/
def wipeD (ρ : DS) : List Nat → DS
  | [] => ρ
  | v :: vs => (wipeD ρ vs).set v none
def wipeA (A : Own) (vs : List Nat) : Own := fun i => if i ∈ vs then none else A i
theorem wipeD_len (ρ : DS) : ∀ vs, (wipeD ρ vs).length = ρ.length
  | [] => rfl
  | v :: vs => by unfold wipeD; rw [List.length_set, wipeD_len ρ vs]
theorem wipeD_some {ρ : DS} {i : Nat} {x : SV} : ∀ {vs : List Nat}, (wipeD ρ vs)[i]? = some (some x) → ρ[i]? = some (some x) ∧ i ∉ vs
  | [], h => ⟨h, by simp⟩
  | v :: vs, h => by
    unfold wipeD at h
    by_cases hi : v = i
    · subst hi
      by_cases hv : v < (wipeD ρ vs).length
      · rw [List.getElem?_set_self hv] at h; cases h
      · rw [List.getElem?_eq_none (by simpa using hv)] at h; cases h
    · rw [List.getElem?_set_ne hi] at h
      obtain ⟨h1, h2⟩ := wipeD_some h
      exact ⟨h1, by simp only [List.mem_cons, not_or]; exact ⟨fun e => hi e.symm, h2⟩⟩
theorem wipe_in {σ : St} {i : Nat} {x : V} : ∀ {vs : List Nat}, σ[i]? = some (some x) → i ∉ vs → (wipe σ vs)[i]? = some (some x)
  | [], h, _ => h
  | v :: vs, h, n => by
    unfold wipe
    rw [List.getElem?_set_ne (fun z => n (by rw [z]; exact List.mem_cons_self))]
    exact wipe_in h fun z => n (List.mem_cons_of_mem _ z)
theorem wipeD_in {σ : DS} {i : Nat} {x : SV} : ∀ {vs : List Nat}, σ[i]? = some (some x) → i ∉ vs → (wipeD σ vs)[i]? = some (some x)
  | [], h, _ => h
  | v :: vs, h, n => by
    unfold wipeD
    rw [List.getElem?_set_ne (fun z => n (by rw [z]; exact List.mem_cons_self))]
    exact wipeD_in h fun z => n (List.mem_cons_of_mem _ z)
theorem wipeA_av {F : Fx} {A : Own} {vs : List Nat} {b : Addr} (h : AvC F (wipeA A vs) b) : AvC F A b := by
  rcases h with h | ⟨i, h⟩
  · exact .inl h
  · unfold wipeA at h
    split at h
    · cases h
    · exact .inr ⟨i, h⟩
theorem wipeA_tr {F : Fx} {A : Own} {H : Hp} {vs : List Nat} : Tr F A H (wipeA A vs) H := ⟨fun b o h _ => h, fun i b h => by
  unfold wipeA at h
  split at h
  · cases h
  · exact .inl ⟨i, h⟩, fun _ h => h⟩
/-- slots forgotten, here or there -/
theorem Rep.wipe2 {F : Fx} {A : Own} {σ σ' : St} {H : Hp} {ρ : DS} {vs : List Nat} (R : Rep F A σ H ρ) (hl : σ'.length = σ.length) (hs : ∀ i v, i ∉ vs → σ[i]? = some (some v) → σ'[i]? = some (some v)) : Rep F (wipeA A vs) σ' H (wipeD ρ vs) := by
  refine ⟨by rw [wipeD_len, R.len, hl], fun i sv e => ?_, fun i a e => ?_, fun i j a e1 e2 => ?_, fun i a e => ?_, fun b z => R.mu b (wipeA_av z), R.keep, R.dav, R.deck⟩
  · obtain ⟨e1, n⟩ := wipeD_some e
    obtain ⟨v, e2, s⟩ := R.slot i sv e1
    refine ⟨v, hs i v n e2, ?_⟩
    cases sv with
    | dat d => exact Da.anti (fun b z => wipeA_av z) s
    | own xs =>
      obtain ⟨a, ws, q1, q2, q3, q4⟩ := s
      exact ⟨a, ws, by unfold wipeA; rw [if_neg n]; exact q1, q2, q3, q4.anti fun b z => wipeA_av z⟩
    | orf j => exact s
    | dk => exact s
    | scr ns => exact s
    | dct kvs =>
      obtain ⟨a, q1, q2, q3⟩ := s
      exact ⟨a, by unfold wipeA; rw [if_neg n]; exact q1, q2, q3⟩
  · unfold wipeA at e
    split at e
    · cases e
    · rename_i n
      obtain ⟨xs, q, hq⟩ := R.ownA i a e
      exact ⟨xs, wipeD_in q n, hq⟩
  · unfold wipeA at e1 e2
    split at e1
    · cases e1
    · split at e2
      · cases e2
      · exact R.inj i j a e1 e2
  · unfold wipeA at e
    split at e
    · cases e
    · exact R.fresh i a e
def lcT (g : DTG) (tt : DTT) (te : DTE) (vs : List Nat) (Kc : List PyData → DS → Prop) : List PyData → List PyData → DS → Prop
  | [], acc, ρ => Kc acc ρ
  | d :: ds, acc, ρ => g d (wipeD ρ vs) fun ρ1 => tt ρ1 fun b ρ2 => if b = true then te ρ2 fun r ρ3 => ∃ d' ρ4, frz1 ρ3 r = some (.dat d', ρ4) ∧ acc.length < sizeLine ∧ lcT g tt te vs Kc ds (acc ++ [d']) ρ4 else lcT g tt te vs Kc ds acc ρ2
def dLc (W : DTI) (g : DTG) (tt : DTT) (te : DTE) (vs : List Nat) : DTE := fun ρ QD => W ρ fun ds ρ1 => lcT g tt te vs (fun acc ρ' => QD (.own acc) (wipeD ρ' vs)) ds [] ρ1
theorem Rep.resig {F : Fx} {A : Own} {σ σ' : St} {H : Hp} {ρ : DS} (R : Rep F A σ H ρ) (hl : σ'.length = σ.length) (hs : ∀ (i : Nat) v, σ[i]? = some (some v) → σ'[i]? = some (some v)) : Rep F A σ' H ρ :=
  ⟨by rw [R.len, hl], fun i sv e => let ⟨v, e1, s⟩ := R.slot i sv e; ⟨v, hs i v e1, s⟩, R.ownA, R.inj, R.fresh, R.mu, R.keep, R.dav, R.deck⟩
theorem Rep.minus {F : Fx} {A : Own} {σ : St} {H : Hp} {ρ : DS} {D : Addr} (R : Rep (F.plus D) A σ H ρ) (dv : ∀ b, isDk F.dk b → F.Av b) : Rep F A σ H ρ := by
  have av : ∀ b, AvC F A b → AvC (F.plus D) A b := fun b z => avc_plus.mpr (.inl z)
  refine ⟨R.len, fun i sv e => ?_, R.ownA, R.inj, fun i a e => ⟨(R.fresh i a e).1, fun z => (R.fresh i a e).2 (.inl z)⟩, fun b z => R.mu b (av b z), R.keep, dv, R.deck⟩
  obtain ⟨v, e1, s⟩ := R.slot i sv e
  refine ⟨v, e1, ?_⟩
  cases sv with
  | dat d => exact Da.anti av s
  | own xs =>
    obtain ⟨a, ws, q1, q2, q3, q4⟩ := s
    exact ⟨a, ws, q1, q2, q3, q4.anti av⟩
  | orf j => exact s
  | dk => exact s
  | scr ns => exact s
  | dct kvs => exact s
/-- a list that is avoided, and no name's own, is written -/
theorem Rep.wrote {F : Fx} {A : Own} {σ : St} {H : Hp} {ρ : DS} {D : Addr} {ws : List V} (R : Rep F A σ H ρ) (hD : F.Av D) (h0 : F.H0 D = none) (nk : ¬ isDk F.dk D) : Rep F A σ (upd H D (.lst ws)) ρ := by
  have st : Stp (AvC F A) H (upd H D (.lst ws)) := fun b o e n => by
    rw [upd_ne (fun z => n (by rw [z]; exact .inl hD))]
    exact e
  refine ⟨R.len, fun i sv e => ?_, R.ownA, R.inj, R.fresh, fun b z => ?_, fun b o e n => ?_, R.dav, fun a l e => ?_⟩
  · obtain ⟨u, e1, q⟩ := R.slot i sv e
    refine ⟨u, e1, ?_⟩
    cases sv with
    | dat d => exact Da.stp R.mu' st d u q
    | own xs =>
      obtain ⟨a, vs, q1, q2, q3, q4⟩ := q
      have na : a ≠ D := fun z => (R.fresh i a q1).2 (by rw [z]; exact hD)
      exact ⟨a, vs, q1, q2, by rw [upd_ne na]; exact q3, Das.stp R.mu' st _ _ q4⟩
    | orf j => exact q
    | dk => exact q
    | scr ns => exact q
    | dct kvs =>
      obtain ⟨a, q1, q2, q3⟩ := q
      have na : a ≠ D := fun z => (R.fresh i a q1).2 (by rw [z]; exact hD)
      exact ⟨a, q1, q2, by rw [upd_ne na]; exact q3⟩
  · by_cases hb : b = D
    · rw [hb, upd_same]; trivial
    · rw [upd_ne hb]; exact R.mu b z
  · have nb : b ≠ D := fun z => by rw [z, h0] at e; cases e
    rw [upd_ne nb]; exact R.keep b o e n
  · exact (R.deck a l e).st fun b o m h => by
      rw [upd_ne (fun z => nk ⟨a, l, e, by rw [← z]; exact m⟩)]
      exact h
theorem Tr.plus {F : Fx} {A A' : Own} {H H' : Hp} {D : Addr} (t : Tr (F.plus D) A H A' H') : Tr F A H A' H' := ⟨t.stp, t.nw, t.trk⟩
theorem wipe_idem {σ : St} {vs : List Nat} : L2.wipe (L2.wipe σ vs) vs = L2.wipe σ vs := by
  have e2 : ∀ l : List Nat, (∀ i ∈ l, i ∈ vs) → L2.wipe (L2.wipe σ vs) l = L2.wipe σ vs := by
    intro l
    induction l with
    | nil => intro _; rfl
    | cons j l ih =>
      intro hj
      show (L2.wipe (L2.wipe σ vs) l).set j none = L2.wipe σ vs
      rw [ih fun i hi => hj i (List.mem_cons_of_mem _ hi)]
      have hjv := hj j List.mem_cons_self
      apply List.ext_getElem?
      intro n
      by_cases hn : n = j
      · subst hn
        by_cases hl : n < (L2.wipe σ vs).length
        · rw [List.getElem?_set_self hl]
          cases q : (L2.wipe σ vs)[n]? with
          | none => rw [List.getElem?_eq_none_iff] at q; omega
          | some o =>
            cases o with
            | none => rfl
            | some v => exact absurd hjv (wipe_some q).2
        · rw [List.getElem?_eq_none (by simpa using hl), List.getElem?_eq_none (by simpa using hl)]
      · rw [List.getElem?_set_ne (Ne.symm hn)]
  exact e2 vs fun _ h => h
theorem es_lc {wk : Bool} {vs : List Nat} (si : IS wk K wi W) (sg : GS wk K gg g is) (hv : ∀ i ∈ is, i ∈ vs) (st : TSd K tc TC) (se : ES K te T) : ES K (tLc wi gg tc te vs) (dLc W g TC T vs) := by
  intro F A σ H ρ Q QD hK R h k
  refine si F A σ H ρ _ _ hK R h fun ds ρ1 H1 A1 J h1 R1 t1 y => ?_
  intro D nD
  obtain ⟨G, Y, w, hG, hY⟩ := y.run
  have s1 : Same H1 (upd H1 D (.lst [])) := sameUpd nD
  have RD : Rep (F.plus D) A1 σ (upd H1 D (.lst [])) ρ1 := R1.grow nD s1 (by rw [upd_same]; trivial)
  have nk : ¬ isDk F.dk D := fun z => R1.notin nD (.inl (R1.dav D z))
  have h0 : F.H0 D = none := R1.new0 nD
  refine lc_it w (fun i H2 => ∃ A2 ρ2 acc vacc, Rep (F.plus D) A2 (L2.wipe σ vs) H2 (wipeD ρ2 vs) ∧ Tr F A1 H1 A2 H2 ∧ H2 D = some (.lst vacc) ∧ Das F.K (AvC (F.plus D) A2) H2 acc vacc ∧ lcT g TC T vs (fun acc ρ' => QD (.own acc) (wipeD ρ' vs)) (ds.drop i) acc ρ2)
    ⟨wipeA A1 vs, ρ1, [], [], RD.wipe2 (wipe_length _ _) (fun i v n e => wipe_in e n), (sameTr s1).trans wipeA_tr, upd_same, Das.nil, h1⟩ (fun i H2 _ ⟨A2, ρ2, acc, vacc, R2, t2, _⟩ => hG H2 (R1.stp t2)) (fun i x H2 H3 hi q y => ?_) fun H2 q => ?_
  · obtain ⟨A2, ρ2, acc, vacc, R2, t2, hD, hacc, h2⟩ := q
    have av : ∀ b, AvC (F.plus D) A2 b → AvC F A1 b ∨ H1 b = none := fun b z => by
      rcases avc_plus.mp z with z | z
      · exact t2.av b z
      · exact .inr (by rw [z]; exact nD)
    obtain ⟨s, d, ed, hd⟩ := hY i H2 x H3 (AvC (F.plus D) A2) hi (R1.stp t2) av R2.mu' y
    have ec : ds.drop i = d :: ds.drop (i + 1) := by
      obtain ⟨hl, e⟩ := List.getElem?_eq_some_iff.mp ed
      rw [← e]
      exact List.drop_eq_getElem_cons hl
    rw [ec] at h2
    have notWr : ∀ {A' : Own} {σ' : St} {H' : Hp} {ρ' : DS}, Rep (F.plus D) A' σ' H' ρ' → ¬ Wr (F.plus D) A' D := fun {A' σ' H' ρ'} R' z => by
      rcases z with z | ⟨j, z⟩
      · exact nk z
      · exact (R'.fresh j D z).2 (.inr rfl)
    refine sg (F.plus D) A2 _ H3 _ x d _ _ hK (R2.same s) hd h2 fun ρ3 σ3 A3 q3 R3 t3 w3 => ⟨(w3 vs hv).trans wipe_idem, ?_⟩
    have t13 : Tr F A1 H1 A3 H3 := t2.trans ((sameTr s).trans t3.plus)
    have hD3 : H3 D = some (.lst vacc) := s _ _ hD
    have hacc3 : Das F.K (AvC (F.plus D) A3) H3 acc vacc := (R2.same s).das t3 (Das.stp R2.mu' (sameStp s) _ _ hacc)
    refine st (F.plus D) A3 σ3 H3 ρ3 _ _ hK R3 q3 fun c ρ4 H4 A4 q4 R4 t4 => ?_
    have hσ : ∀ i v, i ∉ vs → σ3[i]? = some (some v) → (L2.wipe σ vs)[i]? = some (some v) := fun i v n e => by
      have e2 := wipe_in (vs := vs) e n
      rw [w3 vs hv, wipe_idem] at e2
      exact e2
    have hσl : (L2.wipe σ vs).length = σ3.length := by
      have e1 := congrArg List.length (w3 vs hv)
      rw [wipe_length, wipe_length] at e1
      exact e1.symm
    have hD4 : H4 D = some (.lst vacc) := t4.stp D _ hD3 (notWr R3)
    have hacc4 := R3.das t4 hacc3
    cases c with
    | false =>
      rw [if_neg (by decide)] at q4 ⊢
      exact ⟨wipeA A4 vs, ρ4, acc, vacc, R4.wipe2 hσl hσ, t13.trans (t4.plus.trans wipeA_tr), hD4, hacc4.anti fun b z => wipeA_av z, q4⟩
    | true =>
      rw [if_pos rfl] at q4 ⊢
      refine se (F.plus D) A4 σ3 H4 ρ4 _ _ hK R4 q4 fun r ρ5 v H5 A5 q5 R5 t5 w5 => ?_
      obtain ⟨d', ρ6, e6, hlen, q6⟩ := q5
      obtain ⟨A6, R6, t6, w6, _⟩ := R5.frz1 w5.rw e6
      have hD5 : H5 D = some (.lst vacc) := t5.stp D _ hD4 (notWr R4)
      have hacc6 : Das F.K (AvC (F.plus D) A6) H5 acc vacc := R5.das t6 (R4.das t5 hacc4)
      have hl := hacc6.length
      refine ⟨vacc, hD5, by omega, ?_⟩
      have RD6 : Rep (F.plus D) A6 σ3 (upd H5 D (.lst (vacc ++ [v]))) ρ6 := R6.wrote (.inr rfl) h0 nk
      have stD : Stp (AvC (F.plus D) A6) H5 (upd H5 D (.lst (vacc ++ [v]))) := fun b o e n => by
        rw [upd_ne (fun z => n (by rw [z]; exact .inl (.inr rfl)))]
        exact e
      have t16 : Tr F A1 H1 A6 H5 := t13.trans (t4.plus.trans (t5.plus.trans t6.plus))
      have tD : Tr F A1 H1 A6 (upd H5 D (.lst (vacc ++ [v]))) := by
        refine ⟨fun b o e n => ?_, t16.nw, fun b e => ?_⟩
        · rw [upd_ne (fun z => by rw [z, nD] at e; cases e)]
          exact t16.stp b o e n
        · by_cases hb : b = D
          · rw [hb]; exact nD
          · rw [upd_ne hb] at e; exact t16.trk b e
      have w6' : Da F.K (AvC (F.plus D) A6) H5 d' v := w6
      exact ⟨wipeA A6 vs, ρ6, acc ++ [d'], vacc ++ [v], RD6.wipe2 hσl hσ, tD.trans wipeA_tr, upd_same,
        (Das.stp R6.mu' stD _ _ (Das.app hacc6 (Das.cons w6' Das.nil))).anti fun b z => wipeA_av z, q6⟩
  · obtain ⟨A2, ρ2, acc, vacc, R2, t2, hD, hacc, h2⟩ := q
    rw [List.drop_length] at h2
    have R3 : Rep (F.plus D) A2 σ H2 (wipeD ρ2 vs) := R2.resig (wipe_length _ _).symm fun i v e => (wipe_some e).1
    have R4 : Rep F A2 σ H2 (wipeD ρ2 vs) := R3.minus R1.dav
    refine k _ _ _ _ A2 h2 R4 (t1.trans t2) ⟨D, vacc, rfl, t1.trk D nD, h0, fun z => ?_, hD, hacc, R3⟩
    rcases z with z | ⟨i, z⟩
    · exact R1.notin nD (.inl z)
    · exact (R2.fresh i D z).2 (.inr rfl)
structure DTs (K : PySem.W.Frag) (X : Cx) (ifs : List Expr) (t : TT) (T : DTT) : Prop where
  p : PTs X ifs t
  s : TSd K t T
def dYes : DTT := fun ρ Q => Q true ρ
theorem dts_nil : DTs K X [] tYes dYes := ⟨pts_nil, fun F A σ H ρ Q QD hK R h k => k _ _ _ A h R .refl⟩
theorem dts_one {c : Expr} (h : DT K X c tc TC) : DTs K X [c] tc TC := ⟨pts_one h.p, h.s⟩
theorem de_lc {wk : Bool} {elt : Expr} {ifs : List Expr} {scope : Scope} (own : List (Str × Nat)) (hc : X.calm = true) (hN : X.N.Nodup) (hi : DI wk K X tg iter wi W) (ok : BlkOk X.N X.env.scope scope own)
    (hg : ∀ (s : Shared) (H : Hp) (C : Addr) (cl : List (Str × Addr)) (fp : List Addr), DG wk K (X.blk s H scope (compEnvC scope cl C X.env) fp) tg gg g is) (hv : ∀ i ∈ is, i ∈ own.map (·.2))
    (ht : ∀ (s : Shared) (H : Hp) (C : Addr) (cl : List (Str × Addr)) (fp : List Addr), DTs K (X.blk s H scope (compEnvC scope cl C X.env) fp) ifs tc TC)
    (he : ∀ (s : Shared) (H : Hp) (C : Addr) (cl : List (Str × Addr)) (fp : List Addr), DE K (X.blk s H scope (compEnvC scope cl C X.env) fp) elt te T) (hs : ∀ x, foldedSetIterable iter X.env x = pure x := by intro _; rfl) :
    DE K X (.ListComp elt [⟨tg, iter, ifs, 0⟩] scope pos) (tLc wi gg tc te (own.map (·.2))) (dLc W g TC T (own.map (·.2))) := by
  refine ⟨pe_lc hc hN hi.p ok (fun s H C cl fp => (hg s H C cl fp).p) (fun s H C cl fp => (ht s H C cl fp).p) (fun s H C cl fp => (he s H C cl fp).p) hs, ?_⟩
  intro F A σ H ρ Q QD hK R h k
  -- the block's own readings do not hang on where it stands
  have z : ∀ P : Prop, (∀ (s : Shared) (H : Hp) (C : Addr) (cl : List (Str × Addr)) (fp : List Addr), P) → P := fun P f => f X.s_0 X.H_0 0 [] []
  exact es_lc hi.s (z _ fun s H C cl fp => (hg s H C cl fp).s) hv (z _ fun s H C cl fp => (ht s H C cl fp).s) (z _ fun s H C cl fp => (he s H C cl fp).s) F A σ H ρ Q QD hK R h k
end
end DL
namespace DL
open PySem L2

/-! ### a value that waits for its name -/
def Held (F F' : Fx) (Hs : Hp) (A : Own) (H : Hp) (v : V) : SV → Prop
  | .dat d => F' = F ∧ Da F.K (AvC F A) H d v
  | .dk => F' = F ∧ ∃ a l, F.dk = some (a, l) ∧ v = .ref a
  | .scr _ => False
  | .dct _ => False
  | .own xs => ∃ a vs, F' = F.plus a ∧ v = .ref a ∧ Hs a = none ∧ F.H0 a = none ∧ ¬ AvC F A a ∧ (∀ b, isDk F.dk b → F.Av b) ∧ H a = some (.lst vs) ∧ Das F.K (AvC (F.plus a) A) H xs vs
  | .orf _ => False
section
variable {F F' : Fx} {A A2 As : Own} {σ σ2 : St} {H H2 Hs : Hp} {ρ ρ2 ρ' : DS} {v : V} {r sv : SV}
theorem Rep.hold (R : Rep F A σ H ρ) (t : Tr F As Hs A H) (w : RR F A σ Hs H ρ v r) (e : sto1 ρ r = some (sv, ρ')) : ∃ F' A', Rep F' A' σ H ρ' ∧ F'.K = F.K ∧ F'.dk = F.dk ∧ Tr F As Hs A' H ∧ Held F F' Hs A' H v sv := by
  have other : DL.frz1 ρ r = some (sv, ρ') → ∃ F' A', Rep F' A' σ H ρ' ∧ F'.K = F.K ∧ F'.dk = F.dk ∧ Tr F As Hs A' H ∧ Held F F' Hs A' H v sv := fun e => by
    obtain ⟨A1, R1, t1, w1, k1⟩ := R.frz1 w.rw e
    refine ⟨F, A1, R1, rfl, rfl, t.trans t1, ?_⟩
    rcases k1 with ⟨d, rfl⟩ | rfl
    · exact ⟨rfl, w1⟩
    · exact ⟨rfl, w1⟩
  cases r with
  | dat d => exact other e
  | dk => exact other e
  | scr ns => exact other e
  | dct kvs => exact other e
  | orf j => exact other e
  | own xs =>
    have e' : SV.own xs = sv ∧ ρ = ρ' := by simpa [sto1] using e
    obtain ⟨rfl, rfl⟩ := e'
    obtain ⟨a, vs, rfl, n, h0, na, q, h, R2⟩ := w
    exact ⟨F.plus a, A, R2, rfl, rfl, t, a, vs, rfl, rfl, n, h0, na, R.dav, q, h⟩
theorem Held.tr (h : Held F F' Hs A H v sv) (R : Rep F' A σ H ρ) (t : Tr F' A H A2 H2) (R2 : Rep F' A2 σ2 H2 ρ2) : Held F F' Hs A2 H2 v sv := by
  cases sv with
  | dat d =>
    obtain ⟨rfl, h⟩ := h
    exact ⟨rfl, R.da t h⟩
  | dk => exact h
  | scr ns => exact h
  | dct kvs => exact h
  | orf j => exact h
  | own xs =>
    obtain ⟨a, vs, rfl, e, n, h0, na, dv, q, h⟩ := h
    refine ⟨a, vs, rfl, e, n, h0, fun z => ?_, dv, ?_, R.das t h⟩
    · rcases z with z | ⟨i, z⟩
      · exact na (.inl z)
      · exact (R2.fresh i a z).2 (.inr rfl)
    · refine t.stp a _ q fun z => ?_
      rcases z with z | ⟨i, z⟩
      · exact na (.inl (dv a z))
      · exact (R.fresh i a z).2 (.inr rfl)
theorem Held.put (h : Held F F' Hs A H v sv) (R : Rep F' A σ H ρ) (t : Tr F As Hs A H) {i : Nat} (hi : i < ρ.length) : ∃ A', Rep F A' (σ.set i (some v)) H (ρ.set i (some sv)) ∧ Tr F As Hs A' H := by
  cases sv with
  | dat d =>
    obtain ⟨rfl, h⟩ := h
    exact ⟨_, R.setDat hi h, t.trans delA_tr⟩
  | dk =>
    obtain ⟨rfl, h⟩ := h
    exact ⟨_, R.setDk hi h, t.trans delA_tr⟩
  | scr ns => exact h.elim
  | dct kvs => exact h.elim
  | orf j => exact h.elim
  | own xs =>
    obtain ⟨a, vs, rfl, rfl, n, h0, na, dv, q, h⟩ := h
    refine ⟨_, Rep.setOwn dv R hi h0 na q h, t.stp, fun j b z => ?_, t.trk⟩
    unfold setA at z
    split at z
    · exact .inr (by rw [← Option.some.inj z]; exact n)
    · exact t.nw j b z
theorem Tr.cast {F F' : Fx} {A A' : Own} {H H' : Hp} (e : F'.dk = F.dk) (t : Tr F' A H A' H') : Tr F A H A' H' := by
  refine ⟨fun b o h n => t.stp b o h fun z => n ?_, t.nw, t.trk⟩
  rcases z with z | z
  · exact .inl (by rw [← e]; exact z)
  · exact .inr z
end
section
variable {K : PySem.W.Frag} {X : Cx} {a b c e o : Expr} {Ta Tb Tc T : DTE} {ta tb tc te : TE} {pos p : Pos}
/-- x, y = a, b -/
def dPar (i j : Nat) (Ta Tb : DTE) : DTS := fun E ρ => Ta ρ fun r1 ρ1 => ∃ s1 ρ1', sto1 ρ1 r1 = some (s1, ρ1') ∧ Tb ρ1' fun r2 ρ2 => ∃ s2 ρ3, sto1 ρ2 r2 = some (s2, ρ3) ∧ (i < ρ3.length ∧ j < ρ3.length) ∧ E.nx ((ρ3.set i (some s1)).set j (some s2))
theorem ss_par {i j : Nat} (hij : i ≠ j) (sa : ES K ta Ta) (sb : ES K tb Tb) : SS K (tPar i j (tCons ta (tCons tb tNil))) (dPar i j Ta Tb) := by
  intro F A σ H ρ D E hK R h k
  refine sa F A σ H ρ _ _ hK R h fun r1 ρ1 v1 H1 A1 h1 R1 t1 w1 => ?_
  obtain ⟨s1, ρ1', e1, h1⟩ := h1
  obtain ⟨F1, A1', R1', k1, d1, t1', hd1⟩ := R1.hold t1 w1 e1
  refine sb F1 A1' σ H1 ρ1' _ _ (k1.trans hK) R1' h1 fun r2 ρ2 v2 H2 A2 h2 R2 t2 w2 => ?_
  obtain ⟨s2, ρ3, e2, hl, h2⟩ := h2
  obtain ⟨F2, A3, R3, k2, d2, t3, hd2⟩ := R2.hold t2 w2 e2
  obtain ⟨A4, R4, t4⟩ := hd2.put R3 t3 hl.2
  have hd1' := hd1.tr R1' t4 R4
  obtain ⟨A5, R5, t5⟩ := hd1'.put R4 (t1'.trans (t4.cast d1)) (by simpa using hl.1)
  rw [List.set_comm _ _ (Ne.symm hij), List.set_comm _ _ (Ne.symm hij)] at R5
  exact ⟨v1, v2, rfl, k.1 _ _ _ _ h2 R5 t5⟩
theorem ds_par {x y : Str} {px py pt : Pos} {kt k2 pt2} (i j : Nat) (hc : X.calm = true) (hN : X.N.Nodup) (ha : DE K X a ta Ta) (hb : DE K X b tb Tb) (hi : X.N[i]? = some x := by rfl) (hj : X.N[j]? = some y := by rfl) (hij : i ≠ j := by decide)
    (hx : X.env.scope.names.lookup x = some .local := by rfl) (hy : X.env.scope.names.lookup y = some .local := by rfl)
    (hw : swappedStores [.Tuple [.Name x px, .Name y py] kt pt] (.Tuple [a, b] k2 pt2) X.env = pure (some [x, y]) := by rfl)
    (hs : swapsWithSole [.Tuple [.Name x px, .Name y py] kt pt] (.Tuple [a, b] k2 pt2) pos.line X.env = pure false := by rfl)
    (hs1 : starEach [a, b] X.env = (false, eval a X.env) :: starEach [b] X.env := by rfl) (hs2 : starEach [b] X.env = (false, eval b X.env) :: starEach [] X.env := by rfl) :
    DSt K X (.Assign [.Tuple [.Name x px, .Name y py] kt pt] (.Tuple [a, b] k2 pt2) pos) (tPar i j (tCons ta (tCons tb tNil))) (dPar i j Ta Tb) :=
  ⟨ps_par hc hN hi hj hij hx hy (pa_cons ha.p (pa_cons hb.p pa_nil hs2) hs1) hw hs, ss_par hij ha.s hb.s⟩
/-- x, y, z = a, b, c -/
def dPar3 (i j l : Nat) (Ta Tb Tc : DTE) : DTS := fun E ρ => Ta ρ fun r1 ρ1 => ∃ s1 ρ1', sto1 ρ1 r1 = some (s1, ρ1') ∧ Tb ρ1' fun r2 ρ2 => ∃ s2 ρ2', sto1 ρ2 r2 = some (s2, ρ2') ∧ Tc ρ2' fun r3 ρ3 => ∃ s3 ρ4, sto1 ρ3 r3 = some (s3, ρ4) ∧
  (i < ρ4.length ∧ j < ρ4.length ∧ l < ρ4.length) ∧ E.nx (((ρ4.set i (some s1)).set j (some s2)).set l (some s3))
theorem ss_par3 {i j l : Nat} (hij : i ≠ j) (hil : i ≠ l) (hjl : j ≠ l) (sa : ES K ta Ta) (sb : ES K tb Tb) (sc : ES K tc Tc) : SS K (tPar3 i j l (tCons ta (tCons tb (tCons tc tNil)))) (dPar3 i j l Ta Tb Tc) := by
  intro F A σ H ρ D E hK R h k
  refine sa F A σ H ρ _ _ hK R h fun r1 ρ1 v1 H1 A1 h1 R1 t1 w1 => ?_
  obtain ⟨s1, ρ1', e1, h1⟩ := h1
  obtain ⟨F1, A1', R1', k1, d1, t1', hd1⟩ := R1.hold t1 w1 e1
  refine sb F1 A1' σ H1 ρ1' _ _ (k1.trans hK) R1' h1 fun r2 ρ2 v2 H2 A2 h2 R2 t2 w2 => ?_
  obtain ⟨s2, ρ2', e2, h2⟩ := h2
  obtain ⟨F2, A2', R2', k2, d2, t2', hd2⟩ := R2.hold t2 w2 e2
  refine sc F2 A2' σ H2 ρ2' _ _ (k2.trans (k1.trans hK)) R2' h2 fun r3 ρ3 v3 H3 A3 h3 R3 t3 w3 => ?_
  obtain ⟨s3, ρ4, e3, hl, h3⟩ := h3
  obtain ⟨F3, A3', R3', k3, d3, t3', hd3⟩ := R3.hold t3 w3 e3
  obtain ⟨A4, R4, t4⟩ := hd3.put R3' t3' hl.2.2
  have hd2' := hd2.tr R2' t4 R4
  have t24 := t2'.trans (t4.cast d2)
  obtain ⟨A5, R5, t5⟩ := hd2'.put R4 t24 (by simpa using hl.2.1)
  have hd1' := hd1.tr R1' t5 R5
  obtain ⟨A6, R6, t6⟩ := hd1'.put R5 (t1'.trans (t5.cast d1)) (by simpa using hl.1)
  have e1 : ((ρ4.set l (some s3)).set j (some s2)).set i (some s1) = ((ρ4.set i (some s1)).set j (some s2)).set l (some s3) := by
    rw [List.set_comm _ _ (Ne.symm hjl), List.set_comm (i := l) _ _ (Ne.symm hil), List.set_comm _ _ (Ne.symm hij)]
  have e2 : ((σ.set l (some v3)).set j (some v2)).set i (some v1) = ((σ.set i (some v1)).set j (some v2)).set l (some v3) := by
    rw [List.set_comm _ _ (Ne.symm hjl), List.set_comm (i := l) _ _ (Ne.symm hil), List.set_comm _ _ (Ne.symm hij)]
  rw [e1, e2] at R6
  exact ⟨v1, v2, v3, rfl, k.1 _ _ _ _ h3 R6 t6⟩
theorem ds_par3 {x y z : Str} {px py pz pt : Pos} {kt k2 pt2} (i j l : Nat) (hc : X.calm = true) (hN : X.N.Nodup) (ha : DE K X a ta Ta) (hb : DE K X b tb Tb) (hcc : DE K X c tc Tc) (hi : X.N[i]? = some x := by rfl) (hj : X.N[j]? = some y := by rfl) (hl : X.N[l]? = some z := by rfl)
    (hij : i ≠ j := by decide) (hil : i ≠ l := by decide) (hjl : j ≠ l := by decide)
    (hx : X.env.scope.names.lookup x = some .local := by rfl) (hy : X.env.scope.names.lookup y = some .local := by rfl) (hz : X.env.scope.names.lookup z = some .local := by rfl)
    (hw : swappedStores [.Tuple [.Name x px, .Name y py, .Name z pz] kt pt] (.Tuple [a, b, c] k2 pt2) X.env = pure (some [x, y, z]) := by rfl)
    (hs : swapsWithSole [.Tuple [.Name x px, .Name y py, .Name z pz] kt pt] (.Tuple [a, b, c] k2 pt2) pos.line X.env = pure false := by rfl)
    (hs1 : starEach [a, b, c] X.env = (false, eval a X.env) :: starEach [b, c] X.env := by rfl) (hs2 : starEach [b, c] X.env = (false, eval b X.env) :: starEach [c] X.env := by rfl) (hs3 : starEach [c] X.env = (false, eval c X.env) :: starEach [] X.env := by rfl) :
    DSt K X (.Assign [.Tuple [.Name x px, .Name y py, .Name z pz] kt pt] (.Tuple [a, b, c] k2 pt2) pos) (tPar3 i j l (tCons ta (tCons tb (tCons tc tNil)))) (dPar3 i j l Ta Tb Tc) :=
  ⟨ps_par3 hc hN hi hj hl hij hil hjl hx hy hz (pa_cons ha.p (pa_cons hb.p (pa_cons hcc.p pa_nil hs3) hs2) hs1) hw hs, ss_par3 hij hil hjl ha.s hb.s hcc.s⟩

/-! ### an own list is changed -/
theorem Rep.ownList {F : Fx} {A : Own} {σ : St} {H : Hp} {ρ : DS} {i : Nat} {a : Addr} {xs xs' : List PyData} {vs' : List V} (R : Rep F A σ H ρ) (hA : A i = some a) (hx : ρ[i]? = some (some (.own xs))) (hd : Das F.K (AvC F A) H xs' vs') :
    Rep F A σ (upd H a (.lst vs')) (ρ.set i (some (.own xs'))) ∧ Tr F A H A (upd H a (.lst vs')) := by
  have st : Stp (AvC F A) H (upd H a (.lst vs')) := fun b o e n => by
    rw [upd_ne (fun z => n (by rw [z]; exact .inr ⟨i, hA⟩))]
    exact e
  have hi : i < ρ.length := (List.getElem?_eq_some_iff.mp hx).1
  refine ⟨⟨by simpa using R.len, fun j sv e => ?_, fun j b e => ?_, R.inj, R.fresh, fun b z => ?_, fun b o e n => ?_, R.dav, fun c l e => ?_⟩, fun b o e n => ?_, fun j b e => .inl ⟨j, e⟩, fun b e => ?_⟩
  · by_cases hj : j = i
    · subst hj
      rw [List.getElem?_set_self hi] at e
      have e' : sv = .own xs' := by simpa using e.symm
      subst e'
      obtain ⟨v, e1, a2, vs, q1, q2, q3, q4⟩ := R.slot j _ hx
      rw [hA] at q1
      cases q1
      exact ⟨v, e1, a, vs', hA, q2, upd_same, Das.stp R.mu' st _ _ hd⟩
    · rw [List.getElem?_set_ne (Ne.symm hj)] at e
      obtain ⟨u, e1, q⟩ := R.slot j sv e
      refine ⟨u, e1, ?_⟩
      cases sv with
      | dat d => exact Da.stp R.mu' st d u q
      | own ys =>
        obtain ⟨b, vs, q1, q2, q3, q4⟩ := q
        have nb : b ≠ a := fun z => hj (R.inj j i a (by rw [q1, z]) hA)
        exact ⟨b, vs, q1, q2, by rw [upd_ne nb]; exact q3, Das.stp R.mu' st _ _ q4⟩
      | orf k => exact q
      | dk => exact q
      | scr ns => exact q
      | dct kvs =>
        obtain ⟨b, q1, q2, q3⟩ := q
        have nb : b ≠ a := fun z => hj (R.inj j i a (by rw [q1, z]) hA)
        exact ⟨b, q1, q2, by rw [upd_ne nb]; exact q3⟩
  · by_cases hj : j = i
    · subst hj
      exact ⟨.own _, by rw [List.getElem?_set_self hi], trivial⟩
    · obtain ⟨ys, q, hq⟩ := R.ownA j b e
      exact ⟨ys, by rw [List.getElem?_set_ne (Ne.symm hj)]; exact q, hq⟩
  · by_cases hb : b = a
    · rw [hb, upd_same]; trivial
    · rw [upd_ne hb]; exact R.mu b z
  · have nb : b ≠ a := fun z => by rw [z, (R.fresh i a hA).1] at e; cases e
    rw [upd_ne nb]; exact R.keep b o e n
  · exact (R.deck c l e).st fun b o m h => by
      rw [upd_ne (fun z => (R.fresh i a hA).2 (R.dav a ⟨c, l, e, by rw [← z]; exact m⟩))]
      exact h
  · rw [upd_ne (fun z => n (by rw [z]; exact .inr ⟨i, hA⟩))]; exact e
  · by_cases hb : b = a
    · rw [hb, upd_same] at e; cases e
    · rw [upd_ne hb] at e; exact e
theorem Rep.ownAt {F : Fx} {A : Own} {σ : St} {H : Hp} {ρ : DS} {i : Nat} {xs : List PyData} (R : Rep F A σ H ρ) (hx : ρ[i]? = some (some (.own xs))) : ∃ a vs, A i = some a ∧ σ[i]? = some (some (.ref a)) ∧ H a = some (.lst vs) ∧ Das F.K (AvC F A) H xs vs := by
  obtain ⟨v, e1, a, vs, q1, q2, q3, q4⟩ := R.slot i _ hx
  subst q2
  exact ⟨a, vs, q1, e1, q3, q4⟩
/-- xs.append(e), xs a name -/
def dApp (i : Nat) (T : DTE) : DTE := fun ρ QD => (∃ ys, ρ[i]? = some (some (.own ys))) ∧ T ρ fun r ρ1 => ∃ d ρ2 xs, frz1 ρ1 r = some (.dat d, ρ2) ∧ ρ2[i]? = some (some (.own xs)) ∧ xs.length < sizeLine ∧ QD (.dat .none) (ρ2.set i (some (.own (xs ++ [d]))))
theorem es_app {i : Nat} (s : ES K te T) : ES K (tBM K "list" rAppend (tVar i) (tCons te tNil)) (dApp i T) := by
  intro F A σ H ρ Q QD hK R h k
  obtain ⟨⟨ys, h0⟩, h⟩ := h
  obtain ⟨a, vs, q1, q2, q3, q4⟩ := R.ownAt h0
  refine ⟨.ref a, q2, .inl ⟨rfl, vs, SqL.of q3⟩, ?_⟩
  refine s F A σ H ρ _ _ hK R h fun r ρ1 v H1 A1 h1 R1 t1 w1 => ?_
  obtain ⟨d, ρ2, xs, e1, e2, hl, h2⟩ := h1
  obtain ⟨A2, R2, t2, w2, _⟩ := R1.frz1 w1.rw e1
  obtain ⟨a', vs', p1, p2, p3, p4⟩ := R2.ownAt e2
  rw [q2] at p2
  cases p2
  obtain ⟨R3, t3⟩ := R2.ownList p1 e2 (Das.app p4 (Das.cons (show Da F.K (AvC F A2) H1 d v from w2) Das.nil))
  exact ⟨a, vs', v, rfl, rfl, p3, by rw [← p4.length]; exact hl, k _ _ _ _ A2 h2 R3 (t1.trans (t2.trans t3)) (by show Da _ _ _ _ _; simp only [Da])⟩
theorem de_app {x : Str} {apos : Pos} (i : Nat) (he : DE K X e te T) (hK : X.K = K := by rfl) (hN : X.N[i]? = some x := by rfl) (hv : Vis X.env.scope x := by first | exact Or.inl rfl | exact Or.inr (Or.inl rfl) | exact Or.inr (Or.inr rfl)) (hd : (x == ("__debug__" : Str)) = false := by decide)
    (hcd : (x == ("__classdict__" : Str)) = false := by decide)
    (hbase : attributeBase (.Name x p) "append" X.env (eval (.Name x p) X.env) = eval (.Name x p) X.env := by rfl)
    (hfew : ((backTo pos (starEach [e] X.env)).all (fun x => !x.1) && (backToKw pos (keywordEach [] X.env)).all (fun x => x.1.isSome)
      && decide ([e].length + ([] : List Keyword).length + (if ([] : List Keyword).isEmpty then 0 else 1) < 30)) = true := by rfl)
    (hline : (apos.endLine == pos.line) = true := by rfl) (hs : starEach [e] X.env = (false, eval e X.env) :: starEach [] X.env := by rfl) (hplain : (backTo pos (starEach [] X.env)).any (·.1) = false := by rfl) :
    DE K X (.Call (.Attribute (.Name x p) "append" apos) [e] [] pos) (tBM K "list" rAppend (tVar i) (tCons te tNil)) (dApp i T) :=
  ⟨hK ▸ pe_bm PySem.F.plainAttrs_list PySem.F.slot_list_append PySem.F.type_list_append mt_append (pe_var hN hv hd hcd) (pa_cons he.p pa_nil hs) hbase hfew hline hs hplain, es_app he.s⟩
/-- xs[k] = e, xs a name -/
def dSetIx (i : Nat) (T Tk : DTE) : DTS := fun E ρ => T ρ fun r ρ1 => ∃ d ρ2, frz1 ρ1 r = some (.dat d, ρ2) ∧ (∃ ys, ρ2[i]? = some (some (.own ys))) ∧ Tk ρ2 fun rk ρ3 => ∃ z j xs, lookD ρ3 rk = some (.int z) ∧ ρ3[i]? = some (some (.own xs)) ∧ ixN xs.length z = some j ∧ E.nx (ρ3.set i (some (.own (xs.set j d))))
theorem ss_setIx {i : Nat} {tk : TE} {Tk : DTE} (s : ES K te T) (sk : ES K tk Tk) : SS K (tAsg te (gSub (tVar i) tk rSetL)) (dSetIx i T Tk) := by
  intro F A σ H ρ D E hK R h k
  refine s F A σ H ρ _ _ hK R h fun r ρ1 v H1 A1 h1 R1 t1 w1 => ?_
  obtain ⟨d, ρ2, e1, ⟨ys, e2⟩, h2⟩ := h1
  obtain ⟨A2, R2, t2, w2, _⟩ := R1.frz1 w1.rw e1
  obtain ⟨a, vs, q1, q2, q3, q4⟩ := R2.ownAt e2
  refine ⟨.ref a, q2, sk F A2 σ H1 ρ2 _ _ hK R2 h2 fun rk ρ3 vk H3 A3 h3 R3 t3 w3 => ?_⟩
  obtain ⟨z, j, xs, e3, e4, hj, h3⟩ := h3
  obtain ⟨a', vs', p1, p2, p3, p4⟩ := R3.ownAt e4
  rw [q2] at p2
  cases p2
  have hz : vk = .int z := dast_int (R3.look w3.rw e3)
  subst hz
  obtain ⟨R4, t4⟩ := R3.ownList p1 e4 (Das.set j p4 (show Da F.K (AvC F A3) H3 d v from R2.rw t3 w2))
  exact ⟨a, vs', z, j, rfl, rfl, p3, by rw [← p4.length]; exact hj, k.1 _ _ _ _ h3 R4 (t1.trans (t2.trans (t3.trans t4)))⟩
theorem ds_setIx {x : Str} {spos : Pos} {kk : Expr} {tk : TE} {Tk : DTE} (i : Nat) (he : DE K X e te T) (hk : DE K X kk tk Tk) (hN : X.N[i]? = some x := by rfl) (hv : Vis X.env.scope x := by first | exact Or.inl rfl | exact Or.inr (Or.inl rfl) | exact Or.inr (Or.inr rfl))
    (ha : ∀ v, assign (.Subscript (.Name x p) kk spos) X.env v = (do
      let ov ← holding [v] (eval (.Name x p) X.env)
      let iv ← holding [v, ov] (eval kk X.env)
      standAt spos
      holding [v, ov, iv] (setItem ov iv v)
      release [v, ov, iv] []) := by intro _; rfl)
    (hs : swapsWithSole [.Subscript (.Name x p) kk spos] e pos.line X.env = pure false := by rfl) (hw : swappedStores [.Subscript (.Name x p) kk spos] e X.env = pure none := by rfl)
    (h1 : (assignEach [.Subscript (.Name x p) kk spos] X.env).map (·.2) = [assign (.Subscript (.Name x p) kk spos) X.env] := by rfl) (hd : (x == ("__debug__" : Str)) = false := by decide) (hcd : (x == ("__classdict__" : Str)) = false := by decide) :
    DSt K X (.Assign [.Subscript (.Name x p) kk spos] e pos) (tAsg te (gSub (tVar i) tk rSetL)) (dSetIx i T Tk) :=
  ⟨ps_asg he.p (pg_sub (pe_var hN hv hd hcd) hk.p set_list ha) hs hw h1, ss_setIx he.s hk.s⟩
/-- x op= e: data -/
def dAug (i : Nat) (g : G2) (T : DTE) : DTS := fun E ρ => (∃ d, ρ[i]? = some (some (.dat d)) ∧ T ρ fun r ρ1 => ∃ e, lookD ρ1 r = some e ∧ i < ρ1.length ∧ g d e fun sv => ∃ sv' ρ2, sto1 ρ1 sv = some (sv', ρ2) ∧ E.nx (ρ2.set i (some sv')))
theorem ss_aug {i : Nat} {r : R2} {g : G2} (og : OpD K r g) (s : ES K te T) : SS K (tAug i te r) (dAug i g T) := by
  intro F A σ H ρ D E hK R h k
  obtain ⟨d, h0, h⟩ := h
  obtain ⟨v, e1, q⟩ := R.slot i _ h0
  refine ⟨v, e1, s F A σ H ρ _ _ hK R h fun r ρ1 w H1 A1 h1 R1 t1 w1 => ?_⟩
  obtain ⟨e, e2, hl, h1⟩ := h1
  subst hK
  have q1 : Da F.K (AvC F A1) H1 d v := R.da t1 q
  refine og (AvC F A1) H1 v w d e _ _ R1.mu' (DaT.of q1) (R1.look w1.rw e2) h1 fun u H2 sv h2 s2 w2 => ?_
  obtain ⟨sv', ρ2, e3, h2⟩ := h2
  obtain ⟨A2, R2, t2⟩ := (R1.same s2).store (t1.trans (sameTr s2)) ((R1.res s2 w2).back t1.trk) hl e3
  exact k.1 _ _ _ _ h2 R2 t2
theorem ds_aug {x : Str} {op : Operator} {r : R2} {g : G2} {pos' : Pos} (i : Nat) (hN : X.N.Nodup) (ho : OpR X (inplaceOp op) r) (og : OpD K r g) (he : DE K X e te T) (hi : X.N[i]? = some x := by rfl) (hx : Loc X.env.scope x := by first | exact Or.inl rfl | exact Or.inr rfl)
    (hf : X.fn x = true ∨ X.env.scope.names.lookup x = some .local := by first | exact .inl rfl | exact .inr rfl) : DSt K X (.AugAssign (.Name x pos') op e pos) (tAug i te r) (dAug i g T) :=
  ⟨ps_aug hN hi hx he.p (fun pins s σ H x y v u Q I r1 r2 h => ho pins s σ H x y v u Q I r1 r2 h) hf, ss_aug og he.s⟩
end
end DL
namespace DL
open PySem L2 PySem.Spec PyProof.Rows
/-- an empty tuple any number of times (≥ 2): itself -/
theorem tuple_mul0 (l : Addr) (n : Nat) (dd : Option Addr) (sl : Array (Option Value)) (x : Int) (u : Tok) (c0 : (decide (x < -(2 ^ 63)) || decide (x ≥ 2 ^ 63)) = false) :
    Meets (Builtin.«tuple.__mul__» ⟨[.ref l, .int x u], []⟩) (fun _ R s => s.heap.get? l = some { cls := .type "tuple", dict := dd, data := .seq #[] n, slots := sl } ∧
      R (.ok (.ret (Value.ref l))) s) :=
  .of_wp fun prog w A R s h => by
    obtain ⟨hp, g, d, tk, os⟩ := s
    obtain ⟨hl, h⟩ := h
    have f1 := AutoSeq1.idx_int
    wp_walk using wpAny_loadPart' hl
    refine wpAny_ite_false (decide_eq_false (by rw [c0]; exact Bool.false_ne_true)) ?_
    wp_walk using wpAny_loadPart' hl
    exact ⟨_, rfl, h⟩
/-- () * k, 0 ≤ k ≤ 1000 -/
def rMul0 (K : PySem.W.Frag) : R2 := fun x y H Q => ∃ l k, x = .ref l ∧ y = .int k ∧ SqT K H l [] ∧ 0 ≤ k ∧ k ≤ 1000 ∧ Q (.ref l) H
theorem op_mul0 {X : Cx} : OpR X (binaryOp .Mult) (rMul0 X.K) := by
  intro pins s σ H x y v u Q I rx ry h
  obtain ⟨l, k, rfl, rfl, hT, h1, h2, q⟩ := h
  cases rx
  obtain ⟨t, rfl⟩ := ry
  obtain ⟨its, r, ⟨⟨cls, dd, data, sl⟩, ho, hc, n, hd⟩, hs⟩ := I.tuple hT
  cases r
  simp only at hc hd
  subst hc hd
  have c0 : (decide (k < -(2 ^ 63)) || decide (k ≥ 2 ^ 63)) = false := by
    rw [decide_eq_false (by omega), decide_eq_false (by omega)] <;> rfl
  refine wpAny_binaryOp_repeat_ref (T := "tuple") (U := "int") (by decide) ⟨_, ho, rfl⟩ (fun s' => typeIs_int s' k t) noFill_tuple_mul F.fills_int_mul F.slot_int_rmul repeat_tuple F.slot_int_index.lookup
    (call_meets F.slot_int_rmul (typeIs_int s k t) F.entry_int_rmul (F.args_int_rmul_2 _ _) (int_rmul_tuple k t l #[] n dd sl)
      ⟨ho, rfl, ⟨_, ho, rfl⟩, call_meets F.slot_tuple_mul ⟨_, ho, rfl⟩ F.entry_tuple_mul (F.args_tuple_mul_2 _ _) (tuple_mul0 l n dd sl k t c0) ⟨ho, .ref l, H, I, rfl, q⟩⟩)
/-- once: itself -/
theorem tuple_mul1 (l : Addr) (items : Array Value) (n : Nat) (dd : Option Addr) (sl : Array (Option Value)) (u : Tok) :
    Meets (Builtin.«tuple.__mul__» ⟨[.ref l, .int 1 u], []⟩) (fun _ R s => s.heap.get? l = some { cls := .type "tuple", dict := dd, data := .seq items n, slots := sl } ∧
      R (.ok (.ret (Value.ref l))) s) :=
  .of_wp fun prog w A R s h => by
    obtain ⟨hp, g, d, tk, os⟩ := s
    obtain ⟨hl, h⟩ := h
    have f1 := AutoSeq1.idx_int
    wp_walk using wpAny_loadPart' hl
    exact ⟨_, rfl, h⟩
/-- no times: a new empty one -/
theorem tuple_mulN (l : Addr) (items : Array Value) (n : Nat) (dd : Option Addr) (sl : Array (Option Value)) (u : Tok) (hi : items.isEmpty = false) :
    Meets (Builtin.«tuple.__mul__» ⟨[.ref l, .int 0 u], []⟩) (fun _ R s => s.heap.get? l = some { cls := .type "tuple", dict := dd, data := .seq items n, slots := sl } ∧
      R (.ok (.ret (Value.ref s.heap.objs.size))) { s with heap := s.heap.push { cls := Value.type "tuple", data := Data.seq #[] }, toks := s.toks }) :=
  .of_wp fun prog w A R s h => by
    obtain ⟨hp, g, d, tk, os⟩ := s
    obtain ⟨hl, h⟩ := h
    have f1 := AutoSeq1.idx_int
    wp_walk using wpAny_loadPart' hl
    exact ⟨_, rfl, h⟩
def rMul1 (K : PySem.W.Frag) : R2 := fun x y H Q => ∃ l xs, x = .ref l ∧ y = .int 1 ∧ SqT K H l xs ∧ Q (.ref l) H
theorem op_mul1 {X : Cx} : OpR X (binaryOp .Mult) (rMul1 X.K) := by
  intro pins s σ H x y v u Q I rx ry h
  obtain ⟨l, xs, rfl, rfl, hT, q⟩ := h
  cases rx
  obtain ⟨t, rfl⟩ := ry
  obtain ⟨its, r, ⟨⟨cls, dd, data, sl⟩, ho, hc, n, hd⟩, hs⟩ := I.tuple hT
  simp only at hc hd
  subst hc hd
  refine wpAny_binaryOp_repeat_ref (T := "tuple") (U := "int") (by decide) ⟨_, ho, rfl⟩ (fun s' => typeIs_int s' 1 t) noFill_tuple_mul F.fills_int_mul F.slot_int_rmul repeat_tuple F.slot_int_index.lookup
    (call_meets F.slot_int_rmul (typeIs_int s 1 t) F.entry_int_rmul (F.args_int_rmul_2 _ _) (int_rmul_tuple 1 t l its.toArray n dd sl)
      ⟨ho, rfl, ⟨_, ho, rfl⟩, call_meets F.slot_tuple_mul ⟨_, ho, rfl⟩ F.entry_tuple_mul (F.args_tuple_mul_2 _ _) (tuple_mul1 l its.toArray n dd sl t) ⟨ho, .ref l, H, I, rfl, q⟩⟩)
def rMulN (K : PySem.W.Frag) : R2 := fun x y H Q => ∃ l xs, x = .ref l ∧ y = .int 0 ∧ SqT K H l xs ∧ xs ≠ [] ∧ NewT H [] Q
theorem op_mulN {X : Cx} : OpR X (binaryOp .Mult) (rMulN X.K) := by
  intro pins s σ H x y v u Q I rx ry h
  obtain ⟨l, xs, rfl, rfl, hT, hne, q⟩ := h
  cases rx
  obtain ⟨t, rfl⟩ := ry
  obtain ⟨its, r, ⟨⟨cls, dd, data, sl⟩, ho, hc, n, hd⟩, hs⟩ := I.tuple hT
  simp only at hc hd
  subst hc hd
  have hi : its.toArray.isEmpty = false := by
    cases its with
    | nil => cases r; exact absurd rfl hne
    | cons a b => rfl
  refine wpAny_binaryOp_repeat_ref (T := "tuple") (U := "int") (by decide) ⟨_, ho, rfl⟩ (fun s' => typeIs_int s' 0 t) noFill_tuple_mul F.fills_int_mul F.slot_int_rmul repeat_tuple F.slot_int_index.lookup
    (call_meets F.slot_int_rmul (typeIs_int s 0 t) F.entry_int_rmul (F.args_int_rmul_2 _ _) (int_rmul_tuple 0 t l its.toArray n dd sl)
      ⟨ho, rfl, ⟨_, ho, rfl⟩, call_meets F.slot_tuple_mul ⟨_, ho, rfl⟩ F.entry_tuple_mul (F.args_tuple_mul_2 _ _) (tuple_mulN l its.toArray n dd sl t hi)
        ⟨ho, newT_of (xs := []) (its := []) (t' := s.toks) I (Nat.zero_le _) .nil q⟩⟩)
end DL
namespace DL
open PySem L2

/-! ### data told by kind -/
section
variable {K : PySem.W.Frag} {Av : Addr → Prop} {H : Hp} {v : V}
theorem dast_str {x : Str} (h : DaT K Av H (.str x) v) : v = .str x := by
  have h' : Da K Av H (.str x) v := h
  simpa only [Da] using h'
theorem dast_bool {x : Bool} (h : DaT K Av H (.bool x) v) : v = .bl x := by
  have h' : Da K Av H (.bool x) v := h
  simpa only [Da] using h'
theorem dast_none (h : DaT K Av H .none v) : v = .non := by
  have h' : Da K Av H .none v := h
  simpa only [Da] using h'
theorem dast_tup {ds : List PyData} (h : DaT K Av H (.tuple ds) v) : ∃ a xs, v = .ref a ∧ SqX K H a xs ∧ Das K Av H ds xs := by
  have h' : Da K Av H (.tuple ds) v := h
  simpa only [Da] using h'
theorem dast_dic {ds : List (PyData × PyData)} (h : DaT K Av H (.dict ds) v) : ∃ a, v = .ref a ∧ ¬ Av a ∧ H a = some (.dK []) ∧ ds = [] := by
  have h' : Da K Av H (.dict ds) v := h
  simpa only [Da] using h'
theorem da_tup {ds : List PyData} {a : Addr} {xs : List V} (q : SqX K H a xs) (h : Das K Av H ds xs) : Da K Av H (.tuple ds) (.ref a) := by
  simp only [Da]
  exact ⟨a, xs, rfl, q, h⟩
theorem das_upd {H' : Hp} {ds : List PyData} {xs : List V} (h : Das K Av H ds xs) (s : Same H H') (mu : ∀ b, Av b → H b = none ∨ Mut (H b)) : Das K Av H' ds xs := Das.stp mu (sameStp s) _ _ h
end

/-! ### operators -/
theorem OpD.pure {K : PySem.W.Frag} {r : R2} {g : G2} (h : ∀ (Av : Addr → Prop) (H : Hp) (x y : V) (d e : PyData) (Q : VK) (G : SV → Prop), DaT K Av H d x → DaT K Av H e y → g d e G → (∀ v sv, G sv → Res K Av H H v sv → Q v H) → r x y H Q) : OpD K r g :=
  fun Av H x y d e Q G _ h1 h2 hg k => h Av H x y d e Q G h1 h2 hg fun v sv a b => k v H sv a (fun _ _ h => h) b
/-- two ints -/
def gII (C : Int → Int → Prop) (f : Int → Int → PyData) : G2
  | .int i, .int j, G => C i j ∧ G (.dat (f i j))
  | _, _, _ => False
theorem od_II {K : PySem.W.Frag} {C : Int → Int → Prop} {f : Int → Int → PyData} {fv : Int → Int → V} (h : ∀ i j Av H, Da K Av H (f i j) (fv i j)) : OpD K (rI C fv) (gII C f) := OpD.pure fun Av H x y d e Q G h1 h2 hg k => by
  cases d <;> try exact hg.elim
  rename_i i
  cases e <;> try exact hg.elim
  rename_i j
  exact ⟨i, j, dast_int h1, dast_int h2, hg.1, k _ _ hg.2 (h i j Av H)⟩
def gI0 (f : Int → Int → PyData) : G2
  | .int i, .int j, G => G (.dat (f i j))
  | _, _, _ => False
theorem od_I0 {K : PySem.W.Frag} {f : Int → Int → PyData} {fv : Int → Int → V} (h : ∀ i j Av H, Da K Av H (f i j) (fv i j)) : OpD K (rI0 fv) (gI0 f) := OpD.pure fun Av H x y d e Q G h1 h2 hg k => by
  cases d <;> try exact hg.elim
  rename_i i
  cases e <;> try exact hg.elim
  rename_i j
  exact ⟨i, j, dast_int h1, dast_int h2, k _ _ hg (h i j Av H)⟩
theorem da_int {K : PySem.W.Frag} {Av : Addr → Prop} {H : Hp} {i : Int} : Da K Av H (.int i) (.int i) := by simp only [Da]
theorem da_bl {K : PySem.W.Frag} {Av : Addr → Prop} {H : Hp} {i : Bool} : Da K Av H (.bool i) (.bl i) := by simp only [Da]
theorem da_str {K : PySem.W.Frag} {Av : Addr → Prop} {H : Hp} {i : Str} : Da K Av H (.str i) (.str i) := by simp only [Da]
theorem da_non {K : PySem.W.Frag} {Av : Addr → Prop} {H : Hp} : Da K Av H .none .non := by simp only [Da]
section
variable {K : PySem.W.Frag} {Av : Addr → Prop} {H H' : Hp}
theorem res_int {i : Int} : Res K Av H H' (.int i) (.dat (.int i)) := da_int (K := K) (Av := Av) (H := H')
theorem res_bl {i : Bool} : Res K Av H H' (.bl i) (.dat (.bool i)) := da_bl (K := K) (Av := Av) (H := H')
theorem res_str {i : Str} : Res K Av H H' (.str i) (.dat (.str i)) := da_str (K := K) (Av := Av) (H := H')
theorem res_non : Res K Av H H' .non (.dat .none) := da_non (K := K) (Av := Av) (H := H')
theorem res_dat {d : PyData} {v : V} (h : Da K Av H' d v) : Res K Av H H' v (.dat d) := h
end
section
variable {K : PySem.W.Frag} {X : Cx} {a b c e : Expr} {Ta Tb Tc T : DTE} {ta tb tc te : TE} {pos p : Pos}
abbrev gSub : G2 := gI0 fun i j => .int (i - j)
abbrev rSubD : R2 := rI0 fun i j => .int (i - j)
theorem de_sub (ha : DE K X a ta Ta) (hb : DE K X b tb Tb) : DE K X (.BinOp a .Sub b pos) (tOp rSubD ta tb) (dBin gSub Ta Tb) := de_bin op_sub (od_I0 fun _ _ _ _ => da_int) ha hb
abbrev gMod : G2 := gII (fun _ j => 0 < j) fun i j => .int (i % j)
abbrev rModD : R2 := rI (fun _ j => 0 < j) fun i j => .int (i % j)
theorem de_mod (ha : DE K X a ta Ta) (hb : DE K X b tb Tb) : DE K X (.BinOp a .Mod b pos) (tOp rModD ta tb) (dBin gMod Ta Tb) := de_bin op_mod (od_II fun _ _ _ _ => da_int) ha hb
abbrev gDiv : G2 := gII CDivW fun i j => .int (i / j)
abbrev rDivD : R2 := rI CDivW fun i j => .int (i / j)
theorem de_div (ha : DE K X a ta Ta) (hb : DE K X b tb Tb) : DE K X (.BinOp a .FloorDiv b pos) (tOp rDivD ta tb) (dBin gDiv Ta Tb) := de_bin op_fdivW (od_II fun _ _ _ _ => da_int) ha hb
abbrev gPow : G2 := gII CPow fun i j => .int (i ^ j.toNat)
abbrev rPowD : R2 := rI CPow fun i j => .int (i ^ j.toNat)
theorem de_pow (ha : DE K X a ta Ta) (hb : DE K X b tb Tb) : DE K X (.BinOp a .Pow b pos) (tOp rPowD ta tb) (dBin gPow Ta Tb) := de_bin op_pow (od_II fun _ _ _ _ => da_int) ha hb
/-- + -/
def gAdd : G2
  | .int i, .int j, G => G (.dat (.int (i + j)))
  | .str x, .str y, G => x.length + y.length ≤ sizeLine ∧ G (.dat (.str (x ++ y)))
  | .tuple xs, .tuple ys, G => xs.length + ys.length ≤ sizeLine ∧ G (.dat (.tuple (xs ++ ys)))
  | .list xs, .list ys, G => xs.length + ys.length ≤ sizeLine ∧ G (.own (xs ++ ys))
  | _, _, _ => False
def rAddD (K : PySem.W.Frag) : R2 := fun x y H Q => rI0 (fun i j => .int (i + j)) x y H Q ∨ (∃ i j, x = .str i ∧ y = .str j ∧ i.length + j.length ≤ sizeLine ∧ Q (.str (i ++ j)) H) ∨ rCatX K x y H Q ∨ rCat x y H Q
theorem op_addD : OpR X (binaryOp .Add) (rAddD X.K) := op_add.or (op_add_str.or (op_catX.or op_cat))
/-- a new list of what two had -/
theorem res_own {Av : Addr → Prop} {H : Hp} {q : Addr} {ds : List PyData} {xs : List V} (hq : H q = none) (h : Das K Av H ds xs) (mu : ∀ b, Av b → H b = none ∨ Mut (H b)) : Res K Av H (upd H q (.lst xs)) (.ref q) (.own ds) := by
  refine ⟨q, xs, rfl, hq, upd_same, ?_⟩
  have av : ∀ b, (fun b => Av b ∨ b = q) b → Av b ∨ H b = none := fun b z => z.elim .inl fun z => .inr (by rw [z]; exact hq)
  exact Das.stp (fun b z => by
    rcases av b z with z | z
    · exact mu b z
    · exact .inl z) (sameStp (sameUpd hq)) _ _ (Das.av av _ _ h)
theorem res_tup {o : Obj} (dn : o.dict = none) {Av : Addr → Prop} {H : Hp} {q : Addr} {ds : List PyData} {xs : List V} (hq : H q = none) (h : Das K Av H ds xs) (mu : ∀ b, Av b → H b = none ∨ Mut (H b)) : Res K Av H (upd H q (.frz o (.tup xs))) (.ref q) (.dat (.tuple ds)) :=
  da_tup (SqX.new dn) (das_upd h (sameUpd hq) mu)
theorem od_add : OpD K (rAddD K) gAdd := by
  intro Av H x y d e Q G mu h1 h2 hg k
  cases d <;> cases e <;> try exact hg.elim
  · exact .inl ⟨_, _, dast_int h1, dast_int h2, k _ _ _ hg (fun _ _ h => h) res_int⟩
  · exact .inr (.inl ⟨_, _, dast_str h1, dast_str h2, hg.1, k _ _ _ hg.2 (fun _ _ h => h) res_str⟩)
  · obtain ⟨p, xs, e1, q1, d1⟩ := h1
    obtain ⟨q, ys, e2, q2, d2⟩ := h2
    refine .inr (.inr (.inr ⟨p, q, xs, ys, e1, e2, q1, q2, by rw [← d1.length, ← d2.length]; exact hg.1, fun c hc => k _ _ _ hg.2 (sameUpd hc) (res_own hc (Das.app d1 d2) mu)⟩))
  · obtain ⟨p, xs, e1, q1, d1⟩ := dast_tup h1
    obtain ⟨q, ys, e2, q2, d2⟩ := dast_tup h2
    refine .inr (.inr (.inl ⟨p, q, xs, ys, e1, e2, q1, q2, by rw [← d1.length, ← d2.length]; exact hg.1, fun z => ?_, fun _ z => ?_, fun _ _ c o hc dn => k _ _ _ hg.2 (sameUpd hc) (res_tup dn hc (Das.app d1 d2) mu)⟩))
    · refine k _ _ _ hg.2 (fun _ _ h => h) (res_dat <| da_tup q2 ?_)
      have d3 := Das.app d1 d2
      rw [z, List.nil_append] at d3
      exact d3
    · refine k _ _ _ hg.2 (fun _ _ h => h) (res_dat <| da_tup q1 ?_)
      have d3 := Das.app d1 d2
      rw [z, List.append_nil] at d3
      exact d3
theorem de_add (ha : DE K X a ta Ta) (hb : DE K X b tb Tb) (hK : X.K = K := by rfl) : DE K X (.BinOp a .Add b pos) (tOp (rAddD K) ta tb) (dBin gAdd Ta Tb) := de_bin (hK ▸ op_addD) od_add ha hb
/-- * -/
def mulOk (i j : Int) : Prop := CMul i j ∨ CMulW i j
def gMul : G2
  | .int i, .int j, G => mulOk i j ∧ G (.dat (.int (i * j)))
  | .tuple xs, .int k, G => 0 ≤ k ∧ k ≤ 1000 ∧ xs.length ≤ 1000 ∧ G (.dat (.tuple (List.replicate k.toNat xs).flatten))
  | .list xs, .int k, G => -(2 ^ 63) ≤ k ∧ k < 2 ^ 63 ∧ xs.length * k.toNat ≤ sizeLine ∧ G (.own (List.replicate k.toNat xs).flatten)
  | _, _, _ => False
def rMulD (K : PySem.W.Frag) : R2 := fun x y H Q => rI CMul (fun i j => .int (i * j)) x y H Q ∨ rI CMulW (fun i j => .int (i * j)) x y H Q ∨ rRepX K x y H Q ∨ rRep x y H Q ∨ rMul0 K x y H Q ∨ rMul1 K x y H Q ∨ rMulN K x y H Q
theorem op_mulD : OpR X (binaryOp .Mult) (rMulD X.K) := op_mul.or (op_mulW.or (op_repX.or (op_rep.or (op_mul0.or (op_mul1.or op_mulN)))))
theorem od_mul : OpD K (rMulD K) gMul := by
  intro Av H x y d e Q G mu h1 h2 hg k
  cases d <;> cases e <;> try exact hg.elim
  · rcases hg.1 with c | c
    · exact .inl ⟨_, _, dast_int h1, dast_int h2, c, k _ _ _ hg.2 (fun _ _ h => h) res_int⟩
    · exact .inr (.inl ⟨_, _, dast_int h1, dast_int h2, c, k _ _ _ hg.2 (fun _ _ h => h) res_int⟩)
  · obtain ⟨p, xs, e1, q1, d1⟩ := h1
    obtain ⟨b1, b2, b3, hg⟩ := hg
    exact .inr (.inr (.inr (.inl ⟨p, _, xs, e1, dast_int h2, q1, b1, b2, by rw [← d1.length]; exact b3, fun c hc => k _ _ _ hg (sameUpd hc) (res_own hc (Das.rep _ d1) mu)⟩)))
  · obtain ⟨p, xs, e1, q1, d1⟩ := dast_tup h1
    obtain ⟨b1, b2, b3, hg⟩ := hg
    rename_i ds i0
    cases ds with
    | nil =>
      have e0 : xs = [] := by simpa only [Das] using d1
      subst e0
      have e2 : (List.replicate i0.toNat ([] : List PyData)).flatten = [] := by simp
      rw [e2] at hg
      exact .inr (.inr (.inr (.inr (.inl ⟨p, _, e1, dast_int h2, q1.t, b1, b2, by rw [← e1]; exact k _ _ _ hg (fun _ _ h => h) (res_dat (by rw [e1]; simp only [Da]; exact ⟨p, [], rfl, q1, rfl⟩))⟩))))
    | cons b r =>
      have hne : xs ≠ [] := fun z => by
        have := d1.length
        rw [z] at this
        cases this
      by_cases z0 : i0 = 0
      · subst z0
        have e2 : (List.replicate (0 : Int).toNat (b :: r)).flatten = [] := rfl
        rw [e2] at hg
        exact .inr (.inr (.inr (.inr (.inr (.inr ⟨p, xs, e1, dast_int h2, q1.t, hne, fun c o hc dn => k _ _ _ hg (sameUpd hc) (res_tup dn hc (by simp only [Das]) mu)⟩)))))
      · by_cases z1 : i0 = 1
        · subst z1
          have e2 : (List.replicate (1 : Int).toNat (b :: r)).flatten = b :: r := by show ([b :: r] : List (List PyData)).flatten = _; simp
          rw [e2] at hg
          exact .inr (.inr (.inr (.inr (.inr (.inl ⟨p, xs, e1, dast_int h2, q1.t, k _ _ _ hg (fun _ _ h => h) (res_dat (da_tup q1 d1))⟩)))))
        · exact .inr (.inr (.inl ⟨p, _, xs, e1, dast_int h2, q1, hne, by omega, b2, by rw [← d1.length]; exact b3, fun c o hc dn => k _ _ _ hg (sameUpd hc) (res_tup dn hc (Das.rep _ d1) mu)⟩))
theorem de_mul (ha : DE K X a ta Ta) (hb : DE K X b tb Tb) (hK : X.K = K := by rfl) : DE K X (.BinOp a .Mult b pos) (tOp (rMulD K) ta tb) (dBin gMul Ta Tb) := de_bin (hK ▸ op_mulD) od_mul ha hb
/-! ### comparisons -/
mutual
theorem Da.dp {Av : Addr → Prop} {H : Hp} : ∀ (d : PyData) (v : V), d.canLay0 = true → Da K Av H d v → Dp K H v d
  | .none, v, _, h => by
    have e : v = .non := by simpa only [Da] using h
    subst e; exact .non
  | .bool b, v, _, h => by
    have e : v = .bl b := by simpa only [Da] using h
    subst e; exact .bl b
  | .int i, v, _, h => by
    have e : v = .int i := by simpa only [Da] using h
    subst e; exact .int i
  | .str x, v, _, h => by
    have e : v = .str x := by simpa only [Da] using h
    subst e; exact .str x
  | .list ds, v, c, h => by
    simp only [Da] at h
    obtain ⟨a, xs, e, _, q, r⟩ := h
    subst e
    exact .lst (SqL.of q) (Das.dp ds xs (by simpa only [PyData.canLay0] using c) r)
  | .tuple ds, v, c, h => by
    simp only [Da] at h
    obtain ⟨a, xs, e, q, r⟩ := h
    subst e
    exact .tup q.t (Das.dp ds xs (by simpa only [PyData.canLay0] using c) r)
  | .dict kvs, v, c, h => by simp [PyData.canLay0] at c
theorem Das.dp {Av : Addr → Prop} {H : Hp} : ∀ (ds : List PyData) (vs : List V), PyData.canLayAll0 ds = true → Das K Av H ds vs → DpAll K H vs ds
  | [], vs, _, h => by
    have e : vs = [] := by simpa only [Das] using h
    subst e; exact .nil
  | d :: ds, vs, c, h => by
    simp only [Das] at h
    obtain ⟨x, r, e, h1, h2⟩ := h
    subst e
    have c' : d.canLay0 = true ∧ PyData.canLayAll0 ds = true := by simpa [PyData.canLayAll0] using c
    exact .cons (Da.dp d x c'.1 h1) (Das.dp ds r c'.2 h2)
end
theorem DaT.toDp {Av : Addr → Prop} {H : Hp} {d : PyData} {v : V} (c : SeqAt.shaped d = true) (h : DaT K Av H d v) : Dp K H v d := by
  have c0 := SeqAt.canLay_of_shaped c
  cases d with
  | list ds =>
    obtain ⟨a, xs, e, q, r⟩ := h
    subst e
    exact .lst (SqL.of q) (Das.dp ds xs (by simpa only [PyData.canLay0] using c0) r)
  | none => exact Da.dp (Av := Av) _ _ c0 h
  | bool _ => exact Da.dp (Av := Av) _ _ c0 h
  | int _ => exact Da.dp (Av := Av) _ _ c0 h
  | str _ => exact Da.dp (Av := Av) _ _ c0 h
  | tuple _ => exact Da.dp (Av := Av) _ _ c0 h
  | dict _ => exact Da.dp (Av := Av) _ _ c0 h
def eqOk (d e : PyData) : Prop := (SeqAt.shaped d = true ∧ SeqAt.shaped e = true) ∨ ∃ x y, d = .str x ∧ e = .str y
def gEq : G2 := fun d e G => eqOk d e ∧ G (.dat (.bool (PyData.eqv d e)))
def gNe : G2 := fun d e G => eqOk d e ∧ G (.dat (.bool (!PyData.eqv d e)))
def rEqX (K : PySem.W.Frag) : R2 := fun x y H Q => rEq x y H Q ∨ rEqD K x y H Q
def rNeX (K : PySem.W.Frag) : R2 := fun x y H Q => rNe x y H Q ∨ rNeD K x y H Q
theorem op_eqX {X : Cx} (hu : X.A.units + 64 < cLine) : OpR X (compareOp .Eq) (rEqX X.K) := op_eq.or (op_eqD hu)
theorem op_neX {X : Cx} (hu : X.A.units + 64 < cLine) : OpR X (compareOp .NotEq) (rNeX X.K) := op_ne.or (op_neD hu)
theorem eqv_dec (x y : Str) : PyData.eqv (.str x) (.str y) = decide (V.str x = V.str y) := by rw [dec_str]; rfl
theorem od_eq : OpD K (rEqX K) gEq := OpD.pure fun Av H x y d e Q G h1 h2 hg k => by
  obtain ⟨ok, hg⟩ := hg
  rcases ok with ⟨o1, o2⟩ | ⟨a, b, rfl, rfl⟩
  · exact .inr ⟨d, e, h1.toDp o1, h2.toDp o2, o1, o2, k _ _ hg res_bl⟩
  · rw [eqv_dec] at hg
    rw [dast_str h1, dast_str h2]
    exact .inl ⟨rfl, k _ _ hg res_bl⟩
theorem od_ne : OpD K (rNeX K) gNe := OpD.pure fun Av H x y d e Q G h1 h2 hg k => by
  obtain ⟨ok, hg⟩ := hg
  rcases ok with ⟨o1, o2⟩ | ⟨a, b, rfl, rfl⟩
  · exact .inr ⟨d, e, h1.toDp o1, h2.toDp o2, o1, o2, k _ _ hg res_bl⟩
  · rw [eqv_dec] at hg
    rw [dast_str h1, dast_str h2]
    exact .inl ⟨rfl, k _ _ hg res_bl⟩
abbrev gLt : G2 := gI0 fun i j => .bool (decide (i < j))
abbrev gLe : G2 := gI0 fun i j => .bool (decide (i ≤ j))
abbrev gGt : G2 := gI0 fun i j => .bool (decide (j < i))
abbrev gGe : G2 := gI0 fun i j => .bool (decide (j ≤ i))
abbrev rLtI : R2 := rI0 fun i j => .bl (decide (i < j))
abbrev rLeI : R2 := rI0 fun i j => .bl (decide (i ≤ j))
abbrev rGtI : R2 := rI0 fun i j => .bl (decide (j < i))
abbrev rGeI : R2 := rI0 fun i j => .bl (decide (j ≤ i))
theorem od_lt : OpD K rLtI gLt := od_I0 fun _ _ _ _ => da_bl
theorem od_le : OpD K rLeI gLe := od_I0 fun _ _ _ _ => da_bl
theorem od_gt : OpD K rGtI gGt := od_I0 fun _ _ _ _ => da_bl
theorem od_ge : OpD K rGeI gGe := od_I0 fun _ _ _ _ => da_bl
/-- is None -/
def isNon : PyData → Bool
  | .none => true
  | _ => false
def gIs : G2 := fun d e G => e = .none ∧ G (.dat (.bool (isNon d)))
def gIsNot : G2 := fun d e G => e = .none ∧ G (.dat (.bool (!isNon d)))
abbrev rIsN : R2 := fun x y H Q => y = .non ∧ Q (.bl (decide (x = .non))) H
abbrev rNotN : R2 := fun x y H Q => y = .non ∧ Q (.bl (!decide (x = .non))) H
theorem non_iff {Av : Addr → Prop} {H : Hp} {d : PyData} {v : V} (h : DaT K Av H d v) : decide (v = .non) = isNon d := by
  cases d with
  | none => rw [dast_none h]; rfl
  | bool b => rw [dast_bool h]; rfl
  | int b => rw [dast_int h]; rfl
  | str b => rw [dast_str h]; rfl
  | list ds => obtain ⟨a, xs, e, _⟩ := h; rw [e]; rfl
  | tuple ds => obtain ⟨a, xs, e, _⟩ := dast_tup h; rw [e]; rfl
  | dict ds => obtain ⟨a, e, _⟩ := dast_dic h; rw [e]; rfl
theorem od_is : OpD K rIsN gIs := OpD.pure fun Av H x y d e Q G h1 h2 hg k => by
  obtain ⟨rfl, hg⟩ := hg
  exact ⟨dast_none h2, by rw [non_iff h1]; exact k _ _ hg res_bl⟩
theorem od_isnot : OpD K rNotN gIsNot := OpD.pure fun Av H x y d e Q G h1 h2 hg k => by
  obtain ⟨rfl, hg⟩ := hg
  exact ⟨dast_none h2, by rw [non_iff h1]; exact k _ _ hg res_bl⟩
/-- -x, not as a test -/
def gNeg : GU
  | .int i, G => G (.dat (.int (-i)))
  | _, _ => False
theorem ud_neg : UnD K (rU fun i => .int (-i)) gNeg := by
  intro Av H v d Q G mu h hg k
  cases d <;> try exact hg.elim
  exact ⟨_, dast_int h, k _ _ _ hg (fun _ _ h => h) res_int⟩
theorem de_neg (ha : DE K X a ta Ta) : DE K X (.UnaryOp .USub a pos) (tUn (rU fun i => .int (-i)) ta) (dUn gNeg Ta) := de_un un_neg ud_neg ha
/-! ### items and slices -/
def gIx : G2
  | .list xs, .int i, G => ∃ d, atI xs i = some d ∧ G (.dat d)
  | .tuple xs, .int i, G => ∃ d, atI xs i = some d ∧ G (.dat d)
  | .str z, .int i, G => z.length ≤ sizeLine ∧ ∃ c, atI z.cps.toList i = some c ∧ G (.dat (chr1 c))
  | _, _, _ => False
theorem atI_das {Av : Addr → Prop} {H : Hp} {ds : List PyData} {xs : List V} {i : Int} {d : PyData} (h : Das K Av H ds xs) (e : atI ds i = some d) : ∃ v, atI xs i = some v ∧ Da K Av H d v := by
  unfold atI at e ⊢
  rw [h.length] at e
  cases q : ixN xs.length i with
  | none => rw [q] at e; cases e
  | some j =>
    rw [q] at e
    obtain ⟨v, e1, e2⟩ := h.get (show ds[j]? = some d from e)
    exact ⟨v, e1, e2⟩
theorem od_ix : OpD K (rIx K) gIx := by
  intro Av H x y d e Q G mu h1 h2 hg k
  cases d <;> cases e <;> try exact hg.elim
  · obtain ⟨hz, c, e1, hg⟩ := hg
    exact .inr (.inr ⟨_, _, c, dast_str h1, dast_int h2, hz, e1, k _ _ _ hg (fun _ _ h => h) res_str⟩)
  · obtain ⟨p, xs, e1, q1, d1⟩ := h1
    obtain ⟨d, e3, hg⟩ := hg
    obtain ⟨v, e4, d4⟩ := atI_das d1 e3
    exact .inl ⟨p, xs, _, v, e1, dast_int h2, SqL.of q1, e4, k _ _ _ hg (fun _ _ h => h) (res_dat d4)⟩
  · obtain ⟨p, xs, e1, q1, d1⟩ := dast_tup h1
    obtain ⟨d, e3, hg⟩ := hg
    obtain ⟨v, e4, d4⟩ := atI_das d1 e3
    exact .inr (.inl ⟨p, xs, _, v, e1, dast_int h2, q1.t, e4, k _ _ _ hg (fun _ _ h => h) (res_dat d4)⟩)
theorem de_item (ha : DE K X a ta Ta) (hb : DE K X b tb Tb) (hs : PlainIx b := by intro _ _; rfl) (hK : X.K = K := by rfl) : DE K X (.Subscript a b pos) (tOp (rIx K) ta tb) (dBin gIx Ta Tb) := de_ix (hK ▸ ix_seq) od_ix ha hb hs
end
end DL
namespace DL
open PySem L2

/-! ### slices -/
abbrev DTO := DS → (Option Int → DS → Prop) → Prop
def OSd (K : PySem.W.Frag) (t : TO) (T : DTO) : Prop := ∀ (F : Fx) (A : Own) (σ : St) (H : Hp) (ρ : DS) (Q : Option Int → Hp → Prop) (QD : Option Int → DS → Prop), F.K = K → Rep F A σ H ρ → T ρ QD →
  (∀ o ρ' H' A', QD o ρ' → Rep F A' σ H' ρ' → Tr F A H A' H' → Q o H') → t σ H Q
structure DO (K : PySem.W.Frag) (X : Cx) (e : Option Expr) (t : TO) (T : DTO) : Prop where
  p : PO X e t
  s : OSd K t T
def cutD (xs : List PyData) (lo hi : Option Int) : List PyData := (xs.drop (HT.sIx xs.length 0 lo)).take (HT.sIx xs.length xs.length hi - HT.sIx xs.length 0 lo)
section
variable {K : PySem.W.Frag} {X : Cx} {a b c e : Expr} {Ta Tb Tc T : DTE} {ta tb tc te : TE} {pos p p2 : Pos} {lo hi : Option Expr} {tl th : TO} {Tl Th : DTO}
def oNone : DTO := fun ρ Q => Q none ρ
def oSome (T : DTE) : DTO := fun ρ Q => T ρ fun r ρ1 => ∃ i, lookD ρ1 r = some (.int i) ∧ Q (some i) ρ1
theorem do_none : DO K X none tNoPart oNone := ⟨po_none, fun F A σ H ρ Q QD hK R h k => k _ _ _ A h R .refl⟩
theorem do_some (h : DE K X e te T) : DO K X (some e) (tPart te) (oSome T) := by
  refine ⟨po_some h.p, fun F A σ H ρ Q QD hK R q k => ?_⟩
  refine h.s F A σ H ρ _ _ hK R q fun r ρ1 v H1 A1 h1 R1 t1 w1 => ?_
  obtain ⟨i, e1, h1⟩ := h1
  exact ⟨i, dast_int (R1.look w1.rw e1), k _ _ _ _ h1 R1 t1⟩
def gSl : PyData → Option Int → Option Int → (SV → Prop) → Prop
  | .list xs, lo, hi, G => G (.own (cutD xs lo hi))
  | .tuple xs, lo, hi, G => G (.dat (.tuple (cutD xs lo hi)))
  | .str z, lo, hi, G => z.length ≤ sizeLine ∧ G (.dat (.str (cutS z lo hi)))
  | _, _, _, _ => False
def rSlD (K : PySem.W.Frag) : V → Option Int → Option Int → Hp → VK → Prop := fun x lo hi H Q => rSlL K x lo hi H Q ∨ rSlX K x lo hi H Q ∨ rSlS x lo hi H Q
theorem das_cut {Av : Addr → Prop} {H : Hp} {ds : List PyData} {xs : List V} {lo hi : Option Int} (h : Das K Av H ds xs) : Das K Av H (cutD ds lo hi) (cutV xs lo hi) := by
  unfold cutD cutV
  rw [h.length]
  exact Das.take _ (Das.drop _ h)
def dSl (T : DTE) (Tl Th : DTO) : DTE := fun ρ QD => T ρ fun r ρ1 => Tl ρ1 fun l ρ2 => Th ρ2 fun u ρ3 => ∃ d, lookD ρ3 r = some d ∧ gSl d l u fun sv => QD sv ρ3
theorem es_sl (s : ES K te T) (sl : OSd K tl Tl) (sh : OSd K th Th) : ES K (tSl (rSlD K) te tl th) (dSl T Tl Th) := by
  intro F A σ H ρ Q QD hK R h k
  refine s F A σ H ρ _ _ hK R h fun r ρ1 v H1 A1 h1 R1 t1 w1 => ?_
  refine sl F A1 σ H1 ρ1 _ _ hK R1 h1 fun l ρ2 H2 A2 h2 R2 t2 => ?_
  refine sh F A2 σ H2 ρ2 _ _ hK R2 h2 fun u ρ3 H3 A3 h3 R3 t3 => ?_
  obtain ⟨d, e, h3⟩ := h3
  subst hK
  have dt := R3.look (R2.rw t3 (R1.rw t2 w1.rw)) e
  have t13 := t1.trans (t2.trans t3)
  have fin : ∀ v' H' sv, QD sv ρ3 → Same H3 H' → Res F.K (AvC F A3) H3 H' v' sv → Q v' H' := fun v' H' sv hs s w => k _ _ v' H' A3 hs (R3.same s) (t13.trans (sameTr s)) ((R3.res s w).back t13.trk)
  cases d with
  | list xs =>
    obtain ⟨p, vs, e1, q1, d1⟩ := dt
    exact .inl ⟨p, vs, e1, SqL.of q1, fun c hc => fin _ _ _ h3 (sameUpd hc) (res_own hc (das_cut d1) R3.mu')⟩
  | tuple xs =>
    obtain ⟨p, vs, e1, q1, d1⟩ := dast_tup dt
    refine .inr (.inl ⟨p, vs, e1, q1, fun z => ?_, fun _ c o hc dn => fin _ _ _ h3 (sameUpd hc) (res_tup dn hc (das_cut d1) R3.mu')⟩)
    refine fin _ _ _ h3 (fun _ _ h => h) (res_dat (da_tup q1 ?_))
    have e2 : cutV vs l u = vs := by
      unfold cutV
      rw [z.1, z.2]
      simp
    have d2 := das_cut (lo := l) (hi := u) d1
    rw [e2] at d2
    exact d2
  | str z => exact .inr (.inr ⟨z, dast_str dt, h3.1, fin _ _ _ h3.2 (fun _ _ h => h) res_str⟩)
  | none => exact h3.elim
  | bool _ => exact h3.elim
  | int _ => exact h3.elim
  | dict _ => exact h3.elim
theorem sl_D : SlR X (rSlD X.K) := sl_list.or (sl_tupX.or sl_str)
theorem de_slice (h : DE K X e te T) (hl : DO K X lo tl Tl) (hh : DO K X hi th Th) (hK : X.K = K := by rfl) : DE K X (.Subscript e (.Slice lo hi none p2) pos) (tSl (rSlD K) te tl th) (dSl T Tl Th) :=
  ⟨pe_slice (hK ▸ sl_D) h.p hl.p hh.p, es_sl h.s hl.s hh.s⟩
end

/-! ### built-in functions -/
theorem CalD.pure {K : PySem.W.Frag} {r : List V → Hp → VK → Prop} {g : G1} (h : ∀ (Av : Addr → Prop) (H : Hp) (vs : List V) (ds : List PyData) (Q : VK) (G : SV → Prop), DasT K Av H ds vs → g ds G → (∀ v sv, G sv → Res K Av H H v sv → Q v H) → r vs H Q) : CalD K r g :=
  fun Av H vs ds Q G _ h1 hg k => h Av H vs ds Q G h1 hg fun v sv a b => k v H sv a (fun _ _ h => h) b
theorem dasT1 {K : PySem.W.Frag} {Av : Addr → Prop} {H : Hp} {d : PyData} {vs : List V} (h : DasT K Av H [d] vs) : ∃ v, vs = [v] ∧ DaT K Av H d v := by
  cases h with
  | cons h1 h2 => cases h2; exact ⟨_, rfl, h1⟩
theorem dasT2 {K : PySem.W.Frag} {Av : Addr → Prop} {H : Hp} {d e : PyData} {vs : List V} (h : DasT K Av H [d, e] vs) : ∃ v w, vs = [v, w] ∧ DaT K Av H d v ∧ DaT K Av H e w := by
  cases h with
  | cons h1 h2 =>
    cases h2 with
    | cons h3 h4 => cases h4; exact ⟨_, _, rfl, h1, h3⟩
def g1 (g : PyData → (SV → Prop) → Prop) : G1
  | [d], G => g d G
  | _, _ => False
def g2 (g : PyData → PyData → (SV → Prop) → Prop) : G1
  | [d, e], G => g d e G
  | _, _ => False
theorem g1_inv {g : PyData → (SV → Prop) → Prop} {ds : List PyData} {G : SV → Prop} (h : g1 g ds G) : ∃ d, ds = [d] ∧ g d G := by
  match ds, h with
  | [d], h => exact ⟨d, rfl, h⟩
theorem g2_inv {g : PyData → PyData → (SV → Prop) → Prop} {ds : List PyData} {G : SV → Prop} (h : g2 g ds G) : ∃ d e, ds = [d, e] ∧ g d e G := by
  match ds, h with
  | [d, e], h => exact ⟨d, e, rfl, h⟩
section
variable {K : PySem.W.Frag} {X : Cx}
def gLen : PyData → (SV → Prop) → Prop
  | .list xs, G => G (.dat (.int xs.length))
  | .tuple xs, G => G (.dat (.int xs.length))
  | .str z, G => z.length ≤ sizeLine ∧ G (.dat (.int z.length))
  | _, _ => False
def rLenD (K : PySem.W.Frag) : List V → Hp → VK → Prop := fun xs H Q => (∃ p ys, xs = [.ref p] ∧ (SqL K H p ys ∨ SqT K H p ys) ∧ Q (.int ys.length) H) ∨ ∃ z, xs = [.str z] ∧ z.length ≤ sizeLine ∧ Q (.int z.length) H
theorem call_lenD : CallR X (.builtin "len") (rLenD X.K) := call_len_seq.or call_len_str
theorem cd_len : CalD K (rLenD K) (g1 gLen) := CalD.pure fun Av H vs ds Q G h hg k => by
  obtain ⟨d, e0, hgg⟩ := g1_inv hg
  clear hg
  subst e0
  obtain ⟨v, e0, hh⟩ := dasT1 h
  clear h
  subst e0
  cases d <;> try exact hgg.elim
  · exact .inr ⟨_, by rw [dast_str hh], hgg.1, k _ _ hgg.2 res_int⟩
  · obtain ⟨p, xs, e, q, d⟩ := hh
    exact .inl ⟨p, xs, by rw [e], .inl (SqL.of q), by rw [← d.length]; exact k _ _ hgg res_int⟩
  · obtain ⟨p, xs, e, q, d⟩ := dast_tup hh
    exact .inl ⟨p, xs, by rw [e], .inr q.t, by rw [← d.length]; exact k _ _ hgg res_int⟩
def gAbs : PyData → (SV → Prop) → Prop
  | .int i, G => G (.dat (.int (if i < 0 then -i else i)))
  | _, _ => False
abbrev rAbsD : List V → Hp → VK → Prop := fun xs H Q => ∃ i, xs = [.int i] ∧ Q (.int (if i < 0 then -i else i)) H
theorem cd_abs : CalD K rAbsD (g1 gAbs) := CalD.pure fun Av H vs ds Q G h hg k => by
  obtain ⟨d, e0, hgg⟩ := g1_inv hg
  clear hg
  subst e0
  obtain ⟨v, e0, hh⟩ := dasT1 h
  clear h
  subst e0
  cases d <;> try exact hgg.elim
  exact ⟨_, by rw [dast_int hh], k _ _ hgg res_int⟩
def gInt : PyData → (SV → Prop) → Prop
  | .int i, G => G (.dat (.int i))
  | .bool b, G => G (.dat (.int (if b then 1 else 0)))
  | _, _ => False
abbrev rIntD : List V → Hp → VK → Prop := fun xs H Q => (∃ i, xs = [.int i] ∧ Q (.int i) H) ∨ ∃ k, xs = [.bl k] ∧ Q (.int (if k then 1 else 0)) H
theorem cd_int : CalD K rIntD (g1 gInt) := CalD.pure fun Av H vs ds Q G h hg k => by
  obtain ⟨d, e0, hgg⟩ := g1_inv hg
  clear hg
  subst e0
  obtain ⟨v, e0, hh⟩ := dasT1 h
  clear h
  subst e0
  cases d <;> try exact hgg.elim
  · exact .inr ⟨_, by rw [dast_bool hh], k _ _ hgg res_int⟩
  · exact .inl ⟨_, by rw [dast_int hh], k _ _ hgg res_int⟩
def gMax : PyData → PyData → (SV → Prop) → Prop
  | .int i, .int j, G => G (.dat (.int (if j > i then j else i)))
  | _, _, _ => False
abbrev rMaxD : List V → Hp → VK → Prop := fun xs H Q => ∃ i j, xs = [.int i, .int j] ∧ Q (.int (if j > i then j else i)) H
theorem cd_max2 : CalD K rMaxD (g2 gMax) := CalD.pure fun Av H vs ds Q G h hg k => by
  obtain ⟨d, e, e0, hgg⟩ := g2_inv hg
  clear hg
  subst e0
  obtain ⟨v, w, e0, hh, hh'⟩ := dasT2 h
  clear h
  subst e0
  cases d <;> cases e <;> try exact hgg.elim
  exact ⟨_, _, by rw [dast_int hh, dast_int hh'], k _ _ hgg res_int⟩
def gMin : PyData → PyData → (SV → Prop) → Prop
  | .int i, .int j, G => G (.dat (.int (if j < i then j else i)))
  | _, _, _ => False
abbrev rMinD : List V → Hp → VK → Prop := fun xs H Q => ∃ i j, xs = [.int i, .int j] ∧ Q (.int (if j < i then j else i)) H
theorem cd_min2 : CalD K rMinD (g2 gMin) := CalD.pure fun Av H vs ds Q G h hg k => by
  obtain ⟨d, e, e0, hgg⟩ := g2_inv hg
  clear hg
  subst e0
  obtain ⟨v, w, e0, hh, hh'⟩ := dasT2 h
  clear h
  subst e0
  cases d <;> cases e <;> try exact hgg.elim
  exact ⟨_, _, by rw [dast_int hh, dast_int hh'], k _ _ hgg res_int⟩
/-- tuple(x), list(x) of a list or a tuple -/
def gTuple : PyData → (SV → Prop) → Prop
  | .list xs, G => G (.dat (.tuple xs))
  | .tuple xs, G => G (.dat (.tuple xs))
  | _, _ => False
abbrev rTupleD (K : PySem.W.Frag) : List V → Hp → VK → Prop := fun xs H Q => ∃ p ys, xs = [.ref p] ∧ ((SqL K H p ys ∧ NewT H ys Q) ∨ (SqX K H p ys ∧ Q (.ref p) H))
theorem cd_tuple : CalD K (rTupleD K) (g1 gTuple) := by
  intro Av H vs ds Q G mu h hg k
  obtain ⟨d, e0, hgg⟩ := g1_inv hg
  clear hg
  subst e0
  obtain ⟨v, e0, hh⟩ := dasT1 h
  clear h
  subst e0
  cases d <;> try exact hgg.elim
  · obtain ⟨p, xs, e, q, d⟩ := hh
    exact ⟨p, xs, by rw [e], .inl ⟨SqL.of q, fun c o hc dn => k _ _ _ hgg (sameUpd hc) (res_tup dn hc d mu)⟩⟩
  · obtain ⟨p, xs, e, q, d⟩ := dast_tup hh
    exact ⟨p, xs, by rw [e], .inr ⟨q, k _ _ _ hgg (fun _ _ z => z) (res_dat (da_tup q d))⟩⟩
def gList : PyData → (SV → Prop) → Prop
  | .list xs, G => G (.own xs)
  | .tuple xs, G => G (.own xs)
  | _, _ => False
abbrev rListD (K : PySem.W.Frag) : List V → Hp → VK → Prop := fun xs H Q => ∃ p ys, xs = [.ref p] ∧ (SqL K H p ys ∨ SqT K H p ys) ∧ ∀ l, H l = none → Q (.ref l) (upd H l (.lst ys))
theorem cd_list : CalD K (rListD K) (g1 gList) := by
  intro Av H vs ds Q G mu h hg k
  obtain ⟨d, e0, hgg⟩ := g1_inv hg
  clear hg
  subst e0
  obtain ⟨v, e0, hh⟩ := dasT1 h
  clear h
  subst e0
  cases d <;> try exact hgg.elim
  · obtain ⟨p, xs, e, q, d⟩ := hh
    exact ⟨p, xs, by rw [e], .inl (SqL.of q), fun c hc => k _ _ _ hgg (sameUpd hc) (res_own hc d mu)⟩
  · obtain ⟨p, xs, e, q, d⟩ := dast_tup hh
    exact ⟨p, xs, by rw [e], .inr q.t, fun c hc => k _ _ _ hgg (sameUpd hc) (res_own hc d mu)⟩
/-- sum of a list of ints -/
def intsOf : List PyData → Option (List Int)
  | [] => some []
  | .int i :: ds => (intsOf ds).map (i :: ·)
  | _ :: _ => none
theorem intsOf_das {Av : Addr → Prop} {H : Hp} : ∀ {ds : List PyData} {xs : List V} {ns : List Int}, Das K Av H ds xs → intsOf ds = some ns → xs = ns.map V.int
  | [], xs, ns, h, e => by
    have e' : ns = [] := (Option.some.inj e).symm
    subst e'
    simpa only [Das, List.map_nil] using h
  | d :: ds, xs, ns, h, e => by
    simp only [Das] at h
    obtain ⟨x, r, rfl, h1, h2⟩ := h
    cases d <;> simp only [intsOf] at e <;> try cases e
    rename_i z
    cases q : intsOf ds with
    | none => rw [q] at e; cases e
    | some ms =>
      rw [q] at e
      have e' : ns = z :: ms := (Option.some.inj e).symm
      subst e'
      rw [intsOf_das h2 q]
      have h1' : x = .int z := by simpa only [Da] using h1
      rw [h1']
      rfl
def gSum : PyData → (SV → Prop) → Prop
  | .list xs, G => ∃ ns, intsOf xs = some ns ∧ G (.dat (.int ns.sum))
  | _, _ => False
theorem cd_sum : CalD K (rSum K) (g1 gSum) := CalD.pure fun Av H vs ds Q G h hg k => by
  obtain ⟨d, e0, hgg⟩ := g1_inv hg
  clear hg
  subst e0
  obtain ⟨v, e0, hh⟩ := dasT1 h
  clear h
  subst e0
  cases d <;> try exact hgg.elim
  obtain ⟨p, xs, e, q, d⟩ := hh
  obtain ⟨ns, e1, hgg⟩ := hgg
  have e2 := intsOf_das d e1
  subst e2
  exact ⟨p, ns, by rw [e], SqL.of q, k _ _ hgg res_int⟩
/-- str of an int, of None, of a bool -/
def gStr : PyData → (SV → Prop) → Prop
  | .int i, G => i.natAbs.log2 < 1920 ∧ G (.dat (.str (toString i)))
  | .none, G => G (.dat (.str "None"))
  | .bool b, G => G (.dat (.str (if b then "True" else "False")))
  | .str z, G => G (.dat (.str z))
  | _, _ => False
def rStrD : List V → Hp → VK → Prop := fun xs H Q => (∃ i, xs = [.int i] ∧ i.natAbs.log2 < 1920 ∧ Q (.str (toString i)) H) ∨ (xs = [.non] ∧ Q (.str "None") H) ∨ (∃ b : Bool, xs = [.bl b] ∧ Q (.str (if b then "True" else "False")) H) ∨ ∃ z, xs = [.str z] ∧ Q (.str z) H
theorem call_strD : CallR X (.type "str") rStrD := by
  intro pins s σ H xs us Q I r h
  rcases h with ⟨i, rfl, hz, q⟩ | ⟨rfl, q⟩ | ⟨b, rfl, q⟩ | ⟨z, rfl, q⟩
  · obtain ⟨u, rfl, t, rfl⟩ := vals1 r
    exact PySem.P.str_of_int hz ⟨.str _, H, I.tok _, ⟨_, rfl⟩, q⟩
  · obtain ⟨u, rfl, t⟩ := vals1 r
    cases t
    exact PySem.P.str_of_none ⟨.str _, H, I.tok _, ⟨_, rfl⟩, q⟩
  · obtain ⟨u, rfl, t⟩ := vals1 r
    cases t
    exact PySem.P.str_of_bool ⟨.str _, H, I.tok _, ⟨_, rfl⟩, q⟩
  · obtain ⟨u, rfl, t, rfl⟩ := vals1 r
    exact PySem.P.str_of_str ⟨.str _, H, I, ⟨_, rfl⟩, q⟩
theorem cd_str : CalD K rStrD (g1 gStr) := CalD.pure fun Av H vs ds Q G h hg k => by
  obtain ⟨d, e0, hgg⟩ := g1_inv hg
  clear hg
  subst e0
  obtain ⟨v, e0, hh⟩ := dasT1 h
  clear h
  subst e0
  cases d <;> try exact hgg.elim
  · exact .inr (.inl ⟨by rw [dast_none hh], k _ _ hgg res_str⟩)
  · exact .inr (.inr (.inl ⟨_, by rw [dast_bool hh], k _ _ hgg res_str⟩))
  · exact .inl ⟨_, by rw [dast_int hh], hgg.1, k _ _ hgg.2 res_str⟩
  · exact .inr (.inr (.inr ⟨_, by rw [dast_str hh], k _ _ hgg res_str⟩))
/-! ### repr -/
def noDic : PyData → Bool
  | .dict kvs => kvs.isEmpty
  | d => !d.hasDict
def reprOk (d : PyData) : Prop := noDic d = true ∧ d.showable = true ∧ d.shown.length ≤ sizeLine ∧ d.depth ≤ 60
mutual
theorem da_reads {X : Cx} {pins : List (Addr × Obj)} {σ : St} {H : Hp} {s : Shared} {Av : Addr → Prop} (I : Inv X pins σ H s) : ∀ (d : PyData) (v : V) (u : Value), d.hasDict = false → Da X.K Av H d v → RelV v u → ∃ as, Reads s.heap u d as
  | .none, v, u, _, h, r => by
    have e : v = .non := by simpa only [Da] using h
    subst e
    cases r
    exact ⟨_, .none⟩
  | .bool b, v, u, _, h, r => by
    have e : v = .bl b := by simpa only [Da] using h
    subst e
    cases r
    exact ⟨_, .bool b⟩
  | .int i, v, u, _, h, r => by
    have e : v = .int i := by simpa only [Da] using h
    subst e
    obtain ⟨t, rfl⟩ := r
    exact ⟨_, .int i t⟩
  | .str x, v, u, _, h, r => by
    have e : v = .str x := by simpa only [Da] using h
    subst e
    obtain ⟨t, rfl⟩ := r
    exact ⟨_, .str x t⟩
  | .list ds, v, u, hd, h, r => by
    simp only [Da] at h
    obtain ⟨a, xs, e, _, q, h⟩ := h
    subst e
    cases r
    obtain ⟨its, rv, ⟨o, n, ho, hc, _, hs⟩, _⟩ := I.list (SqL.of q)
    obtain ⟨as, h4⟩ := das_reads I ds xs its (by simpa only [PyData.hasDict] using hd) h rv
    exact ⟨_, .list ho hc hs h4⟩
  | .tuple ds, v, u, hd, h, r => by
    simp only [Da] at h
    obtain ⟨a, xs, e, q, h⟩ := h
    subst e
    cases r
    obtain ⟨its, rv, ⟨o, ho, hc, n, hs⟩, _⟩ := I.tuple q.t
    obtain ⟨as, h4⟩ := das_reads I ds xs its (by simpa only [PyData.hasDict] using hd) h rv
    exact ⟨_, .tuple ho hc hs h4⟩
  | .dict kvs, v, u, hd, h, r => by simp [PyData.hasDict] at hd
theorem das_reads {X : Cx} {pins : List (Addr × Obj)} {σ : St} {H : Hp} {s : Shared} {Av : Addr → Prop} (I : Inv X pins σ H s) : ∀ (ds : List PyData) (vs : List V) (us : List Value), PyData.hasDictAll ds = false → Das X.K Av H ds vs → Vals vs us → ∃ as, ReadsAll s.heap us ds as
  | [], vs, us, _, h, r => by
    have e : vs = [] := by simpa only [Das] using h
    subst e
    cases r
    exact ⟨_, .nil⟩
  | d :: ds, vs, us, hd, h, r => by
    simp only [Das] at h
    obtain ⟨x, rs, e, h1, h2⟩ := h
    subst e
    cases r with
    | cons r1 r2 =>
      have hd' : d.hasDict = false ∧ PyData.hasDictAll ds = false := by simpa [PyData.hasDictAll] using hd
      obtain ⟨as, e1⟩ := da_reads I d x _ hd'.1 h1 r1
      obtain ⟨bs, e2⟩ := das_reads I ds rs _ hd'.2 h2 r2
      exact ⟨_, .cons e1 e2⟩
end
def rReprD (K : PySem.W.Frag) : List V → Hp → VK → Prop := fun xs H Q => ∃ d v, xs = [v] ∧ DaT K Av0 H d v ∧ reprOk d ∧ Q (.str d.shown) H
theorem dat_reads {X : Cx} {pins : List (Addr × Obj)} {σ : St} {H : Hp} {s : Shared} {Av : Addr → Prop} (I : Inv X pins σ H s) {d : PyData} {v : V} {u : Value} (hd : d.hasDict = false) (h : DaT X.K Av H d v) (r : RelV v u) : ∃ as, Reads s.heap u d as := by
  cases d with
  | list ds =>
    obtain ⟨a, xs, e, q, h⟩ := h
    subst e
    cases r
    obtain ⟨its, rv, ⟨o, n, ho, hc, _, hs⟩, _⟩ := I.list (SqL.of q)
    obtain ⟨as, h4⟩ := das_reads I ds xs its (by simpa only [PyData.hasDict] using hd) h rv
    exact ⟨_, .list ho hc hs h4⟩
  | none => exact da_reads (Av := Av) I _ _ _ hd h r
  | bool _ => exact da_reads (Av := Av) I _ _ _ hd h r
  | int _ => exact da_reads (Av := Av) I _ _ _ hd h r
  | str _ => exact da_reads (Av := Av) I _ _ _ hd h r
  | tuple _ => exact da_reads (Av := Av) I _ _ _ hd h r
  | dict _ => exact da_reads (Av := Av) I _ _ _ hd h r
theorem call_reprD {k : Nat} (hr : Room k X.A) (hgd : X.A.guards = some []) : CallR X (.builtin "repr") (rReprD X.K) := by
  intro pins s σ H xs us Q I r h
  obtain ⟨d, v, rfl, hd, ⟨ok1, ok2, ok3, ok4⟩, q⟩ := h
  obtain ⟨u, rfl, rv⟩ := vals1 r
  have hu : X.A.units + (d.depth + 1) < cLine := by have := hr.un; omega
  cases d with
  | none =>
    rw [dast_none hd] at rv
    cases rv
    exact PySem.P.repr_of_none ⟨.str _, H, I.tok _, ⟨_, rfl⟩, by simpa only [PyData.shown] using q⟩
  | bool b =>
    rw [dast_bool hd] at rv
    cases rv
    exact PySem.P.repr_of_bool ⟨.str _, H, I.tok _, ⟨_, rfl⟩, by simpa only [PyData.shown] using q⟩
  | int i =>
    rw [dast_int hd] at rv
    obtain ⟨t, rfl⟩ := rv
    exact PySem.P.repr_of_int (by simpa [PyData.showable] using ok2) ⟨.str _, H, I.tok _, ⟨_, rfl⟩, by simpa only [PyData.shown] using q⟩
  | str z =>
    rw [dast_str hd] at rv
    obtain ⟨t, rfl⟩ := rv
    exact PySem.P.repr_of_str ⟨.str _, H, I.tok _, ⟨_, rfl⟩, by simpa only [PyData.shown] using q⟩ (by simpa only [PyData.shown] using ok3)
  | list ds =>
    have nd : (PyData.list ds).hasDict = false := by simpa [noDic] using ok1
    obtain ⟨as, rr⟩ := dat_reads I nd hd rv
    obtain ⟨a, xs, e, _⟩ := hd
    subst e
    cases rv
    exact repr_of_reads' rr ok2 (fun z => by rw [nd] at z; cases z) hgd hu (fun b o e => e) (fun h' u tk hk => ⟨.str _, H, I.kept hk, ⟨u, rfl⟩, q⟩) ok3
  | tuple ds =>
    have nd : (PyData.tuple ds).hasDict = false := by simpa [noDic] using ok1
    obtain ⟨as, rr⟩ := dat_reads I nd hd rv
    obtain ⟨a, xs, e, _⟩ := dast_tup hd
    subst e
    cases rv
    exact repr_of_reads' rr ok2 (fun z => by rw [nd] at z; cases z) hgd hu (fun b o e => e) (fun h' u tk hk => ⟨.str _, H, I.kept hk, ⟨u, rfl⟩, q⟩) ok3
  | dict kvs =>
    obtain ⟨a, e, _, qh, e2⟩ := dast_dic hd
    subst e
    subst e2
    cases rv
    obtain ⟨_, ns, vs, kv, o, es, ep, ho, hex, hdat, _, hp, _⟩ := (show ObjOk X.prog X.w H s.heap a (.dK []) from I.hok a _ qh)
    have hv : vs = [] := by cases kv; rfl
    subst hv
    have hes : es.toList = [] := by
      have := hp.length
      exact List.eq_nil_of_length_eq_zero (by simpa using this)
    have rr : Reads s.heap (.ref a) (.dict []) (a :: [] ++ []) := .dict ho hex.1 hdat (by rw [hes]; exact .nil) (by rw [hes]; exact .nil)
    refine repr_of_reads' rr ok2 (fun _ => ?_) hgd hu (fun b o e => e) (fun h' u tk hk => ⟨.str _, H, I.kept hk, ⟨u, rfl⟩, q⟩) ok3
    have nsys : a ≠ sysModules := by simpa using ns
    simpa using fun z => nsys z.symm
def gRepr : PyData → (SV → Prop) → Prop := fun d G => reprOk d ∧ G (.dat (.str d.shown))
theorem cd_repr : CalD K (rReprD K) (g1 gRepr) := CalD.pure fun Av H vs ds Q G h hg k => by
  obtain ⟨d, e0, hgg⟩ := g1_inv hg
  clear hg
  subst e0
  obtain ⟨v, e0, hh⟩ := dasT1 h
  clear h
  subst e0
  exact ⟨d, v, rfl, hh.dp, hgg.1, k _ _ hgg.2 res_str⟩
/-! ### isinstance -/
def tyD : PyData → String
  | .none => "NoneType"
  | .bool _ => "bool"
  | .int _ => "int"
  | .str _ => "str"
  | .list _ => "list"
  | .tuple _ => "tuple"
  | .dict _ => "dict"
theorem tyX_of {Av : Addr → Prop} {H : Hp} {d : PyData} {v : V} (h : DaT K Av H d v) : TyX K H v (.type (tyD d)) := by
  cases d with
  | none => rw [dast_none h]; exact .base .non
  | bool b => rw [dast_bool h]; exact .base (.bl b)
  | int b => rw [dast_int h]; exact .base (.int b)
  | str b => rw [dast_str h]; exact .base (.str b)
  | list ds => obtain ⟨a, xs, e, q, _⟩ := h; rw [e]; exact .base (.lst q)
  | dict ds => obtain ⟨a, e, _, q, _⟩ := dast_dic h; rw [e]; exact .base (.dK q)
  | tuple ds =>
    obtain ⟨a, xs, e, q, _⟩ := dast_tup h
    rw [e]
    rcases q.t with (q | ⟨o, q⟩) | ⟨o, its, n, q, c, _⟩
    · exact .base (.tup q)
    · exact .fTuple q
    · exact .kTuple q c
def isiOf (T : String) (d : PyData) : Bool := (kitB (tyD d) T).getD false
def kitAll (T : String) : Bool := (kitB "NoneType" T).isSome && (kitB "bool" T).isSome && (kitB "int" T).isSome && (kitB "str" T).isSome && (kitB "list" T).isSome && (kitB "tuple" T).isSome && (kitB "dict" T).isSome
theorem getD_some {o : Option Bool} (h : o.isSome = true) : o = some (o.getD false) := by
  cases o with
  | none => cases h
  | some b => rfl
theorem isiOf_eq {T : String} (h : kitAll T = true) (d : PyData) : kitB (tyD d) T = some (isiOf T d) := by
  simp only [kitAll, Bool.and_eq_true] at h
  obtain ⟨⟨⟨⟨⟨⟨h1, h2⟩, h3⟩, h4⟩, h5⟩, h6⟩, h7⟩ := h
  cases d
  · exact getD_some h1
  · exact getD_some h2
  · exact getD_some h3
  · exact getD_some h4
  · exact getD_some h5
  · exact getD_some h6
  · exact getD_some h7
def dIsi (T : String) (Te : DTE) : DTE := fun ρ QD => Te ρ fun r ρ1 => ∃ d, lookD ρ1 r = some d ∧ QD (.dat (.bool (isiOf T d))) ρ1
theorem es_isi {te : TE} {Te : DTE} {T : String} (hT : kitAll T = true) (s : ES K te Te) : ES K (tCB (rIsi K) (tCons te (tCons (tC (.ty T)) tNil))) (dIsi T Te) := by
  intro F A σ H ρ Q QD hK R h k
  refine s F A σ H ρ _ _ hK R h fun r ρ1 v H1 A1 h1 R1 t1 w1 => ?_
  obtain ⟨d, e, h1⟩ := h1
  subst hK
  exact ⟨v, .ty T, .type (tyD d), .type T, isiOf T d, rfl, .ty T, tyX_of (R1.look w1.rw e), kit_ty (isiOf_eq hT d), k _ _ _ _ _ h1 R1 t1 (by show Da _ _ _ _ _; exact da_bl)⟩
theorem de_isi {x : Str} {e : Expr} {te : TE} {Te : DTE} {p p2 pos : Pos} (T : String) (he : DE K X e te Te) (hT : kitAll T = true := by decide +kernel) (hg : Gl X "isinstance" := by rfl) (hm : X.mg "isinstance" = none) (hg2 : Gl X x := by rfl) (hm2 : X.mg x = none) (hv2 : bootBuiltins x = some (.type T) := by decide +kernel)
    (hv : bootBuiltins "isinstance" = some (.builtin "isinstance") := by decide +kernel) (hK : X.K = K := by rfl) (hn : x ≠ "__name__" := by decide) (hd : (x == ("__debug__" : Str)) = false := by decide)
    (hs : starEach [e, .Name x p2] X.env = (false, eval e X.env) :: starEach [.Name x p2] X.env := by rfl) (hs2 : starEach [.Name x p2] X.env = (false, eval (.Name x p2) X.env) :: starEach [] X.env := by rfl) (hpl : (backTo pos (starEach [.Name x p2] X.env)).any (·.1) = false := by rfl) :
    DE K X (.Call (.Name "isinstance" p) [e, .Name x p2] [] pos) (tCB (rIsi K) (tCons te (tCons (tC (.ty T)) tNil))) (dIsi T Te) :=
  ⟨pe_callB (hK ▸ call_isi) hg hm hv (pa_cons he.p (pa_cons (pe_bltn hg2 hm2 hv2 rfl hn hd) pa_nil hs2) hs) (by decide) (by decide) hs hpl, es_isi hT he.s⟩
end
end DL
namespace DL
open PySem L2 PySem.Spec
open PyProof.Rows (envOfC)

/-! ### defs by name -/
def sz (n : Nat) (S : DSp) : DSp := fun svs G => svs.length = n ∧ S svs G
structure Cal (P : Program) (w : World) (K : PySem.W.Frag) (mg : Str → Option Value) (base : Heap) (k : Nat) (x : Str) (ps : List Str) (sp : Sp) : Prop where
  ex : ∃ f fd, mg x = some (.ref f) ∧ PySem.W.keepIn K (.ref f) = true ∧ Binds K fd ps [] ∧ FnG P w K mg base k f fd ps sp
section
variable {P : Program} {w : World} {K : PySem.W.Frag} {mg : Str → Option Value} {base : Heap}
theorem okS {x qual : Str} {st : Stmt} {f : Addr} {fd : FuncData} {N ps : List Str} {k n : Nat} {T : DSp} {TB : DTS} (F : Fun K x qual st f fd) (S : FnScope N ps (defScope st)) (hn : ps.length = n)
    (term : ∀ (cdv : Value) (A : Around) (outer : List Env) (s : Shared) (H : Hp) (E : XK), Room k (A.deeper (envOfC qual (defScope st) s.heap.objs.size f cdv)) → A.guards = some [] → ∃ tb, DSs K (cxOf CX0 P w K mg base N qual (defScope st) f cdv A outer s H E).nox (defBody st) tb TB)
    (spec : ∀ args G, args.length = n → T args G → dDef (N.length - n) TB args G) : FnG P w K mg base (k + 1) f fd ps (spD K n (sz n T)) := by
  obtain ⟨oc, od, kV, doc, pm, an, cdv, ct, osl, rfl, lk, hcd⟩ := F.ex
  refine ⟨fun vs H Q E h => ?_, fun A outer s H args us vs Q E hr hgd e0 hb r hsp => ?_⟩
  · obtain ⟨_, _, _, _, h, _⟩ := h
    exact h.trans hn.symm
  obtain ⟨Av, dk, svs, G, hl, hm, hdk, hkk, ar, hT, post⟩ := hsp
  have hlp : vs.length = ps.length := hl.trans hn.symm
  have KX : K.In s.heap := e0.mod.kin.keeps fun b o e => (e0.bs b o e).1
  have lim : s.heap.NoLimit := e0.mod.nolimit.keeps fun b o e => (e0.bs b o e).1
  refine codeAny_call_function hr.depth (KX _ _ lk) rfl S.co S.gen rfl (PySem.W.codeRec_of KX hcd) (hb _ _ _ _ ?_)
  refine wpAny_newFunctionEnv_cells S.kind (fun y hy => ?_) fun env he s1 x => ?_
  · rcases S.par y.1 (List.of_mem_zip (show (y.1, y.2) ∈ ps.zip us from hy)).1 with q | q
    · exact .inl q
    · exact .inr ⟨q, PySem.W.cellsFrom_some _ _ _ (.inl q)⟩
  subst he
  refine ⟨lim.keeps x.toInCall.keep, codeAny_func ?_⟩
  obtain ⟨tb, ht, hs⟩ := term cdv A outer s H E (hr.deeper _) hgd
  have I := inv_start (CX := CX0) (N := N) (E := E) S hr.hd e0 hlp r x
  have body := spec svs G (ar.length.symm.trans hl) hT.2
  have red := hs ⟨K, H, Av, dk⟩ (fun _ => none) (L2.start N vs) H _ { nx := fun _ H' => Q .non H', rt := Q } _ rfl (start_rep (N := N) hl hm hdk hkk ar) body (def_ends post)
  refine wpAny_mono (ht.nox.run [] s1 (L2.start N vs) H _ I red) (fun fl s' q => ?_) fun e s' q => q
  cases fl with
  | ret u =>
    obtain ⟨v, σ', H', J, rv, q⟩ := q
    exact ⟨v, H', J.os, J.bare, J.base, J.hok, rv, q⟩
  | next =>
    obtain ⟨σ', H', J, q⟩ := q
    exact ⟨.non, H', J.os, J.bare, J.base, J.hok, rfl, q⟩
  | brk =>
    obtain ⟨_, _, _, q⟩ := q
    exact q.elim
  | cont =>
    obtain ⟨_, _, _, q⟩ := q
    exact q.elim
end
section
variable {K : PySem.W.Frag} {X : Cx} {k : Nat} {ps : List Str} {n : Nat} {S : DSp} {x : Str} {p pos : Pos} {e : Expr} {es : List Expr} {TA : DTA} {ta : L2.TA}
theorem de_fn (C : Cal X.prog X.w X.K X.mg X.base k x ps (spD K n (sz n S))) (hr : Room k X.A) (hgd : X.A.guards = some []) (ha : DA K X (e :: es) ta TA) (hg : Gl X x := by rfl)
    (hdb : (x == ("__debug__" : Str)) = false := by decide) (he : starEach (e :: es) X.env = (false, eval e X.env) :: starEach es X.env := by rfl) (hpl : (backTo pos (starEach es X.env)).any (·.1) = false := by rfl) :
    DE K X (.Call (.Name x p) (e :: es) [] pos) (tCallG K n (sz n S) ta) (dCall (sz n S) TA) := by
  obtain ⟨f, fd, hm, hk, hb, G⟩ := C.ex
  exact de_call G hr hgd hg hm hk hb (fun _ _ h => h.1) ha hdb he hpl
theorem de_fn0 (C : Cal X.prog X.w X.K X.mg X.base k x ps (spD K n (sz n S))) (hr : Room k X.A) (hgd : X.A.guards = some []) (hg : Gl X x := by rfl)
    (hdb : (x == ("__debug__" : Str)) = false := by decide) : DE K X (.Call (.Name x p) [] [] pos) (tCallG K n (sz n S) tNil) (dCall (sz n S) dNil) := by
  obtain ⟨f, fd, hm, hk, hb, G⟩ := C.ex
  exact de_call0 G hr hgd hg hm hk hb (fun _ _ h => h.1) hdb
theorem de_bi {id : String} {r : List V → Hp → VK → Prop} {g : G1} (hc : CallR X (.builtin id) r) (og : CalD K r g) (hm : X.mg x = none) (ha : DA K X (e :: es) ta TA) (hg : Gl X x := by rfl) (hv : bootBuiltins x = some (.builtin id) := by decide +kernel) (hn : x ≠ "__name__" := by decide) (hdb : (x == ("__debug__" : Str)) = false := by decide)
    (he : starEach (e :: es) X.env = (false, eval e X.env) :: starEach es X.env := by rfl) (hpl : (backTo pos (starEach es X.env)).any (·.1) = false := by rfl) : DE K X (.Call (.Name x p) (e :: es) [] pos) (tCB r ta) (dCal g TA) :=
  de_callB hc og hg hm hv ha hn hdb he hpl
theorem de_ty {Ty : String} {r : List V → Hp → VK → Prop} {g : G1} (hc : CallR X (.type Ty) r) (og : CalD K r g) (hm : X.mg x = none) (ha : DA K X (e :: es) ta TA) (hg : Gl X x := by rfl) (hv : bootBuiltins x = some (.type Ty) := by decide +kernel) (hn : x ≠ "__name__" := by decide) (hdb : (x == ("__debug__" : Str)) = false := by decide)
    (he : starEach (e :: es) X.env = (false, eval e X.env) :: starEach es X.env := by rfl) (hpl : (backTo pos (starEach es X.env)).any (·.1) = false := by rfl) : DE K X (.Call (.Name x p) (e :: es) [] pos) (tCB r ta) (dCal g TA) :=
  de_callTy hc og hg hm hv ha hn hdb he hpl
/-- a constant of the module: data that stands at its name -/
structure GlobD (K : PySem.W.Frag) (mg : Str → Option Value) (x : Str) (d : PyData) : Prop where
  ex : ∃ v u, mg x = some u ∧ RelV v u ∧ ∀ (Av : Addr → Prop) (H : Hp), Da K Av H d v
def tGlob (mg : Str → Option Value) (x : Str) : TE := fun _ H Q => ∃ v u, mg x = some u ∧ RelV v u ∧ Q v H
theorem de_globD {d : PyData} {mg : Str → Option Value} (g : GlobD K mg x d) (hmg : X.mg = mg := by rfl) (hg : Gl X x := by rfl) (hd : (x == ("__debug__" : Str)) = false := by decide) : DE K X (.Name x pos) (tGlob mg x) (dC d) := by
  subst hmg
  refine ⟨⟨fun pins s σ H Q I h => ?_⟩, fun F A σ H ρ Q QD hK R q k => ?_⟩
  · obtain ⟨v, u, hm, r, q⟩ := h
    exact (pe_glob hg hm r hd).run pins s σ H Q I q
  · obtain ⟨v, u, hm, r, h⟩ := g.ex
    exact ⟨v, u, hm, r, k _ _ v H A q R .refl (by show Da F.K _ _ _ _; rw [hK]; exact h _ _)⟩
/-- name = [..] -/
theorem ds_setLc {wk : Bool} {elt tg iter : Expr} {ifs : List Expr} {scope : Scope} {is : List Nat} {y : Str} {py spos : Pos} {W : DTI} {wi : TI} {g : DTG} {gg : TG} {T : DTE} {te : TE} {TC : DTT} {tc : TT} (i : Nat) (own : List (Str × Nat)) (hc : X.calm = true) (hN : X.N.Nodup) (hi : DI wk K X tg iter wi W) (ok : BlkOk X.N X.env.scope scope own)
    (hg : ∀ (s : Shared) (H : Hp) (C : Addr) (cl : List (Str × Addr)) (fp : List Addr), DG wk K (X.blk s H scope (compEnvC scope cl C X.env) fp) tg gg g is) (hv : ∀ i ∈ is, i ∈ own.map (·.2))
    (ht : ∀ (s : Shared) (H : Hp) (C : Addr) (cl : List (Str × Addr)) (fp : List Addr), DTs K (X.blk s H scope (compEnvC scope cl C X.env) fp) ifs tc TC)
    (he : ∀ (s : Shared) (H : Hp) (C : Addr) (cl : List (Str × Addr)) (fp : List Addr), DE K (X.blk s H scope (compEnvC scope cl C X.env) fp) elt te T)
    (hy : X.N[i]? = some y := by rfl) (hyl : X.env.scope.names.lookup y = some .local := by rfl)
    (hsw : swapsWith (.ListComp elt [⟨tg, iter, ifs, 0⟩] scope pos) (some (.Name y py)) spos.line X.env = pure true := by exact sw_true rfl rfl rfl (by decide +kernel)) (hs : ∀ x, foldedSetIterable iter X.env x = pure x := by intro _; rfl) :
    DSt K X (.Assign [.Name y py] (.ListComp elt [⟨tg, iter, ifs, 0⟩] scope pos) spos) (tAsg (tLc wi gg tc te (own.map (·.2))) (gName i)) (dSet i (dLc W g TC T (own.map (·.2)))) := by
  refine ⟨ps_setLc hc hN hy hyl hsw hi.p ok (fun s H C cl fp => (hg s H C cl fp).p) (fun s H C cl fp => (ht s H C cl fp).p) (fun s H C cl fp => (he s H C cl fp).p) hs, ?_⟩
  have z : ∀ P : Prop, (∀ (s : Shared) (H : Hp) (C : Addr) (cl : List (Str × Addr)) (fp : List Addr), P) → P := fun P f => f X.s_0 X.H_0 0 [] []
  exact ss_set (es_lc hi.s (z _ fun s H C cl fp => (hg s H C cl fp).s) hv (z _ fun s H C cl fp => (ht s H C cl fp).s) (z _ fun s H C cl fp => (he s H C cl fp).s))
end
end DL
namespace DL
open PySem L2 PySem.Spec
open Sem (wp)
/-! ### enumerate over what begins -/
theorem meets_enumB {v : Value} {o : Obj} {H : Heap → Prop} (B : Begins v o H) :
    Meets (Builtin.«enumerate.__new__» ⟨[.type "enumerate", v], []⟩) (fun _ R s => H s.heap ∧
      R (.ok (.ret (.ref (s.heap.push o).objs.size))) { s with heap := (s.heap.push o).push { cls := .type "enumerate", data := .fields #[.none, .bool false, .ref s.heap.objs.size, rawInt 0, .none, .none] } }) :=
  .of_wp fun prog w A R s h => by
    obtain ⟨hp, g, d, tk, os⟩ := s; obtain ⟨h1, h⟩ := h
    have hsub := sub_enumerate
    have q1 : ∀ {A' : Around} {E : Value → Shared → Prop} {Q : Value → Shared → Prop}, Q (.ref hp.objs.size) ⟨hp.push o, g, d, tk, os⟩ → wpAny (model prog w) A' (pyIter v) Q E ⟨hp, g, d, tk, os⟩ :=
      fun q => B.iter prog w _ _ ⟨hp, g, d, tk, os⟩ _ h1 q
    wp_walk using q1
    refine wpAny_stack_any fun st => wpAny_pure ?_
    split
    · rename_i c _ _ _ _ _
      cases (c == Value.type "enumerate")
      · wp_walk using q1
        exact ⟨_, rfl, h⟩
      · wp_walk using q1
        exact ⟨_, rfl, h⟩
    · wp_walk using q1
      exact ⟨_, rfl, h⟩
section
variable {prog : Program} {w : World} {A : Around} {E : Value → Shared → Prop} {s : Shared}
theorem enum_begins1 {v : Value} {o : Obj} {H : Heap → Prop} {Q : Value → Shared → Prop} (B : Begins v o H) (h1 : H s.heap)
    (h : ∀ h', IsEnum h' (s.heap.objs.size + 1) s.heap.objs.size 0 .none → h'.get? s.heap.objs.size = some o → h'.objs.size = s.heap.objs.size + 2 →
      (∀ b o, s.heap.get? b = some o → h'.get? b = some o) → Q (.ref (s.heap.objs.size + 1)) { s with heap := h' }) :
    wpAny (model prog w) A (call (.type "enumerate") [v]) Q E s := by
  refine callType_new F.called_enumerate (by decide) (F.typeCall_enumerate_1 _) (F.newCall_enumerate_1 _) (fun obj => F.args_object_init_2 obj _) F.entry_enumerate_new
    (meets_enumB B) ⟨h1, ?_⟩
  have hz : (s.heap.push o).objs.size = s.heap.objs.size + 1 := Heap.size_push ..
  show _ ∧ _
  rw [hz]
  have he : IsEnum ((s.heap.push o).push { cls := .type "enumerate", data := .fields #[.none, .bool false, .ref s.heap.objs.size, rawInt 0, .none, .none] }) (s.heap.objs.size + 1) s.heap.objs.size 0 .none := by
    have := Heap.get?_push_size (s.heap.push o) (o := { cls := .type "enumerate", data := .fields #[.none, .bool false, .ref s.heap.objs.size, rawInt 0, .none, .none] }) rfl
    rw [hz] at this; exact this
  refine ⟨⟨_, he, rfl⟩, h _ he (Heap.get?_push_of_some _ (Heap.get?_push_size _ B.free)) (by rw [Heap.size_push, hz]) fun b o x => Heap.get?_push_of_some _ (Heap.get?_push_of_some _ x)⟩
end
/-- the tuple at a, each item in a new pair -/
def IteT (K : PySem.W.Frag) (a : Addr) : It :=
  ⟨fun i H => ∃ (xs : List V) (x : V), SqT K H a xs ∧ xs[i]? = some x, fun i H v H' => ∃ T x, v = .ref T ∧ H T = none ∧ H' = upd H T (.tup [.int (i : Nat), x]) ∧ ∀ xs, SqT K H a xs → xs[i]? = some x, fun i H => ∃ xs : List V, SqT K H a xs ∧ xs.length = i⟩
theorem turn_enumT {P : Program} {w : World} {K : PySem.W.Frag} {elts : List Expr} {kk : Nat} {tpos : Pos} (a e it : Addr) :
    Turn P w K (.Tuple elts kk tpos) (IteT K a) [e, it] e (fun i h => (∃ old, IsEnum h e it ((i : Nat) : Int) old) ∧ h.IsTupleIter it a i ∧ e ≠ it ∧ a ≠ e ∧ a ≠ it) where
  mem := by simp
  obj := fun i h st b hb => by
    obtain ⟨⟨old, he⟩, ⟨o, ho, hc, hd⟩, _⟩ := st
    have e' : b = e ∨ b = it := by simpa using hb
    rcases e' with z | z
    · rw [z]; exact ⟨_, he, fun v q => nomatch q⟩
    · rw [z]; exact ⟨o, ho, fun v q => by rw [hd] at q; cases q⟩
  keep := fun i h h' st k => let ⟨⟨old, he⟩, hi, hne⟩ := st; ⟨⟨old, k e (by simp) _ he⟩, hi.at fun o q => k it (by simp) o q, hne⟩
  item := by
    intro X hP hw hK hc i pins s σ H E I hf st hg
    subst hP hw hK
    obtain ⟨⟨old, he⟩, hit, hne, nae, nai⟩ := st
    obtain ⟨xs, x, hq, hx⟩ := hg
    obtain ⟨its, rv, p, hz⟩ := I.tuple hq
    obtain ⟨u, hu, ru⟩ := rv.get hx
    have hel : e < s.heap.objs.size := Heap.lt_size he
    have hil : it < s.heap.objs.size := by obtain ⟨_, q, _⟩ := hit; exact Heap.lt_size q
    have hi : i < its.toArray.size := by
      have := (List.getElem?_eq_some_iff.mp hu).1
      simpa using this
    have hef : e ∉ [it, a] := by
      intro z
      have z' : e = it ∨ e = a := by simpa using z
      rcases z' with z | z
      · exact hne z
      · exact nae z.symm
    refine wpAny_pyNext_enum_itemD (Draws.tuple (A := X.A.in1) (I.ok.hd hc) it a nai its.toArray) he ⟨hit, show s.heap.IsTuple a its.toArray from p⟩ hi hne hef fun y h' tk hP ho st' hT hsz hk => ?_
    have ey : y = u := by
      have e1 : its.toArray[i]? = some y := hP
      have e2 : its.toArray[i]? = some u := by simpa using hu
      rw [e1] at e2; exact Option.some.inj e2
    subst ey
    refine ⟨_, rfl, wpAny_letOwnedTupleGo_enum (s := { s with heap := h', toks := tk + 1 }) ho fun h'' he' sb => ?_⟩
    have hT2 : h''.get? s.heap.objs.size = some { cls := .type "tuple", data := .seq #[.int i tk, y] } := (sb.2 _ (Nat.ne_of_gt hel)).trans hT
    have new : ObjOk X.prog X.w (upd H s.heap.objs.size (.tup [.int (i : Nat), x])) h'' s.heap.objs.size (.tup [.int (i : Nat), x]) :=
      ⟨by show 2 ≤ sizeLine; decide, [.int i tk, y], .cons ⟨_, rfl⟩ (.cons ru .nil), ⟨_, hT2, rfl, _, rfl⟩⟩
    have I1 : Inv X pins σ (upd H s.heap.objs.size (.tup [.int (i : Nat), x])) { s with heap := h'', toks := tk + 1 } :=
      I.turnedNew (ch := [e, it]) (fun b ob hb q => (sb.2 b (fun z => hb (by simp [z]))).trans (hk b ob (fun z => hb (by simp [z])) (fun z => hb (by simp [z])) q)) hf (Nat.le_refl _) new
    refine ⟨.ref s.heap.objs.size, _, I1, rfl, ⟨_, x, rfl, I.hok.fresh (Nat.le_refl _), rfl, fun ys hy => by rw [I.tuple_inj hy hq]; exact hx⟩, ⟨⟨y, ?_⟩, st'.1.at fun o q => (sb.2 it (Ne.symm hne)).trans q, hne, nae, nai⟩, fun b hb => ?_⟩
    · have e1 : ((i + 1 : Nat) : Int) = (i : Int) + 1 := by omega
      rw [e1]; exact he'
    · have hb' : b < s.heap.objs.size := by
        have e' : b = e ∨ b = it := by simpa using hb
        rcases e' with z | z
        · rw [z]; exact hel
        · rw [z]; exact hil
      rw [upd_ne (Nat.ne_of_lt hb')]
      exact (hf b hb).1
  done := by
    intro X hP hw hK hc i pins s σ H E I hf st hg
    subst hP hw hK
    obtain ⟨⟨old, he⟩, hit, hne, nae, nai⟩ := st
    obtain ⟨xs, hq, hl⟩ := hg
    obtain ⟨its, rv, p, hz⟩ := I.tuple hq
    obtain ⟨f0, f1, f2, f3, f4, f5⟩ := hf it (by simp)
    have hl2 := rv.length
    have hn : i = its.toArray.size := by simp; omega
    exact wpAny_pyNext_enum_endD (Draws.tuple (A := X.A.in1) (I.ok.hd hc) it a nai its.toArray) he ⟨hn ▸ hit, show s.heap.IsTuple a its.toArray from p⟩ fun h' eb => ⟨rfl, I.turned (t' := s.toks) (fun b o hb q => eb b o hb q) f0 f1 f3 f4 f5⟩
  self := fun A i s Q E st h => let ⟨⟨_, he⟩, _⟩ := st; wpAny_pyIter_enum he h

/-! ### for i, x in enumerate(xs) -/
def iEnumD (K : PySem.W.Frag) (ta : L2.TA) : TI := fun σ H R => ta σ H fun vs H1 => (∃ a xs, vs = [.ref a] ∧ SqL K H1 a xs ∧ R (Ite K a) H1) ∨ ∃ a xs, vs = [.ref a] ∧ SqT K H1 a xs ∧ R (IteT K a) H1
section
variable {K : PySem.W.Frag} {X : Cx} {e e2 : Expr} {ta : L2.TA} {te te2 : TE} {T T2 : DTE} {p pos tpos : Pos} {elts : List Expr} {kk : Nat}
theorem pi_enumD (hg : Gl X "enumerate") (hm : X.mg "enumerate" = none) (ha : PA X [e] ta) (hs : starEach [e] X.env = [(false, eval e X.env)] := by rfl) :
    PI X (.Tuple elts kk tpos) (.Call (.Name "enumerate" p) [e] [] pos) (iEnumD X.K ta) := by
  refine ⟨fun pins s σ H R I h => ?_⟩
  refine PyProof.Rows.Call_ (ld_blt I hg hm PyProof.Rows.boot_enumerate (PyProof.Rows.callWith_type1 (thn (ha.run pos pins s σ H _ I h) fun us s1 ⟨vs, H1, I1, r1, q1⟩ => ?_) hs rfl))
  have fresh : ∀ b, b ∈ [s1.heap.objs.size + 1, s1.heap.objs.size] → FpOk X pins H1 b := fun b hb => by
    have e' : b = s1.heap.objs.size + 1 ∨ b = s1.heap.objs.size := by simpa using hb
    have hle : s1.heap.objs.size ≤ b := by
      rcases e' with z | z
      · rw [z]; exact Nat.le_add_right _ _
      · rw [z]; exact Nat.le_refl _
    exact I1.fpOk hle (I1.hok.fresh hle)
  rcases q1 with ⟨a, xs, ex, hq, q⟩ | ⟨a, xs, ex, hq, q⟩
  · subst ex
    cases r1 with
    | cons r rr =>
      cases rr
      cases r
      obtain ⟨its, rv, p', hz⟩ := I1.list hq
      refine call_enumerate_list p'.isList fun h' he hit hsz hk => wpAny_pyIter_enum he ?_
      have I2 : Inv X pins σ H1 { s1 with heap := h' } := I1.kept (t' := s1.toks) hk
      exact ⟨s1.heap.objs.size + 1, [s1.heap.objs.size + 1, s1.heap.objs.size], _, _, H1, rfl, I2, turn_enum a (s1.heap.objs.size + 1) s1.heap.objs.size, ⟨⟨.none, he⟩, hit, Nat.succ_ne_self _⟩, fresh, q⟩
  · subst ex
    cases r1 with
    | cons r rr =>
      cases rr
      cases r
      obtain ⟨its, rv, p', hz⟩ := I1.tuple hq
      obtain ⟨o1, ho1, _⟩ := id p'
      have hlt : a < s1.heap.objs.size := Heap.lt_size ho1
      refine enum_begins1 (begins_tuple a its.toArray) (show s1.heap.IsTuple a its.toArray from p') fun h' he hit hsz hk => wpAny_pyIter_enum he ?_
      have I2 : Inv X pins σ H1 { s1 with heap := h' } := I1.kept (t' := s1.toks) hk
      exact ⟨s1.heap.objs.size + 1, [s1.heap.objs.size + 1, s1.heap.objs.size], _, _, H1, rfl, I2, turn_enumT a (s1.heap.objs.size + 1) s1.heap.objs.size, ⟨⟨.none, he⟩, ⟨_, hit, rfl, rfl⟩, Nat.succ_ne_self _, Nat.ne_of_lt (Nat.lt_succ_of_lt hlt), Nat.ne_of_lt hlt⟩, fresh, q⟩
theorem walk_enumT {a : Addr} {xs : List V} : Walk (IteT K a) xs.length (fun H => SqT K H a xs) (YPair (fun i => some (.int (i : Nat))) (fun i => xs[i]?)) := by
  refine ⟨fun i _ hi q => ⟨xs, xs[i], q, by simp [hi]⟩, fun _ q => ⟨xs, q, rfl⟩, fun i H v H' _ q y => ?_⟩
  obtain ⟨T, x, h1, h2, h3, h4⟩ := y
  exact ⟨T, .int (i : Nat), x, h1, h2, h3, rfl, h4 xs q⟩
def enumD (ds : List PyData) : List PyData := ds.mapIdx fun i d => .tuple [.int (i : Nat), d]
def lstTup : PyData → Option (List PyData)
  | .list ds => some ds
  | .tuple ds => some ds
  | _ => none
/-- the item at a turn, seen from there -/
theorem item_of {F : Fx} {A : Own} {σ : St} {H H2 : Hp} {ρ : DS} {ds : List PyData} {xs : List V} {i : Nat} {y : V} {Av2 : Addr → Prop} (R : Rep F A σ H ρ) (hd : Das F.K (AvC F A) H ds xs) (st : Stp (AvC F A) H H2) (av : ∀ b, Av2 b → AvC F A b ∨ H b = none)
    (hy : xs[i]? = some y) : ∃ d, ds[i]? = some d ∧ Da F.K Av2 H2 d y := by
  obtain ⟨d, e1, e2⟩ := hd.getV hy
  refine ⟨d, e1, ?_⟩
  have q1 : Da F.K (fun b => AvC F A b ∨ Av2 b) H d y := Da.av (fun b z => z.elim .inl (av b)) d y e2
  have q2 := Da.stp (Av := fun b => AvC F A b ∨ Av2 b) (H' := H2) (fun b z => by
    rcases z with z | z
    · exact R.mu' b z
    · rcases av b z with w | w
      · exact R.mu' b w
      · exact .inl w) (fun b o e n => st b o e fun z => n (.inl z)) d y q1
  exact q2.anti fun b z => .inr z
theorem SqX.same {H H' : Hp} {a : Addr} {xs : List V} (s : Same H H') (h : SqX K H a xs) : SqX K H' a xs := by
  rcases h with ⟨o, h, d⟩ | h
  · exact .inl ⟨o, s _ _ h, d⟩
  · exact .inr h
mutual
theorem Da.same {Av : Addr → Prop} {H H' : Hp} (s : Same H H') : ∀ (d : PyData) (v : V), Da K Av H d v → Da K Av H' d v
  | .none, _, h => h
  | .bool _, _, h => h
  | .int _, _, h => h
  | .str _, _, h => h
  | .list ds, v, h => by
    simp only [Da] at h ⊢
    obtain ⟨a, xs, e, na, q, r⟩ := h
    exact ⟨a, xs, e, na, s _ _ q, Das.same s ds xs r⟩
  | .tuple ds, v, h => by
    simp only [Da] at h ⊢
    obtain ⟨a, xs, e, q, r⟩ := h
    exact ⟨a, xs, e, SqX.same s q, Das.same s ds xs r⟩
  | .dict kvs, v, h => by
    simp only [Da] at h ⊢
    obtain ⟨a, e, na, q, r⟩ := h
    exact ⟨a, e, na, s _ _ q, r⟩
theorem Das.same {Av : Addr → Prop} {H H' : Hp} (s : Same H H') : ∀ (ds : List PyData) (xs : List V), Das K Av H ds xs → Das K Av H' ds xs
  | [], _, h => h
  | d :: ds, xs, h => by
    simp only [Das] at h ⊢
    obtain ⟨x, r, e, h1, h2⟩ := h
    exact ⟨x, r, e, Da.same s d x h1, Das.same s ds r h2⟩
end
theorem pair_of {Av : Addr → Prop} {H : Hp} {T : Addr} {x y : V} {d e : PyData} (n : H T = none) (h1 : Da K Av H d x) (h2 : Da K Av H e y) : DaB true K Av (upd H T (.tup [x, y])) (.tuple [d, e]) (.ref T) := by
  refine .inr ⟨rfl, [d, e], T, [x, y], rfl, rfl, SqT.of upd_same, ?_⟩
  exact Das.cons (Da.same (sameUpd n) _ _ h1) (Das.cons (Da.same (sameUpd n) _ _ h2) Das.nil)
theorem yields_enum {F : Fx} {A : Own} {σ : St} {H : Hp} {ρ : DS} {d : PyData} {ds : List PyData} {x : V} (R : Rep F A σ H ρ) (h : Da F.K (AvC F A) H d x) (e : lstTup d = some ds) :
    (∃ a xs, x = .ref a ∧ SqL F.K H a xs ∧ Yields true F A H (enumD ds) (Ite F.K a)) ∨ ∃ a xs, x = .ref a ∧ SqT F.K H a xs ∧ Yields true F A H (enumD ds) (IteT F.K a) := by
  have hl : (enumD ds).length = ds.length := by simp [enumD]
  have go : ∀ {xs : List V} {i : Nat} {H2 : Hp} {y : V} {H3 : Hp} {Av2 : Addr → Prop}, Das F.K (AvC F A) H ds xs → Stp (AvC F A) H H2 → (∀ b, Av2 b → AvC F A b ∨ H b = none) → (∀ b, Av2 b → H2 b = none ∨ Mut (H2 b)) → YPair (fun i => some (.int (i : Nat))) (fun i => xs[i]?) i H2 y H3 →
      Same H2 H3 ∧ ∃ d, (enumD ds)[i]? = some d ∧ DaB true F.K Av2 H3 d y := by
    intro xs i H2 y H3 Av2 hd st av mu z
    obtain ⟨T, x1, x2, e1, n, e2, e3, e4⟩ := z
    subst e1
    subst e2
    have e3' : x1 = .int (i : Nat) := (Option.some.inj e3).symm
    subst e3'
    obtain ⟨d, e5, e6⟩ := item_of R hd st av e4
    exact ⟨sameUpd n, .tuple [.int (i : Nat), d], by simp [enumD, e5], pair_of n (by simp only [Da]) e6⟩
  cases d with
  | list es =>
    have e' : es = ds := Option.some.inj e
    subst e'
    simp only [Da] at h
    obtain ⟨a, xs, e1, na, q, hd⟩ := h
    refine .inl ⟨a, xs, e1, SqL.of q, ⟨_, _, (hl ▸ hd.length ▸ walk_enum : Walk _ (enumD es).length _ (YPair (fun i => some (.int (i : Nat))) (fun i => xs[i]?))), fun H2 st => SqL.of (st _ _ q na), fun i H2 x H3 Av2 hi st av mu y => go hd st av mu y⟩⟩
  | tuple es =>
    have e' : es = ds := Option.some.inj e
    subst e'
    simp only [Da] at h
    obtain ⟨a, xs, e1, q, hd⟩ := h
    refine .inr ⟨a, xs, e1, q.t, ⟨_, _, (hl ▸ hd.length ▸ walk_enumT : Walk _ (enumD es).length _ (YPair (fun i => some (.int (i : Nat))) (fun i => xs[i]?))), fun H2 st => (SqX.stp q R.mu' st).t, fun i H2 x H3 Av2 hi st av mu y => go hd st av mu y⟩⟩
  | none => cases e
  | bool _ => cases e
  | int _ => cases e
  | dict _ => cases e
  | str _ => cases e
def dEnum (T : DTE) : DTI := fun ρ Q => T ρ fun r ρ1 => ∃ d ρ2 ds, frz1 ρ1 r = some (.dat d, ρ2) ∧ lstTup d = some ds ∧ Q (enumD ds) ρ2
theorem di_enum (he : DE K X e te T) (hm : X.mg "enumerate" = none) (hg : Gl X "enumerate" := by rfl) (hK : X.K = K := by rfl) (hs : starEach [e] X.env = [(false, eval e X.env)] := by rfl) : DI true K X (.Tuple elts kk tpos) (.Call (.Name "enumerate" p) [e] [] pos) (iEnumD K (tCons te tNil)) (dEnum T) := by
  refine ⟨hK ▸ pi_enumD hg hm (pa_cons he.p pa_nil (by rw [hs]; rfl)) hs, fun F A σ H ρ R QD hK R0 h k => ?_⟩
  subst hK
  refine he.s F A σ H ρ _ _ rfl R0 h fun r ρ1 v H1 A1 h1 R1 t1 w1 => ?_
  obtain ⟨d, ρ2, ds, e1, e2, h2⟩ := h1
  obtain ⟨A2, R2, t2, w2, _⟩ := R1.frz1 w1.rw e1
  rcases yields_enum R2 w2 e2 with ⟨a, xs, e, q, y⟩ | ⟨a, xs, e, q, y⟩
  · exact .inl ⟨a, xs, by rw [e], q, k _ _ _ _ _ h2 R2 (t1.trans t2) y⟩
  · exact .inr ⟨a, xs, by rw [e], q, k _ _ _ _ _ h2 R2 (t1.trans t2) y⟩
end
end DL
namespace DL
open PySem L2 PySem.Spec
open Sem (wp)
open PySem.W (KdxIt kdx_alive)
/-! ### zip whatever it has given out before -/
abbrev IsZipG (h : Heap) (z TI TO : Addr) (f0 f1 : Value) : Prop :=
  h.get? z = some { cls := .type "zip", dict := none, data := .fields #[f0, f1, .bool false, .ref TI, .ref TO], slots := #[] }
/-- its first two fields: nothing out, or a tuple that was handed out -/
inductive ZF : Value → Value → Prop
  | no (f : Bool) : ZF .none (.bool f)
  | out (T : Addr) (f : Bool) : ZF (rawInt T) (.bool f)
section
variable {prog : Program} {w : World} {A : Around} {E : Value → Shared → Prop} {s : Shared}
theorem load_dead {a : Addr} {Q : Option Obj → Shared → Prop} (ho : s.heap.get? a = none) (h : Q none s) : wpAny (model prog w) A (loadIfAlive a) Q E s := by
  have h' : Q (s.heap.get? a) s := by rw [ho]; exact h
  exact fun _ _ _ => h'
theorem freeG {z TI TO : Addr} {f0 f1 : Value} {Q : Bool → Shared → Prop} (zf : ZF f0 f1) (hz : IsZipG s.heap z TI TO f0 f1) (h1 : Q true s)
    (h2 : ∀ h' g0 g1, ZF g0 g1 → IsZipG h' z TI TO g0 g1 → Heap.SameBut z s.heap h' → Q false { s with heap := h' }) : wpAny (model prog w) A (Builtin.SmallTypes.ownedTupleIsFree (.ref z)) Q E s := by
  unfold Builtin.SmallTypes.ownedTupleIsFree
  cases zf with
  | no f => exact wpAny_bind (wpAny_field hz rfl (x := .none) rfl (wpAny_pure h1))
  | out T f =>
    refine wpAny_bind (wpAny_field hz rfl (x := rawInt T) rfl ?_)
    show wpAny _ _ (loadIfAlive ((T : Int).toNat) >>= _) _ _ _
    rw [Int.toNat_natCast]
    cases hT : s.heap.get? T with
    | none =>
      refine wpAny_bind (load_dead hT ?_)
      simp only [Option.isNone_none, if_true]
      exact wpAny_pure h1
    | some oT =>
      refine wpAny_bind (kdx_alive hT ?_)
      simp only [Option.isNone_some, Bool.false_eq_true, if_false]
      refine wpAny_bind (wpAny_field hz rfl (x := .bool f) rfl ?_)
      cases f with
      | true =>
        rw [if_neg (show ¬ ((Value.bool true != Value.bool true) = true) from Bool.false_ne_true)]
        exact wpAny_pure (h2 s.heap _ _ (.out T true) hz (Heap.SameBut.refl _ _))
      | false =>
        rw [if_pos (show (Value.bool false != Value.bool true) = true from rfl)]
        exact wpAny_bind (wpAny_setField_rec hz (by simp) fun h₁ hz₁ hs₁ => wpAny_pure (h2 h₁ _ _ (.out T true) hz₁ hs₁))
theorem zipG_next_item {z TI TO i1 i2 l1 l2 : Addr} {f0 f1 : Value} {k1 k2 : Nat} {xs ys : Array Value} {x y a b : Value} {Q : Value → Shared → Prop} (zf : ZF f0 f1) (D : ZipApart z TI TO i1 i2 l1 l2)
    (hz : IsZipG s.heap z TI TO f0 f1) (hTI : IsPair s.heap TI (.ref i1) (.ref i2)) (hTO : IsPair s.heap TO a b)
    (h1 : s.heap.IsTupleIter i1 l1 k1) (h2 : s.heap.IsTupleIter i2 l2 k2) (hl1 : s.heap.IsTuple l1 xs) (hl2 : s.heap.IsTuple l2 ys) (hx : xs[k1]? = some x) (hy : ys[k2]? = some y)
    (hQ : ∀ h' g0 g1 a' b', ZF g0 g1 → IsZipG h' z TI TO g0 g1 → IsPair h' TO a' b' → h'.IsTupleIter i1 l1 (k1 + 1) → h'.IsTupleIter i2 l2 (k2 + 1) → IsPair h' s.heap.objs.size x y → h'.objs.size = s.heap.objs.size + 1 →
      (∀ c o, c ≠ z → c ≠ TO → c ≠ i1 → c ≠ i2 → s.heap.get? c = some o → h'.get? c = some o) → Q (.ref s.heap.objs.size) { s with heap := h' }) :
    wpAny (model prog w) A (Builtin.«zip.__next__» ⟨[.ref z], []⟩) (fun fin s' => ∃ v, fin = .done (.ret v) ∧ Q v s') E s := by
  show wpAny _ _ (field (.ref z) 2 >>= _) _ _ _
  refine wpAny_bind (wpAny_field hz rfl (x := .bool false) rfl ?_)
  show wpAny _ _ (field (.ref z) 3 >>= _) _ _ _
  refine wpAny_bind (wpAny_field hz rfl (x := .ref TI) rfl ?_)
  refine wpAny_bind (wpAny_seqItems hTI rfl ?_)
  show wpAny _ _ (Builtin.SmallTypes.ownedTupleIsFree (.ref z) >>= _) _ _ _
  refine wpAny_bind (freeG zf hz ?_ fun h₁ g0 g1 zg hz₁ hs₁ => ?_)
  · simp only [if_true]
    refine wpAny_bind (wpAny_rule ?_)
    refine wpAny_bind (wpAny_field hz rfl (x := .ref TO) rfl ?_)
    refine wpAny_bind (wpAny_setField_rec hz (by simp) fun h₁ hz₁ hs₁ => ?_)
    replace hz₁ : IsZipG h₁ z TI TO .ellipsis f1 := hz₁
    refine wpAny_bind ?_
    simp only [List.zipIdx_cons, List.zipIdx_nil, List.forIn_cons, List.forIn_nil]
    refine wpAny_bind (wpAny_bind (wpAny_onRaise ?_))
    show wpAny _ _ (Builtin.SmallTypes.nextOf (.ref i1) >>= _) _ _ _
    refine wpAny_bind (RZ.nextOf_tuple_item (h1.extBut hs₁.extBut D.i1z) (hl1.extBut hs₁.extBut D.l1z) hx fun h₂ h1₂ hs₂ => wpAny_pure ?_)
    have hTO₂ : IsPair h₂ TO a b := hs₂.extBut _ _ D.TOi1 (hs₁.extBut _ _ D.TOz hTO)
    refine wpAny_bind (wpAny_seqItems hTO₂ rfl ?_)
    refine wpAny_bind (wpAny_updateSeq_pair hTO₂ fun h₃ hTO₃ hs₃ => ?_)
    replace hTO₃ : IsPair h₃ TO x b := hTO₃
    refine wpAny_bind (wpAny_letGo (wpAny_pure ?_))
    refine wpAny_bind (wpAny_bind (wpAny_onRaise ?_))
    show wpAny _ _ (Builtin.SmallTypes.nextOf (.ref i2) >>= _) _ _ _
    refine wpAny_bind (RZ.nextOf_tuple_item (((h2.extBut hs₁.extBut D.i2z).extBut hs₂.extBut D.i12.symm).extBut hs₃.extBut D.TOi2.symm)
      (((hl2.extBut hs₁.extBut D.l2z).extBut hs₂.extBut D.l2i1).extBut hs₃.extBut D.l2TO) hy fun h₄ h2₄ hs₄ => wpAny_pure ?_)
    have hTO₄ : IsPair h₄ TO x b := hs₄.extBut _ _ D.TOi2 hTO₃
    refine wpAny_bind (wpAny_seqItems hTO₄ rfl ?_)
    refine wpAny_bind (wpAny_updateSeq_pair hTO₄ fun h₅ hTO₅ hs₅ => ?_)
    replace hTO₅ : IsPair h₅ TO x y := hTO₅
    refine wpAny_bind (wpAny_letGo (wpAny_pure (wpAny_pure ?_)))
    refine wpAny_bind (wpAny_seqItems hTO₅ rfl ?_)
    refine wpAny_bind (wpAny_newTuple ?_)
    have hsz : h₅.objs.size = s.heap.objs.size := by rw [hs₅.1, hs₄.1, hs₃.1, hs₂.1, hs₁.1]
    have hz₅ : IsZipG h₅ z TI TO .ellipsis f1 := hs₅.extBut _ _ D.TOz.symm (hs₄.extBut _ _ D.i2z.symm (hs₃.extBut _ _ D.TOz.symm (hs₂.extBut _ _ D.i1z.symm hz₁)))
    have hk₅ : ∀ c o, c ≠ z → c ≠ TO → c ≠ i1 → c ≠ i2 → s.heap.get? c = some o → h₅.get? c = some o := fun c o c1 c2 c3 c4 e =>
      hs₅.extBut _ _ c2 (hs₄.extBut _ _ c4 (hs₃.extBut _ _ c2 (hs₂.extBut _ _ c3 (hs₁.extBut _ _ c1 e))))
    have h1₅ : h₅.IsTupleIter i1 l1 (k1 + 1) := ((h1₂.extBut hs₃.extBut D.TOi1.symm).extBut hs₄.extBut D.i12).extBut hs₅.extBut D.TOi1.symm
    have h2₅ : h₅.IsTupleIter i2 l2 (k2 + 1) := h2₄.extBut hs₅.extBut D.TOi2.symm
    have hzlt : z < h₅.objs.size := Heap.lt_size hz₅
    show wpAny _ _ (Builtin.SmallTypes.ownedTupleHandOut (.ref z) (.ref h₅.objs.size) >>= _) _ _ _
    refine wpAny_bind ?_
    unfold Builtin.SmallTypes.ownedTupleHandOut
    have hz₆ : IsZipG (h₅.push { cls := .type "tuple", data := .seq #[x, y] }) z TI TO .ellipsis f1 := Heap.get?_push_of_some _ hz₅
    refine wpAny_bind (wpAny_setField_rec hz₆ (by simp) fun h₇ hz₇ hs₇ => ?_)
    replace hz₇ : IsZipG h₇ z TI TO (rawInt h₅.objs.size) f1 := hz₇
    refine wpAny_setField_rec hz₇ (by simp) fun h₈ hz₈ hs₈ => ?_
    replace hz₈ : IsZipG h₈ z TI TO (rawInt h₅.objs.size) (.bool false) := hz₈
    have up : ∀ c o, c ≠ z → h₅.get? c = some o → h₈.get? c = some o := fun c o c1 e => hs₈.extBut _ _ c1 (hs₇.extBut _ _ c1 (Heap.get?_push_of_some _ e))
    have hT₈ : IsPair h₈ h₅.objs.size x y := hs₈.extBut _ _ (Nat.ne_of_gt hzlt) (hs₇.extBut _ _ (Nat.ne_of_gt hzlt) (Heap.get?_push_size _ rfl))
    have hz8 : h₈.objs.size = h₅.objs.size + 1 := by rw [hs₈.1, hs₇.1, Heap.size_push]
    rw [hsz] at hz₈ hT₈ hz8
    refine wpAny_pure ⟨_, rfl, ?_⟩
    show Q (.ref h₅.objs.size) _
    rw [hsz]
    exact hQ h₈ _ _ _ _ (.out _ false) hz₈ (up _ _ D.TOz hTO₅) (h1₅.at fun o e => up _ o D.i1z e) (h2₅.at fun o e => up _ o D.i2z e) hT₈ hz8 fun c o c1 c2 c3 c4 e => up c o c1 (hk₅ c o c1 c2 c3 c4 e)
  · simp only [Bool.false_eq_true, if_false]
    refine wpAny_bind ?_
    rw [← Array.forIn_toList]
    simp only [List.forIn_cons, List.forIn_nil]
    refine wpAny_bind (wpAny_bind (wpAny_holding ?_))
    show wpAny _ _ (Builtin.SmallTypes.nextOf (.ref i1) >>= _) _ _ _
    refine wpAny_bind (RZ.nextOf_tuple_item (s := { s with heap := h₁ }) (h1.extBut hs₁.extBut D.i1z) (hl1.extBut hs₁.extBut D.l1z) hx fun h₂ h1₂ hs₂ => wpAny_pure ?_)
    refine wpAny_pure ?_
    refine wpAny_bind (wpAny_bind (wpAny_holding ?_))
    show wpAny _ _ (Builtin.SmallTypes.nextOf (.ref i2) >>= _) _ _ _
    refine wpAny_bind (RZ.nextOf_tuple_item (s := { s with heap := h₂ }) ((h2.extBut hs₁.extBut D.i2z).extBut hs₂.extBut D.i12.symm) ((hl2.extBut hs₁.extBut D.l2z).extBut hs₂.extBut D.l2i1) hy fun h₃ h2₃ hs₃ => wpAny_pure ?_)
    refine wpAny_pure (wpAny_pure ?_)
    show wpAny _ _ (newTuple [x, y] >>= _) _ _ _
    refine wpAny_bind (wpAny_newTuple ?_)
    have hsz : h₃.objs.size = s.heap.objs.size := by rw [hs₃.1, hs₂.1, hs₁.1]
    have hz₃ : IsZipG h₃ z TI TO g0 g1 := hs₃.extBut _ _ D.i2z.symm (hs₂.extBut _ _ D.i1z.symm hz₁)
    have hk : ∀ c o, c ≠ z → c ≠ i1 → c ≠ i2 → s.heap.get? c = some o → h₃.get? c = some o := fun c o c1 c2 c3 e => hs₃.extBut _ _ c3 (hs₂.extBut _ _ c2 (hs₁.extBut _ _ c1 e))
    have h1₃ : h₃.IsTupleIter i1 l1 (k1 + 1) := h1₂.extBut hs₃.extBut D.i12
    refine wpAny_pure ⟨_, rfl, ?_⟩
    show Q (.ref h₃.objs.size) _
    have hp : IsPair (h₃.push { cls := .type "tuple", data := .seq #[x, y] }) h₃.objs.size x y := Heap.get?_push_size _ rfl
    have hz4 : (h₃.push { cls := .type "tuple", data := .seq #[x, y] }).objs.size = h₃.objs.size + 1 := Heap.size_push ..
    rw [hsz] at hp hz4 ⊢
    exact hQ _ _ _ _ _ zg (Heap.get?_push_of_some _ hz₃) (Heap.get?_push_of_some _ (hk _ _ D.TOz D.TOi1 D.TOi2 hTO)) (h1₃.at fun o e => Heap.get?_push_of_some _ e) (h2₃.at fun o e => Heap.get?_push_of_some _ e) hp hz4 fun c o c1 _ c2 c3 e => Heap.get?_push_of_some _ (hk c o c1 c2 c3 e)
theorem zipG_next_end {z TI TO i1 i2 l1 l2 : Addr} {f0 f1 : Value} {k1 k2 : Nat} {xs ys : Array Value} {a b : Value} {Q : Fin → Shared → Prop} (zf : ZF f0 f1) (hh : A.handled = none) (D : ZipApart z TI TO i1 i2 l1 l2)
    (hz : IsZipG s.heap z TI TO f0 f1) (hTI : IsPair s.heap TI (.ref i1) (.ref i2)) (hTO : IsPair s.heap TO a b)
    (h1 : s.heap.IsTupleIter i1 l1 k1) (h2 : s.heap.IsTupleIter i2 l2 k2) (hl1 : s.heap.IsTuple l1 xs) (hl2 : s.heap.IsTuple l2 ys) (hend : xs[k1]? = none ∨ ys[k2]? = none)
    (hE : ∀ h' e, (∀ c o, c ≠ z → c ≠ TO → c ≠ i1 → c ≠ i2 → s.heap.get? c = some o → h'.get? c = some o) → (∃ o, h'.get? e = some o ∧ o.cls = .type "StopIteration") → E (.ref e) { s with heap := h' }) :
    wpAny (model prog w) A (Builtin.«zip.__next__» ⟨[.ref z], []⟩) Q E s := by
  show wpAny _ _ (field (.ref z) 2 >>= _) _ _ _
  refine wpAny_bind (wpAny_field hz rfl (x := .bool false) rfl ?_)
  show wpAny _ _ (field (.ref z) 3 >>= _) _ _ _
  refine wpAny_bind (wpAny_field hz rfl (x := .ref TI) rfl ?_)
  refine wpAny_bind (wpAny_seqItems hTI rfl ?_)
  show wpAny _ _ (Builtin.SmallTypes.ownedTupleIsFree (.ref z) >>= _) _ _ _
  refine wpAny_bind (freeG zf hz ?_ fun h₁ g0 g1 zg hz₁ hs₁ => ?_)
  · simp only [if_true]
    refine wpAny_bind (wpAny_rule ?_)
    refine wpAny_bind (wpAny_field hz rfl (x := .ref TO) rfl ?_)
    refine wpAny_bind (wpAny_setField_rec hz (by simp) fun h₁ hz₁ hs₁ => ?_)
    replace hz₁ : IsZipG h₁ z TI TO .ellipsis f1 := hz₁
    refine wpAny_bind ?_
    simp only [List.zipIdx_cons, List.zipIdx_nil, List.forIn_cons, List.forIn_nil]
    refine wpAny_bind (wpAny_bind (wpAny_onRaise ?_))
    show wpAny _ _ (Builtin.SmallTypes.nextOf (.ref i1) >>= _) _ _ _
    cases hx : xs[k1]? with
    | none =>
      refine wpAny_bind (RZ.nextOf_tuple_end hh (h1.extBut hs₁.extBut D.i1z) (hl1.extBut hs₁.extBut D.l1z) hx fun h₂ e hs₂ he => ?_)
      obtain ⟨oe, hoe, hce⟩ := he
      have hz₂ : IsZipG h₂ z TI TO .ellipsis f1 := hs₂ _ _ D.i1z.symm hz₁
      have hez : e ≠ z := fun x => by subst x; rw [hz₂] at hoe; cases hoe; simp at hce
      refine wpAny_setField_rec hz₂ (by simp) fun h₃ _ hs₃ => hE h₃ e (fun c o c1 _ c3 _ x => hs₃.extBut _ _ c1 (hs₂ _ _ c3 (hs₁.extBut _ _ c1 x))) ⟨oe, hs₃.extBut _ _ hez hoe, hce⟩
    | some x =>
      have hy : ys[k2]? = none := by rcases hend with h | h; rw [hx] at h; cases h; exact h
      refine wpAny_bind (RZ.nextOf_tuple_item (h1.extBut hs₁.extBut D.i1z) (hl1.extBut hs₁.extBut D.l1z) hx fun h₂ h1₂ hs₂ => wpAny_pure ?_)
      have hTO₂ : IsPair h₂ TO a b := hs₂.extBut _ _ D.TOi1 (hs₁.extBut _ _ D.TOz hTO)
      refine wpAny_bind (wpAny_seqItems hTO₂ rfl ?_)
      refine wpAny_bind (wpAny_updateSeq_pair hTO₂ fun h₃ hTO₃ hs₃ => ?_)
      refine wpAny_bind (wpAny_letGo (wpAny_pure ?_))
      refine wpAny_bind (wpAny_bind (wpAny_onRaise ?_))
      show wpAny _ _ (Builtin.SmallTypes.nextOf (.ref i2) >>= _) _ _ _
      refine wpAny_bind (RZ.nextOf_tuple_end hh (((h2.extBut hs₁.extBut D.i2z).extBut hs₂.extBut D.i12.symm).extBut hs₃.extBut D.TOi2.symm)
        (((hl2.extBut hs₁.extBut D.l2z).extBut hs₂.extBut D.l2i1).extBut hs₃.extBut D.l2TO) hy fun h₄ e hs₄ he => ?_)
      obtain ⟨oe, hoe, hce⟩ := he
      have hz₄ : IsZipG h₄ z TI TO .ellipsis f1 := hs₄ _ _ D.i2z.symm (hs₃.extBut _ _ D.TOz.symm (hs₂.extBut _ _ D.i1z.symm hz₁))
      have hez : e ≠ z := fun x => by subst x; rw [hz₄] at hoe; cases hoe; simp at hce
      refine wpAny_setField_rec hz₄ (by simp) fun h₅ _ hs₅ => hE h₅ e (fun c o c1 c2 c3 c4 x => hs₅.extBut _ _ c1 (hs₄ _ _ c4 (hs₃.extBut _ _ c2 (hs₂.extBut _ _ c3 (hs₁.extBut _ _ c1 x))))) ⟨oe, hs₅.extBut _ _ hez hoe, hce⟩
  · simp only [Bool.false_eq_true, if_false]
    refine wpAny_bind ?_
    rw [← Array.forIn_toList]
    simp only [List.forIn_cons, List.forIn_nil]
    refine wpAny_bind (wpAny_bind (wpAny_holding ?_))
    show wpAny _ _ (Builtin.SmallTypes.nextOf (.ref i1) >>= _) _ _ _
    cases hx : xs[k1]? with
    | none =>
      refine wpAny_bind (RZ.nextOf_tuple_end (s := { s with heap := h₁ }) hh (h1.extBut hs₁.extBut D.i1z) (hl1.extBut hs₁.extBut D.l1z) hx fun h₂ e hs₂ he => ?_)
      exact hE h₂ e (fun c o c1 _ c2 _ x => hs₂ _ _ c2 (hs₁.extBut _ _ c1 x)) he
    | some x =>
      have hy : ys[k2]? = none := by rcases hend with h | h; rw [hx] at h; cases h; exact h
      refine wpAny_bind (RZ.nextOf_tuple_item (s := { s with heap := h₁ }) (h1.extBut hs₁.extBut D.i1z) (hl1.extBut hs₁.extBut D.l1z) hx fun h₂ h1₂ hs₂ => wpAny_pure ?_)
      refine wpAny_pure ?_
      refine wpAny_bind (wpAny_bind (wpAny_holding ?_))
      show wpAny _ _ (Builtin.SmallTypes.nextOf (.ref i2) >>= _) _ _ _
      refine wpAny_bind (RZ.nextOf_tuple_end (s := { s with heap := h₂ }) hh ((h2.extBut hs₁.extBut D.i2z).extBut hs₂.extBut D.i12.symm) ((hl2.extBut hs₁.extBut D.l2z).extBut hs₂.extBut D.l2i1) hy fun h₃ e hs₃ he => ?_)
      exact hE h₃ e (fun c o c1 _ c2 c3 x => hs₃ _ _ c3 (hs₂.extBut _ _ c2 (hs₁.extBut _ _ c1 x))) he
/-- enumerate over an iterator that is told by one draw -/
theorem enumX_item {e it : Addr} {i : Nat} {old : Value} {P : Value → Heap → Prop} {Q : Value → Shared → Prop} (he : IsEnum s.heap e it i old)
    (inner : ∀ (Q' : Value → Shared → Prop) (E' : Value → Shared → Prop), (∀ x h₁, P x h₁ → h₁.get? e = s.heap.get? e → Q' x { s with heap := h₁ }) → wpAny (model prog w) A (Builtin.SmallTypes.nextOf (.ref it)) Q' E' s)
    (hQ : ∀ x h₁ h', P x h₁ → IsEnumOut h' e it ((i : Int) + 1) x h₁.objs.size →
      h'.get? h₁.objs.size = some { cls := .type "tuple", data := .seq #[.int i s.toks, x] } → h'.objs.size = h₁.objs.size + 1 →
      (∀ b o, b ≠ e → h₁.get? b = some o → h'.get? b = some o) → Q (.ref h₁.objs.size) { s with heap := h', toks := s.toks + 1 }) :
    wpAny (model prog w) A (Builtin.«enumerate.__next__» ⟨[.ref e], []⟩) (fun fin s' => ∃ v, fin = .done (.ret v) ∧ Q v s') E s := by
  obtain ⟨hp, g, d, tk, os⟩ := s
  show wpAny _ _ (field (.ref e) 2 >>= _) _ _ _
  refine wpAny_bind (wpAny_field he rfl (x := .ref it) rfl ?_)
  refine wpAny_bind (inner _ _ fun x h₁ hPx hs₁ => ?_)
  have he₁ : IsEnum h₁ e it i old := hs₁.trans he
  show wpAny _ _ (field (.ref e) 3 >>= _) _ _ ⟨h₁, g, d, tk, os⟩
  refine wpAny_bind (wpAny_field he₁ rfl (x := rawInt i) rfl ?_)
  show wpAny _ _ (field (.ref e) 4 >>= _) _ _ ⟨h₁, g, d, tk, os⟩
  refine wpAny_bind (wpAny_field he₁ rfl (x := .none) rfl ?_)
  show wpAny _ _ (mkInt i >>= _) _ _ ⟨h₁, g, d, tk, os⟩
  refine wpAny_bind (wpAny_mkInt ?_)
  show wpAny _ _ (setField (.ref e) 3 (rawInt ((i : Int) + 1)) >>= _) _ _ ⟨h₁, g, d, tk + 1, os⟩
  refine wpAny_bind (wpAny_setField_rec he₁ (by simp) fun h₂ he₂ hs₂ => ?_)
  replace hs₂ : Heap.SameBut e h₁ h₂ := hs₂
  replace he₂ : IsEnum h₂ e it ((i : Int) + 1) old := he₂
  show wpAny _ _ (setField (.ref e) 4 .none >>= _) _ _ ⟨h₂, g, d, tk + 1, os⟩
  refine wpAny_bind (wpAny_setField_rec he₂ (by simp) fun h₃ he₃ hs₃ => ?_)
  replace hs₃ : Heap.SameBut e h₂ h₃ := hs₃
  replace he₃ : IsEnum h₃ e it ((i : Int) + 1) old := he₃
  show wpAny _ _ (newTuple [.int i tk, x] >>= _) _ _ ⟨h₃, g, d, tk + 1, os⟩
  refine wpAny_bind (wpAny_newTuple ?_)
  have he₄ : IsEnum (h₃.push { cls := .type "tuple", data := .seq #[.int i tk, x] }) e it ((i : Int) + 1) old := Heap.get?_push_of_some _ he₃
  generalize hh₄ : h₃.push { cls := .type "tuple", data := .seq #[.int i tk, x] } = h₄ at he₄
  have hsz : h₃.objs.size = h₁.objs.size := by rw [hs₃.1, hs₂.1]
  have hel : e < h₁.objs.size := Heap.lt_size he₁
  have ht₄ : h₄.get? h₁.objs.size = some { cls := .type "tuple", data := .seq #[.int i tk, x] } := by rw [← hh₄, ← hsz]; exact Heap.get?_push_size _ rfl
  have hz₄ : h₄.objs.size = h₁.objs.size + 1 := by rw [← hh₄, Heap.size_push, hsz]
  have hk₄ : ∀ b o, b ≠ e → h₁.get? b = some o → h₄.get? b = some o := fun b o hbe hb => by
    rw [← hh₄]; exact Heap.get?_push_of_some _ (hs₃.extBut b o hbe (hs₂.extBut b o hbe hb))
  show wpAny _ _ (Builtin.SmallTypes.ownedTupleIsFree (.ref e) >>= _) _ _ ⟨h₄, g, d, tk + 1, os⟩
  rw [hsz]
  clear hh₄ he₃ hs₃ he₂ hs₂ hsz h₃ h₂
  refine wpAny_bind ?_
  · unfold Builtin.SmallTypes.ownedTupleIsFree
    refine wpAny_bind (wpAny_field he₄ rfl (x := .none) rfl (wpAny_pure ?_))
    simp only [if_true]
    refine wpAny_bind (wpAny_rule ?_)
    refine wpAny_bind (wpAny_field he₄ rfl (x := old) rfl ?_)
    refine wpAny_bind (wpAny_setField_rec he₄ (by simp) fun h₅ he₅ hs₅ => ?_)
    replace hs₅ : Heap.SameBut e h₄ h₅ := hs₅
    replace he₅ : IsEnum h₅ e it ((i : Int) + 1) x := he₅
    show wpAny _ _ (Builtin.SmallTypes.ownedTupleHandOut (.ref e) (.ref h₁.objs.size) >>= _) _ _ ⟨h₅, g, d, tk + 1, os⟩
    refine wpAny_bind ?_
    · unfold Builtin.SmallTypes.ownedTupleHandOut
      refine wpAny_bind (wpAny_setField_rec he₅ (by simp) fun h₆ he₆ hs₆ => ?_)
      replace hs₆ : Heap.SameBut e h₅ h₆ := hs₆
      replace he₆ : IsEnumOut h₆ e it ((i : Int) + 1) x h₁.objs.size := he₆
      refine wpAny_setField_rec he₆ (by simp) fun h₇ he₇ hs₇ => ?_
      replace hs₇ : Heap.SameBut e h₆ h₇ := hs₇
      replace he₇ : IsEnumOut h₇ e it ((i : Int) + 1) x h₁.objs.size := he₇
      refine wpAny_bind (wpAny_letGo (wpAny_pure ⟨_, rfl, hQ x h₁ h₇ hPx he₇ ?_ ?_ ?_⟩))
      · exact hs₇.extBut _ _ (Nat.ne_of_gt hel) (hs₆.extBut _ _ (Nat.ne_of_gt hel) (hs₅.extBut _ _ (Nat.ne_of_gt hel) ht₄))
      · rw [hs₇.1, hs₆.1, hs₅.1, hz₄]
      · exact fun b o hbe hb => hs₇.extBut b o hbe (hs₆.extBut b o hbe (hs₅.extBut b o hbe (hk₄ b o hbe hb)))
/-- one pair of a zip, as next hands it on -/
theorem nextOf_zipG_item {z TI TO i1 i2 l1 l2 : Addr} {f0 f1 : Value} {k1 k2 : Nat} {xs ys : Array Value} {x y a b : Value} {Q : Value → Shared → Prop} (zf : ZF f0 f1) (D : ZipApart z TI TO i1 i2 l1 l2)
    (hz : IsZipG s.heap z TI TO f0 f1) (hTI : IsPair s.heap TI (.ref i1) (.ref i2)) (hTO : IsPair s.heap TO a b)
    (h1 : s.heap.IsTupleIter i1 l1 k1) (h2 : s.heap.IsTupleIter i2 l2 k2) (hl1 : s.heap.IsTuple l1 xs) (hl2 : s.heap.IsTuple l2 ys) (hx : xs[k1]? = some x) (hy : ys[k2]? = some y)
    (hQ : ∀ h' g0 g1 a' b', ZF g0 g1 → IsZipG h' z TI TO g0 g1 → IsPair h' TO a' b' → h'.IsTupleIter i1 l1 (k1 + 1) → h'.IsTupleIter i2 l2 (k2 + 1) → IsPair h' s.heap.objs.size x y → h'.objs.size = s.heap.objs.size + 1 →
      (∀ c o, c ≠ z → c ≠ TO → c ≠ i1 → c ≠ i2 → s.heap.get? c = some o → h'.get? c = some o) → Q (.ref s.heap.objs.size) { s with heap := h' }) :
    wpAny (model prog w) A (Builtin.SmallTypes.nextOf (.ref z)) Q E s := by
  have hT : s.TypeIs (.ref z) "zip" := ⟨_, hz, rfl⟩
  unfold Builtin.SmallTypes.nextOf
  exact wpAny_bind (wpAny_callSpecial?_slot (name := Str.ofString "__next__") hT F.slot_zip_next
    (wpAny_call_entry F.slot_zip_next hT F.entry_zip_next
      (zipG_next_item zf D hz hTI hTO h1 h2 hl1 hl2 hx hy fun h' g0 g1 a' b' a1 a2 a3 a4 a5 a6 a7 a8 => wpAny_pure (hQ h' g0 g1 a' b' a1 a2 a3 a4 a5 a6 a7 a8)) (F.args_zip_next_1 _)))
theorem nextOf_zipG_end {z TI TO i1 i2 l1 l2 : Addr} {f0 f1 : Value} {k1 k2 : Nat} {xs ys : Array Value} {a b : Value} {Q : Value → Shared → Prop} (zf : ZF f0 f1) (hh : A.handled = none) (D : ZipApart z TI TO i1 i2 l1 l2)
    (hz : IsZipG s.heap z TI TO f0 f1) (hTI : IsPair s.heap TI (.ref i1) (.ref i2)) (hTO : IsPair s.heap TO a b)
    (h1 : s.heap.IsTupleIter i1 l1 k1) (h2 : s.heap.IsTupleIter i2 l2 k2) (hl1 : s.heap.IsTuple l1 xs) (hl2 : s.heap.IsTuple l2 ys) (hend : xs[k1]? = none ∨ ys[k2]? = none)
    (hE : ∀ h' e, (∀ c o, c ≠ z → c ≠ TO → c ≠ i1 → c ≠ i2 → s.heap.get? c = some o → h'.get? c = some o) → (∃ o, h'.get? e = some o ∧ o.cls = .type "StopIteration") → E (.ref e) { s with heap := h' }) :
    wpAny (model prog w) A (Builtin.SmallTypes.nextOf (.ref z)) Q E s := by
  have hT : s.TypeIs (.ref z) "zip" := ⟨_, hz, rfl⟩
  unfold Builtin.SmallTypes.nextOf
  exact wpAny_bind (wpAny_callSpecial?_slot (name := Str.ofString "__next__") hT F.slot_zip_next
    (wpAny_call_entry F.slot_zip_next hT F.entry_zip_next (zipG_next_end zf hh D hz hTI hTO h1 h2 hl1 hl2 hend hE) (F.args_zip_next_1 _)))
end
end DL
namespace DL
open PySem L2 PySem.Spec
open Sem (wp)
/-! ### for i, (x, y) in enumerate(zip(xs, ys)), two tuples -/
theorem meets_enumZ (z TI TO : Addr) (f0 : Value) :
    Meets (Builtin.«enumerate.__new__» ⟨[.type "enumerate", .ref z], []⟩) (fun _ R s => IsZip s.heap z TI TO f0 ∧
      R (.ok (.ret (.ref s.heap.objs.size))) { s with heap := s.heap.push { cls := .type "enumerate", data := .fields #[.none, .bool false, .ref z, rawInt 0, .none, .none] } }) :=
  .of_wp fun prog w A R s h => by
    obtain ⟨hp, g, d, tk, os⟩ := s; obtain ⟨h1, h⟩ := h
    have hsub := sub_enumerate
    have q1 : ∀ {A' : Around} {E : Value → Shared → Prop} {Q : Value → Shared → Prop}, Q (.ref z) ⟨hp, g, d, tk, os⟩ → wpAny (model prog w) A' (pyIter (.ref z)) Q E ⟨hp, g, d, tk, os⟩ :=
      fun q => wpAny_pyIter_zip h1 q
    wp_walk using q1
    refine wpAny_stack_any fun st => wpAny_pure ?_
    split
    · rename_i c _ _ _ _ _
      cases (c == Value.type "enumerate")
      · wp_walk using q1
        exact ⟨_, rfl, h⟩
      · wp_walk using q1
        exact ⟨_, rfl, h⟩
    · wp_walk using q1
      exact ⟨_, rfl, h⟩
section
variable {prog : Program} {w : World} {A : Around} {E : Value → Shared → Prop} {s : Shared}
theorem enum_zip {z TI TO : Addr} {f0 : Value} {Q : Value → Shared → Prop} (h1 : IsZip s.heap z TI TO f0)
    (h : ∀ h', IsEnum h' s.heap.objs.size z 0 .none → h'.objs.size = s.heap.objs.size + 1 →
      (∀ b o, s.heap.get? b = some o → h'.get? b = some o) → Q (.ref s.heap.objs.size) { s with heap := h' }) :
    wpAny (model prog w) A (call (.type "enumerate") [.ref z]) Q E s := by
  refine callType_new F.called_enumerate (by decide) (F.typeCall_enumerate_1 _) (F.newCall_enumerate_1 _) (fun obj => F.args_object_init_2 obj _) F.entry_enumerate_new
    (meets_enumZ z TI TO f0) ⟨h1, ?_⟩
  have he : IsEnum (s.heap.push { cls := .type "enumerate", data := .fields #[.none, .bool false, .ref z, rawInt 0, .none, .none] }) s.heap.objs.size z 0 .none := Heap.get?_push_size _ rfl
  exact ⟨⟨_, he, rfl⟩, h _ he (Heap.size_push ..) fun b o x => Heap.get?_push_of_some _ x⟩
end
def ItEZ (K : PySem.W.Frag) (a b : Addr) : It :=
  ⟨fun i H => ∃ (xs ys : List V) (x y : V), SqT K H a xs ∧ SqT K H b ys ∧ xs[i]? = some x ∧ ys[i]? = some y,
    fun i H v H' => ∃ T T2 x y o, v = .ref T2 ∧ H T = none ∧ upd H T (.frz o (.tup [x, y])) T2 = none ∧ H' = upd (upd H T (.frz o (.tup [x, y]))) T2 (.tup [.int (i : Nat), .ref T]) ∧ (∀ xs, SqT K H a xs → xs[i]? = some x) ∧ (∀ ys, SqT K H b ys → ys[i]? = some y) ∧ o.dict = none,
    fun i H => ∃ xs ys : List V, SqT K H a xs ∧ SqT K H b ys ∧ (xs.length ≤ i ∨ ys.length ≤ i)⟩
structure EzSt (a b e z TI TO i1 i2 : Addr) (i : Nat) (h : Heap) : Prop where
  en : ∃ old, IsEnum h e z ((i : Nat) : Int) old
  zp : ∃ f0 f1, ZF f0 f1 ∧ IsZipG h z TI TO f0 f1
  ti : IsPair h TI (.ref i1) (.ref i2)
  to : ∃ x y, IsPair h TO x y
  h1 : h.IsTupleIter i1 a i
  h2 : h.IsTupleIter i2 b i
theorem turn_ez {P : Program} {w : World} {K : PySem.W.Frag} {elts : List Expr} {kk : Nat} {tpos : Pos} {a b e z TI TO i1 i2 : Addr} (D : ZipApart z TI TO i1 i2 a b) (ez : e ≠ z) (eTI : e ≠ TI) (eTO : e ≠ TO) (e1 : e ≠ i1) (e2 : e ≠ i2) :
    Turn P w K (.Tuple elts kk tpos) (ItEZ K a b) [e, z, TI, TO, i1, i2] e (EzSt a b e z TI TO i1 i2) where
  mem := by simp
  obj := fun i h st c hc => by
    obtain ⟨⟨old, he⟩, ⟨f0, f1, zf, hz⟩, hTI, ⟨x, y, hTO⟩, ⟨o1, q1, _, d1⟩, ⟨o2, q2, _, d2⟩⟩ := st
    have e' : c = e ∨ c = z ∨ c = TI ∨ c = TO ∨ c = i1 ∨ c = i2 := by simpa using hc
    rcases e' with q | q | q | q | q | q
    · rw [q]; exact ⟨_, he, fun v q => nomatch q⟩
    · rw [q]; exact ⟨_, hz, fun v q => nomatch q⟩
    · rw [q]; exact ⟨_, hTI, fun v q => nomatch q⟩
    · rw [q]; exact ⟨_, hTO, fun v q => nomatch q⟩
    · rw [q]; exact ⟨o1, q1, fun v q => by rw [d1] at q; cases q⟩
    · rw [q]; exact ⟨o2, q2, fun v q => by rw [d2] at q; cases q⟩
  keep := fun i h h' st k => by
    obtain ⟨⟨old, he⟩, ⟨f0, f1, zf, hz⟩, hTI, ⟨x, y, hTO⟩, h1, h2⟩ := st
    exact ⟨⟨old, k e (by simp) _ he⟩, ⟨f0, f1, zf, k z (by simp) _ hz⟩, k TI (by simp) _ hTI, ⟨x, y, k TO (by simp) _ hTO⟩, h1.at fun o q => k i1 (by simp) o q, h2.at fun o q => k i2 (by simp) o q⟩
  item := by
    intro X hP hw hK hc i pins s σ H E I hf st hg
    subst hP hw hK
    obtain ⟨⟨old, he⟩, ⟨f0, f1, zf, hz⟩, hTI, ⟨x0, y0, hTO⟩, h1, h2⟩ := st
    obtain ⟨xs, ys, x, y, hqx, hqy, hx, hy⟩ := hg
    obtain ⟨its, rv, p, _⟩ := I.tuple hqx
    obtain ⟨its2, rv2, p2, _⟩ := I.tuple hqy
    obtain ⟨u, hu, ru⟩ := rv.get hx
    obtain ⟨u2, hu2, ru2⟩ := rv2.get hy
    have hT : s.TypeIs (.ref e) "enumerate" := ⟨_, he, rfl⟩
    unfold pyNext
    refine wpAny_bind (wpAny_attempt (wpAny_callSpecial?_slot (name := Str.ofString "__next__") hT F.slot_enumerate_next
      (wpAny_call_entry F.slot_enumerate_next hT F.entry_enumerate_next
        (enumX_item (P := fun v h' => v = .ref s.heap.objs.size ∧ (∃ g0 g1, ZF g0 g1 ∧ IsZipG h' z TI TO g0 g1) ∧ (∃ a' b', IsPair h' TO a' b') ∧ h'.IsTupleIter i1 a (i + 1) ∧ h'.IsTupleIter i2 b (i + 1) ∧ IsPair h' s.heap.objs.size u u2 ∧ h'.objs.size = s.heap.objs.size + 1 ∧
            (∀ c o, c ≠ z → c ≠ TO → c ≠ i1 → c ≠ i2 → s.heap.get? c = some o → h'.get? c = some o)) he
          (fun Q' E' k => nextOf_zipG_item zf D hz hTI hTO h1 h2 (show s.heap.IsTuple a its.toArray from p) (show s.heap.IsTuple b its2.toArray from p2) (x := u) (y := u2) (by simpa using hu) (by simpa using hu2)
            fun h' g0 g1 a' b' a1 a2 a3 a4 a5 a6 a7 a8 => k _ h' ⟨rfl, ⟨g0, g1, a1, a2⟩, ⟨a', b', a3⟩, a4, a5, a6, a7, a8⟩ (by rw [a8 e _ ez eTO e1 e2 he, he]))
          fun v h₁ h' hP ho hT2 hsz hk => wpAny_pure ?_) (F.args_enumerate_next_1 _))))
    obtain ⟨rfl, ⟨g0, g1, zg, hz₁⟩, ⟨a', b', hTO₁⟩, h1₁, h2₁, hp₁, hs₁, hk₁⟩ := hP
    refine ⟨_, rfl, wpAny_letOwnedTupleGo_enum (s := { s with heap := h', toks := s.toks + 1 }) ho fun h'' he'' sb => ?_⟩
    -- first the zip's pair, then enumerate's
    have hel : e < s.heap.objs.size := Heap.lt_size he
    have hl1 : ∀ c, c < s.heap.objs.size → c < h₁.objs.size := fun c hc' => by rw [hs₁]; exact Nat.lt_succ_of_lt hc'
    have hzl : z < s.heap.objs.size := Heap.lt_size hz
    have hn : H s.heap.objs.size = none := I.hok.fresh (Nat.le_refl _)
    have new1 : ObjOk X.prog X.w (upd H s.heap.objs.size (.frz { cls := .type "tuple", data := .seq #[u, u2] } (.tup [x, y]))) h₁ s.heap.objs.size (.frz { cls := .type "tuple", data := .seq #[u, u2] } (.tup [x, y])) :=
      ⟨hp₁, by show 2 ≤ sizeLine; decide, [u, u2], .cons ru (.cons ru2 .nil), ⟨_, hp₁, rfl, _, rfl⟩⟩
    have I1 : Inv X pins σ (upd H s.heap.objs.size (.frz { cls := .type "tuple", data := .seq #[u, u2] } (.tup [x, y]))) { s with heap := h₁ } :=
      I.turnedNew (t' := s.toks) (ch := [e, z, TI, TO, i1, i2]) (fun c o hb q => hk₁ c o (fun q' => hb (by simp [q'])) (fun q' => hb (by simp [q'])) (fun q' => hb (by simp [q'])) (fun q' => hb (by simp [q'])) q) hf (Nat.le_refl _) new1
    have hn2 : upd H s.heap.objs.size (.frz { cls := .type "tuple", data := .seq #[u, u2] } (.tup [x, y])) h₁.objs.size = none := I1.hok.fresh (Nat.le_refl _)
    have hlt : ∀ c, c ∈ [e, z, TI, TO, i1, i2] → c < s.heap.objs.size := fun c hcm => by
      have e' : c = e ∨ c = z ∨ c = TI ∨ c = TO ∨ c = i1 ∨ c = i2 := by simpa using hcm
      rcases e' with q | q | q | q | q | q
      · rw [q]; exact hel
      · rw [q]; exact hzl
      · rw [q]; exact Heap.lt_size hTI
      · rw [q]; exact Heap.lt_size hTO
      · rw [q]; obtain ⟨_, e1, _⟩ := h1; exact Heap.lt_size e1
      · rw [q]; obtain ⟨_, e2, _⟩ := h2; exact Heap.lt_size e2
    have hf1 : ∀ c ∈ [e, z, TI, TO, i1, i2], FpOk X pins (upd H s.heap.objs.size (.frz { cls := .type "tuple", data := .seq #[u, u2] } (.tup [x, y]))) c := fun c hcm => by
      obtain ⟨q0, q1⟩ := hf c hcm
      exact ⟨by rw [upd_ne (Nat.ne_of_lt (hlt c hcm))]; exact q0, q1⟩
    have hT3 : h''.get? h₁.objs.size = some { cls := .type "tuple", data := .seq #[.int i s.toks, .ref s.heap.objs.size] } := (sb.2 _ (Nat.ne_of_gt (hl1 e hel))).trans hT2
    have new2 : ObjOk X.prog X.w (upd (upd H s.heap.objs.size (.frz { cls := .type "tuple", data := .seq #[u, u2] } (.tup [x, y]))) h₁.objs.size (.tup [.int (i : Nat), .ref s.heap.objs.size])) h'' h₁.objs.size (.tup [.int (i : Nat), .ref s.heap.objs.size]) :=
      ⟨by show 2 ≤ sizeLine; decide, [.int i s.toks, .ref s.heap.objs.size], .cons ⟨_, rfl⟩ (.cons rfl .nil), ⟨_, hT3, rfl, _, rfl⟩⟩
    have up : ∀ c o, c ≠ e → h₁.get? c = some o → h''.get? c = some o := fun c o hce q => (sb.2 c hce).trans (hk c o hce q)
    have I2 : Inv X pins σ (upd (upd H s.heap.objs.size (.frz { cls := .type "tuple", data := .seq #[u, u2] } (.tup [x, y]))) h₁.objs.size (.tup [.int (i : Nat), .ref s.heap.objs.size])) { s with heap := h'', toks := s.toks + 1 } :=
      I1.turnedNew (t' := s.toks + 1) (ch := [e, z, TI, TO, i1, i2]) (fun c o hb q => up c o (fun q' => hb (by simp [q'])) q) hf1 (Nat.le_refl _) new2
    refine ⟨.ref h₁.objs.size, _, I2, rfl, ⟨s.heap.objs.size, h₁.objs.size, x, y, _, rfl, hn, hn2, rfl, fun l hl => by rw [I.tuple_inj hl hqx]; exact hx, fun l hl => by rw [I.tuple_inj hl hqy]; exact hy, rfl⟩, ⟨⟨.ref s.heap.objs.size, ?_⟩, ⟨g0, g1, zg, up _ _ (Ne.symm ez) hz₁⟩, up _ _ (Ne.symm eTI) (hk₁ _ _ D.TIz D.TITO D.TIi1 D.TIi2 hTI), ⟨a', b', up _ _ (Ne.symm eTO) hTO₁⟩, h1₁.at fun o q => up _ o (Ne.symm e1) q, h2₁.at fun o q => up _ o (Ne.symm e2) q⟩, fun c hcm => ?_⟩
    · have e1 : ((i + 1 : Nat) : Int) = (i : Int) + 1 := by omega
      rw [e1]; exact he''
    · have hl := hlt c hcm
      rw [upd_ne (Nat.ne_of_lt (hl1 c hl)), upd_ne (Nat.ne_of_lt hl)]
      exact (hf c hcm).1
  done := by
    intro X hP hw hK hc i pins s σ H E I hf st hg
    subst hP hw hK
    obtain ⟨⟨old, he⟩, ⟨f0, f1, zf, hz⟩, hTI, ⟨x0, y0, hTO⟩, h1, h2⟩ := st
    obtain ⟨xs, ys, hqx, hqy, hend⟩ := hg
    obtain ⟨its, rv, p, _⟩ := I.tuple hqx
    obtain ⟨its2, rv2, p2, _⟩ := I.tuple hqy
    have l1 := rv.length
    have l2 := rv2.length
    have hend' : its.toArray[i]? = none ∨ its2.toArray[i]? = none := by
      rcases hend with q | q
      · exact .inl (by simp; omega)
      · exact .inr (by simp; omega)
    have hT : s.TypeIs (.ref e) "enumerate" := ⟨_, he, rfl⟩
    unfold pyNext
    refine wpAny_bind (wpAny_attempt (wpAny_callSpecial?_slot (name := Str.ofString "__next__") hT F.slot_enumerate_next
      (wpAny_call_entry F.slot_enumerate_next hT F.entry_enumerate_next ?_ (F.args_enumerate_next_1 _))))
    show wpAny _ _ (field (.ref e) 2 >>= _) _ _ _
    refine wpAny_bind (wpAny_field he rfl (x := .ref z) rfl ?_)
    refine wpAny_bind (nextOf_zipG_end zf (I.ok.hd hc) D hz hTI hTO h1 h2 (show s.heap.IsTuple a its.toArray from p) (show s.heap.IsTuple b its2.toArray from p2) hend' fun h' x hk hx' => ?_)
    obtain ⟨o, ho, hcl⟩ := hx'
    refine wpAny_bind (wpAny_isInstance (T := "StopIteration") (b := true) ⟨o, ho, hcl⟩ isSubtype_stop ?_)
    exact wpAny_pure ⟨rfl, I.turnedL (t' := s.toks) (ch := [e, z, TI, TO, i1, i2]) (fun c o hb q =>
      hk c o (fun q' => hb (by simp [q'])) (fun q' => hb (by simp [q'])) (fun q' => hb (by simp [q'])) (fun q' => hb (by simp [q'])) q) hf⟩
  self := fun A i s Q E st h => let ⟨_, he⟩ := st.en; wpAny_pyIter_enum he h

def iEz (K : PySem.W.Frag) (ta : L2.TA) : TI := fun σ H R => ta σ H fun vs H1 => ∃ a b xs ys, vs = [.ref a, .ref b] ∧ SqT K H1 a xs ∧ SqT K H1 b ys ∧ R (ItEZ K a b) H1
section
variable {K : PySem.W.Frag} {X : Cx} {e e2 : Expr} {ta : L2.TA} {TA : DTA} {p p2 pos pos2 tpos : Pos} {elts : List Expr} {kk : Nat}
theorem pi_ez (hg : Gl X "enumerate") (hm : X.mg "enumerate" = none) (hg2 : Gl X "zip") (hm2 : X.mg "zip" = none) (ha : PA X [e, e2] ta)
    (hs : starEach [e, e2] X.env = (false, eval e X.env) :: starEach [e2] X.env := by rfl) (hpl : (backTo pos2 (starEach [e2] X.env)).any (·.1) = false := by rfl) :
    PI X (.Tuple elts kk tpos) (.Call (.Name "enumerate" p) [.Call (.Name "zip" p2) [e, e2] [] pos2] [] pos) (iEz X.K ta) := by
  refine ⟨fun pins s σ H R I h => ?_⟩
  refine PyProof.Rows.Call_ (ld_blt I hg hm PyProof.Rows.boot_enumerate ?_)
  refine PyProof.Rows.callWith_type1 (PyProof.Rows.args_cons ?_ rfl) rfl rfl
  refine PyProof.Rows.Call_ (ld_blt I hg2 hm2 PyProof.Rows.boot_zip (PyProof.Rows.callWith_type1 (thn (ha.run pos2 pins s σ H _ I h) fun us s1 ⟨vs, H1, I1, r1, q1⟩ => ?_) hs hpl))
  obtain ⟨a, b, xs, ys, ex, hqx, hqy, q⟩ := q1
  subst ex
  cases r1 with
  | cons r rr =>
    cases rr with
    | cons r' rr =>
      cases rr
      cases r
      cases r'
      obtain ⟨its, rv, p1, _⟩ := I1.tuple hqx
      obtain ⟨its2, rv2, p2', _⟩ := I1.tuple hqy
      obtain ⟨o1, ho1, _⟩ := id p1
      obtain ⟨o2, ho2, _⟩ := id p2'
      have la : a < s1.heap.objs.size := Heap.lt_size ho1
      have lb : b < s1.heap.objs.size := Heap.lt_size ho2
      refine RZ.call_zipT (show s1.heap.IsTuple a its.toArray from p1) (show s1.heap.IsTuple b its2.toArray from p2') fun h' hz hTI hTO h1 h2 hsz hk => ?_
      refine PyProof.Rows.args_nil ?_
      refine enum_zip (s := { s1 with heap := h' }) hz fun h'' he hsz2 hk2 => wpAny_pyIter_enum he ?_
      have I2 : Inv X pins σ H1 { s1 with heap := h'' } := I1.kept (t' := s1.toks) fun c o q => hk2 c o (hk c o q)
      have hs5 : h'.objs.size = s1.heap.objs.size + 5 := hsz
      have ne : ∀ k, k < 5 → h'.objs.size ≠ s1.heap.objs.size + k := fun k hk z => by rw [hs5] at z; exact absurd (Nat.add_left_cancel z) (Nat.ne_of_gt hk)
      refine ⟨h'.objs.size, [h'.objs.size, s1.heap.objs.size + 4, s1.heap.objs.size + 2, s1.heap.objs.size + 3, s1.heap.objs.size, s1.heap.objs.size + 1], _, _, H1, rfl, I2,
        turn_ez (PySem.W.ktu_apart s1.heap.objs.size a b la lb) (ne 4 (by decide)) (ne 2 (by decide)) (ne 3 (by decide)) (ne 0 (by decide)) (ne 1 (by decide)),
        ⟨⟨.none, he⟩, ⟨.none, .bool false, .no false, hk2 _ _ hz⟩, hk2 _ _ hTI, ⟨_, _, hk2 _ _ hTO⟩, h1.at fun o q => hk2 _ o q, h2.at fun o q => hk2 _ o q⟩, fun c hcm => ?_, q⟩
      have hle : s1.heap.objs.size ≤ c := by
        have e' : c = h'.objs.size ∨ c = s1.heap.objs.size + 4 ∨ c = s1.heap.objs.size + 2 ∨ c = s1.heap.objs.size + 3 ∨ c = s1.heap.objs.size ∨ c = s1.heap.objs.size + 1 := by simpa using hcm
        rcases e' with z | z | z | z | z | z
        · rw [z, hs5]; exact Nat.le_add_right _ _
        · rw [z]; exact Nat.le_add_right _ _
        · rw [z]; exact Nat.le_add_right _ _
        · rw [z]; exact Nat.le_add_right _ _
        · rw [z]; exact Nat.le_refl _
        · rw [z]; exact Nat.le_add_right _ _
      exact I1.fpOk hle (I1.hok.fresh hle)
def zipD (ds es : List PyData) : List PyData := List.zipWith (fun d e => .tuple [d, e]) ds es
theorem zipD_at {ds es : List PyData} {i : Nat} {d e : PyData} (h1 : ds[i]? = some d) (h2 : es[i]? = some e) : (zipD ds es)[i]? = some (.tuple [d, e]) := by
  unfold zipD
  rw [List.getElem?_zipWith, h1, h2]
theorem pair_ofX {K : PySem.W.Frag} {o : Obj} (dn : o.dict = none) {Av : Addr → Prop} {H : Hp} {T : Addr} {x y : V} {d e : PyData} (n : H T = none) (h1 : Da K Av H d x) (h2 : Da K Av H e y) : Da K Av (upd H T (.frz o (.tup [x, y]))) (.tuple [d, e]) (.ref T) := by
  simp only [Da]
  refine ⟨T, [x, y], rfl, SqX.new dn, ?_⟩
  exact Das.cons (Da.same (sameUpd n) _ _ h1) (Das.cons (Da.same (sameUpd n) _ _ h2) Das.nil)
theorem yields_ez {F : Fx} {A : Own} {σ : St} {H : Hp} {ρ : DS} {ds es : List PyData} {a b : Addr} {xs ys : List V} (R : Rep F A σ H ρ) (qx : SqX F.K H a xs) (qy : SqX F.K H b ys) (hx : Das F.K (AvC F A) H ds xs) (hy : Das F.K (AvC F A) H es ys) :
    Yields true F A H (enumD (zipD ds es)) (ItEZ F.K a b) := by
  have hl : (enumD (zipD ds es)).length = min xs.length ys.length := by simp [enumD, zipD, hx.length, hy.length]
  refine ⟨fun H2 => SqT F.K H2 a xs ∧ SqT F.K H2 b ys, fun i H2 v H3 => ∃ T T2 x y o, v = .ref T2 ∧ H2 T = none ∧ upd H2 T (.frz o (.tup [x, y])) T2 = none ∧ H3 = upd (upd H2 T (.frz o (.tup [x, y]))) T2 (.tup [.int (i : Nat), .ref T]) ∧ xs[i]? = some x ∧ ys[i]? = some y ∧ o.dict = none, ⟨fun i H2 hi q => ?_, fun H2 q => ?_, fun i H2 v H3 hi q y => ?_⟩, fun H2 st => ⟨(SqX.stp qx R.mu' st).t, (SqX.stp qy R.mu' st).t⟩, fun i H2 v H3 Av2 hi st av mu y => ?_⟩
  · rw [hl] at hi
    have h1 : i < xs.length := by omega
    have h2 : i < ys.length := by omega
    exact ⟨xs, ys, xs[i], ys[i], q.1, q.2, by simp [h1], by simp [h2]⟩
  · exact ⟨xs, ys, q.1, q.2, by omega⟩
  · obtain ⟨T, T2, x, z, o, h1, h2, h3, h4, h5, h6, h7⟩ := y
    exact ⟨T, T2, x, z, o, h1, h2, h3, h4, h5 xs q.1, h6 ys q.2, h7⟩
  · obtain ⟨T, T2, x, z, o, h1, h2, h3, h4, h5, h6, h7⟩ := y
    subst h1
    subst h4
    obtain ⟨d1, e1, g1⟩ := item_of R hx st av h5
    obtain ⟨d2, e2, g2⟩ := item_of R hy st av h6
    have s1 : Same H2 (upd H2 T (.frz o (.tup [x, z]))) := sameUpd h2
    have s2 := sameUpd (u := HO.tup [V.int (i : Nat), V.ref T]) h3
    have p1 := pair_ofX (K := F.K) h7 h2 g1 g2
    exact ⟨fun b o q => s2 b o (s1 b o q), .tuple [.int (i : Nat), .tuple [d1, d2]], by simp [enumD, zipD_at e1 e2], pair_of h3 (by simp only [Da]) p1⟩
theorem tup_inv {Av : Addr → Prop} {H : Hp} {ds : List PyData} {v : V} (h : Da K Av H (.tuple ds) v) : ∃ a xs, v = .ref a ∧ SqX K H a xs ∧ Das K Av H ds xs := by simpa only [Da] using h
theorem lst_inv {Av : Addr → Prop} {H : Hp} {ds : List PyData} {v : V} (h : Da K Av H (.list ds) v) : ∃ a xs, v = .ref a ∧ SqL K H a xs ∧ H a = some (.lst xs) ∧ ¬ Av a ∧ Das K Av H ds xs := by
  simp only [Da] at h
  obtain ⟨a, xs, e, na, q, r⟩ := h
  exact ⟨a, xs, e, SqL.of q, q, na, r⟩
/-- the two parts of a zip, frozen -/
def dEnumZip (TA : DTA) : DTI := fun ρ Q => dFz TA (fun ds ρ2 => ∃ xs ys, ds = [.tuple xs, .tuple ys] ∧ Q (enumD (zipD xs ys)) ρ2) ρ
theorem di_enumzip (ha : DA K X [e, e2] ta TA) (hm : X.mg "enumerate" = none) (hm2 : X.mg "zip" = none) (hg : Gl X "enumerate" := by rfl) (hg2 : Gl X "zip" := by rfl) (hK : X.K = K := by rfl)
    (hs : starEach [e, e2] X.env = (false, eval e X.env) :: starEach [e2] X.env := by rfl) (hpl : (backTo pos2 (starEach [e2] X.env)).any (·.1) = false := by rfl) :
    DI true K X (.Tuple elts kk tpos) (.Call (.Name "enumerate" p) [.Call (.Name "zip" p2) [e, e2] [] pos2] [] pos) (iEz K ta) (dEnumZip TA) := by
  refine ⟨hK ▸ pi_ez hg hm hg2 hm2 ha.p hs hpl, fun F A σ H ρ R QD hK R0 h k => ?_⟩
  subst hK
  refine fz ha.s rfl R0 h fun ds ρ' vs H' A' q R1 t1 hd => ?_
  obtain ⟨xs, ys, e1, h2⟩ := q
  subst e1
  simp only [Das] at hd
  obtain ⟨x, r, e2, h3, y, r', e3, h4, e4⟩ := hd
  subst e2; subst e3; subst e4
  obtain ⟨a, vx, e5, qx, dx⟩ := tup_inv h3
  obtain ⟨b, vy, e6, qy, dy⟩ := tup_inv h4
  subst e5; subst e6
  exact ⟨a, b, vx, vy, rfl, qx.t, qy.t, k _ _ _ _ _ h2 R1 t1 (yields_ez R1 qx qy dx dy)⟩
/-- for x, y in zip(xs, ys): two lists or two tuples -/
def dZip (TA : DTA) : DTI := fun ρ Q => dFz TA (fun ds ρ2 => ∃ xs ys, (ds = [.tuple xs, .tuple ys] ∨ ds = [.list xs, .list ys]) ∧ Q (zipD xs ys) ρ2) ρ
theorem yields_zip {F : Fx} {A : Own} {σ : St} {H : Hp} {ρ : DS} {ds es : List PyData} {xs ys : List V} {J : It} {G : Hp → Prop} (R : Rep F A σ H ρ) (wk : Walk J (min xs.length ys.length) G (YPair (fun i => xs[i]?) (fun i => ys[i]?))) (hG : ∀ H2, Stp (AvC F A) H H2 → G H2)
    (hx : Das F.K (AvC F A) H ds xs) (hy : Das F.K (AvC F A) H es ys) : Yields true F A H (zipD ds es) J := by
  have hl : (zipD ds es).length = min xs.length ys.length := by simp [zipD, hx.length, hy.length]
  refine ⟨G, _, (hl ▸ wk : Walk J (zipD ds es).length G (YPair (fun i => xs[i]?) (fun i => ys[i]?))), hG, fun i H2 v H3 Av2 hi st av mu y => ?_⟩
  obtain ⟨T, x, z, h1, h2, h3, h5, h6⟩ := y
  subst h1
  subst h3
  obtain ⟨d1, e1, g1⟩ := item_of R hx st av h5
  obtain ⟨d2, e2, g2⟩ := item_of R hy st av h6
  exact ⟨sameUpd h2, .tuple [d1, d2], zipD_at e1 e2, pair_of h2 g1 g2⟩
theorem walk_zipT {a b : Addr} {xs ys : List V} : Walk (RZ.ItzT K a b) (min xs.length ys.length) (fun H => SqT K H a xs ∧ SqT K H b ys) (YPair (fun i => xs[i]?) (fun i => ys[i]?)) := by
  refine ⟨fun i _ hi q => ?_, fun _ q => ⟨xs, ys, q.1, q.2, by omega⟩, fun i H v H' _ q y => ?_⟩
  · have h1 : i < xs.length := by omega
    have h2 : i < ys.length := by omega
    exact ⟨xs, ys, xs[i], ys[i], q.1, q.2, by simp [h1], by simp [h2]⟩
  · obtain ⟨T, x, z, h1, h2, h3, h4, h5⟩ := y
    exact ⟨T, x, z, h1, h2, h3, h4 xs q.1, h5 ys q.2⟩
theorem di_zip (ha : DA K X [e, e2] ta TA) (hm2 : X.mg "zip" = none) (hg2 : Gl X "zip" := by rfl) (hK : X.K = K := by rfl)
    (hs : starEach [e, e2] X.env = (false, eval e X.env) :: starEach [e2] X.env := by rfl) (hpl : (backTo pos (starEach [e2] X.env)).any (·.1) = false := by rfl) :
    DI true K X (.Tuple elts kk tpos) (.Call (.Name "zip" p) [e, e2] [] pos) (RZ.iZipA K ta) (dZip TA) := by
  refine ⟨hK ▸ RZ.pi_zipA hg2 hm2 ha.p hs hpl, fun F A σ H ρ R QD hK R0 h k => ?_⟩
  subst hK
  refine fz ha.s rfl R0 h fun ds ρ' vs H' A' q R1 t1 hd => ?_
  obtain ⟨xs, ys, e1, h2⟩ := q
  rcases e1 with e1 | e1
  · subst e1
    simp only [Das] at hd
    obtain ⟨x, r, e2, h3, y, r', e3, h4, e4⟩ := hd
    subst e2; subst e3; subst e4
    obtain ⟨a, vx, e5, qx, dx⟩ := tup_inv h3
    obtain ⟨b, vy, e6, qy, dy⟩ := tup_inv h4
    subst e5; subst e6
    exact ⟨a, b, vx, vy, rfl, .inr ⟨qx.t, qy.t, k _ _ _ _ _ h2 R1 t1 (yields_zip R1 walk_zipT (fun H2 st => ⟨(SqX.stp qx R1.mu' st).t, (SqX.stp qy R1.mu' st).t⟩) dx dy)⟩⟩
  · subst e1
    simp only [Das] at hd
    obtain ⟨x, r, e2, h3, y, r', e3, h4, e4⟩ := hd
    subst e2; subst e3; subst e4
    obtain ⟨a, vx, e5, qx, gx, nx, dx⟩ := lst_inv h3
    obtain ⟨b, vy, e6, qy, gy, ny, dy⟩ := lst_inv h4
    subst e5; subst e6
    exact ⟨a, b, vx, vy, rfl, .inl ⟨qx, qy, k _ _ _ _ _ h2 R1 t1 (yields_zip R1 (walk_zip rfl) (fun H2 st => ⟨SqL.of (st _ _ gx nx), SqL.of (st _ _ gy ny)⟩) dx dy)⟩⟩
end
end DL
namespace DL
open PySem L2 PySem.Spec
open PyProof.Rows (envOfC)
/-! ### calls with keywords -/
def rearr {α : Type} (pm : List Nat) (xs : List α) : List α := pm.filterMap fun i => xs[i]?
def KwB (K : PySem.W.Frag) (fd : FuncData) (ps ks : List Str) (np : Nat) (pm : List Nat) : Prop := ∀ (s : Shared) (us ws : List Value), K.In s.heap → us.length = np → ws.length = ks.length → BindsTo s fd ⟨us, ks.zip ws⟩ (ps.zip (rearr pm (us ++ ws)))
structure CalK (P : Program) (w : World) (K : PySem.W.Frag) (mg : Str → Option Value) (base : Heap) (k : Nat) (x : Str) (ps ks : List Str) (np : Nat) (pm : List Nat) (sp : Sp) : Prop where
  ex : ∃ f fd, mg x = some (.ref f) ∧ PySem.W.keepIn K (.ref f) = true ∧ KwB K fd ps ks np pm ∧ FnG P w K mg base k f fd ps sp
structure DKw (K : PySem.W.Frag) (X : Cx) (kws : List Keyword) (t : L2.TA) (T : DTA) : Prop where
  p : PK X kws t
  s : AS K t T
def tCallKD (K : PySem.W.Frag) (n np nk : Nat) (S : DSp) (pm : List Nat) (t tk : L2.TA) : TE := fun σ H Q => t σ H fun vs H1 => tk σ H1 fun zs H2 => vs.length = np ∧ zs.length = nk ∧ spD K n S (rearr pm (vs ++ zs)) H2 Q E0
def dCallK (np nk : Nat) (S : DSp) (pm : List Nat) (TA TK : DTA) : DTE := fun ρ QD => TA ρ fun rs ρ1 => TK ρ1 fun ks ρ2 => rs.length = np ∧ ks.length = nk ∧ ∃ svs ρ3, frzAll ρ2 (rs ++ ks) = some (svs, ρ3) ∧ S (rearr pm svs) fun sv => QD sv ρ3
section
theorem vals_get {vs : List V} {us : List Value} (r : Vals vs us) (i : Nat) : (vs[i]? = none ∧ us[i]? = none) ∨ ∃ v u, vs[i]? = some v ∧ us[i]? = some u ∧ RelV v u := by
  induction r generalizing i with
  | nil => exact .inl ⟨by simp, by simp⟩
  | cons h t ih =>
    cases i with
    | zero => exact .inr ⟨_, _, rfl, rfl, h⟩
    | succ i => simpa using ih i
theorem vals_rearr {vs : List V} {us : List Value} (r : Vals vs us) : ∀ pm : List Nat, Vals (rearr pm vs) (rearr pm us)
  | [] => .nil
  | i :: pm => by
    have ih := vals_rearr r pm
    unfold rearr at ih ⊢
    simp only [List.filterMap_cons]
    rcases vals_get r i with ⟨e1, e2⟩ | ⟨v, u, e1, e2, h⟩
    · rw [e1, e2]; exact ih
    · rw [e1, e2]; exact .cons h ih
theorem vals_app {vs ws : List V} {us zs : List Value} (r : Vals vs us) (q : Vals ws zs) : Vals (vs ++ ws) (us ++ zs) := by
  induction r with
  | nil => exact q
  | cons h t ih => exact .cons h ih
theorem rws_app {F : Fx} {A : Own} {σ : St} {H : Hp} {vs ws : List V} {rs ks : List SV} (r : RWs F A σ H vs rs) (q : RWs F A σ H ws ks) : RWs F A σ H (vs ++ ws) (rs ++ ks) := by
  induction r with
  | nil => exact q
  | cons h t ih => exact .cons h ih
theorem args_rearr {K : PySem.W.Frag} {Av : Addr → Prop} {dk : Option (Addr × Addr × Addr)} {H : Hp} {vs : List V} {rs : List SV} (r : ArgRs K Av dk H vs rs) : ∀ pm : List Nat, ArgRs K Av dk H (rearr pm vs) (rearr pm rs)
  | [] => .nil
  | i :: pm => by
    have ih := args_rearr r pm
    unfold rearr at ih ⊢
    simp only [List.filterMap_cons]
    cases e : rs[i]? with
    | none =>
      have e2 : vs[i]? = none := by
        rw [List.getElem?_eq_none_iff] at e ⊢
        rw [r.length]; exact e
      rw [e2]; exact ih
    | some x =>
      obtain ⟨v, e1, q⟩ := r.get e
      rw [e1]; exact .cons q ih
theorem rws_len {F : Fx} {A : Own} {σ : St} {H : Hp} {vs : List V} {rs : List SV} (r : RWs F A σ H vs rs) : vs.length = rs.length := by
  induction r with
  | nil => rfl
  | cons h t ih => simp [ih]
end
section
variable {K : PySem.W.Frag} {X : Cx} {k n np : Nat} {ps ks : List Str} {S : DSp} {x : Str} {p pos kpos : Pos} {nm : Option Str} {e : Expr} {es : List Expr} {kws : List Keyword} {te : TE} {T : DTE} {TA TK : DTA} {ta tk : L2.TA} {pm : List Nat}
theorem dk_nil : DKw K X [] tNil dNil := ⟨pk_nil, fun F A σ H ρ Q QD hK R h k => k _ _ _ H A h R .refl .nil⟩
theorem dk_cons (he : DE K X e te T) (hr : DKw K X kws tk TK) : DKw K X (⟨nm, e, kpos⟩ :: kws) (tCons te tk) (dCons T TK) := by
  obtain ⟨pe, se⟩ := he
  obtain ⟨pr, sr⟩ := hr
  refine ⟨pk_cons pe pr, ?_⟩
  intro F A σ H ρ Q QD hK R h k
  refine se F A σ H ρ _ _ hK R h fun r ρ1 v H1 A1 h1 R1 t1 w1 => ?_
  refine sr F A1 σ H1 ρ1 _ _ hK R1 h1 fun rs ρ2 vs H2 A2 h2 R2 t2 w2 => ?_
  exact k _ _ _ H2 A2 h2 R2 (t1.trans t2) (.cons (R1.rw t2 w1.rw) w2)
theorem es_callK {nk : Nat} (ha : AS K ta TA) (hk : AS K tk TK) (hn : ∀ svs G, S svs G → svs.length = n) : ES K (tCallKD K n np nk S pm ta tk) (dCallK np nk S pm TA TK) := by
  intro F A σ H ρ Q QD hK R h k
  refine ha F A σ H ρ _ _ hK R h fun rs ρ1 vs H1 A1 h1 R1 t1 w1 => ?_
  refine hk F A1 σ H1 ρ1 _ _ hK R1 h1 fun ks ρ2 zs H2 A2 h2 R2 t2 w2 => ?_
  obtain ⟨l1, l2, svs, ρ3, e, h2⟩ := h2
  have w12 := rws_app (RWs.tr R1 t2 w1) w2
  obtain ⟨A3, R3, t3, w3, k3⟩ := Rep.frzAll R2 w12 e
  subst hK
  have ar := args_rearr (RWs.args R3 w3 k3) pm
  refine ⟨(rws_len w1).trans l1, (rws_len w2).trans l2, AvC F A3, F.dk, _, _, ar.length.trans (hn _ _ h2), R3.mu, fun b z => .inl (R3.dav b z), R3.deck, ar, h2, fun v H' sv hs kp kd w => ?_⟩
  obtain ⟨R4, t4⟩ := R3.call kp kd
  exact k _ _ v H' A3 hs R4 (t1.trans (t2.trans (t3.trans t4))) ((R3.callRes kp kd w).back fun b h => t1.trk b (t2.trk b (t3.trk b h)))
theorem de_fnK0 (C : CalK X.prog X.w X.K X.mg X.base k x ps ks 0 pm (spD K n (sz n S))) (hr : Room k X.A) (hgd : X.A.guards = some []) (hkw : DKw K X kws tk TK) (hg : Gl X x := by rfl)
    (hall : (backToKw pos (keywordEach kws X.env)).all (·.1.isSome) = true := by rfl) (hks : (backToKw pos (keywordEach kws X.env)).filterMap (·.1) = ks := by rfl)
    (hpl : ((backTo pos (starEach [] X.env)).any (·.1) || (backToKw pos (keywordEach kws X.env)).any (·.1.isNone)) = false := by rfl) (hdb : (x == ("__debug__" : Str)) = false := by decide) :
    DE K X (.Call (.Name x p) [] kws pos) (tCallKD K n 0 ks.length (sz n S) pm tNil tk) (dCallK 0 ks.length (sz n S) pm dNil TK) := by
  obtain ⟨f, fd, hm, hk, hb, G⟩ := C.ex
  obtain ⟨pk, sk⟩ := hkw
  refine ⟨⟨fun pins s σ H Q I h => ?_⟩, es_callK (fun F A σ H ρ Q QD hK R h k => k _ _ _ H A h R .refl .nil) sk fun _ _ h => h.1⟩
  refine wpAny_Call_Name_kw (ld_glob I hg hm ?_ hdb)
  refine PySem.W.callWith_KW0 (h₀ := X.base) I.ok.mod.kin hk hall (thn (pk.run pos pins s σ H _ I h) fun ws s2 ⟨zs, H2, I2, rz, q2⟩ => ⟨I2.kIn, ?_⟩) hpl
  rw [hks]
  obtain ⟨_, l2, q2⟩ := q2
  have r2 := vals_rearr (vals_app .nil rz) pm
  exact run_fnG (us := []) G hr hgd (hb s2 [] ws I2.kIn rfl (rz.length ▸ l2)) I2 r2 q2
theorem de_fnK (C : CalK X.prog X.w X.K X.mg X.base k x ps ks np pm (spD K n (sz n S))) (hr : Room k X.A) (hgd : X.A.guards = some []) (ha : DA K X (e :: es) ta TA) (hkw : DKw K X kws tk TK) (hg : Gl X x := by rfl)
    (hall : (backToKw pos (keywordEach kws X.env)).all (·.1.isSome) = true := by rfl) (hks : (backToKw pos (keywordEach kws X.env)).filterMap (·.1) = ks := by rfl) (he : starEach (e :: es) X.env = (false, eval e X.env) :: starEach es X.env := by rfl)
    (hpl : ((backTo pos (starEach (e :: es) X.env)).any (·.1) || (backToKw pos (keywordEach kws X.env)).any (·.1.isNone)) = false := by rfl) (hdb : (x == ("__debug__" : Str)) = false := by decide) :
    DE K X (.Call (.Name x p) (e :: es) kws pos) (tCallKD K n np ks.length (sz n S) pm ta tk) (dCallK np ks.length (sz n S) pm TA TK) := by
  obtain ⟨f, fd, hm, hk, hb, G⟩ := C.ex
  obtain ⟨pa, sa⟩ := ha
  obtain ⟨pk, sk⟩ := hkw
  refine ⟨⟨fun pins s σ H Q I h => ?_⟩, es_callK sa sk fun _ _ h => h.1⟩
  refine wpAny_Call_Name_kw (ld_glob I hg hm ?_ hdb)
  refine PySem.W.callWith_KW (h₀ := X.base) I.ok.mod.kin hk hall (thn (pa.run pos pins s σ H _ I h) fun us s1 ⟨vs, H1, I1, r, q⟩ => ?_) hpl he
  refine thn (pk.run pos pins s1 σ H1 _ I1 q) fun ws s2 ⟨zs, H2, I2, rz, q2⟩ => ⟨I2.kIn, ?_⟩
  rw [hks]
  obtain ⟨l1, l2, q2⟩ := q2
  have r2 := vals_rearr (vals_app r rz) pm
  exact run_fnG G hr hgd (hb s2 us ws I2.kIn (r.length ▸ l1) (rz.length ▸ l2)) I2 r2 q2
end
/-! ### a def by hand -/
section
variable {P : Program} {w : World} {K : PySem.W.Frag} {mg : Str → Option Value} {base : Heap}
theorem okH {x qual : Str} {st : Stmt} {f : Addr} {fd : FuncData} {N ps : List Str} {k : Nat} {sp : Sp} (F : Fun K x qual st f fd) (S : FnScope N ps (defScope st)) (hlen : ∀ vs H Q E, sp vs H Q E → vs.length = ps.length)
    (term : ∀ (cdv : Value) (A : Around) (outer : List Env) (s : Shared) (H : Hp) (vs : List V) (Q : VK) (E : XK), Room k (A.deeper (envOfC qual (defScope st) s.heap.objs.size f cdv)) → A.guards = some [] → sp vs H Q E →
      ∃ tb, PSs (cxOf CX0 P w K mg base N qual (defScope st) f cdv A outer s H E).nox (defBody st) tb ∧ tb { nx := fun _ H' => Q .non H', rt := Q } (L2.start N vs) H) : FnG P w K mg base (k + 1) f fd ps sp := by
  obtain ⟨oc, od, kV, doc, pm, an, cdv, ct, osl, rfl, lk, hcd⟩ := F.ex
  refine ⟨hlen, fun A outer s H args us vs Q E hr hgd e0 hb r hsp => ?_⟩
  have hlp := hlen _ _ _ _ hsp
  have KX : K.In s.heap := e0.mod.kin.keeps fun b o e => (e0.bs b o e).1
  have lim : s.heap.NoLimit := e0.mod.nolimit.keeps fun b o e => (e0.bs b o e).1
  refine codeAny_call_function hr.depth (KX _ _ lk) rfl S.co S.gen rfl (PySem.W.codeRec_of KX hcd) (hb _ _ _ _ ?_)
  refine wpAny_newFunctionEnv_cells S.kind (fun y hy => ?_) fun env he s1 x => ?_
  · rcases S.par y.1 (List.of_mem_zip (show (y.1, y.2) ∈ ps.zip us from hy)).1 with q | q
    · exact .inl q
    · exact .inr ⟨q, PySem.W.cellsFrom_some _ _ _ (.inl q)⟩
  subst he
  refine ⟨lim.keeps x.toInCall.keep, codeAny_func ?_⟩
  obtain ⟨tb, ht, red⟩ := term cdv A outer s H vs Q E (hr.deeper _) hgd hsp
  have I := inv_start (CX := CX0) (N := N) (E := E) S hr.hd e0 hlp r x
  refine wpAny_mono (ht.nox.run [] s1 (L2.start N vs) H _ I red) (fun fl s' q => ?_) fun e s' q => q
  cases fl with
  | ret u =>
    obtain ⟨v, σ', H', J, rv, q⟩ := q
    exact ⟨v, H', J.os, J.bare, J.base, J.hok, rv, q⟩
  | next =>
    obtain ⟨σ', H', J, q⟩ := q
    exact ⟨.non, H', J.os, J.bare, J.base, J.hok, rfl, q⟩
  | brk =>
    obtain ⟨_, _, _, q⟩ := q
    exact q.elim
  | cont =>
    obtain ⟨_, _, _, q⟩ := q
    exact q.elim
end
end DL
namespace DL
open PySem L2 PySem.Spec PyProof.Rows
/-! ### the law is called -/
/-- the script: an object that is known, or of the written part -/
def SqF (K : PySem.W.Frag) (H : Hp) (a : Addr) (xs : List V) : Prop := (∃ o, H a = some (.frz o (.lst xs))) ∨ SqL K (fun _ => none) a xs
theorem SqF.sql {K : PySem.W.Frag} {H : Hp} {a : Addr} {xs : List V} (h : SqF K H a xs) : SqL K H a xs := by
  rcases h with h | (h | ⟨o, h⟩) | h
  · exact .inl (.inr h)
  · cases h
  · cases h
  · exact .inr h
section
variable {P : Program} {w : World} {K : PySem.W.Frag} {mg mb : Str → Option Value} {k : Nat} {fa a : Addr} {fd : FuncData} {x : Str} {sp : Sp} {s₁ : Shared} {vs : List Value} {ns : List Int}
/-- what the law's call comes to: True, and what stood there stands -/
def LawEnd (s₁ : Shared) : Result → Shared → Prop := fun r s' => r = .ok (.ret (.bool true)) ∧ OldK s₁.heap s'.heap ∧ s'.os = s₁.os ∧ AllBare s'.gens
/-- seen from a heap H in which at most the script is tracked -/
theorem lawFrom (KX : K.In s₁.heap) (hns : s₁.heap.Ns mainGlobals mg) (hb : s₁.heap.Ns builtinsNs mb) (hbb : ∀ x : Str, x ≠ "__name__" → mb x = bootBuiltins x) (hlim : s₁.heap.NoLimit) (hg : s₁.gens = #[])
    (hr : Room k callerA) (F : ∀ base : Heap, K.In base → base.Ns mainGlobals mg → FnG P w K mg base k fa fd [x] sp) (hbind : ∀ (s : Shared) (u : Value), BindsTo s fd ⟨[u], []⟩ [(x, u)])
    (H : Hp) (hO : Only H) (hok : HOk P w H s₁.heap) (hd : ∀ b o, s₁.heap.get? b = some o → H b ≠ none → (∃ xs n, o.data = .seq xs n) ∧ K.lookup b = none) (hsp : sp [.ref a] H (fun v _ => v = .bl true) E0) :
    codeAny (model P w) callerA (.call (.ref fa) ⟨[.ref a], []⟩) (LawEnd s₁) s₁ := by
  have keepD : ∀ {b : Addr} {o : Obj} {es : Array DictEntry} {ep : Nat}, s₁.heap.get? b = some o → o.data = .dict es ep → H b = none := fun {b o es ep} e d => Classical.byContradiction fun z => by
    obtain ⟨⟨xs, n, q⟩, _⟩ := hd b o e z
    rw [q] at d; cases d
  have upNs : ∀ {b : Addr} {m : Str → Option Value}, s₁.heap.Ns b m → (hidT s₁.heap H).Ns b m := fun {b m} ⟨o, es, ep, e, d, r⟩ => ⟨o, es, ep, hidT_get e (keepD e d), d, r⟩
  have upK : K.In (hidT s₁.heap H) := fun b o e => hidT_get (KX b o e) (Classical.byContradiction fun z => by
    have := (hd b o (KX b o e) z).2
    rw [e] at this; cases this)
  have e0 : Env0 P w K mg (hidT s₁.heap H) callerA [] s₁ H :=
    { frames := rfl, mod := ⟨upK, upNs hns, ⟨mb, upNs hb, hbb⟩, hlim.imp fun _ h => ⟨upNs h.1, h.2⟩⟩, bs := fun b o e => of_hidT e, bsz := Nat.le_of_eq (hidT_size _ _), funs := trivial, frf := fun b hb => (nomatch (show b ∈ ([] : List Addr) from hb)), hok := hok, bare := .of_eq hg }
  refine codeAny_mono ((F _ upK (upNs hns)).run callerA [] s₁ H ⟨[.ref a], []⟩ [.ref a] [.ref a] _ _ hr rfl e0 (hbind s₁ (.ref a)) (.cons rfl .nil) hsp) fun r s' h => ?_
  match r, h with
  | .ok (.ret u), ⟨v, H', os, bare, un, hok', r', q⟩ =>
    have ev : v = .bl true := q
    subst ev
    have eu : u = Value.bool true := r'
    subst eu
    refine ⟨rfl, OldK.of_keep fun b o e => ?_, os, bare⟩
    rcases hO b with z | ⟨ob, xs, z⟩
    · exact un.keep b o e z (fun m => (nomatch (show b ∈ ([] : List Addr) from m))) (by simp)
    · have g1 := (hok b _ z).1
      have g2 := (hok' b _ (un.frzs b ob _ z)).1
      rw [e] at g1
      cases g1
      exact g2
theorem law_callG (KX : K.In s₁.heap) (hns : s₁.heap.Ns mainGlobals mg) (hb : s₁.heap.Ns builtinsNs mb) (hbb : ∀ x : Str, x ≠ "__name__" → mb x = bootBuiltins x) (hlim : s₁.heap.NoLimit) (hg : s₁.gens = #[])
    (ha : s₁.heap.get? a = some { cls := .type "list", data := .seq vs.toArray }) (hi : IntsAre vs ns) (hl : ns.length ≤ sizeLine) (hr : Room k callerA)
    (F : ∀ base : Heap, K.In base → base.Ns mainGlobals mg → FnG P w K mg base k fa fd [x] sp) (hbind : ∀ (s : Shared) (u : Value), BindsTo s fd ⟨[u], []⟩ [(x, u)])
    (hsp : ∀ H : Hp, Only H → SqF K H a (ns.map V.int) → sp [.ref a] H (fun v _ => v = .bl true) E0) :
    codeAny (model P w) callerA (.call (.ref fa) ⟨[.ref a], []⟩) (LawEnd s₁) s₁ := by
  have rv := vals_ints hi
  cases hk : K.lookup a with
  | some o =>
    have e := KX a o hk
    rw [ha] at e
    cases e
    exact lawFrom KX hns hb hbb hlim hg hr F hbind (fun _ => none) (fun _ => .inl rfl) (fun b u z => nomatch z) (fun b o _ z => absurd rfl z)
      (hsp _ (fun _ => .inl rfl) (.inr (.inr ⟨_, vs.toArray, _, hk, rfl, rfl, rfl, by rw [List.size_toArray, hi.length]; exact hl, by simpa using rv⟩)))
  | none =>
    let ob : Obj := { cls := .type "list", data := .seq vs.toArray }
    have at_a : ∀ b u, (if b = a then some (HO.frz ob (.lst (ns.map V.int))) else none) = some u → b = a ∧ u = HO.frz ob (.lst (ns.map V.int)) := fun b u z => by
      by_cases hb : b = a
      · rw [if_pos hb] at z; exact ⟨hb, (Option.some.inj z).symm⟩
      · rw [if_neg hb] at z; cases z
    have only : Only fun b => if b = a then some (HO.frz ob (.lst (ns.map V.int))) else none := fun b => by
      by_cases hb : b = a
      · exact .inr ⟨_, _, if_pos hb⟩
      · exact .inl (if_neg hb)
    refine lawFrom KX hns hb hbb hlim hg hr F hbind _ only (fun b u z => ?_) (fun b o e z => ?_) (hsp _ only (.inl ⟨ob, if_pos rfl⟩))
    · obtain ⟨rfl, rfl⟩ := at_a b u z
      exact ⟨ha, by rw [List.length_map]; exact hl, vs, _, rv, ha⟩
    · obtain ⟨u, q⟩ := Option.ne_none_iff_exists'.mp z
      obtain ⟨rfl, rfl⟩ := at_a b u q
      rw [ha] at e
      cases e
      exact ⟨⟨_, _, rfl⟩, hk⟩
end
theorem walk_ofG {l : PySem.W.OpenLaw} {n k : Nat} {q : Program} {loose : List Str} {XP : (Str → Option Value) → Heap → Prop} {YP : World → Heap → Prop} {d : DefRec} {K : Params → PySem.W.Frag} {sp : PySem.W.Frag → Sp} {x : Str}
    (hn : l.most = some n) (hn2 : n ≤ sizeLine) (hdf : d.params.defaults = []) (hr : Room k callerA)
    (hY : ∀ (w : World) (h : Heap), YP w h → (K w.params).In h)
    (F : ∀ (w : World) (mg : Str → Option Value) (fa : Addr) (h : Heap), (K w.params).In h → h.Ns mainGlobals mg → mg d.name = some (.ref fa) →
      ∃ fd : FuncData, (∀ (s : Shared) (u : Value), BindsTo s fd ⟨[u], []⟩ [(x, u)]) ∧
        ∀ base : Heap, (K w.params).In base → base.Ns mainGlobals mg → FnG l.prog w (K w.params) mg base k fa fd [x] (sp (K w.params)))
    (hsp : ∀ (K : PySem.W.Frag) (H : Hp) (a : Addr) (ns : List Int), ns.length ≤ n → SqF K H a (ns.map V.int) → sp K [.ref a] H (fun v _ => v = .bl true) E0) :
    PySem.W.WalkO q loose XP YP l.row.toRowW d [] (fun f vs => PySem.call f vs) := by
  refine Att.attach_call hn hdf fun w s₀ s₁ mg mb fa o pm cd doc a vs ns G Y ho hd hcd hmg hobj hints hlen hg => ?_
  have KX := hY w _ Y
  obtain ⟨fd, hb, hF⟩ := F w mg fa _ KX G.T.g hmg
  exact law_callG KX G.T.g G.T.b G.T.builtins G.T.nolimit hg hobj hints (Nat.le_trans hlen hn2) hr hF hb fun H _ hS => hsp (K w.params) H a ns hlen hS
end DL
namespace DL
open PySem L2 PySem.Spec
open PyProof.Rows (envOfC)
/-! ### a law: the deck is made, then all is data -/
def spDeck (K : PySem.W.Frag) : Sp := fun vs H Q _ => ∃ (a : Addr) (ns : List Int), vs = [.ref a] ∧ SqL K H a (ns.map V.int) ∧ ns.length ≤ 63 ∧ ∀ (d : Addr) (l : Addr × Addr) (H' : Hp), DkAt H' d l → Same H H' → Q (.ref d) H'
def spLaw (K : PySem.W.Frag) : Sp := fun vs H Q _ => ∃ (a : Addr) (ns : List Int), vs = [.ref a] ∧ SqL K H a (ns.map V.int) ∧ ns.length ≤ 63 ∧ ∀ H', Q (.bl true) H'
/-- a value that a name keeps: the deck's -/
theorem ps_deck {X : Cx} {fn vn : Str} {p1 p2 p3 p4 p5 : Pos} {k : Nat} {K : PySem.W.Frag} (C : Cal X.prog X.w X.K X.mg X.base k fn ["script"] (spDeck K)) (hN : X.N.Nodup) (h0 : X.N[0]? = some ("script" : Str)) (h1 : X.N[1]? = some vn) (hv : Vis X.env.scope "script") (hx : Loc X.env.scope vn) (hr : Room k X.A) (hgd : X.A.guards = some []) (hg : Gl X fn)
    (hdb : (fn == ("__debug__" : Str)) = false) (hs : swapsWith (.Call (.Name fn p2) [.Name "script" p3] [] p4) (some (.Name vn p1)) p5.line X.env = pure false) (hf : X.fn vn = true ∨ X.env.scope.names.lookup vn = some .local) (he : starEach [.Name "script" p3] X.env = (false, eval (.Name "script" p3) X.env) :: starEach [] X.env)
    (hpl : (backTo p4 (starEach [] X.env)).any (·.1) = false) :
    PS X (.Assign [.Name vn p1] (.Call (.Name fn p2) [.Name "script" p3] [] p4) p5) (tAsg (fun σ H Q => tCons (tVar 0) tNil σ H fun vs H1 => spDeck K vs H1 Q E0) (gName 1)) := by
  obtain ⟨f, fd, hm, hk, hb, G⟩ := C.ex
  exact ps_set hN h1 hx (pe_callG1 G hr hgd hg hm hk hb (pa_cons (pe_var h0 hv) pa_nil he) hdb he hpl) hs hf
theorem okLaw {fn vn : Str} {P : Program} {w : World} {K : PySem.W.Frag} {mg : Str → Option Value} {base : Heap} {st : Stmt} {f : Addr} {fd : FuncData} {N0 : List Str} {k : Nat} {TB : DTS} {rest : List Stmt} {p1 p2 p3 p4 p5 : Pos} (F : Fun K "law" "law" st f fd) (S : FnScope ("script" :: vn :: N0) ["script"] (defScope st))
    (hbody : defBody st = .Assign [.Name vn p1] (.Call (.Name fn p2) [.Name "script" p3] [] p4) p5 :: rest) (C : Cal P w K mg base 1 fn ["script"] (spDeck K)) (hk : 1 ≤ k)
    (first : ∀ (cdv : Value) (A : Around) (outer : List Env) (s : Shared) (H : Hp) (E : XK), Room k (A.deeper (envOfC "law" (defScope st) s.heap.objs.size f cdv)) → A.guards = some [] →
      PS (cxOf CX0 P w K mg base ("script" :: vn :: N0) "law" (defScope st) f cdv A outer s H E).nox (.Assign [.Name vn p1] (.Call (.Name fn p2) [.Name "script" p3] [] p4) p5) (tAsg (fun σ H Q => tCons (tVar 0) tNil σ H fun vs H1 => spDeck K vs H1 Q E0) (gName 1)))
    (term : ∀ (cdv : Value) (A : Around) (outer : List Env) (s : Shared) (H : Hp) (E : XK), Room k (A.deeper (envOfC "law" (defScope st) s.heap.objs.size f cdv)) → A.guards = some [] →
      ∃ tb, DSs K (cxOf CX0 P w K mg base ("script" :: vn :: N0) "law" (defScope st) f cdv A outer s H E).nox rest tb TB)
    (spec : TB { nx := fun _ => False, rt := fun r _ => r = .dat (.bool true) } (none :: some .dk :: N0.map fun _ => none)) : FnG P w K mg base (k + 1) f fd ["script"] (spLaw K) := by
  refine okH F S (fun vs H Q E h => ?_) fun cdv A outer s H vs Q E hr hgd h => ?_
  · obtain ⟨_, _, h, _⟩ := h
    rw [h]; rfl
  obtain ⟨a, ns, rfl, hS, hlen, post⟩ := h
  obtain ⟨tb, tp, ts⟩ := term cdv A outer s H E hr hgd
  rw [hbody]
  refine ⟨_, pss_cons (first cdv A outer s H E hr hgd) tp, ?_⟩
  refine ⟨_, rfl, a, ns, rfl, hS, hlen, fun d l H' dk sm => ?_⟩
  refine ts ⟨K, H', fun b => b = d ∨ b = l.1 ∨ b = l.2, some (d, l)⟩ (fun _ => none) _ H' _ _ _ rfl ?_ spec ?_
  · refine ⟨?_, fun i sv e => ?_, (fun i a e => nomatch e), (fun i j a e => nomatch e), (fun i a e => nomatch e), fun b z => ?_, fun b o e _ => e, fun b z => ?_, fun a2 l2 e => ?_⟩
    · simp [L2.start]
    · match i, e with
      | 0, e => cases e
      | 1, e =>
        have e' : sv = .dk := (Option.some.inj (Option.some.inj e)).symm
        subst e'
        exact ⟨.ref d, rfl, d, l, rfl, rfl⟩
      | i + 2, e =>
        have e2 : (N0.map fun _ => (none : Option SV))[i]? = some (some sv) := e
        rw [List.getElem?_map] at e2
        cases q : N0[i]? with
        | none => rw [q] at e2; cases e2
        | some x => rw [q] at e2; cases e2
    · have z' : b = d ∨ b = l.1 ∨ b = l.2 := by
        rcases z with z | ⟨i, z⟩
        · exact z
        · cases z
      exact dk.has b z'
    · obtain ⟨a2, l2, e, q⟩ := z
      cases e
      exact q
    · cases e
      exact dk
  · refine ⟨fun _ _ _ _ z => z.elim, fun r ρ' v σ' H2 A' z R t w => ?_, fun _ _ _ _ z => z.elim, fun _ _ _ _ z => z.elim⟩
    subst z
    have e : v = .bl true := by
      have w' : Da K (AvC ⟨K, H', fun b => b = d ∨ b = l.1 ∨ b = l.2, some (d, l)⟩ A') H2 (.bool true) v := w
      simpa only [Da] using w'
    rw [e]
    exact post H2
end DL
namespace DL
open PySem L2
/-! ### a reading, step by step -/
section
variable {t u tb : DTS} {E : DEnds} {ρ : DS} {T Ta Tb Tc : DTE} {tA tB : DTT} {TA : DTA} {g : DTG} {gs : DTGs} {QD : SV → DS → Prop} {QB : Bool → DS → Prop} {QA : List SV → DS → Prop} {i j n : Nat} {d e : PyData} {xs ys ds : List PyData} {G : SV → Prop} {W : DTI} {a b : Int} {S : DSp} {svs : List SV} {Q : DS → Prop} {QO : Option Int → DS → Prop} {Tl Th : DTO} {Q1 : List PyData → DS → Prop}
theorem i_seq (h : t { E with nx := u E } ρ) : dSeq t u E ρ := h
theorem i_next (h : E.nx ρ) : dNext E ρ := h
theorem i_break (h : E.bk ρ) : dBreak E ρ := h
theorem i_cont (h : E.ct ρ) : dCont E ρ := h
theorem i_asg (h : T ρ fun r ρ1 => ∃ d ρ2, frz1 ρ1 r = some (.dat d, ρ2) ∧ g d ρ2 E.nx) : dAsg T g E ρ := h
theorem i_set (h : T ρ fun r ρ1 => i < ρ1.length ∧ ∃ sv ρ2, sto1 ρ1 r = some (sv, ρ2) ∧ E.nx (ρ2.set i (some sv))) : dSet i T E ρ := h
theorem i_ret (h : T ρ E.rt) : dRet T E ρ := h
theorem i_drop (h : T ρ fun _ ρ1 => E.nx ρ1) : dDrop T E ρ := h
theorem i_ifs {c : DTT} (h : c ρ fun b ρ1 => if b = true then t E ρ1 else u E ρ1) : dIfS c t u E ρ := h
theorem i_for (h : W ρ fun ds ρ1 => forT g tb E ds ρ1) : dFor W g tb E ρ := h
theorem i_varD (h : ρ[i]? = some (some (.dat d))) (k : QD (.dat d) ρ) : dVar i ρ QD := ⟨_, h, k⟩
theorem i_varO (h : ρ[i]? = some (some (.own xs))) (k : QD (.orf i) ρ) : dVar i ρ QD := ⟨_, h, k⟩
theorem i_varK (h : ρ[i]? = some (some .dk)) (k : QD .dk ρ) : dVar i ρ QD := ⟨_, h, k⟩
theorem i_c (k : QD (.dat d) ρ) : dC d ρ QD := k
theorem i_bin {g : G2} (h : Ta ρ fun r1 ρ1 => Tb ρ1 fun r2 ρ2 => ∃ d e, lookD ρ2 r1 = some d ∧ lookD ρ2 r2 = some e ∧ g d e fun sv => QD sv ρ2) : dBin g Ta Tb ρ QD := h
theorem i_two {g : G2} {r1 r2 : SV} (h1 : lookD ρ r1 = some d) (h2 : lookD ρ r2 = some e) (k : g d e fun sv => QD sv ρ) : ∃ d e, lookD ρ r1 = some d ∧ lookD ρ r2 = some e ∧ g d e fun sv => QD sv ρ := ⟨d, e, h1, h2, k⟩
theorem i_addI (k : G (.dat (.int (a + b)))) : gAdd (.int a) (.int b) G := k
theorem i_addT (k : G (.dat (.tuple (xs ++ ys)))) (h : xs.length + ys.length ≤ sizeLine) : gAdd (.tuple xs) (.tuple ys) G := ⟨h, k⟩
theorem i_addL (k : G (.own (xs ++ ys))) (h : xs.length + ys.length ≤ sizeLine) : gAdd (.list xs) (.list ys) G := ⟨h, k⟩
theorem i_sub (k : G (.dat (.int (a - b)))) : DL.gSub (.int a) (.int b) G := k
theorem i_mul (k : G (.dat (.int (a * b)))) (h : mulOk a b) : gMul (.int a) (.int b) G := ⟨h, k⟩
theorem i_mod (k : G (.dat (.int (a % b)))) (h : 0 < b) : gMod (.int a) (.int b) G := ⟨h, k⟩
theorem i_div (k : G (.dat (.int (a / b)))) (h : CDivW a b) : gDiv (.int a) (.int b) G := ⟨h, k⟩
theorem i_pow (k : G (.dat (.int (a ^ b.toNat)))) (h : CPow a b) : gPow (.int a) (.int b) G := ⟨h, k⟩
theorem i_lt (k : G (.dat (.bool (decide (a < b))))) : gLt (.int a) (.int b) G := k
theorem i_le (k : G (.dat (.bool (decide (a ≤ b))))) : gLe (.int a) (.int b) G := k
theorem i_gt (k : G (.dat (.bool (decide (b < a))))) : gGt (.int a) (.int b) G := k
theorem i_ge (k : G (.dat (.bool (decide (b ≤ a))))) : gGe (.int a) (.int b) G := k
theorem i_eqI (k : G (.dat (.bool (decide (a = b))))) : gEq (.int a) (.int b) G := by
  refine ⟨.inl ⟨by rfl, by rfl⟩, ?_⟩
  have e : PyData.eqv (.int a) (.int b) = decide (a = b) := by rfl
  rw [e]; exact k
theorem i_neI (k : G (.dat (.bool (!decide (a = b))))) : gNe (.int a) (.int b) G := by
  refine ⟨.inl ⟨by rfl, by rfl⟩, ?_⟩
  have e : PyData.eqv (.int a) (.int b) = decide (a = b) := by rfl
  rw [e]; exact k
theorem i_eq (k : G (.dat (.bool (PyData.eqv d e)))) (h1 : SeqAt.shaped d = true) (h2 : SeqAt.shaped e = true) : gEq d e G := ⟨.inl ⟨h1, h2⟩, k⟩
theorem i_ne (k : G (.dat (.bool (!PyData.eqv d e)))) (h1 : SeqAt.shaped d = true) (h2 : SeqAt.shaped e = true) : gNe d e G := ⟨.inl ⟨h1, h2⟩, k⟩
theorem i_is (k : G (.dat (.bool (isNon d)))) : gIs d .none G := ⟨rfl, k⟩
theorem i_isnot (k : G (.dat (.bool (!isNon d)))) : gIsNot d .none G := ⟨rfl, k⟩
theorem i_neg (h : T ρ fun r ρ1 => ∃ d, lookD ρ1 r = some d ∧ gNeg d fun sv => QD sv ρ1) : dUn gNeg T ρ QD := h
theorem i_negI (k : G (.dat (.int (-a)))) : gNeg (.int a) G := k
theorem i_tst (h : T ρ fun r ρ1 => ∃ b, r = .dat (.bool b) ∧ QB b ρ1) : dTst T ρ QB := h
theorem i_tru (h : T ρ fun r ρ1 => ∃ d, lookD ρ1 r = some d ∧ trOk d ∧ QB (truD d) ρ1) : dTru T ρ QB := h
theorem i_and (h : tA ρ fun c ρ1 => if c = true then tB ρ1 QB else QB false ρ1) : dAnd tA tB ρ QB := h
theorem i_or (h : tA ρ fun c ρ1 => if c = true then QB true ρ1 else tB ρ1 QB) : dOr tA tB ρ QB := h
theorem i_not (h : tA ρ fun c ρ1 => QB (!c) ρ1) : dNot tA ρ QB := h
theorem i_notV (h : T ρ fun r ρ1 => ∃ d, lookD ρ1 r = some d ∧ trOk d ∧ QD (.dat (.bool (!truD d))) ρ1) : dNotV T ρ QD := h
theorem i_andV (h : Ta ρ fun r ρ1 => ∃ d, lookD ρ1 r = some d ∧ trOk d ∧ if truD d = true then Tb ρ1 QD else QD r ρ1) : dAndV Ta Tb ρ QD := h
theorem i_orV (h : Ta ρ fun r ρ1 => ∃ d, lookD ρ1 r = some d ∧ trOk d ∧ if truD d = true then QD r ρ1 else Tb ρ1 QD) : dOrV Ta Tb ρ QD := h
theorem i_if {c : DTT} (h : c ρ fun b ρ1 => if b = true then Ta ρ1 QD else Tb ρ1 QD) : dIf c Ta Tb ρ QD := h
theorem i_chain {g g' : G2} (h : Ta ρ fun r1 ρ1 => Tb ρ1 fun r2 ρ2 => ∃ d e, lookD ρ2 r1 = some d ∧ lookD ρ2 r2 = some e ∧ g d e fun sv => ∃ k, sv = .dat (.bool k) ∧
  if k = true then Tc ρ2 fun r3 ρ3 => ∃ e' f, lookD ρ3 r2 = some e' ∧ lookD ρ3 r3 = some f ∧ g' e' f fun sv => QD sv ρ3 else QD (.dat (.bool false)) ρ2) : dChain g g' Ta Tb Tc ρ QD := h
theorem i_nil (k : QA [] ρ) : dNil ρ QA := k
theorem i_cons (h : T ρ fun r ρ1 => TA ρ1 fun rs ρ2 => QA (r :: rs) ρ2) : dCons T TA ρ QA := h
theorem i_tup (h : TA ρ fun rs ρ1 => ∃ svs ρ2 ds, frzAll ρ1 rs = some (svs, ρ2) ∧ datas svs = some ds ∧ ds.length ≤ sizeLine ∧ QD (.dat (.tuple ds)) ρ2) : dTup TA ρ QD := h
theorem i_lst (h : TA ρ fun rs ρ1 => ∃ svs ρ2 ds, frzAll ρ1 rs = some (svs, ρ2) ∧ datas svs = some ds ∧ ds.length ≤ sizeLine ∧ QD (.own ds) ρ2) : dLst TA ρ QD := h
theorem i_dic (k : QD (.dat (.dict [])) ρ) : dDic ρ QD := k
theorem i_cal {g : G1} (h : TA ρ fun rs ρ1 => ∃ ds, looks ρ1 rs = some ds ∧ g ds fun sv => QD sv ρ1) : dCal g TA ρ QD := h
theorem i_call (h : TA ρ fun rs ρ1 => ∃ svs ρ2, frzAll ρ1 rs = some (svs, ρ2) ∧ S svs fun sv => QD sv ρ2) : dCall S TA ρ QD := h
theorem i_isi {Ty : String} (h : T ρ fun r ρ1 => ∃ d, lookD ρ1 r = some d ∧ QD (.dat (.bool (isiOf Ty d))) ρ1) : dIsi Ty T ρ QD := h
theorem i_lenT (k : G (.dat (.int xs.length))) : g1 gLen [.tuple xs] G := k
theorem i_lenL (k : G (.dat (.int xs.length))) : g1 gLen [.list xs] G := k
theorem i_nm (k : Q (ρ.set i (some (.dat d)))) (h : i < ρ.length) : gNm i d ρ Q := ⟨h, k⟩
theorem i_tu (k : gs xs ρ Q) (h : xs.length = n) : gTu n gs (.tuple xs) ρ Q := ⟨xs, rfl, h, k⟩
theorem i_gcons {gs : DTGs} {g : DTG} (k : g d ρ fun ρ1 => gs ds ρ1 Q) : gCons' g gs (d :: ds) ρ Q := ⟨d, ds, rfl, k⟩
theorem i_gnil (k : Q ρ) : gNil' [] ρ Q := ⟨rfl, k⟩
theorem i_sto {r sv : SV} {ρ2 : DS} (h : sto1 ρ r = some (sv, ρ2)) (k : Q (ρ2.set i (some sv))) (hl : i < ρ.length) : i < ρ.length ∧ ∃ sv ρ2, sto1 ρ r = some (sv, ρ2) ∧ Q (ρ2.set i (some sv)) := ⟨hl, sv, ρ2, h, k⟩
theorem i_szc {n : Nat} (h : svs.length = n) (k : S svs G) : sz n S svs G := ⟨h, k⟩
theorem i_ifb {p q : Prop} {c : Bool} (h : if c = true then p else q) : if truD (.bool c) = true then p else q := h
theorem i_ifT {p q : Prop} {c : Bool} (h : c = true) (k : p) : if c = true then p else q := by rw [if_pos h]; exact k
theorem i_ifF {p q : Prop} {c : Bool} (h : c = false) (k : q) : if c = true then p else q := by rw [if_neg (by rw [h]; decide)]; exact k
theorem i_ok {p : Prop} (h : trOk d) (k : p) : trOk d ∧ p := ⟨h, k⟩
def plainSV : SV → Bool
  | .dat _ => true
  | .dk => true
  | _ => false
theorem frzAll_plain : ∀ (rs : List SV), rs.all plainSV = true → frzAll ρ rs = some (rs, ρ)
  | [], _ => rfl
  | r :: rs, h => by
    simp only [List.all_cons, Bool.and_eq_true] at h
    have ih := frzAll_plain rs h.2
    have e : frz1 ρ r = some (r, ρ) := by
      cases r with
      | dat d => rfl
      | dk => rfl
      | own xs => exact absurd h.1 (by show ¬ (false = true); decide)
      | orf i => exact absurd h.1 (by show ¬ (false = true); decide)
      | scr ns => exact absurd h.1 (by show ¬ (false = true); decide)
      | dct kvs => exact absurd h.1 (by show ¬ (false = true); decide)
    simp only [frzAll, e, Option.bind_some, ih]
theorem i_frz {rs : List SV} {P : List SV → DS → Prop} (h : rs.all plainSV = true) (k : P rs ρ) : ∃ svs ρ2, frzAll ρ rs = some (svs, ρ2) ∧ P svs ρ2 := ⟨rs, ρ, frzAll_plain rs h, k⟩
theorem i_frzD {rs : List SV} {P : List PyData → DS → Prop} (h : rs.all plainSV = true) (h2 : datas rs = some ds) (k : P ds ρ) : ∃ svs ρ2 ds, frzAll ρ rs = some (svs, ρ2) ∧ datas svs = some ds ∧ P ds ρ2 := ⟨rs, ρ, ds, frzAll_plain rs h, h2, k⟩
theorem i_enum (h : T ρ fun r ρ1 => ∃ d ρ2 ds, frz1 ρ1 r = some (.dat d, ρ2) ∧ lstTup d = some ds ∧ Q1 (enumD ds) ρ2) : dEnum T ρ Q1 := h
theorem i_enumzip (h : TA ρ fun rs ρ1 => ∃ svs ρ2 ds, frzAll ρ1 rs = some (svs, ρ2) ∧ datas svs = some ds ∧ ∃ xs ys, ds = [.tuple xs, .tuple ys] ∧ Q1 (enumD (zipD xs ys)) ρ2) : dEnumZip TA ρ Q1 := h
theorem i_dit (h : T ρ fun r ρ1 => ∃ d ρ2 ds, frz1 ρ1 r = some (.dat d, ρ2) ∧ itemsD d = some ds ∧ Q1 ds ρ2) : dIt T ρ Q1 := h
theorem i_frz3 {r : SV} {ρ2 : DS} {f : PyData → Option (List PyData)} (h : frz1 ρ r = some (.dat d, ρ2)) (h2 : f d = some ds) (k : Q1 ds ρ2) : ∃ d ρ2 ds, frz1 ρ r = some (.dat d, ρ2) ∧ f d = some ds ∧ Q1 ds ρ2 := ⟨d, ρ2, ds, h, h2, k⟩
theorem i_ixT (h : atI xs a = some d) (k : G (.dat d)) : gIx (.tuple xs) (.int a) G := ⟨d, h, k⟩
theorem i_ixL (h : atI xs a = some d) (k : G (.dat d)) : gIx (.list xs) (.int a) G := ⟨d, h, k⟩
theorem i_len {n : Nat} {p : Prop} (h : n ≤ 100) (k : p) : n ≤ sizeLine ∧ p := ⟨Nat.le_trans h (by decide), k⟩
theorem i_slT {lo hi : Option Int} (k : G (.dat (.tuple (cutD xs lo hi)))) : gSl (.tuple xs) lo hi G := k
theorem i_slL {lo hi : Option Int} (k : G (.own (cutD xs lo hi))) : gSl (.list xs) lo hi G := k
theorem i_sl (h : T ρ fun r ρ1 => Tl ρ1 fun l ρ2 => Th ρ2 fun u ρ3 => ∃ d, lookD ρ3 r = some d ∧ gSl d l u fun sv => QD sv ρ3) : dSl T Tl Th ρ QD := h
theorem i_oN (k : QO none ρ) : oNone ρ QO := k
theorem i_oS (h : T ρ fun r ρ1 => ∃ i, lookD ρ1 r = some (.int i) ∧ QO (some i) ρ1) : oSome T ρ QO := h
theorem i_rng (h : TA ρ fun rs ρ1 => ∃ ds, looks ρ1 rs = some ds ∧ ∃ j, ds = [.int j] ∧ -(2 ^ 62) ≤ j ∧ j < 2 ^ 62 ∧ Q1 (rngD 0 j.toNat) ρ1) : dRng TA ρ Q1 := h
theorem i_trB {c : Bool} (k : QB c ρ) : ∃ d, lookD ρ (.dat (.bool c)) = some d ∧ trOk d ∧ QB (truD d) ρ := ⟨.bool c, rfl, trivial, k⟩
theorem truD_b {c : Bool} : truD (.bool c) = c := rfl
theorem i_absI (k : G (.dat (.int (if a < 0 then -a else a)))) : g1 gAbs [.int a] G := k
theorem i_intI (k : G (.dat (.int a))) : g1 gInt [.int a] G := k
theorem i_intB {c : Bool} (k : G (.dat (.int (if c then 1 else 0)))) : g1 gInt [.bool c] G := k
theorem i_tupL (k : G (.dat (.tuple xs))) : g1 gTuple [.list xs] G := k
theorem i_lstT (k : G (.own xs)) : g1 gList [.tuple xs] G := k
theorem i_rep (h : reprOk d) (k : G (.dat (.str d.shown))) : g1 gRepr [d] G := ⟨h, k⟩
theorem i_lc {vs : List Nat} (h : W ρ fun ds ρ1 => lcT g tA T vs (fun acc ρ' => QD (.own acc) (wipeD ρ' vs)) ds [] ρ1) : dLc W g tA T vs ρ QD := h
theorem lc_ind {vs : List Nat} {Kc : List PyData → DS → Prop} (I : List PyData → List PyData → DS → Prop) (h0 : ∀ acc ρ, I [] acc ρ → Kc acc ρ)
    (hs : ∀ d ds acc ρ (K : List PyData → DS → Prop), (∀ acc ρ, I ds acc ρ → K acc ρ) → I (d :: ds) acc ρ → g d (wipeD ρ vs) fun ρ1 => tA ρ1 fun b ρ2 => if b = true then T ρ2 fun r ρ3 => ∃ d' ρ4, frz1 ρ3 r = some (.dat d', ρ4) ∧ acc.length < sizeLine ∧ K (acc ++ [d']) ρ4 else K acc ρ2) :
    ∀ ds acc ρ, I ds acc ρ → lcT g tA T vs Kc ds acc ρ
  | [], acc, ρ, h => h0 acc ρ h
  | d :: ds, acc, ρ, h => hs d ds acc ρ _ (fun acc ρ h => lc_ind I h0 hs ds acc ρ h) h
theorem i_lenlt {n : Nat} {p : Prop} (h : n ≤ 1000) (k : p) : n < sizeLine ∧ p := ⟨Nat.lt_of_le_of_lt h (by decide), k⟩
theorem i_if2 {p q : Prop} {c : Bool} (h1 : c = true → p) (h2 : c = false → q) : if c = true then p else q := by
  cases c
  · exact h2 rfl
  · exact h1 rfl
theorem mulOk_of {i j : Int} (h1 : i.natAbs < 10 ^ 200) (h2 : j.natAbs < 10 ^ 200) : mulOk i j :=
  .inr (wide_mul (a := 700) (b := 700) (Nat.lt_of_lt_of_le h1 (by decide)) (Nat.lt_of_lt_of_le h2 (by decide)) (by decide) (by decide) (by decide))
theorem isi_int (d : PyData) : isiOf "int" d = match d with | .int _ => true | .bool _ => true | _ => false := by cases d <;> rfl
theorem isi_bool (d : PyData) : isiOf "bool" d = match d with | .bool _ => true | _ => false := by cases d <;> rfl
theorem isi_tuple (d : PyData) : isiOf "tuple" d = match d with | .tuple _ => true | _ => false := by cases d <;> rfl
def enumF (k : Nat) (ds : List PyData) : List PyData := ds.mapIdx fun i d => .tuple [.int ((k + i : Nat) : Int), d]
theorem enumD_F (ds : List PyData) : enumD ds = enumF 0 ds := by simp [enumD, enumF]
theorem enumF_nil (k : Nat) : enumF k [] = [] := rfl
theorem enumF_cons (k : Nat) (d : PyData) (ds : List PyData) : enumF k (d :: ds) = .tuple [.int (k : Nat), d] :: enumF (k + 1) ds := by
  simp [enumF, List.mapIdx_cons]
  have e : (fun (i : Nat) (d : PyData) => PyData.tuple [PyData.int (↑k + (↑i + 1)), d]) = fun (i : Nat) d => PyData.tuple [PyData.int (↑k + 1 + ↑i), d] := by
    funext i d
    have : (k : Int) + ((i : Int) + 1) = k + 1 + i := by omega
    rw [this]
  rw [e]
theorem forT_ind {g : DTG} {tb : DTS} {E : DEnds} (I : List PyData → DS → Prop) (h0 : ∀ ρ, I [] ρ → E.nx ρ)
    (hs : ∀ d ds ρ (K : DS → Prop), (∀ ρ2, I ds ρ2 → K ρ2) → I (d :: ds) ρ → g d ρ fun ρ1 => tb { nx := K, rt := E.rt, bk := E.nx, ct := K } ρ1) : ∀ ds ρ, I ds ρ → forT g tb E ds ρ
  | [], ρ, h => h0 ρ h
  | d :: ds, ρ, h => hs d ds ρ _ (fun ρ2 h2 => forT_ind I h0 hs ds ρ2 h2) h
theorem while_ind {TC : DTT} {tb : DTS} {E : DEnds} (I : Nat → DS → Prop)
    (hs : ∀ n ρ (K : DS → Prop), (∀ m ρ2, m < n → I m ρ2 → K ρ2) → I n ρ → TC ρ fun b ρ1 => if b = true then tb { nx := K, rt := E.rt, bk := E.nx, ct := K } ρ1 else E.nx ρ1) {n : Nat} {ρ : DS} (h : I n ρ) : dWhile TC tb E ρ := by
  have go : ∀ k m ρ, m < k → I m ρ → whileT TC tb E k ρ := by
    intro k
    induction k with
    | zero => intro m ρ hm; omega
    | succ k ih => exact fun m ρ hm hI => hs m ρ (whileT TC tb E k) (fun m' ρ2 h1 h2 => ih m' ρ2 (by omega) h2) hI
  exact ⟨n + 1, go (n + 1) n ρ (Nat.lt_succ_self n) h⟩
end
end DL
namespace DL
open PySem L2
/-! ### how long a repr is -/
structure Fit (n k : Nat) (d : PyData) : Prop where
  dic : d.hasDict = false
  sh : d.showable = true
  len : d.shown.length ≤ n
  dep : d.depth ≤ k
theorem Fit.mono {n k n' k' : Nat} {d : PyData} (h : Fit n k d) (h1 : n ≤ n') (h2 : k ≤ k') : Fit n' k' d := ⟨h.dic, h.sh, Nat.le_trans h.len h1, Nat.le_trans h.dep h2⟩
theorem fit_none : Fit 4 0 .none := ⟨rfl, rfl, by decide, by decide⟩
theorem fit_bool {b : Bool} : Fit 5 0 (.bool b) := by cases b <;> exact ⟨rfl, rfl, by decide, by decide⟩
theorem fit_int {i : Int} {m : Nat} (h0 : 0 < m) (h1 : m ≤ 500) (h : i.natAbs < 10 ^ m) : Fit (m + 1) 0 (.int i) := by
  refine ⟨rfl, ?_, ?_, Nat.le_refl _⟩
  · simp only [PyData.showable, decide_eq_true_eq]
    by_cases hz : i.natAbs = 0
    · rw [hz]; decide
    · rw [Nat.log2_lt hz]
      refine Nat.lt_of_lt_of_le h (Nat.le_trans (Nat.pow_le_pow_right (by decide) h1) (by decide))
  · have := int_text_length_le10 h0 h
    show (Str.ofString (toString i)).length ≤ m + 1
    rw [ofString_length]
    exact this
theorem shownAll_len : ∀ {n k : Nat} {ds : List PyData}, (∀ d ∈ ds, Fit n k d) → piled (PyData.shownAll ds) ≤ ds.length * (n + 2)
  | _, _, [], _ => Nat.zero_le _
  | n, k, d :: ds, h => by
    have h1 := (h d List.mem_cons_self).len
    have h2 := shownAll_len fun x hx => h x (List.mem_cons_of_mem _ hx)
    show piled (d.shown :: PyData.shownAll ds) ≤ _
    rw [piled_cons, List.length_cons, Nat.succ_mul]
    omega
theorem shownAll_length : ∀ ds : List PyData, (PyData.shownAll ds).length = ds.length
  | [] => rfl
  | d :: ds => by show (d.shown :: PyData.shownAll ds).length = _; simp [shownAll_length ds]
theorem fit_all {n k : Nat} : ∀ {ds : List PyData}, (∀ d ∈ ds, Fit n k d) → PyData.hasDictAll ds = false ∧ PyData.showableAll ds = true ∧ PyData.depthAll ds ≤ k
  | [], _ => ⟨rfl, rfl, Nat.zero_le _⟩
  | d :: ds, h => by
    have h1 := h d List.mem_cons_self
    obtain ⟨e1, e2, e3⟩ := fit_all fun x hx => h x (List.mem_cons_of_mem _ hx)
    refine ⟨?_, ?_, ?_⟩
    · simp [PyData.hasDictAll, h1.dic, e1]
    · simp [PyData.showableAll, h1.sh, e2]
    · have := h1.dep
      simp [PyData.depthAll]
      omega
theorem textFrom_le : ∀ (ts : List Str) (k : Nat) (acc : Str), (textFrom k acc ts).length ≤ acc.length + piled ts
  | [], k, acc => by show acc.length ≤ _; omega
  | t :: ts, k, acc => by
    have ih := textFrom_le ts (k + 1) (acc ++ (if k > 0 then ", " else "" : String) ++ t)
    have e : (acc ++ (if k > 0 then ", " else "" : String) ++ t).length = acc.length + (if k > 0 then 2 else 0) + t.length := by
      rw [strLen_append, strLen_append]
      split <;> rfl
    rw [e] at ih
    rw [piled_cons]
    show (textFrom (k + 1) (acc ++ (if k > 0 then ", " else "" : String) ++ t) ts).length ≤ _
    have l2 : (if k > 0 then 2 else 0) ≤ 2 := by split <;> decide
    omega
theorem fit_lst {n k : Nat} {ds : List PyData} (h : ∀ d ∈ ds, Fit n k d) : Fit (ds.length * (n + 2) + 3) (k + 1) (.list ds) := by
  obtain ⟨e1, e2, e3⟩ := fit_all h
  refine ⟨by simpa [PyData.hasDict] using e1, by simpa [PyData.showable] using e2, ?_, by simp [PyData.depth]; omega⟩
  have h1 := shownAll_len h
  have h2 := textFrom_le (PyData.shownAll ds) 0 "["
  show (textFrom 0 "[" (PyData.shownAll ds) ++ "]").length ≤ _
  rw [strLen_append]
  have l1 : ((("[" : String) : Str)).length = 1 := rfl
  have l2 : ((("]" : String) : Str)).length = 1 := rfl
  omega
theorem fit_tup {n k : Nat} {ds : List PyData} (h : ∀ d ∈ ds, Fit n k d) : Fit (ds.length * (n + 2) + 3) (k + 1) (.tuple ds) := by
  obtain ⟨e1, e2, e3⟩ := fit_all h
  refine ⟨by simpa [PyData.hasDict] using e1, by simpa [PyData.showable] using e2, ?_, by simp [PyData.depth]; omega⟩
  have h1 := shownAll_len h
  show (("(" : Str) ++ Str.join ", " (PyData.shownAll ds) ++ (if (PyData.shownAll ds).length == 1 then ",)" else ")" : String)).length ≤ _
  rw [strLen_append, strLen_append]
  have l1 : ((("(" : String) : Str)).length = 1 := rfl
  have l3 : (((if (PyData.shownAll ds).length == 1 then ",)" else ")" : String) : Str)).length ≤ 2 := by split <;> decide
  have l2 : (Str.join ", " (PyData.shownAll ds)).length ≤ piled (PyData.shownAll ds) := by
    by_cases hz : PyData.shownAll ds = []
    · rw [hz]; decide
    · have := join_length_add _ hz
      omega
  omega
theorem Fit.ok {n k : Nat} {d : PyData} (h : Fit n k d) (h1 : n ≤ 16000000) (h2 : k ≤ 60) : reprOk d := by
  refine ⟨?_, h.sh, Nat.le_trans h.len (Nat.le_trans h1 (by decide)), Nat.le_trans h.dep h2⟩
  have := h.dic
  cases d with
  | dict kvs => cases this
  | _ => simp [noDic, this]
section
variable {E : DEnds} {ρ : DS} {T Ta Tb Tc : DTE} {i j l : Nat} {QD : SV → DS → Prop} {ys : List PyData}
theorem i_yes {QB : Bool → DS → Prop} (k : QB true ρ) : dYes ρ QB := k
theorem i_par (h : Ta ρ fun r1 ρ1 => ∃ s1 ρ1', sto1 ρ1 r1 = some (s1, ρ1') ∧ Tb ρ1' fun r2 ρ2 => ∃ s2 ρ3, sto1 ρ2 r2 = some (s2, ρ3) ∧ (i < ρ3.length ∧ j < ρ3.length) ∧ E.nx ((ρ3.set i (some s1)).set j (some s2))) : dPar i j Ta Tb E ρ := h
theorem i_par3 (h : Ta ρ fun r1 ρ1 => ∃ s1 ρ1', sto1 ρ1 r1 = some (s1, ρ1') ∧ Tb ρ1' fun r2 ρ2 => ∃ s2 ρ2', sto1 ρ2 r2 = some (s2, ρ2') ∧ Tc ρ2' fun r3 ρ3 => ∃ s3 ρ4, sto1 ρ3 r3 = some (s3, ρ4) ∧
  (i < ρ4.length ∧ j < ρ4.length ∧ l < ρ4.length) ∧ E.nx (((ρ4.set i (some s1)).set j (some s2)).set l (some s3))) : dPar3 i j l Ta Tb Tc E ρ := h
theorem i_app (h0 : ρ[i]? = some (some (.own ys))) (k : T ρ fun r ρ1 => ∃ d ρ2 xs, frz1 ρ1 r = some (.dat d, ρ2) ∧ ρ2[i]? = some (some (.own xs)) ∧ xs.length < sizeLine ∧ QD (.dat .none) (ρ2.set i (some (.own (xs ++ [d]))))) : dApp i T ρ QD := ⟨⟨ys, h0⟩, k⟩
theorem i_and2 {a b p : Prop} (h1 : a) (h2 : b) (k : p) : (a ∧ b) ∧ p := ⟨⟨h1, h2⟩, k⟩
theorem i_and3 {a b c p : Prop} (h1 : a) (h2 : b) (h3 : c) (k : p) : (a ∧ b ∧ c) ∧ p := ⟨⟨h1, h2, h3⟩, k⟩
end
theorem ofString_cp (x : String) : ∀ c ∈ (Str.ofString x).cps.toList, c < 16 ^ 8 := by
  rw [Str.ofString_eq_toList]
  intro c hc
  have hc' : c ∈ x.toList.map Char.toNat := by simpa using hc
  obtain ⟨ch, _, rfl⟩ := List.mem_map.mp hc'
  exact ch.val.toNat_lt
theorem fit_istr {i : Int} {m : Nat} (h0 : 0 < m) (h : i.natAbs < 10 ^ m) : Fit (10 * (m + 1) + 2) 0 (.str (toString i)) := by
  refine ⟨rfl, rfl, ?_, Nat.le_refl _⟩
  show (reprText (Str.ofString (toString i))).length ≤ _
  have h1 := PySem.StrLaws.reprText_len (Str.ofString (toString i)) (ofString_cp _)
  have h2 := int_text_length_le10 h0 h
  rw [ofString_length] at h1
  omega
theorem i_strN {G : SV → Prop} (k : G (.dat (.str "None"))) : g1 gStr [.none] G := k
theorem i_strI {G : SV → Prop} {i : Int} (k : G (.dat (.str (toString i)))) (h : i.natAbs.log2 < 1920) : g1 gStr [.int i] G := ⟨h, k⟩
end DL
namespace DL
open PySem L2
section
variable {G : SV → Prop} {p q : Prop} {xs : List PyData}
theorem i_ifD {a : Prop} [Decidable a] (h1 : a → p) (h2 : ¬ a → q) : if decide a = true then p else q := by
  by_cases h : a
  · rw [if_pos (decide_eq_true h)]; exact h1 h
  · rw [if_neg (by simpa using h)]; exact h2 h
theorem i_ifDN {a : Prop} [Decidable a] (h1 : ¬ a → p) (h2 : a → q) : if (!decide a) = true then p else q := by
  by_cases h : a
  · rw [if_neg (by simpa using h)]; exact h2 h
  · rw [if_pos (by simpa using h)]; exact h1 h
theorem i_ixP {k : Int} (h0 : 0 ≤ k) (hk : k < xs.length) (f : ∀ d, d ∈ xs → atI xs k = some d → G (.dat d)) : gIx (.tuple xs) (.int k) G := by
  obtain ⟨n, rfl⟩ := Int.eq_ofNat_of_zero_le h0
  have hn : n < xs.length := by omega
  exact ⟨xs[n], atI_nat (List.getElem?_eq_getElem hn), f _ (List.getElem_mem hn) (atI_nat (List.getElem?_eq_getElem hn))⟩
theorem cut_mem {lo hi : Option Int} {d : PyData} (h : d ∈ cutD xs lo hi) : d ∈ xs := List.mem_of_mem_drop (List.mem_of_mem_take h)
theorem cut_len {lo hi : Option Int} : (cutD xs lo hi).length ≤ xs.length := by
  unfold cutD
  rw [List.length_take, List.length_drop]
  omega
theorem eqvT0 : PyData.eqv (.tuple xs) (.tuple []) = xs.isEmpty := by cases xs <;> rfl
theorem i_mulT {k : Int} (k1 : G (.dat (.tuple (List.replicate k.toNat xs).flatten))) (h1 : 0 ≤ k) (h2 : k ≤ 1000) (h3 : xs.length ≤ 1000) : gMul (.tuple xs) (.int k) G := ⟨h1, h2, h3, k1⟩
theorem len_ok {n : Nat} (h : n ≤ 1000) : n ≤ sizeLine := Nat.le_trans h (by decide)
theorem len_lt {n : Nat} (h : n ≤ 1000) : n < sizeLine := Nat.lt_of_le_of_lt h (by decide)
theorem i_eqT0 (h : SeqAt.shaped (.tuple xs) = true) (k : G (.dat (.bool xs.isEmpty))) : gEq (.tuple xs) (.tuple []) G := ⟨.inl ⟨h, by decide +kernel⟩, by rw [eqvT0]; exact k⟩
theorem eqvL0 : PyData.eqv (.list xs) (.list []) = xs.isEmpty := by cases xs <;> rfl
theorem i_eqL0 (h : SeqAt.shaped (.list xs) = true) (k : G (.dat (.bool xs.isEmpty))) : gEq (.list xs) (.list []) G := ⟨.inl ⟨h, by decide +kernel⟩, by rw [eqvL0]; exact k⟩
theorem i_neL0 (h : SeqAt.shaped (.list xs) = true) (k : G (.dat (.bool !xs.isEmpty))) : gNe (.list xs) (.list []) G := ⟨.inl ⟨h, by decide +kernel⟩, by rw [eqvL0]; exact k⟩
theorem i_ifNE (h1 : xs ≠ [] → p) (h2 : xs = [] → q) : if (!xs.isEmpty) = true then p else q := by
  cases xs with
  | nil => exact h2 rfl
  | cons a r => exact h1 (List.cons_ne_nil _ _)
theorem i_setIx {i : Nat} {T Tk : DTE} {E : DEnds} {ρ : DS} (h : T ρ fun r ρ1 => ∃ d ρ2, frz1 ρ1 r = some (.dat d, ρ2) ∧ (∃ ys, ρ2[i]? = some (some (.own ys))) ∧ Tk ρ2 fun rk ρ3 => ∃ z j xs, lookD ρ3 rk = some (.int z) ∧ ρ3[i]? = some (some (.own xs)) ∧ ixN xs.length z = some j ∧ E.nx (ρ3.set i (some (.own (xs.set j d))))) : dSetIx i T Tk E ρ := h
theorem i_ifE (h1 : xs = [] → p) (h2 : xs ≠ [] → q) : if xs.isEmpty = true then p else q := by
  cases xs with
  | nil => exact h1 rfl
  | cons a r => exact h2 (List.cons_ne_nil _ _)
end
end DL
namespace DL
open PySem L2
section
variable {t u : DTS} {E : DEnds} {ρ : DS} {G : SV → Prop} {TA TK : DTA} {QD : SV → DS → Prop} {S : DSp} {np nk : Nat} {pm : List Nat}
theorem i_cut (P : DS → Prop) (h2 : ∀ ρ, P ρ → u E ρ) (h1 : ∀ N : DS → Prop, (∀ ρ, P ρ → N ρ) → t { E with nx := N } ρ) : dSeq t u E ρ := h1 _ h2
theorem eqvS (x : Str) : PyData.eqv (.str x) (.str x) = true := by simp [PyData.eqv]
theorem i_neS {x : Str} (k : G (.dat (.bool false))) : gNe (.str x) (.str x) G := ⟨.inr ⟨x, x, rfl, rfl⟩, by rw [eqvS]; exact k⟩
theorem i_eqS {x : Str} (k : G (.dat (.bool true))) : gEq (.str x) (.str x) G := ⟨.inr ⟨x, x, rfl, rfl⟩, by rw [eqvS]; exact k⟩
theorem i_andR {a b p : Prop} (h1 : a) (h2 : b) (k : p) : a ∧ b ∧ p := ⟨h1, h2, k⟩
theorem i_callK (h : TA ρ fun rs ρ1 => TK ρ1 fun ks ρ2 => rs.length = np ∧ ks.length = nk ∧ ∃ svs ρ3, frzAll ρ2 (rs ++ ks) = some (svs, ρ3) ∧ S (rearr pm svs) fun sv => QD sv ρ3) : dCallK np nk S pm TA TK ρ QD := h
end
end DL
namespace DL
open PySem L2 PySem.Spec PyProof.Rows
section
variable {X : Cx} {K : PySem.W.Frag} {a b c e : Expr} {Ta Tb Tc T : DTE} {ta tb tc te : TE} {pos : Pos}
/-! ### in, not in -/
def rInT (K : PySem.W.Frag) : R2 := fun x y H Q => ∃ d ds, Dp K H x d ∧ Dp K H y (.tuple ds) ∧ SeqAt.shaped d = true ∧ SeqAt.shaped (.tuple ds) = true ∧ Q (.bl (ds.any fun z => PyData.eqv z d)) H
def rNotInT (K : PySem.W.Frag) : R2 := fun x y H Q => ∃ d ds, Dp K H x d ∧ Dp K H y (.tuple ds) ∧ SeqAt.shaped d = true ∧ SeqAt.shaped (.tuple ds) = true ∧ Q (.bl (!ds.any fun z => PyData.eqv z d)) H
theorem op_inT (hu : X.A.units + 65 < cLine) : OpR X (compareOp .In) (rInT X.K) := by
  intro pins s σ H x y v u Q I rx ry h
  obtain ⟨d, ds, hd, he, sd, se, q⟩ := h
  obtain ⟨as, r1⟩ := Dp.reads I d x v hd rx
  obtain ⟨bs, r2⟩ := Dp.reads I (.tuple ds) y u he ry
  exact SeqAt.in_tuple_reads r2 r1 (SeqAt.canLay_of_shaped se) (SeqAt.canLay_of_shaped sd) (room_in_shaped sd hu) ⟨.bl _, H, I, rfl, q⟩
theorem op_notInT (hu : X.A.units + 65 < cLine) : OpR X (compareOp .NotIn) (rNotInT X.K) := by
  intro pins s σ H x y v u Q I rx ry h
  obtain ⟨d, ds, hd, he, sd, se, q⟩ := h
  obtain ⟨as, r1⟩ := Dp.reads I d x v hd rx
  obtain ⟨bs, r2⟩ := Dp.reads I (.tuple ds) y u he ry
  exact SeqAt.notIn_tuple_reads r2 r1 (SeqAt.canLay_of_shaped se) (SeqAt.canLay_of_shaped sd) (room_in_shaped sd hu) ⟨.bl _, H, I, rfl, q⟩
def rInX (K : PySem.W.Frag) : R2 := fun x y H Q => rInD K x y H Q ∨ rInT K x y H Q
def rNotInX (K : PySem.W.Frag) : R2 := fun x y H Q => rNotInD K x y H Q ∨ rNotInT K x y H Q
theorem op_inX (hu : X.A.units + 64 < cLine) (hu' : X.A.units + 65 < cLine) : OpR X (compareOp .In) (rInX X.K) := (op_inD hu').or (op_inT hu')
theorem op_notInX (hu : X.A.units + 64 < cLine) (hu' : X.A.units + 65 < cLine) : OpR X (compareOp .NotIn) (rNotInX X.K) := (op_notInD hu').or (op_notInT hu')
def gIn : G2
  | d, .list ds, G => SeqAt.shaped d = true ∧ SeqAt.shaped (.list ds) = true ∧ G (.dat (.bool (ds.any fun z => PyData.eqv z d)))
  | d, .tuple ds, G => SeqAt.shaped d = true ∧ SeqAt.shaped (.tuple ds) = true ∧ G (.dat (.bool (ds.any fun z => PyData.eqv z d)))
  | _, _, _ => False
def gNotIn : G2
  | d, .list ds, G => SeqAt.shaped d = true ∧ SeqAt.shaped (.list ds) = true ∧ G (.dat (.bool (!ds.any fun z => PyData.eqv z d)))
  | d, .tuple ds, G => SeqAt.shaped d = true ∧ SeqAt.shaped (.tuple ds) = true ∧ G (.dat (.bool (!ds.any fun z => PyData.eqv z d)))
  | _, _, _ => False
theorem od_in : OpD K (rInX K) gIn := OpD.pure fun Av H x y d e Q G h1 h2 hg k => by
  cases e <;> try exact hg.elim
  · exact .inl ⟨d, _, h1.toDp hg.1, h2.toDp hg.2.1, hg.1, hg.2.1, k _ _ hg.2.2 res_bl⟩
  · exact .inr ⟨d, _, h1.toDp hg.1, h2.toDp hg.2.1, hg.1, hg.2.1, k _ _ hg.2.2 res_bl⟩
theorem od_notin : OpD K (rNotInX K) gNotIn := OpD.pure fun Av H x y d e Q G h1 h2 hg k => by
  cases e <;> try exact hg.elim
  · exact .inl ⟨d, _, h1.toDp hg.1, h2.toDp hg.2.1, hg.1, hg.2.1, k _ _ hg.2.2 res_bl⟩
  · exact .inr ⟨d, _, h1.toDp hg.1, h2.toDp hg.2.1, hg.1, hg.2.1, k _ _ hg.2.2 res_bl⟩
end
end DL
namespace DL
open PySem L2 PySem.Spec PyProof.Rows
section
variable {X : Cx} {K : PySem.W.Frag}
/-! ### t.count(x) -/
theorem SqX.ty {pins : List (Addr × Obj)} {σ : L2.St} {H : Hp} {s : Shared} {p : Addr} {xs : List V} (I : Inv X pins σ H s) (h : SqX X.K H p xs) : s.TypeIs (.ref p) "tuple" ∧ ∀ a, Value.ref p = .ref a → ∃ ob, s.heap.get? a = some ob ∧ ob.dict = none := by
  rcases h with ⟨o, h, d⟩ | ⟨o, its, n, h, c, d, _⟩
  · obtain ⟨e, _, _, _, ob, e2, c, _⟩ := I.hok p _ h
    refine ⟨⟨ob, e2, c⟩, fun a z => ?_⟩
    cases z
    exact ⟨o, e, d⟩
  · refine ⟨⟨o, I.kIn p o h, c⟩, fun a z => ?_⟩
    cases z
    exact ⟨o, I.kIn _ o h, d⟩
def tTm (K : PySem.W.Frag) (r : V → List V → Hp → VK → Prop) (to : TE) (t : L2.TA) : TE := fun σ H Q => to σ H fun x H1 => (∃ p xs, x = .ref p ∧ SqX K H1 p xs) ∧ t σ H1 fun vs H2 => r x vs H2 Q
theorem pe_tm {o e : Expr} {es : List Expr} {to : TE} {t : L2.TA} {name : Str} {apos cpos : Pos} {id : String} {r : V → List V → Hp → VK → Prop} (slot : Slot "tuple" name id) (hty : typeOf (.builtin id) = pure (.type "method_descriptor")) (hm : MtR X id r) (ho : PE X o to) (ha : PA X (e :: es) t)
    (hbase : attributeBase o name X.env (eval o X.env) = eval o X.env := by rfl)
    (hfew : ((backTo cpos (starEach (e :: es) X.env)).all (fun x => !x.1) && (backToKw cpos (keywordEach [] X.env)).all (fun x => x.1.isSome) && decide ((e :: es).length + ([] : List Keyword).length + (if ([] : List Keyword).isEmpty then 0 else 1) < 30)) = true := by rfl)
    (hline : (apos.endLine == cpos.line) = true := by rfl) (hst : starEach (e :: es) X.env = (false, eval e X.env) :: starEach es X.env := by rfl) (hpl : (backTo cpos (starEach es X.env)).any (·.1) = false := by rfl) :
    PE X (.Call (.Attribute o name apos) (e :: es) [] cpos) (tTm X.K r to t) := by
  constructor
  intro pins s σ H Q I h
  refine wpAny_Call_method_late hbase hfew hline rfl (thn (ho.run pins s σ H _ I h) ?_)
  rintro v s1 ⟨x, H1, I1, r1, ⟨p, xs, rfl, hq⟩, q1⟩
  cases r1
  obtain ⟨h1, h2⟩ := hq.ty I1
  have hA := ha.run cpos pins s1 σ H1 _ I1 q1
  refine ⟨"tuple", id, PySem.F.plainAttrs_tuple, slot, hty, h1, h2, ?_⟩
  rw [hst] at hA ⊢
  have plain : (false || (backTo cpos (starEach es X.env)).any (·.1)) = false := by rw [hpl]; rfl
  refine Calls.callWith_builtin plain (Calls.evalArgs_plain (thn hA ?_))
  rintro us s2 ⟨vs, H2, I2, r2, q2⟩
  exact hm pins s2 σ H2 (.ref p) vs _ us Q I2 rfl r2 q2
def rCountT (K : PySem.W.Frag) : V → List V → Hp → VK → Prop := fun x vs H Q => ∃ y d ds, vs = [y] ∧ Dp K H x (.tuple ds) ∧ Dp K H y d ∧ SeqAt.shaped (.tuple ds) = true ∧ SeqAt.shaped d = true ∧ Q (.int ((ds.countP fun z => PyData.eqv z d : Nat) : Int)) H
theorem mt_countT (hu : X.A.units + 65 < cLine) : MtR X "tuple.count" (rCountT X.K) := by
  intro pins s σ H x vs v us Q I rx rv h
  obtain ⟨y, d, ds, rfl, hl, hy, sl, sd, q⟩ := h
  obtain ⟨u, rfl, ru⟩ := rv.one
  obtain ⟨bs, r1⟩ := Dp.reads I d y u hy ru
  obtain ⟨as, r2⟩ := Dp.reads I (.tuple ds) x v hl rx
  have lay := SeqAt.canLay_of_shaped sl
  cases r2 with
  | @tuple a o ws n _ _ h1 h2 h3 h4 =>
    obtain ⟨cls, dd, data, slots⟩ := o
    simp only at h2 h3
    subst h2 h3
    have hxs : PyData.canLayAll0 ds = true := by simpa only [PyData.canLay0] using lay
    have same : ws.toList.countP (fun y => PyData.eqv (SeqAt.readOf s.heap y) d) = ds.countP fun z => PyData.eqv z d := by
      rw [← SeqAt.readsAll_map ds ws.toList _ hxs h4, List.countP_map]
      rfl
    refine call_meets PySem.F.slot_tuple_count ⟨_, h1, rfl⟩ PySem.F.entry_tuple_count (PySem.F.args_tuple_count_2 _ _) (SeqAt.tuple_countAt a ws n dd slots u _) ⟨h1, SeqAt.items_eqAt h4 r1 hxs (SeqAt.canLay_of_shaped sd) (room_in_shaped sd hu), ?_⟩
    rw [same]
    exact ⟨.int _, H, I.tok _, ⟨_, rfl⟩, q⟩
/-- o.count(e) over data -/
def dCnt (To Ta : DTE) : DTE := fun ρ QD => To ρ fun r ρ1 => (∃ ds, lookD ρ1 r = some (.tuple ds)) ∧ Ta ρ1 fun r2 ρ2 => ∃ ds d, lookD ρ2 r = some (.tuple ds) ∧ lookD ρ2 r2 = some d ∧ SeqAt.shaped (.tuple ds) = true ∧ SeqAt.shaped d = true ∧ QD (.dat (.int ((ds.countP fun z => PyData.eqv z d : Nat) : Int))) ρ2
theorem de_cnt {o e : Expr} {To Ta : DTE} {to ta : TE} {apos pos : Pos} (hu : X.A.units + 65 < cLine) (ho : DE K X o to To) (ha : DE K X e ta Ta) (hK : X.K = K := by rfl)
    (hbase : attributeBase o "count" X.env (eval o X.env) = eval o X.env := by rfl)
    (hfew : ((backTo pos (starEach [e] X.env)).all (fun x => !x.1) && (backToKw pos (keywordEach [] X.env)).all (fun x => x.1.isSome) && decide ([e].length + ([] : List Keyword).length + (if ([] : List Keyword).isEmpty then 0 else 1) < 30)) = true := by rfl)
    (hline : (apos.endLine == pos.line) = true := by rfl) (hst : starEach [e] X.env = (false, eval e X.env) :: starEach [] X.env := by rfl) (hpl : (backTo pos (starEach [] X.env)).any (·.1) = false := by rfl) :
    DE K X (.Call (.Attribute o "count" apos) [e] [] pos) (tTm K (rCountT K) to (tCons ta tNil)) (dCnt To Ta) := by
  refine ⟨hK ▸ pe_tm PySem.F.slot_tuple_count PySem.F.type_tuple_count (mt_countT hu) ho.p (pa_cons ha.p pa_nil hst) hbase hfew hline hst hpl, ?_⟩
  intro F A σ H ρ Q QD hF R h k
  refine ho.s F A σ H ρ _ _ hF R h fun r ρ1 v H1 A1 h1 R1 t1 w1 => ?_
  obtain ⟨⟨ds0, e0⟩, h1⟩ := h1
  subst hF
  have dt0 := R1.look w1.rw e0
  refine ⟨?_, ?_⟩
  · obtain ⟨a, xs, e1, q, _⟩ := dast_tup dt0
    exact ⟨a, xs, e1, q⟩
  · refine ha.s F A1 σ H1 ρ1 _ _ rfl R1 h1 fun r2 ρ2 v2 H2 A2 h2 R2 t2 w2 => ?_
    obtain ⟨ds, d, e1, e2, s1, s2, h2⟩ := h2
    have d1 := R2.look (R1.rw t2 w1.rw) e1
    have d2 := R2.look w2.rw e2
    exact ⟨v2, d, ds, rfl, d1.toDp s1, d2.toDp s2, s1, s2, k _ _ _ H2 A2 h2 R2 (t1.trans t2) (by show Da _ _ _ _ _; simp only [Da])⟩
end
end DL
namespace DL
open PySem L2 PySem.Spec
section
variable {X : Cx} {K : PySem.W.Frag} {e : Expr} {T : DTE} {te : TE} {pos p : Pos} {TA : DTA} {ta : L2.TA}
/-! ### a = b = e; a += e -/
def dAsg2 (T : DTE) (g1 g2 : DTG) : DTS := fun E ρ => T ρ fun r ρ1 => ∃ d ρ2, frz1 ρ1 r = some (.dat d, ρ2) ∧ g1 d ρ2 fun ρ3 => g2 d ρ3 E.nx
theorem ds_asg2 {t1 t2 : Expr} {g1 g2 : DTG} {u1 u2 : TG} {is js : List Nat} (he : DE K X e te T) (h1 : DG false K X t1 u1 g1 is) (h2 : DG false K X t2 u2 g2 js)
    (ha : (assignEach [t1, t2] X.env).map (·.2) = [assign t1 X.env, assign t2 X.env] := by rfl) (hw : swappedStores [t1, t2] e X.env = pure none := by rfl) : DSt K X (.Assign [t1, t2] e pos) (tAsg2 te u1 u2) (dAsg2 T g1 g2) := by
  refine ⟨ps_asg2 he.p h1.p h2.p ha hw, ?_⟩
  intro F A σ H ρ D E hK R h k
  refine he.s F A σ H ρ _ _ hK R h fun r ρ' v H' A' h R t w => ?_
  obtain ⟨d, ρ2, e1, h⟩ := h
  obtain ⟨A2, R2, t2, w2, _⟩ := R.frz1 w.rw e1
  refine h1.s F A2 σ H' ρ2 v d _ (fun ρ3 => g2 d ρ3 E.nx) hK R2 (.inl w2) h fun ρ3 σ3 A3 q R3 t3 _ => ?_
  exact h2.s F A3 σ3 H' ρ3 v d _ _ hK R3 (.inl (R2.da t3 w2)) q fun ρ4 σ4 A4 q4 R4 t4 _ => k.1 _ _ _ _ q4 R4 (t.trans (t2.trans (t3.trans t4)))
abbrev gIAdd : G2 := gI0 fun i j => .int (i + j)
abbrev gISub : G2 := gI0 fun i j => .int (i - j)
theorem od_iadd : OpD K (rI0 fun i j => .int (i + j)) gIAdd := od_I0 fun _ _ _ _ => da_int
theorem od_isub : OpD K (rI0 fun i j => .int (i - j)) gISub := od_I0 fun _ _ _ _ => da_int
/-! ### a call that writes a list of its caller's: the last stage's place, or one more -/
def isStg : PyData → Prop
  | .tuple [.str _, .int _] => True
  | _ => False
def wordD : PyData → Str
  | .tuple (.str u :: _) => u
  | _ => ""
def mkStg (xs : List PyData) (w : Str) (n : Int) : List PyData := (if (xs.map wordD).getLast? = some w then xs.dropLast else xs) ++ [.tuple [.str w, .int n]]
/-- what it promises -/
def spMk (K : PySem.W.Frag) : Sp := fun vs H Q _ => ∃ (a : Addr) (w : Str) (n : Int) (ys : List V) (us : List Str), vs = [.ref a, .str w, .int n] ∧ H a = some (.lst ys) ∧ us.length = ys.length ∧
  (∀ (i : Nat) (y : V), ys[i]? = some y → ∃ p u m, us[i]? = some u ∧ y = V.ref p ∧ SqT K H p [.str u, .int m]) ∧ ys.length ≤ 1000 ∧
  ∀ p o, H p = none → o.dict = none → Q .non (upd (upd H p (.frz o (.tup [.str w, .int n]))) a (.lst ((if us.getLast? = some w then ys.dropLast else ys) ++ [V.ref p])))
def tMk (K : PySem.W.Frag) (t : L2.TA) : TE := fun σ H Q => t σ H fun vs H1 => spMk K vs H1 Q E0
def dMk (TA : DTA) : DTE := fun ρ QD => TA ρ fun rs ρ1 => ∃ i w n xs, rs = [.orf i, .dat (.str w), .dat (.int n)] ∧ ρ1[i]? = some (some (.own xs)) ∧ (∀ x ∈ xs, isStg x) ∧ xs.length ≤ 1000 ∧ QD (.dat .none) (ρ1.set i (some (.own (mkStg xs w n))))
theorem stg_inv {Av : Addr → Prop} {H : Hp} {d : PyData} {v : V} (s : isStg d) (h : Da K Av H d v) : ∃ p u m, d = .tuple [.str u, .int m] ∧ v = .ref p ∧ SqT K H p [.str u, .int m] := by
  match d, s with
  | .tuple [.str u, .int m], _ =>
    simp only [Da, Das] at h
    obtain ⟨a, xs, e, q, x, r, e2, h1, y, r', e3, h2, e4⟩ := h
    subst e4; subst h1; subst h2; subst e3; subst e2
    exact ⟨a, u, m, rfl, e, q.t⟩
theorem es_mk (s : AS K ta TA) : ES K (tMk K ta) (dMk TA) := by
  intro F A σ H ρ Q QD hK R h k
  subst hK
  refine s F A σ H ρ _ _ rfl R h fun rs ρ1 vs H1 A1 h1 R1 t1 w1 => ?_
  obtain ⟨i, w, n, xs, rfl, hx, hst, hlen, h1⟩ := h1
  obtain ⟨a, ys, q1, q2, q3, q4⟩ := R1.ownAt hx
  cases w1 with
  | cons v0 w1 =>
    cases w1 with
    | cons v1 w1 =>
      cases w1 with
      | cons v2 w1 =>
        cases w1
        rename_i x0 x1 x2
        have e0 : x0 = .ref a := by
          have h0 : σ[i]? = some (some x0) := v0
          rw [q2] at h0
          exact (Option.some.inj (Option.some.inj h0)).symm
        have e1 : x1 = .str w := by
          have h0 : Da F.K (AvC F A1) H1 (.str w) x1 := v1
          simpa only [Da] using h0
        have e2 : x2 = .int n := by
          have h0 : Da F.K (AvC F A1) H1 (.int n) x2 := v2
          simpa only [Da] using h0
        subst e0 e1 e2
        refine ⟨a, w, n, ys, xs.map wordD, rfl, q3, by rw [List.length_map, q4.length], fun j y hy => ?_, by rw [← q4.length]; exact hlen, fun p o hp hd => ?_⟩
        · obtain ⟨d, e3, e4⟩ := q4.getV hy
          obtain ⟨p, u, m, e5, e6, e7⟩ := stg_inv (hst d (List.mem_of_getElem? e3)) e4
          refine ⟨p, u, m, ?_, e6, e7⟩
          simp [e3, e5, wordD]
        have R2 := R1.same (sameUpd (u := .frz o (.tup [.str w, .int n])) hp)
        obtain ⟨a', ys', p1, p2, p3, p4⟩ := R2.ownAt hx
        rw [q2] at p2
        cases p2
        have pa : a ≠ p := fun z => by rw [← z, q3] at hp; cases hp
        have p3' : (upd H1 p (.frz o (.tup [.str w, .int n]))) a = some (.lst ys) := by rw [upd_ne pa]; exact q3
        rw [p3'] at p3
        cases p3
        have new : Da F.K (AvC F A1) (upd H1 p (.frz o (.tup [.str w, .int n]))) (.tuple [.str w, .int n]) (.ref p) := by
          simp only [Da, Das]
          exact ⟨p, _, rfl, SqX.new hd, _, _, rfl, rfl, _, _, rfl, rfl, rfl⟩
        have das : Das F.K (AvC F A1) (upd H1 p (.frz o (.tup [.str w, .int n]))) (mkStg xs w n) ((if (xs.map wordD).getLast? = some w then ys.dropLast else ys) ++ [V.ref p]) := by
          unfold mkStg
          refine Das.app ?_ (Das.cons new Das.nil)
          split
          · rw [List.dropLast_eq_take, List.dropLast_eq_take, p4.length]
            exact p4.take _
          · exact p4
        obtain ⟨R3, t3⟩ := R2.ownList p1 hx das
        exact k _ _ .non _ A1 h1 R3 (t1.trans ((sameTr (sameUpd hp)).trans t3)) (by show Da _ _ _ _ _; simp only [Da])
theorem de_mk {k : Nat} {ps : List Str} {x : Str} {es : List Expr} (C : Cal X.prog X.w X.K X.mg X.base k x ps (spMk K)) (hr : Room k X.A) (hgd : X.A.guards = some []) (ha : DA K X (e :: es) ta TA) (hK : X.K = K := by rfl) (hg : Gl X x := by rfl)
    (hdb : (x == ("__debug__" : Str)) = false := by decide) (he : starEach (e :: es) X.env = (false, eval e X.env) :: starEach es X.env := by rfl) (hpl : (backTo pos (starEach es X.env)).any (·.1) = false := by rfl) :
    DE K X (.Call (.Name x p) (e :: es) [] pos) (tMk K ta) (dMk TA) := by
  obtain ⟨f, fd, hm, hk, hb, G⟩ := C.ex
  exact ⟨pe_callG1 G hr hgd hg hm hk hb ha.p hdb he hpl, es_mk ha.s⟩
theorem units65 {k : Nat} {A : Around} (r : Room k A) : A.units + 65 < cLine := by have := r.un; omega
end
end DL
namespace DL
open PySem L2 PySem.Spec
section
variable {K : PySem.W.Frag} {X : Cx}
def gSorted : PyData → (SV → Prop) → Prop
  | .list ds, G => ∃ ns, intsOf ds = some ns ∧ ∀ ns' : List Int, ns'.Perm ns → ns'.Pairwise (· ≤ ·) → G (.own (ns'.map PyData.int))
  | _, _ => False
theorem cd_sorted : CalD K (rSortedI K) (g1 gSorted) := by
  intro Av H vs ds Q G mu h hg k
  obtain ⟨d, e0, hgg⟩ := g1_inv hg
  clear hg
  subst e0
  obtain ⟨v, e0, hh⟩ := dasT1 h
  clear h
  subst e0
  cases d <;> try exact hgg.elim
  obtain ⟨p, xs, e, q, d⟩ := hh
  obtain ⟨ns, e2, hgg⟩ := hgg
  have e3 := intsOf_das d e2
  subst e3
  exact ⟨p, ns, by rw [e], SqL.of q, fun ns' c h1 h2 hc => k _ _ _ (hgg ns' h1 h2) (sameUpd hc) (res_own hc Das.ints mu)⟩
def gMin1 : PyData → (SV → Prop) → Prop
  | .list ds, G => ∃ ns, intsOf ds = some ns ∧ ns ≠ [] ∧ ∀ m : Int, m ∈ ns → (∀ x ∈ ns, m ≤ x) → G (.dat (.int m))
  | _, _ => False
def gMax1 : PyData → (SV → Prop) → Prop
  | .list ds, G => ∃ ns, intsOf ds = some ns ∧ ns ≠ [] ∧ ∀ m : Int, m ∈ ns → (∀ x ∈ ns, x ≤ m) → G (.dat (.int m))
  | _, _ => False
theorem cd_min1 : CalD K (rMin K) (g1 gMin1) := by
  intro Av H vs ds Q G mu h hg k
  obtain ⟨d, e0, hgg⟩ := g1_inv hg
  clear hg
  subst e0
  obtain ⟨v, e0, hh⟩ := dasT1 h
  clear h
  subst e0
  cases d <;> try exact hgg.elim
  obtain ⟨p, xs, e, q, d⟩ := hh
  obtain ⟨ns, e2, hne, hgg⟩ := hgg
  have e3 := intsOf_das d e2
  subst e3
  exact ⟨p, ns, by rw [e], SqL.of q, List.length_pos_iff.mpr hne, fun m h1 h2 => k _ _ _ (hgg m h1 h2) (fun _ _ z => z) res_int⟩
theorem cd_max1 : CalD K (rMax K) (g1 gMax1) := by
  intro Av H vs ds Q G mu h hg k
  obtain ⟨d, e0, hgg⟩ := g1_inv hg
  clear hg
  subst e0
  obtain ⟨v, e0, hh⟩ := dasT1 h
  clear h
  subst e0
  cases d <;> try exact hgg.elim
  obtain ⟨p, xs, e, q, d⟩ := hh
  obtain ⟨ns, e2, hne, hgg⟩ := hgg
  have e3 := intsOf_das d e2
  subst e3
  exact ⟨p, ns, by rw [e], SqL.of q, List.length_pos_iff.mpr hne, fun m h1 h2 => k _ _ _ (hgg m h1 h2) (fun _ _ z => z) res_int⟩
/-! ### readings of these -/
variable {T Ta Tb To : DTE} {E : DEnds} {ρ : DS} {QD : SV → DS → Prop} {G : SV → Prop} {i : Nat} {d e : PyData} {ds xs : List PyData} {g1' g2' : DTG} {TA : DTA} {g : G2} {a b : Int}
theorem i_aug (h0 : ρ[i]? = some (some (.dat d))) (h : T ρ fun r ρ1 => ∃ e, lookD ρ1 r = some e ∧ i < ρ1.length ∧ g d e fun sv => ∃ sv' ρ2, sto1 ρ1 sv = some (sv', ρ2) ∧ E.nx (ρ2.set i (some sv'))) : dAug i g T E ρ := ⟨d, h0, h⟩
theorem i_iadd (k : G (.dat (.int (a + b)))) : gIAdd (.int a) (.int b) G := k
theorem i_isub (k : G (.dat (.int (a - b)))) : gISub (.int a) (.int b) G := k
theorem i_asg2 (h : T ρ fun r ρ1 => ∃ d ρ2, frz1 ρ1 r = some (.dat d, ρ2) ∧ g1' d ρ2 fun ρ3 => g2' d ρ3 E.nx) : dAsg2 T g1' g2' E ρ := h
theorem i_cnt (h : To ρ fun r ρ1 => (∃ ds, lookD ρ1 r = some (.tuple ds)) ∧ Ta ρ1 fun r2 ρ2 => ∃ ds d, lookD ρ2 r = some (.tuple ds) ∧ lookD ρ2 r2 = some d ∧ SeqAt.shaped (.tuple ds) = true ∧ SeqAt.shaped d = true ∧ QD (.dat (.int ((ds.countP fun z => PyData.eqv z d : Nat) : Int))) ρ2) : dCnt To Ta ρ QD := h
theorem i_mk (h : TA ρ fun rs ρ1 => ∃ i w n xs, rs = [.orf i, .dat (.str w), .dat (.int n)] ∧ ρ1[i]? = some (some (.own xs)) ∧ (∀ x ∈ xs, isStg x) ∧ xs.length ≤ 1000 ∧ QD (.dat .none) (ρ1.set i (some (.own (mkStg xs w n))))) : dMk TA ρ QD := h
theorem i_inT (k : G (.dat (.bool (ds.any fun z => PyData.eqv z d)))) (h1 : SeqAt.shaped d = true) (h2 : SeqAt.shaped (.tuple ds) = true) : gIn d (.tuple ds) G := ⟨h1, h2, k⟩
theorem i_notinT (k : G (.dat (.bool (!ds.any fun z => PyData.eqv z d)))) (h1 : SeqAt.shaped d = true) (h2 : SeqAt.shaped (.tuple ds) = true) : gNotIn d (.tuple ds) G := ⟨h1, h2, k⟩
theorem i_max2 (k : G (.dat (.int (if b > a then b else a)))) : g2 gMax [.int a, .int b] G := k
theorem i_min2 (k : G (.dat (.int (if b < a then b else a)))) : g2 gMin [.int a, .int b] G := k
end
end DL
namespace DL
open PySem L2 PySem.Spec
open PyProof.Rows (envOfC)
/-! ### what makes the draws: a def of the script -/
def cutZ (ns : List Int) (lo hi : Option Int) : List Int := (ns.drop (HT.sIx ns.length 0 lo)).take (HT.sIx ns.length ns.length hi - HT.sIx ns.length 0 lo)
theorem cutV_ints (ns : List Int) (lo hi : Option Int) : cutV (ns.map V.int) lo hi = (cutZ ns lo hi).map V.int := by
  simp [cutV, cutZ, List.map_take, List.map_drop]
section
variable {K : PySem.W.Frag} {X : Cx} {p p2 pos : Pos} {lo hi : Option Expr} {tl th : TO} {Tl Th : DTO}
theorem scr_at {F : Fx} {A : Own} {σ : St} {H : Hp} {ρ : DS} {a : Addr} {ns : List Int} (R : Rep F A σ H ρ) (h : ScrAt F a ns) : SqL F.K H a (ns.map V.int) := by
  rcases h with ⟨(h | ⟨o, h⟩) | h, n⟩ | (h | ⟨o, h⟩) | h
  · exact .inl (.inl (R.keep _ _ h n))
  · exact .inl (.inr ⟨o, R.keep _ _ h n⟩)
  · exact .inr h
  · cases h
  · cases h
  · exact .inr h
def dSlS (i : Nat) (Tl Th : DTO) : DTE := fun ρ QD => ∃ ns, ρ[i]? = some (some (.scr ns)) ∧ Tl ρ fun l ρ2 => Th ρ2 fun u ρ3 => QD (.own ((cutZ ns l u).map PyData.int)) ρ3
theorem es_slS {i : Nat} (sl : OSd K tl Tl) (sh : OSd K th Th) : ES K (L2.tSl (rSlD K) (tVar i) tl th) (dSlS i Tl Th) := by
  intro F A σ H ρ Q QD hK R h k
  obtain ⟨ns, e, h⟩ := h
  obtain ⟨v, e1, a, rfl, q⟩ := R.slot i _ e
  subst hK
  refine ⟨_, e1, sl F A σ H ρ _ _ rfl R h fun l ρ2 H2 A2 h2 R2 t2 => ?_⟩
  refine sh F A2 σ H2 ρ2 _ _ rfl R2 h2 fun u ρ3 H3 A3 h3 R3 t3 => ?_
  refine .inl ⟨a, _, rfl, scr_at R3 q, fun c hc => ?_⟩
  rw [cutV_ints]
  exact k _ _ _ _ A3 h3 (R3.same (sameUpd hc)) ((t2.trans t3).trans (sameTr (sameUpd hc))) ((R3.res (sameUpd hc) (res_own hc Das.ints R3.mu')).back (t2.trans t3).trk)
theorem de_slS {x : Str} (i : Nat) (hl : DO K X lo tl Tl) (hh : DO K X hi th Th) (hK : X.K = K := by rfl) (hN : X.N[i]? = some x := by rfl) (hv : Vis X.env.scope x := by first | exact Or.inl rfl | exact Or.inr (Or.inl rfl) | exact Or.inr (Or.inr rfl))
    (hd : (x == ("__debug__" : Str)) = false := by decide) (hcd : (x == ("__classdict__" : Str)) = false := by decide) : DE K X (.Subscript (.Name x p) (.Slice lo hi none p2) pos) (L2.tSl (rSlD K) (tVar i) tl th) (dSlS i Tl Th) :=
  ⟨pe_slice (hK ▸ sl_D) (pe_var hN hv hd hcd) hl.p hh.p, es_slS hl.s hh.s⟩
def dLenS (i : Nat) : DTE := fun ρ QD => ∃ ns, ρ[i]? = some (some (.scr ns)) ∧ QD (.dat (.int ns.length)) ρ
theorem de_lenS {x : Str} (i : Nat) (hm : X.mg "len" = none) (hg : Gl X "len" := by rfl) (hK : X.K = K := by rfl) (hN : X.N[i]? = some x := by rfl) (hv : Vis X.env.scope x := by first | exact Or.inl rfl | exact Or.inr (Or.inl rfl) | exact Or.inr (Or.inr rfl))
    (hd : (x == ("__debug__" : Str)) = false := by decide) (hcd : (x == ("__classdict__" : Str)) = false := by decide) (he : starEach [.Name x p2] X.env = (false, eval (.Name x p2) X.env) :: starEach [] X.env := by rfl)
    (hpl : (backTo pos (starEach [] X.env)).any (·.1) = false := by rfl) : DE K X (.Call (.Name "len" p) [.Name x p2] [] pos) (tCB (rLenD K) (tCons (tVar i) tNil)) (dLenS i) := by
  refine ⟨hK ▸ pe_callB call_lenD hg hm PySem.boot_len (pa_cons (pe_var hN hv hd hcd) pa_nil he) (by decide) (by decide) he hpl, fun F A σ H ρ Q QD hF R h k => ?_⟩
  obtain ⟨ns, e, h⟩ := h
  obtain ⟨v, e1, a, rfl, q⟩ := R.slot i _ e
  subst hF
  refine ⟨_, e1, .inl ⟨a, _, rfl, .inl (scr_at R q), ?_⟩⟩
  rw [List.length_map]
  exact k _ _ _ _ A h R .refl (by show Da _ _ _ _ _; simp only [Da])
/-- list(script) -/
def dLstS (i : Nat) : DTE := fun ρ QD => ∃ ns, ρ[i]? = some (some (.scr ns)) ∧ QD (.own (ns.map PyData.int)) ρ
theorem de_lstS {x : Str} (i : Nat) (hm : X.mg "list" = none) (hg : Gl X "list" := by rfl) (hK : X.K = K := by rfl) (hN : X.N[i]? = some x := by rfl) (hv : Vis X.env.scope x := by first | exact Or.inl rfl | exact Or.inr (Or.inl rfl) | exact Or.inr (Or.inr rfl))
    (hd : (x == ("__debug__" : Str)) = false := by decide) (hcd : (x == ("__classdict__" : Str)) = false := by decide) (he : starEach [.Name x p2] X.env = (false, eval (.Name x p2) X.env) :: starEach [] X.env := by rfl)
    (hpl : (backTo pos (starEach [] X.env)).any (·.1) = false := by rfl) : DE K X (.Call (.Name "list" p) [.Name x p2] [] pos) (tCB (rListD K) (tCons (tVar i) tNil)) (dLstS i) := by
  refine ⟨hK ▸ pe_callTy call_list_of hg hm (by decide +kernel) (pa_cons (pe_var hN hv hd hcd) pa_nil he) (by decide) (by decide) he hpl, fun F A σ H ρ Q QD hF R h k => ?_⟩
  obtain ⟨ns, e, h⟩ := h
  obtain ⟨v, e1, a, rfl, q⟩ := R.slot i _ e
  subst hF
  refine ⟨_, e1, a, _, rfl, .inl (scr_at R q), fun l hl => ?_⟩
  exact k _ _ _ _ A h (R.same (sameUpd hl)) (sameTr (sameUpd hl)) (R.res (sameUpd hl) (res_own hl Das.ints R.mu'))
end
/-- the draws are data of this form; so they are made -/
theorem okDeck {good : List PyData → Prop} (hgood : ∀ (K : PySem.W.Frag) (Av : Addr → Prop) (H : Hp) (a : Addr) (xs : List PyData) (vs : List V), good xs → H a = some (.lst vs) → Av a → Das K Av H xs vs → ∃ l, DkAt H a l)
    {P : Program} {w : World} {K : PySem.W.Frag} {mg : Str → Option Value} {base : Heap} {x qual : Str} {st : Stmt} {f : Addr} {fd : FuncData} {N0 : List Str} {k : Nat} {TB : DTS} (F : Fun K x qual st f fd) (S : FnScope ("script" :: N0) ["script"] (defScope st))
    (term : ∀ (cdv : Value) (A : Around) (outer : List Env) (s : Shared) (H : Hp) (E : XK), Room k (A.deeper (envOfC qual (defScope st) s.heap.objs.size f cdv)) → A.guards = some [] → ∃ tb, DSs K (cxOf CX0 P w K mg base ("script" :: N0) qual (defScope st) f cdv A outer s H E).nox (defBody st) tb TB)
    (spec : ∀ ns : List Int, ns.length ≤ 63 → TB { nx := fun _ => False, rt := fun r ρ => ∃ xs, relV ρ r = some (.own xs) ∧ good xs } (some (.scr ns) :: N0.map fun _ => none)) : FnG P w K mg base (k + 1) f fd ["script"] (spDeck K) := by
  refine okH F S (fun vs H Q E h => ?_) fun cdv A outer s H vs Q E hr hgd h => ?_
  · obtain ⟨_, _, h, _⟩ := h
    rw [h]; rfl
  obtain ⟨a, ns, rfl, hS, hlen, post⟩ := h
  obtain ⟨tb, tp, ts⟩ := term cdv A outer s H E hr hgd
  refine ⟨tb, tp, ?_⟩
  have R0 : Rep ⟨K, H, fun _ => False, none⟩ (fun _ => none) (L2.start ("script" :: N0) [V.ref a]) H (some (.scr ns) :: N0.map fun _ => none) := by
    refine ⟨by simp [L2.start], fun i sv e => ?_, (fun i a e => nomatch e), (fun i j a e => nomatch e), (fun i a e => nomatch e), fun b z => ?_, fun b o e _ => e, fun b z => ?_, fun a2 l2 e => nomatch e⟩
    · match i, e with
      | 0, e =>
        have e' : sv = .scr ns := (Option.some.inj (Option.some.inj e)).symm
        subst e'
        exact ⟨.ref a, rfl, a, rfl, .inl ⟨hS, fun ⟨_, _, z, _⟩ => nomatch z⟩⟩
      | i + 1, e =>
        have e2 : (N0.map fun _ => (none : Option SV))[i]? = some (some sv) := e
        rw [List.getElem?_map] at e2
        cases q : N0[i]? with
        | none => rw [q] at e2; cases e2
        | some x => rw [q] at e2; cases e2
    · rcases z with z | ⟨i, z⟩
      · exact z.elim
      · cases z
    · obtain ⟨_, _, z, _⟩ := z
      cases z
  refine ts ⟨K, H, fun _ => False, none⟩ (fun _ => none) _ H _ _ _ rfl R0 (spec ns hlen) ?_
  have fin : ∀ {A' : Own} {σ' : St} {H' : Hp} {ρ' : DS} {c : Addr} {xs : List PyData} {ws : List V} {Av : Addr → Prop}, Rep ⟨K, H, fun _ => False, none⟩ A' σ' H' ρ' → good xs → H' c = some (.lst ws) → Av c → Das K Av H' xs ws → Q (.ref c) H' := fun {A' σ' H' ρ' c xs ws Av} R' g hc hav hd => by
    obtain ⟨l, hk⟩ := hgood K _ H' c xs ws g hc hav hd
    exact post c l H' hk fun b o e => R'.keep b o e fun ⟨_, _, z, _⟩ => nomatch z
  refine ⟨fun _ _ _ _ z => z.elim, fun r ρ' v σ' H2 A' z R t w => ?_, fun _ _ _ _ z => z.elim, fun _ _ _ _ z => z.elim⟩
  obtain ⟨xs, e, g⟩ := z
  cases r with
  | dat d => simp [relV] at e
  | dk => simp [relV] at e
  | scr _ => simp [relV] at e
  | dct _ => simp [relV] at e
  | own ys =>
    have es : ys = xs := by simpa [relV] using e
    subst es
    obtain ⟨c, ws, rfl, _, _, _, q, hd, _⟩ := w
    exact fin R g q (.inl (.inr rfl)) hd
  | orf i =>
    have hv : σ'[i]? = some (some v) := w
    cases q : ρ'[i]? with
    | none => simp [relV, q] at e
    | some o =>
      cases o with
      | none => simp [relV, q] at e
      | some s0 =>
        cases s0 with
        | dat d => simp [relV, q] at e
        | dk => simp [relV, q] at e
        | scr _ => simp [relV, q] at e
        | dct _ => simp [relV, q] at e
        | orf j => simp [relV, q] at e
        | own ys =>
          have es : ys = xs := by simpa [relV, q] using e
          subst es
          obtain ⟨c, ws, q1, q2, q3, q4⟩ := R.ownAt q
          rw [hv] at q2
          cases q2
          exact fin R g q3 (.inr ⟨i, q1⟩) q4
section
variable {QD : SV → DS → Prop} {ρ : DS} {i : Nat} {Tl Th : DTO} {ns : List Int}
theorem i_slS (h : ρ[i]? = some (some (.scr ns))) (k : Tl ρ fun l ρ2 => Th ρ2 fun u ρ3 => QD (.own ((cutZ ns l u).map PyData.int)) ρ3) : dSlS i Tl Th ρ QD := ⟨ns, h, k⟩
theorem i_lenS (h : ρ[i]? = some (some (.scr ns))) (k : QD (.dat (.int ns.length)) ρ) : dLenS i ρ QD := ⟨ns, h, k⟩
theorem i_lstS (h : ρ[i]? = some (some (.scr ns))) (k : QD (.own (ns.map PyData.int)) ρ) : dLstS i ρ QD := ⟨ns, h, k⟩
end
end DL
namespace DL
open PySem L2
/-! ### a display stored under names, its own lists kept -/
def setL {α : Type} : List (Option α) → List Nat → List α → List (Option α)
  | ρ, i :: is, v :: vs => setL (ρ.set i (some v)) is vs
  | ρ, _, _ => ρ
def setR {α : Type} : List (Option α) → List Nat → List α → List (Option α)
  | ρ, i :: is, v :: vs => (setR ρ is vs).set i (some v)
  | ρ, _, _ => ρ
theorem setL_set {α : Type} : ∀ (is : List Nat) (vs : List α) (ρ : List (Option α)) (i : Nat) (v : Option α), i ∉ is → setL (ρ.set i v) is vs = (setL ρ is vs).set i v
  | [], vs, ρ, i, v, _ => by cases vs <;> rfl
  | j :: is, [], ρ, i, v, _ => rfl
  | j :: is, w :: vs, ρ, i, v, h => by
    show setL ((ρ.set i v).set j (some w)) is vs = (setL (ρ.set j (some w)) is vs).set i v
    rw [List.set_comm _ _ (fun z => h (by rw [z]; exact List.mem_cons_self)), setL_set is vs _ i v fun z => h (List.mem_cons_of_mem _ z)]
theorem setL_R {α : Type} : ∀ (is : List Nat) (vs : List α) (ρ : List (Option α)), is.Nodup → setL ρ is vs = setR ρ is vs
  | [], vs, ρ, _ => by cases vs <;> rfl
  | j :: is, [], ρ, _ => rfl
  | j :: is, w :: vs, ρ, h => by
    have h2 := List.nodup_cons.mp h
    show setL (ρ.set j (some w)) is vs = (setR ρ is vs).set j (some w)
    rw [setL_set is vs ρ j _ h2.1, setL_R is vs ρ h2.2]
theorem setR_len {α : Type} : ∀ (is : List Nat) (vs : List α) (ρ : List (Option α)), (setR ρ is vs).length = ρ.length
  | [], vs, ρ => by cases vs <;> rfl
  | j :: is, [], ρ => rfl
  | j :: is, w :: vs, ρ => by show ((setR ρ is vs).set j (some w)).length = _; rw [List.length_set, setR_len is vs ρ]
def HS (K : PySem.W.Frag) (t : TA) (T : DTA) : Prop := ∀ (F : Fx) (A : Own) (σ : St) (H : Hp) (ρ : DS) (Q : List V → Hp → Prop) (QD : List SV → DS → Prop), F.K = K → Rep F A σ H ρ → T ρ QD →
  (∀ svs ρ' vs H', QD svs ρ' → svs.length = vs.length →
    (∀ H2, Same H' H2 → ∀ is : List Nat, (∀ i ∈ is, i < ρ'.length) → is.length = vs.length → ∃ A4, Rep F A4 (setR σ is vs) H2 (setR ρ' is svs) ∧ Tr F A H A4 H2) → Q vs H') → t σ H Q
structure DH (K : PySem.W.Frag) (X : Cx) (es : List Expr) (t : TA) (T : DTA) : Prop where
  p : PA X es t
  s : HS K t T
section
variable {K : PySem.W.Frag} {X : Cx} {e : Expr} {es tgs : List Expr} {T : DTE} {t : TE} {TA : DTA} {ta : L2.TA} {pos p pt : Pos}
def hCons (T : DTE) (TA : DTA) : DTA := fun ρ Q => T ρ fun r ρ1 => ∃ s ρ2, sto1 ρ1 r = some (s, ρ2) ∧ TA ρ2 fun ss ρ3 => Q (s :: ss) ρ3
theorem dh_nil : DH K X [] tNil dNil := ⟨pa_nil, fun F A σ H ρ Q QD hK R h k => k _ _ _ H h rfl fun H2 s is _ hl => by
  cases is with
  | nil => exact ⟨A, R.same s, sameTr s⟩
  | cons i is => cases hl⟩
theorem dh_cons (he : DE K X e t T) (hr : DH K X es ta TA) (hs : starEach (e :: es) X.env = (false, eval e X.env) :: starEach es X.env := by rfl) : DH K X (e :: es) (tCons t ta) (hCons T TA) := by
  obtain ⟨pe, se⟩ := he
  obtain ⟨pr, sr⟩ := hr
  refine ⟨pa_cons pe pr hs, ?_⟩
  intro F A σ H ρ Q QD hK R h k
  refine se F A σ H ρ _ _ hK R h fun r ρ1 v H1 A1 h1 R1 t1 w1 => ?_
  obtain ⟨s1, ρ1', e1, h1⟩ := h1
  obtain ⟨F1, A1', R1', k1, d1, t1', hd1⟩ := R1.hold t1 w1 e1
  refine sr F1 A1' σ H1 ρ1' _ _ (k1.trans hK) R1' h1 fun svs ρ2 vs H2 q hl m => ?_
  refine k _ _ _ H2 q (by simp [hl]) fun H3 sm is hi hn => ?_
  cases is with
  | nil => cases hn
  | cons i is =>
    obtain ⟨A4, R4, t4⟩ := m H3 sm is (fun j z => hi j (List.mem_cons_of_mem _ z)) (by simpa using hn)
    have hd1' := hd1.tr R1' t4 R4
    obtain ⟨A5, R5, t5⟩ := hd1'.put R4 (t1'.trans (t4.cast d1)) (i := i) (by rw [setR_len]; exact hi i List.mem_cons_self)
    exact ⟨A5, R5, t5⟩
def gNs (is : List Nat) : TGs := is.foldr (fun i g => gCons (gName i) g) gNil
theorem gNs_run : ∀ (is : List Nat) (vs : List V) (σ : St) (H : Hp) (Q : St → Hp → Prop), vs.length = is.length → Q (setL σ is vs) H → gNs is vs σ H Q
  | [], [], σ, H, Q, _, h => ⟨rfl, h⟩
  | i :: is, v :: vs, σ, H, Q, hl, h => ⟨v, vs, rfl, gNs_run is vs _ H Q (by simpa using hl) h⟩
  | [], v :: vs, σ, H, Q, hl, h => by cases hl
  | i :: is, [], σ, H, Q, hl, h => by cases hl
/-- names = values -/
def dPn (is : List Nat) (TA : DTA) : DTS := fun E ρ => TA ρ fun svs ρ' => (svs.length = is.length ∧ ∀ i ∈ is, i < ρ'.length) ∧ E.nx (setL ρ' is svs)
theorem ss_parn {is : List Nat} {n : Nat} {gg : TGs} (hg : gg = gNs is) (hn : is.length = n) (hz : is.length ≤ sizeLine) (hd : is.Nodup) (s : HS K ta TA) : SS K (tAsg (tTupX ta) (gTup K n gg)) (dPn is TA) := by
  intro F A σ H ρ D E hK R h k
  subst hg
  refine s F A σ H ρ _ _ hK R h fun svs ρ' vs H' q hl m => ?_
  obtain ⟨⟨hl2, hi⟩, q⟩ := q
  refine ⟨by rw [← hl, hl2]; exact hz, fun p o nn dn => ?_⟩
  obtain ⟨A4, R4, t4⟩ := m _ (sameUpd nn) is hi (by rw [← hl2, hl])
  rw [← setL_R is _ _ hd, ← setL_R is _ _ hd] at R4
  refine ⟨p, vs, rfl, SqX.t (SqX.new dn), by rw [← hl, hl2, hn], gNs_run is vs _ _ _ (by rw [← hl, hl2]) (k.1 _ _ _ _ q R4 t4)⟩
theorem ds_parn (is : List Nat) {k2 : Nat} {pt2 : Pos} {n : Nat} {js : List Nat} {g : DTGs} {gg : TGs} (hc : X.calm = true) (h : DH K X es ta TA) (ht : DG false K X (.Tuple tgs k2 pt) (gTup K n gg) (gTu n g) js) (hg : gg = gNs is := by rfl) (hn : is.length = n := by rfl) (hz : is.length ≤ sizeLine := by decide) (hd : is.Nodup := by decide)
    {x1 : Nat} (hs : swapsWithSole [.Tuple tgs k2 pt] (.Tuple es x1 pt2) pos.line X.env = pure false := by rfl) (hw : swappedStores [.Tuple tgs k2 pt] (.Tuple es x1 pt2) X.env = pure none := by rfl)
    (h1 : (assignEach [.Tuple tgs k2 pt] X.env).map (·.2) = [assign (.Tuple tgs k2 pt) X.env] := by rfl) : DSt K X (.Assign [.Tuple tgs k2 pt] (.Tuple es x1 pt2) pos) (tAsg (tTupX ta) (gTup K n gg)) (dPn is TA) :=
  ⟨ps_asg (pe_tupX h.p) ht.p hs hw h1, ss_parn hg hn hz hd h.s⟩
theorem i_parn {is : List Nat} {E : DEnds} {ρ : DS} (h : TA ρ fun svs ρ' => (svs.length = is.length ∧ ∀ i ∈ is, i < ρ'.length) ∧ E.nx (setL ρ' is svs)) : dPn is TA E ρ := h
theorem i_hcons {ρ : DS} {Q : List SV → DS → Prop} (h : T ρ fun r ρ1 => ∃ s ρ2, sto1 ρ1 r = some (s, ρ2) ∧ TA ρ2 fun ss ρ3 => Q (s :: ss) ρ3) : hCons T TA ρ Q := h
end
end DL
namespace DL
open PySem L2 PySem.Spec PyProof.Rows
/-! ### xs[::-1], of a list and of a tuple -/
theorem revAdjust (n : Nat) : Builtin.Slice.sliceAdjust none none (-1) (n : Int) = ((n : Int) - 1, -1) := rfl
theorem revPlaces (n : Nat) : Builtin.Slice.slicePlaces ((n : Int) - 1) (-1) (-1) = n := by
  unfold Builtin.Slice.slicePlaces
  rw [if_neg (by decide)]
  split
  · simp
  · omega
theorem revPick (xs : Array Value) : ((List.range xs.size).filterMap fun (m : Nat) => xs[((xs.size : Int) - 1 + (m : Int) * (-1)).toNat]?).toArray = xs.toList.reverse.toArray := by
  have e : (List.range xs.size).filterMap (fun (m : Nat) => xs[((xs.size : Int) - 1 + (m : Int) * (-1)).toNat]?) = xs.toList.reverse := by
    have hl : xs.size = xs.toList.reverse.length := by simp
    have h : ∀ (k : Nat) (l : List Value), (∀ m, m < l.length → xs[((xs.size : Int) - 1 + ((k + m : Nat) : Int) * (-1)).toNat]? = l[m]?) → (List.range' k l.length).filterMap (fun (m : Nat) => xs[((xs.size : Int) - 1 + (m : Int) * (-1)).toNat]?) = l := fun k l h => by
      induction l generalizing k with
      | nil => rfl
      | cons a l ih =>
        rw [List.length_cons, List.range'_succ, List.filterMap_cons, show xs[((xs.size : Int) - 1 + (k : Int) * (-1)).toNat]? = some a from by simpa using h 0 (by simp)]
        show a :: _ = _
        rw [ih (k + 1) fun m hm => by have q := h (m + 1) (by simpa using hm); rw [show k + (m + 1) = k + 1 + m from by omega] at q; simpa using q]
    rw [List.range_eq_range', hl]
    rw [← hl]
    have := h 0 xs.toList.reverse fun m hm => by
      have hm' : m < xs.toList.length := by simpa using hm
      rw [List.getElem?_reverse hm']
      have e1 : ((xs.size : Int) - 1 + ((0 + m : Nat) : Int) * (-1)).toNat = xs.toList.length - 1 - m := by rw [Array.length_toList] at hm' ⊢; omega
      rw [e1, Array.getElem?_toList]
    rw [← hl] at this
    exact this
  rw [e]
section
variable {prog : Program} {w : World} {A : Around} {E : Value → Shared → Prop} {s : Shared}
theorem revApplied {sl : Addr} {vl vu vs : Value} {n : Nat} {Q : Int × Int × Nat → Shared → Prop} (hs : s.heap.IsSliceOf sl vl vu vs) (pl : IsPart vl none) (pu : IsPart vu none) (ps : IsPart vs (some (-1)))
    (h : Q ((n : Int) - 1, -1, n) s) : wpAny (model prog w) A (Builtin.Slice.sliceApplied (.ref sl) (pure (n : Int))) Q E s := by
  obtain ⟨os, h1, h2, h3⟩ := id hs
  unfold Builtin.Slice.sliceApplied Builtin.Slice.sliceFields
  refine wpAny_bind (wpAny_bind (wpAny_field h1 h3 (x := vl) rfl ?_))
  refine wpAny_bind (wpAny_field h1 h3 (x := vu) rfl ?_)
  refine wpAny_bind (wpAny_field h1 h3 (x := vs) rfl (wpAny_pure ?_))
  refine wpAny_bind (HT.slicePart_ ps ?_)
  show wpAny _ _ (if ((-1 : Int) == 0) = true then _ else _) _ _ s
  rw [if_neg (by decide)]
  refine wpAny_bind (HT.slicePart_ pl ?_)
  refine wpAny_bind (HT.slicePart_ pu ?_)
  refine wpAny_bind (wpAny_pure ?_)
  show wpAny _ _ (pure ((n : Int) - 1, (-1 : Int), Builtin.Slice.slicePlaces ((n : Int) - 1) (-1) (-1))) _ _ s
  rw [revPlaces]
  exact wpAny_pure h
theorem revTuple {t sl : Addr} {items : Array Value} {vl vu vs : Value} {Q : Value → Shared → Prop} (ht : PyProof.Rows.IsTup s.heap t items) (hs : s.heap.IsSliceOf sl vl vu vs) (pl : IsPart vl none) (pu : IsPart vu none) (ps : IsPart vs (some (-1)))
    (h : Q (.ref s.heap.objs.size) { s with heap := s.heap.push { cls := .type "tuple", data := .seq items.toList.reverse.toArray } }) (hsz : items.size ≤ sizeLine) : wpAny (model prog w) A (getItem (.ref t) (.ref sl)) Q E s := by
  obtain ⟨os, h1, h2, h3⟩ := id hs
  have ty : s.TypeIs (.ref sl) "slice" := ⟨os, h1, h2⟩
  have fits : sizeOk (.seq items.toList.reverse.toArray) := by
    show items.toList.reverse.toArray.size ≤ sizeLine
    rw [List.size_toArray, List.length_reverse, Array.length_toList]
    exact hsz
  unfold getItem
  try with_reducible refine wpAny_holding ?_
  first | refine wpAny_bind (wpAny_pure ?_) | skip
  refine wpAny_bind (wpAny_sequenceKey ht.typeIs (by decide) ?_)
  refine wpAny_bind (wpAny_callSpecial?_slot (name := Str.ofString "__getitem__") ht.typeIs slot_tuple_getitem (wpAny_call_entry slot_tuple_getitem ht.typeIs F.entry_tuple_getitem ?_ (F.args_tuple_getitem_2 _ _)))
  show wpAny _ _ (Builtin.Tuple.tupleItemsOf (.ref t) >>= _) _ _ s
  refine wpAny_bind (tupleItemsOf_ ht ?_)
  refine wpAny_bind (wpAny_typeOf ty ?_)
  rw [if_pos (by decide)]
  refine wpAny_bind (revApplied hs pl pu ps ?_)
  have no : ¬ (((items.size : Int) - 1 == 0 && (-1 : Int) == 1 && items.size == items.size) = true) := by
    rw [show ((-1 : Int) == 1) = false from rfl, Bool.and_false, Bool.false_and]
    decide
  show wpAny _ _ (if ((items.size : Int) - 1 == 0 && (-1 : Int) == 1 && items.size == items.size) = true then _ else _) _ _ s
  rw [if_neg no, revPick]
  first
    | exact wpAny_bind (m := Builtin.Tuple.tupleExact _) (wpAny_newObj_type (wpAny_pure ⟨_, rfl, wpAny_pure h⟩) fits)
    | exact wpAny_bind (m := Builtin.Tuple.tupleExact _) (wpAny_newObj_type (wpAny_bind (wpAny_pure (wpAny_pure ⟨_, rfl, wpAny_pure h⟩))) fits)
    | exact wpAny_bind (wpAny_bind (m := Builtin.Tuple.tupleExact _) (wpAny_newObj_type (wpAny_pure (wpAny_pure ⟨_, rfl, wpAny_pure h⟩)) fits))
    | exact wpAny_bind (wpAny_bind (m := Builtin.Tuple.tupleExact _) (wpAny_newObj_type (wpAny_pure ⟨_, rfl, wpAny_pure h⟩) fits))
end
def rRev (K : PySem.W.Frag) : V → Hp → VK → Prop := fun x H Q => ∃ a xs, x = .ref a ∧ ((SqL K H a xs ∧ ∀ p, H p = none → Q (.ref p) (upd H p (.lst xs.reverse))) ∨ (SqX K H a xs ∧ NewT H xs.reverse Q))
section
variable {X : Cx} {K : PySem.W.Frag} {e : Expr} {te : TE} {T : DTE} {k : Nat} {p1 p2 p3 pos : Pos}
theorem pe_rev (he : PE X e te) : PE X (.Subscript e (.Slice none none (some (.UnaryOp .USub (.Constant (.int 1) k p1) p2)) p3) pos) (fun σ H Q => te σ H fun v H1 => rRev X.K v H1 Q) := by
  refine ⟨fun pins s σ H Q I h => ?_⟩
  refine Subscript_ (thn (he.run pins s σ H _ I h) ?_)
  rintro v s1 ⟨x, H1, I1, r1, a, xs, rfl, q⟩
  cases r1
  have st : PO X (some (.UnaryOp .USub (.Constant (.int 1) k p1) p2)) (tPart (tUn (rU fun i => .int (-i)) (tC (.int 1)))) := po_some (pe_un un_neg pe_int)
  refine wpAny_Slice (thn (po_none.run pins s1 σ H1 (fun o H2 => o = none ∧ H2 = H1) I1 ⟨rfl, rfl⟩) ?_)
  rintro vl s2 ⟨l, H2, I2, pl, rfl, rfl⟩
  refine thn (po_none.run pins s2 σ H2 (fun o H3 => o = none ∧ H3 = H2) I2 ⟨rfl, rfl⟩) ?_
  rintro vu s3 ⟨u, H3, I3, pu, rfl, rfl⟩
  refine thn (st.run pins s3 σ H3 (fun o H4 => o = some (-1) ∧ H4 = H3) I3 ⟨1, rfl, -1, rfl, rfl, rfl⟩) ?_
  rintro vs s4 ⟨o, H4, I4, ps, rfl, rfl⟩
  have I5 : Inv X pins σ H4 { s4 with heap := s4.heap.push { cls := .type "slice", data := .fields #[vl, vu, vs] } } := I4.kept (t' := s4.toks) fun b ob q => Heap.get?_push_of_some _ q
  rcases q with ⟨hx, q⟩ | ⟨hx, q⟩
  · obtain ⟨its, r, ht, hz⟩ := I5.list hx
    show wpAny (model X.prog X.w) X.A (subscriptTail e (.Slice none none (some (.UnaryOp .USub (.Constant (.int 1) k p1) p2)) p3) (.ref a) (.ref s4.heap.objs.size))
      (EP X pins σ Q) X.xe { s4 with heap := s4.heap.push { cls := .type "slice", data := .fields #[vl, vu, vs] } }
    refine tail_any (ops := [.ref a, .ref s4.heap.objs.size]) ht.isList.typeIs PySem.slot_list_getitem.lookup ?_ (by with_unfolding_all rfl)
    refine wpAny_getItem_list_slice ht.isList (Heap.IsSliceOf.new _ vl vu vs) pl pu ps (by decide) ?_ (by rw [List.size_toArray]; have := r.length; omega)
    rw [PySem.W.krv_pick]
    refine ⟨.ref _, _, I5.laid (t' := s4.toks) (o := .lst xs.reverse) (fun b ob q => Heap.get?_push_of_some _ q) (Nat.le_refl _) ⟨by rw [List.length_reverse]; exact hz, _, 0, r.reverse, Heap.get?_push_size _ rfl⟩, rfl, q _ (I5.hok.fresh (Nat.le_refl _))⟩
  · obtain ⟨its, r, ht, hz⟩ := I5.tuple hx.t
    show wpAny (model X.prog X.w) X.A (subscriptTail e (.Slice none none (some (.UnaryOp .USub (.Constant (.int 1) k p1) p2)) p3) (.ref a) (.ref s4.heap.objs.size))
      (EP X pins σ Q) X.xe { s4 with heap := s4.heap.push { cls := .type "slice", data := .fields #[vl, vu, vs] } }
    refine tail_any (ops := [.ref a, .ref s4.heap.objs.size]) ht.typeIs slot_tuple_getitem.lookup ?_ (by with_unfolding_all rfl)
    refine revTuple ht (Heap.IsSliceOf.new _ vl vu vs) pl pu ps ?_ (by rw [List.size_toArray]; have := r.length; omega)
    exact newT_of (t' := s4.toks) I5 (by rw [List.length_reverse]; have := r.length; omega) r.reverse q
def gRev : GU := fun d G => match d with
  | .list xs => G (.own xs.reverse)
  | .tuple xs => G (.dat (.tuple xs.reverse))
  | _ => False
theorem Das.rev {Av : Addr → Prop} {H : Hp} : ∀ {ds : List PyData} {xs : List V}, Das K Av H ds xs → Das K Av H ds.reverse xs.reverse
  | [], xs, h => by simp only [Das] at h; subst h; exact Das.nil
  | d :: ds, xs, h => by
    simp only [Das] at h
    obtain ⟨x, r, rfl, h1, h2⟩ := h
    rw [List.reverse_cons, List.reverse_cons]
    exact Das.app (Das.rev h2) (Das.cons h1 Das.nil)
theorem ud_rev : UnD K (rRev K) gRev := by
  intro Av H v d Q G mu h hg q
  cases d with
  | list ds =>
    obtain ⟨a, xs, rfl, h1, h2⟩ := h
    exact ⟨a, xs, rfl, .inl ⟨SqL.of h1, fun p hp => q _ _ _ hg (sameUpd hp) (res_own hp h2.rev mu)⟩⟩
  | tuple ds =>
    obtain ⟨a, xs, rfl, h1, h2⟩ := dast_tup h
    exact ⟨a, xs, rfl, .inr ⟨h1, fun p o hp dn => q _ _ _ hg (sameUpd hp) (res_tup dn hp h2.rev mu)⟩⟩
  | _ => exact hg.elim
theorem de_rev (he : DE K X e te T) (hK : X.K = K := by rfl) : DE K X (.Subscript e (.Slice none none (some (.UnaryOp .USub (.Constant (.int 1) k p1) p2)) p3) pos) (fun σ H Q => te σ H fun v H1 => rRev X.K v H1 Q) (dUn gRev T) := by
  subst hK
  exact ⟨pe_rev he.p, es_un (r := rRev X.K) ud_rev he.s⟩
theorem i_rev {ρ : DS} {QD : SV → DS → Prop} (h : T ρ fun r ρ1 => ∃ d, lookD ρ1 r = some d ∧ gRev d fun sv => QD sv ρ1) : dUn gRev T ρ QD := h
theorem i_revL {xs : List PyData} {G : SV → Prop} (h : G (.own xs.reverse)) : gRev (.list xs) G := h
theorem i_revT {xs : List PyData} {G : SV → Prop} (h : G (.dat (.tuple xs.reverse))) : gRev (.tuple xs) G := h
end
/-! ### (f if c else g)(..) -/
section
variable {X : Cx} {K : PySem.W.Frag} {c e : Expr} {es : List Expr} {tc : TT} {C : DTT} {ta : L2.TA} {TA : DTA} {k1 k2 n m : Nat} {x y : Str} {ps qs : List Str} {S1 S2 : DSp} {p q r pos : Pos} {f g : Addr} {fd gd : FuncData} {sp1 sp2 : Sp}
theorem pe_callIf (hc : PT X c tc) (G1 : FnG X.prog X.w X.K X.mg X.base k1 f fd ps sp1) (G2 : FnG X.prog X.w X.K X.mg X.base k2 g gd qs sp2) (hr1 : Room k1 X.A) (hr2 : Room k2 X.A) (hgd : X.A.guards = some []) (hg1 : Gl X x) (hm1 : X.mg x = some (.ref f)) (hg2 : Gl X y) (hm2 : X.mg y = some (.ref g))
    (hk1 : PySem.W.keepIn X.K (.ref f) = true) (hk2 : PySem.W.keepIn X.K (.ref g) = true) (hb1 : Binds X.K fd ps []) (hb2 : Binds X.K gd qs []) (ha : PA X (e :: es) ta) (hd1 : (x == ("__debug__" : Str)) = false := by decide) (hd2 : (y == ("__debug__" : Str)) = false := by decide)
    (he : starEach (e :: es) X.env = (false, eval e X.env) :: starEach es X.env := by rfl) (hpl : (backTo pos (starEach es X.env)).any (·.1) = false := by rfl)
    (ht : eval (.Call (.IfExp c (.Name x p) (.Name y q) r) (e :: es) [] pos) X.env = (do callWith pos (← eval (.IfExp c (.Name x p) (.Name y q) r) X.env) [] (backTo pos (starEach (e :: es) X.env)) (backToKw pos (keywordEach [] X.env))) := by rfl) :
    PE X (.Call (.IfExp c (.Name x p) (.Name y q) r) (e :: es) [] pos) (fun σ H Q => tc σ H fun b H1 => if b = true then ta σ H1 (fun vs H2 => sp1 vs H2 Q E0) else ta σ H1 (fun vs H2 => sp2 vs H2 Q E0)) := by
  have hf : PE X (.Name x p) (tC (.ref f)) := pe_glob hg1 hm1 rfl hd1
  have hg : PE X (.Name y q) (tC (.ref g)) := pe_glob hg2 hm2 rfl hd2
  refine ⟨fun pins s σ H Q I h => Call_ (wpAny_IfExp (thn (hc.run pins s σ H _ I h) ?_)) ht⟩
  rintro b s1 ⟨H1, I1, h1⟩
  have run1 : ∀ s1 H1, Inv X pins σ H1 s1 → (ta σ H1 fun vs H2 => sp1 vs H2 Q E0) → wpAny (model X.prog X.w) X.A (callWith pos (.ref f) [] (backTo pos (starEach (e :: es) X.env)) (backToKw pos (keywordEach [] X.env))) (EP X pins σ Q) X.xe s1 := fun s1 H1 I1 h1 => by
    refine PySem.W.callWith_K (h₀ := X.base) I1.ok.mod.kin hk1 (thn (ha.run pos pins s1 σ H1 _ I1 h1) fun us s2 ⟨vs, H2, I2, r, q⟩ => ⟨I2.kIn, ?_⟩) he hpl
    have hl : us.length = ps.length := by rw [← r.length]; exact G1.len _ _ _ _ q
    exact run_fnG G1 hr1 hgd (by simpa using hb1 s2 us I2.kIn (by simpa using hl)) I2 r q
  have run2 : ∀ s1 H1, Inv X pins σ H1 s1 → (ta σ H1 fun vs H2 => sp2 vs H2 Q E0) → wpAny (model X.prog X.w) X.A (callWith pos (.ref g) [] (backTo pos (starEach (e :: es) X.env)) (backToKw pos (keywordEach [] X.env))) (EP X pins σ Q) X.xe s1 := fun s1 H1 I1 h1 => by
    refine PySem.W.callWith_K (h₀ := X.base) I1.ok.mod.kin hk2 (thn (ha.run pos pins s1 σ H1 _ I1 h1) fun us s2 ⟨vs, H2, I2, r, q⟩ => ⟨I2.kIn, ?_⟩) he hpl
    have hl : us.length = qs.length := by rw [← r.length]; exact G2.len _ _ _ _ q
    exact run_fnG G2 hr2 hgd (by simpa using hb2 s2 us I2.kIn (by simpa using hl)) I2 r q
  cases b with
  | true =>
    refine thn (hf.run pins s1 σ H1 (fun v H2 => v = .ref f ∧ ta σ H2 fun vs H3 => sp1 vs H3 Q E0) I1 ⟨rfl, h1⟩) ?_
    rintro u s2 ⟨v, H2, I2, rv, rfl, h2⟩
    obtain rfl : u = .ref f := rv
    exact run1 s2 H2 I2 h2
  | false =>
    refine thn (hg.run pins s1 σ H1 (fun v H2 => v = .ref g ∧ ta σ H2 fun vs H3 => sp2 vs H3 Q E0) I1 ⟨rfl, h1⟩) ?_
    rintro u s2 ⟨v, H2, I2, rv, rfl, h2⟩
    obtain rfl : u = .ref g := rv
    exact run2 s2 H2 I2 h2
def dCallIf (C : DTT) (S1 S2 : DSp) (TA : DTA) : DTE := fun ρ QD => C ρ fun b ρ1 => if b = true then dCall S1 TA ρ1 QD else dCall S2 TA ρ1 QD
theorem es_callIf (hc : TSd K tc C) (ha : AS K ta TA) (hn : ∀ svs G, S1 svs G → svs.length = n) (hm : ∀ svs G, S2 svs G → svs.length = m) : ES K (fun σ H Q => tc σ H fun b H1 => if b = true then tCallG K n S1 ta σ H1 Q else tCallG K m S2 ta σ H1 Q) (dCallIf C S1 S2 TA) := by
  intro F A σ H ρ Q QD hK R h k
  refine hc F A σ H ρ _ _ hK R h fun b ρ1 H1 A1 h1 R1 t1 => ?_
  have kk : ∀ r ρ' v H' A', QD r ρ' → Rep F A' σ H' ρ' → Tr F A1 H1 A' H' → RR F A' σ H1 H' ρ' v r → Q v H' := fun r ρ' v H' A' q R' t' w => k r ρ' v H' A' q R' (t1.trans t') (w.back t1.trk)
  cases b with
  | true => exact es_call ha hn F A1 σ H1 ρ1 Q QD hK R1 h1 kk
  | false => exact es_call ha hm F A1 σ H1 ρ1 Q QD hK R1 h1 kk
theorem de_fnIf (hc : DT K X c tc C) (C1 : Cal X.prog X.w X.K X.mg X.base k1 x ps (spD K n S1)) (C2 : Cal X.prog X.w X.K X.mg X.base k2 y qs (spD K m S2)) (hr1 : Room k1 X.A) (hr2 : Room k2 X.A) (hgd : X.A.guards = some []) (ha : DA K X (e :: es) ta TA) (hg1 : Gl X x := by rfl) (hg2 : Gl X y := by rfl)
    (hn : ∀ svs G, S1 svs G → svs.length = n := by exact fun _ _ h => h.1) (hm : ∀ svs G, S2 svs G → svs.length = m := by exact fun _ _ h => h.1) (hd1 : (x == ("__debug__" : Str)) = false := by decide) (hd2 : (y == ("__debug__" : Str)) = false := by decide)
    (he : starEach (e :: es) X.env = (false, eval e X.env) :: starEach es X.env := by rfl) (hpl : (backTo pos (starEach es X.env)).any (·.1) = false := by rfl)
    (ht : eval (.Call (.IfExp c (.Name x p) (.Name y q) r) (e :: es) [] pos) X.env = (do callWith pos (← eval (.IfExp c (.Name x p) (.Name y q) r) X.env) [] (backTo pos (starEach (e :: es) X.env)) (backToKw pos (keywordEach [] X.env))) := by rfl) :
    DE K X (.Call (.IfExp c (.Name x p) (.Name y q) r) (e :: es) [] pos) (fun σ H Q => tc σ H fun b H1 => if b = true then tCallG K n S1 ta σ H1 Q else tCallG K m S2 ta σ H1 Q) (dCallIf C S1 S2 TA) := by
  obtain ⟨f, fd, h1, h2, h3, G1⟩ := C1.ex
  obtain ⟨g, gd, h4, h5, h6, G2⟩ := C2.ex
  refine ⟨?_, es_callIf hc.s ha.s hn hm⟩
  have := pe_callIf hc.p G1 G2 hr1 hr2 hgd hg1 h1 hg2 h4 h2 h5 h3 h6 ha.p hd1 hd2 he hpl ht
  exact this
theorem i_callIf {ρ : DS} {QD : SV → DS → Prop} (h : C ρ fun b ρ1 => if b = true then dCall S1 TA ρ1 QD else dCall S2 TA ρ1 QD) : dCallIf C S1 S2 TA ρ QD := h
end
/-! ### a, b = a list -/
section
variable {X : Cx} {K : PySem.W.Frag} {es : List Expr} {g : DTGs} {gg : TGs} {n kk : Nat} {is : List Nat} {pos : Pos}
def gLi (n : Nat) (g : DTGs) : DTG := fun d ρ Q => ∃ ds, d = .list ds ∧ ds.length = n ∧ g ds ρ Q
theorem dg_lst (hc : X.calm = true) (h : DGs K X es gg g is) (hK : X.K = K := by rfl) (hn : (assignEach es X.env).length = n := by rfl) (hst : (assignEach es X.env).findIdx? (·.1) = none := by rfl) : DG false K X (.Tuple es kk pos) (gLst K n gg) (gLi n g) is := by
  refine ⟨hK ▸ pg_lst hc h.p hn hst, fun F A σ H ρ v d Q QD hK R hd q k => ?_⟩
  obtain ⟨ds, e, hl, q⟩ := q
  subst e
  have hd := hd.str
  simp only [Da] at hd
  obtain ⟨a, xs, e, na, q2, hd⟩ := hd
  exact ⟨a, xs, e, SqL.of q2, hd.length.symm.trans hl, h.s F A σ H ρ xs ds _ _ hK R hd q k⟩
theorem i_li {ds : List PyData} {ρ : DS} {Q : DS → Prop} (k : g ds ρ Q) (h : ds.length = n) : gLi n g (.list ds) ρ Q := ⟨ds, rfl, h, k⟩
end
end DL
/-! A dict of numbers under words, made of constants: a slot of its own. -/
namespace DL
open PySem L2 PySem.Spec
section
variable {F : Fx} {A : Own} {σ : St} {H : Hp} {ρ : DS}
/-- a name takes a new dict of its own -/
theorem Rep.setDct {kvs : List (Str × Int)} {a : Addr} (dv : ∀ b, isDk F.dk b → F.Av b) (R : Rep (F.plus a) A σ H ρ) {i : Nat} (hi : i < ρ.length) (h0 : F.H0 a = none) (na : ¬ AvC F A a) (q : H a = some (.dK (kvE kvs))) :
    Rep F (setA A i a) (σ.set i (some (.ref a))) H (ρ.set i (some (.dct kvs))) := by
  have hi' : i < σ.length := by rw [← R.len]; exact hi
  have av : ∀ b, AvC F (setA A i a) b → AvC (F.plus a) A b := fun b z => by
    rcases z with z | ⟨j, z⟩
    · exact .inl (.inl z)
    · unfold setA at z
      split at z
      · exact .inl (.inr (Option.some.inj z).symm)
      · exact .inr ⟨j, z⟩
  refine ⟨by simpa using R.len, fun j sv e => ?_, fun j b e => ?_, fun j k b e1 e2 => ?_, fun j b e => ?_, fun b z => R.mu b (av b z), R.keep, fun b k => ?_, R.deck⟩
  · by_cases hj : j = i
    · subst hj
      rw [List.getElem?_set_self hi] at e
      have e' : sv = .dct kvs := by simpa using e.symm
      subst e'
      exact ⟨.ref a, by rw [List.getElem?_set_self hi'], a, by unfold setA; rw [if_pos rfl], rfl, q⟩
    · rw [List.getElem?_set_ne (Ne.symm hj)] at e
      obtain ⟨w, e1, s⟩ := R.slot j sv e
      refine ⟨w, by rw [List.getElem?_set_ne (Ne.symm hj)]; exact e1, ?_⟩
      cases sv with
      | dat d => exact Da.anti av s
      | own ys =>
        obtain ⟨b, ws, q1, q2, q3, q4⟩ := s
        exact ⟨b, ws, by unfold setA; rw [if_neg hj]; exact q1, q2, q3, q4.anti av⟩
      | orf k => exact s
      | dk => exact s
      | scr ns => exact s
      | dct kvs =>
        obtain ⟨b, q1, q2, q3⟩ := s
        exact ⟨b, by unfold setA; rw [if_neg hj]; exact q1, q2, q3⟩
  · unfold setA at e
    split at e
    · rename_i hj
      subst hj
      exact ⟨.dct _, by rw [List.getElem?_set_self hi], trivial⟩
    · rename_i hj
      obtain ⟨ys, z, hz⟩ := R.ownA j b e
      exact ⟨ys, by rw [List.getElem?_set_ne (Ne.symm hj)]; exact z, hz⟩
  · unfold setA at e1 e2
    split at e1 <;> split at e2
    · rename_i h1 h2; rw [h1, h2]
    · exact absurd (.inr ⟨k, by rw [e2]; exact e1.symm⟩) na
    · exact absurd (.inr ⟨j, by rw [e1]; exact e2.symm⟩) na
    · exact R.inj j k b e1 e2
  · unfold setA at e
    split at e
    · have e' : a = b := Option.some.inj e
      subst e'
      exact ⟨h0, fun z => na (.inl z)⟩
    · exact ⟨(R.fresh j b e).1, fun z => (R.fresh j b e).2 (.inl z)⟩
  · exact dv b k

end
theorem Rep.dctPut {F : Fx} {A : Own} {σ : St} {H : Hp} {ρ : DS} {i : Nat} {a : Addr} {xs xs' : List (Str × Int)} (R : Rep F A σ H ρ) (hA : A i = some a) (hx : ρ[i]? = some (some (.dct xs))) :
    Rep F A σ (upd H a (.dK (kvE xs'))) (ρ.set i (some (.dct xs'))) ∧ Tr F A H A (upd H a (.dK (kvE xs'))) := by
  have st : Stp (AvC F A) H (upd H a (.dK (kvE xs'))) := fun b o e n => by
    rw [upd_ne (fun z => n (by rw [z]; exact .inr ⟨i, hA⟩))]
    exact e
  have hi : i < ρ.length := (List.getElem?_eq_some_iff.mp hx).1
  refine ⟨⟨by simpa using R.len, fun j sv e => ?_, fun j b e => ?_, R.inj, R.fresh, fun b z => ?_, fun b o e n => ?_, R.dav, fun c l e => ?_⟩, fun b o e n => ?_, fun j b e => .inl ⟨j, e⟩, fun b e => ?_⟩
  · by_cases hj : j = i
    · subst hj
      rw [List.getElem?_set_self hi] at e
      have e' : sv = .dct xs' := by simpa using e.symm
      subst e'
      obtain ⟨v, e1, a2, q1, q2, q3⟩ := R.slot j _ hx
      rw [hA] at q1
      cases q1
      exact ⟨v, e1, a, hA, q2, upd_same⟩
    · rw [List.getElem?_set_ne (Ne.symm hj)] at e
      obtain ⟨u, e1, q⟩ := R.slot j sv e
      refine ⟨u, e1, ?_⟩
      cases sv with
      | dat d => exact Da.stp R.mu' st d u q
      | own ys =>
        obtain ⟨b, vs, q1, q2, q3, q4⟩ := q
        have nb : b ≠ a := fun z => hj (R.inj j i a (by rw [q1, z]) hA)
        exact ⟨b, vs, q1, q2, by rw [upd_ne nb]; exact q3, Das.stp R.mu' st _ _ q4⟩
      | orf k => exact q
      | dk => exact q
      | scr ns => exact q
      | dct kvs =>
        obtain ⟨b, q1, q2, q3⟩ := q
        have nb : b ≠ a := fun z => hj (R.inj j i a (by rw [q1, z]) hA)
        exact ⟨b, q1, q2, by rw [upd_ne nb]; exact q3⟩
  · by_cases hj : j = i
    · subst hj
      exact ⟨.dct _, by rw [List.getElem?_set_self hi], trivial⟩
    · obtain ⟨ys, q, hq⟩ := R.ownA j b e
      exact ⟨ys, by rw [List.getElem?_set_ne (Ne.symm hj)]; exact q, hq⟩
  · by_cases hb : b = a
    · rw [hb, upd_same]; trivial
    · rw [upd_ne hb]; exact R.mu b z
  · have nb : b ≠ a := fun z => by rw [z, (R.fresh i a hA).1] at e; cases e
    rw [upd_ne nb]; exact R.keep b o e n
  · exact (R.deck c l e).st fun b o m h => by
      rw [upd_ne (fun z => (R.fresh i a hA).2 (R.dav a ⟨c, l, e, by rw [← z]; exact m⟩))]
      exact h
  · rw [upd_ne (fun z => n (by rw [z]; exact .inr ⟨i, hA⟩))]; exact e
  · by_cases hb : b = a
    · rw [hb, upd_same] at e; cases e
    · rw [upd_ne hb] at e; exact e
theorem Rep.dctAt {F : Fx} {A : Own} {σ : St} {H : Hp} {ρ : DS} {i : Nat} {kvs : List (Str × Int)} (R : Rep F A σ H ρ) (hx : ρ[i]? = some (some (.dct kvs))) : ∃ a, A i = some a ∧ σ[i]? = some (some (.ref a)) ∧ H a = some (.dK (kvE kvs)) := by
  obtain ⟨v, e1, a, q1, q2, q3⟩ := R.slot i _ hx
  subst q2
  exact ⟨a, q1, e1, q3⟩
def getW (kvs : List (Str × Int)) (w : Str) : Option Int := (kvs.find? fun p => decide (p.1 = w)).map (·.2)
def setW (kvs : List (Str × Int)) (w : Str) (n : Int) : List (Str × Int) := kvs.map fun p => if p.1 = w then (p.1, n) else p
theorem valV_E : ∀ (kvs : List (Str × Int)) (w : Str), valV (kvE kvs) (Sum.inr w : Key) = (getW kvs w).map V.int
  | [], w => rfl
  | p :: kvs, w => by
    show valV (((Sum.inr p.1 : Key), V.int p.2) :: kvE kvs) (Sum.inr w : Key) = _
    by_cases h : p.1 = w
    · rw [valV_pos (by show (Sum.inr p.1 : Key) = Sum.inr w; rw [h])]
      unfold getW
      rw [List.find?_cons, decide_eq_true h]
      rfl
    · rw [valV_neg (by show ¬ (Sum.inr p.1 : Key) = Sum.inr w; exact fun z => h (Sum.inr.inj z)), valV_E kvs w]
      unfold getW
      rw [List.find?_cons, decide_eq_false h]
theorem putK_E {kvs : List (Str × Int)} {w : Str} {n m : Int} (h : getW kvs w = some m) : putK (kvE kvs) (Sum.inr w : Key) (V.int n) = kvE (setW kvs w n) := by
  have e : ((kvE kvs).any fun kv => decide (kv.1 = (Sum.inr w : Key))) = true := by
    rw [valV_any, valV_E, h]
    rfl
  unfold putK
  rw [if_pos e]
  unfold kvE setW
  rw [List.map_map, List.map_map]
  congr 1
  funext p
  show (if (Sum.inr p.1 : Key) = Sum.inr w then ((Sum.inr p.1 : Key), V.int n) else ((Sum.inr p.1 : Key), V.int p.2)) = ((Sum.inr (if p.1 = w then (p.1, n) else p).1 : Key), V.int (if p.1 = w then (p.1, n) else p).2)
  by_cases h : p.1 = w
  · rw [if_pos (by rw [h]), if_pos h]
  · rw [if_neg (fun z => h (Sum.inr.inj z)), if_neg h]
section
variable {K : PySem.W.Frag} {X : Cx} {e kk : Expr} {T Tk : DTE} {te tk : TE} {pos p p1 p2 spos : Pos} {i : Nat}
/-- x = {k1: n1, k2: n2} -/
def dDct (i : Nat) (kvs : List (Str × Int)) : DTS := fun E ρ => i < ρ.length ∧ E.nx (ρ.set i (some (.dct kvs)))
theorem ss_dct {k1 k2 : Str} {n1 n2 : Int} (hm : mergeK [] [((Sum.inr k1 : Key), V.int n1), (Sum.inr k2, V.int n2)] = kvE [(k1, n1), (k2, n2)]) : SS K (tAsg (tDisp [(tC (.str k1), tC (.int n1)), (tC (.str k2), tC (.int n2))]) (gName i)) (dDct i [(k1, n1), (k2, n2)]) := by
  intro F A σ H ρ D E hK R h k
  obtain ⟨hi, h⟩ := h
  intro d hd
  refine ⟨upd_same, [((Sum.inr k1 : Key), V.int n1), (Sum.inr k2, V.int n2)], rfl, by show 2 ≤ 15; decide, ?_⟩
  rw [hm]
  have s : Same H (upd (upd H d (.dK [])) d (.dK (kvE [(k1, n1), (k2, n2)]))) := fun b o eb => by
    have nb : b ≠ d := fun z => by rw [z, hd] at eb; cases eb
    rw [upd_ne nb, upd_ne nb]
    exact eb
  have q : (upd (upd H d (.dK [])) d (.dK (kvE [(k1, n1), (k2, n2)]))) d = some (.dK (kvE [(k1, n1), (k2, n2)])) := upd_same
  have R1 := R.grow hd s (by rw [q]; trivial)
  exact k.1 _ _ _ (setA A i d) h (Rep.setDct R.dav R1 hi (R.new0 hd) (R.notin hd) q) ⟨fun b o eb _ => s b o eb, fun j b z => by
    unfold setA at z
    split at z
    · exact .inr (by rw [← Option.some.inj z]; exact hd)
    · exact .inl ⟨j, z⟩, sameTrk s⟩
theorem ds_dct {x k1 k2 : Str} {n1 n2 : Int} {y1 y2 y3 y4 : Nat} {q1 q2 q3 q4 : Pos} (i : Nat) (hN : X.N.Nodup) (hi : X.N[i]? = some x := by rfl) (hx : Loc X.env.scope x := by first | exact Or.inl rfl | exact Or.inr rfl)
    (hm : mergeK [] [((Sum.inr k1 : Key), V.int n1), (Sum.inr k2, V.int n2)] = kvE [(k1, n1), (k2, n2)] := by rfl)
    (hs : swapsWith (.Dict [some (.Constant (.str k1) y1 q1), some (.Constant (.str k2) y2 q2)] [.Constant (.int n1) y3 q3, .Constant (.int n2) y4 q4] p2) (some (.Name x p1)) pos.line X.env = pure false := by rfl)
    (hf : X.fn x = true ∨ X.env.scope.names.lookup x = some .local := by first | exact Or.inr rfl | exact Or.inl rfl) :
    DSt K X (.Assign [.Name x p1] (.Dict [some (.Constant (.str k1) y1 q1), some (.Constant (.str k2) y2 q2)] [.Constant (.int n1) y3 q3, .Constant (.int n2) y4 q4] p2) pos) (tAsg (tDisp [(tC (.str k1), tC (.int n1)), (tC (.str k2), tC (.int n2))]) (gName i)) (dDct i [(k1, n1), (k2, n2)]) :=
  ⟨ps_set hN hi hx (pe_disp (pps_cons pe_str pe_int (pps_cons pe_str pe_int pps_nil)) rfl rfl (fun z => by cases z) (by show 2 ≤ 15; decide)) hs hf, ss_dct hm⟩
/-- x[e], x a dict of numbers -/
def dDg (i : Nat) (T : DTE) : DTE := fun ρ QD => (∃ kvs, ρ[i]? = some (some (.dct kvs))) ∧ T ρ fun r ρ1 => ∃ w kvs n, lookD ρ1 r = some (.str w) ∧ ρ1[i]? = some (some (.dct kvs)) ∧ getW kvs w = some n ∧ QD (.dat (.int n)) ρ1
theorem es_dg (s : ES K te T) : ES K (tDGet (tVar i) te) (dDg i T) := by
  intro F A σ H ρ Q QD hK R h k
  obtain ⟨⟨kvs, h0⟩, h⟩ := h
  obtain ⟨a, q1, q2, q3⟩ := R.dctAt h0
  refine ⟨.ref a, q2, ?_⟩
  refine s F A σ H ρ _ _ hK R h fun r ρ1 v H1 A1 h1 R1 t1 w1 => ?_
  obtain ⟨w, kvs1, n, e1, e2, e3, h2⟩ := h1
  obtain ⟨a', p1, p2, p3⟩ := R1.dctAt e2
  rw [q2] at p2
  cases p2
  have hw : v = .str w := dast_str (R1.look w1.rw e1)
  subst hw
  have g := DGet.k (k := (Sum.inr w : Key)) p3
  rw [valV_E, e3] at g
  exact ⟨a, .int n, rfl, g, k _ _ _ _ A1 h2 R1 t1 (by show Da _ _ _ _ _; simp only [Da])⟩
theorem de_dg {x : Str} (i : Nat) (hu : X.A.units + 1 < cLine) (he : DE K X e te T) (hN : X.N[i]? = some x := by rfl) (hv : Vis X.env.scope x := by first | exact Or.inl rfl | exact Or.inr (Or.inl rfl) | exact Or.inr (Or.inr rfl)) (hd : (x == ("__debug__" : Str)) = false := by decide) (hcd : (x == ("__classdict__" : Str)) = false := by decide)
    (hsl : NoSl e := by intro _ _; rfl) : DE K X (.Subscript (.Name x p) e pos) (tDGet (tVar i) te) (dDg i T) := ⟨pe_dget hu (pe_var hN hv hd hcd) he.p hsl, es_dg he.s⟩
/-- x[k] = e, x a dict of numbers that has k -/
def dDp (i : Nat) (Tk T : DTE) : DTS := fun E ρ => T ρ fun r ρ1 => ∃ n, lookD ρ1 r = some (.int n) ∧ (∃ kvs, ρ1[i]? = some (some (.dct kvs))) ∧ Tk ρ1 fun rk ρ2 => ∃ w kvs m, lookD ρ2 rk = some (.str w) ∧ ρ2[i]? = some (some (.dct kvs)) ∧ getW kvs w = some m ∧ kvs.length < sizeLine ∧ E.nx (ρ2.set i (some (.dct (setW kvs w n))))
theorem ss_dp (s : ES K te T) (sk : ES K tk Tk) : SS K (sDPut (tVar i) tk te) (dDp i Tk T) := by
  intro F A σ H ρ D E hK R h k
  refine s F A σ H ρ _ _ hK R h fun r ρ1 v H1 A1 h1 R1 t1 w1 => ?_
  obtain ⟨n, e1, ⟨kvs0, e2⟩, h2⟩ := h1
  have hv : v = .int n := dast_int (R1.look w1.rw e1)
  subst hv
  obtain ⟨a, q1, q2, q3⟩ := R1.dctAt e2
  refine ⟨.ref a, q2, sk F A1 σ H1 ρ1 _ _ hK R1 h2 fun rk ρ2 vk H2 A2 h3 R2 t2 w2 => ?_⟩
  obtain ⟨w, kvs, m, e3, e4, e5, hl, h3⟩ := h3
  obtain ⟨a', p1, p2, p3⟩ := R2.dctAt e4
  rw [q2] at p2
  cases p2
  have hw : vk = .str w := dast_str (R2.look w2.rw e3)
  subst hw
  obtain ⟨R3, t3⟩ := R2.dctPut (xs' := setW kvs w n) p1 e4
  have g := DPut.k (k := (Sum.inr w : Key)) (v := V.int n) p3 (by unfold kvE; rw [List.length_map]; exact hl)
  rw [putK_E e5] at g
  exact ⟨a, _, rfl, g, k.1 _ _ _ A2 h3 R3 (t1.trans (t2.trans t3))⟩
theorem ds_dp {x : Str} (i : Nat) (hu : X.A.units + 1 < cLine) (he : DE K X e te T) (hk : DE K X kk tk Tk) (hN : X.N[i]? = some x := by rfl) (hv : Vis X.env.scope x := by first | exact Or.inl rfl | exact Or.inr (Or.inl rfl) | exact Or.inr (Or.inr rfl)) (hd : (x == ("__debug__" : Str)) = false := by decide) (hcd : (x == ("__classdict__" : Str)) = false := by decide)
    (hs : swapsWith e (some (.Subscript (.Name x p) kk spos)) pos.line X.env = pure false := by rfl) :
    DSt K X (.Assign [.Subscript (.Name x p) kk spos] e pos) (sDPut (tVar i) tk te) (dDp i Tk T) := ⟨ps_dput hu (pe_var hN hv hd hcd) hk.p he.p hs, ss_dp he.s hk.s⟩
end
section
variable {T Tk : DTE} {E : DEnds} {ρ : DS} {QD : SV → DS → Prop} {i : Nat} {kvs : List (Str × Int)}
theorem i_dct (k : E.nx (ρ.set i (some (.dct kvs)))) (h : i < ρ.length) : dDct i kvs E ρ := ⟨h, k⟩
theorem i_dg (h0 : ρ[i]? = some (some (.dct kvs))) (h : T ρ fun r ρ1 => ∃ w kvs n, lookD ρ1 r = some (.str w) ∧ ρ1[i]? = some (some (.dct kvs)) ∧ getW kvs w = some n ∧ QD (.dat (.int n)) ρ1) : dDg i T ρ QD := ⟨⟨kvs, h0⟩, h⟩
theorem i_dp (h : T ρ fun r ρ1 => ∃ n, lookD ρ1 r = some (.int n) ∧ (∃ kvs, ρ1[i]? = some (some (.dct kvs))) ∧ Tk ρ1 fun rk ρ2 => ∃ w kvs m, lookD ρ2 rk = some (.str w) ∧ ρ2[i]? = some (some (.dct kvs)) ∧ getW kvs w = some m ∧ kvs.length < sizeLine ∧ E.nx (ρ2.set i (some (.dct (setW kvs w n))))) : dDp i Tk T E ρ := h
end
end DL
/-! divmod of whole numbers -/
namespace DL
open PySem L2 PySem.Spec PyProof.Rows
section
variable {X : Cx} {K : PySem.W.Frag} {G : SV → Prop} {i j : Int}
abbrev rDm : List V → Hp → VK → Prop := fun xs H Q => ∃ i j, xs = [.int i, .int j] ∧ CDivW i j ∧ NewT H [.int (i / j), .int (i % j)] Q
theorem call_divmodX : CallR X (.builtin "divmod") rDm := by
  intro pins s σ H xs us Q I r h
  obtain ⟨i, j, rfl, hc, q⟩ := h
  obtain ⟨u, w', rfl, ⟨t, rfl⟩, ⟨t', rfl⟩⟩ := vals2 r
  have h1 : (0 : Int) < j := hc.1
  refine divmod_int (by omega) ?_ (.inl (PyProof.noPylong_of_log2 hc.2))
  rw [Int.fdiv_eq_ediv_of_nonneg i (by omega), Int.fmod_eq_emod_of_nonneg i (by omega)]
  exact newT_of (xs := [.int (i / j), .int (i % j)]) (its := [.int (i / j) s.toks, .int (i % j) (s.toks + 1)]) I (by simp only [List.length_cons, List.length_nil]; rw [sizeLine_eq]; decide) (.cons ⟨_, rfl⟩ (.cons ⟨_, rfl⟩ .nil)) q
def gDm : G2 := fun d e G => match d, e with
  | .int i, .int j => CDivW i j ∧ G (.dat (.tuple [.int (i / j), .int (i % j)]))
  | _, _ => False
theorem cd_dm : CalD K rDm (g2 gDm) := by
  intro Av H vs ds Q G mu h hg k
  obtain ⟨d, e, e0, hgg⟩ := g2_inv hg
  clear hg
  subst e0
  obtain ⟨v, w, e0, h1, h2⟩ := dasT2 h
  clear h
  subst e0
  cases d <;> try exact hgg.elim
  cases e <;> try exact hgg.elim
  rename_i i j
  obtain ⟨c, hgg⟩ := hgg
  have e1 := dast_int h1
  have e2 := dast_int h2
  subst e1 e2
  refine ⟨i, j, rfl, c, fun p o hc dn => k _ _ _ hgg (sameUpd hc) (res_tup dn hc ?_ mu)⟩
  simp only [Das, Da]
  exact ⟨_, _, rfl, rfl, _, _, rfl, rfl, rfl⟩
theorem i_dm (h : CDivW i j) (k : G (.dat (.tuple [.int (i / j), .int (i % j)]))) : g2 gDm [.int i, .int j] G := ⟨h, k⟩
end
end DL
/-! for k, v in x: t[k] = v; x a list of its own that stays so, t a dict of numbers -/
namespace DL
open PySem L2 PySem.Spec
section
variable {K : PySem.W.Frag} {X : Cx} {pos p1 p2 p3 p4 p5 p6 p7 : Pos}
def forP (i j l m : Nat) (xs : List PyData) (E : DEnds) : List PyData → DS → Prop
  | [], ρ => E.nx ρ
  | d :: ds, ρ => ∃ w n kvs mm, d = .tuple [.str w, .int n] ∧ ρ[m]? = some (some (.dct kvs)) ∧ getW kvs w = some mm ∧ kvs.length < sizeLine ∧
    forP i j l m xs E ds (((ρ.set j (some (.dat (.str w)))).set l (some (.dat (.int n)))).set m (some (.dct (setW kvs w n))))
def dForP (i j l m : Nat) : DTS := fun E ρ => ∃ xs, ρ[i]? = some (some (.own xs)) ∧ j < ρ.length ∧ l < ρ.length ∧ forP i j l m xs E xs ρ
theorem ss_forP {gg : TG} {i j l m : Nat} {is : List Nat} (sg : GS false K gg (gTu 2 (gCons' (gNm j) (gCons' (gNm l) gNil'))) is) (his : ∀ b ∈ is, b = j ∨ b = l) (hj : i ≠ j) (hl : i ≠ l) (hm : i ≠ m) (hmj : m ≠ j) (hml : m ≠ l) (hjl : j ≠ l) :
    SS K (tFor (iSeq K (tVar i)) gg (sDPut (tVar m) (tVar j) (tVar l))) (dForP i j l m) := by
  intro F A σ H ρ D E hK R h k
  obtain ⟨xs, h0, lj, ll, h⟩ := h
  obtain ⟨a, vs, q1, q2, q3, q4⟩ := R.ownAt h0
  refine ⟨.ref a, q2, .inl ⟨a, rfl, ⟨vs, SqL.of q3⟩, ?_⟩⟩
  refine for_list (xs := vs) (fun c σ' H' => ∃ A2 ρ2, Rep F A2 σ' H' ρ2 ∧ Tr F A H A2 H' ∧ forP i j l m xs E (xs.drop c) ρ2 ∧ σ'[i]? = some (some (.ref a)) ∧ ρ2[i]? = some (some (.own xs)) ∧ H' a = some (.lst vs) ∧ ρ2.length = ρ.length) ⟨A, ρ, R, .refl, h, q2, h0, q3, rfl⟩ (fun c σ' H' _ ⟨_, _, _, _, _, _, _, e, _⟩ => SqL.of e) (fun c x σ2 H2 hx q => ?_) fun σ' H' q => ?_
  · obtain ⟨A2, ρ2, R2, t2, h2, e1, e2, e3, e4⟩ := q
    obtain ⟨a', vs', p1, p2, p3, p4⟩ := R2.ownAt e2
    rw [e1] at p2
    cases p2
    rw [e3] at p3
    cases p3
    have hlen := p4.length
    obtain ⟨hxl, ex⟩ := List.getElem?_eq_some_iff.mp hx
    have hdl : c < xs.length := by omega
    have ec : xs.drop c = xs[c] :: xs.drop (c + 1) := List.drop_eq_getElem_cons hdl
    rw [ec] at h2
    have hd : Da F.K (AvC F A2) H2 xs[c] x := by
      obtain ⟨x', hx', hd⟩ := p4.get (i := c) (List.getElem?_eq_getElem hdl)
      rw [hx] at hx'
      cases hx'
      exact hd
    obtain ⟨w, n, kvs, mm, ed, f1, f2, f3, h3⟩ := h2
    rw [ed] at hd
    refine sg F A2 σ2 H2 ρ2 x (.tuple [.str w, .int n]) _ (fun ρ3 => ρ3 = (ρ2.set j (some (.dat (.str w)))).set l (some (.dat (.int n)))) hK R2 (.inl hd) ⟨_, rfl, rfl, _, _, rfl, ⟨by rw [e4]; exact lj, _, _, rfl, ⟨by simpa [e4] using ll, rfl, rfl⟩⟩⟩ fun ρ3 σ3 A3 z3 R3 t3 w3 => ?_
    subst z3
    have s3 : σ3[i]? = some (some (.ref a)) := by
      have := w3 [j, l] (fun b hb => by rcases his b hb with rfl | rfl <;> simp)
      have g1 := L2.wipe_out (vs := [j, l]) (σ := σ3) (i := i) (by simp; exact ⟨hj, hl⟩)
      have g2 := L2.wipe_out (vs := [j, l]) (σ := σ2) (i := i) (by simp; exact ⟨hj, hl⟩)
      rw [← g1, this, g2, e1]
    have o3 : ((ρ2.set j (some (.dat (.str w)))).set l (some (.dat (.int n))))[i]? = some (some (.own xs)) := by
      rw [List.getElem?_set_ne (Ne.symm hl), List.getElem?_set_ne (Ne.symm hj)]; exact e2
    have m3 : ((ρ2.set j (some (.dat (.str w)))).set l (some (.dat (.int n))))[m]? = some (some (.dct kvs)) := by
      rw [List.getElem?_set_ne (Ne.symm hml), List.getElem?_set_ne (Ne.symm hmj)]; exact f1
    have j3 : ((ρ2.set j (some (.dat (.str w)))).set l (some (.dat (.int n))))[j]? = some (some (.dat (.str w))) := by
      rw [List.getElem?_set_ne (Ne.symm hjl), List.getElem?_set_self (by rw [e4]; exact lj)]
    have l3 : ((ρ2.set j (some (.dat (.str w)))).set l (some (.dat (.int n))))[l]? = some (some (.dat (.int n))) := by
      rw [List.getElem?_set_self (by simpa [e4] using ll)]
    obtain ⟨a3, vs3, u1, u2, u3, u4⟩ := R3.ownAt o3
    rw [s3] at u2
    cases u2
    obtain ⟨am, v1, v2, v3⟩ := R3.dctAt m3
    obtain ⟨vj, y1, y2⟩ := R3.slot j _ j3
    obtain ⟨vl, y3, y4⟩ := R3.slot l _ l3
    have ej : vj = .str w := by
      have : Da F.K (AvC F A3) H2 (.str w) vj := y2
      simpa only [Da] using this
    have el : vl = .int n := by
      have : Da F.K (AvC F A3) H2 (.int n) vl := y4
      simpa only [Da] using this
    subst ej el
    have nam : a ≠ am := fun z => hm (R3.inj i m a u1 (by rw [v1, z]))
    obtain ⟨R4, t4⟩ := R3.dctPut (xs' := setW kvs w n) v1 m3
    have g := DPut.k (k := (Sum.inr w : Key)) (v := V.int n) v3 (by unfold kvE; rw [List.length_map]; exact f3)
    rw [putK_E f2] at g
    exact ⟨.int n, y3, .ref am, v2, .str w, y1, am, _, rfl, g, A3, _, R4, t2.trans (t3.trans t4), h3, s3, by rw [List.getElem?_set_ne (Ne.symm hm)]; exact o3, by rw [upd_ne nam]; exact e3, by simp [e4]⟩
  · obtain ⟨A2, ρ2, R2, t2, h2, _, e2, e3, _⟩ := q
    obtain ⟨a', vs', p1, p2, p3, p4⟩ := R2.ownAt e2
    have hl2 : xs.length = vs.length := q4.length
    rw [← hl2, List.drop_length] at h2
    exact k.1 _ _ _ _ h2 R2 t2
theorem ds_forP {x tn kn vn : Str} {tgt : Expr} {gg : TG} {is : List Nat} (i j l m : Nat) (hg : DG false K X tgt gg (gTu 2 (gCons' (gNm j) (gCons' (gNm l) gNil'))) is) (hu : X.A.units + 1 < cLine) (hK : X.K = K := by rfl)
    (his : ∀ b ∈ is, b = j ∨ b = l := by decide) (hj : i ≠ j := by decide) (hl : i ≠ l := by decide) (hm : i ≠ m := by decide) (hmj : m ≠ j := by decide) (hml : m ≠ l := by decide) (hjl : j ≠ l := by decide)
    (hp : PassesOwn (model X.prog X.w) X.A X.env X.xe := by exact PassesOwn.never) (hc : X.calm = true := by rfl) (nx : X.N[i]? = some x := by rfl) (nt : X.N[m]? = some tn := by rfl) (nk : X.N[j]? = some kn := by rfl) (nv : X.N[l]? = some vn := by rfl)
    (vx : Vis X.env.scope x := by first | exact Or.inl rfl | exact Or.inr (Or.inl rfl) | exact Or.inr (Or.inr rfl)) (vt : Vis X.env.scope tn := by first | exact Or.inl rfl | exact Or.inr (Or.inl rfl) | exact Or.inr (Or.inr rfl))
    (vk : Vis X.env.scope kn := by first | exact Or.inl rfl | exact Or.inr (Or.inl rfl) | exact Or.inr (Or.inr rfl)) (vv : Vis X.env.scope vn := by first | exact Or.inl rfl | exact Or.inr (Or.inl rfl) | exact Or.inr (Or.inr rfl))
    (dx : (x == ("__debug__" : Str)) = false := by decide) (dt : (tn == ("__debug__" : Str)) = false := by decide) (dk : (kn == ("__debug__" : Str)) = false := by decide) (dv : (vn == ("__debug__" : Str)) = false := by decide)
    (cx : (x == ("__classdict__" : Str)) = false := by decide) (ct : (tn == ("__classdict__" : Str)) = false := by decide) (ck : (kn == ("__classdict__" : Str)) = false := by decide) (cv : (vn == ("__classdict__" : Str)) = false := by decide)
    (hs : swapsWith (.Name vn p4) (some (.Subscript (.Name tn p2) (.Name kn p3) p5)) p6.line X.env = pure false := by rfl) (hs2 : ∀ z, foldedSetIterable (.Name x p1) X.env z = pure z := by intro _; rfl) :
    DSt K X (.For tgt (.Name x p1) [.Assign [.Subscript (.Name tn p2) (.Name kn p3) p5] (.Name vn p4) p6] [] pos) (tFor (iSeq K (tVar i)) gg (sDPut (tVar m) (tVar j) (tVar l))) (dForP i j l m) :=
  ⟨ps_for hp hc (hK ▸ pi_seq (pe_var nx vx dx cx)) hg.p (pss_one (ps_dput hu (pe_var nt vt dt ct) (pe_var nk vk dk ck) (pe_var nv vv dv cv) hs)) hs2, ss_forP hg.s his hj hl hm hmj hml hjl⟩
theorem i_forP {i j l m : Nat} {xs : List PyData} {E : DEnds} {ρ : DS} (h : ρ[i]? = some (some (.own xs))) (hj : j < ρ.length) (hl : l < ρ.length) (k : forP i j l m xs E xs ρ) : dForP i j l m E ρ := ⟨xs, h, hj, hl, k⟩
end
end DL
/-! x = e if c else x: what x holds stays as it is -/
namespace DL
open PySem L2 PySem.Spec
section
variable {K : PySem.W.Frag} {X : Cx} {c e : Expr} {te : TE} {T : DTE} {pos pos' p q : Pos}
def dSetIf (i : Nat) (C : DTT) (T : DTE) : DTS := fun E ρ => C ρ fun c ρ1 => if c = true then (T ρ1 fun r ρ2 => i < ρ2.length ∧ ∃ sv ρ3, sto1 ρ2 r = some (sv, ρ3) ∧ E.nx (ρ3.set i (some sv))) else ((∃ sv, ρ1[i]? = some (some sv)) ∧ E.nx ρ1)
theorem set_same {σ : L2.St} {i : Nat} {v : V} (e : σ[i]? = some (some v)) : σ.set i (some v) = σ := by
  obtain ⟨hi, e2⟩ := List.getElem?_eq_some_iff.mp e
  rw [← e2]
  exact List.set_getElem_self hi
theorem ds_setIf {x : Str} {uC} {C : DTT} (i : Nat) (hN : X.N.Nodup) (hc : DT K X c uC C) (he : DE K X e te T) (hi : X.N[i]? = some x := by rfl) (hx : Loc X.env.scope x := by first | exact Or.inl rfl | exact Or.inr rfl) (hv : Vis X.env.scope x := by first | exact Or.inl rfl | exact Or.inr (Or.inl rfl) | exact Or.inr (Or.inr rfl))
    (hs : swapsWith (.IfExp c e (.Name x q) p) (some (.Name x pos')) pos.line X.env = pure false := by rfl)
    (hf : X.fn x = true ∨ X.env.scope.names.lookup x = some .local := by first | exact .inl rfl | exact .inr rfl) (hd : (x == ("__debug__" : Str)) = false := by decide) (hcd : (x == ("__classdict__" : Str)) = false := by decide) :
    DSt K X (.Assign [.Name x pos'] (.IfExp c e (.Name x q) p) pos) (tAsg (tIf uC te (tVar i)) (gName i)) (dSetIf i C T) := by
  refine ⟨ps_set hN hi hx (pe_ifExp hc.p he.p (pe_var hi hv hd hcd)) hs hf, ?_⟩
  intro F A σ H ρ D E hK R h k
  refine hc.s F A σ H ρ _ _ hK R h fun b ρ1 H1 A1 h1 R1 t1 => ?_
  cases b with
  | true =>
    refine he.s F A1 σ H1 ρ1 _ _ hK R1 h1 fun r ρ' v H' A' h R t w => ?_
    obtain ⟨hl, sv, ρ2, e1, h⟩ := h
    obtain ⟨A2, R2, t2⟩ := R.store t w hl e1
    exact k.1 _ _ _ _ h R2 (t1.trans t2)
  | false =>
    obtain ⟨⟨sv, hsv⟩, h1⟩ := h1
    obtain ⟨v, e1, _⟩ := R1.slot i sv hsv
    refine ⟨v, e1, ?_⟩
    show D.nx (σ.set i (some v)) H1
    rw [set_same e1]
    exact k.1 _ _ _ _ h1 R1 t1
theorem i_setIf {i : Nat} {C : DTT} {E : DEnds} {ρ : DS} (h : C ρ fun c ρ1 => if c = true then (T ρ1 fun r ρ2 => i < ρ2.length ∧ ∃ sv ρ3, sto1 ρ2 r = some (sv, ρ3) ∧ E.nx (ρ3.set i (some sv))) else ((∃ sv, ρ1[i]? = some (some sv)) ∧ E.nx ρ1)) : dSetIf i C T E ρ := h
end
end DL
/-! What all laws share: loops over typed lists, picks, readings. -/
namespace DL
open PySem L2
section
variable {α : Type} {g : DTG} {tb : DTS} {E : DEnds} {tA : DTT} {T : DTE} {vs : List Nat} {Kc : List PyData → DS → Prop}
theorem forT_map (e : α → PyData) (I : List α → DS → Prop) (h0 : ∀ ρ, I [] ρ → E.nx ρ)
    (hs : ∀ a as ρ (K : DS → Prop), (∀ ρ2, I as ρ2 → K ρ2) → I (a :: as) ρ → g (e a) ρ fun ρ1 => tb { nx := K, rt := E.rt, bk := E.nx, ct := K } ρ1) : ∀ xs ρ, I xs ρ → forT g tb E (xs.map e) ρ
  | [], ρ, h => h0 ρ h
  | a :: as, ρ, h => hs a as ρ _ (fun ρ2 h2 => forT_map e I h0 hs as ρ2 h2) h
theorem rngD_zero' {lo : Int} : rngD lo 0 = [] := rfl
theorem rngD_succ' {lo : Int} {n : Nat} : rngD lo (n + 1) = .int lo :: rngD (lo + 1) n := by
  unfold rngD
  rw [List.range_succ_eq_map, List.map_cons, List.map_map]
  refine List.cons_eq_cons.mpr ⟨by simp, List.map_congr_left fun k _ => ?_⟩
  show PyData.int (lo + ((k + 1 : Nat) : Int)) = .int (lo + 1 + (k : Nat))
  congr 1
  omega
theorem forT_rng (I : Int → DS → Prop) (hi : Int) (h0 : ∀ ρ, I hi ρ → E.nx ρ)
    (hs : ∀ i ρ (K : DS → Prop), i < hi → (∀ ρ2, I (i + 1) ρ2 → K ρ2) → I i ρ → g (.int i) ρ fun ρ1 => tb { nx := K, rt := E.rt, bk := E.nx, ct := K } ρ1) : ∀ (n : Nat) (lo : Int) ρ, lo + n = hi → I lo ρ → forT g tb E (rngD lo n) ρ
  | 0, lo, ρ, e, h => h0 ρ (by rw [← e]; simpa using h)
  | n + 1, lo, ρ, e, h => by
    rw [rngD_succ']
    exact hs lo ρ _ (by omega) (fun ρ2 h2 => forT_rng I hi h0 hs n (lo + 1) ρ2 (by omega) h2) h
/-- the same, passes alike -/
theorem forT_any (ds : List PyData) (I : DS → Prop) (h0 : ∀ ρ, I ρ → E.nx ρ)
    (hs : ∀ d ∈ ds, ∀ ρ (K : DS → Prop), (∀ ρ2, I ρ2 → K ρ2) → I ρ → g d ρ fun ρ1 => tb { nx := K, rt := E.rt, bk := E.nx, ct := K } ρ1) : ∀ ρ, I ρ → forT g tb E ds ρ := by
  induction ds with
  | nil => exact h0
  | cons d ds ih => exact fun ρ h => hs d List.mem_cons_self ρ _ (fun ρ2 h2 => ih (fun d hd => hs d (List.mem_cons_of_mem _ hd)) ρ2 h2) h
theorem lc_go {ρ0 : DS} {e : α → PyData} (f : α → Option PyData) : ∀ (xs : List α) (acc : List PyData) ρ, wipeD ρ vs = ρ0 → acc.length + xs.length ≤ sizeLine → (∀ ρ', wipeD ρ' vs = ρ0 → Kc (acc ++ xs.filterMap f) ρ') →
    (∀ a ∈ xs, ∀ (acc : List PyData) (K : List PyData → DS → Prop), acc.length < sizeLine → (∀ x ρ, f a = some x → wipeD ρ vs = ρ0 → K (acc ++ [x]) ρ) → (∀ ρ, f a = none → wipeD ρ vs = ρ0 → K acc ρ) →
      g (e a) ρ0 fun ρ1 => tA ρ1 fun b ρ2 => if b = true then T ρ2 fun r ρ3 => ∃ d' ρ4, frz1 ρ3 r = some (.dat d', ρ4) ∧ acc.length < sizeLine ∧ K (acc ++ [d']) ρ4 else K acc ρ2) →
    lcT g tA T vs Kc (xs.map e) acc ρ
  | [], acc, ρ, hρ, _, k, _ => by
    have := k ρ hρ
    rw [List.filterMap_nil, List.append_nil] at this
    exact this
  | a :: xs, acc, ρ, hρ, hl, k, hs => by
    rw [List.length_cons] at hl
    show g (e a) (wipeD ρ vs) _
    rw [hρ]
    have rc : ∀ acc ρ, acc.length + xs.length ≤ sizeLine → wipeD ρ vs = ρ0 → (∀ ρ', wipeD ρ' vs = ρ0 → Kc (acc ++ xs.filterMap f) ρ') → lcT g tA T vs Kc (xs.map e) acc ρ := fun acc ρ h1 h2 h3 => lc_go f xs acc ρ h2 h1 h3 fun b hb => hs b (List.mem_cons_of_mem _ hb)
    refine hs a List.mem_cons_self acc (lcT g tA T vs Kc (xs.map e)) (by omega) (fun x ρ e1 h => ?_) (fun ρ e1 h => ?_)
    · refine rc _ _ (by simp; omega) h fun ρ' h' => ?_
      have := k ρ' h'
      rw [List.filterMap_cons, e1] at this
      simpa using this
    · refine rc _ _ (by omega) h fun ρ' h' => ?_
      have := k ρ' h'
      rw [List.filterMap_cons, e1] at this
      simpa using this
/-- a comprehension over typed items, whose states come back -/
theorem lc_map {ρ0 ρ : DS} {e : α → PyData} {xs : List α} (f : α → Option PyData) (hρ : wipeD ρ vs = ρ0) (hl : xs.length ≤ sizeLine) (k : ∀ ρ', wipeD ρ' vs = ρ0 → Kc (xs.filterMap f) ρ')
    (hs : ∀ a ∈ xs, ∀ (acc : List PyData) (K : List PyData → DS → Prop), acc.length < sizeLine → (∀ x ρ, f a = some x → wipeD ρ vs = ρ0 → K (acc ++ [x]) ρ) → (∀ ρ, f a = none → wipeD ρ vs = ρ0 → K acc ρ) →
      g (e a) ρ0 fun ρ1 => tA ρ1 fun b ρ2 => if b = true then T ρ2 fun r ρ3 => ∃ d' ρ4, frz1 ρ3 r = some (.dat d', ρ4) ∧ acc.length < sizeLine ∧ K (acc ++ [d']) ρ4 else K acc ρ2) : lcT g tA T vs Kc (xs.map e) [] ρ :=
  lc_go f xs [] ρ hρ (by simpa using hl) (by simpa using k) hs
/-- all are kept -/
theorem lc_all {ρ0 ρ : DS} {e : α → PyData} {xs : List α} (f : α → PyData) (hρ : wipeD ρ vs = ρ0) (hl : xs.length ≤ sizeLine) (k : ∀ ρ', wipeD ρ' vs = ρ0 → Kc (xs.map f) ρ')
    (hs : ∀ a ∈ xs, ∀ (acc : List PyData) (K : List PyData → DS → Prop), acc.length < sizeLine → (∀ ρ, wipeD ρ vs = ρ0 → K (acc ++ [f a]) ρ) →
      g (e a) ρ0 fun ρ1 => tA ρ1 fun b ρ2 => if b = true then T ρ2 fun r ρ3 => ∃ d' ρ4, frz1 ρ3 r = some (.dat d', ρ4) ∧ acc.length < sizeLine ∧ K (acc ++ [d']) ρ4 else K acc ρ2) : lcT g tA T vs Kc (xs.map e) [] ρ :=
  lc_map (fun a => some (f a)) hρ hl (fun ρ' h => by have := k ρ' h; rw [← List.filterMap_eq_map (f := f)] at this; exact this) fun a ha acc K h1 h2 _ => hs a ha acc K h1 fun ρ h => h2 _ ρ rfl h
theorem rng_map (lo : Int) (n : Nat) : rngD lo n = ((List.range n).map fun k => lo + (k : Nat)).map PyData.int := by simp [rngD]
/-- drawn items: each has a word of its own -/
theorem lc_rel {ρ0 ρ : DS} {e : α → PyData} {xs : List α} (P : α → PyData → Prop) (hρ : wipeD ρ vs = ρ0) (hl : xs.length ≤ sizeLine) (k : ∀ (ρ' : DS) (ys : List PyData), wipeD ρ' vs = ρ0 → ys.length = xs.length → (∀ (i : Nat) (a : α) (y : PyData), xs[i]? = some a → ys[i]? = some y → P a y) → Kc ys ρ')
    (hs : ∀ a ∈ xs, ∀ (acc : List PyData) (K : List PyData → DS → Prop), acc.length < sizeLine → (∀ y ρ, P a y → wipeD ρ vs = ρ0 → K (acc ++ [y]) ρ) →
      g (e a) ρ0 fun ρ1 => tA ρ1 fun b ρ2 => if b = true then T ρ2 fun r ρ3 => ∃ d' ρ4, frz1 ρ3 r = some (.dat d', ρ4) ∧ acc.length < sizeLine ∧ K (acc ++ [d']) ρ4 else K acc ρ2) : lcT g tA T vs Kc (xs.map e) [] ρ := by
  have go : ∀ (xs : List α) (acc : List PyData) ρ, wipeD ρ vs = ρ0 → acc.length + xs.length ≤ sizeLine → (∀ (ρ' : DS) (ys : List PyData), wipeD ρ' vs = ρ0 → ys.length = xs.length → (∀ (i : Nat) (a : α) (y : PyData), xs[i]? = some a → ys[i]? = some y → P a y) → Kc (acc ++ ys) ρ') →
      (∀ a ∈ xs, ∀ (acc : List PyData) (K : List PyData → DS → Prop), acc.length < sizeLine → (∀ y ρ, P a y → wipeD ρ vs = ρ0 → K (acc ++ [y]) ρ) →
        g (e a) ρ0 fun ρ1 => tA ρ1 fun b ρ2 => if b = true then T ρ2 fun r ρ3 => ∃ d' ρ4, frz1 ρ3 r = some (.dat d', ρ4) ∧ acc.length < sizeLine ∧ K (acc ++ [d']) ρ4 else K acc ρ2) → lcT g tA T vs Kc (xs.map e) acc ρ := by
    intro xs
    induction xs with
    | nil =>
      intro acc ρ hρ _ k _
      have := k ρ [] hρ rfl (by simp)
      rw [List.append_nil] at this
      exact this
    | cons a xs ih =>
      intro acc ρ hρ hl k hs
      rw [List.length_cons] at hl
      show g (e a) (wipeD ρ vs) _
      rw [hρ]
      refine hs a List.mem_cons_self acc (lcT g tA T vs Kc (xs.map e)) (by omega) (fun y ρ py h => ?_)
      refine ih (acc ++ [y]) ρ h (by simp; omega) (fun ρ' ys h1 h2 h3 => ?_) fun b hb => hs b (List.mem_cons_of_mem _ hb)
      have := k ρ' (y :: ys) h1 (by simp [h2]) fun i a' y' e1 e2 => by
        cases i with
        | zero => simp at e1 e2; subst e1 e2; exact py
        | succ i => simp at e1 e2; exact h3 i a' y' e1 e2
      simpa using this
  exact go xs [] ρ hρ (by simpa using hl) (by simpa using k) hs
end
section
variable {G : SV → Prop} {x y w : Str} {n i j : Int} {d e : PyData} {a b : Bool} {p q : Prop}
theorem c_ltlen {n m : Nat} (h : n < m) (k : p) : n < m ∧ p := ⟨h, k⟩
theorem c_eqS (h : (x == y) = b) (k : G (.dat (.bool b))) : gEq (.str x) (.str y) G := ⟨.inr ⟨x, y, rfl, rfl⟩, by
  have e : PyData.eqv (.str x) (.str y) = (x == y) := rfl
  rw [e, h]; exact k⟩
theorem c_neS (h : (x == y) = b) (k : G (.dat (.bool (!b)))) : gNe (.str x) (.str y) G := ⟨.inr ⟨x, y, rfl, rfl⟩, by
  have e : PyData.eqv (.str x) (.str y) = (x == y) := rfl
  rw [e, h]; exact k⟩
theorem c_neSS (h : x = y) (k : G (.dat (.bool false))) : gNe (.str x) (.str y) G := c_neS (b := true) (by rw [h]; exact beq_self_eq_true y) k
theorem c_eqSS (h : x = y) (k : G (.dat (.bool true))) : gEq (.str x) (.str y) G := c_eqS (by rw [h]; exact beq_self_eq_true y) k
theorem c_neB (k : G (.dat (.bool (a != b)))) : gNe (.bool a) (.bool b) G := ⟨.inl ⟨by cases a <;> decide +kernel, by cases b <;> decide +kernel⟩, by
  have e : (!PyData.eqv (.bool a) (.bool b)) = (a != b) := by cases a <;> cases b <;> rfl
  rw [e]; exact k⟩
theorem c_eqB (k : G (.dat (.bool (a == b)))) : gEq (.bool a) (.bool b) G := ⟨.inl ⟨by cases a <;> decide +kernel, by cases b <;> decide +kernel⟩, by
  have e : (PyData.eqv (.bool a) (.bool b)) = (a == b) := by cases a <;> cases b <;> rfl
  rw [e]; exact k⟩
theorem pickAt {xs : List PyData} {k : Int} (h0 : 0 ≤ k) (h1 : k < xs.length) : ∃ d, atI xs k = some d ∧ d ∈ xs := by
  have e : ixN xs.length k = some k.toNat := by
    unfold ixN
    rw [if_pos h0, if_pos h1]
  have hk : k.toNat < xs.length := by omega
  refine ⟨xs[k.toNat], ?_, List.getElem_mem hk⟩
  unfold atI
  rw [e]
  exact List.getElem?_eq_getElem hk
theorem atI_map {α : Type} {xs : List α} {f : α → PyData} {k : Int} {z : α} (h0 : 0 ≤ k) (h1 : k < xs.length) : atI (xs.map f) k = some (f (xs.getD k.toNat z)) := by
  have e : ixN (xs.map f).length k = some k.toNat := by
    unfold ixN
    rw [if_pos h0, List.length_map, if_pos h1]
  have hk : k.toNat < xs.length := by omega
  unfold atI
  rw [e]
  simp [List.getD, List.getElem?_eq_getElem hk]
theorem szl {n : Nat} (h : n ≤ 1000000) : n < sizeLine := Nat.lt_of_le_of_lt h (by decide)
theorem szle {n : Nat} (h : n ≤ 1000000) : n ≤ sizeLine := Nat.le_trans h (by decide)
theorem mulB {i j : Int} (h1 : i.natAbs ≤ 10 ^ 199) (h2 : j.natAbs ≤ 10 ^ 199) : mulOk i j := mulOk_of (Nat.lt_of_le_of_lt h1 (by decide)) (Nat.lt_of_le_of_lt h2 (by decide))
theorem mulS {i j : Int} (h1 : -(2 ^ 64) < i) (h2 : i < 2 ^ 64) : mulOk i j := .inl (.inl ⟨h1, h2⟩)
theorem mulSr {i j : Int} (h1 : -(2 ^ 64) < j) (h2 : j < 2 ^ 64) : mulOk i j := .inl (.inr ⟨h1, h2⟩)
theorem divB {i j : Int} (h0 : 0 < j) (h : j ≤ 10 ^ 400) : CDivW i j := wide_div (b := 1400) h0 (Nat.lt_of_le_of_lt (show j.natAbs ≤ 10 ^ 400 by omega) (by decide)) (by decide) (by decide)
theorem lgB {n : Int} (h0 : 0 ≤ n) (h : n ≤ 10 ^ 400) : n.natAbs.log2 < 9000 := Nat.lt_of_lt_of_le (PySem.Flt.log2_lt_of (k := 1400) (by decide) (Nat.lt_of_le_of_lt (show n.natAbs ≤ 10 ^ 400 by omega) (by decide))) (by decide)
theorem c_rep (h : reprOk d) (k : G (.dat (.str d.shown))) : g1 gRepr [d] G := i_rep h k
theorem c_max2 {a b : Int} (k : G (.dat (.int (max a b)))) : g2 gMax [.int a, .int b] G := i_max2 (by
  have e : (if b > a then b else a) = max a b := by split <;> omega
  rw [e]; exact k)
theorem c_min2 {a b : Int} (k : G (.dat (.int (min a b)))) : g2 gMin [.int a, .int b] G := i_min2 (by
  have e : (if b < a then b else a) = min a b := by split <;> omega
  rw [e]; exact k)
theorem gt_ite {α : Type} {a b : Int} {x y : α} : (if b > a then x else y) = if a < b then x else y := rfl
/-! ### data that may be compared -/
structure Lay (k : Nat) (d : PyData) : Prop where
  c : d.canLay0 = true
  dep : d.depth ≤ k
theorem Lay.mono {k k' : Nat} (h : Lay k d) (hk : k ≤ k') : Lay k' d := ⟨h.c, Nat.le_trans h.dep hk⟩
theorem Lay.shaped {k : Nat} (h : Lay k d) (hk : k ≤ 64) : SeqAt.shaped d = true := by
  have := Nat.le_trans h.dep hk
  simp [SeqAt.shaped, h.c, this]
theorem lay_int : Lay 0 (.int n) := ⟨rfl, Nat.le_refl _⟩
theorem lay_bool : Lay 0 (.bool a) := ⟨rfl, Nat.le_refl _⟩
theorem lay_none : Lay 0 .none := ⟨rfl, Nat.le_refl _⟩
theorem lay_str (h : PyData.strOk w = true) : Lay 0 (.str w) := ⟨by simpa [PyData.canLay0] using h, Nat.le_refl _⟩
theorem lay_all {k : Nat} : ∀ {ds : List PyData}, (∀ d ∈ ds, Lay k d) → PyData.canLayAll0 ds = true ∧ PyData.depthAll ds ≤ k
  | [], _ => ⟨rfl, Nat.zero_le _⟩
  | d :: ds, h => by
    obtain ⟨h1, h2⟩ := lay_all fun x hx => h x (List.mem_cons_of_mem _ hx)
    obtain ⟨h3, h4⟩ := h d List.mem_cons_self
    refine ⟨by simp [PyData.canLayAll0, h1, h3], ?_⟩
    simp [PyData.depthAll]
    omega
theorem lay_tup {k : Nat} {ds : List PyData} (h : ∀ d ∈ ds, Lay k d) : Lay (k + 1) (.tuple ds) := by
  obtain ⟨h1, h2⟩ := lay_all h
  exact ⟨by simpa [PyData.canLay0] using h1, by simp [PyData.depth]; omega⟩
theorem lay_list {k : Nat} {ds : List PyData} (h : ∀ d ∈ ds, Lay k d) : Lay (k + 1) (.list ds) := by
  obtain ⟨h1, h2⟩ := lay_all h
  exact ⟨by simpa [PyData.canLay0] using h1, by simp [PyData.depth]; omega⟩
theorem all_nil {α : Type} {P : α → Prop} : ∀ d ∈ ([] : List α), P d := fun _ h => nomatch h
theorem all_cons {α : Type} {P : α → Prop} {a : α} {l : List α} (h : P a) (t : ∀ d ∈ l, P d) : ∀ d ∈ a :: l, P d := fun d hd => by
  rcases List.mem_cons.mp hd with e | hd
  · rw [e]; exact h
  · exact t d hd
theorem all_map {α β : Type} {P : β → Prop} {f : α → β} {l : List α} (h : ∀ a ∈ l, P (f a)) : ∀ d ∈ l.map f, P d := fun d hd => by
  obtain ⟨a, ha, rfl⟩ := List.mem_map.mp hd
  exact h a ha
theorem all_app {α : Type} {P : α → Prop} {a b : List α} (h : ∀ d ∈ a, P d) (t : ∀ d ∈ b, P d) : ∀ d ∈ a ++ b, P d := fun d hd => by
  rcases List.mem_append.mp hd with e | e
  · exact h d e
  · exact t d e
theorem atI_last {xs : List PyData} (h : xs ≠ []) : atI xs (-1) = some (xs.getLast h) := by
  have hl := List.length_pos_iff.mpr h
  have e : ixN xs.length (-1) = some (xs.length - 1) := by
    unfold ixN
    rw [if_neg (by decide), if_pos (by omega)]
    congr 1
    omega
  unfold atI
  rw [e]
  show xs[xs.length - 1]? = _
  rw [← List.getLast?_eq_getElem?, List.getLast?_eq_some_getLast h]
theorem c_eqD {k1 k2 : Nat} (h1 : Lay k1 d) (h2 : Lay k2 e) (l1 : k1 ≤ 64) (l2 : k2 ≤ 64) (k : G (.dat (.bool (PyData.eqv d e)))) : gEq d e G := i_eq k (h1.shaped l1) (h2.shaped l2)
theorem c_neD {k1 k2 : Nat} (h1 : Lay k1 d) (h2 : Lay k2 e) (l1 : k1 ≤ 64) (l2 : k2 ≤ 64) (k : G (.dat (.bool (!PyData.eqv d e)))) : gNe d e G := i_ne k (h1.shaped l1) (h2.shaped l2)
theorem c_rng2 {TA : DTA} {ρ : DS} {Q1 : List PyData → DS → Prop} (h : TA ρ fun rs ρ1 => ∃ ds, looks ρ1 rs = some ds ∧ ∃ i j, ds = [.int i, .int j] ∧ (-(2 ^ 62) ≤ i ∧ i < 2 ^ 62 ∧ -(2 ^ 62) ≤ j ∧ j < 2 ^ 62) ∧ Q1 (rngD i (j - i).toNat) ρ1) : dRng2 TA ρ Q1 := h
/-! ### slices of typed lists -/
def sI (n d : Nat) (o : Option Int) : Nat := HT.sIx n d o
def cutT {α : Type} (xs : List α) (lo hi : Option Int) : List α := (xs.drop (HT.sIx xs.length 0 lo)).take (HT.sIx xs.length xs.length hi - HT.sIx xs.length 0 lo)
theorem cutD_map {α : Type} (f : α → PyData) (xs : List α) (lo hi : Option Int) : cutD (xs.map f) lo hi = (cutT xs lo hi).map f := by
  unfold cutD cutT
  rw [List.length_map, List.map_take, List.map_drop]
theorem cutT_le {α : Type} (xs : List α) (lo hi : Option Int) : (cutT xs lo hi).length ≤ xs.length := by
  unfold cutT
  rw [List.length_take, List.length_drop]
  omega
theorem cutT_mem {α : Type} {xs : List α} {lo hi : Option Int} {x : α} (h : x ∈ cutT xs lo hi) : x ∈ xs := List.mem_of_mem_drop (List.mem_of_mem_take h)
theorem cutT_nn {α : Type} (xs : List α) : cutT xs none none = xs := by
  unfold cutT
  show List.take (xs.length - 0) (List.drop 0 xs) = xs
  rw [Nat.sub_zero, List.drop_zero, List.take_length]
theorem sIx_of {n d : Nat} {a : Int} (h0 : 0 ≤ a) : HT.sIx n d (some a) = min a.toNat n := by
  show (if a < 0 then (a + (n : Int)).toNat else min a.toNat n) = _
  rw [if_neg (by omega)]
theorem cutT_ab {α : Type} (xs : List α) {a b : Int} (h0 : 0 ≤ a) (h1 : a ≤ b) : cutT xs (some a) (some b) = (xs.drop a.toNat).take (b.toNat - a.toNat) := by
  unfold cutT
  rw [sIx_of h0, sIx_of (by omega)]
  by_cases h : a.toNat ≤ xs.length
  · rw [Nat.min_eq_left h]
    by_cases h2 : b.toNat ≤ xs.length
    · rw [Nat.min_eq_left h2]
    · rw [Nat.min_eq_right (by omega), List.take_of_length_le (by rw [List.length_drop]; omega), List.take_of_length_le (by rw [List.length_drop]; omega)]
  · rw [List.drop_eq_nil_of_le (show xs.length ≤ min a.toNat xs.length by omega), List.drop_eq_nil_of_le (by omega), List.take_nil, List.take_nil]
theorem cutT_na {α : Type} (xs : List α) {b : Int} (h0 : 0 ≤ b) : cutT xs none (some b) = xs.take b.toNat := by
  unfold cutT
  rw [sIx_of h0]
  show List.take (min b.toNat xs.length - 0) (List.drop 0 xs) = _
  rw [Nat.sub_zero, List.drop_zero]
  by_cases h2 : b.toNat ≤ xs.length
  · rw [Nat.min_eq_left h2]
  · rw [Nat.min_eq_right (by omega), List.take_of_length_le (by omega), List.take_of_length_le (by omega)]
theorem cutT_an {α : Type} (xs : List α) {a : Int} (h0 : 0 ≤ a) : cutT xs (some a) none = xs.drop a.toNat := by
  unfold cutT
  rw [sIx_of h0]
  rw [HT.sIx_none]
  by_cases h : a.toNat ≤ xs.length
  · rw [Nat.min_eq_left h, List.take_of_length_le (by rw [List.length_drop]; omega)]
  · rw [Nat.min_eq_right (show xs.length ≤ a.toNat by omega), List.drop_length, List.take_nil]
    exact (List.drop_eq_nil_of_le (by omega)).symm
theorem cutT_last {α : Type} (xs : List α) : cutT xs none (some (-1)) = xs.dropLast := by
  unfold cutT
  have e : HT.sIx xs.length xs.length (some (-1)) = xs.length - 1 := by
    unfold HT.sIx
    simp only
    rw [if_pos (by decide)]
    omega
  rw [e]
  show List.take (xs.length - 1 - 0) (List.drop 0 xs) = _
  rw [Nat.sub_zero, List.drop_zero, List.dropLast_eq_take]
theorem fit_bools {α : Type} {f : α → Bool} (xs : List α) : Fit (xs.length * 7 + 3) 1 (.list (xs.map fun x => .bool (f x))) := by
  have := fit_lst (n := 5) (k := 0) (ds := xs.map fun x => .bool (f x)) (all_map fun _ _ => fit_bool)
  rw [List.length_map] at this
  exact this
theorem len_filterMap {α : Type} (p : α → Bool) (v : PyData) (xs : List α) : (xs.filterMap fun a => if p a then some v else none).length = xs.countP p := by
  induction xs with
  | nil => rfl
  | cons a xs ih =>
    rw [List.filterMap_cons, List.countP_cons]
    cases h : p a
    · simp [h, ih]
    · simp [h, ih]
theorem c_b62 {j : Int} (h1 : -(2 ^ 62) ≤ j) (h2 : j < 2 ^ 62) (k : p) : -(2 ^ 62) ≤ j ∧ j < 2 ^ 62 ∧ p := ⟨h1, h2, k⟩
theorem c_pow (h0 : 0 ≤ j) (h1 : j ≤ 1000000) (h2 : i.natAbs < 2 ^ 64) (k : G (.dat (.int (i ^ j.toNat)))) : gPow (.int i) (.int j) G := ⟨⟨h0, h1, h2⟩, k⟩
theorem c_neb (h : PyData.eqv d e = b) (h1 : SeqAt.shaped d = true) (h2 : SeqAt.shaped e = true) (k : G (.dat (.bool (!b)))) : gNe d e G := i_ne (by rw [h]; exact k) h1 h2
theorem c_eqb (h : PyData.eqv d e = b) (h1 : SeqAt.shaped d = true) (h2 : SeqAt.shaped e = true) (k : G (.dat (.bool b))) : gEq d e G := i_eq (by rw [h]; exact k) h1 h2
theorem c_repD (d' : PyData) (h : d = d') (ok : reprOk d') (k : G (.dat (.str d'.shown))) : g1 gRepr [d] G := by rw [h]; exact c_rep ok k
/-! ### one statement after the other, the rest a letter -/
def NX (u : DTS) (E : DEnds) (N : DS → Prop) : Prop := ∀ ρ, u E ρ → N ρ
theorem i_seqN {t u : DTS} {E : DEnds} {ρ : DS} (h : ∀ N : DS → Prop, NX u E N → t { E with nx := N } ρ) : dSeq t u E ρ := h _ fun _ h => h
theorem i_nxN {u : DTS} {E : DEnds} {N : DS → Prop} {ρ ρ' : DS} (h : NX u E N) (e : ρ = ρ') (k : u E ρ') : N ρ := h ρ (e ▸ k)
theorem i_stE {ρ ρ' : DS} {P : DS → Prop} (e : ρ = ρ') (k : P ρ') : P ρ := e ▸ k
end
end DL
/-! Reading rules found by their heads. -/
namespace DL
open PySem L2
class Rd1 (P : Prop) (Q : outParam Prop) : Prop where
  h : Q → P
theorem rr {P Q : Prop} [i : Rd1 P Q] (h : Q) : P := i.h h
section
variable {t u tb : DTS} {E : DEnds} {ρ : DS} {T Ta Tb Tc To Tk : DTE} {tA tB C c : DTT} {TA TK : DTA} {g : DTG} {gs : DTGs} {QD : SV → DS → Prop} {QB : Bool → DS → Prop} {QA : List SV → DS → Prop} {i j l n np nk : Nat} {d e : PyData} {xs ys ds : List PyData} {G : SV → Prop} {W : DTI} {a b : Int} {S S1 S2 : DSp} {svs : List SV} {Q : DS → Prop} {QO : Option Int → DS → Prop} {Tl Th : DTO} {Q1 : List PyData → DS → Prop} {g1' g2' : DTG} {pm vs : List Nat} {gg gg' : G2} {gc : G1} {Ty : String} {lo hi : Option Int} {k k' : Bool} {Q2 : List SV → DS → Prop} {f : Int → Int → PyData}
instance r_next : Rd1 (dNext E ρ) (E.nx ρ) := ⟨i_next⟩
instance r_break : Rd1 (dBreak E ρ) (E.bk ρ) := ⟨i_break⟩
instance r_cont : Rd1 (dCont E ρ) (E.ct ρ) := ⟨i_cont⟩
instance r_asg : Rd1 (dAsg T g E ρ) (T ρ fun r ρ1 => ∃ d ρ2, frz1 ρ1 r = some (.dat d, ρ2) ∧ g d ρ2 E.nx) := ⟨i_asg⟩
instance r_set : Rd1 (dSet i T E ρ) (T ρ fun r ρ1 => i < ρ1.length ∧ ∃ sv ρ2, sto1 ρ1 r = some (sv, ρ2) ∧ E.nx (ρ2.set i (some sv))) := ⟨i_set⟩
instance r_ret : Rd1 (dRet T E ρ) (T ρ E.rt) := ⟨i_ret⟩
instance r_drop : Rd1 (dDrop T E ρ) (T ρ fun _ ρ1 => E.nx ρ1) := ⟨i_drop⟩
instance r_ifs : Rd1 (dIfS c t u E ρ) (c ρ fun b ρ1 => if b = true then t E ρ1 else u E ρ1) := ⟨i_ifs⟩
instance r_for : Rd1 (dFor W g tb E ρ) (W ρ fun ds ρ1 => forT g tb E ds ρ1) := ⟨i_for⟩
instance r_c : Rd1 (dC d ρ QD) (QD (.dat d) ρ) := ⟨i_c⟩
instance r_bin : Rd1 (dBin gg Ta Tb ρ QD) (Ta ρ fun r1 ρ1 => Tb ρ1 fun r2 ρ2 => ∃ d e, lookD ρ2 r1 = some d ∧ lookD ρ2 r2 = some e ∧ gg d e fun sv => QD sv ρ2) := ⟨i_bin⟩
instance r_addI : Rd1 (gAdd (.int a) (.int b) G) (G (.dat (.int (a + b)))) := ⟨i_addI⟩
instance r_sub : Rd1 (DL.gSub (.int a) (.int b) G) (G (.dat (.int (a - b)))) := ⟨i_sub⟩
instance r_lt : Rd1 (gLt (.int a) (.int b) G) (G (.dat (.bool (decide (a < b))))) := ⟨i_lt⟩
instance r_le : Rd1 (gLe (.int a) (.int b) G) (G (.dat (.bool (decide (a ≤ b))))) := ⟨i_le⟩
instance r_gt : Rd1 (gGt (.int a) (.int b) G) (G (.dat (.bool (decide (b < a))))) := ⟨i_gt⟩
instance r_ge : Rd1 (gGe (.int a) (.int b) G) (G (.dat (.bool (decide (b ≤ a))))) := ⟨i_ge⟩
instance r_eqI : Rd1 (gEq (.int a) (.int b) G) (G (.dat (.bool (decide (a = b))))) := ⟨i_eqI⟩
instance r_neI : Rd1 (gNe (.int a) (.int b) G) (G (.dat (.bool (!decide (a = b))))) := ⟨i_neI⟩
instance r_is : Rd1 (gIs d .none G) (G (.dat (.bool (isNon d)))) := ⟨i_is⟩
instance r_isnot : Rd1 (gIsNot d .none G) (G (.dat (.bool (!isNon d)))) := ⟨i_isnot⟩
instance r_neg : Rd1 (dUn gNeg T ρ QD) (T ρ fun r ρ1 => ∃ d, lookD ρ1 r = some d ∧ gNeg d fun sv => QD sv ρ1) := ⟨i_neg⟩
instance r_negI : Rd1 (gNeg (.int a) G) (G (.dat (.int (-a)))) := ⟨i_negI⟩
instance r_tst : Rd1 (dTst T ρ QB) (T ρ fun r ρ1 => ∃ b, r = .dat (.bool b) ∧ QB b ρ1) := ⟨i_tst⟩
instance r_tru : Rd1 (dTru T ρ QB) (T ρ fun r ρ1 => ∃ d, lookD ρ1 r = some d ∧ trOk d ∧ QB (truD d) ρ1) := ⟨i_tru⟩
instance r_and : Rd1 (dAnd tA tB ρ QB) (tA ρ fun c ρ1 => if c = true then tB ρ1 QB else QB false ρ1) := ⟨i_and⟩
instance r_or : Rd1 (dOr tA tB ρ QB) (tA ρ fun c ρ1 => if c = true then QB true ρ1 else tB ρ1 QB) := ⟨i_or⟩
instance r_not : Rd1 (dNot tA ρ QB) (tA ρ fun c ρ1 => QB (!c) ρ1) := ⟨i_not⟩
instance r_notV : Rd1 (dNotV T ρ QD) (T ρ fun r ρ1 => ∃ d, lookD ρ1 r = some d ∧ trOk d ∧ QD (.dat (.bool (!truD d))) ρ1) := ⟨i_notV⟩
instance r_andV : Rd1 (dAndV Ta Tb ρ QD) (Ta ρ fun r ρ1 => ∃ d, lookD ρ1 r = some d ∧ trOk d ∧ if truD d = true then Tb ρ1 QD else QD r ρ1) := ⟨i_andV⟩
instance r_orV : Rd1 (dOrV Ta Tb ρ QD) (Ta ρ fun r ρ1 => ∃ d, lookD ρ1 r = some d ∧ trOk d ∧ if truD d = true then QD r ρ1 else Tb ρ1 QD) := ⟨i_orV⟩
instance r_if : Rd1 (dIf c Ta Tb ρ QD) (c ρ fun b ρ1 => if b = true then Ta ρ1 QD else Tb ρ1 QD) := ⟨i_if⟩
instance r_nil : Rd1 (dNil ρ QA) (QA [] ρ) := ⟨i_nil⟩
instance r_cons : Rd1 (dCons T TA ρ QA) (T ρ fun r ρ1 => TA ρ1 fun rs ρ2 => QA (r :: rs) ρ2) := ⟨i_cons⟩
instance r_tup : Rd1 (dTup TA ρ QD) (TA ρ fun rs ρ1 => ∃ svs ρ2 ds, frzAll ρ1 rs = some (svs, ρ2) ∧ datas svs = some ds ∧ ds.length ≤ sizeLine ∧ QD (.dat (.tuple ds)) ρ2) := ⟨i_tup⟩
instance r_lst : Rd1 (dLst TA ρ QD) (TA ρ fun rs ρ1 => ∃ svs ρ2 ds, frzAll ρ1 rs = some (svs, ρ2) ∧ datas svs = some ds ∧ ds.length ≤ sizeLine ∧ QD (.own ds) ρ2) := ⟨i_lst⟩
instance r_dic : Rd1 (dDic ρ QD) (QD (.dat (.dict [])) ρ) := ⟨i_dic⟩
instance r_cal : Rd1 (dCal gc TA ρ QD) (TA ρ fun rs ρ1 => ∃ ds, looks ρ1 rs = some ds ∧ gc ds fun sv => QD sv ρ1) := ⟨i_cal⟩
instance r_call : Rd1 (dCall S TA ρ QD) (TA ρ fun rs ρ1 => ∃ svs ρ2, frzAll ρ1 rs = some (svs, ρ2) ∧ S svs fun sv => QD sv ρ2) := ⟨i_call⟩
instance r_isi : Rd1 (dIsi Ty T ρ QD) (T ρ fun r ρ1 => ∃ d, lookD ρ1 r = some d ∧ QD (.dat (.bool (isiOf Ty d))) ρ1) := ⟨i_isi⟩
instance r_lenT : Rd1 (g1 gLen [.tuple xs] G) (G (.dat (.int xs.length))) := ⟨i_lenT⟩
instance r_lenL : Rd1 (g1 gLen [.list xs] G) (G (.dat (.int xs.length))) := ⟨i_lenL⟩
instance r_gcons : Rd1 (gCons' g gs (d :: ds) ρ Q) (g d ρ fun ρ1 => gs ds ρ1 Q) := ⟨i_gcons⟩
instance r_gnil : Rd1 (gNil' [] ρ Q) (Q ρ) := ⟨i_gnil⟩
instance r_enum : Rd1 (dEnum T ρ Q1) (T ρ fun r ρ1 => ∃ d ρ2 ds, frz1 ρ1 r = some (.dat d, ρ2) ∧ lstTup d = some ds ∧ Q1 (enumD ds) ρ2) := ⟨i_enum⟩
instance r_enumzip : Rd1 (dEnumZip TA ρ Q1) (TA ρ fun rs ρ1 => ∃ svs ρ2 ds, frzAll ρ1 rs = some (svs, ρ2) ∧ datas svs = some ds ∧ ∃ xs ys, ds = [.tuple xs, .tuple ys] ∧ Q1 (enumD (zipD xs ys)) ρ2) := ⟨i_enumzip⟩
instance r_dit : Rd1 (dIt T ρ Q1) (T ρ fun r ρ1 => ∃ d ρ2 ds, frz1 ρ1 r = some (.dat d, ρ2) ∧ itemsD d = some ds ∧ Q1 ds ρ2) := ⟨i_dit⟩
instance r_slT : Rd1 (gSl (.tuple xs) lo hi G) (G (.dat (.tuple (cutD xs lo hi)))) := ⟨i_slT⟩
instance r_slL : Rd1 (gSl (.list xs) lo hi G) (G (.own (cutD xs lo hi))) := ⟨i_slL⟩
instance r_sl : Rd1 (dSl T Tl Th ρ QD) (T ρ fun r ρ1 => Tl ρ1 fun l ρ2 => Th ρ2 fun u ρ3 => ∃ d, lookD ρ3 r = some d ∧ gSl d l u fun sv => QD sv ρ3) := ⟨i_sl⟩
instance r_oN : Rd1 (oNone ρ QO) (QO none ρ) := ⟨i_oN⟩
instance r_oS : Rd1 (oSome T ρ QO) (T ρ fun r ρ1 => ∃ i, lookD ρ1 r = some (.int i) ∧ QO (some i) ρ1) := ⟨i_oS⟩
instance r_rng : Rd1 (dRng TA ρ Q1) (TA ρ fun rs ρ1 => ∃ ds, looks ρ1 rs = some ds ∧ ∃ j, ds = [.int j] ∧ -(2 ^ 62) ≤ j ∧ j < 2 ^ 62 ∧ Q1 (rngD 0 j.toNat) ρ1) := ⟨i_rng⟩
instance r_absI : Rd1 (g1 gAbs [.int a] G) (G (.dat (.int (if a < 0 then -a else a)))) := ⟨i_absI⟩
instance r_intI : Rd1 (g1 gInt [.int a] G) (G (.dat (.int a))) := ⟨i_intI⟩
instance r_intB : Rd1 (g1 gInt [.bool k] G) (G (.dat (.int (if k then 1 else 0)))) := ⟨i_intB⟩
instance r_tupL : Rd1 (g1 gTuple [.list xs] G) (G (.dat (.tuple xs))) := ⟨i_tupL⟩
instance r_lstT : Rd1 (g1 gList [.tuple xs] G) (G (.own xs)) := ⟨i_lstT⟩
instance r_lc : Rd1 (dLc W g tA T vs ρ QD) (W ρ fun ds ρ1 => lcT g tA T vs (fun acc ρ' => QD (.own acc) (wipeD ρ' vs)) ds [] ρ1) := ⟨i_lc⟩
instance r_yes : Rd1 (dYes ρ QB) (QB true ρ) := ⟨i_yes⟩
instance r_par : Rd1 (dPar i j Ta Tb E ρ) (Ta ρ fun r1 ρ1 => ∃ s1 ρ1', sto1 ρ1 r1 = some (s1, ρ1') ∧ Tb ρ1' fun r2 ρ2 => ∃ s2 ρ3, sto1 ρ2 r2 = some (s2, ρ3) ∧ (i < ρ3.length ∧ j < ρ3.length) ∧ E.nx ((ρ3.set i (some s1)).set j (some s2))) := ⟨i_par⟩
instance r_strN : Rd1 (g1 gStr [.none] G) (G (.dat (.str "None"))) := ⟨i_strN⟩
instance r_setIx : Rd1 (dSetIx i T Tk E ρ) (T ρ fun r ρ1 => ∃ d ρ2, frz1 ρ1 r = some (.dat d, ρ2) ∧ (∃ ys, ρ2[i]? = some (some (.own ys))) ∧ Tk ρ2 fun rk ρ3 => ∃ z j xs, lookD ρ3 rk = some (.int z) ∧ ρ3[i]? = some (some (.own xs)) ∧ ixN xs.length z = some j ∧ E.nx (ρ3.set i (some (.own (xs.set j d))))) := ⟨i_setIx⟩
instance r_callK : Rd1 (dCallK np nk S pm TA TK ρ QD) (TA ρ fun rs ρ1 => TK ρ1 fun ks ρ2 => rs.length = np ∧ ks.length = nk ∧ ∃ svs ρ3, frzAll ρ2 (rs ++ ks) = some (svs, ρ3) ∧ S (rearr pm svs) fun sv => QD sv ρ3) := ⟨i_callK⟩
instance r_iadd : Rd1 (gIAdd (.int a) (.int b) G) (G (.dat (.int (a + b)))) := ⟨i_iadd⟩
instance r_isub : Rd1 (gISub (.int a) (.int b) G) (G (.dat (.int (a - b)))) := ⟨i_isub⟩
instance r_asg2 : Rd1 (dAsg2 T g1' g2' E ρ) (T ρ fun r ρ1 => ∃ d ρ2, frz1 ρ1 r = some (.dat d, ρ2) ∧ g1' d ρ2 fun ρ3 => g2' d ρ3 E.nx) := ⟨i_asg2⟩
instance r_cnt : Rd1 (dCnt To Ta ρ QD) (To ρ fun r ρ1 => (∃ ds, lookD ρ1 r = some (.tuple ds)) ∧ Ta ρ1 fun r2 ρ2 => ∃ ds d, lookD ρ2 r = some (.tuple ds) ∧ lookD ρ2 r2 = some d ∧ SeqAt.shaped (.tuple ds) = true ∧ SeqAt.shaped d = true ∧ QD (.dat (.int ((ds.countP fun z => PyData.eqv z d : Nat) : Int))) ρ2) := ⟨i_cnt⟩
instance r_mk : Rd1 (dMk TA ρ QD) (TA ρ fun rs ρ1 => ∃ i w n xs, rs = [.orf i, .dat (.str w), .dat (.int n)] ∧ ρ1[i]? = some (some (.own xs)) ∧ (∀ x ∈ xs, isStg x) ∧ xs.length ≤ 1000 ∧ QD (.dat .none) (ρ1.set i (some (.own (mkStg xs w n))))) := ⟨i_mk⟩
instance r_hcons : Rd1 (hCons T TA ρ Q2) (T ρ fun r ρ1 => ∃ s ρ2, sto1 ρ1 r = some (s, ρ2) ∧ TA ρ2 fun ss ρ3 => Q2 (s :: ss) ρ3) := ⟨i_hcons⟩
instance r_rev : Rd1 (dUn gRev T ρ QD) (T ρ fun r ρ1 => ∃ d, lookD ρ1 r = some d ∧ gRev d fun sv => QD sv ρ1) := ⟨i_rev⟩
instance r_revL : Rd1 (gRev (.list xs) G) (G (.own xs.reverse)) := ⟨i_revL⟩
instance r_revT : Rd1 (gRev (.tuple xs) G) (G (.dat (.tuple xs.reverse))) := ⟨i_revT⟩
instance r_callIf : Rd1 (dCallIf C S1 S2 TA ρ QD) (C ρ fun b ρ1 => if b = true then dCall S1 TA ρ1 QD else dCall S2 TA ρ1 QD) := ⟨i_callIf⟩
instance r_neB : Rd1 (gNe (.bool k) (.bool k') G) (G (.dat (.bool (k != k')))) := ⟨c_neB⟩
instance r_eqB : Rd1 (gEq (.bool k) (.bool k') G) (G (.dat (.bool (k == k')))) := ⟨c_eqB⟩
instance r_max2 : Rd1 (g2 gMax [.int a, .int b] G) (G (.dat (.int (max a b)))) := ⟨c_max2⟩
instance r_min2 : Rd1 (g2 gMin [.int a, .int b] G) (G (.dat (.int (min a b)))) := ⟨c_min2⟩
instance r_rng2 : Rd1 (dRng2 TA ρ Q1) (TA ρ fun rs ρ1 => ∃ ds, looks ρ1 rs = some ds ∧ ∃ i j, ds = [.int i, .int j] ∧ (-(2 ^ 62) ≤ i ∧ i < 2 ^ 62 ∧ -(2 ^ 62) ≤ j ∧ j < 2 ^ 62) ∧ Q1 (rngD i (j - i).toNat) ρ1) := ⟨c_rng2⟩
instance r_chain : Rd1 (dChain gg gg' Ta Tb Tc ρ QD) (Ta ρ fun r1 ρ1 => Tb ρ1 fun r2 ρ2 => ∃ d e, lookD ρ2 r1 = some d ∧ lookD ρ2 r2 = some e ∧ gg d e fun sv => ∃ k, sv = .dat (.bool k) ∧ if k = true then Tc ρ2 fun r3 ρ3 => ∃ e' f, lookD ρ3 r2 = some e' ∧ lookD ρ3 r3 = some f ∧ gg' e' f fun sv => QD sv ρ3 else QD (.dat (.bool false)) ρ2) := ⟨i_chain⟩
instance r_par3 : Rd1 (dPar3 i j l Ta Tb Tc E ρ) (Ta ρ fun r1 ρ1 => ∃ s1 ρ1', sto1 ρ1 r1 = some (s1, ρ1') ∧ Tb ρ1' fun r2 ρ2 => ∃ s2 ρ2', sto1 ρ2 r2 = some (s2, ρ2') ∧ Tc ρ2' fun r3 ρ3 => ∃ s3 ρ4, sto1 ρ3 r3 = some (s3, ρ4) ∧ (i < ρ4.length ∧ j < ρ4.length ∧ l < ρ4.length) ∧ E.nx (((ρ4.set i (some s1)).set j (some s2)).set l (some s3))) := ⟨i_par3⟩
end
end DL
/-! Reading rules found by their heads: what a state holds, found by instances too. -/
namespace DL
open PySem L2
class SlotC (ρ : DS) (i : Nat) (x : outParam (Option SV)) : Prop where
  h : ρ[i]? = some x
instance sl_0 {x : Option SV} {ρ : DS} : SlotC (x :: ρ) 0 x := ⟨rfl⟩
instance sl_s {x y : Option SV} {ρ : DS} {i : Nat} [k : SlotC ρ i x] : SlotC (y :: ρ) (i + 1) x := ⟨by rw [List.getElem?_cons_succ]; exact k.h⟩
class SetC (ρ : DS) (i : Nat) (x : Option SV) (ρ' : outParam DS) : Prop where
  h : ρ.set i x = ρ'
  l : i < ρ.length
instance st_0 {x y : Option SV} {ρ : DS} : SetC (y :: ρ) 0 x (x :: ρ) := ⟨rfl, by simp⟩
instance st_s {x y : Option SV} {ρ ρ' : DS} {i : Nat} [k : SetC ρ i x ρ'] : SetC (y :: ρ) (i + 1) x (y :: ρ') := ⟨by rw [List.set_cons_succ, k.h], by have := k.l; simp; omega⟩
theorem SetC.len {ρ ρ' : DS} {i : Nat} {x : Option SV} (k : SetC ρ i x ρ') : ρ'.length = ρ.length := by rw [← k.h, List.length_set]
class LookC (ρ : DS) (r : SV) (d : outParam PyData) : Prop where
  h : lookD ρ r = some d
instance lk_d {ρ : DS} {d : PyData} : LookC ρ (.dat d) d := ⟨rfl⟩
instance lk_o {ρ : DS} {xs : List PyData} : LookC ρ (.own xs) (.list xs) := ⟨rfl⟩
instance lk_fo {ρ : DS} {i : Nat} {xs : List PyData} [k : SlotC ρ i (some (.own xs))] : LookC ρ (.orf i) (.list xs) := ⟨by simp only [lookD, k.h]⟩
class Frz1C (ρ : DS) (r : SV) (sv : outParam SV) (ρ' : outParam DS) : Prop where
  h : frz1 ρ r = some (sv, ρ')
  l : ρ'.length = ρ.length
instance fz_d {ρ : DS} {d : PyData} : Frz1C ρ (.dat d) (.dat d) ρ := ⟨rfl, rfl⟩
instance fz_o {ρ : DS} {xs : List PyData} : Frz1C ρ (.own xs) (.dat (.list xs)) ρ := ⟨rfl, rfl⟩
instance fz_k {ρ : DS} : Frz1C ρ .dk .dk ρ := ⟨rfl, rfl⟩
instance fz_f {ρ ρ' : DS} {i : Nat} {xs : List PyData} [k : SlotC ρ i (some (.own xs))] [m : SetC ρ i (some (.dat (.list xs))) ρ'] : Frz1C ρ (.orf i) (.dat (.list xs)) ρ' := ⟨by simp only [frz1, k.h, m.h], m.len⟩
class StoC (ρ : DS) (r : SV) (sv : outParam SV) (ρ' : outParam DS) : Prop where
  h : sto1 ρ r = some (sv, ρ')
  l : ρ'.length = ρ.length
instance so_d {ρ : DS} {d : PyData} : StoC ρ (.dat d) (.dat d) ρ := ⟨rfl, rfl⟩
instance so_o {ρ : DS} {xs : List PyData} : StoC ρ (.own xs) (.own xs) ρ := ⟨rfl, rfl⟩
instance so_k {ρ : DS} : StoC ρ .dk .dk ρ := ⟨rfl, rfl⟩
instance so_f {ρ ρ' : DS} {i : Nat} {sv : SV} [k : Frz1C ρ (.orf i) sv ρ'] : StoC ρ (.orf i) sv ρ' := ⟨k.h, k.l⟩
class FrzAC (ρ : DS) (rs : List SV) (svs : outParam (List SV)) (ρ' : outParam DS) : Prop where
  h : frzAll ρ rs = some (svs, ρ')
instance fa_n {ρ : DS} : FrzAC ρ [] [] ρ := ⟨rfl⟩
instance fa_c {ρ ρ1 ρ2 : DS} {r sv : SV} {rs svs : List SV} [k : Frz1C ρ r sv ρ1] [m : FrzAC ρ1 rs svs ρ2] : FrzAC ρ (r :: rs) (sv :: svs) ρ2 := ⟨by simp only [frzAll, k.h, m.h, Option.bind_some]⟩
class DatsC (svs : List SV) (ds : outParam (List PyData)) : Prop where
  h : datas svs = some ds
instance da_n : DatsC [] [] := ⟨rfl⟩
instance da_c {d : PyData} {svs : List SV} {ds : List PyData} [k : DatsC svs ds] : DatsC (.dat d :: svs) (d :: ds) := ⟨by simp only [datas, k.h, Option.bind_some]⟩
class LooksC (ρ : DS) (rs : List SV) (ds : outParam (List PyData)) : Prop where
  h : looks ρ rs = some ds
instance ls_n {ρ : DS} : LooksC ρ [] [] := ⟨rfl⟩
instance ls_c {ρ : DS} {r : SV} {d : PyData} {rs : List SV} {ds : List PyData} [k : LookC ρ r d] [m : LooksC ρ rs ds] : LooksC ρ (r :: rs) (d :: ds) := ⟨by simp only [looks, k.h, m.h, Option.bind_some]⟩
class LenC {α : Type} (xs : List α) (n : Nat) : Prop where
  h : xs.length = n
instance le_n {α : Type} : LenC ([] : List α) 0 := ⟨rfl⟩
instance le_c {α : Type} {x : α} {xs : List α} {n : Nat} [k : LenC xs n] : LenC (x :: xs) (n + 1) := ⟨by rw [List.length_cons, k.h]⟩
class SmallC {α : Type} (xs : List α) (n : Nat) : Prop where
  h : xs.length ≤ n
instance sm_n {α : Type} {n : Nat} : SmallC ([] : List α) n := ⟨Nat.zero_le _⟩
instance sm_c {α : Type} {x : α} {xs : List α} {n : Nat} [k : SmallC xs n] : SmallC (x :: xs) (n + 1) := ⟨by have := k.h; rw [List.length_cons]; omega⟩
class AtC (xs : List PyData) (a : Int) (d : outParam PyData) : Prop where
  h : atI xs a = some d
theorem at_nat {xs : List PyData} {n : Nat} {d : PyData} (h : xs[n]? = some d) : atI xs (n : Int) = some d := by
  have hl : n < xs.length := by
    rcases Nat.lt_or_ge n xs.length with h1 | h1
    · exact h1
    · rw [List.getElem?_eq_none h1] at h; cases h
  unfold atI ixN
  rw [if_pos (by omega), if_pos (by omega)]
  exact h
instance at_0 {x : PyData} {xs : List PyData} : AtC (x :: xs) 0 x := ⟨at_nat (n := 0) rfl⟩
instance at_1 {a x : PyData} {xs : List PyData} : AtC (a :: x :: xs) 1 x := ⟨at_nat (n := 1) rfl⟩
instance at_2 {a b x : PyData} {xs : List PyData} : AtC (a :: b :: x :: xs) 2 x := ⟨at_nat (n := 2) rfl⟩
instance at_3 {a b c x : PyData} {xs : List PyData} : AtC (a :: b :: c :: x :: xs) 3 x := ⟨at_nat (n := 3) rfl⟩
section
variable {ρ ρ' ρ'' : DS} {T : DTE} {g : DTG} {gs : DTGs} {QD : SV → DS → Prop} {i j l n : Nat} {d e a b : PyData} {xs ys ds : List PyData} {G : SV → Prop} {S : DSp} {svs svs' rs : List SV} {Q : DS → Prop} {r r1 r2 sv s1 s2 s3 : SV} {P : PyData → Prop} {P2 : PyData → PyData → Prop} {PD : PyData → DS → Prop} {PL : List PyData → DS → Prop} {PS : SV → DS → Prop} {PA : List SV → DS → Prop} {PX : List PyData → Prop} {p q : Prop} {z : Int} {PZ : Int → Prop} {c : Bool} {PB : Bool → Prop}
instance q_varD [k : SlotC ρ i (some (.dat d))] : Rd1 (dVar i ρ QD) (QD (.dat d) ρ) := ⟨fun h => i_varD k.h h⟩
instance q_varO [k : SlotC ρ i (some (.own xs))] : Rd1 (dVar i ρ QD) (QD (.orf i) ρ) := ⟨fun h => i_varO k.h h⟩
instance q_varK [k : SlotC ρ i (some .dk)] : Rd1 (dVar i ρ QD) (QD .dk ρ) := ⟨fun h => i_varK k.h h⟩
instance q_two [k : LookC ρ r1 a] [m : LookC ρ r2 b] : Rd1 (∃ d e, lookD ρ r1 = some d ∧ lookD ρ r2 = some e ∧ P2 d e) (P2 a b) := ⟨fun h => ⟨a, b, k.h, m.h, h⟩⟩
instance q_one [k : LookC ρ r a] : Rd1 (∃ d, lookD ρ r = some d ∧ P d) (P a) := ⟨fun h => ⟨a, k.h, h⟩⟩
instance q_oneI [k : LookC ρ r (.int z)] : Rd1 (∃ i : Int, lookD ρ r = some (.int i) ∧ PZ i) (PZ z) := ⟨fun h => ⟨z, k.h, h⟩⟩
instance q_frz [k : Frz1C ρ r (.dat a) ρ'] : Rd1 (∃ d ρ2, frz1 ρ r = some (.dat d, ρ2) ∧ PD d ρ2) (PD a ρ') := ⟨fun h => ⟨a, ρ', k.h, h⟩⟩
instance q_itL [k : Frz1C ρ r (.dat (.list xs)) ρ'] : Rd1 (∃ d ρ2 ds, frz1 ρ r = some (.dat d, ρ2) ∧ itemsD d = some ds ∧ PL ds ρ2) (PL xs ρ') := ⟨fun h => ⟨_, ρ', xs, k.h, rfl, h⟩⟩
instance q_itT [k : Frz1C ρ r (.dat (.tuple xs)) ρ'] : Rd1 (∃ d ρ2 ds, frz1 ρ r = some (.dat d, ρ2) ∧ itemsD d = some ds ∧ PL ds ρ2) (PL xs ρ') := ⟨fun h => ⟨_, ρ', xs, k.h, rfl, h⟩⟩
instance q_ltL [k : Frz1C ρ r (.dat (.list xs)) ρ'] : Rd1 (∃ d ρ2 ds, frz1 ρ r = some (.dat d, ρ2) ∧ lstTup d = some ds ∧ PL ds ρ2) (PL xs ρ') := ⟨fun h => ⟨_, ρ', xs, k.h, rfl, h⟩⟩
instance q_ltT [k : Frz1C ρ r (.dat (.tuple xs)) ρ'] : Rd1 (∃ d ρ2 ds, frz1 ρ r = some (.dat d, ρ2) ∧ lstTup d = some ds ∧ PL ds ρ2) (PL xs ρ') := ⟨fun h => ⟨_, ρ', xs, k.h, rfl, h⟩⟩
instance q_sto [k : StoC ρ r sv ρ'] [m : SetC ρ' i (some sv) ρ''] : Rd1 (i < ρ.length ∧ ∃ sv ρ2, sto1 ρ r = some (sv, ρ2) ∧ Q (ρ2.set i (some sv))) (Q ρ'') := ⟨fun h => ⟨by rw [← k.l]; exact m.l, sv, ρ', k.h, by rw [m.h]; exact h⟩⟩
instance q_sto2 [k : StoC ρ r sv ρ'] : Rd1 (∃ s ρ2, sto1 ρ r = some (s, ρ2) ∧ PS s ρ2) (PS sv ρ') := ⟨fun h => ⟨sv, ρ', k.h, h⟩⟩
instance q_par [k : SetC ρ i (some s1) ρ'] [m : SetC ρ' j (some s2) ρ''] : Rd1 ((i < ρ.length ∧ j < ρ.length) ∧ Q ((ρ.set i (some s1)).set j (some s2))) (Q ρ'') := ⟨fun h => ⟨⟨k.l, by rw [← k.len]; exact m.l⟩, by rw [k.h, m.h]; exact h⟩⟩
instance q_fra [k : FrzAC ρ rs svs' ρ'] : Rd1 (∃ svs ρ2, frzAll ρ rs = some (svs, ρ2) ∧ PA svs ρ2) (PA svs' ρ') := ⟨fun h => ⟨svs', ρ', k.h, h⟩⟩
instance q_frd [k : FrzAC ρ rs svs' ρ'] [m : DatsC svs' xs] : Rd1 (∃ svs ρ2 ds, frzAll ρ rs = some (svs, ρ2) ∧ datas svs = some ds ∧ PL ds ρ2) (PL xs ρ') := ⟨fun h => ⟨svs', ρ', xs, k.h, m.h, h⟩⟩
instance q_lks [k : LooksC ρ rs xs] : Rd1 (∃ ds, looks ρ rs = some ds ∧ PX ds) (PX xs) := ⟨fun h => ⟨xs, k.h, h⟩⟩
instance q_len [k : SmallC xs 20] : Rd1 (xs.length ≤ sizeLine ∧ p) p := ⟨fun h => ⟨Nat.le_trans k.h (by decide), h⟩⟩
instance q_tst : Rd1 (∃ b, SV.dat (.bool c) = .dat (.bool b) ∧ PB b) (PB c) := ⟨fun h => ⟨c, rfl, h⟩⟩
instance q_okB : Rd1 (trOk (.bool c) ∧ p) p := ⟨fun h => ⟨trivial, h⟩⟩
instance q_okI : Rd1 (trOk (.int z) ∧ p) p := ⟨fun h => ⟨trivial, h⟩⟩
instance q_okL : Rd1 (trOk (.list xs) ∧ p) p := ⟨fun h => ⟨trivial, h⟩⟩
instance q_okT : Rd1 (trOk (.tuple xs) ∧ p) p := ⟨fun h => ⟨trivial, h⟩⟩
instance q_okN : Rd1 (trOk .none ∧ p) p := ⟨fun h => ⟨trivial, h⟩⟩
instance q_ifb : Rd1 (if truD (.bool c) = true then p else q) (if c = true then p else q) := ⟨fun h => h⟩
instance q_ift {x : Decidable (true = true)} : Rd1 (@ite Prop (true = true) x p q) p := ⟨fun h => by rw [if_pos rfl]; exact h⟩
instance q_iff {x : Decidable (false = true)} : Rd1 (@ite Prop (false = true) x p q) q := ⟨fun h => by rw [if_neg (fun z => Bool.noConfusion z)]; exact h⟩
instance q_nm [k : SetC ρ i (some (.dat d)) ρ'] : Rd1 (gNm i d ρ Q) (Q ρ') := ⟨fun h => i_nm (by rw [k.h]; exact h) k.l⟩
instance q_tu [k : LenC xs n] : Rd1 (gTu n gs (.tuple xs) ρ Q) (gs xs ρ Q) := ⟨fun h => i_tu h k.h⟩
instance q_ixT [k : AtC xs z d] : Rd1 (gIx (.tuple xs) (.int z) G) (G (.dat d)) := ⟨fun h => i_ixT k.h h⟩
instance q_ixL [k : AtC xs z d] : Rd1 (gIx (.list xs) (.int z) G) (G (.dat d)) := ⟨fun h => i_ixL k.h h⟩
instance q_szc [k : LenC svs n] : Rd1 (sz n S svs G) (S svs G) := ⟨fun h => i_szc k.h h⟩
instance q_app0 [k : SlotC ρ i (some (.own ys))] : Rd1 (dApp i T ρ QD) (T ρ fun r ρ1 => ∃ d ρ2 xs, frz1 ρ1 r = some (.dat d, ρ2) ∧ ρ2[i]? = some (some (.own xs)) ∧ xs.length < sizeLine ∧ QD (.dat .none) (ρ2.set i (some (.own (xs ++ [d]))))) := ⟨fun h => i_app k.h h⟩
instance q_app [k : Frz1C ρ r (.dat a) ρ'] [m : SlotC ρ' i (some (.own ys))] [o : SetC ρ' i (some (.own (ys ++ [a]))) ρ''] : Rd1 (∃ d ρ2 xs, frz1 ρ r = some (.dat d, ρ2) ∧ ρ2[i]? = some (some (.own xs)) ∧ xs.length < sizeLine ∧ Q (ρ2.set i (some (.own (xs ++ [d]))))) (ys.length < sizeLine ∧ Q ρ'') := ⟨fun h => ⟨a, ρ', ys, k.h, m.h, h.1, by rw [o.h]; exact h.2⟩⟩
end
theorem mps {x : SV} {l : List SV} : List.map some (x :: l) = some x :: List.map some l := rfl
theorem mpn : List.map (some : SV → Option SV) [] = [] := rfl
theorem aps {x : Option SV} {l m : DS} : (x :: l) ++ m = x :: (l ++ m) := rfl
theorem apn {m : DS} : ([] : DS) ++ m = m := rfl
end DL
/-! xs[-1:] = ys, xs a list of one's own -/
namespace DL
open PySem L2 PySem.Spec PyProof.Rows
section
variable {prog : Program} {w : World} {A : Around} {E : Value → Shared → Prop} {s : Shared}
theorem cutJoin {α : Type} (xs ys : Array α) (n : Nat) (h : xs.size = n + 1) : xs.extract 0 n ++ ys ++ xs.extract (n + 1) xs.size = (xs.toList.dropLast ++ ys.toList).toArray := by
  apply Array.toList_inj.mp
  rw [List.toList_toArray, Array.toList_append, Array.toList_append, Array.toList_extract, Array.toList_extract]
  have e : xs.toList.length = n + 1 := by rw [Array.length_toList]; exact h
  simp only [List.extract_eq_take_drop, List.drop_zero, Nat.sub_zero]
  rw [show xs.size - (n + 1) = 0 by omega, List.take_zero, List.append_nil, List.dropLast_eq_take, e]
  rfl
theorem storeLast {l b sl : Addr} {xs ys : Array Value} {n m k : Nat} {vl vu vs : Value} {Q : Unit → Shared → Prop}
    (e : s.heap.get? l = some { cls := .type "list", data := .seq xs m }) (e2 : s.heap.get? b = some { cls := .type "list", data := .seq ys k }) (ne : l ≠ b) (hn : xs.size = n + 1)
    (hs : s.heap.IsSliceOf sl vl vu vs) (pl : IsPart vl (some (-1))) (pu : IsPart vu none) (ps : IsPart vs none) (hz : xs.size + ys.size ≤ sizeLine)
    (h : Q () { s with heap := s.heap.update l (Obj.mapSeq fun xs => xs.extract 0 n ++ ys ++ xs.extract (n + 1) xs.size) }) :
    wpAny (model prog w) A (setItem (.ref l) (.ref sl) (.ref b)) Q E s := by
  obtain ⟨os, q1, q2, q3⟩ := id hs
  have hl : s.heap.IsList l xs := PySem.IsL.isList e
  have hb : s.heap.IsList b ys := PySem.IsL.isList e2
  have ty : s.TypeIs (.ref sl) "slice" := ⟨os, q1, q2⟩
  have ns : Builtin.List.listSameRef (.ref l) (.ref b) = false := beq_eq_false_iff_ne.mpr ne
  have bd : sliceBounds (some (-1)) none none xs.size = ((n : Int), ((n + 1 : Nat) : Int), 1) := by
    obtain ⟨b1, b2, b3⟩ := slice_bounds (some (-1)) none xs.size
    have e1 : HT.sIx xs.size 0 (some (-1)) = n := by unfold HT.sIx; simp only; rw [if_pos (by decide), hn]; omega
    have e3 : HT.sIx xs.size xs.size none = n + 1 := hn
    rw [e1] at b1; rw [e3] at b2
    exact Prod.ext b1 (Prod.ext b2 b3)
  have mx : (max (n : Int) ((n + 1 : Nat) : Int)).toNat = n + 1 := by omega
  have fits : ((fun z : Array Value => z.extract 0 n ++ ys ++ z.extract (n + 1) z.size) xs).size ≤ sizeLine + 1 := by
    simp only [Array.size_append, Array.size_extract]; omega
  have long : Builtin.List.listTooLong (xs.size + ys.size) = false := notLongL hz
  unfold setItem
  with_reducible refine wpAny_holding ?_
  first | refine wpAny_bind (wpAny_pure ?_) | skip
  refine wpAny_bind (wpAny_sequenceKey hl.typeIs (by decide) (wpAny_bind (wpAny_callSpecial?_slot (name := Str.ofString "__setitem__") hl.typeIs slot_list_setitem (wpAny_call_entry slot_list_setitem hl.typeIs entry_list_setitem ?_ (args_list_setitem _ _ _)))))
  show wpAny _ _ (Builtin.List.listSubscript? (.ref sl) >>= _) _ _ s
  unfold Builtin.List.listSubscript?
  refine wpAny_bind (wpAny_bind (wpAny_specialOf ty slice_no_index ?_))
  rw [if_pos (by rfl)]
  refine wpAny_pure ?_
  show wpAny _ _ (typeOf (.ref sl) >>= _) _ _ s
  refine wpAny_bind (wpAny_typeOf ty ?_)
  rw [if_neg (by decide), listSliceParts_eq]
  refine wpAny_bind (wpAny_bind (wpAny_field q1 q3 (x := vs) rfl (wpAny_bind (wpAny_listPart ps ?_))))
  rw [if_neg (show ¬ ((rawPart none == rawInt 0) = true) from Bool.false_ne_true)]
  refine wpAny_bind (wpAny_field q1 q3 (x := vl) rfl (wpAny_bind (wpAny_listPart pl (wpAny_bind (wpAny_field q1 q3 (x := vu) rfl (wpAny_bind (wpAny_listPart pu (wpAny_pure ?_))))))))
  dsimp only
  rw [if_neg (by rw [ns]; exact Bool.false_ne_true)]
  unfold Builtin.List.listAllItems Builtin.List.listItems
  refine wpAny_bind (wpAny_bind (wpAny_typeOf hb.typeIs ?_))
  rw [if_pos (by decide)]
  refine wpAny_bind (wpAny_seqItems e2 rfl (wpAny_pure (wpAny_bind (wpAny_bind (wpAny_seqItems e rfl (wpAny_pure (wpAny_bind (wpAny_of_eq ((sliceIndices_raw (some (-1)) none none xs.size (by simp)).trans (congrArg (pure : Int × Int × Int → Sem (Int × Int × Int)) bd)) ?_))))))))
  show wpAny _ _ (if ((1 : Int) == 1) = true then _ else _) _ _ s
  rw [if_pos (by decide)]
  refine wpAny_bind (wpAny_rule ?_)
  rw [if_neg (by rw [long]; exact Bool.false_ne_true)]
  first | refine wpAny_bind (wpAny_pure ?_) | skip
  show wpAny _ _ (updateSeq l (fun z => z.extract 0 ((n : Int)).toNat ++ ys ++ z.extract (max (n : Int) ((n + 1 : Nat) : Int)).toNat z.size) >>= _) _ _ s
  rw [mx, Int.toNat_natCast]
  refine wpAny_bind (wpAny_updateSeq (hz := Nat.le_trans (Nat.le_add_right _ _) hz) (_hz' := fits) e rfl (wpAny_bind (wpAny_letGo ?_)))
  first
    | exact wpAny_bind (wpAny_pure (wpAny_pure ⟨.none, rfl, wpAny_pure h⟩))
    | exact wpAny_pure ⟨.none, rfl, wpAny_pure h⟩
end
/-- the target xs[-1:], xs a name -/
def gLast (i : Nat) : TG := fun v σ H Q => ∃ a b xs ys, σ[i]? = some (some (.ref a)) ∧ v = .ref b ∧ a ≠ b ∧ H a = some (.lst xs) ∧ H b = some (.lst ys) ∧ xs ≠ [] ∧ xs.length + ys.length ≤ sizeLine ∧ Q σ (upd H a (.lst (xs.dropLast ++ ys)))
section
variable {X : Cx} {K : PySem.W.Frag} {x : Str} {p p1 p2 p3 pos spos : Pos} {k : Nat} {e : Expr} {T : DTE} {te : TE}
abbrev lastSl (k : Nat) (p1 p2 p3 : Pos) : Expr := .Slice (some (.UnaryOp .USub (.Constant (.int 1) k p1) p2)) none none p3
theorem pg_last (i : Nat) (hN : X.N[i]? = some x) (hv : Vis X.env.scope x) (hd : (x == ("__debug__" : Str)) = false) (hcd : (x == ("__classdict__" : Str)) = false)
    (ha : ∀ v, assign (.Subscript (.Name x p) (lastSl k p1 p2 p3) pos) X.env v = (do
      let ov ← holding [v] (eval (.Name x p) X.env)
      let iv ← holding [v, ov] (eval (lastSl k p1 p2 p3) X.env)
      standAt pos
      holding [v, ov, iv] (setItem ov iv v)
      release [iv, v, ov] [])) : PG X (.Subscript (.Name x p) (lastSl k p1 p2 p3) pos) (gLast i) := by
  refine ⟨fun pins s σ H v u Q I r h => ?_⟩
  obtain ⟨a, b, xs, ys, hi, rfl, ne, hA, hB, hx, hz, q⟩ := h
  cases r
  rw [ha]
  have pv : PE X (.Name x p) (tVar i) := pe_var hN hv hd hcd
  refine wpAny_bind (wpAny_holding (thn (pv.run pins s σ H (fun z H' => z = .ref a ∧ H' = H) I ⟨.ref a, hi, rfl, rfl⟩) ?_))
  rintro ov s1 ⟨y, H1, I1, r1, rfl, rfl⟩
  cases r1
  have st : PO X (some (.UnaryOp .USub (.Constant (.int 1) k p1) p2)) (tPart (tUn (rU fun i => .int (-i)) (tC (.int 1)))) := po_some (pe_un un_neg pe_int)
  refine wpAny_bind (wpAny_holding (wpAny_Slice (thn (st.run pins s1 σ H1 (fun o H3 => o = some (-1) ∧ H3 = H1) I1 ⟨1, rfl, -1, rfl, rfl, rfl⟩) ?_)))
  rintro vl s2 ⟨o, H2, I2, pl, rfl, rfl⟩
  refine thn (po_none.run pins s2 σ H2 (fun o H3 => o = none ∧ H3 = H2) I2 ⟨rfl, rfl⟩) ?_
  rintro vu s3 ⟨o2, H3, I3, pu, rfl, rfl⟩
  refine thn (po_none.run pins s3 σ H3 (fun o H4 => o = none ∧ H4 = H3) I3 ⟨rfl, rfl⟩) ?_
  rintro vs s4 ⟨o3, H4, I4, ps, rfl, rfl⟩
  have I5 : Inv X pins σ H4 { s4 with heap := s4.heap.push { cls := .type "slice", data := .fields #[vl, vu, vs] } } := I4.kept (t' := s4.toks) fun b ob q => Heap.get?_push_of_some _ q
  obtain ⟨z1, its, n1, v1, l1, e1⟩ := I5.lstM hA
  obtain ⟨z2, its2, n2, v2, l2, e2⟩ := I5.lstM hB
  have hpos := List.length_pos_iff.mpr hx
  have hsz : its.toArray.size = its.length - 1 + 1 := by rw [List.size_toArray]; omega
  refine wpAny_bind (wpAny_standAt (wpAny_bind (wpAny_holding (storeLast (n := its.length - 1) e1 e2 ne hsz (Heap.IsSliceOf.new _ vl vu vs) pl pu ps (by rw [List.size_toArray, List.size_toArray]; omega) ?_))))
  refine wpAny_release ⟨σ, _, I5.lset (its' := its.dropLast ++ its2) (t' := s4.toks) hA e1 (cutJoin _ _ _ hsz) (Vals.append v1.dropLast v2) ?_, q⟩
  rw [List.length_append, List.length_dropLast]
  omega
def dSetLast (i : Nat) (T : DTE) : DTS := fun E ρ => T ρ fun r ρ1 => ∃ ds xs, r = .own ds ∧ ρ1[i]? = some (some (.own xs)) ∧ xs ≠ [] ∧ xs.length + ds.length ≤ sizeLine ∧ E.nx (ρ1.set i (some (.own (xs.dropLast ++ ds))))
theorem Das.dropLast {Av : Addr → Prop} {H : Hp} {ds : List PyData} {xs : List V} (h : Das K Av H ds xs) : Das K Av H ds.dropLast xs.dropLast := by
  rw [List.dropLast_eq_take, List.dropLast_eq_take, h.length]
  exact Das.take _ h
theorem ss_setLast {i : Nat} (s : ES K te T) : SS K (tAsg te (gLast i)) (dSetLast i T) := by
  intro F A σ H ρ D E hK R h k
  refine s F A σ H ρ _ _ hK R h fun r ρ1 v H1 A1 h1 R1 t1 w1 => ?_
  obtain ⟨ds, xs, rfl, e1, hx, hz, h2⟩ := h1
  obtain ⟨b, us, rfl, n1, n2, n3, hb, db, R2⟩ := w1
  obtain ⟨a, vs, q1, q2, q3, q4⟩ := R1.ownAt e1
  have ne : a ≠ b := fun z => n3 (.inr ⟨i, by rw [← z]; exact q1⟩)
  have db2 : Das F.K (AvC F A1) H1 ds us := db.anti fun c z => avc_plus.mpr (.inl z)
  have l1 := q4.length
  have l2 := db2.length
  obtain ⟨R4, t4⟩ := R1.ownList q1 e1 (Das.app q4.dropLast db2)
  exact ⟨a, b, vs, us, q2, rfl, ne, q3, hb, fun z => hx (List.eq_nil_of_length_eq_zero (by rw [l1, z]; rfl)), by omega, k.1 _ _ _ _ h2 R4 (t1.trans t4)⟩
theorem ds_setLast (i : Nat) (he : DE K X e te T) (hN : X.N[i]? = some x := by rfl) (hv : Vis X.env.scope x := by first | exact Or.inl rfl | exact Or.inr (Or.inl rfl) | exact Or.inr (Or.inr rfl))
    (ha : ∀ v, assign (.Subscript (.Name x p) (lastSl k p1 p2 p3) pos) X.env v = (do
      let ov ← holding [v] (eval (.Name x p) X.env)
      let iv ← holding [v, ov] (eval (lastSl k p1 p2 p3) X.env)
      standAt pos
      holding [v, ov, iv] (setItem ov iv v)
      release [iv, v, ov] []) := by intro _; rfl)
    (hs : swapsWithSole [.Subscript (.Name x p) (lastSl k p1 p2 p3) pos] e spos.line X.env = pure false := by rfl) (hw : swappedStores [.Subscript (.Name x p) (lastSl k p1 p2 p3) pos] e X.env = pure none := by rfl)
    (h1 : (assignEach [.Subscript (.Name x p) (lastSl k p1 p2 p3) pos] X.env).map (·.2) = [assign (.Subscript (.Name x p) (lastSl k p1 p2 p3) pos) X.env] := by rfl)
    (hd : (x == ("__debug__" : Str)) = false := by decide) (hcd : (x == ("__classdict__" : Str)) = false := by decide) :
    DSt K X (.Assign [.Subscript (.Name x p) (lastSl k p1 p2 p3) pos] e spos) (tAsg te (gLast i)) (dSetLast i T) :=
  ⟨ps_asg he.p (pg_last i hN hv hd hcd ha) hs hw h1, ss_setLast he.s⟩
theorem i_setLast {i : Nat} {E : DEnds} {ρ : DS} (h : T ρ fun r ρ1 => ∃ ds xs, r = .own ds ∧ ρ1[i]? = some (some (.own xs)) ∧ xs ≠ [] ∧ xs.length + ds.length ≤ sizeLine ∧ E.nx (ρ1.set i (some (.own (xs.dropLast ++ ds))))) : dSetLast i T E ρ := h
instance r_setLast {i : Nat} {E : DEnds} {ρ : DS} : Rd1 (dSetLast i T E ρ) (T ρ fun r ρ1 => ∃ ds xs, r = .own ds ∧ ρ1[i]? = some (some (.own xs)) ∧ xs ≠ [] ∧ xs.length + ds.length ≤ sizeLine ∧ E.nx (ρ1.set i (some (.own (xs.dropLast ++ ds))))) := ⟨i_setLast⟩
end
end DL
/-! max(xs, default=c) of a list of whole numbers. -/
namespace DL
open PySem L2 PySem.Spec PyProof.Rows
section
variable {A : Around} {w : World} {prog : Program} {E : Value → Shared → Prop}
theorem mxd_args (a v : Value) : argsOk "max" ⟨[a], [(Str.ofString "default", v)]⟩ := by unfold argsOk; kernel_rfl
/-- what has been found among the first j -/
def MxAt (xs : Array (Int × Tok)) (j : Nat) : Option Value → Prop
  | none => j = 0
  | some v => ∃ m t, v = .int m t ∧ (∃ i, i < j ∧ numAt xs i = m) ∧ ∀ i, i < j → numAt xs i ≤ m
def mxArr : Option Value → Array Value
  | none => #[]
  | some v => #[v, v]
theorem mxN : (toString "max" ++ (toString ".loop" : String)) = "max.loop" := rfl
theorem mxd_loop (hh : A.handled = none) {I l S : Addr} {xs : Array (Int × Tok)} {d : Value} {R : Result → Shared → Prop} (hlI : l ≠ I) (hSI : S ≠ I) (hSl : S ≠ l) :
    ∀ (k j : Nat) (s : Shared) (cur : Option Value) (c : Nat), xs.size - j = k → j ≤ xs.size → s.heap.IsListIter I l j → s.heap.IsList l (intItems xs) → MxAt xs j cur →
    s.heap.get? S = some { cls := .type "list", dict := none, data := .seq (mxArr cur) c, slots := #[] } →
    (∀ cur h' tk, MxAt xs xs.size cur → (∀ b o, b ≠ I → b ≠ S → s.heap.get? b = some o → h'.get? b = some o) → R (.ok (.ret (cur.getD d))) { s with heap := h', toks := tk }) →
    codeAny (model prog w) A (.builtin "max.loop" ⟨[.ref I, .none, .ref S], [(Str.ofString "default", d)]⟩) R s := by
  have W := Walks.list (prog := prog) (w := w) (A := A.in1) hh I l hlI (intItems xs); have hname := mxN
  have hsz : (intItems xs).size = xs.size := Array.size_map
  intro k
  induction k with
  | zero =>
    intro j s cur c hk hj hst hls hcur hS hR
    have hin : j = xs.size := by omega
    (refine codeAny_builtin F.entry_max_loop ?_; rw [Around.under_plainId F.plain_max_loop _]; show wpAny _ A.in1 (seqItems? (.ref S) >>= _) _ _ s; refine wpAny_bind (wpAny_seqItems hS rfl ?_); show wpAny _ A.in1 (tryCatch (pyNext (.ref I)) _ >>= _) _ _ s)
    refine wpAny_bind (wpAny_tryCatch (W.done s _ _ ⟨by rw [hsz, ← hin]; exact hst, hls⟩ fun h' tk hk' => ?_))
    have hS' := hk' S _ (by simpa using hSI) hS
    cases cur with
    | none =>
      (show wpAny _ A.in1 (rule _ >>= _) _ _ _; refine wpAny_bind (wpAny_rule (wpAny_pure ?_)))
      exact hR none _ tk (by rw [← hin]; exact hcur) fun b o hbI _ e => hk' b o (by simpa using hbI) e
    | some v =>
      (show wpAny _ A.in1 (updateSeq S (fun _ => #[]) >>= _) _ _ _; refine wpAny_bind ?_)
      refine wpAny_updateSeq (hz := (Nat.le_of_ble_eq_true rfl : 2 ≤ sizeLine)) hS' rfl (wpAny_bind (wpAny_letGo (wpAny_pure ?_)))
      exact hR (some v) _ tk (by rw [← hin]; exact hcur) fun b o hbI hbS e => (Heap.get?_update_other _ _ (Ne.symm hbS)).trans (hk' b o (by simpa using hbI) e)
  | succ k ih =>
    intro j s cur c hk hj hst hls hcur hS hR
    have hlt : j < xs.size := by omega
    (refine codeAny_builtin F.entry_max_loop ?_; rw [Around.under_plainId F.plain_max_loop _]; show wpAny _ A.in1 (seqItems? (.ref S) >>= _) _ _ s; refine wpAny_bind (wpAny_seqItems hS rfl ?_); show wpAny _ A.in1 (tryCatch (pyNext (.ref I)) _ >>= _) _ _ s)
    refine wpAny_bind (wpAny_tryCatch (W.item j s _ _ (by rw [hsz]; exact hlt) ⟨hst, hls⟩ fun v h' tk hP hst' hk' => ?_))
    have hS' := hk' S _ (by simpa using hSI) hS
    obtain ⟨tv, rfl⟩ := intItems_at (by simpa using hP)
    obtain ⟨st1, st2⟩ := hst'
    have keep2 : ∀ (f : Array Value → Array Value) (h2 : h'.IsListIter I l (j + 1)), (h'.update S (Obj.mapSeq f)).IsListIter I l (j + 1) := fun f h2 => by
      obtain ⟨o, e1, e2⟩ := h2
      exact ⟨o, (Heap.get?_update_other _ _ hSI).trans e1, e2⟩
    have keep3 : ∀ (f : Array Value → Array Value) (h2 : h'.IsList l (intItems xs)), (h'.update S (Obj.mapSeq f)).IsList l (intItems xs) := fun f h2 => by
      obtain ⟨o, e1, e2⟩ := h2
      exact ⟨o, (Heap.get?_update_other _ _ hSl).trans e1, e2⟩
    have again : ∀ (v' : Value) (hm : MxAt xs (j + 1) (some v')), codeAny (model prog w) A (.builtin "max.loop" ⟨[.ref I, .none, .ref S], [(Str.ofString "default", d)]⟩) R { s with heap := h'.update S (Obj.mapSeq fun _ => #[v', v']), toks := tk } := fun v' hm =>
      ih (j + 1) _ (some v') _ (by omega) hlt (keep2 _ st1) (keep3 _ st2) hm (Heap.get?_update_self _ hS' rfl) fun cur' h'' tk'' hc' hk'' =>
        hR cur' h'' tk'' hc' fun b o hbI hbS e => hk'' b o hbI hbS ((Heap.get?_update_other _ _ (Ne.symm hbS)).trans (hk' b o (by simpa using hbI) e))
    cases cur with
    | none =>
      have hj0 : j = 0 := hcur
      show wpAny _ A.in1 (updateSeq S (fun _ => #[_, _]) >>= _) _ _ _
      refine wpAny_bind ?_
      (refine wpAny_updateSeq hS' rfl ?_; rw [hname])
      exact wpAny_pure ⟨plainId_quiet F.plain_max_loop _, again _ ⟨_, _, rfl, ⟨j, by omega, rfl⟩, fun i hi => by rw [show i = j by omega]; exact Int.le_refl _⟩⟩
    | some vb =>
      obtain ⟨m, t, rfl, ⟨ib, hib, hib2⟩, hall⟩ := hcur
      show wpAny _ A.in1 (tryCatch (holding [_, _] (richCompare .Gt _ _ >>= _)) _ >>= _) _ _ _
      refine wpAny_bind (wpAny_tryCatch (wpAny_holding (wpAny_bind (richCompare_gives (op := .Gt) (typeIs_int _ _ tv) (typeIs_int _ _ t) F.slot_int_gt F.entry_int_gt (F.args_int_gt_2 _ _) (gives_int_gt _ _ tv t) (fun x => nomatch x) ?_))))
      (refine wpAny_bind (wpAny_holding (wpAny_truthy_bool ?_)); refine wpAny_bind (wpAny_letGo (wpAny_pure ?_)))
      by_cases hb : numAt xs j > m
      · rw [decide_eq_true hb]
        simp only [if_true]
        refine wpAny_bind ?_
        refine wpAny_updateSeq (hz := (Nat.le_of_ble_eq_true rfl : 2 ≤ sizeLine)) hS' rfl (wpAny_bind (wpAny_letGo ?_))
        rw [hname]
        refine wpAny_pure ⟨plainId_quiet F.plain_max_loop _, again _ ⟨_, _, rfl, ⟨j, by omega, rfl⟩, fun i hi => ?_⟩⟩
        by_cases e : i = j
        · rw [e]; exact Int.le_refl _
        · have := hall i (by omega); omega
      · rw [decide_eq_false hb]
        (simp only [Bool.false_eq_true, if_false]; refine wpAny_bind (wpAny_letGo ?_); rw [hname])
        refine wpAny_pure ⟨plainId_quiet F.plain_max_loop _, ih (j + 1) _ (some (.int m t)) c (by omega) hlt st1 st2 ⟨m, t, rfl, ⟨ib, by omega, hib2⟩, fun i hi => ?_⟩ hS' fun cur' h'' tk'' hc' hk'' => hR cur' h'' tk'' hc' fun b o hbI hbS e => hk'' b o hbI hbS (hk' b o (by simpa using hbI) e)⟩
        by_cases e : i = j
        · rw [e]; omega
        · exact hall i (by omega)
theorem mxd_raw {s : Shared} {l : Addr} {its : List Value} {ns : List Int} {d : Value} {Q : Value → Shared → Prop} (hh : A.handled = none) (hl : s.heap.IsList l its.toArray) (hi : IntsAre its ns)
    (h : ∀ h' tk (v : Value), (∀ b o, s.heap.get? b = some o → h'.get? b = some o) → (ns = [] ∧ v = d ∨ ∃ M t, v = .int M t ∧ M ∈ ns ∧ ∀ a, a ∈ ns → a ≤ M) → Q v { s with heap := h', toks := tk }) :
    wpAny (model prog w) A (call (Value.builtin "max") [Value.ref l] [(Str.ofString "default", d)]) Q E s := by
  have hname := mxN; obtain ⟨xs, e⟩ := hi.allInts.items
  have hn : numsOf (intItems xs).toList = ns := e ▸ hi.numsOf
  (rw [nums_intItems] at hn; subst hn; rw [e] at hl)
  refine kmk_tree F.kind_max F.plain_max F.entry_max (mxd_args _ _) ?_
  have eb : Builtin.Builtins.bindParams "max" ["key", "default"] 0 ⟨[], [(Str.ofString "default", d)]⟩ = pure [none, some d] := rfl
  show wpAny _ A.in1 (Builtin.Builtins.bindParams _ _ _ _ >>= _) _ _ s
  refine wpAny_bind (wpAny_of_eq eb (wpAny_bind (wpAny_pure ?_)))
  refine wpAny_bind (iter_intList hl fun s₂ es st hfp hlI => ?_)
  subst es
  (refine wpAny_bind (wpAny_newObj_type ?_); rw [hname])
  have hI : s.heap.objs.size < (s.heap.push { cls := .type "list_iterator", data := .fields #[.ref l, .int 0 0] }).objs.size := hfp _ List.mem_cons_self
  have hL : l < (s.heap.push { cls := .type "list_iterator", data := .fields #[.ref l, .int 0 0] }).objs.size := hfp _ (List.mem_cons_of_mem _ List.mem_cons_self)
  obtain ⟨⟨oI, a1, a2⟩, ⟨oL, b1, b2⟩⟩ := st
  refine wpAny_pure ⟨plainId_quiet F.plain_max_loop _, mxd_loop hh hlI (Nat.ne_of_gt hI) (Nat.ne_of_gt hL) _ 0 _ none _ rfl (Nat.zero_le _) ⟨oI, Heap.get?_push_of_some _ a1, a2⟩ ⟨oL, Heap.get?_push_of_some _ b1, b2⟩ rfl (Heap.get?_push_size _ rfl) fun cur h' tk hc hk => ?_⟩
  have keep : ∀ b o, s.heap.get? b = some o → h'.get? b = some o := fun b o e1 => by
    have hb := Heap.lt_size e1
    exact hk b o (Nat.ne_of_lt hb) (Nat.ne_of_lt (Nat.lt_trans hb hI)) (Heap.get?_push_of_some _ (Heap.get?_push_of_some _ e1))
  refine h h' tk _ keep ?_
  cases cur with
  | none =>
    have hz : xs.size = 0 := hc
    left
    refine ⟨?_, rfl⟩
    have : xs = #[] := Array.eq_empty_of_size_eq_zero hz
    rw [this]
    rfl
  | some v =>
    obtain ⟨m, t, rfl, ⟨i, hi2, hi3⟩, hall⟩ := hc
    right
    refine ⟨m, t, rfl, ?_, fun a ha => ?_⟩
    · rw [← hi3, numAt_eq]; exact PySem.getD_mem (by rw [List.length_map, Array.length_toList]; exact hi2)
    · obtain ⟨j, hj, e⟩ := mem_getD ha
      rw [← e, ← numAt_eq]; exact hall j (by rw [List.length_map, Array.length_toList] at hj; exact hj)
end
section
variable {X : Cx} {K : PySem.W.Frag}
def rMaxDf (K : PySem.W.Frag) : List V → List V → Hp → VK → Prop := fun vs zs H Q => ∃ (a : Addr) (ns : List Int) (c : Int), vs = [V.ref a] ∧ zs = [V.int c] ∧ SqL K H a (ns.map V.int) ∧ ∀ m : Int, (ns = [] ∧ m = c ∨ m ∈ ns ∧ ∀ y, y ∈ ns → y ≤ m) → Q (.int m) H
theorem cr_maxDf (hc : X.calm = true) : CallRK X (.builtin "max") ["default"] (rMaxDf X.K) := by
  intro pins s σ H xs zs us ws Q I r r2 h
  obtain ⟨a, ns, c, rfl, rfl, hs, q⟩ := h
  obtain ⟨its, rv, hl, _⟩ := I.list hs
  rw [Vals.ref1 r]
  obtain ⟨t, rfl⟩ : ∃ t, ws = [.int c t] := by
    cases r2 with
    | cons h t =>
      cases t
      obtain ⟨t, e⟩ := h
      exact ⟨t, by rw [e]⟩
  refine mxd_raw (I.ok.hd hc) hl.isList rv.ints fun h' tk v hk hv => ?_
  rcases hv with ⟨e, rfl⟩ | ⟨M, t', rfl, h1, h2⟩
  · exact ⟨.int c, H, I.kept hk, ⟨_, rfl⟩, q c (.inl ⟨e, rfl⟩)⟩
  · exact ⟨.int M, H, I.kept hk, ⟨_, rfl⟩, q M (.inr ⟨h1, h2⟩)⟩
def gMaxDf (c : Int) : PyData → (SV → Prop) → Prop
  | .list ds, G => ∃ ns, intsOf ds = some ns ∧ ∀ m : Int, (ns = [] ∧ m = c ∨ m ∈ ns ∧ ∀ x ∈ ns, x ≤ m) → G (.dat (.int m))
  | _, _ => False
theorem cd_maxDf {c : Int} {Av : Addr → Prop} {H : Hp} {vs : List V} {ds : List PyData} {Q : VK} {G : SV → Prop} (mu : ∀ b, Av b → H b = none ∨ Mut (H b)) (h : DasT K Av H ds vs) (hg : g1 (gMaxDf c) ds G)
    (k : ∀ v H' sv, G sv → Same H H' → Res K Av H H' v sv → Q v H') : rMaxDf K vs [V.int c] H Q := by
  obtain ⟨d, e0, hgg⟩ := g1_inv hg
  clear hg
  subst e0
  obtain ⟨v, e0, hh⟩ := dasT1 h
  clear h
  subst e0
  cases d <;> try exact hgg.elim
  obtain ⟨p, xs, e, q, d⟩ := hh
  obtain ⟨ns, e2, hgg⟩ := hgg
  have e3 := intsOf_das d e2
  subst e3
  exact ⟨p, ns, c, by rw [e], rfl, SqL.of q, fun m h1 => k _ _ _ (hgg m h1) (fun _ _ z => z) res_int⟩
variable {ta : L2.TA} {TA : DTA} {e : Expr} {es : List Expr} {p pos cpos kpos : Pos} {c : Int} {cj : Nat}
theorem de_maxDf (hc : X.calm = true) (hK : X.K = K) (hm : X.mg "max" = none) (ha : DA K X (e :: es) ta TA) (hg : Gl X "max" := by rfl) (hv : bootBuiltins "max" = some (.builtin "max") := by decide +kernel) (hn : ("max" : Str) ≠ "__name__" := by decide) (hdb : (("max" : Str) == ("__debug__" : Str)) = false := by decide)
    (he : backTo pos (starEach (e :: es) X.env) = (false, eval e X.env) :: backTo pos (starEach es X.env) := by rfl) (hpl : (backTo pos (starEach (e :: es) X.env)).any (·.1) = false := by rfl) :
    DE K X (.Call (.Name "max" p) (e :: es) [⟨some "default", .Constant (.int c) cj cpos, kpos⟩] pos) (tCKw (rMaxDf K) ta (tCons (tC (.int c)) tNil)) (dCal (g1 (gMaxDf c)) TA) := by
  subst hK
  obtain ⟨pe, se⟩ := ha
  refine ⟨pe_callBK (cr_maxDf hc) hg hm hv pe (pk_cons pe_int pk_nil) hn hdb he hpl, ?_⟩
  intro F A σ H ρ Q QD hK R h k
  refine se F A σ H ρ _ _ hK R h fun rs ρ1 vs H1 A1 h1 R1 t1 w1 => ?_
  obtain ⟨ds, e, h1⟩ := h1
  show rMaxDf X.K vs [V.int c] H1 Q
  rw [← hK]
  refine cd_maxDf (Av := AvC F A1) R1.mu' (R1.looks w1 e) h1 fun v H' sv hs s w => ?_
  exact k _ _ v H' A1 hs (R1.same s) (t1.trans (sameTr s)) ((R1.res s w).back t1.trk)
end
end DL
/-! all(xs), any(xs) of a list of truth values. -/
namespace DL
open PySem L2 PySem.Spec PyProof.Rows
section
variable {K : PySem.W.Frag}
theorem das_bools {Av : Addr → Prop} {H : Hp} : ∀ {bs : List Bool} {xs : List V}, Das K Av H (bs.map PyData.bool) xs → xs = bs.map V.bl
  | [], xs, h => by simpa only [List.map_nil, Das] using h
  | b :: bs, xs, h => by
    simp only [List.map_cons, Das] at h
    obtain ⟨x, r, rfl, h1, h2⟩ := h
    have h1' : x = .bl b := by simpa only [Da] using h1
    rw [das_bools h2, h1', List.map_cons]
def gAll : PyData → (SV → Prop) → Prop
  | .list ds, G => ∃ bs : List Bool, ds = bs.map PyData.bool ∧ G (.dat (.bool (bs.all id)))
  | _, _ => False
def gAny : PyData → (SV → Prop) → Prop
  | .list ds, G => ∃ bs : List Bool, ds = bs.map PyData.bool ∧ G (.dat (.bool (bs.any id)))
  | _, _ => False
theorem cd_all : CalD K (rAll K) (g1 gAll) := by
  intro Av H vs ds Q G mu h hg k
  obtain ⟨d, e0, hgg⟩ := g1_inv hg
  clear hg
  subst e0
  obtain ⟨v, e0, hh⟩ := dasT1 h
  clear h
  subst e0
  cases d <;> try exact hgg.elim
  obtain ⟨p, xs, e, q, d⟩ := hh
  obtain ⟨bs, e2, hgg⟩ := hgg
  subst e2
  have e3 := das_bools d
  subst e3
  exact ⟨p, bs, by rw [e], SqL.of q, k _ _ _ hgg (fun _ _ z => z) res_bl⟩
theorem cd_any : CalD K (rAny K) (g1 gAny) := by
  intro Av H vs ds Q G mu h hg k
  obtain ⟨d, e0, hgg⟩ := g1_inv hg
  clear hg
  subst e0
  obtain ⟨v, e0, hh⟩ := dasT1 h
  clear h
  subst e0
  cases d <;> try exact hgg.elim
  obtain ⟨p, xs, e, q, d⟩ := hh
  obtain ⟨bs, e2, hgg⟩ := hgg
  subst e2
  have e3 := das_bools d
  subst e3
  exact ⟨p, bs, by rw [e], SqL.of q, k _ _ _ hgg (fun _ _ z => z) res_bl⟩
end
end DL
/-! x is True, x is not True: of two truth values. -/
namespace DL
open PySem L2
abbrev rIsB2 : R2 := fun x y H Q => ∃ a b, x = .bl a ∧ y = .bl b ∧ Q (.bl (decide (a = b))) H
abbrev rNotB2 : R2 := fun x y H Q => ∃ a b, x = .bl a ∧ y = .bl b ∧ Q (.bl (!decide (a = b))) H
def gIsB : G2 := fun d e G => ∃ a b, d = .bool a ∧ e = .bool b ∧ G (.dat (.bool (decide (a = b))))
def gNotB : G2 := fun d e G => ∃ a b, d = .bool a ∧ e = .bool b ∧ G (.dat (.bool (!decide (a = b))))
theorem od_isB {K : PySem.W.Frag} : OpD K rIsB2 gIsB := OpD.pure fun Av H x y d e Q G h1 h2 hg k => by
  obtain ⟨a, b, rfl, rfl, hg⟩ := hg
  exact ⟨a, b, dast_bool h1, dast_bool h2, k _ _ hg res_bl⟩
theorem od_notB {K : PySem.W.Frag} : OpD K rNotB2 gNotB := OpD.pure fun Av H x y d e Q G h1 h2 hg k => by
  obtain ⟨a, b, rfl, rfl, hg⟩ := hg
  exact ⟨a, b, dast_bool h1, dast_bool h2, k _ _ hg res_bl⟩
theorem i_isB {a b : Bool} {G : SV → Prop} (k : G (.dat (.bool (decide (a = b))))) : gIsB (.bool a) (.bool b) G := ⟨a, b, rfl, rfl, k⟩
theorem i_notB {a b : Bool} {G : SV → Prop} (k : G (.dat (.bool (!decide (a = b))))) : gNotB (.bool a) (.bool b) G := ⟨a, b, rfl, rfl, k⟩
end DL
/-! <<, >>, &, |, ^ of whole numbers. -/
namespace DL
open PySem L2
section
variable {K : PySem.W.Frag} {X : Cx} {a b : Expr} {Ta Tb : DTE} {ta tb : TE} {pos : Pos}
abbrev gShl : G2 := gII CShl fun i j => .int (i * 2 ^ j.toNat)
abbrev rShlD : R2 := rI CShl fun i j => .int (i * 2 ^ j.toNat)
theorem de_shl (ha : DE K X a ta Ta) (hb : DE K X b tb Tb) : DE K X (.BinOp a .LShift b pos) (tOp rShlD ta tb) (dBin gShl Ta Tb) := de_bin op_shlW (od_II fun _ _ _ _ => da_int) ha hb
abbrev gShr : G2 := gII (fun _ j => 0 ≤ j) fun i j => .int (i / 2 ^ j.toNat)
abbrev rShrD : R2 := rI (fun _ j => 0 ≤ j) fun i j => .int (i / 2 ^ j.toNat)
theorem de_shr (ha : DE K X a ta Ta) (hb : DE K X b tb Tb) : DE K X (.BinOp a .RShift b pos) (tOp rShrD ta tb) (dBin gShr Ta Tb) := de_bin op_shr (od_II fun _ _ _ _ => da_int) ha hb
abbrev gBAnd : G2 := gI0 fun i j => .int (Builtin.bitAnd i j)
abbrev rBAndD : R2 := rI0 fun i j => .int (Builtin.bitAnd i j)
theorem de_band (ha : DE K X a ta Ta) (hb : DE K X b tb Tb) : DE K X (.BinOp a .BitAnd b pos) (tOp rBAndD ta tb) (dBin gBAnd Ta Tb) := de_bin op_and (od_I0 fun _ _ _ _ => da_int) ha hb
abbrev gBOr : G2 := gI0 fun i j => .int (Builtin.bitOr i j)
abbrev rBOrD : R2 := rI0 fun i j => .int (Builtin.bitOr i j)
theorem de_bor (ha : DE K X a ta Ta) (hb : DE K X b tb Tb) : DE K X (.BinOp a .BitOr b pos) (tOp rBOrD ta tb) (dBin gBOr Ta Tb) := de_bin op_or (od_I0 fun _ _ _ _ => da_int) ha hb
abbrev gBXor : G2 := gI0 fun i j => .int (Builtin.bitXor i j)
abbrev rBXorD : R2 := rI0 fun i j => .int (Builtin.bitXor i j)
theorem de_bxor (ha : DE K X a ta Ta) (hb : DE K X b tb Tb) : DE K X (.BinOp a .BitXor b pos) (tOp rBXorD ta tb) (dBin gBXor Ta Tb) := de_bin op_xor (od_I0 fun _ _ _ _ => da_int) ha hb
end
section
variable {i j : Int} {G : SV → Prop}
theorem i_shl (h : CShl i j) (k : G (.dat (.int (i * 2 ^ j.toNat)))) : gShl (.int i) (.int j) G := ⟨h, k⟩
theorem i_shr (h : 0 ≤ j) (k : G (.dat (.int (i / 2 ^ j.toNat)))) : gShr (.int i) (.int j) G := ⟨h, k⟩
theorem i_band (k : G (.dat (.int (Builtin.bitAnd i j)))) : gBAnd (.int i) (.int j) G := k
theorem i_bor (k : G (.dat (.int (Builtin.bitOr i j)))) : gBOr (.int i) (.int j) G := k
theorem i_bxor (k : G (.dat (.int (Builtin.bitXor i j)))) : gBXor (.int i) (.int j) G := k
end
end DL
/-! xs.extend(e), xs a name, e a list. -/
namespace DL
open PySem L2 PySem.Spec
section
variable {K : PySem.W.Frag} {X : Cx} {e : Expr} {T : DTE} {te : TE} {pos p : Pos}
def dExt (i : Nat) (T : DTE) : DTE := fun ρ QD => (∃ ys, ρ[i]? = some (some (.own ys))) ∧ T ρ fun r ρ1 => ∃ zs ρ2 xs, frz1 ρ1 r = some (.dat (.list zs), ρ2) ∧ ρ2[i]? = some (some (.own xs)) ∧ xs.length + zs.length ≤ sizeLine ∧ QD (.dat .none) (ρ2.set i (some (.own (xs ++ zs))))
theorem es_ext {i : Nat} (s : ES K te T) : ES K (tBM K "list" rExtend (tVar i) (tCons te tNil)) (dExt i T) := by
  intro F A σ H ρ Q QD hK R h k
  obtain ⟨⟨ys, h0⟩, h⟩ := h
  obtain ⟨a, vs, q1, q2, q3, q4⟩ := R.ownAt h0
  refine ⟨.ref a, q2, .inl ⟨rfl, vs, SqL.of q3⟩, ?_⟩
  refine s F A σ H ρ _ _ hK R h fun r ρ1 v H1 A1 h1 R1 t1 w1 => ?_
  obtain ⟨zs, ρ2, xs, e1, e2, hl, h2⟩ := h1
  obtain ⟨A2, R2, t2, w2, _⟩ := R1.frz1 w1.rw e1
  obtain ⟨a', vs', p1, p2, p3, p4⟩ := R2.ownAt e2
  rw [q2] at p2
  cases p2
  have w3 : Da F.K (AvC F A2) H1 (.list zs) v := w2
  simp only [Da] at w3
  obtain ⟨b, us, rfl, nb, hb, dz⟩ := w3
  obtain ⟨R3, t3⟩ := R2.ownList p1 e2 (Das.app p4 dz)
  exact ⟨a, b, vs', us, rfl, rfl, p3, hb, by rw [← p4.length, ← dz.length]; exact hl, k _ _ _ _ A2 h2 R3 (t1.trans (t2.trans t3)) (by show Da _ _ _ _ _; simp only [Da])⟩
theorem de_ext {x : Str} {apos : Pos} (i : Nat) (he : DE K X e te T) (hK : X.K = K := by rfl) (hN : X.N[i]? = some x := by rfl) (hv : Vis X.env.scope x := by first | exact Or.inl rfl | exact Or.inr (Or.inl rfl) | exact Or.inr (Or.inr rfl)) (hd : (x == ("__debug__" : Str)) = false := by decide)
    (hcd : (x == ("__classdict__" : Str)) = false := by decide)
    (hbase : attributeBase (.Name x p) "extend" X.env (eval (.Name x p) X.env) = eval (.Name x p) X.env := by rfl)
    (hfew : ((backTo pos (starEach [e] X.env)).all (fun x => !x.1) && (backToKw pos (keywordEach [] X.env)).all (fun x => x.1.isSome)
      && decide ([e].length + ([] : List Keyword).length + (if ([] : List Keyword).isEmpty then 0 else 1) < 30)) = true := by rfl)
    (hline : (apos.endLine == pos.line) = true := by rfl) (hs : starEach [e] X.env = (false, eval e X.env) :: starEach [] X.env := by rfl) (hplain : (backTo pos (starEach [] X.env)).any (·.1) = false := by rfl) :
    DE K X (.Call (.Attribute (.Name x p) "extend" apos) [e] [] pos) (tBM K "list" rExtend (tVar i) (tCons te tNil)) (dExt i T) :=
  ⟨hK ▸ pe_bm PySem.F.plainAttrs_list PySem.F.slot_list_extend PySem.F.type_list_extend mt_extend (pe_var hN hv hd hcd) (pa_cons he.p pa_nil hs) hbase hfew hline hs hplain, es_ext he.s⟩
theorem i_ext {i : Nat} {ρ : DS} {ys : List PyData} {QD : SV → DS → Prop} (h0 : ρ[i]? = some (some (.own ys))) (k : T ρ fun r ρ1 => ∃ zs ρ2 xs, frz1 ρ1 r = some (.dat (.list zs), ρ2) ∧ ρ2[i]? = some (some (.own xs)) ∧ xs.length + zs.length ≤ sizeLine ∧ QD (.dat .none) (ρ2.set i (some (.own (xs ++ zs))))) : dExt i T ρ QD := ⟨⟨ys, h0⟩, k⟩
end
end DL
/-! range over whole numbers of any size. -/
namespace L2
open PySem PySem.Spec PyProof.Rows
theorem turn_long {P : Program} {w : World} {K : PySem.W.Frag} {tg : Expr} (it : Addr) (lo : Int) (n : Nat) : Turn P w K tg (Itr lo n) [it] it (fun i h => IsLongIter h it (lo + (i : Nat) * 1) ((n : Int) - (i : Nat)) 1) where
  mem := by simp
  obj := fun i h st b hb => by
    have e : b = it := by simpa using hb
    subst e
    exact ⟨_, st, fun v z => by
      have z' : Data.fields _ = Data.cell v := z
      cases z'⟩
  keep := fun i h h' st k => k it (by simp) _ st
  item := by
    intro X hP hw hK hc i pins s σ H E I hf st hg
    subst hP hw hK
    obtain ⟨f0, f1, f2, f3, f4, f5⟩ := hf it (by simp)
    have W := Walks.longrange (prog := X.prog) (w := X.w) (I.ok.hd hc) it lo 1 n
    refine W.item i s _ _ hg st fun v h' tk hv st' kk => ?_
    obtain ⟨t, rfl⟩ := hv
    have I1 : Inv X pins σ H { s with heap := h', toks := tk } := I.turned (fun b o hb e => kk b o (by simpa using hb) e) f0 f1 f3 f4 f5
    refine ⟨_, rfl, go_of (s := { s with heap := h', toks := tk }) (n := "longrange_iterator") st' rfl rfl (by decide) ⟨.int (lo + i), H, I1, ⟨t, ?_⟩, ⟨rfl, rfl⟩, st', fun b hb => (hf b hb).1⟩⟩
    rw [Int.mul_one]
  done := by
    intro X hP hw hK hc i pins s σ H E I hf st hg
    subst hP hw hK
    obtain ⟨f0, f1, f2, f3, f4, f5⟩ := hf it (by simp)
    exact wpAny_pyNext_long_end (I.ok.hd hc) st (by have : n ≤ i := hg; omega) fun h' eb => ⟨rfl, I.turned (t' := s.toks) (fun b o hb e => eb b o hb e) f0 f1 f3 f4 f5⟩
  self := fun _ _ _ _ _ st h => wpAny_pyIter_longiter st h
section
variable {X : Cx} {tg : Expr}
theorem range_itW {pins : List (Addr × Obj)} {σ : St} {H : Hp} {s : Shared} {R : It → Hp → Prop} {E : Value → Shared → Prop} {lo hi : Int} {t u v : Tok} {tk : Nat} (I : Inv X pins σ H s)
    (q : R (Itr lo (hi - lo).toNat) H) : wpAny (model X.prog X.w) X.A (pyIter (.ref s.heap.objs.size)) (PIE X pins σ tg R) E { s with heap := s.heap.push { cls := .type "range", data := .fields #[.int lo t, .int hi u, .int 1 v] }, toks := tk } := by
  have I1 : Inv X pins σ H { s with heap := s.heap.push { cls := .type "range", data := .fields #[.int lo t, .int hi u, .int 1 v] }, toks := tk } := I.kept fun b o e => Heap.get?_push_of_some _ e
  have e1 : lo + ((0 : Nat) : Int) * 1 = lo := by simp
  have e2 : (((hi - lo).toNat : Nat) : Int) - ((0 : Nat) : Int) = Builtin.Range.rangeSize lo hi 1 := by rw [rangeSize_one]; split <;> omega
  by_cases hs : Builtin.Range.small lo hi 1 = true
  · refine wpAny_pyIter_range (IsRange.new ..) hs ?_
    refine ⟨(s.heap.push { cls := .type "range", data := .fields #[.int lo t, .int hi u, .int 1 v] }).objs.size, [(s.heap.push { cls := .type "range", data := .fields #[.int lo t, .int hi u, .int 1 v] }).objs.size], _, _, H, rfl,
      I1.kept (t' := tk) fun b o e => Heap.get?_push_of_some _ e, turn_range _ lo (hi - lo).toNat, ?_, fun b hb => ?_, q⟩
    · show IsRangeIter _ _ (lo + ((0 : Nat) : Int) * 1) ((((hi - lo).toNat : Nat) : Int) - ((0 : Nat) : Int)) 1
      rw [e1, e2]
      exact Heap.get?_push_size _ rfl
    · have e : b = (s.heap.push { cls := .type "range", data := .fields #[.int lo t, .int hi u, .int 1 v] }).objs.size := by simpa using hb
      subst e
      exact I1.fpOk (Nat.le_refl _) (I1.hok.fresh (Nat.le_refl _))
  · refine wpAny_pyIter_longrange (IsRange.new ..) (by simpa using hs) ?_
    refine ⟨(s.heap.push { cls := .type "range", data := .fields #[.int lo t, .int hi u, .int 1 v] }).objs.size, [(s.heap.push { cls := .type "range", data := .fields #[.int lo t, .int hi u, .int 1 v] }).objs.size], _, _, H, rfl,
      I1.kept (t' := tk) fun b o e => Heap.get?_push_of_some _ e, turn_long _ lo (hi - lo).toNat, ?_, fun b hb => ?_, q⟩
    · show IsLongIter _ _ (lo + ((0 : Nat) : Int) * 1) ((((hi - lo).toNat : Nat) : Int) - ((0 : Nat) : Int)) 1
      rw [e1, e2]
      exact Heap.get?_push_size _ rfl
    · have e : b = (s.heap.push { cls := .type "range", data := .fields #[.int lo t, .int hi u, .int 1 v] }).objs.size := by simpa using hb
      subst e
      exact I1.fpOk (Nat.le_refl _) (I1.hok.fresh (Nat.le_refl _))
def iRng2W (ta : TA) : TI := fun σ H R => ta σ H fun vs H1 => ∃ i j : Int, vs = [.int i, .int j] ∧ R (Itr i (j - i).toNat) H1
theorem pi_range2W {a b : Expr} {ta : TA} {p pos : Pos} (hg : Gl X "range") (hm : X.mg "range" = none) (ha : PA X [a, b] ta) (hs : starEach [a, b] X.env = [(false, eval a X.env), (false, eval b X.env)] := by rfl) (hs2 : starEach [b] X.env = [(false, eval b X.env)] := by rfl) :
    PI X tg (.Call (.Name "range" p) [a, b] [] pos) (iRng2W ta) := by
  refine ⟨fun pins s σ H R I h => ?_⟩
  refine Call_ (ld_blt I hg hm boot_range (PyProof.Rows.callWith_type1 (thn (ha.run pos pins s σ H _ I h) fun us s1 ⟨vs, H1, I1, r1, q1⟩ => ?_) (by rw [hs, hs2]) (by rw [hs2]; rfl)))
  obtain ⟨i, j, e, q⟩ := q1
  subst e
  cases r1 with
  | cons r rr =>
    cases rr with
    | cons r' rr =>
      cases rr
      obtain ⟨t, rfl⟩ := r
      obtain ⟨t', rfl⟩ := r'
      exact call_range_2 (range_itW I1 q)
end
end L2
namespace DL
open PySem L2
section
variable {K : PySem.W.Frag} {X : Cx} {tg : Expr} {pos p : Pos} {a c : Expr} {TA : DTA} {ta : L2.TA} {ρ : DS} {Q1 : List PyData → DS → Prop}
def dRng2W (TA : DTA) : DTI := fun ρ Q => TA ρ fun rs ρ1 => ∃ ds, looks ρ1 rs = some ds ∧ ∃ i j, ds = [.int i, .int j] ∧ Q (rngD i (j - i).toNat) ρ1
theorem di_range2W (ha : DA K X [a, c] ta TA) (hg : Gl X "range" := by rfl) (hm : X.mg "range" = none) (hs : starEach [a, c] X.env = [(false, eval a X.env), (false, eval c X.env)] := by rfl) (hs2 : starEach [c] X.env = [(false, eval c X.env)] := by rfl) : DI false K X tg (.Call (.Name "range" p) [a, c] [] pos) (iRng2W ta) (dRng2W TA) := by
  refine ⟨pi_range2W hg hm ha.p hs hs2, fun F A σ H ρ R QD hK R0 h k => ?_⟩
  refine ha.s F A σ H ρ _ _ hK R0 h fun rs ρ1 vs H1 A1 h1 R1 t1 w1 => ?_
  obtain ⟨ds, e, i, j, ej, h2⟩ := h1
  subst ej
  have q := R1.looks w1 e
  cases q with
  | cons q1 q2 =>
    cases q2 with
    | cons q3 q4 =>
      cases q4
      rw [dast_int q1, dast_int q3]
      exact ⟨i, j, rfl, k _ _ _ _ _ h2 R1 t1 yields_range⟩
theorem c_rng2W (h : TA ρ fun rs ρ1 => ∃ ds, looks ρ1 rs = some ds ∧ ∃ i j, ds = [.int i, .int j] ∧ Q1 (rngD i (j - i).toNat) ρ1) : dRng2W TA ρ Q1 := h
end
end DL
/-! o.index(e), o a list over data: the first place of an equal one. -/
namespace DL
open PySem L2 PySem.Spec PyProof.Rows
section
variable {X : Cx} {K : PySem.W.Frag}
def dIdx (To Ta : DTE) : DTE := fun ρ QD => To ρ fun r ρ1 => (∃ ds, lookD ρ1 r = some (.list ds)) ∧ Ta ρ1 fun r2 ρ2 => ∃ ds d, lookD ρ2 r = some (.list ds) ∧ lookD ρ2 r2 = some d ∧ SeqAt.shaped (.list ds) = true ∧ SeqAt.shaped d = true ∧ ∃ (j : Nat) (z : PyData), ds[j]? = some z ∧ PyData.eqv z d = true ∧ (∀ (m : Nat) (z' : PyData), m < j → ds[m]? = some z' → PyData.eqv z' d = false) ∧ QD (.dat (.int (j : Nat))) ρ2
theorem de_idx {o e : Expr} {To Ta : DTE} {to ta : TE} {apos pos : Pos} (hu : X.A.units + 65 < cLine) (ho : DE K X o to To) (ha : DE K X e ta Ta) (hK : X.K = K := by rfl)
    (hbase : attributeBase o "index" X.env (eval o X.env) = eval o X.env := by rfl)
    (hfew : ((backTo pos (starEach [e] X.env)).all (fun x => !x.1) && (backToKw pos (keywordEach [] X.env)).all (fun x => x.1.isSome) && decide ([e].length + ([] : List Keyword).length + (if ([] : List Keyword).isEmpty then 0 else 1) < 30)) = true := by rfl)
    (hline : (apos.endLine == pos.line) = true := by rfl) (hst : starEach [e] X.env = (false, eval e X.env) :: starEach [] X.env := by rfl) (hpl : (backTo pos (starEach [] X.env)).any (·.1) = false := by rfl) :
    DE K X (.Call (.Attribute o "index" apos) [e] [] pos) (tBM K "list" (rIndexD K) to (tCons ta tNil)) (dIdx To Ta) := by
  refine ⟨hK ▸ pe_bm PySem.F.plainAttrs_list PySem.F.slot_list_index PySem.F.type_list_index (mt_indexD hu) ho.p (pa_cons ha.p pa_nil hst) hbase hfew hline hst hpl, ?_⟩
  intro F A σ H ρ Q QD hF R h k
  refine ho.s F A σ H ρ _ _ hF R h fun r ρ1 v H1 A1 h1 R1 t1 w1 => ?_
  obtain ⟨⟨ds0, e0⟩, h1⟩ := h1
  subst hF
  have dt0 := R1.look w1.rw e0
  refine ⟨?_, ?_⟩
  · obtain ⟨a, xs, e1, q, _⟩ := dt0
    subst e1
    exact .inl ⟨rfl, xs, SqL.of q⟩
  · refine ha.s F A1 σ H1 ρ1 _ _ rfl R1 h1 fun r2 ρ2 v2 H2 A2 h2 R2 t2 w2 => ?_
    obtain ⟨ds, d, e1, e2, s1, s2, j, z, z1, z2, z3, h2⟩ := h2
    have d1 := R2.look (R1.rw t2 w1.rw) e1
    have dp1 := d1.toDp s1
    have d2 := R2.look w2.rw e2
    obtain ⟨a, xs, ea, q, _⟩ := d1
    subst ea
    exact ⟨a, v2, d, ds, j, z, rfl, rfl, dp1, d2.toDp s2, s1, s2, z1, z2, z3, k _ _ _ H2 A2 h2 R2 (t1.trans t2) (by show Da _ _ _ _ _; simp only [Da])⟩
theorem i_idx {To Ta : DTE} {ρ : DS} {QD : SV → DS → Prop} (h : To ρ fun r ρ1 => (∃ ds, lookD ρ1 r = some (.list ds)) ∧ Ta ρ1 fun r2 ρ2 => ∃ ds d, lookD ρ2 r = some (.list ds) ∧ lookD ρ2 r2 = some d ∧ SeqAt.shaped (.list ds) = true ∧ SeqAt.shaped d = true ∧ ∃ (j : Nat) (z : PyData), ds[j]? = some z ∧ PyData.eqv z d = true ∧ (∀ (m : Nat) (z' : PyData), m < j → ds[m]? = some z' → PyData.eqv z' d = false) ∧ QD (.dat (.int (j : Nat))) ρ2) : dIdx To Ta ρ QD := h
end
end DL
/-! (a if c else b) as a test. -/
namespace DL
open PySem L2 PySem.Spec PyProof.Rows
section
variable {X : Cx} {K : PySem.W.Frag} {a b c : Expr} {pos : Pos} {uA uB uC : TT} {tA tB tC : DTT}
def tIfT (t ta tb : TT) : TT := fun σ H Q => t σ H fun d H1 => if d = true then ta σ H1 Q else tb σ H1 Q
theorem pt_ifT (hc : PT X c uC) (ha : PT X a uA) (hb : PT X b uB) : PT X (.IfExp c a b pos) (tIfT uC uA uB) := by
  refine ⟨fun pins s σ H Q I h => ?_⟩
  show wpAny _ _ (do if ← isTrue c X.env (eval c X.env) then isTrue a X.env (eval a X.env) else isTrue b X.env (eval b X.env)) _ _ s
  refine wpAny_bind (wpAny_mono (hc.run pins s σ H _ I h) (fun d s1 h1 => ?_) fun _ _ x => x)
  obtain ⟨H1, I1, q1⟩ := h1
  cases d with
  | true => exact ha.run pins s1 σ H1 Q I1 q1
  | false => exact hb.run pins s1 σ H1 Q I1 q1
def dIfT (t Ta Tb : DTT) : DTT := fun ρ QD => t ρ fun c ρ1 => if c = true then Ta ρ1 QD else Tb ρ1 QD
theorem dt_ifT (hc : DT K X c uC tC) (ha : DT K X a uA tA) (hb : DT K X b uB tB) : DT K X (.IfExp c a b pos) (tIfT uC uA uB) (dIfT tC tA tB) := by
  obtain ⟨p, s⟩ := hc
  obtain ⟨pa, sa⟩ := ha
  obtain ⟨pb, sb⟩ := hb
  refine ⟨pt_ifT p pa pb, ?_⟩
  intro F A σ H ρ Q QD hK R q k
  refine s F A σ H ρ _ _ hK R q fun c ρ1 H1 A1 h1 R1 t1 => ?_
  cases c with
  | true => exact sa F A1 σ H1 ρ1 _ _ hK R1 h1 fun c' ρ2 H2 A2 h2 R2 t2 => k _ _ _ _ h2 R2 (t1.trans t2)
  | false => exact sb F A1 σ H1 ρ1 _ _ hK R1 h1 fun c' ρ2 H2 A2 h2 R2 t2 => k _ _ _ _ h2 R2 (t1.trans t2)
theorem i_ifTT {t Ta Tb : DTT} {ρ : DS} {QD : Bool → DS → Prop} (h : t ρ fun c ρ1 => if c = true then Ta ρ1 QD else Tb ρ1 QD) : dIfT t Ta Tb ρ QD := h
instance r_ifT {t Ta Tb : DTT} {ρ : DS} {QD : Bool → DS → Prop} : Rd1 (dIfT t Ta Tb ρ QD) (t ρ fun c ρ1 => if c = true then Ta ρ1 QD else Tb ρ1 QD) := ⟨i_ifTT⟩
end
end DL
/-! xs.pop(e), xs a name with an own list. -/
namespace DL
open PySem L2 PySem.Spec
section
variable {K : PySem.W.Frag} {X : Cx} {e : Expr} {T : DTE} {te : TE} {pos p : Pos}
theorem Das.erase {Av : Addr → Prop} {H : Hp} : ∀ {ds : List PyData} {xs : List V} (n : Nat), Das K Av H ds xs → Das K Av H (ds.eraseIdx n) (xs.eraseIdx n)
  | [], [], n, h => by simpa using h
  | [], x :: xs, n, h => by simp [Das] at h
  | d :: ds, [], n, h => by simp [Das] at h
  | d :: ds, x :: xs, 0, h => by
    simp only [Das] at h
    obtain ⟨y, ys, e, h1, h2⟩ := h
    cases e
    exact h2
  | d :: ds, x :: xs, n + 1, h => by
    simp only [Das] at h
    obtain ⟨y, ys, e, h1, h2⟩ := h
    cases e
    exact Das.cons h1 (Das.erase n h2)
def dPopAt (i : Nat) (T : DTE) : DTE := fun ρ QD => (∃ ys, ρ[i]? = some (some (.own ys))) ∧ T ρ fun r ρ1 => ∃ z xs j d, lookD ρ1 r = some (.int z) ∧ ρ1[i]? = some (some (.own xs)) ∧ -(2 ^ 63) ≤ z ∧ z < 2 ^ 63 ∧ ixN xs.length z = some j ∧ xs[j]? = some d ∧ QD (.dat d) (ρ1.set i (some (.own (xs.eraseIdx j))))
theorem es_popAt {i : Nat} (s : ES K te T) : ES K (tBM K "list" rPopAt (tVar i) (tCons te tNil)) (dPopAt i T) := by
  intro F A σ H ρ Q QD hK R h k
  obtain ⟨⟨ys, h0⟩, h⟩ := h
  obtain ⟨a, vs, q1, q2, q3, q4⟩ := R.ownAt h0
  refine ⟨.ref a, q2, .inl ⟨rfl, vs, SqL.of q3⟩, ?_⟩
  refine s F A σ H ρ _ _ hK R h fun r ρ1 v H1 A1 h1 R1 t1 w1 => ?_
  obtain ⟨z, xs, j, d, e1, e2, b1, b2, hj, hd, h2⟩ := h1
  have w2 : Da F.K (AvC F A1) H1 (.int z) v := R1.look w1.rw e1
  simp only [Da] at w2
  subst w2
  obtain ⟨a', vs', p1, p2, p3, p4⟩ := R1.ownAt e2
  rw [q2] at p2
  cases p2
  obtain ⟨y, hy, dy⟩ := p4.get hd
  obtain ⟨R3, t3⟩ := R1.ownList p1 e2 (Das.erase j p4)
  exact ⟨a, vs', z, j, y, rfl, rfl, p3, b1, b2, by rw [← p4.length]; exact (ixN_seq hj).1, hy, k _ _ _ _ A1 h2 R3 (t1.trans t3) (R1.rw t3 (show RW F A1 σ H1 y (.dat d) from dy))⟩
theorem de_popAt {x : Str} {apos : Pos} (i : Nat) (he : DE K X e te T) (hK : X.K = K := by rfl) (hN : X.N[i]? = some x := by rfl) (hv : Vis X.env.scope x := by first | exact Or.inl rfl | exact Or.inr (Or.inl rfl) | exact Or.inr (Or.inr rfl)) (hd : (x == ("__debug__" : Str)) = false := by decide)
    (hcd : (x == ("__classdict__" : Str)) = false := by decide)
    (hbase : attributeBase (.Name x p) "pop" X.env (eval (.Name x p) X.env) = eval (.Name x p) X.env := by rfl)
    (hfew : ((backTo pos (starEach [e] X.env)).all (fun x => !x.1) && (backToKw pos (keywordEach [] X.env)).all (fun x => x.1.isSome)
      && decide ([e].length + ([] : List Keyword).length + (if ([] : List Keyword).isEmpty then 0 else 1) < 30)) = true := by rfl)
    (hline : (apos.endLine == pos.line) = true := by rfl) (hs : starEach [e] X.env = (false, eval e X.env) :: starEach [] X.env := by rfl) (hplain : (backTo pos (starEach [] X.env)).any (·.1) = false := by rfl) :
    DE K X (.Call (.Attribute (.Name x p) "pop" apos) [e] [] pos) (tBM K "list" rPopAt (tVar i) (tCons te tNil)) (dPopAt i T) :=
  ⟨hK ▸ pe_bm PySem.F.plainAttrs_list PySem.F.slot_list_pop PySem.F.type_list_pop mt_popAt (pe_var hN hv hd hcd) (pa_cons he.p pa_nil hs) hbase hfew hline hs hplain, es_popAt he.s⟩
theorem i_popAt {i : Nat} {ρ : DS} {ys : List PyData} {QD : SV → DS → Prop} (h0 : ρ[i]? = some (some (.own ys))) (k : T ρ fun r ρ1 => ∃ z xs j d, lookD ρ1 r = some (.int z) ∧ ρ1[i]? = some (some (.own xs)) ∧ -(2 ^ 63) ≤ z ∧ z < 2 ^ 63 ∧ ixN xs.length z = some j ∧ xs[j]? = some d ∧ QD (.dat d) (ρ1.set i (some (.own (xs.eraseIdx j))))) : dPopAt i T ρ QD := ⟨⟨ys, h0⟩, k⟩
end
end DL
/-! xs[k], y = a pair, xs a name with an own list. -/
namespace DL
open PySem L2 PySem.Spec
section
variable {K : PySem.W.Frag} {X : Cx} {e : Expr} {T : DTE} {te : TE} {pos p : Pos}
def dIxPar (i j : Nat) (T Tk : DTE) : DTS := fun E ρ => T ρ fun r ρ1 => ∃ d1 d2 ρ2, frz1 ρ1 r = some (.dat (.tuple [d1, d2]), ρ2) ∧ (∃ ys, ρ2[i]? = some (some (.own ys))) ∧ Tk ρ2 fun rk ρ3 => ∃ z n xs, lookD ρ3 rk = some (.int z) ∧ ρ3[i]? = some (some (.own xs)) ∧ ixN xs.length z = some n ∧ j < ρ3.length ∧ E.nx ((ρ3.set i (some (.own (xs.set n d1)))).set j (some (.dat d2)))
theorem ss_ixPar {i j : Nat} {tk : TE} {Tk : DTE} (s : ES K te T) (sk : ES K tk Tk) : SS K (tAsg te (gTup K 2 (gCons (L2.gSub (tVar i) tk rSetL) (gCons (gName j) gNil)))) (dIxPar i j T Tk) := by
  intro F A σ H ρ D E hK R h k
  refine s F A σ H ρ _ _ hK R h fun r ρ1 v H1 A1 h1 R1 t1 w1 => ?_
  obtain ⟨d1, d2, ρ2, e1, ⟨ys, e2⟩, h2⟩ := h1
  obtain ⟨A2, R2, t2, w2, _⟩ := R1.frz1 w1.rw e1
  have w3 : Da F.K (AvC F A2) H1 (.tuple [d1, d2]) v := w2
  simp only [Da] at w3
  obtain ⟨pa, xs0, rfl, hq, hd⟩ := w3
  simp only [Das] at hd
  obtain ⟨v1, vr, rfl, hd1, v2, vr2, rfl, hd2, rfl⟩ := hd
  obtain ⟨a, vs, q1, q2, q3, q4⟩ := R2.ownAt e2
  refine ⟨pa, [v1, v2], rfl, hK ▸ hq.t, rfl, v1, [v2], rfl, .ref a, q2, sk F A2 σ H1 ρ2 _ _ hK R2 h2 fun rk ρ3 vk H3 A3 h3 R3 t3 w4 => ?_⟩
  obtain ⟨z, n, xs, e3, e4, hj, hl, h3⟩ := h3
  obtain ⟨a', vs', p1, p2, p3, p4⟩ := R3.ownAt e4
  rw [q2] at p2
  cases p2
  have hz : vk = .int z := dast_int (R3.look w4.rw e3)
  subst hz
  obtain ⟨R4, t4⟩ := R3.ownList p1 e4 (Das.set n p4 (show Da F.K (AvC F A3) H3 d1 v1 from R2.rw t3 (show RW F A2 σ H1 v1 (.dat d1) from hd1)))
  have d2' : Da F.K (AvC F A3) (upd H3 a (.lst (vs'.set n v1))) d2 v2 := R2.rw (t3.trans t4) (show RW F A2 σ H1 v2 (.dat d2) from hd2)
  have R5 := R4.setDat (i := j) (d := d2) (v := v2) (by simpa using hl) d2'
  exact ⟨a, vs', z, n, rfl, rfl, p3, by rw [← p4.length]; exact hj, v2, [], rfl, rfl, k.1 _ _ _ _ h3 R5 (t1.trans (t2.trans (t3.trans (t4.trans delA_tr))))⟩
theorem ds_ixPar {x y : Str} {px spos py pt : Pos} {kt : Nat} {kk : Expr} {tk : TE} {Tk : DTE} (i j : Nat) (hc : X.calm = true) (hN : X.N.Nodup) (he : DE K X e te T) (hk : DE K X kk tk Tk) (hK : X.K = K := by rfl) (hi : X.N[i]? = some x := by rfl) (hv : Vis X.env.scope x := by first | exact Or.inl rfl | exact Or.inr (Or.inl rfl) | exact Or.inr (Or.inr rfl))
    (hj : X.N[j]? = some y := by rfl) (hx : Loc X.env.scope y := by first | exact Or.inl rfl | exact Or.inr rfl) (hf : X.fn y = true ∨ X.env.scope.names.lookup y = some .local := by first | exact .inl rfl | exact .inr rfl)
    (ha : ∀ v, assign (.Subscript (.Name x px) kk spos) X.env v = (do
      let ov ← holding [v] (eval (.Name x px) X.env)
      let iv ← holding [v, ov] (eval kk X.env)
      standAt spos
      holding [v, ov, iv] (setItem ov iv v)
      release [v, ov, iv] []) := by intro _; rfl)
    (hd : (x == ("__debug__" : Str)) = false := by decide) (hcd : (x == ("__classdict__" : Str)) = false := by decide)
    (g1 : (assignEach [.Subscript (.Name x px) kk spos, .Name y py] X.env).map (·.2) = assign (.Subscript (.Name x px) kk spos) X.env :: (assignEach [.Name y py] X.env).map (·.2) := by rfl)
    (g2 : (assignEach [.Name y py] X.env).map (·.2) = assign (.Name y py) X.env :: (assignEach [] X.env).map (·.2) := by rfl)
    (hn : (assignEach [.Subscript (.Name x px) kk spos, .Name y py] X.env).length = 2 := by rfl) (hst : (assignEach [.Subscript (.Name x px) kk spos, .Name y py] X.env).findIdx? (·.1) = none := by rfl)
    (hs : swapsWithSole [.Tuple [.Subscript (.Name x px) kk spos, .Name y py] kt pt] e pos.line X.env = pure false := by rfl) (hw : swappedStores [.Tuple [.Subscript (.Name x px) kk spos, .Name y py] kt pt] e X.env = pure none := by rfl)
    (h1 : (assignEach [.Tuple [.Subscript (.Name x px) kk spos, .Name y py] kt pt] X.env).map (·.2) = [assign (.Tuple [.Subscript (.Name x px) kk spos, .Name y py] kt pt) X.env] := by rfl) :
    DSt K X (.Assign [.Tuple [.Subscript (.Name x px) kk spos, .Name y py] kt pt] e pos) (tAsg te (gTup K 2 (gCons (L2.gSub (tVar i) tk rSetL) (gCons (gName j) gNil)))) (dIxPar i j T Tk) :=
  ⟨hK ▸ ps_asg he.p (pg_tup hc (pgs_cons (pg_sub (pe_var hi hv hd hcd) hk.p set_list ha) (pgs_cons (pg_name hN hj hx hf) pgs_nil g2) g1) hn hst) hs hw h1, ss_ixPar he.s hk.s⟩
end
theorem i_ixPar {i j : Nat} {T Tk : DTE} {E : DEnds} {ρ : DS} (h : T ρ fun r ρ1 => ∃ d1 d2 ρ2, frz1 ρ1 r = some (.dat (.tuple [d1, d2]), ρ2) ∧ (∃ ys, ρ2[i]? = some (some (.own ys))) ∧ Tk ρ2 fun rk ρ3 => ∃ z n xs, lookD ρ3 rk = some (.int z) ∧ ρ3[i]? = some (some (.own xs)) ∧ ixN xs.length z = some n ∧ j < ρ3.length ∧ E.nx ((ρ3.set i (some (.own (xs.set n d1)))).set j (some (.dat d2)))) : dIxPar i j T Tk E ρ := h
end DL
/-! xs.pop(); a dict of words of the module's top: d[w], w in d. -/
namespace DL
open PySem L2 PySem.Spec
section
variable {K : PySem.W.Frag} {X : Cx} {e : Expr} {T : DTE} {te : TE} {pos p : Pos}
def dPop (i : Nat) : DTE := fun ρ QD => ∃ xs d, ρ[i]? = some (some (.own xs)) ∧ xs[xs.length - 1]? = some d ∧ QD (.dat d) (ρ.set i (some (.own xs.dropLast)))
theorem es_pop {i : Nat} : ES K (tBM0 K "list" rPop (tVar i)) (dPop i) := by
  intro F A σ H ρ Q QD hK R h k
  obtain ⟨xs, d, h0, hd, h⟩ := h
  obtain ⟨a, vs, q1, q2, q3, q4⟩ := R.ownAt h0
  obtain ⟨y, hy, dy⟩ := q4.get hd
  obtain ⟨R3, t3⟩ := R.ownList q1 h0 (Das.dropLast q4)
  exact ⟨.ref a, q2, .inl ⟨rfl, vs, SqL.of q3⟩, a, vs, y, rfl, rfl, q3, by rw [← q4.length]; exact hy, k _ _ _ _ A h R3 t3 (R.rw t3 (show RW F A σ H y (.dat d) from dy))⟩
theorem de_pop {x : Str} {apos : Pos} (i : Nat) (hK : X.K = K := by rfl) (hN : X.N[i]? = some x := by rfl) (hv : Vis X.env.scope x := by first | exact Or.inl rfl | exact Or.inr (Or.inl rfl) | exact Or.inr (Or.inr rfl)) (hd : (x == ("__debug__" : Str)) = false := by decide)
    (hcd : (x == ("__classdict__" : Str)) = false := by decide)
    (hbase : attributeBase (.Name x p) "pop" X.env (eval (.Name x p) X.env) = eval (.Name x p) X.env := by rfl) (hline : (apos.endLine == pos.line) = true := by rfl) :
    DE K X (.Call (.Attribute (.Name x p) "pop" apos) [] [] pos) (tBM0 K "list" rPop (tVar i)) (dPop i) :=
  ⟨hK ▸ pe_bm0 PySem.F.plainAttrs_list PySem.F.slot_list_pop PySem.F.type_list_pop (fun pins s σ H x vs v us Q I rx rv h => mt_pop pins s σ H x vs v us Q I rx rv h) (pe_var hN hv hd hcd) hbase hline, es_pop⟩
/-- what a dict of words holds, as far as it is known -/
structure KdG (K : PySem.W.Frag) (w : World) (mg : Str → Option Value) (x : Str) (f : Str → Option (Option Str)) : Prop where
  ex : ∃ d es n, mg x = some (.ref d) ∧ KDict K w d es n ∧ ∀ z r, f z = some r → match r with
    | none => PySem.W.nsIn K d z = some none
    | some y => ∃ t, PySem.W.nsIn K d z = some (some (.str y t))
def dKdIx (f : Str → Option (Option Str)) (T : DTE) : DTE := fun ρ QD => T ρ fun r ρ1 => ∃ z y, lookD ρ1 r = some (.str z) ∧ f z = some (some y) ∧ QD (.dat (.str y)) ρ1
theorem da_str7 {Av : Addr → Prop} {H : Hp} {z : Str} {v : V} (h : Da K Av H (.str z) v) : v = .str z := by simpa only [Da] using h
theorem de_kdIx {x : Str} {w : World} {mg : Str → Option Value} {f : Str → Option (Option Str)} (g : KdG K w mg x f) (he : DE K X e te T) (hw : X.w = w := by rfl) (hK : X.K = K := by rfl) (hs : PlainIx e := by intro _ _; rfl) (hmg : X.mg = mg := by rfl) (hg : Gl X x := by rfl) (hd : (x == ("__debug__" : Str)) = false := by decide) :
    DE K X (.Subscript (.Name x p) e pos) (tOp (rIxD K w) (tGlob mg x) te) (dKdIx f T) := by
  subst hmg; subst hw; subst hK
  refine ⟨pe_ix ix_kdict ⟨fun pins s σ H Q I h => ?_⟩ he.p hs, fun F A σ H ρ Q QD hF R h k => ?_⟩
  · obtain ⟨v, u, hm, r, q⟩ := h
    exact (pe_glob hg hm r hd).run pins s σ H Q I q
  · obtain ⟨d, es, n, hm, D, hf⟩ := g.ex
    refine ⟨.ref d, .ref d, hm, rfl, he.s F A σ H ρ _ _ hF R h fun r ρ1 v H1 A1 h1 R1 t1 w1 => ?_⟩
    obtain ⟨z, y, e1, fz, h1⟩ := h1
    obtain rfl := da_str7 (K := F.K) (Av := AvC F A1) (H := H1) (R1.look w1.rw e1)
    have := hf z (some y) fz
    obtain ⟨t, ht⟩ := this
    exact ⟨d, z, .str y, rfl, rfl, ⟨es, n, _, D.at_, D.lit, ht, ⟨t, rfl⟩⟩, k _ _ _ _ _ h1 R1 t1 (by show Da _ _ _ _ _; simp only [Da])⟩
def dKdIn (f : Str → Option (Option Str)) (T : DTE) : DTE := fun ρ QD => T ρ fun r ρ1 => ∃ z q, lookD ρ1 r = some (.str z) ∧ f z = some q ∧ QD (.dat (.bool q.isSome)) ρ1
def rKdIn (K : PySem.W.Frag) (mg : Str → Option Value) (n : Str) : R2 := fun x y H Q => ∃ (d : Addr) (z : Str) (r : Option Value), mg n = some (.ref d) ∧ x = .str z ∧ y = .ref d ∧ PySem.W.nsIn K d z = some r ∧ Q (.bl r.isSome) H
theorem op_in_kd2 {x : Str} {w : World} {mg : Str → Option Value} {f : Str → Option (Option Str)} (g : KdG K w mg x f) (hw : X.w = w) (hK : X.K = K) : OpR X (compareOp .In) (rKdIn K mg x) := by
  subst hw; subst hK
  obtain ⟨d, es, n, hm, D, hf⟩ := g.ex
  intro pins s σ H x y v u Q I rx ry h
  obtain ⟨d', z, r, hm', rfl, rfl, e, q⟩ := h
  cases hm.symm.trans hm'
  exact op_in_kd D pins s σ H _ _ v u Q I rx ry ⟨z, r, rfl, rfl, e, q⟩
theorem de_kdIn {x : Str} {w : World} {mg : Str → Option Value} {f : Str → Option (Option Str)} (g : KdG K w mg x f) (he : DE K X e te T) (hw : X.w = w := by rfl) (hK : X.K = K := by rfl) (hm2 : behindInMarks .In (.Name x p) = false := by rfl) (hmg : X.mg = mg := by rfl) (hg : Gl X x := by rfl) (hd : (x == ("__debug__" : Str)) = false := by decide) :
    DE K X (.Compare e [.In] [.Name x p] pos) (tOp (rKdIn K mg x) te (tGlob mg x)) (dKdIn f T) := by
  subst hmg
  refine ⟨pe_cmpR (op_in_kd2 g hw hK) he.p (⟨fun pins s σ H Q I h => ?_⟩ : PE X (.Name x p) (tGlob X.mg x)) hm2, fun F A σ H ρ Q QD hF R h k => ?_⟩
  · obtain ⟨v, u, hm, r, q⟩ := h
    exact (pe_glob hg hm r hd).run pins s σ H Q I q
  · obtain ⟨d, es, n, hm, D, hf⟩ := g.ex
    refine he.s F A σ H ρ _ _ hF R h fun r ρ1 v H1 A1 h1 R1 t1 w1 => ?_
    obtain ⟨z, q, e1, fz, h1⟩ := h1
    obtain rfl := da_str7 (K := F.K) (Av := AvC F A1) (H := H1) (R1.look w1.rw e1)
    refine ⟨.ref d, .ref d, hm, rfl, ?_⟩
    have hq := hf z q fz
    cases q with
    | none => exact ⟨d, z, none, hm, rfl, rfl, hq, k _ _ _ _ _ h1 R1 t1 (by show Da _ _ _ _ _; simp only [Da]; rfl)⟩
    | some y =>
      obtain ⟨t, ht⟩ := hq
      exact ⟨d, z, _, hm, rfl, rfl, ht, k _ _ _ _ _ h1 R1 t1 (by show Da _ _ _ _ _; simp only [Da]; rfl)⟩
end
end DL
namespace DL
open PySem L2
def goodDk (xs : List PyData) : Prop := ∃ st fl q n, xs = [.list (st.map PyData.int), .list (fl.map PyData.int), .int q, .int n] ∧ st ≠ fl ∧ stockOk st fl q n
theorem mapV_inj {a b : List Int} (h : a.map V.int = b.map V.int) : a = b := by
  induction a generalizing b with
  | nil => cases b with | nil => rfl | cons y b => cases h
  | cons x a ih =>
    cases b with
    | nil => cases h
    | cons y b =>
      simp only [List.map_cons, List.cons.injEq, V.int.injEq] at h
      rw [h.1, ih h.2]
theorem goodDk_at (K : PySem.W.Frag) (Av : Addr → Prop) (H : Hp) (a : Addr) (xs : List PyData) (vs : List V) (g : goodDk xs) (ha : H a = some (.lst vs)) (hv : Av a) (h : Das K Av H xs vs) : ∃ l, DkAt H a l := by
  obtain ⟨st, fl, q, n, rfl, ne, ok⟩ := g
  simp only [Das, Da] at h
  obtain ⟨x1, r1, e1, ⟨l, ys, f1, nl, hl, hd⟩, x2, r2, e2, ⟨l2, ys2, f2, nl2, hl2, hd2⟩, x3, r3, e3, f3, x4, r4, e4, f4, f5⟩ := h
  subst f5 f4 f3 f2 f1 e4 e3 e2 e1
  have e5 := Das.of_ints hd
  have e6 := Das.of_ints hd2
  subst e5 e6
  refine ⟨(l, l2), fun z => ?_, fun z => nl (by rw [← show a = l from z]; exact hv), fun z => nl2 (by rw [← show a = l2 from z]; exact hv), st, fl, q, n, ha, hl, hl2, ok⟩
  have z' : l = l2 := z
  subst z'
  rw [hl] at hl2
  exact ne (mapV_inj (by simpa using hl2))
end DL



namespace Lw
open PySem L2 DL
def top (i : Nat) : Stmt := PySem.Challenge.pw_latewires_k21_whole_exchanges_by_all_of.main.body.getD i (.Pass ⟨0, 0, 0, 0⟩)
def f_CONTRARIES (z : Str) : Option (Option Str) := if z = "on" then some (some "off") else if z = "off" then some (some "on") else if z = "delay" then some none else if z = "turn" then some none else none
section
variable {P : Program} {w : World} {K : PySem.W.Frag} {mg : Str → Option Value} {base : Heap}
abbrev s_outcomes : Stmt := top 3
abbrev N_outcomes : List Str := ["parts", "told", "after"]
abbrev P_outcomes : List Str := ["parts"]
theorem sc_outcomes : FnScope N_outcomes P_outcomes (defScope s_outcomes) := ⟨rfl, rfl, rfl, by decide +kernel, rfl, by decide +kernel, by decide +kernel⟩
def B_outcomes (S_nothing_left S_places_changed S_put_together S_swing_gone S_turn_led S_turns_gone : DSp) : DTS :=
  (dSeq (dIfS (dTst (dBin gEq (dCal (g1 gLen) (dCons (dVar 0) dNil)) (dC (.int 1)))) (dSet 1 (dLst (dCons (dCall (sz 1 S_nothing_left) (dCons (dVar 0) dNil)) dNil))) (dIfS (dTst (dBin gEq (dCal (g1 gLen) (dCons (dVar 0) dNil)) (dC (.int 2)))) (dSet 1 (dLst (dCons (dCall (sz 1 S_put_together) (dCons (dVar 0) dNil)) (dCons (dCall (sz 1 S_places_changed) (dCons (dVar 0) dNil)) (dCons (dCall (sz 1 S_turns_gone) (dCons (dVar 0) dNil)) (dCons (dCall (sz 1 S_turn_led) (dCons (dVar 0) dNil)) dNil)))))) (dSet 1 (dLst (dCons (dCall (sz 1 S_swing_gone) (dCons (dVar 0) dNil)) dNil)))))
    (dRet (dLc (dIt (dVar 1)) (gNm 2) (dTst (dBin gIsNot (dVar 2) (dC .none))) (dVar 2) (([("after", 2)] : List (Str × Nat)).map (·.2)))))
theorem ok_outcomes {S_nothing_left S_places_changed S_put_together S_swing_gone S_turn_led S_turns_gone : DSp} {f : Addr} {fd : FuncData} {T : DSp} (F : Fun K "outcomes" "outcomes" s_outcomes f fd) (c_nothing_left : Cal P w K mg base 1 "nothing_left" P_nothing_left (spD K 1 (sz 1 S_nothing_left))) (c_places_changed : Cal P w K mg base 1 "places_changed" P_places_changed (spD K 1 (sz 1 S_places_changed))) (c_put_together : Cal P w K mg base 1 "put_together" P_put_together (spD K 1 (sz 1 S_put_together))) (c_swing_gone : Cal P w K mg base 2 "swing_gone" P_swing_gone (spD K 1 (sz 1 S_swing_gone))) (c_turn_led : Cal P w K mg base 2 "turn_led" P_turn_led (spD K 1 (sz 1 S_turn_led))) (c_turns_gone : Cal P w K mg base 1 "turns_gone" P_turns_gone (spD K 1 (sz 1 S_turns_gone))) (b_len : mg "len" = none)
    (spec : ∀ args G, args.length = 1 → T args G → dDef 2 (B_outcomes S_nothing_left S_places_changed S_put_together S_swing_gone S_turn_led S_turns_gone) args G) : FnG P w K mg base 3 f fd P_outcomes (spD K 1 (sz 1 T)) :=
  okS F sc_outcomes rfl (fun cdv A outer s H E hr hgd => have hu := hr.units; ⟨_,
    (dss_cons (ds_if (dt_cmp (op_eqX hu) od_eq (de_bi DL.call_lenD cd_len b_len (da_cons (de_var 0) da_nil)) de_int (nomark _))
      (dss_one (ds_set 1 sc_outcomes.nd (de_lst (da_cons (de_fn c_nothing_left (hr.mono (by decide)) hgd (da_cons (de_var 0) da_nil)) da_nil))))
      (dss_one (ds_if (dt_cmp (op_eqX hu) od_eq (de_bi DL.call_lenD cd_len b_len (da_cons (de_var 0) da_nil)) de_int (nomark _))
      (dss_one (ds_set 1 sc_outcomes.nd (de_lst (da_cons (de_fn c_put_together (hr.mono (by decide)) hgd (da_cons (de_var 0) da_nil)) (da_cons (de_fn c_places_changed (hr.mono (by decide)) hgd (da_cons (de_var 0) da_nil)) (da_cons (de_fn c_turns_gone (hr.mono (by decide)) hgd (da_cons (de_var 0) da_nil)) (da_cons (de_fn c_turn_led (hr.mono (by decide)) hgd (da_cons (de_var 0) da_nil)) da_nil)))))))
      (dss_one (ds_set 1 sc_outcomes.nd (de_lst (da_cons (de_fn c_swing_gone (hr.mono (by decide)) hgd (da_cons (de_var 0) da_nil)) da_nil)))))))
    (dss_one (ds_ret (de_lc [("after", 2)] rfl sc_outcomes.nd (di_seq (de_var 1)) (blkOk_by (N := N_outcomes) (sc := defScope s_outcomes) (by decide +kernel)) (fun _ _ _ _ _ => (dg_name 2 sc_outcomes.nd)) (by decide) (fun _ _ _ _ _ => dts_one (dt_cmp op_notN od_isnot (de_var 2) de_non (nomark _))) (fun _ _ _ _ _ => (de_var 2))))))⟩) spec
abbrev s_nothing_left : Stmt := top 4
abbrev N_nothing_left : List Str := ["parts", "part"]
abbrev P_nothing_left : List Str := ["parts"]
theorem sc_nothing_left : FnScope N_nothing_left P_nothing_left (defScope s_nothing_left) := ⟨rfl, rfl, rfl, by decide +kernel, rfl, by decide +kernel, by decide +kernel⟩
def B_nothing_left : DTS :=
  (dSeq (dSet 1 (dBin gIx (dVar 0) (dC (.int 0))))
    (dRet (dIf (dAnd (dTst (dBin gNe (dVar 1) (dC (.tuple [(.str "turn")])))) (dTst (dBin gEq (dBin gIx (dVar 1) (dC (.int 1))) (dC (.int 0))))) (dTup dNil) (dC .none))))
theorem ok_nothing_left {f : Addr} {fd : FuncData} {T : DSp} (F : Fun K "nothing_left" "nothing_left" s_nothing_left f fd)  (g_TURN : GlobD K mg "TURN" (.tuple [(.str "turn")]))
    (spec : ∀ args G, args.length = 1 → T args G → dDef 1 B_nothing_left args G) : FnG P w K mg base 1 f fd P_nothing_left (spD K 1 (sz 1 T)) :=
  okS F sc_nothing_left rfl (fun cdv A outer s H E hr hgd => have hu := hr.units; ⟨_,
    (dss_cons (ds_set 1 sc_nothing_left.nd (de_item (de_var 0) de_int))
    (dss_one (ds_ret (de_if (dt_w (dw_and (dt_cmp (op_neX hu) od_ne (de_var 1) (de_globD g_TURN) (nomark _)) (dw_and1 (dt_cmp (op_eqX hu) od_eq (de_item (de_var 1) de_int) de_int (nomark _))))) (de_tup da_nil) de_non))))⟩) spec
abbrev s_put_together : Stmt := top 5
abbrev N_put_together : List Str := ["parts", "first", "second"]
abbrev P_put_together : List Str := ["parts"]
theorem sc_put_together : FnScope N_put_together P_put_together (defScope s_put_together) := ⟨rfl, rfl, rfl, by decide +kernel, rfl, by decide +kernel, by decide +kernel⟩
def B_put_together : DTS :=
  (dSeq (dAsg (dVar 0) (gTu 2 (gCons' (gNm 1) (gCons' (gNm 2) gNil'))))
    (dSeq (dIfS (dOr (dTst (dBin gEq (dVar 1) (dC (.tuple [(.str "turn")])))) (dTst (dBin gNe (dBin gIx (dVar 1) (dC (.int 0))) (dBin gIx (dVar 2) (dC (.int 0)))))) (dRet (dC .none)) dNext)
    (dRet (dTup (dCons (dTup (dCons (dBin gIx (dVar 1) (dC (.int 0))) (dCons (dBin gAdd (dBin gIx (dVar 1) (dC (.int 1))) (dBin gIx (dVar 2) (dC (.int 1)))) dNil))) dNil)))))
theorem ok_put_together {f : Addr} {fd : FuncData} {T : DSp} (F : Fun K "put_together" "put_together" s_put_together f fd)  (g_TURN : GlobD K mg "TURN" (.tuple [(.str "turn")]))
    (spec : ∀ args G, args.length = 1 → T args G → dDef 2 B_put_together args G) : FnG P w K mg base 1 f fd P_put_together (spD K 1 (sz 1 T)) :=
  okS F sc_put_together rfl (fun cdv A outer s H E hr hgd => have hu := hr.units; ⟨_,
    (dss_cons (ds_asg (de_var 0) (dg_tup rfl (dgs_cons (dg_name 1 sc_put_together.nd) (dgs_cons (dg_name 2 sc_put_together.nd) dgs_nil))))
    (dss_cons (ds_if (dt_w (dw_or (dt_cmp (op_eqX hu) od_eq (de_var 1) (de_globD g_TURN) (nomark _)) (dw_or1 (dt_cmp (op_neX hu) od_ne (de_item (de_var 1) de_int) (de_item (de_var 2) de_int) (nomark _)))))
      (dss_one (ds_ret de_non))
      dss_nil)
    (dss_one (ds_ret (de_tup (da_cons (de_tup (da_cons (de_item (de_var 1) de_int) (da_cons (de_add (de_item (de_var 1) de_int) (de_item (de_var 2) de_int)) da_nil))) da_nil))))))⟩) spec
abbrev s_places_changed : Stmt := top 6
abbrev N_places_changed : List Str := ["parts", "first", "second"]
abbrev P_places_changed : List Str := ["parts"]
theorem sc_places_changed : FnScope N_places_changed P_places_changed (defScope s_places_changed) := ⟨rfl, rfl, rfl, by decide +kernel, rfl, by decide +kernel, by decide +kernel⟩
def B_places_changed : DTS :=
  (dSeq (dAsg (dVar 0) (gTu 2 (gCons' (gNm 1) (gCons' (gNm 2) gNil'))))
    (dSeq (dIfS (dAnd (dTst (dBin gNe (dBin gIx (dVar 1) (dC (.int 0))) (dC (.str "delay")))) (dTst (dBin gNe (dBin gIx (dVar 2) (dC (.int 0))) (dC (.str "delay"))))) (dRet (dC .none)) dNext)
    (dRet (dTup (dCons (dVar 2) (dCons (dVar 1) dNil))))))
theorem ok_places_changed {f : Addr} {fd : FuncData} {T : DSp} (F : Fun K "places_changed" "places_changed" s_places_changed f fd) 
    (spec : ∀ args G, args.length = 1 → T args G → dDef 2 B_places_changed args G) : FnG P w K mg base 1 f fd P_places_changed (spD K 1 (sz 1 T)) :=
  okS F sc_places_changed rfl (fun cdv A outer s H E hr hgd => have hu := hr.units; ⟨_,
    (dss_cons (ds_asg (de_var 0) (dg_tup rfl (dgs_cons (dg_name 1 sc_places_changed.nd) (dgs_cons (dg_name 2 sc_places_changed.nd) dgs_nil))))
    (dss_cons (ds_if (dt_w (dw_and (dt_cmp (op_neX hu) od_ne (de_item (de_var 1) de_int) de_str (nomark _)) (dw_and1 (dt_cmp (op_neX hu) od_ne (de_item (de_var 2) de_int) de_str (nomark _)))))
      (dss_one (ds_ret de_non))
      dss_nil)
    (dss_one (ds_ret (de_tup (da_cons (de_var 2) (da_cons (de_var 1) da_nil)))))))⟩) spec
abbrev s_turns_gone : Stmt := top 7
abbrev N_turns_gone : List Str := ["parts"]
abbrev P_turns_gone : List Str := ["parts"]
theorem sc_turns_gone : FnScope N_turns_gone P_turns_gone (defScope s_turns_gone) := ⟨rfl, rfl, rfl, by decide +kernel, rfl, by decide +kernel, by decide +kernel⟩
def B_turns_gone : DTS :=
  (dRet (dIf (dTst (dBin gEq (dVar 0) (dTup (dCons (dC (.tuple [(.str "turn")])) (dCons (dC (.tuple [(.str "turn")])) dNil))))) (dTup dNil) (dC .none)))
theorem ok_turns_gone {f : Addr} {fd : FuncData} {T : DSp} (F : Fun K "turns_gone" "turns_gone" s_turns_gone f fd)  (g_TURN : GlobD K mg "TURN" (.tuple [(.str "turn")]))
    (spec : ∀ args G, args.length = 1 → T args G → dDef 0 B_turns_gone args G) : FnG P w K mg base 1 f fd P_turns_gone (spD K 1 (sz 1 T)) :=
  okS F sc_turns_gone rfl (fun cdv A outer s H E hr hgd => have hu := hr.units; ⟨_,
    (dss_one (ds_ret (de_if (dt_cmp (op_eqX hu) od_eq (de_var 0) (de_tup (da_cons (de_globD g_TURN) (da_cons (de_globD g_TURN) da_nil))) (nomark _)) (de_tup da_nil) de_non)))⟩) spec
abbrev s_turn_led : Stmt := top 8
abbrev N_turn_led : List Str := ["parts", "first", "second"]
abbrev P_turn_led : List Str := ["parts"]
theorem sc_turn_led : FnScope N_turn_led P_turn_led (defScope s_turn_led) := ⟨rfl, rfl, rfl, by decide +kernel, rfl, by decide +kernel, by decide +kernel⟩
def B_turn_led (S_is_timer : DSp) : DTS :=
  (dSeq (dAsg (dVar 0) (gTu 2 (gCons' (gNm 1) (gCons' (gNm 2) gNil'))))
    (dSeq (dIfS (dOr (dTst (dBin gNe (dVar 1) (dC (.tuple [(.str "turn")])))) (dNot (dTru (dCall (sz 1 S_is_timer) (dCons (dVar 2) dNil))))) (dRet (dC .none)) dNext)
    (dRet (dTup (dCons (dTup (dCons (dKdIx f_CONTRARIES (dBin gIx (dVar 2) (dC (.int 0)))) (dCons (dBin gIx (dVar 2) (dC (.int 1))) dNil))) (dCons (dC (.tuple [(.str "turn")])) dNil))))))
theorem ok_turn_led {S_is_timer : DSp} {f : Addr} {fd : FuncData} {T : DSp} (F : Fun K "turn_led" "turn_led" s_turn_led f fd) (c_is_timer : Cal P w K mg base 1 "is_timer" P_is_timer (spD K 1 (sz 1 S_is_timer))) (g_CONTRARIES : KdG K w mg "CONTRARIES" f_CONTRARIES) (g_TURN : GlobD K mg "TURN" (.tuple [(.str "turn")]))
    (spec : ∀ args G, args.length = 1 → T args G → dDef 2 (B_turn_led S_is_timer) args G) : FnG P w K mg base 2 f fd P_turn_led (spD K 1 (sz 1 T)) :=
  okS F sc_turn_led rfl (fun cdv A outer s H E hr hgd => have hu := hr.units; ⟨_,
    (dss_cons (ds_asg (de_var 0) (dg_tup rfl (dgs_cons (dg_name 1 sc_turn_led.nd) (dgs_cons (dg_name 2 sc_turn_led.nd) dgs_nil))))
    (dss_cons (ds_if (dt_w (dw_or (dt_cmp (op_neX hu) od_ne (de_var 1) (de_globD g_TURN) (nomark _)) (dw_or1 (dt_not (dt_val (de_fn c_is_timer (hr.mono (by decide)) hgd (da_cons (de_var 2) da_nil)))))))
      (dss_one (ds_ret de_non))
      dss_nil)
    (dss_one (ds_ret (de_tup (da_cons (de_tup (da_cons (de_kdIx g_CONTRARIES (de_item (de_var 2) de_int)) (da_cons (de_item (de_var 2) de_int) da_nil))) (da_cons (de_globD g_TURN) da_nil)))))))⟩) spec
abbrev s_swing_gone : Stmt := top 9
abbrev N_swing_gone : List Str := ["parts", "first", "second", "third", "ahead", "back", "again"]
abbrev P_swing_gone : List Str := ["parts"]
theorem sc_swing_gone : FnScope N_swing_gone P_swing_gone (defScope s_swing_gone) := ⟨rfl, rfl, rfl, by decide +kernel, rfl, by decide +kernel, by decide +kernel⟩
def B_swing_gone (S_is_timer : DSp) : DTS :=
  (dSeq (dAsg (dVar 0) (gTu 3 (gCons' (gNm 1) (gCons' (gNm 2) (gCons' (gNm 3) gNil')))))
    (dSeq (dIfS (dOr (dNot (dTru (dCall (sz 1 S_is_timer) (dCons (dVar 1) dNil)))) (dNot (dTru (dCall (sz 1 S_is_timer) (dCons (dVar 2) dNil))))) (dRet (dC .none)) dNext)
    (dSeq (dIfS (dOr (dTst (dBin gEq (dBin gIx (dVar 2) (dC (.int 0))) (dBin gIx (dVar 1) (dC (.int 0))))) (dTst (dBin gNe (dBin gIx (dVar 3) (dC (.int 0))) (dBin gIx (dVar 1) (dC (.int 0)))))) (dRet (dC .none)) dNext)
    (dSeq (dPar3 4 5 6 (dBin gIx (dVar 1) (dC (.int 1))) (dBin gIx (dVar 2) (dC (.int 1))) (dBin gIx (dVar 3) (dC (.int 1))))
    (dSeq (dIfS (dOr (dTst (dBin gLt (dVar 5) (dC (.int 1)))) (dTst (dBin gGt (dVar 5) (dVar 4)))) (dRet (dC .none)) dNext)
    (dSeq (dIfS (dTst (dBin gGe (dVar 6) (dVar 5))) (dRet (dTup (dCons (dVar 1) (dCons (dTup (dCons (dC (.str "delay")) (dCons (dVar 5) dNil))) (dCons (dTup (dCons (dBin gIx (dVar 3) (dC (.int 0))) (dCons (dBin gSub (dVar 6) (dVar 5)) dNil))) dNil))))) dNext)
    (dRet (dTup (dCons (dVar 1) (dCons (dTup (dCons (dC (.str "delay")) (dCons (dVar 6) dNil))) (dCons (dTup (dCons (dBin gIx (dVar 2) (dC (.int 0))) (dCons (dBin gSub (dVar 5) (dVar 6)) dNil))) dNil)))))))))))
theorem ok_swing_gone {S_is_timer : DSp} {f : Addr} {fd : FuncData} {T : DSp} (F : Fun K "swing_gone" "swing_gone" s_swing_gone f fd) (c_is_timer : Cal P w K mg base 1 "is_timer" P_is_timer (spD K 1 (sz 1 S_is_timer)))
    (spec : ∀ args G, args.length = 1 → T args G → dDef 6 (B_swing_gone S_is_timer) args G) : FnG P w K mg base 2 f fd P_swing_gone (spD K 1 (sz 1 T)) :=
  okS F sc_swing_gone rfl (fun cdv A outer s H E hr hgd => have hu := hr.units; ⟨_,
    (dss_cons (ds_asg (de_var 0) (dg_tup rfl (dgs_cons (dg_name 1 sc_swing_gone.nd) (dgs_cons (dg_name 2 sc_swing_gone.nd) (dgs_cons (dg_name 3 sc_swing_gone.nd) dgs_nil)))))
    (dss_cons (ds_if (dt_w (dw_or (dt_not (dt_val (de_fn c_is_timer (hr.mono (by decide)) hgd (da_cons (de_var 1) da_nil)))) (dw_or1 (dt_not (dt_val (de_fn c_is_timer (hr.mono (by decide)) hgd (da_cons (de_var 2) da_nil)))))))
      (dss_one (ds_ret de_non))
      dss_nil)
    (dss_cons (ds_if (dt_w (dw_or (dt_cmp (op_eqX hu) od_eq (de_item (de_var 2) de_int) (de_item (de_var 1) de_int) (nomark _)) (dw_or1 (dt_cmp (op_neX hu) od_ne (de_item (de_var 3) de_int) (de_item (de_var 1) de_int) (nomark _)))))
      (dss_one (ds_ret de_non))
      dss_nil)
    (dss_cons (ds_par3 4 5 6 rfl sc_swing_gone.nd (de_item (de_var 1) de_int) (de_item (de_var 2) de_int) (de_item (de_var 3) de_int))
    (dss_cons (ds_if (dt_w (dw_or (dt_cmp op_lt od_lt (de_var 5) de_int (nomark _)) (dw_or1 (dt_cmp op_gt od_gt (de_var 5) (de_var 4) (nomark _)))))
      (dss_one (ds_ret de_non))
      dss_nil)
    (dss_cons (ds_if (dt_cmp op_ge od_ge (de_var 6) (de_var 5) (nomark _))
      (dss_one (ds_ret (de_tup (da_cons (de_var 1) (da_cons (de_tup (da_cons de_str (da_cons (de_var 5) da_nil))) (da_cons (de_tup (da_cons (de_item (de_var 3) de_int) (da_cons (de_sub (de_var 6) (de_var 5)) da_nil))) da_nil))))))
      dss_nil)
    (dss_one (ds_ret (de_tup (da_cons (de_var 1) (da_cons (de_tup (da_cons de_str (da_cons (de_var 6) da_nil))) (da_cons (de_tup (da_cons (de_item (de_var 2) de_int) (da_cons (de_sub (de_var 5) (de_var 6)) da_nil))) da_nil))))))))))))⟩) spec
abbrev s_is_timer : Stmt := top 10
abbrev N_is_timer : List Str := ["part"]
abbrev P_is_timer : List Str := ["part"]
theorem sc_is_timer : FnScope N_is_timer P_is_timer (defScope s_is_timer) := ⟨rfl, rfl, rfl, by decide +kernel, rfl, by decide +kernel, by decide +kernel⟩
def B_is_timer : DTS :=
  (dRet (dKdIn f_CONTRARIES (dBin gIx (dVar 0) (dC (.int 0)))))
theorem ok_is_timer {f : Addr} {fd : FuncData} {T : DSp} (F : Fun K "is_timer" "is_timer" s_is_timer f fd)  (g_CONTRARIES : KdG K w mg "CONTRARIES" f_CONTRARIES)
    (spec : ∀ args G, args.length = 1 → T args G → dDef 0 B_is_timer args G) : FnG P w K mg base 1 f fd P_is_timer (spD K 1 (sz 1 T)) :=
  okS F sc_is_timer rfl (fun cdv A outer s H E hr hgd => ⟨_,
    (dss_one (ds_ret (de_kdIn g_CONTRARIES (de_item (de_var 0) de_int))))⟩) spec
abbrev s_is_exchange : Stmt := top 13
abbrev N_is_exchange : List Str := ["row", "other"]
abbrev P_is_exchange : List Str := ["row", "other"]
theorem sc_is_exchange : FnScope N_is_exchange P_is_exchange (defScope s_is_exchange) := ⟨rfl, rfl, rfl, by decide +kernel, rfl, by decide +kernel, by decide +kernel⟩
def B_is_exchange (S__is_led : DSp) : DTS :=
  (dSeq (dIfS (dTst (dBin gEq (dVar 0) (dVar 1))) (dRet (dC (.bool false))) dNext)
    (dRet (dOrV (dCall (sz 2 S__is_led) (dCons (dVar 0) (dCons (dVar 1) dNil))) (dCall (sz 2 S__is_led) (dCons (dVar 1) (dCons (dVar 0) dNil))))))
theorem ok_is_exchange {S__is_led : DSp} {f : Addr} {fd : FuncData} {T : DSp} (F : Fun K "is_exchange" "is_exchange" s_is_exchange f fd) (c__is_led : Cal P w K mg base 5 "_is_led" P__is_led (spD K 2 (sz 2 S__is_led)))
    (spec : ∀ args G, args.length = 2 → T args G → dDef 0 (B_is_exchange S__is_led) args G) : FnG P w K mg base 6 f fd P_is_exchange (spD K 2 (sz 2 T)) :=
  okS F sc_is_exchange rfl (fun cdv A outer s H E hr hgd => have hu := hr.units; ⟨_,
    (dss_cons (ds_if (dt_cmp (op_eqX hu) od_eq (de_var 0) (de_var 1) (nomark _))
      (dss_one (ds_ret de_bl))
      dss_nil)
    (dss_one (ds_ret (de_or (de_fn c__is_led (hr.mono (by decide)) hgd (da_cons (de_var 0) (da_cons (de_var 1) da_nil))) (de_one (de_fn c__is_led (hr.mono (by decide)) hgd (da_cons (de_var 1) (da_cons (de_var 0) da_nil))))))))⟩) spec
abbrev s__is_led : Stmt := top 14
abbrev N__is_led : List Str := ["row", "other", "ahead", "behind", "size", "first", "last", "place"]
abbrev P__is_led : List Str := ["row", "other"]
theorem sc__is_led : FnScope N__is_led P__is_led (defScope s__is_led) := ⟨rfl, rfl, rfl, by decide +kernel, rfl, by decide +kernel, by decide +kernel⟩
def B__is_led (S__alike_parts S__is_led_at : DSp) : DTS :=
  (dSeq (dSet 2 (dCall (sz 2 S__alike_parts) (dCons (dVar 0) (dCons (dVar 1) dNil))))
    (dSeq (dSet 3 (dCall (sz 2 S__alike_parts) (dCons (dUn gRev (dVar 0)) (dCons (dUn gRev (dVar 1)) dNil))))
    (dSeq (dFor (dIt (dC (.tuple [(.int 1), (.int 2), (.int 3)]))) (gNm 4) (dSeq (dSet 5 (dCal (g2 gMax) (dCons (dC (.int 0)) (dCons (dBin gSub (dBin gSub (dCal (g1 gLen) (dCons (dVar 0) dNil)) (dVar 4)) (dVar 3)) dNil))))
    (dSeq (dSet 6 (dCal (g2 gMin) (dCons (dVar 2) (dCons (dBin gSub (dCal (g1 gLen) (dCons (dVar 0) dNil)) (dVar 4)) dNil))))
    (dFor (dRng2 (dCons (dVar 5) (dCons (dBin gAdd (dVar 6) (dC (.int 1))) dNil))) (gNm 7) (dIfS (dTru (dCall (sz 4 S__is_led_at) (dCons (dVar 0) (dCons (dVar 1) (dCons (dVar 7) (dCons (dVar 4) dNil)))))) (dRet (dC (.bool true))) dNext)))))
    (dRet (dC (.bool false))))))
theorem ok__is_led {S__alike_parts S__is_led_at : DSp} {f : Addr} {fd : FuncData} {T : DSp} (F : Fun K "_is_led" "_is_led" s__is_led f fd) (c__alike_parts : Cal P w K mg base 1 "_alike_parts" P__alike_parts (spD K 2 (sz 2 S__alike_parts))) (c__is_led_at : Cal P w K mg base 4 "_is_led_at" P__is_led_at (spD K 4 (sz 4 S__is_led_at))) (b_len : mg "len" = none) (b_max : mg "max" = none) (b_min : mg "min" = none) (b_range : mg "range" = none) (g_SIZES : GlobD K mg "SIZES" (.tuple [(.int 1), (.int 2), (.int 3)]))
    (spec : ∀ args G, args.length = 2 → T args G → dDef 6 (B__is_led S__alike_parts S__is_led_at) args G) : FnG P w K mg base 5 f fd P__is_led (spD K 2 (sz 2 T)) :=
  okS F sc__is_led rfl (fun cdv A outer s H E hr hgd => ⟨_,
    (dss_cons (ds_set 2 sc__is_led.nd (de_fn c__alike_parts (hr.mono (by decide)) hgd (da_cons (de_var 0) (da_cons (de_var 1) da_nil))))
    (dss_cons (ds_set 3 sc__is_led.nd (de_fn c__alike_parts (hr.mono (by decide)) hgd (da_cons (de_rev (de_var 0)) (da_cons (de_rev (de_var 1)) da_nil))))
    (dss_cons (ds_for PassesOwn.never rfl (di_seq (de_globD g_SIZES)) (dg_name 4 sc__is_led.nd)
      (dss_cons (ds_set 5 sc__is_led.nd (de_bi (call_max2 rfl) cd_max2 b_max (da_cons de_int (da_cons (de_sub (de_sub (de_bi DL.call_lenD cd_len b_len (da_cons (de_var 0) da_nil)) (de_var 4)) (de_var 3)) da_nil))))
    (dss_cons (ds_set 6 sc__is_led.nd (de_bi (call_min2 rfl) cd_min2 b_min (da_cons (de_var 2) (da_cons (de_sub (de_bi DL.call_lenD cd_len b_len (da_cons (de_var 0) da_nil)) (de_var 4)) da_nil))))
    (dss_one (ds_for PassesOwn.never rfl (di_range2 (da_cons (de_var 5) (da_cons (de_add (de_var 6) de_int) da_nil)) (hm := b_range)) (dg_name 7 sc__is_led.nd)
      (dss_one (ds_if (dt_val (de_fn c__is_led_at (hr.mono (by decide)) hgd (da_cons (de_var 0) (da_cons (de_var 1) (da_cons (de_var 7) (da_cons (de_var 4) da_nil))))))
      (dss_one (ds_ret de_bl))
      dss_nil)))))))
    (dss_one (ds_ret de_bl)))))⟩) spec
abbrev s__is_led_at : Stmt := top 15
abbrev N__is_led_at : List Str := ["row", "other", "place", "size", "longer", "told", "after"]
abbrev P__is_led_at : List Str := ["row", "other", "place", "size"]
theorem sc__is_led_at : FnScope N__is_led_at P__is_led_at (defScope s__is_led_at) := ⟨rfl, rfl, rfl, by decide +kernel, rfl, by decide +kernel, by decide +kernel⟩
def B__is_led_at (S_outcomes : DSp) : DTS :=
  (dSeq (dSet 4 (dBin gSub (dCal (g1 gLen) (dCons (dVar 1) dNil)) (dCal (g1 gLen) (dCons (dVar 0) dNil))))
    (dSeq (dSet 5 (dLc (dIt (dCall (sz 1 S_outcomes) (dCons (dSl (dVar 0) (oSome (dVar 2)) (oSome (dBin gAdd (dVar 2) (dVar 3)))) dNil))) (gNm 6) (dTst (dBin gEq (dCal (g1 gLen) (dCons (dVar 6) dNil)) (dBin gAdd (dVar 3) (dVar 4)))) (dVar 6) (([("after", 6)] : List (Str × Nat)).map (·.2))))
    (dRet (dBin gIn (dSl (dVar 1) (oSome (dVar 2)) (oSome (dBin gAdd (dBin gAdd (dVar 2) (dVar 3)) (dVar 4)))) (dVar 5)))))
theorem ok__is_led_at {S_outcomes : DSp} {f : Addr} {fd : FuncData} {T : DSp} (F : Fun K "_is_led_at" "_is_led_at" s__is_led_at f fd) (c_outcomes : Cal P w K mg base 3 "outcomes" P_outcomes (spD K 1 (sz 1 S_outcomes))) (b_len : mg "len" = none)
    (spec : ∀ args G, args.length = 4 → T args G → dDef 3 (B__is_led_at S_outcomes) args G) : FnG P w K mg base 4 f fd P__is_led_at (spD K 4 (sz 4 T)) :=
  okS F sc__is_led_at rfl (fun cdv A outer s H E hr hgd => have hu := hr.units; have hu5 := units65 hr; ⟨_,
    (dss_cons (ds_set 4 sc__is_led_at.nd (de_sub (de_bi DL.call_lenD cd_len b_len (da_cons (de_var 1) da_nil)) (de_bi DL.call_lenD cd_len b_len (da_cons (de_var 0) da_nil))))
    (dss_cons (ds_setLc 5 [("after", 6)] rfl sc__is_led_at.nd (di_seq (de_fn c_outcomes (hr.mono (by decide)) hgd (da_cons (de_slice (de_var 0) (do_some (de_var 2)) (do_some (de_add (de_var 2) (de_var 3)))) da_nil))) (blkOk_by (N := N__is_led_at) (sc := defScope s__is_led_at) (by decide +kernel)) (fun _ _ _ _ _ => (dg_name 6 sc__is_led_at.nd)) (by decide) (fun _ _ _ _ _ => dts_one (dt_cmp (op_eqX hu) od_eq (de_bi DL.call_lenD cd_len b_len (da_cons (de_var 6) da_nil)) (de_add (de_var 3) (de_var 4)) (nomark _))) (fun _ _ _ _ _ => (de_var 6)))
    (dss_one (ds_ret (de_cmp (op_inX hu hu5) od_in (de_slice (de_var 1) (do_some (de_var 2)) (do_some (de_add (de_add (de_var 2) (de_var 3)) (de_var 4)))) (de_var 5) (by rfl))))))⟩) spec
abbrev s__alike_parts : Stmt := top 16
abbrev N__alike_parts : List Str := ["row", "other", "place", "part", "beside"]
abbrev P__alike_parts : List Str := ["row", "other"]
theorem sc__alike_parts : FnScope N__alike_parts P__alike_parts (defScope s__alike_parts) := ⟨rfl, rfl, rfl, by decide +kernel, rfl, by decide +kernel, by decide +kernel⟩
def B__alike_parts : DTS :=
  (dSeq (dFor (dEnumZip (dCons (dVar 0) (dCons (dVar 1) dNil))) (gTu 2 (gCons' (gNm 2) (gCons' (gTu 2 (gCons' (gNm 3) (gCons' (gNm 4) gNil'))) gNil'))) (dIfS (dTst (dBin gNe (dVar 3) (dVar 4))) (dRet (dVar 2)) dNext))
    (dRet (dCal (g2 gMin) (dCons (dCal (g1 gLen) (dCons (dVar 0) dNil)) (dCons (dCal (g1 gLen) (dCons (dVar 1) dNil)) dNil)))))
theorem ok__alike_parts {f : Addr} {fd : FuncData} {T : DSp} (F : Fun K "_alike_parts" "_alike_parts" s__alike_parts f fd)  (b_enumerate : mg "enumerate" = none) (b_len : mg "len" = none) (b_min : mg "min" = none) (b_zip : mg "zip" = none)
    (spec : ∀ args G, args.length = 2 → T args G → dDef 3 B__alike_parts args G) : FnG P w K mg base 1 f fd P__alike_parts (spD K 2 (sz 2 T)) :=
  okS F sc__alike_parts rfl (fun cdv A outer s H E hr hgd => have hu := hr.units; ⟨_,
    (dss_cons (ds_for PassesOwn.never rfl (di_enumzip (da_cons (de_var 0) (da_cons (de_var 1) da_nil)) b_enumerate b_zip) (dg_tup rfl (dgs_cons (dg_name 2 sc__alike_parts.nd) (dgs_cons (dg_tup rfl (dgs_cons (dg_name 3 sc__alike_parts.nd) (dgs_cons (dg_name 4 sc__alike_parts.nd) dgs_nil))) dgs_nil)))
      (dss_one (ds_if (dt_cmp (op_neX hu) od_ne (de_var 3) (de_var 4) (nomark _))
      (dss_one (ds_ret (de_var 2)))
      dss_nil)))
    (dss_one (ds_ret (de_bi (call_min2 rfl) cd_min2 b_min (da_cons (de_bi DL.call_lenD cd_len b_len (da_cons (de_var 0) da_nil)) (da_cons (de_bi DL.call_lenD cd_len b_len (da_cons (de_var 1) da_nil)) da_nil))))))⟩) spec
abbrev s__law_stock : Stmt := top 18
abbrev N__law_stock : List Str := ["script", "flat", "cell"]
abbrev P__law_stock : List Str := ["script"]
theorem sc__law_stock : FnScope N__law_stock P__law_stock (defScope s__law_stock) := ⟨rfl, rfl, rfl, by decide +kernel, rfl, by decide +kernel, by decide +kernel⟩
def B__law_stock : DTS :=
  (dSeq (dSet 1 (dLc (dIt (dSlS 0 oNone (oSome (dC (.int 63))))) (gNm 2) dYes (dIf (dTst (dBin gGe (dVar 2) (dC (.int 0)))) (dBin gMul (dC (.int 2)) (dVar 2)) (dBin gSub (dBin gMul (dUn gNeg (dC (.int 2))) (dVar 2)) (dC (.int 1)))) (([("cell", 2)] : List (Str × Nat)).map (·.2))))
    (dRet (dLst (dCons (dLc (dIt (dVar 1)) (gNm 2) (dTst (dBin gGe (dVar 2) (dBin gPow (dC (.int 10)) (dC (.int 15))))) (dVar 2) (([("cell", 2)] : List (Str × Nat)).map (·.2))) (dCons (dBin gAdd (dVar 1) (dLst (dCons (dBin gAdd (dCal (g1 gLen) (dCons (dVar 1) dNil)) (dC (.int 721))) dNil))) (dCons (dCal (g1 gSum) (dCons (dVar 1) dNil)) (dCons (dC (.int 0)) dNil)))))))
theorem ok__law_stock {f : Addr} {fd : FuncData} (F : Fun K "_law_stock" "_law_stock" s__law_stock f fd)  (b_len : mg "len" = none) (b_sum : mg "sum" = none)
    (spec : ∀ ns : List Int, ns.length ≤ 63 → B__law_stock { nx := fun _ => False, rt := fun r ρ => ∃ xs, relV ρ r = some (.own xs) ∧ goodDk xs } (some (.scr ns) :: (N__law_stock.drop 1).map fun _ => none)) : FnG P w K mg base 1 f fd ["script"] (spDeck K) :=
  okDeck (N0 := N__law_stock.drop 1) goodDk_at F sc__law_stock (fun cdv A outer s H E hr hgd => ⟨_,
    (dss_cons (ds_setLc 1 [("cell", 2)] rfl sc__law_stock.nd (di_seq (de_slS 0 do_none (do_some de_int))) (blkOk_by (N := N__law_stock) (sc := defScope s__law_stock) (by decide +kernel)) (fun _ _ _ _ _ => (dg_name 2 sc__law_stock.nd)) (by decide) (fun _ _ _ _ _ => dts_nil) (fun _ _ _ _ _ => (de_if (dt_cmp op_ge od_ge (de_var 2) de_int (nomark _)) (de_mul de_int (de_var 2)) (de_sub (de_mul (de_neg de_int) (de_var 2)) de_int))))
    (dss_one (ds_ret (de_lst (da_cons (de_lc [("cell", 2)] rfl sc__law_stock.nd (di_seq (de_var 1)) (blkOk_by (N := N__law_stock) (sc := defScope s__law_stock) (by decide +kernel)) (fun _ _ _ _ _ => (dg_name 2 sc__law_stock.nd)) (by decide) (fun _ _ _ _ _ => dts_one (dt_cmp op_ge od_ge (de_var 2) (de_pow de_int de_int) (nomark _))) (fun _ _ _ _ _ => (de_var 2))) (da_cons (de_add (de_var 1) (de_lst (da_cons (de_add (de_bi DL.call_lenD cd_len b_len (da_cons (de_var 1) da_nil)) de_int) da_nil))) (da_cons (de_bi (cr_sum rfl) cd_sum b_sum (da_cons (de_var 1) da_nil)) (da_cons de_int da_nil))))))))⟩) spec
abbrev s__law_draw : Stmt := top 19
abbrev N__law_draw : List Str := ["stock", "size", "great", "turn", "cell", "blend"]
abbrev P__law_draw : List Str := ["stock", "size"]
theorem sc__law_draw : FnScope N__law_draw P__law_draw (defScope s__law_draw) := ⟨rfl, rfl, rfl, by decide +kernel, rfl, by decide +kernel, by decide +kernel⟩
abbrev s__law_pick : Stmt := top 20
abbrev N__law_pick : List Str := ["stock", "row"]
abbrev P__law_pick : List Str := ["stock", "row"]
theorem sc__law_pick : FnScope N__law_pick P__law_pick (defScope s__law_pick) := ⟨rfl, rfl, rfl, by decide +kernel, rfl, by decide +kernel, by decide +kernel⟩
def B__law_pick (S__law_draw : DSp) : DTS :=
  (dRet (dBin gIx (dVar 1) (dCall (sz 2 S__law_draw) (dCons (dVar 0) (dCons (dCal (g1 gLen) (dCons (dVar 1) dNil)) dNil)))))
theorem ok__law_pick {S__law_draw : DSp} {f : Addr} {fd : FuncData} {T : DSp} (F : Fun K "_law_pick" "_law_pick" s__law_pick f fd) (c__law_draw : Cal P w K mg base 1 "_law_draw" P__law_draw (spD K 2 (sz 2 S__law_draw))) (b_len : mg "len" = none)
    (spec : ∀ args G, args.length = 2 → T args G → dDef 0 (B__law_pick S__law_draw) args G) : FnG P w K mg base 2 f fd P__law_pick (spD K 2 (sz 2 T)) :=
  okS F sc__law_pick rfl (fun cdv A outer s H E hr hgd => ⟨_,
    (dss_one (ds_ret (de_item (de_var 1) (de_fn c__law_draw (hr.mono (by decide)) hgd (da_cons (de_var 0) (da_cons (de_bi DL.call_lenD cd_len b_len (da_cons (de_var 1) da_nil)) da_nil))))))⟩) spec
abbrev s__law_shuffled : Stmt := top 21
abbrev N__law_shuffled : List Str := ["stock", "row", "rest", "found", "turn"]
abbrev P__law_shuffled : List Str := ["stock", "row"]
theorem sc__law_shuffled : FnScope N__law_shuffled P__law_shuffled (defScope s__law_shuffled) := ⟨rfl, rfl, rfl, by decide +kernel, rfl, by decide +kernel, by decide +kernel⟩
def B__law_shuffled (S__law_draw : DSp) : DTS :=
  (dSeq (dPar 2 3 (dCal (g1 gList) (dCons (dVar 1) dNil)) (dLst dNil))
    (dSeq (dFor (dRng (dCons (dCal (g1 gLen) (dCons (dVar 1) dNil)) dNil)) (gNm 4) (dDrop (dApp 3 (dPopAt 2 (dCall (sz 2 S__law_draw) (dCons (dVar 0) (dCons (dCal (g1 gLen) (dCons (dVar 2) dNil)) dNil)))))))
    (dRet (dVar 3))))
theorem ok__law_shuffled {S__law_draw : DSp} {f : Addr} {fd : FuncData} {T : DSp} (F : Fun K "_law_shuffled" "_law_shuffled" s__law_shuffled f fd) (c__law_draw : Cal P w K mg base 1 "_law_draw" P__law_draw (spD K 2 (sz 2 S__law_draw))) (b_len : mg "len" = none) (b_list : mg "list" = none) (b_range : mg "range" = none)
    (spec : ∀ args G, args.length = 2 → T args G → dDef 3 (B__law_shuffled S__law_draw) args G) : FnG P w K mg base 2 f fd P__law_shuffled (spD K 2 (sz 2 T)) :=
  okS F sc__law_shuffled rfl (fun cdv A outer s H E hr hgd => ⟨_,
    (dss_cons (ds_par 2 3 rfl sc__law_shuffled.nd (de_ty call_list_of cd_list b_list (da_cons (de_var 1) da_nil)) (de_lst da_nil))
    (dss_cons (ds_for PassesOwn.never rfl (di_range (da_cons (de_bi DL.call_lenD cd_len b_len (da_cons (de_var 1) da_nil)) da_nil) (hm := b_range)) (dg_name 4 sc__law_shuffled.nd)
      (dss_one (ds_expr (de_app 3 (de_popAt 2 (de_fn c__law_draw (hr.mono (by decide)) hgd (da_cons (de_var 0) (da_cons (de_bi DL.call_lenD cd_len b_len (da_cons (de_var 2) da_nil)) da_nil))))))))
    (dss_one (ds_ret (de_var 3)))))⟩) spec
abbrev s__law_contrary : Stmt := top 22
abbrev N__law_contrary : List Str := ["word"]
abbrev P__law_contrary : List Str := ["word"]
theorem sc__law_contrary : FnScope N__law_contrary P__law_contrary (defScope s__law_contrary) := ⟨rfl, rfl, rfl, by decide +kernel, rfl, by decide +kernel, by decide +kernel⟩
def B__law_contrary : DTS :=
  (dRet (dIf (dTst (dBin gEq (dVar 0) (dC (.str "on")))) (dC (.str "off")) (dC (.str "on"))))
theorem ok__law_contrary {f : Addr} {fd : FuncData} {T : DSp} (F : Fun K "_law_contrary" "_law_contrary" s__law_contrary f fd) 
    (spec : ∀ args G, args.length = 1 → T args G → dDef 0 B__law_contrary args G) : FnG P w K mg base 1 f fd P__law_contrary (spD K 1 (sz 1 T)) :=
  okS F sc__law_contrary rfl (fun cdv A outer s H E hr hgd => have hu := hr.units; ⟨_,
    (dss_one (ds_ret (de_if (dt_cmp (op_eqX hu) od_eq (de_var 0) de_str (nomark _)) de_str de_str)))⟩) spec
abbrev s__law_part : Stmt := top 23
abbrev N__law_part : List Str := ["stock", "menu", "word"]
abbrev P__law_part : List Str := ["stock", "menu"]
theorem sc__law_part : FnScope N__law_part P__law_part (defScope s__law_part) := ⟨rfl, rfl, rfl, by decide +kernel, rfl, by decide +kernel, by decide +kernel⟩
def B__law_part (S__law_pick : DSp) : DTS :=
  (dSeq (dSet 2 (dCall (sz 2 S__law_pick) (dCons (dVar 0) (dCons (dLst (dCons (dC (.str "on")) (dCons (dC (.str "off")) (dCons (dC (.str "on")) (dCons (dC (.str "off")) (dCons (dC (.str "on")) (dCons (dC (.str "off")) (dCons (dC (.str "delay")) (dCons (dC (.str "turn")) dNil))))))))) dNil))))
    (dRet (dIf (dTst (dBin gEq (dVar 2) (dC (.str "turn")))) (dTup (dCons (dC (.str "turn")) dNil)) (dTup (dCons (dVar 2) (dCons (dCall (sz 2 S__law_pick) (dCons (dVar 0) (dCons (dVar 1) dNil))) dNil))))))
theorem ok__law_part {S__law_pick : DSp} {f : Addr} {fd : FuncData} {T : DSp} (F : Fun K "_law_part" "_law_part" s__law_part f fd) (c__law_pick : Cal P w K mg base 2 "_law_pick" P__law_pick (spD K 2 (sz 2 S__law_pick)))
    (spec : ∀ args G, args.length = 2 → T args G → dDef 1 (B__law_part S__law_pick) args G) : FnG P w K mg base 3 f fd P__law_part (spD K 2 (sz 2 T)) :=
  okS F sc__law_part rfl (fun cdv A outer s H E hr hgd => have hu := hr.units; ⟨_,
    (dss_cons (ds_set 2 sc__law_part.nd (de_fn c__law_pick (hr.mono (by decide)) hgd (da_cons (de_var 0) (da_cons (de_lst (da_cons de_str (da_cons de_str (da_cons de_str (da_cons de_str (da_cons de_str (da_cons de_str (da_cons de_str (da_cons de_str da_nil))))))))) da_nil))))
    (dss_one (ds_ret (de_if (dt_cmp (op_eqX hu) od_eq (de_var 2) de_str (nomark _)) (de_tup (da_cons de_str da_nil)) (de_tup (da_cons (de_var 2) (da_cons (de_fn c__law_pick (hr.mono (by decide)) hgd (da_cons (de_var 0) (da_cons (de_var 1) da_nil))) da_nil)))))))⟩) spec
abbrev s__law_row : Stmt := top 24
abbrev N__law_row : List Str := ["stock", "many", "menu", "parts", "word", "ticks", "back", "spot", "swing", "turn"]
abbrev P__law_row : List Str := ["stock", "many", "menu"]
theorem sc__law_row : FnScope N__law_row P__law_row (defScope s__law_row) := ⟨rfl, rfl, rfl, by decide +kernel, rfl, by decide +kernel, by decide +kernel⟩
def B__law_row (S__law_contrary S__law_draw S__law_part S__law_pick : DSp) : DTS :=
  (dSeq (dSet 3 (dLc (dRng (dCons (dVar 1) dNil)) (gNm 9) dYes (dCall (sz 2 S__law_part) (dCons (dVar 0) (dCons (dVar 2) dNil))) (([("turn", 9)] : List (Str × Nat)).map (·.2))))
    (dSeq (dIfS (dTst (dBin gEq (dCall (sz 2 S__law_draw) (dCons (dVar 0) (dCons (dC (.int 2)) dNil))) (dC (.int 0)))) (dSeq (dPar 4 5 (dCall (sz 2 S__law_pick) (dCons (dVar 0) (dCons (dLst (dCons (dC (.str "on")) (dCons (dC (.str "off")) dNil))) dNil))) (dCal (g2 gMax) (dCons (dC (.int 1)) (dCons (dCall (sz 2 S__law_pick) (dCons (dVar 0) (dCons (dVar 2) dNil))) dNil))))
    (dSeq (dSet 6 (dBin gAdd (dC (.int 1)) (dCall (sz 2 S__law_draw) (dCons (dVar 0) (dCons (dVar 5) dNil)))))
    (dSeq (dSet 7 (dCall (sz 2 S__law_draw) (dCons (dVar 0) (dCons (dBin gAdd (dCal (g1 gLen) (dCons (dVar 3) dNil)) (dC (.int 1))) dNil))))
    (dSeq (dSet 8 (dLst (dCons (dTup (dCons (dVar 4) (dCons (dVar 5) dNil))) (dCons (dTup (dCons (dCall (sz 1 S__law_contrary) (dCons (dVar 4) dNil)) (dCons (dVar 6) dNil))) (dCons (dTup (dCons (dVar 4) (dCons (dCall (sz 2 S__law_pick) (dCons (dVar 0) (dCons (dBin gAdd (dVar 2) (dLst (dCons (dVar 6) (dCons (dBin gAdd (dVar 6) (dC (.int 1))) (dCons (dC (.int 0)) dNil))))) dNil))) dNil))) dNil)))))
    (dSet 3 (dBin gAdd (dBin gAdd (dSl (dVar 3) oNone (oSome (dVar 7))) (dVar 8)) (dSl (dVar 3) (oSome (dVar 7)) oNone))))))) dNext)
    (dRet (dCal (g1 gTuple) (dCons (dVar 3) dNil)))))
theorem ok__law_row {S__law_contrary S__law_draw S__law_part S__law_pick : DSp} {f : Addr} {fd : FuncData} {T : DSp} (F : Fun K "_law_row" "_law_row" s__law_row f fd) (c__law_contrary : Cal P w K mg base 1 "_law_contrary" P__law_contrary (spD K 1 (sz 1 S__law_contrary))) (c__law_draw : Cal P w K mg base 1 "_law_draw" P__law_draw (spD K 2 (sz 2 S__law_draw))) (c__law_part : Cal P w K mg base 3 "_law_part" P__law_part (spD K 2 (sz 2 S__law_part))) (c__law_pick : Cal P w K mg base 2 "_law_pick" P__law_pick (spD K 2 (sz 2 S__law_pick))) (b_len : mg "len" = none) (b_max : mg "max" = none) (b_range : mg "range" = none) (b_tuple : mg "tuple" = none)
    (spec : ∀ args G, args.length = 3 → T args G → dDef 7 (B__law_row S__law_contrary S__law_draw S__law_part S__law_pick) args G) : FnG P w K mg base 4 f fd P__law_row (spD K 3 (sz 3 T)) :=
  okS F sc__law_row rfl (fun cdv A outer s H E hr hgd => have hu := hr.units; ⟨_,
    (dss_cons (ds_setLc 3 [("turn", 9)] rfl sc__law_row.nd (di_range (da_cons (de_var 1) da_nil) (hm := b_range)) (blkOk_by (N := N__law_row) (sc := defScope s__law_row) (by decide +kernel)) (fun _ _ _ _ _ => (dg_name 9 sc__law_row.nd)) (by decide) (fun _ _ _ _ _ => dts_nil) (fun _ _ _ _ _ => (de_fn c__law_part (hr.mono (by decide)) hgd (da_cons (de_var 0) (da_cons (de_var 2) da_nil)))))
    (dss_cons (ds_if (dt_cmp (op_eqX hu) od_eq (de_fn c__law_draw (hr.mono (by decide)) hgd (da_cons (de_var 0) (da_cons de_int da_nil))) de_int (nomark _))
      (dss_cons (ds_par 4 5 rfl sc__law_row.nd (de_fn c__law_pick (hr.mono (by decide)) hgd (da_cons (de_var 0) (da_cons (de_lst (da_cons de_str (da_cons de_str da_nil))) da_nil))) (de_bi (call_max2 rfl) cd_max2 b_max (da_cons de_int (da_cons (de_fn c__law_pick (hr.mono (by decide)) hgd (da_cons (de_var 0) (da_cons (de_var 2) da_nil))) da_nil))))
    (dss_cons (ds_set 6 sc__law_row.nd (de_add de_int (de_fn c__law_draw (hr.mono (by decide)) hgd (da_cons (de_var 0) (da_cons (de_var 5) da_nil)))))
    (dss_cons (ds_set 7 sc__law_row.nd (de_fn c__law_draw (hr.mono (by decide)) hgd (da_cons (de_var 0) (da_cons (de_add (de_bi DL.call_lenD cd_len b_len (da_cons (de_var 3) da_nil)) de_int) da_nil))))
    (dss_cons (ds_set 8 sc__law_row.nd (de_lst (da_cons (de_tup (da_cons (de_var 4) (da_cons (de_var 5) da_nil))) (da_cons (de_tup (da_cons (de_fn c__law_contrary (hr.mono (by decide)) hgd (da_cons (de_var 4) da_nil)) (da_cons (de_var 6) da_nil))) (da_cons (de_tup (da_cons (de_var 4) (da_cons (de_fn c__law_pick (hr.mono (by decide)) hgd (da_cons (de_var 0) (da_cons (de_add (de_var 2) (de_lst (da_cons (de_var 6) (da_cons (de_add (de_var 6) de_int) (da_cons de_int da_nil))))) da_nil))) da_nil))) da_nil)))))
    (dss_one (ds_set 3 sc__law_row.nd (de_add (de_add (de_slice (de_var 3) do_none (do_some (de_var 7))) (de_var 8)) (de_slice (de_var 3) (do_some (de_var 7)) do_none))))))))
      dss_nil)
    (dss_one (ds_ret (de_ty call_tupleX cd_tuple b_tuple (da_cons (de_var 3) da_nil))))))⟩) spec
abbrev s__law_pairs : Stmt := top 25
abbrev N__law_pairs : List Str := ["part", "after", "found"]
abbrev P__law_pairs : List Str := ["part", "after"]
theorem sc__law_pairs : FnScope N__law_pairs P__law_pairs (defScope s__law_pairs) := ⟨rfl, rfl, rfl, by decide +kernel, rfl, by decide +kernel, by decide +kernel⟩
def B__law_pairs (S__law_contrary : DSp) : DTS :=
  (dSeq (dSet 2 (dLst dNil))
    (dSeq (dIfS (dAnd (dTst (dBin gEq (dBin gIx (dVar 0) (dC (.int 0))) (dC (.str "turn")))) (dTst (dBin gEq (dBin gIx (dVar 1) (dC (.int 0))) (dC (.str "turn"))))) (dDrop (dApp 2 (dTup dNil))) (dIfS (dTst (dBin gEq (dBin gIx (dVar 0) (dC (.int 0))) (dBin gIx (dVar 1) (dC (.int 0))))) (dDrop (dApp 2 (dTup (dCons (dTup (dCons (dBin gIx (dVar 0) (dC (.int 0))) (dCons (dBin gAdd (dBin gIx (dVar 0) (dC (.int 1))) (dBin gIx (dVar 1) (dC (.int 1)))) dNil))) dNil)))) dNext))
    (dSeq (dIfS (dOr (dTst (dBin gEq (dBin gIx (dVar 0) (dC (.int 0))) (dC (.str "delay")))) (dTst (dBin gEq (dBin gIx (dVar 1) (dC (.int 0))) (dC (.str "delay"))))) (dDrop (dApp 2 (dTup (dCons (dVar 1) (dCons (dVar 0) dNil))))) dNext)
    (dSeq (dIfS (dAnd (dTst (dBin gEq (dBin gIx (dVar 0) (dC (.int 0))) (dC (.str "turn")))) (dTst (dBin gIn (dBin gIx (dVar 1) (dC (.int 0))) (dTup (dCons (dC (.str "on")) (dCons (dC (.str "off")) dNil)))))) (dDrop (dApp 2 (dTup (dCons (dTup (dCons (dCall (sz 1 S__law_contrary) (dCons (dBin gIx (dVar 1) (dC (.int 0))) dNil)) (dCons (dBin gIx (dVar 1) (dC (.int 1))) dNil))) (dCons (dVar 0) dNil))))) dNext)
    (dRet (dVar 2))))))
theorem ok__law_pairs {S__law_contrary : DSp} {f : Addr} {fd : FuncData} {T : DSp} (F : Fun K "_law_pairs" "_law_pairs" s__law_pairs f fd) (c__law_contrary : Cal P w K mg base 1 "_law_contrary" P__law_contrary (spD K 1 (sz 1 S__law_contrary)))
    (spec : ∀ args G, args.length = 2 → T args G → dDef 1 (B__law_pairs S__law_contrary) args G) : FnG P w K mg base 2 f fd P__law_pairs (spD K 2 (sz 2 T)) :=
  okS F sc__law_pairs rfl (fun cdv A outer s H E hr hgd => have hu := hr.units; have hu5 := units65 hr; ⟨_,
    (dss_cons (ds_set 2 sc__law_pairs.nd (de_lst da_nil))
    (dss_cons (ds_if (dt_w (dw_and (dt_cmp (op_eqX hu) od_eq (de_item (de_var 0) de_int) de_str (nomark _)) (dw_and1 (dt_cmp (op_eqX hu) od_eq (de_item (de_var 1) de_int) de_str (nomark _)))))
      (dss_one (ds_expr (de_app 2 (de_tup da_nil))))
      (dss_one (ds_if (dt_cmp (op_eqX hu) od_eq (de_item (de_var 0) de_int) (de_item (de_var 1) de_int) (nomark _))
      (dss_one (ds_expr (de_app 2 (de_tup (da_cons (de_tup (da_cons (de_item (de_var 0) de_int) (da_cons (de_add (de_item (de_var 0) de_int) (de_item (de_var 1) de_int)) da_nil))) da_nil)))))
      dss_nil)))
    (dss_cons (ds_if (dt_w (dw_or (dt_cmp (op_eqX hu) od_eq (de_item (de_var 0) de_int) de_str (nomark _)) (dw_or1 (dt_cmp (op_eqX hu) od_eq (de_item (de_var 1) de_int) de_str (nomark _)))))
      (dss_one (ds_expr (de_app 2 (de_tup (da_cons (de_var 1) (da_cons (de_var 0) da_nil))))))
      dss_nil)
    (dss_cons (ds_if (dt_w (dw_and (dt_cmp (op_eqX hu) od_eq (de_item (de_var 0) de_int) de_str (nomark _)) (dw_and1 (dt_cmp (op_inX hu hu5) od_in (de_item (de_var 1) de_int) (de_tup (da_cons de_str (da_cons de_str da_nil))) (by rfl)))))
      (dss_one (ds_expr (de_app 2 (de_tup (da_cons (de_tup (da_cons (de_fn c__law_contrary (hr.mono (by decide)) hgd (da_cons (de_item (de_var 1) de_int) da_nil)) (da_cons (de_item (de_var 1) de_int) da_nil))) (da_cons (de_var 0) da_nil))))))
      dss_nil)
    (dss_one (ds_ret (de_var 2)))))))⟩) spec
abbrev s__law_swings : Stmt := top 26
abbrev N__law_swings : List Str := ["part", "after", "last"]
abbrev P__law_swings : List Str := ["part", "after", "last"]
theorem sc__law_swings : FnScope N__law_swings P__law_swings (defScope s__law_swings) := ⟨rfl, rfl, rfl, by decide +kernel, rfl, by decide +kernel, by decide +kernel⟩
def B__law_swings (S__law_contrary : DSp) : DTS :=
  (dSeq (dIfS (dOr (dTst (dBin gNotIn (dBin gIx (dVar 0) (dC (.int 0))) (dTup (dCons (dC (.str "on")) (dCons (dC (.str "off")) dNil))))) (dOr (dTst (dBin gNe (dBin gIx (dVar 2) (dC (.int 0))) (dBin gIx (dVar 0) (dC (.int 0))))) (dTst (dBin gNe (dBin gIx (dVar 1) (dC (.int 0))) (dCall (sz 1 S__law_contrary) (dCons (dBin gIx (dVar 0) (dC (.int 0))) dNil)))))) (dRet (dLst dNil)) dNext)
    (dSeq (dIfS (dNot (dTst (dChain gLe gLe (dC (.int 1)) (dBin gIx (dVar 1) (dC (.int 1))) (dBin gIx (dVar 0) (dC (.int 1)))))) (dRet (dLst dNil)) dNext)
    (dSeq (dIfS (dTst (dBin gGe (dBin gIx (dVar 2) (dC (.int 1))) (dBin gIx (dVar 1) (dC (.int 1))))) (dRet (dLst (dCons (dTup (dCons (dVar 0) (dCons (dTup (dCons (dC (.str "delay")) (dCons (dBin gIx (dVar 1) (dC (.int 1))) dNil))) (dCons (dTup (dCons (dBin gIx (dVar 0) (dC (.int 0))) (dCons (dBin gSub (dBin gIx (dVar 2) (dC (.int 1))) (dBin gIx (dVar 1) (dC (.int 1)))) dNil))) dNil)))) dNil))) dNext)
    (dRet (dLst (dCons (dTup (dCons (dVar 0) (dCons (dTup (dCons (dC (.str "delay")) (dCons (dBin gIx (dVar 2) (dC (.int 1))) dNil))) (dCons (dTup (dCons (dBin gIx (dVar 1) (dC (.int 0))) (dCons (dBin gSub (dBin gIx (dVar 1) (dC (.int 1))) (dBin gIx (dVar 2) (dC (.int 1)))) dNil))) dNil)))) dNil))))))
theorem ok__law_swings {S__law_contrary : DSp} {f : Addr} {fd : FuncData} {T : DSp} (F : Fun K "_law_swings" "_law_swings" s__law_swings f fd) (c__law_contrary : Cal P w K mg base 1 "_law_contrary" P__law_contrary (spD K 1 (sz 1 S__law_contrary)))
    (spec : ∀ args G, args.length = 3 → T args G → dDef 0 (B__law_swings S__law_contrary) args G) : FnG P w K mg base 2 f fd P__law_swings (spD K 3 (sz 3 T)) :=
  okS F sc__law_swings rfl (fun cdv A outer s H E hr hgd => have hu := hr.units; have hu5 := units65 hr; ⟨_,
    (dss_cons (ds_if (dt_w (dw_or (dt_cmp (op_notInX hu hu5) od_notin (de_item (de_var 0) de_int) (de_tup (da_cons de_str (da_cons de_str da_nil))) (by rfl)) (dw_or (dt_cmp (op_neX hu) od_ne (de_item (de_var 2) de_int) (de_item (de_var 0) de_int) (nomark _)) (dw_or1 (dt_cmp (op_neX hu) od_ne (de_item (de_var 1) de_int) (de_fn c__law_contrary (hr.mono (by decide)) hgd (da_cons (de_item (de_var 0) de_int) da_nil)) (nomark _))))))
      (dss_one (ds_ret (de_lst da_nil)))
      dss_nil)
    (dss_cons (ds_if (dt_not (dt_chain op_le od_le op_le od_le de_int (de_item (de_var 1) de_int) (de_item (de_var 0) de_int)))
      (dss_one (ds_ret (de_lst da_nil)))
      dss_nil)
    (dss_cons (ds_if (dt_cmp op_ge od_ge (de_item (de_var 2) de_int) (de_item (de_var 1) de_int) (nomark _))
      (dss_one (ds_ret (de_lst (da_cons (de_tup (da_cons (de_var 0) (da_cons (de_tup (da_cons de_str (da_cons (de_item (de_var 1) de_int) da_nil))) (da_cons (de_tup (da_cons (de_item (de_var 0) de_int) (da_cons (de_sub (de_item (de_var 2) de_int) (de_item (de_var 1) de_int)) da_nil))) da_nil)))) da_nil))))
      dss_nil)
    (dss_one (ds_ret (de_lst (da_cons (de_tup (da_cons (de_var 0) (da_cons (de_tup (da_cons de_str (da_cons (de_item (de_var 2) de_int) da_nil))) (da_cons (de_tup (da_cons (de_item (de_var 1) de_int) (da_cons (de_sub (de_item (de_var 1) de_int) (de_item (de_var 2) de_int)) da_nil))) da_nil)))) da_nil)))))))⟩) spec
abbrev s__law_leads : Stmt := top 27
abbrev N__law_leads : List Str := ["parts", "found", "spot", "part", "ahead", "rest", "two", "three"]
abbrev P__law_leads : List Str := ["parts"]
theorem sc__law_leads : FnScope N__law_leads P__law_leads (defScope s__law_leads) := ⟨rfl, rfl, rfl, by decide +kernel, rfl, by decide +kernel, by decide +kernel⟩
def B__law_leads (S__law_pairs S__law_swings : DSp) : DTS :=
  (dSeq (dSet 1 (dLst dNil))
    (dSeq (dFor (dEnum (dVar 0)) (gTu 2 (gCons' (gNm 2) (gCons' (gNm 3) gNil'))) (dSeq (dAsg (dTup (dCons (dSl (dVar 0) oNone (oSome (dVar 2))) (dCons (dSl (dVar 0) (oSome (dBin gAdd (dVar 2) (dC (.int 1)))) oNone) dNil))) (gTu 2 (gCons' (gNm 4) (gCons' (gNm 5) gNil'))))
    (dSeq (dIfS (dAnd (dTst (dBin gNe (dBin gIx (dVar 3) (dC (.int 0))) (dC (.str "turn")))) (dTst (dBin gEq (dBin gIx (dVar 3) (dC (.int 1))) (dC (.int 0))))) (dDrop (dApp 1 (dBin gAdd (dVar 4) (dVar 5)))) dNext)
    (dSeq (dIfS (dTst (dBin gNe (dVar 5) (dTup dNil))) (dSet 1 (dBin gAdd (dVar 1) (dLc (dIt (dCall (sz 2 S__law_pairs) (dCons (dVar 3) (dCons (dBin gIx (dVar 5) (dC (.int 0))) dNil)))) (gNm 6) dYes (dBin gAdd (dBin gAdd (dVar 4) (dVar 6)) (dSl (dVar 5) (oSome (dC (.int 1))) oNone)) (([("two", 6)] : List (Str × Nat)).map (·.2))))) dNext)
    (dIfS (dTst (dBin gGt (dCal (g1 gLen) (dCons (dVar 5) dNil)) (dC (.int 1)))) (dSet 1 (dBin gAdd (dVar 1) (dLc (dIt (dCall (sz 3 S__law_swings) (dCons (dVar 3) (dCons (dBin gIx (dVar 5) (dC (.int 0))) (dCons (dBin gIx (dVar 5) (dC (.int 1))) dNil))))) (gNm 7) dYes (dBin gAdd (dBin gAdd (dVar 4) (dVar 7)) (dSl (dVar 5) (oSome (dC (.int 2))) oNone)) (([("three", 7)] : List (Str × Nat)).map (·.2))))) dNext)))))
    (dRet (dVar 1))))
theorem ok__law_leads {S__law_pairs S__law_swings : DSp} {f : Addr} {fd : FuncData} {T : DSp} (F : Fun K "_law_leads" "_law_leads" s__law_leads f fd) (c__law_pairs : Cal P w K mg base 2 "_law_pairs" P__law_pairs (spD K 2 (sz 2 S__law_pairs))) (c__law_swings : Cal P w K mg base 2 "_law_swings" P__law_swings (spD K 3 (sz 3 S__law_swings))) (b_enumerate : mg "enumerate" = none) (b_len : mg "len" = none)
    (spec : ∀ args G, args.length = 1 → T args G → dDef 7 (B__law_leads S__law_pairs S__law_swings) args G) : FnG P w K mg base 3 f fd P__law_leads (spD K 1 (sz 1 T)) :=
  okS F sc__law_leads rfl (fun cdv A outer s H E hr hgd => have hu := hr.units; ⟨_,
    (dss_cons (ds_set 1 sc__law_leads.nd (de_lst da_nil))
    (dss_cons (ds_for PassesOwn.never rfl (di_enum (de_var 0) b_enumerate) (dg_tup rfl (dgs_cons (dg_name 2 sc__law_leads.nd) (dgs_cons (dg_name 3 sc__law_leads.nd) dgs_nil)))
      (dss_cons (ds_asg (de_tup (da_cons (de_slice (de_var 0) do_none (do_some (de_var 2))) (da_cons (de_slice (de_var 0) (do_some (de_add (de_var 2) de_int)) do_none) da_nil))) (dg_tup rfl (dgs_cons (dg_name 4 sc__law_leads.nd) (dgs_cons (dg_name 5 sc__law_leads.nd) dgs_nil))))
    (dss_cons (ds_if (dt_w (dw_and (dt_cmp (op_neX hu) od_ne (de_item (de_var 3) de_int) de_str (nomark _)) (dw_and1 (dt_cmp (op_eqX hu) od_eq (de_item (de_var 3) de_int) de_int (nomark _)))))
      (dss_one (ds_expr (de_app 1 (de_add (de_var 4) (de_var 5)))))
      dss_nil)
    (dss_cons (ds_if (dt_cmp (op_neX hu) od_ne (de_var 5) (de_tup da_nil) (nomark _))
      (dss_one (ds_set 1 sc__law_leads.nd (de_add (de_var 1) (de_lc [("two", 6)] rfl sc__law_leads.nd (di_seq (de_fn c__law_pairs (hr.mono (by decide)) hgd (da_cons (de_var 3) (da_cons (de_item (de_var 5) de_int) da_nil)))) (blkOk_by (N := N__law_leads) (sc := defScope s__law_leads) (by decide +kernel)) (fun _ _ _ _ _ => (dg_name 6 sc__law_leads.nd)) (by decide) (fun _ _ _ _ _ => dts_nil) (fun _ _ _ _ _ => (de_add (de_add (de_var 4) (de_var 6)) (de_slice (de_var 5) (do_some de_int) do_none)))))))
      dss_nil)
    (dss_one (ds_if (dt_cmp op_gt od_gt (de_bi DL.call_lenD cd_len b_len (da_cons (de_var 5) da_nil)) de_int (nomark _))
      (dss_one (ds_set 1 sc__law_leads.nd (de_add (de_var 1) (de_lc [("three", 7)] rfl sc__law_leads.nd (di_seq (de_fn c__law_swings (hr.mono (by decide)) hgd (da_cons (de_var 3) (da_cons (de_item (de_var 5) de_int) (da_cons (de_item (de_var 5) de_int) da_nil))))) (blkOk_by (N := N__law_leads) (sc := defScope s__law_leads) (by decide +kernel)) (fun _ _ _ _ _ => (dg_name 7 sc__law_leads.nd)) (by decide) (fun _ _ _ _ _ => dts_nil) (fun _ _ _ _ _ => (de_add (de_add (de_var 4) (de_var 7)) (de_slice (de_var 5) (do_some de_int) do_none)))))))
      dss_nil))))))
    (dss_one (ds_ret (de_var 1)))))⟩) spec
abbrev s__law_is_led : Stmt := top 28
abbrev N__law_is_led : List Str := ["parts", "others"]
abbrev P__law_is_led : List Str := ["parts", "others"]
theorem sc__law_is_led : FnScope N__law_is_led P__law_is_led (defScope s__law_is_led) := ⟨rfl, rfl, rfl, by decide +kernel, rfl, by decide +kernel, by decide +kernel⟩
def B__law_is_led (S__law_leads : DSp) : DTS :=
  (dRet (dAndV (dBin gNe (dVar 0) (dVar 1)) (dOrV (dBin gIn (dVar 1) (dCall (sz 1 S__law_leads) (dCons (dVar 0) dNil))) (dBin gIn (dVar 0) (dCall (sz 1 S__law_leads) (dCons (dVar 1) dNil))))))
theorem ok__law_is_led {S__law_leads : DSp} {f : Addr} {fd : FuncData} {T : DSp} (F : Fun K "_law_is_led" "_law_is_led" s__law_is_led f fd) (c__law_leads : Cal P w K mg base 3 "_law_leads" P__law_leads (spD K 1 (sz 1 S__law_leads)))
    (spec : ∀ args G, args.length = 2 → T args G → dDef 0 (B__law_is_led S__law_leads) args G) : FnG P w K mg base 4 f fd P__law_is_led (spD K 2 (sz 2 T)) :=
  okS F sc__law_is_led rfl (fun cdv A outer s H E hr hgd => have hu := hr.units; have hu5 := units65 hr; ⟨_,
    (dss_one (ds_ret (de_and (de_cmp (op_neX hu) od_ne (de_var 0) (de_var 1) (nomark _)) (de_one (de_or (de_cmp (op_inX hu hu5) od_in (de_var 1) (de_fn c__law_leads (hr.mono (by decide)) hgd (da_cons (de_var 0) da_nil)) (by rfl)) (de_one (de_cmp (op_inX hu hu5) od_in (de_var 0) (de_fn c__law_leads (hr.mono (by decide)) hgd (da_cons (de_var 1) da_nil)) (by rfl))))))))⟩) spec
abbrev s__law_unswung : Stmt := top 29
abbrev N__law_unswung : List Str := ["parts", "spot", "part", "late", "last", "word", "back", "further"]
abbrev P__law_unswung : List Str := ["parts", "spot"]
theorem sc__law_unswung : FnScope N__law_unswung P__law_unswung (defScope s__law_unswung) := ⟨rfl, rfl, rfl, by decide +kernel, rfl, by decide +kernel, by decide +kernel⟩
def B__law_unswung (S__law_contrary : DSp) : DTS :=
  (dSeq (dIfS (dOr (dTst (dBin gLt (dCal (g1 gLen) (dCons (dVar 0) dNil)) (dBin gAdd (dVar 1) (dC (.int 3))))) (dOr (dTst (dBin gNotIn (dBin gIx (dBin gIx (dVar 0) (dVar 1)) (dC (.int 0))) (dTup (dCons (dC (.str "on")) (dCons (dC (.str "off")) dNil))))) (dTst (dBin gNe (dBin gIx (dBin gIx (dVar 0) (dBin gAdd (dVar 1) (dC (.int 1)))) (dC (.int 0))) (dC (.str "delay")))))) (dRet (dLst dNil)) dNext)
    (dSeq (dAsg (dSl (dVar 0) (oSome (dVar 1)) (oSome (dBin gAdd (dVar 1) (dC (.int 3))))) (gTu 3 (gCons' (gNm 2) (gCons' (gNm 3) (gCons' (gNm 4) gNil')))))
    (dSeq (dPar 5 6 (dCall (sz 1 S__law_contrary) (dCons (dBin gIx (dVar 2) (dC (.int 0))) dNil)) (dIf (dTst (dBin gEq (dBin gIx (dVar 4) (dC (.int 0))) (dBin gIx (dVar 2) (dC (.int 0))))) (dBin gIx (dVar 3) (dC (.int 1))) (dIf (dTst (dBin gGt (dCal (g1 gLen) (dCons (dVar 4) dNil)) (dC (.int 1)))) (dBin gAdd (dBin gIx (dVar 3) (dC (.int 1))) (dBin gIx (dVar 4) (dC (.int 1)))) (dC (.int 0)))))
    (dSeq (dIfS (dOr (dTst (dBin gNotIn (dBin gIx (dVar 4) (dC (.int 0))) (dTup (dCons (dC (.str "on")) (dCons (dC (.str "off")) dNil))))) (dOr (dNot (dTst (dChain gLe gLe (dC (.int 1)) (dVar 6) (dBin gIx (dVar 2) (dC (.int 1)))))) (dAnd (dTst (dBin gEq (dBin gIx (dVar 4) (dC (.int 0))) (dVar 5))) (dTst (dBin gEq (dBin gIx (dVar 4) (dC (.int 1))) (dC (.int 0))))))) (dRet (dLst dNil)) dNext)
    (dSeq (dSet 7 (dIf (dTst (dBin gEq (dBin gIx (dVar 4) (dC (.int 0))) (dBin gIx (dVar 2) (dC (.int 0))))) (dBin gAdd (dBin gIx (dVar 3) (dC (.int 1))) (dBin gIx (dVar 4) (dC (.int 1)))) (dBin gIx (dVar 3) (dC (.int 1)))))
    (dRet (dLst (dCons (dBin gAdd (dBin gAdd (dSl (dVar 0) oNone (oSome (dVar 1))) (dTup (dCons (dVar 2) (dCons (dTup (dCons (dVar 5) (dCons (dVar 6) dNil))) (dCons (dTup (dCons (dBin gIx (dVar 2) (dC (.int 0))) (dCons (dVar 7) dNil))) dNil))))) (dSl (dVar 0) (oSome (dBin gAdd (dVar 1) (dC (.int 3)))) oNone)) dNil))))))))
theorem ok__law_unswung {S__law_contrary : DSp} {f : Addr} {fd : FuncData} {T : DSp} (F : Fun K "_law_unswung" "_law_unswung" s__law_unswung f fd) (c__law_contrary : Cal P w K mg base 1 "_law_contrary" P__law_contrary (spD K 1 (sz 1 S__law_contrary))) (b_len : mg "len" = none)
    (spec : ∀ args G, args.length = 2 → T args G → dDef 6 (B__law_unswung S__law_contrary) args G) : FnG P w K mg base 2 f fd P__law_unswung (spD K 2 (sz 2 T)) :=
  okS F sc__law_unswung rfl (fun cdv A outer s H E hr hgd => have hu := hr.units; have hu5 := units65 hr; ⟨_,
    (dss_cons (ds_if (dt_w (dw_or (dt_cmp op_lt od_lt (de_bi DL.call_lenD cd_len b_len (da_cons (de_var 0) da_nil)) (de_add (de_var 1) de_int) (nomark _)) (dw_or (dt_cmp (op_notInX hu hu5) od_notin (de_item (de_item (de_var 0) (de_var 1)) de_int) (de_tup (da_cons de_str (da_cons de_str da_nil))) (by rfl)) (dw_or1 (dt_cmp (op_neX hu) od_ne (de_item (de_item (de_var 0) (de_add (de_var 1) de_int)) de_int) de_str (nomark _))))))
      (dss_one (ds_ret (de_lst da_nil)))
      dss_nil)
    (dss_cons (ds_asg (de_slice (de_var 0) (do_some (de_var 1)) (do_some (de_add (de_var 1) de_int))) (dg_tup rfl (dgs_cons (dg_name 2 sc__law_unswung.nd) (dgs_cons (dg_name 3 sc__law_unswung.nd) (dgs_cons (dg_name 4 sc__law_unswung.nd) dgs_nil)))))
    (dss_cons (ds_par 5 6 rfl sc__law_unswung.nd (de_fn c__law_contrary (hr.mono (by decide)) hgd (da_cons (de_item (de_var 2) de_int) da_nil)) (de_if (dt_cmp (op_eqX hu) od_eq (de_item (de_var 4) de_int) (de_item (de_var 2) de_int) (nomark _)) (de_item (de_var 3) de_int) (de_if (dt_cmp op_gt od_gt (de_bi DL.call_lenD cd_len b_len (da_cons (de_var 4) da_nil)) de_int (nomark _)) (de_add (de_item (de_var 3) de_int) (de_item (de_var 4) de_int)) de_int)))
    (dss_cons (ds_if (dt_w (dw_or (dt_cmp (op_notInX hu hu5) od_notin (de_item (de_var 4) de_int) (de_tup (da_cons de_str (da_cons de_str da_nil))) (by rfl)) (dw_or (dt_not (dt_chain op_le od_le op_le od_le de_int (de_var 6) (de_item (de_var 2) de_int))) (dw_or1 (dt_w (dw_and (dt_cmp (op_eqX hu) od_eq (de_item (de_var 4) de_int) (de_var 5) (nomark _)) (dw_and1 (dt_cmp (op_eqX hu) od_eq (de_item (de_var 4) de_int) de_int (nomark _)))))))))
      (dss_one (ds_ret (de_lst da_nil)))
      dss_nil)
    (dss_cons (ds_set 7 sc__law_unswung.nd (de_if (dt_cmp (op_eqX hu) od_eq (de_item (de_var 4) de_int) (de_item (de_var 2) de_int) (nomark _)) (de_add (de_item (de_var 3) de_int) (de_item (de_var 4) de_int)) (de_item (de_var 3) de_int)))
    (dss_one (ds_ret (de_lst (da_cons (de_add (de_add (de_slice (de_var 0) do_none (do_some (de_var 1))) (de_tup (da_cons (de_var 2) (da_cons (de_tup (da_cons (de_var 5) (da_cons (de_var 6) da_nil))) (da_cons (de_tup (da_cons (de_item (de_var 2) de_int) (da_cons (de_var 7) da_nil))) da_nil))))) (de_slice (de_var 0) (do_some (de_add (de_var 1) de_int)) do_none)) da_nil)))))))))⟩) spec
abbrev s__law_back : Stmt := top 30
abbrev N__law_back : List Str := ["stock", "parts", "spot", "way", "part", "less", "found", "place", "other"]
abbrev P__law_back : List Str := ["stock", "parts"]
theorem sc__law_back : FnScope N__law_back P__law_back (defScope s__law_back) := ⟨rfl, rfl, rfl, by decide +kernel, rfl, by decide +kernel, by decide +kernel⟩
def B__law_back (S__law_contrary S__law_draw S__law_leads S__law_pick S__law_unswung : DSp) : DTS :=
  (dSeq (dPar 2 3 (dCall (sz 2 S__law_draw) (dCons (dVar 0) (dCons (dBin gAdd (dCal (g1 gLen) (dCons (dVar 1) dNil)) (dC (.int 1))) dNil))) (dCall (sz 2 S__law_draw) (dCons (dVar 0) (dCons (dC (.int 6)) dNil))))
    (dSeq (dIfS (dOr (dTst (dBin gEq (dVar 3) (dC (.int 0)))) (dTst (dBin gEq (dVar 1) (dTup dNil)))) (dRet (dBin gAdd (dBin gAdd (dSl (dVar 1) oNone (oSome (dVar 2))) (dTup (dCons (dTup (dCons (dCall (sz 2 S__law_pick) (dCons (dVar 0) (dCons (dLst (dCons (dC (.str "on")) (dCons (dC (.str "off")) (dCons (dC (.str "delay")) dNil)))) dNil))) (dCons (dC (.int 0)) dNil))) dNil))) (dSl (dVar 1) (oSome (dVar 2)) oNone))) dNext)
    (dSeq (dIfS (dTst (dBin gEq (dVar 3) (dC (.int 1)))) (dRet (dBin gAdd (dBin gAdd (dSl (dVar 1) oNone (oSome (dVar 2))) (dTup (dCons (dTup (dCons (dC (.str "turn")) dNil)) (dCons (dTup (dCons (dC (.str "turn")) dNil)) dNil)))) (dSl (dVar 1) (oSome (dVar 2)) oNone))) dNext)
    (dSeq (dSet 2 (dCall (sz 2 S__law_draw) (dCons (dVar 0) (dCons (dCal (g1 gLen) (dCons (dVar 1) dNil)) dNil))))
    (dSeq (dSet 4 (dBin gIx (dVar 1) (dVar 2)))
    (dSeq (dIfS (dAnd (dTst (dBin gEq (dVar 3) (dC (.int 2)))) (dTst (dBin gNe (dBin gIx (dVar 4) (dC (.int 0))) (dC (.str "turn"))))) (dSeq (dSet 5 (dCall (sz 2 S__law_draw) (dCons (dVar 0) (dCons (dBin gAdd (dBin gIx (dVar 4) (dC (.int 1))) (dC (.int 1))) dNil))))
    (dRet (dBin gAdd (dBin gAdd (dSl (dVar 1) oNone (oSome (dVar 2))) (dTup (dCons (dTup (dCons (dBin gIx (dVar 4) (dC (.int 0))) (dCons (dVar 5) dNil))) (dCons (dTup (dCons (dBin gIx (dVar 4) (dC (.int 0))) (dCons (dBin gSub (dBin gIx (dVar 4) (dC (.int 1))) (dVar 5)) dNil))) dNil)))) (dSl (dVar 1) (oSome (dBin gAdd (dVar 2) (dC (.int 1)))) oNone)))) dNext)
    (dSeq (dIfS (dAnd (dTst (dBin gEq (dVar 3) (dC (.int 3)))) (dAnd (dTst (dBin gIn (dBin gIx (dVar 4) (dC (.int 0))) (dTup (dCons (dC (.str "on")) (dCons (dC (.str "off")) dNil))))) (dTst (dBin gEq (dSl (dVar 1) (oSome (dBin gAdd (dVar 2) (dC (.int 1)))) (oSome (dBin gAdd (dVar 2) (dC (.int 2))))) (dTup (dCons (dTup (dCons (dC (.str "turn")) dNil)) dNil)))))) (dRet (dBin gAdd (dBin gAdd (dSl (dVar 1) oNone (oSome (dVar 2))) (dTup (dCons (dTup (dCons (dC (.str "turn")) dNil)) (dCons (dTup (dCons (dCall (sz 1 S__law_contrary) (dCons (dBin gIx (dVar 4) (dC (.int 0))) dNil)) (dCons (dBin gIx (dVar 4) (dC (.int 1))) dNil))) dNil)))) (dSl (dVar 1) (oSome (dBin gAdd (dVar 2) (dC (.int 2)))) oNone))) dNext)
    (dSeq (dSet 6 (dLst dNil))
    (dSeq (dFor (dRng (dCons (dCal (g1 gLen) (dCons (dVar 1) dNil)) dNil)) (gNm 7) (dSet 6 (dBin gAdd (dVar 6) (dCall (sz 2 S__law_unswung) (dCons (dVar 1) (dCons (dVar 7) dNil))))))
    (dSeq (dIfS (dAnd (dTst (dBin gNe (dVar 6) (dLst dNil))) (dTst (dBin gGt (dVar 3) (dC (.int 3))))) (dRet (dCall (sz 2 S__law_pick) (dCons (dVar 0) (dCons (dVar 6) dNil)))) dNext)
    (dSeq (dSet 6 (dLc (dIt (dCall (sz 1 S__law_leads) (dCons (dVar 1) dNil))) (gNm 8) (dTst (dBin gGe (dCal (g1 gLen) (dCons (dVar 8) dNil)) (dCal (g1 gLen) (dCons (dVar 1) dNil)))) (dVar 8) (([("other", 8)] : List (Str × Nat)).map (·.2))))
    (dRet (dIf (dTst (dBin gNe (dVar 6) (dLst dNil))) (dCall (sz 2 S__law_pick) (dCons (dVar 0) (dCons (dVar 6) dNil))) (dBin gAdd (dVar 1) (dTup (dCons (dTup (dCons (dC (.str "delay")) (dCons (dC (.int 0)) dNil))) dNil))))))))))))))))
theorem ok__law_back {S__law_contrary S__law_draw S__law_leads S__law_pick S__law_unswung : DSp} {f : Addr} {fd : FuncData} {T : DSp} (F : Fun K "_law_back" "_law_back" s__law_back f fd) (c__law_contrary : Cal P w K mg base 1 "_law_contrary" P__law_contrary (spD K 1 (sz 1 S__law_contrary))) (c__law_draw : Cal P w K mg base 1 "_law_draw" P__law_draw (spD K 2 (sz 2 S__law_draw))) (c__law_leads : Cal P w K mg base 3 "_law_leads" P__law_leads (spD K 1 (sz 1 S__law_leads))) (c__law_pick : Cal P w K mg base 2 "_law_pick" P__law_pick (spD K 2 (sz 2 S__law_pick))) (c__law_unswung : Cal P w K mg base 2 "_law_unswung" P__law_unswung (spD K 2 (sz 2 S__law_unswung))) (b_len : mg "len" = none) (b_range : mg "range" = none)
    (spec : ∀ args G, args.length = 2 → T args G → dDef 7 (B__law_back S__law_contrary S__law_draw S__law_leads S__law_pick S__law_unswung) args G) : FnG P w K mg base 4 f fd P__law_back (spD K 2 (sz 2 T)) :=
  okS F sc__law_back rfl (fun cdv A outer s H E hr hgd => have hu := hr.units; have hu5 := units65 hr; ⟨_,
    (dss_cons (ds_par 2 3 rfl sc__law_back.nd (de_fn c__law_draw (hr.mono (by decide)) hgd (da_cons (de_var 0) (da_cons (de_add (de_bi DL.call_lenD cd_len b_len (da_cons (de_var 1) da_nil)) de_int) da_nil))) (de_fn c__law_draw (hr.mono (by decide)) hgd (da_cons (de_var 0) (da_cons de_int da_nil))))
    (dss_cons (ds_if (dt_w (dw_or (dt_cmp (op_eqX hu) od_eq (de_var 3) de_int (nomark _)) (dw_or1 (dt_cmp (op_eqX hu) od_eq (de_var 1) (de_tup da_nil) (nomark _)))))
      (dss_one (ds_ret (de_add (de_add (de_slice (de_var 1) do_none (do_some (de_var 2))) (de_tup (da_cons (de_tup (da_cons (de_fn c__law_pick (hr.mono (by decide)) hgd (da_cons (de_var 0) (da_cons (de_lst (da_cons de_str (da_cons de_str (da_cons de_str da_nil)))) da_nil))) (da_cons de_int da_nil))) da_nil))) (de_slice (de_var 1) (do_some (de_var 2)) do_none))))
      dss_nil)
    (dss_cons (ds_if (dt_cmp (op_eqX hu) od_eq (de_var 3) de_int (nomark _))
      (dss_one (ds_ret (de_add (de_add (de_slice (de_var 1) do_none (do_some (de_var 2))) (de_tup (da_cons (de_tup (da_cons de_str da_nil)) (da_cons (de_tup (da_cons de_str da_nil)) da_nil)))) (de_slice (de_var 1) (do_some (de_var 2)) do_none))))
      dss_nil)
    (dss_cons (ds_set 2 sc__law_back.nd (de_fn c__law_draw (hr.mono (by decide)) hgd (da_cons (de_var 0) (da_cons (de_bi DL.call_lenD cd_len b_len (da_cons (de_var 1) da_nil)) da_nil))))
    (dss_cons (ds_set 4 sc__law_back.nd (de_item (de_var 1) (de_var 2)))
    (dss_cons (ds_if (dt_w (dw_and (dt_cmp (op_eqX hu) od_eq (de_var 3) de_int (nomark _)) (dw_and1 (dt_cmp (op_neX hu) od_ne (de_item (de_var 4) de_int) de_str (nomark _)))))
      (dss_cons (ds_set 5 sc__law_back.nd (de_fn c__law_draw (hr.mono (by decide)) hgd (da_cons (de_var 0) (da_cons (de_add (de_item (de_var 4) de_int) de_int) da_nil))))
    (dss_one (ds_ret (de_add (de_add (de_slice (de_var 1) do_none (do_some (de_var 2))) (de_tup (da_cons (de_tup (da_cons (de_item (de_var 4) de_int) (da_cons (de_var 5) da_nil))) (da_cons (de_tup (da_cons (de_item (de_var 4) de_int) (da_cons (de_sub (de_item (de_var 4) de_int) (de_var 5)) da_nil))) da_nil)))) (de_slice (de_var 1) (do_some (de_add (de_var 2) de_int)) do_none)))))
      dss_nil)
    (dss_cons (ds_if (dt_w (dw_and (dt_cmp (op_eqX hu) od_eq (de_var 3) de_int (nomark _)) (dw_and (dt_cmp (op_inX hu hu5) od_in (de_item (de_var 4) de_int) (de_tup (da_cons de_str (da_cons de_str da_nil))) (by rfl)) (dw_and1 (dt_cmp (op_eqX hu) od_eq (de_slice (de_var 1) (do_some (de_add (de_var 2) de_int)) (do_some (de_add (de_var 2) de_int))) (de_tup (da_cons (de_tup (da_cons de_str da_nil)) da_nil)) (nomark _))))))
      (dss_one (ds_ret (de_add (de_add (de_slice (de_var 1) do_none (do_some (de_var 2))) (de_tup (da_cons (de_tup (da_cons de_str da_nil)) (da_cons (de_tup (da_cons (de_fn c__law_contrary (hr.mono (by decide)) hgd (da_cons (de_item (de_var 4) de_int) da_nil)) (da_cons (de_item (de_var 4) de_int) da_nil))) da_nil)))) (de_slice (de_var 1) (do_some (de_add (de_var 2) de_int)) do_none))))
      dss_nil)
    (dss_cons (ds_set 6 sc__law_back.nd (de_lst da_nil))
    (dss_cons (ds_for PassesOwn.never rfl (di_range (da_cons (de_bi DL.call_lenD cd_len b_len (da_cons (de_var 1) da_nil)) da_nil) (hm := b_range)) (dg_name 7 sc__law_back.nd)
      (dss_one (ds_set 6 sc__law_back.nd (de_add (de_var 6) (de_fn c__law_unswung (hr.mono (by decide)) hgd (da_cons (de_var 1) (da_cons (de_var 7) da_nil)))))))
    (dss_cons (ds_if (dt_w (dw_and (dt_cmp (op_neX hu) od_ne (de_var 6) (de_lst da_nil) (nomark _)) (dw_and1 (dt_cmp op_gt od_gt (de_var 3) de_int (nomark _)))))
      (dss_one (ds_ret (de_fn c__law_pick (hr.mono (by decide)) hgd (da_cons (de_var 0) (da_cons (de_var 6) da_nil)))))
      dss_nil)
    (dss_cons (ds_setLc 6 [("other", 8)] rfl sc__law_back.nd (di_seq (de_fn c__law_leads (hr.mono (by decide)) hgd (da_cons (de_var 1) da_nil))) (blkOk_by (N := N__law_back) (sc := defScope s__law_back) (by decide +kernel)) (fun _ _ _ _ _ => (dg_name 8 sc__law_back.nd)) (by decide) (fun _ _ _ _ _ => dts_one (dt_cmp op_ge od_ge (de_bi DL.call_lenD cd_len b_len (da_cons (de_var 8) da_nil)) (de_bi DL.call_lenD cd_len b_len (da_cons (de_var 1) da_nil)) (nomark _))) (fun _ _ _ _ _ => (de_var 8)))
    (dss_one (ds_ret (de_if (dt_cmp (op_neX hu) od_ne (de_var 6) (de_lst da_nil) (nomark _)) (de_fn c__law_pick (hr.mono (by decide)) hgd (da_cons (de_var 0) (da_cons (de_var 6) da_nil))) (de_add (de_var 1) (de_tup (da_cons (de_tup (da_cons de_str (da_cons de_int da_nil))) da_nil)))))))))))))))))⟩) spec
abbrev s__law_near : Stmt := top 31
abbrev N__law_near : List Str := ["stock", "parts", "spot", "way", "part", "ticks", "word"]
abbrev P__law_near : List Str := ["stock", "parts"]
theorem sc__law_near : FnScope N__law_near P__law_near (defScope s__law_near) := ⟨rfl, rfl, rfl, by decide +kernel, rfl, by decide +kernel, by decide +kernel⟩
def B__law_near (S__law_draw S__law_part S__law_pick : DSp) : DTS :=
  (dSeq (dIfS (dTst (dBin gEq (dVar 1) (dTup dNil))) (dRet (dTup (dCons (dCall (sz 2 S__law_part) (dCons (dVar 0) (dCons (dLst (dCons (dC (.int 0)) (dCons (dC (.int 1)) (dCons (dC (.int 2)) dNil)))) dNil))) dNil))) dNext)
    (dSeq (dPar 2 3 (dCall (sz 2 S__law_draw) (dCons (dVar 0) (dCons (dCal (g1 gLen) (dCons (dVar 1) dNil)) dNil))) (dCall (sz 2 S__law_draw) (dCons (dVar 0) (dCons (dC (.int 8)) dNil))))
    (dSeq (dSet 4 (dBin gIx (dVar 1) (dVar 2)))
    (dSeq (dIfS (dAnd (dTst (dBin gLt (dVar 3) (dC (.int 3)))) (dTst (dBin gNe (dBin gIx (dVar 4) (dC (.int 0))) (dC (.str "turn"))))) (dSeq (dSet 5 (dCal (g2 gMax) (dCons (dC (.int 0)) (dCons (dBin gAdd (dBin gIx (dVar 4) (dC (.int 1))) (dCall (sz 2 S__law_pick) (dCons (dVar 0) (dCons (dLst (dCons (dC (.int 1)) (dCons (dUn gNeg (dC (.int 1))) (dCons (dC (.int 2)) (dCons (dUn gNeg (dC (.int 2))) (dCons (dBin gIx (dVar 4) (dC (.int 1))) dNil)))))) dNil)))) dNil))))
    (dSeq (dSet 6 (dIf (dTst (dBin gLt (dVar 3) (dC (.int 2)))) (dBin gIx (dVar 4) (dC (.int 0))) (dCall (sz 2 S__law_pick) (dCons (dVar 0) (dCons (dLst (dCons (dC (.str "on")) (dCons (dC (.str "off")) (dCons (dC (.str "delay")) dNil)))) dNil)))))
    (dRet (dBin gAdd (dBin gAdd (dSl (dVar 1) oNone (oSome (dVar 2))) (dTup (dCons (dTup (dCons (dVar 6) (dCons (dVar 5) dNil))) dNil))) (dSl (dVar 1) (oSome (dBin gAdd (dVar 2) (dC (.int 1)))) oNone))))) dNext)
    (dSeq (dIfS (dTst (dBin gEq (dVar 3) (dC (.int 3)))) (dRet (dBin gAdd (dSl (dVar 1) oNone (oSome (dVar 2))) (dSl (dVar 1) (oSome (dBin gAdd (dVar 2) (dC (.int 1)))) oNone))) dNext)
    (dSeq (dIfS (dTst (dBin gEq (dVar 3) (dC (.int 4)))) (dRet (dBin gAdd (dBin gAdd (dSl (dVar 1) oNone (oSome (dVar 2))) (dTup (dCons (dVar 4) (dCons (dVar 4) dNil)))) (dSl (dVar 1) (oSome (dBin gAdd (dVar 2) (dC (.int 1)))) oNone))) dNext)
    (dSeq (dIfS (dTst (dBin gEq (dVar 3) (dC (.int 5)))) (dRet (dBin gAdd (dBin gAdd (dSl (dVar 1) oNone (oSome (dVar 2))) (dTup (dCons (dTup (dCons (dC (.str "turn")) dNil)) dNil))) (dSl (dVar 1) (oSome (dVar 2)) oNone))) dNext)
    (dRet (dIf (dTst (dBin gEq (dVar 3) (dC (.int 6)))) (dBin gAdd (dBin gAdd (dBin gAdd (dSl (dVar 1) oNone (oSome (dVar 2))) (dSl (dVar 1) (oSome (dBin gAdd (dVar 2) (dC (.int 1)))) (oSome (dBin gAdd (dVar 2) (dC (.int 2)))))) (dTup (dCons (dVar 4) dNil))) (dSl (dVar 1) (oSome (dBin gAdd (dVar 2) (dC (.int 2)))) oNone)) (dUn gRev (dVar 1)))))))))))
theorem ok__law_near {S__law_draw S__law_part S__law_pick : DSp} {f : Addr} {fd : FuncData} {T : DSp} (F : Fun K "_law_near" "_law_near" s__law_near f fd) (c__law_draw : Cal P w K mg base 1 "_law_draw" P__law_draw (spD K 2 (sz 2 S__law_draw))) (c__law_part : Cal P w K mg base 3 "_law_part" P__law_part (spD K 2 (sz 2 S__law_part))) (c__law_pick : Cal P w K mg base 2 "_law_pick" P__law_pick (spD K 2 (sz 2 S__law_pick))) (b_len : mg "len" = none) (b_max : mg "max" = none)
    (spec : ∀ args G, args.length = 2 → T args G → dDef 5 (B__law_near S__law_draw S__law_part S__law_pick) args G) : FnG P w K mg base 4 f fd P__law_near (spD K 2 (sz 2 T)) :=
  okS F sc__law_near rfl (fun cdv A outer s H E hr hgd => have hu := hr.units; ⟨_,
    (dss_cons (ds_if (dt_cmp (op_eqX hu) od_eq (de_var 1) (de_tup da_nil) (nomark _))
      (dss_one (ds_ret (de_tup (da_cons (de_fn c__law_part (hr.mono (by decide)) hgd (da_cons (de_var 0) (da_cons (de_lst (da_cons de_int (da_cons de_int (da_cons de_int da_nil)))) da_nil))) da_nil))))
      dss_nil)
    (dss_cons (ds_par 2 3 rfl sc__law_near.nd (de_fn c__law_draw (hr.mono (by decide)) hgd (da_cons (de_var 0) (da_cons (de_bi DL.call_lenD cd_len b_len (da_cons (de_var 1) da_nil)) da_nil))) (de_fn c__law_draw (hr.mono (by decide)) hgd (da_cons (de_var 0) (da_cons de_int da_nil))))
    (dss_cons (ds_set 4 sc__law_near.nd (de_item (de_var 1) (de_var 2)))
    (dss_cons (ds_if (dt_w (dw_and (dt_cmp op_lt od_lt (de_var 3) de_int (nomark _)) (dw_and1 (dt_cmp (op_neX hu) od_ne (de_item (de_var 4) de_int) de_str (nomark _)))))
      (dss_cons (ds_set 5 sc__law_near.nd (de_bi (call_max2 rfl) cd_max2 b_max (da_cons de_int (da_cons (de_add (de_item (de_var 4) de_int) (de_fn c__law_pick (hr.mono (by decide)) hgd (da_cons (de_var 0) (da_cons (de_lst (da_cons de_int (da_cons (de_neg de_int) (da_cons de_int (da_cons (de_neg de_int) (da_cons (de_item (de_var 4) de_int) da_nil)))))) da_nil)))) da_nil))))
    (dss_cons (ds_set 6 sc__law_near.nd (de_if (dt_cmp op_lt od_lt (de_var 3) de_int (nomark _)) (de_item (de_var 4) de_int) (de_fn c__law_pick (hr.mono (by decide)) hgd (da_cons (de_var 0) (da_cons (de_lst (da_cons de_str (da_cons de_str (da_cons de_str da_nil)))) da_nil)))))
    (dss_one (ds_ret (de_add (de_add (de_slice (de_var 1) do_none (do_some (de_var 2))) (de_tup (da_cons (de_tup (da_cons (de_var 6) (da_cons (de_var 5) da_nil))) da_nil))) (de_slice (de_var 1) (do_some (de_add (de_var 2) de_int)) do_none))))))
      dss_nil)
    (dss_cons (ds_if (dt_cmp (op_eqX hu) od_eq (de_var 3) de_int (nomark _))
      (dss_one (ds_ret (de_add (de_slice (de_var 1) do_none (do_some (de_var 2))) (de_slice (de_var 1) (do_some (de_add (de_var 2) de_int)) do_none))))
      dss_nil)
    (dss_cons (ds_if (dt_cmp (op_eqX hu) od_eq (de_var 3) de_int (nomark _))
      (dss_one (ds_ret (de_add (de_add (de_slice (de_var 1) do_none (do_some (de_var 2))) (de_tup (da_cons (de_var 4) (da_cons (de_var 4) da_nil)))) (de_slice (de_var 1) (do_some (de_add (de_var 2) de_int)) do_none))))
      dss_nil)
    (dss_cons (ds_if (dt_cmp (op_eqX hu) od_eq (de_var 3) de_int (nomark _))
      (dss_one (ds_ret (de_add (de_add (de_slice (de_var 1) do_none (do_some (de_var 2))) (de_tup (da_cons (de_tup (da_cons de_str da_nil)) da_nil))) (de_slice (de_var 1) (do_some (de_var 2)) do_none))))
      dss_nil)
    (dss_one (ds_ret (de_if (dt_cmp (op_eqX hu) od_eq (de_var 3) de_int (nomark _)) (de_add (de_add (de_add (de_slice (de_var 1) do_none (do_some (de_var 2))) (de_slice (de_var 1) (do_some (de_add (de_var 2) de_int)) (do_some (de_add (de_var 2) de_int)))) (de_tup (da_cons (de_var 4) da_nil))) (de_slice (de_var 1) (do_some (de_add (de_var 2) de_int)) do_none)) (de_rev (de_var 1))))))))))))⟩) spec
abbrev s__law_others : Stmt := top 32
abbrev N__law_others : List Str := ["stock", "row", "led", "found", "further", "turn"]
abbrev P__law_others : List Str := ["stock", "row"]
theorem sc__law_others : FnScope N__law_others P__law_others (defScope s__law_others) := ⟨rfl, rfl, rfl, by decide +kernel, rfl, by decide +kernel, by decide +kernel⟩
def B__law_others (S__law_back S__law_leads S__law_near S__law_pick S__law_shuffled : DSp) : DTS :=
  (dSeq (dSet 2 (dCall (sz 1 S__law_leads) (dCons (dVar 1) dNil)))
    (dSeq (dSet 3 (dBin gAdd (dSl (dCall (sz 2 S__law_shuffled) (dCons (dVar 0) (dCons (dVar 2) dNil))) oNone (oSome (dC (.int 5)))) (dLc (dRng (dCons (dC (.int 4)) dNil)) (gNm 5) dYes (dCall (sz 2 S__law_back) (dCons (dVar 0) (dCons (dVar 1) dNil))) (([("turn", 5)] : List (Str × Nat)).map (·.2)))))
    (dSeq (dSet 3 (dBin gAdd (dBin gAdd (dVar 3) (dLc (dRng (dCons (dC (.int 5)) dNil)) (gNm 5) dYes (dCall (sz 2 S__law_near) (dCons (dVar 0) (dCons (dVar 1) dNil))) (([("turn", 5)] : List (Str × Nat)).map (·.2)))) (dLst (dCons (dVar 1) (dCons (dCall (sz 2 S__law_back) (dCons (dVar 0) (dCons (dCall (sz 2 S__law_back) (dCons (dVar 0) (dCons (dVar 1) dNil))) dNil))) dNil)))))
    (dSeq (dIfS (dTst (dBin gNe (dVar 2) (dLst dNil))) (dSeq (dSet 4 (dCall (sz 1 S__law_leads) (dCons (dCall (sz 2 S__law_pick) (dCons (dVar 0) (dCons (dVar 2) dNil))) dNil)))
    (dSet 3 (dBin gAdd (dVar 3) (dSl (dCall (sz 2 S__law_shuffled) (dCons (dVar 0) (dCons (dVar 4) dNil))) oNone (oSome (dC (.int 2))))))) dNext)
    (dRet (dVar 3))))))
theorem ok__law_others {S__law_back S__law_leads S__law_near S__law_pick S__law_shuffled : DSp} {f : Addr} {fd : FuncData} {T : DSp} (F : Fun K "_law_others" "_law_others" s__law_others f fd) (c__law_back : Cal P w K mg base 4 "_law_back" P__law_back (spD K 2 (sz 2 S__law_back))) (c__law_leads : Cal P w K mg base 3 "_law_leads" P__law_leads (spD K 1 (sz 1 S__law_leads))) (c__law_near : Cal P w K mg base 4 "_law_near" P__law_near (spD K 2 (sz 2 S__law_near))) (c__law_pick : Cal P w K mg base 2 "_law_pick" P__law_pick (spD K 2 (sz 2 S__law_pick))) (c__law_shuffled : Cal P w K mg base 2 "_law_shuffled" P__law_shuffled (spD K 2 (sz 2 S__law_shuffled))) (b_range : mg "range" = none)
    (spec : ∀ args G, args.length = 2 → T args G → dDef 4 (B__law_others S__law_back S__law_leads S__law_near S__law_pick S__law_shuffled) args G) : FnG P w K mg base 5 f fd P__law_others (spD K 2 (sz 2 T)) :=
  okS F sc__law_others rfl (fun cdv A outer s H E hr hgd => have hu := hr.units; ⟨_,
    (dss_cons (ds_set 2 sc__law_others.nd (de_fn c__law_leads (hr.mono (by decide)) hgd (da_cons (de_var 1) da_nil)))
    (dss_cons (ds_set 3 sc__law_others.nd (de_add (de_slice (de_fn c__law_shuffled (hr.mono (by decide)) hgd (da_cons (de_var 0) (da_cons (de_var 2) da_nil))) do_none (do_some de_int)) (de_lc [("turn", 5)] rfl sc__law_others.nd (di_range (da_cons de_int da_nil) (hm := b_range)) (blkOk_by (N := N__law_others) (sc := defScope s__law_others) (by decide +kernel)) (fun _ _ _ _ _ => (dg_name 5 sc__law_others.nd)) (by decide) (fun _ _ _ _ _ => dts_nil) (fun _ _ _ _ _ => (de_fn c__law_back (hr.mono (by decide)) hgd (da_cons (de_var 0) (da_cons (de_var 1) da_nil)))))))
    (dss_cons (ds_set 3 sc__law_others.nd (de_add (de_add (de_var 3) (de_lc [("turn", 5)] rfl sc__law_others.nd (di_range (da_cons de_int da_nil) (hm := b_range)) (blkOk_by (N := N__law_others) (sc := defScope s__law_others) (by decide +kernel)) (fun _ _ _ _ _ => (dg_name 5 sc__law_others.nd)) (by decide) (fun _ _ _ _ _ => dts_nil) (fun _ _ _ _ _ => (de_fn c__law_near (hr.mono (by decide)) hgd (da_cons (de_var 0) (da_cons (de_var 1) da_nil)))))) (de_lst (da_cons (de_var 1) (da_cons (de_fn c__law_back (hr.mono (by decide)) hgd (da_cons (de_var 0) (da_cons (de_fn c__law_back (hr.mono (by decide)) hgd (da_cons (de_var 0) (da_cons (de_var 1) da_nil))) da_nil))) da_nil)))))
    (dss_cons (ds_if (dt_cmp (op_neX hu) od_ne (de_var 2) (de_lst da_nil) (nomark _))
      (dss_cons (ds_set 4 sc__law_others.nd (de_fn c__law_leads (hr.mono (by decide)) hgd (da_cons (de_fn c__law_pick (hr.mono (by decide)) hgd (da_cons (de_var 0) (da_cons (de_var 2) da_nil))) da_nil)))
    (dss_one (ds_set 3 sc__law_others.nd (de_add (de_var 3) (de_slice (de_fn c__law_shuffled (hr.mono (by decide)) hgd (da_cons (de_var 0) (da_cons (de_var 4) da_nil))) do_none (do_some de_int))))))
      dss_nil)
    (dss_one (ds_ret (de_var 3)))))))⟩) spec
abbrev s__law_is_told : Stmt := top 33
abbrev N__law_is_told : List Str := ["row", "other", "is_named", "due", "known", "told"]
abbrev P__law_is_told : List Str := ["row", "other", "is_named"]
theorem sc__law_is_told : FnScope N__law_is_told P__law_is_told (defScope s__law_is_told) := ⟨rfl, rfl, rfl, by decide +kernel, rfl, by decide +kernel, by decide +kernel⟩
def B__law_is_told (S__law_is_led S_is_exchange : DSp) : DTS :=
  (dSeq (dPar 3 4 (dCall (sz 2 S__law_is_led) (dCons (dVar 0) (dCons (dVar 1) dNil))) (dCal (g1 gRepr) (dCons (dLst (dCons (dVar 0) (dCons (dVar 1) dNil))) dNil)))
    (dSeq (dIfS (dTru (dVar 2)) (dSet 5 (dLst (dCons (dCallK 0 2 (sz 2 S_is_exchange) [1, 0] dNil (dCons (dVar 1) (dCons (dVar 0) dNil))) (dCons (dCallK 0 2 (sz 2 S_is_exchange) [0, 1] dNil (dCons (dVar 1) (dCons (dVar 0) dNil))) (dCons (dCall (sz 2 S_is_exchange) (dCons (dVar 0) (dCons (dVar 1) dNil))) dNil))))) (dSet 5 (dLst (dCons (dCall (sz 2 S_is_exchange) (dCons (dVar 0) (dCons (dVar 1) dNil))) (dCons (dCall (sz 2 S_is_exchange) (dCons (dVar 1) (dCons (dVar 0) dNil))) (dCons (dCall (sz 2 S_is_exchange) (dCons (dVar 0) (dCons (dVar 1) dNil))) dNil))))))
    (dRet (dAndV (dBin gEq (dCal (g1 gRepr) (dCons (dVar 5) dNil)) (dCal (g1 gRepr) (dCons (dBin gMul (dLst (dCons (dVar 3) dNil)) (dC (.int 3))) dNil))) (dBin gEq (dCal (g1 gRepr) (dCons (dLst (dCons (dVar 0) (dCons (dVar 1) dNil))) dNil)) (dVar 4))))))
theorem ok__law_is_told {S__law_is_led S_is_exchange : DSp} {f : Addr} {fd : FuncData} {T : DSp} (F : Fun K "_law_is_told" "_law_is_told" s__law_is_told f fd) (c__law_is_led : Cal P w K mg base 4 "_law_is_led" P__law_is_led (spD K 2 (sz 2 S__law_is_led))) (c_is_exchange : Cal P w K mg base 6 "is_exchange" P_is_exchange (spD K 2 (sz 2 S_is_exchange))) (ck_is_exchange_other_row : CalK P w K mg base 6 "is_exchange" P_is_exchange ["other", "row"] 0 [1, 0] (spD K 2 (sz 2 S_is_exchange))) (ck_is_exchange_row_other : CalK P w K mg base 6 "is_exchange" P_is_exchange ["row", "other"] 0 [0, 1] (spD K 2 (sz 2 S_is_exchange))) (b_repr : mg "repr" = none)
    (spec : ∀ args G, args.length = 3 → T args G → dDef 3 (B__law_is_told S__law_is_led S_is_exchange) args G) : FnG P w K mg base 7 f fd P__law_is_told (spD K 3 (sz 3 T)) :=
  okS F sc__law_is_told rfl (fun cdv A outer s H E hr hgd => have hu := hr.units; ⟨_,
    (dss_cons (ds_par 3 4 rfl sc__law_is_told.nd (de_fn c__law_is_led (hr.mono (by decide)) hgd (da_cons (de_var 0) (da_cons (de_var 1) da_nil))) (de_bi (call_reprD hr hgd) cd_repr b_repr (da_cons (de_lst (da_cons (de_var 0) (da_cons (de_var 1) da_nil))) da_nil)))
    (dss_cons (ds_if (dt_val (de_var 2))
      (dss_one (ds_set 5 sc__law_is_told.nd (de_lst (da_cons (de_fnK0 ck_is_exchange_other_row (hr.mono (by decide)) hgd (dk_cons (de_var 1) (dk_cons (de_var 0) dk_nil))) (da_cons (de_fnK0 ck_is_exchange_row_other (hr.mono (by decide)) hgd (dk_cons (de_var 1) (dk_cons (de_var 0) dk_nil))) (da_cons (de_fn c_is_exchange (hr.mono (by decide)) hgd (da_cons (de_var 0) (da_cons (de_var 1) da_nil))) da_nil))))))
      (dss_one (ds_set 5 sc__law_is_told.nd (de_lst (da_cons (de_fn c_is_exchange (hr.mono (by decide)) hgd (da_cons (de_var 0) (da_cons (de_var 1) da_nil))) (da_cons (de_fn c_is_exchange (hr.mono (by decide)) hgd (da_cons (de_var 1) (da_cons (de_var 0) da_nil))) (da_cons (de_fn c_is_exchange (hr.mono (by decide)) hgd (da_cons (de_var 0) (da_cons (de_var 1) da_nil))) da_nil)))))))
    (dss_one (ds_ret (de_and (de_cmp (op_eqX hu) od_eq (de_bi (call_reprD hr hgd) cd_repr b_repr (da_cons (de_var 5) da_nil)) (de_bi (call_reprD hr hgd) cd_repr b_repr (da_cons (de_mul (de_lst (da_cons (de_var 3) da_nil)) de_int) da_nil)) (nomark _)) (de_one (de_cmp (op_eqX hu) od_eq (de_bi (call_reprD hr hgd) cd_repr b_repr (da_cons (de_lst (da_cons (de_var 0) (da_cons (de_var 1) da_nil))) da_nil)) (de_var 4) (nomark _))))))))⟩) spec
abbrev s_law : Stmt := top 34
abbrev N_law : List Str := ["script", "stock", "great", "turn", "menu", "row", "nth", "other", "pairs", "due"]
abbrev P_law : List Str := ["script"]
theorem sc_law : FnScope N_law P_law (defScope s_law) := ⟨rfl, rfl, rfl, by decide +kernel, rfl, by decide +kernel, by decide +kernel⟩
def B_law (S__law_back S__law_draw S__law_is_told S__law_leads S__law_near S__law_others S__law_pick S__law_row S_is_exchange : DSp) : DTS :=
  (dSeq (dSet 2 (dBin gPow (dC (.int 10)) (dC (.int 30))))
    (dSeq (dFor (dRng (dCons (dC (.int 3)) dNil)) (gNm 3) (dSeq (dSet 4 (dBin gIx (dLst (dCons (dLst (dCons (dC (.int 0)) (dCons (dC (.int 1)) (dCons (dC (.int 1)) (dCons (dC (.int 2)) (dCons (dC (.int 2)) (dCons (dC (.int 3)) dNil))))))) (dCons (dLst (dCons (dC (.int 0)) (dCons (dC (.int 1)) (dCons (dC (.int 2)) (dCons (dC (.int 3)) (dCons (dC (.int 5)) (dCons (dC (.int 8)) dNil))))))) (dCons (dLst (dCons (dC (.int 0)) (dCons (dC (.int 1)) (dCons (dVar 2) (dCons (dBin gSub (dVar 2) (dC (.int 1))) (dCons (dBin gAdd (dVar 2) (dC (.int 1))) (dCons (dBin gMul (dC (.int 3)) (dVar 2)) dNil))))))) dNil)))) (dVar 3)))
    (dSeq (dSet 5 (dCall (sz 3 S__law_row) (dCons (dVar 1) (dCons (dCall (sz 2 S__law_draw) (dCons (dVar 1) (dCons (dC (.int 7)) dNil))) (dCons (dVar 4) dNil)))))
    (dFor (dEnum (dCall (sz 2 S__law_others) (dCons (dVar 1) (dCons (dVar 5) dNil)))) (gTu 2 (gCons' (gNm 6) (gCons' (gNm 7) gNil'))) (dIfS (dNot (dTru (dCall (sz 3 S__law_is_told) (dCons (dVar 5) (dCons (dVar 7) (dCons (dBin gEq (dVar 6) (dVar 3)) dNil)))))) (dRet (dC (.bool false))) dNext)))))
    (dSeq (dIfS (dTst (dBin gEq (dCall (sz 2 S__law_draw) (dCons (dVar 1) (dCons (dC (.int 6)) dNil))) (dC (.int 0)))) (dSeq (dSet 5 (dBin gMul (dCall (sz 3 S__law_row) (dCons (dVar 1) (dCons (dC (.int 1)) (dCons (dLst (dCons (dC (.int 1)) (dCons (dC (.int 2)) (dCons (dC (.int 3)) dNil)))) dNil)))) (dC (.int 14))))
    (dFor (dIt (dTup (dCons (dCall (sz 2 S__law_back) (dCons (dVar 1) (dCons (dVar 5) dNil))) (dCons (dCall (sz 2 S__law_near) (dCons (dVar 1) (dCons (dVar 5) dNil))) (dCons (dCall (sz 2 S__law_pick) (dCons (dVar 1) (dCons (dCall (sz 1 S__law_leads) (dCons (dBin gAdd (dVar 5) (dTup (dCons (dTup (dCons (dC (.str "on")) (dCons (dC (.int 0)) dNil))) dNil))) dNil)) dNil))) dNil))))) (gNm 7) (dIfS (dNot (dTru (dCall (sz 3 S__law_is_told) (dCons (dVar 5) (dCons (dVar 7) (dCons (dC (.bool false)) dNil)))))) (dRet (dC (.bool false))) dNext))) dNext)
    (dSeq (dSet 8 (dLst (dCons (dTup (dCons (dTup (dCons (dTup (dCons (dC (.str "on")) (dCons (dC (.int 2)) dNil))) (dCons (dTup (dCons (dC (.str "off")) (dCons (dC (.int 1)) dNil))) (dCons (dTup (dCons (dC (.str "on")) (dCons (dC (.int 1)) dNil))) dNil)))) (dCons (dTup (dCons (dTup (dCons (dC (.str "on")) (dCons (dC (.int 2)) dNil))) (dCons (dTup (dCons (dC (.str "delay")) (dCons (dC (.int 1)) dNil))) (dCons (dTup (dCons (dC (.str "on")) (dCons (dC (.int 0)) dNil))) dNil)))) dNil))) dNil)))
    (dSeq (dDrop (dApp 8 (dTup (dCons (dTup (dCons (dTup (dCons (dC (.str "on")) (dCons (dC (.int 2)) dNil))) (dCons (dTup (dCons (dC (.str "off")) (dCons (dC (.int 3)) dNil))) (dCons (dTup (dCons (dC (.str "on")) (dCons (dC (.int 4)) dNil))) dNil)))) (dCons (dTup (dCons (dTup (dCons (dC (.str "on")) (dCons (dC (.int 2)) dNil))) (dCons (dTup (dCons (dC (.str "delay")) (dCons (dC (.int 3)) dNil))) (dCons (dTup (dCons (dC (.str "on")) (dCons (dC (.int 1)) dNil))) dNil)))) dNil)))))
    (dSeq (dDrop (dApp 8 (dTup (dCons (dTup (dCons (dTup (dCons (dC (.str "off")) (dCons (dC (.int 3)) dNil))) (dCons (dTup (dCons (dC (.str "on")) (dCons (dC (.int 2)) dNil))) (dCons (dTup (dCons (dC (.str "off")) (dCons (dC (.int 0)) dNil))) dNil)))) (dCons (dTup (dCons (dTup (dCons (dC (.str "off")) (dCons (dC (.int 3)) dNil))) (dCons (dTup (dCons (dC (.str "delay")) (dCons (dC (.int 0)) dNil))) (dCons (dTup (dCons (dC (.str "on")) (dCons (dC (.int 2)) dNil))) dNil)))) dNil)))))
    (dSeq (dDrop (dApp 8 (dTup (dCons (dTup (dCons (dTup (dCons (dC (.str "delay")) (dCons (dC (.int 2)) dNil))) (dCons (dTup (dCons (dC (.str "delay")) (dCons (dC (.int 2)) dNil))) dNil))) (dCons (dTup (dCons (dTup (dCons (dC (.str "delay")) (dCons (dC (.int 2)) dNil))) (dCons (dTup (dCons (dC (.str "delay")) (dCons (dC (.int 2)) dNil))) dNil))) dNil)))))
    (dSeq (dDrop (dApp 8 (dTup (dCons (dTup (dCons (dTup (dCons (dC (.str "on")) (dCons (dC (.int 2)) dNil))) (dCons (dTup (dCons (dC (.str "off")) (dCons (dC (.int 1)) dNil))) (dCons (dTup (dCons (dC (.str "on")) (dCons (dC (.int 1)) dNil))) dNil)))) (dCons (dTup (dCons (dTup (dCons (dC (.str "on")) (dCons (dC (.int 2)) dNil))) (dCons (dTup (dCons (dC (.str "delay")) (dCons (dC (.int 1)) dNil))) (dCons (dTup (dCons (dC (.str "off")) (dCons (dC (.int 0)) dNil))) dNil)))) dNil)))))
    (dSeq (dDrop (dApp 8 (dTup (dCons (dTup (dCons (dTup (dCons (dC (.str "on")) (dCons (dC (.int 2)) dNil))) (dCons (dTup (dCons (dC (.str "off")) (dCons (dC (.int 3)) dNil))) (dCons (dTup (dCons (dC (.str "on")) (dCons (dC (.int 1)) dNil))) dNil)))) (dCons (dTup (dCons (dTup (dCons (dC (.str "on")) (dCons (dC (.int 2)) dNil))) (dCons (dTup (dCons (dC (.str "delay")) (dCons (dC (.int 1)) dNil))) (dCons (dTup (dCons (dC (.str "off")) (dCons (dC (.int 2)) dNil))) dNil)))) dNil)))))
    (dSeq (dDrop (dApp 8 (dTup (dCons (dTup (dCons (dTup (dCons (dC (.str "on")) (dCons (dC (.int 3)) dNil))) (dCons (dTup (dCons (dC (.str "on")) (dCons (dC (.int 1)) dNil))) (dCons (dTup (dCons (dC (.str "on")) (dCons (dC (.int 2)) dNil))) dNil)))) (dCons (dTup (dCons (dTup (dCons (dC (.str "on")) (dCons (dC (.int 3)) dNil))) (dCons (dTup (dCons (dC (.str "delay")) (dCons (dC (.int 1)) dNil))) (dCons (dTup (dCons (dC (.str "on")) (dCons (dC (.int 1)) dNil))) dNil)))) dNil)))))
    (dSeq (dDrop (dApp 8 (dTup (dCons (dTup (dCons (dTup (dCons (dC (.str "on")) (dCons (dC (.int 2)) dNil))) (dCons (dTup (dCons (dC (.str "off")) (dCons (dC (.int 0)) dNil))) (dCons (dTup (dCons (dC (.str "on")) (dCons (dC (.int 1)) dNil))) dNil)))) (dCons (dTup (dCons (dTup (dCons (dC (.str "on")) (dCons (dC (.int 2)) dNil))) (dCons (dTup (dCons (dC (.str "delay")) (dCons (dC (.int 0)) dNil))) (dCons (dTup (dCons (dC (.str "on")) (dCons (dC (.int 1)) dNil))) dNil)))) dNil)))))
    (dSeq (dSet 9 (dLst (dCons (dC (.bool true)) (dCons (dC (.bool false)) (dCons (dC (.bool true)) (dCons (dC (.bool false)) (dCons (dC (.bool false)) (dCons (dC (.bool false)) (dCons (dC (.bool false)) (dCons (dC (.bool false)) dNil))))))))))
    (dRet (dBin gEq (dCal (g1 gRepr) (dCons (dLc (dIt (dVar 8)) (gTu 2 (gCons' (gNm 5) (gCons' (gNm 7) gNil'))) dYes (dCall (sz 2 S_is_exchange) (dCons (dVar 5) (dCons (dVar 7) dNil))) (([("row", 5), ("other", 7)] : List (Str × Nat)).map (·.2))) dNil)) (dCal (g1 gRepr) (dCons (dVar 9) dNil))))))))))))))))
theorem ok_law {S__law_back S__law_draw S__law_is_told S__law_leads S__law_near S__law_others S__law_pick S__law_row S_is_exchange : DSp} {f : Addr} {fd : FuncData} (F : Fun K "law" "law" s_law f fd) (c__law_stock : Cal P w K mg base 1 "_law_stock" ["script"] (spDeck K)) (c__law_back : Cal P w K mg base 4 "_law_back" P__law_back (spD K 2 (sz 2 S__law_back))) (c__law_draw : Cal P w K mg base 1 "_law_draw" P__law_draw (spD K 2 (sz 2 S__law_draw))) (c__law_is_told : Cal P w K mg base 7 "_law_is_told" P__law_is_told (spD K 3 (sz 3 S__law_is_told))) (c__law_leads : Cal P w K mg base 3 "_law_leads" P__law_leads (spD K 1 (sz 1 S__law_leads))) (c__law_near : Cal P w K mg base 4 "_law_near" P__law_near (spD K 2 (sz 2 S__law_near))) (c__law_others : Cal P w K mg base 5 "_law_others" P__law_others (spD K 2 (sz 2 S__law_others))) (c__law_pick : Cal P w K mg base 2 "_law_pick" P__law_pick (spD K 2 (sz 2 S__law_pick))) (c__law_row : Cal P w K mg base 4 "_law_row" P__law_row (spD K 3 (sz 3 S__law_row))) (c_is_exchange : Cal P w K mg base 6 "is_exchange" P_is_exchange (spD K 2 (sz 2 S_is_exchange))) (b_enumerate : mg "enumerate" = none) (b_range : mg "range" = none) (b_repr : mg "repr" = none)
    (spec : (B_law S__law_back S__law_draw S__law_is_told S__law_leads S__law_near S__law_others S__law_pick S__law_row S_is_exchange) { nx := fun _ => False, rt := fun r _ => r = .dat (.bool true) } (none :: some .dk :: (N_law.drop 2).map fun _ => none)) : FnG P w K mg base 8 f fd ["script"] (spLaw K) :=
  okLaw (N0 := N_law.drop 2) F sc_law rfl c__law_stock (by decide) (fun cdv A outer s H E hr hgd => ps_deck c__law_stock sc_law.nd rfl rfl (by first | exact Or.inl rfl | exact Or.inr (Or.inl rfl) | exact Or.inr (Or.inr rfl)) (by first | exact Or.inl rfl | exact Or.inr rfl | exact Or.inr (Or.inl rfl)) (hr.mono (by decide)) hgd rfl (by decide) rfl (by first | exact Or.inr rfl | exact Or.inl rfl) rfl rfl) (fun cdv A outer s H E hr hgd => have hu := hr.units; ⟨_,
    (dss_cons (ds_set 2 sc_law.nd (de_pow de_int de_int))
    (dss_cons (ds_for PassesOwn.never rfl (di_range (da_cons de_int da_nil) (hm := b_range)) (dg_name 3 sc_law.nd)
      (dss_cons (ds_set 4 sc_law.nd (de_item (de_lst (da_cons (de_lst (da_cons de_int (da_cons de_int (da_cons de_int (da_cons de_int (da_cons de_int (da_cons de_int da_nil))))))) (da_cons (de_lst (da_cons de_int (da_cons de_int (da_cons de_int (da_cons de_int (da_cons de_int (da_cons de_int da_nil))))))) (da_cons (de_lst (da_cons de_int (da_cons de_int (da_cons (de_var 2) (da_cons (de_sub (de_var 2) de_int) (da_cons (de_add (de_var 2) de_int) (da_cons (de_mul de_int (de_var 2)) da_nil))))))) da_nil)))) (de_var 3)))
    (dss_cons (ds_set 5 sc_law.nd (de_fn c__law_row (hr.mono (by decide)) hgd (da_cons (de_var 1) (da_cons (de_fn c__law_draw (hr.mono (by decide)) hgd (da_cons (de_var 1) (da_cons de_int da_nil))) (da_cons (de_var 4) da_nil)))))
    (dss_one (ds_for PassesOwn.never rfl (di_enum (de_fn c__law_others (hr.mono (by decide)) hgd (da_cons (de_var 1) (da_cons (de_var 5) da_nil))) b_enumerate) (dg_tup rfl (dgs_cons (dg_name 6 sc_law.nd) (dgs_cons (dg_name 7 sc_law.nd) dgs_nil)))
      (dss_one (ds_if (dt_not (dt_val (de_fn c__law_is_told (hr.mono (by decide)) hgd (da_cons (de_var 5) (da_cons (de_var 7) (da_cons (de_cmp (op_eqX hu) od_eq (de_var 6) (de_var 3) (nomark _)) da_nil))))))
      (dss_one (ds_ret de_bl))
      dss_nil)))))))
    (dss_cons (ds_if (dt_cmp (op_eqX hu) od_eq (de_fn c__law_draw (hr.mono (by decide)) hgd (da_cons (de_var 1) (da_cons de_int da_nil))) de_int (nomark _))
      (dss_cons (ds_set 5 sc_law.nd (de_mul (de_fn c__law_row (hr.mono (by decide)) hgd (da_cons (de_var 1) (da_cons de_int (da_cons (de_lst (da_cons de_int (da_cons de_int (da_cons de_int da_nil)))) da_nil)))) de_int))
    (dss_one (ds_for PassesOwn.never rfl (di_seq (de_tup (da_cons (de_fn c__law_back (hr.mono (by decide)) hgd (da_cons (de_var 1) (da_cons (de_var 5) da_nil))) (da_cons (de_fn c__law_near (hr.mono (by decide)) hgd (da_cons (de_var 1) (da_cons (de_var 5) da_nil))) (da_cons (de_fn c__law_pick (hr.mono (by decide)) hgd (da_cons (de_var 1) (da_cons (de_fn c__law_leads (hr.mono (by decide)) hgd (da_cons (de_add (de_var 5) (de_tup (da_cons (de_tup (da_cons de_str (da_cons de_int da_nil))) da_nil))) da_nil)) da_nil))) da_nil))))) (dg_name 7 sc_law.nd)
      (dss_one (ds_if (dt_not (dt_val (de_fn c__law_is_told (hr.mono (by decide)) hgd (da_cons (de_var 5) (da_cons (de_var 7) (da_cons de_bl da_nil))))))
      (dss_one (ds_ret de_bl))
      dss_nil)))))
      dss_nil)
    (dss_cons (ds_set 8 sc_law.nd (de_lst (da_cons (de_tup (da_cons (de_tup (da_cons (de_tup (da_cons de_str (da_cons de_int da_nil))) (da_cons (de_tup (da_cons de_str (da_cons de_int da_nil))) (da_cons (de_tup (da_cons de_str (da_cons de_int da_nil))) da_nil)))) (da_cons (de_tup (da_cons (de_tup (da_cons de_str (da_cons de_int da_nil))) (da_cons (de_tup (da_cons de_str (da_cons de_int da_nil))) (da_cons (de_tup (da_cons de_str (da_cons de_int da_nil))) da_nil)))) da_nil))) da_nil)))
    (dss_cons (ds_expr (de_app 8 (de_tup (da_cons (de_tup (da_cons (de_tup (da_cons de_str (da_cons de_int da_nil))) (da_cons (de_tup (da_cons de_str (da_cons de_int da_nil))) (da_cons (de_tup (da_cons de_str (da_cons de_int da_nil))) da_nil)))) (da_cons (de_tup (da_cons (de_tup (da_cons de_str (da_cons de_int da_nil))) (da_cons (de_tup (da_cons de_str (da_cons de_int da_nil))) (da_cons (de_tup (da_cons de_str (da_cons de_int da_nil))) da_nil)))) da_nil)))))
    (dss_cons (ds_expr (de_app 8 (de_tup (da_cons (de_tup (da_cons (de_tup (da_cons de_str (da_cons de_int da_nil))) (da_cons (de_tup (da_cons de_str (da_cons de_int da_nil))) (da_cons (de_tup (da_cons de_str (da_cons de_int da_nil))) da_nil)))) (da_cons (de_tup (da_cons (de_tup (da_cons de_str (da_cons de_int da_nil))) (da_cons (de_tup (da_cons de_str (da_cons de_int da_nil))) (da_cons (de_tup (da_cons de_str (da_cons de_int da_nil))) da_nil)))) da_nil)))))
    (dss_cons (ds_expr (de_app 8 (de_tup (da_cons (de_tup (da_cons (de_tup (da_cons de_str (da_cons de_int da_nil))) (da_cons (de_tup (da_cons de_str (da_cons de_int da_nil))) da_nil))) (da_cons (de_tup (da_cons (de_tup (da_cons de_str (da_cons de_int da_nil))) (da_cons (de_tup (da_cons de_str (da_cons de_int da_nil))) da_nil))) da_nil)))))
    (dss_cons (ds_expr (de_app 8 (de_tup (da_cons (de_tup (da_cons (de_tup (da_cons de_str (da_cons de_int da_nil))) (da_cons (de_tup (da_cons de_str (da_cons de_int da_nil))) (da_cons (de_tup (da_cons de_str (da_cons de_int da_nil))) da_nil)))) (da_cons (de_tup (da_cons (de_tup (da_cons de_str (da_cons de_int da_nil))) (da_cons (de_tup (da_cons de_str (da_cons de_int da_nil))) (da_cons (de_tup (da_cons de_str (da_cons de_int da_nil))) da_nil)))) da_nil)))))
    (dss_cons (ds_expr (de_app 8 (de_tup (da_cons (de_tup (da_cons (de_tup (da_cons de_str (da_cons de_int da_nil))) (da_cons (de_tup (da_cons de_str (da_cons de_int da_nil))) (da_cons (de_tup (da_cons de_str (da_cons de_int da_nil))) da_nil)))) (da_cons (de_tup (da_cons (de_tup (da_cons de_str (da_cons de_int da_nil))) (da_cons (de_tup (da_cons de_str (da_cons de_int da_nil))) (da_cons (de_tup (da_cons de_str (da_cons de_int da_nil))) da_nil)))) da_nil)))))
    (dss_cons (ds_expr (de_app 8 (de_tup (da_cons (de_tup (da_cons (de_tup (da_cons de_str (da_cons de_int da_nil))) (da_cons (de_tup (da_cons de_str (da_cons de_int da_nil))) (da_cons (de_tup (da_cons de_str (da_cons de_int da_nil))) da_nil)))) (da_cons (de_tup (da_cons (de_tup (da_cons de_str (da_cons de_int da_nil))) (da_cons (de_tup (da_cons de_str (da_cons de_int da_nil))) (da_cons (de_tup (da_cons de_str (da_cons de_int da_nil))) da_nil)))) da_nil)))))
    (dss_cons (ds_expr (de_app 8 (de_tup (da_cons (de_tup (da_cons (de_tup (da_cons de_str (da_cons de_int da_nil))) (da_cons (de_tup (da_cons de_str (da_cons de_int da_nil))) (da_cons (de_tup (da_cons de_str (da_cons de_int da_nil))) da_nil)))) (da_cons (de_tup (da_cons (de_tup (da_cons de_str (da_cons de_int da_nil))) (da_cons (de_tup (da_cons de_str (da_cons de_int da_nil))) (da_cons (de_tup (da_cons de_str (da_cons de_int da_nil))) da_nil)))) da_nil)))))
    (dss_cons (ds_set 9 sc_law.nd (de_lst (da_cons de_bl (da_cons de_bl (da_cons de_bl (da_cons de_bl (da_cons de_bl (da_cons de_bl (da_cons de_bl (da_cons de_bl da_nil))))))))))
    (dss_one (ds_ret (de_cmp (op_eqX hu) od_eq (de_bi (call_reprD hr hgd) cd_repr b_repr (da_cons (de_lc [("row", 5), ("other", 7)] rfl sc_law.nd (di_seq (de_var 8)) (blkOk_by (N := N_law) (sc := defScope s_law) (by decide +kernel)) (fun _ _ _ _ _ => (dg_tup rfl (dgs_cons (dg_name 5 sc_law.nd) (dgs_cons (dg_name 7 sc_law.nd) dgs_nil)))) (by decide) (fun _ _ _ _ _ => dts_nil) (fun _ _ _ _ _ => (de_fn c_is_exchange (hr.mono (by decide)) hgd (da_cons (de_var 5) (da_cons (de_var 7) da_nil))))) da_nil)) (de_bi (call_reprD hr hgd) cd_repr b_repr (da_cons (de_var 9) da_nil)) (nomark _))))))))))))))))⟩) spec
end
end Lw
namespace Lw
open PySem L2 DL
section
variable {P : Program} {w : World} {K : PySem.W.Frag} {mg : Str → Option Value} {base : Heap}
def S__law_draw : DSp := fun args G => ∃ n : Int, args = [.dk, .dat (.int n)] ∧ 1 ≤ n ∧ n.natAbs.log2 < 9000 ∧ ∀ k : Int, 0 ≤ k → k < n → G (.dat (.int k))
theorem ok__law_draw {f : Addr} {fd : FuncData} (F : Fun K "_law_draw" "_law_draw" s__law_draw f fd) (b_int : mg "int" = none) (b_len : mg "len" = none) : FnG P w K mg base 1 f fd P__law_draw (spD K 2 (sz 2 S__law_draw)) := by
  refine okH F sc__law_draw (fun vs H Q E h => ?_) fun cdv A outer s H vs Q E hr hgd h => ?_
  · obtain ⟨_, _, _, _, h, _⟩ := h
    exact h
  obtain ⟨Av, dk, args, G, hl, hm, hdk, hkk, ar, ⟨hz, n, ea, n1, hn, hG⟩, post⟩ := h
  subst ea
  cases ar with
  | cons r1 ar =>
    cases ar with
    | cons r2 ar =>
      cases ar
      cases r2 with
      | dat r2 =>
        cases r1 with
        | dk ek =>
          rename_i a l
          simp only [Da] at r2
          subst r2
          obtain ⟨l, l2⟩ := l
          obtain ⟨ell, nal, nal2, st, fl, q, m, ha, hli, hl2i, hpos, hst, hfp, hf0, hf1, hq0, hm0⟩ := hkk a (l, l2) ek
          have ell' : l ≠ l2 := ell
          have hu64 := hr.units
          have nd := sc__law_draw.nd
          refine ⟨_, pss_cons (ps_if (pt_cmpR (op_neD hu64) (de_item (K := K) (de_var 0) de_int).p (pe_lst pa_nil) (nomark _))
            (pss_cons (ps_set (i := 2) nd rfl (Or.inl rfl) (pe_bm0 PySem.F.plainAttrs_list PySem.F.slot_list_pop PySem.F.type_list_pop mt_pop (de_item (K := K) (de_var 0) de_int).p))
              (pss_cons (ps_if (pt_cmpR op_ge (pv 2) (pv 1) (nomark _))
                (pss_one (ps_expr (pe_bm PySem.F.plainAttrs_list PySem.F.slot_list_append PySem.F.type_list_append mt_append (de_item (K := K) (de_var 0) de_int).p (pa_cons (pe_op op_fdivW (pv 2) (pv 1)) pa_nil)))) pss_nil)
              (pss_one (ps_ret (pe_op op_mod (pe_callTy call_int1 (by rfl) b_int (by decide +kernel) (pa_cons (pv 2) pa_nil)) (pv 1)))))) pss_nil)
            (pss_cons (ps_asg (pe_op op_add (de_item (K := K) (de_var 0) de_int).p pe_int) (pg_sub (pv 0) pe_int set_list (by intro _; rfl)) rfl rfl rfl)
            (pss_cons (ps_set (i := 3) nd rfl (Or.inl rfl) (de_item (K := K) (de_var 0) de_int).p)
            (pss_cons (ps_set (i := 4) nd rfl (Or.inl rfl) (pe_op op_mod (pe_callTy call_int1 (by rfl) b_int (by decide +kernel) (pa_cons (de_item (K := K) (de_item (de_var 0) de_int) (de_mod (de_ty call_int1 cd_int b_int (da_cons (de_var 3) da_nil)) (de_bi DL.call_lenD cd_len b_len (da_cons (de_item (de_var 0) de_int) da_nil)))).p pa_nil)) pe_int))
            (pss_cons (ps_set (i := 5) nd rfl (Or.inl rfl) (pe_op op_mod (pe_callTy call_int1 (by rfl) b_int (by decide +kernel) (pa_cons (pe_op op_add (pe_op op_add (pe_op op_mul (pv 4) pe_int) (pe_op op_mul (pe_op op_mod (pe_callTy call_int1 (by rfl) b_int (by decide +kernel) (pa_cons (de_item (K := K) (de_var 0) de_int).p pa_nil)) pe_int) pe_int)) (pe_op op_mul (pv 3) pe_int)) pa_nil)) pe_int))
            (pss_cons (ps_set (i := 5) nd rfl (Or.inl rfl) (pe_op op_mod (pe_callTy call_int1 (by rfl) b_int (by decide +kernel) (pa_cons (pe_op op_add (pe_op op_add (pe_op op_mulW (pv 5) (pv 5)) (pe_op op_mul (pv 3) pe_int)) (pv 4)) pa_nil)) pe_int))
            (pss_one (ps_ret (pe_op op_mod (pe_op op_fdivW (pe_op op_mod (pe_callTy call_int1 (by rfl) b_int (by decide +kernel) (pa_cons (pe_op op_add (pe_op op_mulW (pv 5) pe_int) (pe_op op_mul (pv 3) pe_int)) pa_nil)) pe_int) pe_int) (pv 1))))))))), ?_⟩
          have it : ∀ {H' : Hp} {xs : List V} {k : Int} {v : V} {Q : VK}, H' a = some (.lst xs) → atI xs k = some v → Q v H' → rIx K (.ref a) (.int k) H' Q := fun e1 e2 q => .inl ⟨a, _, _, _, rfl, rfl, SqL.of e1, e2, q⟩
          have it2 : ∀ {H' : Hp} {xs : List V} {k : Int} {v : V} {Q : VK}, H' l2 = some (.lst xs) → atI xs k = some v → Q v H' → rIx K (.ref l2) (.int k) H' Q := fun e1 e2 q => .inl ⟨l2, _, _, _, rfl, rfl, SqL.of e1, e2, q⟩
          have fin : ∀ (k : Int) (H' : Hp), 0 ≤ k → k < n → KeepD dk H H' → (∀ a l, dk = some (a, l) → DkAt H' a l) → Q (.int k) H' := fun k H' h1 h2 h3 h4 => post _ _ _ (hG k h1 h2) h3 h4 (by show Da _ _ _ _ _; simp only [Da])
          have isA : isDk dk a := ⟨a, (l, l2), ek, .inl rfl⟩
          have isL : isDk dk l := ⟨a, (l, l2), ek, .inr (.inl rfl)⟩
          have deckA : ∀ {H' : Hp} {st' : List Int} {m' : Int}, H' a = some (.lst [V.ref l, V.ref l2, .int q, .int m']) → H' l = some (.lst (st'.map V.int)) → H' l2 = some (.lst (fl.map V.int)) → st'.length ≤ 63 → (∀ x ∈ st', 0 ≤ x) → 0 ≤ m' → ∀ a l, dk = some (a, l) → DkAt H' a l := fun {H' st' m'} e1 e2 e3 e5 e6 e7 a2 l3 ek2 => by
            rw [ek] at ek2
            cases ek2
            exact ⟨ell', nal, nal2, st', fl, q, m', e1, e2, e3, e6, e5, hfp, hf0, hf1, hq0, e7⟩
          refine ⟨_, rfl, it ha rfl ⟨Nat.zero_le _, fun b hb => ?_⟩⟩
          have nba : a ≠ b := ne_of_none ha hb
          have nbl : l ≠ b := ne_of_none hli hb
          have nbl2 : l2 ≠ b := ne_of_none hl2i hb
          have sh : SeqAt.shaped (.list (st.map PyData.int)) = true := by
            have c : ∀ l : List Int, PyData.canLayAll0 (l.map PyData.int) = true ∧ PyData.depthAll (l.map PyData.int) ≤ 1 := fun l => by
              induction l with
              | nil => exact ⟨rfl, by decide⟩
              | cons x l ih => exact ⟨by simpa [PyData.canLayAll0, PyData.canLay0] using ih.1, by have := ih.2; simp [PyData.depthAll, PyData.depth]; omega⟩
            have := (c st).2
            simp [SeqAt.shaped, PyData.canLay0, (c st).1, PyData.depth]
            omega
          refine ⟨.list (st.map .int), .list [], DaT.toDp (K := K) (Av := Av0) sh ⟨l, _, rfl, by rw [upd_ne nbl]; exact hli, Das.ints⟩, DaT.toDp (K := K) (Av := Av0) (by decide +kernel) ⟨b, _, rfl, upd_same, Das.nil⟩, sh, by decide +kernel, _, rfl, ?_⟩
          have ha1 : upd H b (.lst []) a = some (.lst [V.ref l, V.ref l2, .int q, .int m]) := by rw [upd_ne nba]; exact ha
          have hk1 : upd H b (.lst []) l2 = some (.lst (fl.map V.int)) := by rw [upd_ne nbl2]; exact hl2i
          have kp1 : KeepD dk H (upd H b (.lst [])) := fun c o e _ => by rw [upd_ne (ne_of_none e hb)]; exact e
          cases st with
          | nil =>
            refine iteF ?_
            have hl1 : upd H b (.lst []) l = some (.lst []) := by rw [upd_ne nbl]; exact hli
            generalize upd H b (.lst []) = H1 at ha1 hl1 hk1 kp1 ⊢
            have ha2 : upd H1 a (.lst [V.ref l, V.ref l2, .int q, .int (m + 1)]) a = some (.lst [V.ref l, V.ref l2, .int q, .int (m + 1)]) := upd_same
            have hl2 : upd H1 a (.lst [V.ref l, V.ref l2, .int q, .int (m + 1)]) l = some (.lst []) := by rw [upd_ne (Ne.symm nal)]; exact hl1
            have hk2 : upd H1 a (.lst [V.ref l, V.ref l2, .int q, .int (m + 1)]) l2 = some (.lst (fl.map V.int)) := by rw [upd_ne (Ne.symm nal2)]; exact hk1
            have kp2 : KeepD dk H (upd H1 a (.lst [V.ref l, V.ref l2, .int q, .int (m + 1)])) := fun c o e nc => by
              rw [upd_ne (fun z => nc (by rw [z]; exact isA))]
              exact kp1 c o e nc
            refine ⟨_, rfl, it ha1 rfl ⟨_, _, rfl, rfl, _, rfl, a, _, 3, 3, rfl, rfl, ha1, rfl, ?_⟩⟩
            show tSeq _ _ _ _ (upd H1 a (.lst [V.ref l, V.ref l2, .int q, .int (m + 1)]))
            generalize upd H1 a (.lst [V.ref l, V.ref l2, .int q, .int (m + 1)]) = H2 at ha2 hl2 hk2 kp2 ⊢
            refine ⟨_, rfl, it ha2 rfl ?_⟩
            have hfl : (0 : Int) < (fl.map V.int).length := by rw [List.length_map]; omega
            have i0 := Int.emod_nonneg (m + 1) (b := ((fl.map V.int).length : Int)) (by omega)
            have i1 := Int.emod_lt_of_pos (m + 1) (b := ((fl.map V.int).length : Int)) hfl
            obtain ⟨c, hc, hc0⟩ : ∃ c : Int, atI (fl.map V.int) ((m + 1) % ((fl.map V.int).length : Int)) = some (V.int c) ∧ 0 ≤ c := by
              generalize (m + 1) % ((fl.map V.int).length : Int) = k at i0 i1
              have hk : k.toNat < fl.length := by rw [List.length_map] at i1; omega
              refine ⟨fl[k.toNat], ?_, hfp _ (List.getElem_mem hk)⟩
              unfold atI ixN
              rw [if_pos i0, if_pos (by omega)]
              show (fl.map V.int)[k.toNat]? = _
              rw [List.getElem?_map, List.getElem?_eq_getElem hk]
              rfl
            refine ⟨_, rfl, it ha2 rfl ⟨_, rfl, .inl ⟨_, rfl, _, rfl, it ha2 rfl (.inl ⟨l2, _, rfl, .inl (SqL.of hk2), ⟨_, _, rfl, rfl, hfl, it2 hk2 hc (.inl ⟨_, rfl, _, _, rfl, rfl, (by show (0 : Int) < 1000000007; decide), ?_⟩)⟩⟩)⟩⟩⟩
            have c0 := Int.emod_nonneg c (b := 1000000007) (by decide)
            have c1 := Int.emod_lt_of_pos c (b := 1000000007) (by decide)
            generalize c % 1000000007 = ce at c0 c1 ⊢
            refine ⟨_, rfl, _, _, rfl, rfl, .inr ⟨by decide, by decide⟩, _, rfl, it ha2 rfl (.inl ⟨_, rfl, _, _, rfl, rfl, (by show (0 : Int) < 998244353; decide), _, _, rfl, rfl, .inr ⟨by decide, by decide⟩, _, _, rfl, rfl, _, rfl, _, _, rfl, rfl, .inr ⟨by decide, by decide⟩, _, _, rfl, rfl, .inl ⟨_, rfl, _, _, rfl, rfl, (by show (0 : Int) < 4294967291; decide), ?_⟩⟩)⟩
            have b0 := Int.emod_nonneg (ce * 48271 + q % 998244353 * 69621 + (m + 1) * 2654435761) (b := 4294967291) (by decide)
            have b1 := Int.emod_lt_of_pos (ce * 48271 + q % 998244353 * 69621 + (m + 1) * 2654435761) (b := 4294967291) (by decide)
            generalize (ce * 48271 + q % 998244353 * 69621 + (m + 1) * 2654435761) % 4294967291 = bl at b0 b1 ⊢
            refine ⟨_, rfl, _, rfl, _, _, rfl, rfl, wide_mul (a := 62) (b := 62) (by omega) (by omega) (by decide) (by decide) (by decide), _, rfl, _, _, rfl, rfl, .inr ⟨by decide, by decide⟩, _, _, rfl, rfl, _, rfl, _, _, rfl, rfl, .inl ⟨_, rfl, _, _, rfl, rfl, (by show (0 : Int) < 4294967279; decide), ?_⟩⟩
            have d0 := Int.emod_nonneg (bl * bl + (m + 1) * 362437 + ce) (b := 4294967279) (by decide)
            have d1 := Int.emod_lt_of_pos (bl * bl + (m + 1) * 362437 + ce) (b := 4294967279) (by decide)
            generalize (bl * bl + (m + 1) * 362437 + ce) % 4294967279 = bm at d0 d1 ⊢
            refine ⟨_, rfl, _, _, rfl, rfl, wide_mul (a := 62) (b := 62) (by omega) (by decide) (by decide) (by decide) (by decide), _, rfl, _, _, rfl, rfl, .inr ⟨by decide, by decide⟩, _, _, rfl, rfl, .inl ⟨_, rfl, _, _, rfl, rfl, (by show (0 : Int) < 4294967231; decide), _, _, rfl, rfl, ⟨by decide, by decide⟩, _, rfl, _, _, rfl, rfl, (by show 0 < n; omega), ?_⟩⟩
            exact fin _ _ (Int.emod_nonneg _ (by omega)) (Int.emod_lt_of_pos _ (by omega)) kp2 (deckA (st' := []) ha2 hl2 hk2 (by decide) (fun _ h => nomatch h) (by omega))
          | cons x0 st0 =>
            refine iteT ?_
            have hl1 : upd H b (.lst []) l = some (.lst ((x0 :: st0).map V.int)) := by rw [upd_ne nbl]; exact hli
            generalize upd H b (.lst []) = H1 at ha1 hl1 hk1 kp1 ⊢
            generalize hst' : x0 :: st0 = st at hl1 hst hpos
            have hne : st ≠ [] := by rw [← hst']; exact List.cons_ne_nil _ _
            have hla : (st.map V.int)[(st.map V.int).length - 1]? = some (.int (st.getLast hne)) := by
              rw [List.getElem?_map, List.length_map, ← List.getLast?_eq_getElem?, List.getLast?_eq_some_getLast hne]; rfl
            have hp9 : 0 ≤ st.getLast hne := hpos _ (List.getLast_mem hne)
            refine ⟨_, rfl, it ha1 rfl ⟨.inl ⟨rfl, _, SqL.of hl1⟩, l, _, _, rfl, rfl, hl1, hla, ?_⟩⟩
            have ha2 : upd H1 l (.lst (st.map V.int).dropLast) a = some (.lst [V.ref l, V.ref l2, .int q, .int m]) := by rw [upd_ne nal]; exact ha1
            have hl2 : upd H1 l (.lst (st.map V.int).dropLast) l = some (.lst (st.dropLast.map V.int)) := by rw [upd_same, List.map_dropLast]
            have hk2 : upd H1 l (.lst (st.map V.int).dropLast) l2 = some (.lst (fl.map V.int)) := by rw [upd_ne (Ne.symm ell')]; exact hk1
            have kp2 : KeepD dk H (upd H1 l (.lst (st.map V.int).dropLast)) := fun c o e nc => by
              rw [upd_ne (fun z => nc (by rw [z]; exact isL))]
              exact kp1 c o e nc
            have hpos2 : ∀ x ∈ st.dropLast, 0 ≤ x := fun x hx => hpos x (List.dropLast_subset _ hx)
            have hlen2 : st.dropLast.length ≤ 62 := by rw [List.length_dropLast]; omega
            refine ⟨_, rfl, _, rfl, _, _, rfl, rfl, _, rfl, ?_⟩
            refine ite2 (fun h3 => ?_) (fun h3 => ?_)
            · refine ⟨_, rfl, it ha2 rfl ⟨.inl ⟨rfl, _, SqL.of hl2⟩, _, rfl, _, rfl, _, _, rfl, rfl, ⟨by omega, hn⟩, l, _, _, rfl, rfl, hl2, ?_, ?_⟩⟩
              · rw [List.length_map]; exact Nat.lt_of_le_of_lt hlen2 (by decide)
              refine ⟨_, rfl, .inl ⟨_, rfl, _, rfl, _, _, rfl, rfl, (by show 0 < n; omega), ?_⟩⟩
              have ha3 : ∀ o, (upd (upd H1 l (.lst (st.map V.int).dropLast)) l o) a = some (.lst [V.ref l, V.ref l2, .int q, .int m]) := fun o => by rw [upd_ne nal]; exact ha2
              have hk3 : ∀ o, (upd (upd H1 l (.lst (st.map V.int).dropLast)) l o) l2 = some (.lst (fl.map V.int)) := fun o => by rw [upd_ne (Ne.symm ell')]; exact hk2
              refine fin _ _ (Int.emod_nonneg _ (by omega)) (Int.emod_lt_of_pos _ (by omega)) (fun c o e nc => ?_) (deckA (st' := st.dropLast ++ [st.getLast hne / n]) (ha3 _) (by rw [upd_same, List.map_append]; rfl) (hk3 _) (by rw [List.length_append]; simp at hlen2 ⊢; omega) ?_ hm0)
              · rw [upd_ne (fun z => nc (by rw [z]; exact isL))]
                exact kp2 c o e nc
              · intro x hx
                rcases List.mem_append.mp hx with hx | hx
                · exact hpos2 x hx
                · rw [List.mem_singleton.mp hx]; exact Int.ediv_nonneg hp9 (by omega)
            · refine ⟨_, rfl, .inl ⟨_, rfl, _, rfl, _, _, rfl, rfl, (by show 0 < n; omega), ?_⟩⟩
              exact fin _ _ (Int.emod_nonneg _ (by omega)) (Int.emod_lt_of_pos _ (by omega)) kp2 (deckA ha2 hl2 hk2 (by omega) hpos2 hm0)
end
end Lw
namespace DL
open PySem L2
section
variable {G : SV → Prop} {x y w : Str} {n : Int} {d e : PyData}
theorem i_ltlen {n m : Nat} {p : Prop} (h : n < m) (k : p) : n < m ∧ p := ⟨h, k⟩
theorem i_eqSt (h : (x == y) = true) (k : G (.dat (.bool true))) : gEq (.str x) (.str y) G := ⟨.inr ⟨x, y, rfl, rfl⟩, by
  have e : PyData.eqv (.str x) (.str y) = (x == y) := rfl
  rw [e, h]; exact k⟩
theorem i_eqSf (h : (x == y) = false) (k : G (.dat (.bool false))) : gEq (.str x) (.str y) G := ⟨.inr ⟨x, y, rfl, rfl⟩, by
  have e : PyData.eqv (.str x) (.str y) = (x == y) := rfl
  rw [e, h]; exact k⟩
theorem i_neSt (h : (x == y) = true) (k : G (.dat (.bool false))) : gNe (.str x) (.str y) G := ⟨.inr ⟨x, y, rfl, rfl⟩, by
  have e : PyData.eqv (.str x) (.str y) = (x == y) := rfl
  rw [e, h]; exact k⟩
theorem i_neSf (h : (x == y) = false) (k : G (.dat (.bool true))) : gNe (.str x) (.str y) G := ⟨.inr ⟨x, y, rfl, rfl⟩, by
  have e : PyData.eqv (.str x) (.str y) = (x == y) := rfl
  rw [e, h]; exact k⟩
theorem shaped1 (hw : PyData.strOk w = true) : SeqAt.shaped (.tuple [.str w]) = true := by
  simp [SeqAt.shaped, PyData.canLay0, PyData.canLayAll0, PyData.depth, PyData.depthAll, hw]
theorem shaped2 (hw : PyData.strOk w = true) : SeqAt.shaped (.tuple [.str w, .int n]) = true := by
  simp [SeqAt.shaped, PyData.canLay0, PyData.canLayAll0, PyData.depth, PyData.depthAll, hw]
theorem i_eqTurn (k : G (.dat (.bool true))) : gEq (.tuple [.str "turn"]) (.tuple [.str "turn"]) G := ⟨.inl ⟨by decide +kernel, by decide +kernel⟩, by
  have e : PyData.eqv (.tuple [.str "turn"]) (.tuple [.str "turn"]) = true := by decide +kernel
  rw [e]; exact k⟩
theorem i_eqPart (hw : PyData.strOk w = true) (k : G (.dat (.bool false))) : gEq (.tuple [.str w, .int n]) (.tuple [.str "turn"]) G := ⟨.inl ⟨shaped2 hw, by decide +kernel⟩, by
  have e : PyData.eqv (.tuple [.str w, .int n]) (.tuple [.str "turn"]) = false := by simp [PyData.eqv, PyData.eqvAll]
  rw [e]; exact k⟩
end
end DL
namespace DL
open PySem L2
section
variable {G : SV → Prop} {x y : Str}
theorem i_neSS (h : x = y) (k : G (.dat (.bool false))) : gNe (.str x) (.str y) G := i_neSt (by rw [h]; exact beq_self_eq_true y) k
theorem i_eqSS (h : x = y) (k : G (.dat (.bool true))) : gEq (.str x) (.str y) G := i_eqSt (by rw [h]; exact beq_self_eq_true y) k
theorem i_eqLE (k : G (.dat (.bool true))) : gEq (.list []) (.list []) G := ⟨.inl ⟨by decide +kernel, by decide +kernel⟩, by
  have e : PyData.eqv (.list []) (.list []) = true := by decide +kernel
  rw [e]; exact k⟩
end
end DL
namespace Lw
open PySem L2 DL
def zs (ns : List Int) : List PyData := ns.map PyData.int
theorem zs_app (a b : List Int) : zs (a ++ b) = zs a ++ zs b := by simp [zs]
theorem zs_len (a : List Int) : (zs a).length = a.length := by simp [zs]
theorem intsOf_zs : ∀ ns : List Int, intsOf (zs ns) = some ns := fun ns => by
  induction ns with
  | nil => rfl
  | cons a l ih =>
    show intsOf (.int a :: zs l) = _
    unfold intsOf
    rw [ih]
    rfl
theorem i_sumZ {G : SV → Prop} {ns : List Int} (k : G (.dat (.int ns.sum))) : g1 gSum [.list (zs ns)] G := ⟨ns, intsOf_zs ns, k⟩
theorem i_draw {n : Int} {G : SV → Prop} (h1 : 1 ≤ n) (h2 : n ≤ 10000000000000000000000000000000000000000) (k : ∀ k : Int, 0 ≤ k → k < n → G (.dat (.int k))) : S__law_draw [.dk, .dat (.int n)] G := by
  refine ⟨n, rfl, h1, ?_, k⟩
  exact Nat.lt_of_lt_of_le (PySem.Flt.log2_lt_of (k := 200) (by decide) (Nat.lt_of_le_of_lt (by omega : n.natAbs ≤ 10000000000000000000000000000000000000000) (by decide))) (by decide)
theorem pickL {xs : List PyData} {k : Int} (h0 : 0 ≤ k) (h1 : k < xs.length) : ∃ d, atI xs k = some d ∧ d ∈ xs := by
  have e : ixN xs.length k = some k.toNat := by
    unfold ixN
    rw [if_pos h0, if_pos h1]
  have hk : k.toNat < xs.length := by omega
  refine ⟨xs[k.toNat], ?_, List.getElem_mem hk⟩
  unfold atI
  rw [e]
  exact List.getElem?_eq_getElem hk
theorem rng_len (n : Int) : (rngD 0 n.toNat).length = n.toNat := by simp [rngD]
theorem mulL {i j : Int} (h1 : -(2 ^ 64) < i) (h2 : i < 2 ^ 64) : mulOk i j := .inl (.inl ⟨h1, h2⟩)
theorem mulR {i j : Int} (h1 : -(2 ^ 64) < j) (h2 : j < 2 ^ 64) : mulOk i j := .inl (.inr ⟨h1, h2⟩)
theorem cp10 {j : Int} (h : 0 ≤ j ∧ j ≤ 1000000) : CPow 10 j := ⟨h.1, h.2, by decide⟩
theorem intsOf_zs' (l : List Int) : intsOf (l.map PyData.int) = some l := by
  induction l with
  | nil => rfl
  | cons a l ih =>
    show intsOf (.int a :: l.map PyData.int) = _
    unfold intsOf
    rw [ih]
    rfl
theorem i_inTe {ds : List PyData} {d : PyData} {b : Bool} {G : SV → Prop} (e : (ds.any fun z => PyData.eqv z d) = b) (h1 : SeqAt.shaped d = true) (h2 : SeqAt.shaped (.tuple ds) = true) (k : G (.dat (.bool b))) : gIn d (.tuple ds) G := i_inT (by rw [e]; exact k) h1 h2
theorem pick_x {xs : List PyData} {G : SV → Prop} (h1 : xs ≠ []) (h2 : xs.length ≤ 1000) (k : ∀ x ∈ xs, G (.dat x)) : ∃ ys : List PyData, ([.dk, .dat (.list xs)] : List SV) = [.dk, .dat (.list ys)] ∧ ys ≠ [] ∧ ys.length ≤ 1000 ∧ ∀ x ∈ ys, G (.dat x) := ⟨xs, rfl, h1, h2, k⟩
def S__law_pick : DSp := fun args G => ∃ xs : List PyData, args = [.dk, .dat (.list xs)] ∧ xs ≠ [] ∧ xs.length ≤ 1000 ∧ ∀ x ∈ xs, G (.dat x)
theorem sum_nn : ∀ {l : List Int}, (∀ x ∈ l, 0 ≤ x) → 0 ≤ l.sum
  | [], _ => Int.le_refl 0
  | x :: l, h => by
    have ih := sum_nn (l := l) fun y hy => h y (List.mem_cons_of_mem _ hy)
    have hx := h x List.mem_cons_self
    rw [List.sum_cons]
    omega
end Lw
namespace Lw
open PySem L2 DL
set_option hygiene false
local macro_rules
  | `(tactic| fail "a") => `(tactic| (with_reducible refine i_seqN ?_; intro NN hNN))
local macro_rules
  | `(tactic| fail "b") => `(tactic| (with_reducible refine i_nxN (by assumption) (by first | (dsimp only [List.set, wipeD]; done) | exact rfl) ?_; (try clear hNN); (try clear NN)))
set_option hygiene true
local macro_rules
  | `(tactic| array_get_dec) => `(tactic| repeat (first
    | (with_reducible refine rr ?_)
    | (fail "a")
    | (fail "b")
    | (with_reducible refine i_varD (by with_unfolding_all rfl) ?_)
    | (with_reducible refine i_two (by with_unfolding_all rfl) (by with_unfolding_all rfl) ?_)
    | (with_reducible refine i_frz (by with_unfolding_all rfl) ?_)
    | (with_reducible refine i_sto (by with_unfolding_all rfl) ?_ (Nat.le_of_ble_eq_true rfl))
    | (with_reducible refine i_varO (by with_unfolding_all rfl) ?_)
    | (with_reducible refine i_varK (by with_unfolding_all rfl) ?_)
    | (with_reducible refine i_app (by with_unfolding_all rfl) ?_)
    | (with_reducible refine i_ixT (by with_unfolding_all rfl) ?_)
    | (with_reducible refine i_ixL (by with_unfolding_all rfl) ?_)
    | (with_reducible refine i_frz3 (by with_unfolding_all rfl) (by with_unfolding_all rfl) ?_)
    | (with_reducible refine i_len (Nat.le_of_ble_eq_true rfl) ?_)
    | (with_reducible refine i_frzD (by with_unfolding_all rfl) (by with_unfolding_all rfl) ?_)
    | (with_reducible refine i_ok (by with_unfolding_all exact True.intro) ?_)
    | (with_reducible refine i_nm ?_ (Nat.le_of_ble_eq_true rfl))
    | (with_reducible refine i_tu ?_ (by with_unfolding_all rfl))
    | (with_reducible refine i_li ?_ (by with_unfolding_all rfl))
    | (with_reducible refine i_szc (by with_unfolding_all rfl) ?_)
    | (with_reducible refine i_trB ?_)
    | (with_reducible refine i_ifb ?_)
    | (with_reducible refine i_and2 (Nat.le_of_ble_eq_true rfl) (Nat.le_of_ble_eq_true rfl) ?_)
    | (with_reducible refine i_and3 (Nat.le_of_ble_eq_true rfl) (Nat.le_of_ble_eq_true rfl) (Nat.le_of_ble_eq_true rfl) ?_)
    | (with_reducible refine c_ltlen (Nat.le_of_ble_eq_true rfl) ?_)
    | (with_reducible refine i_aug (by with_unfolding_all rfl) ?_)
    | (with_reducible refine ⟨_, _, _, (by with_unfolding_all rfl), (by with_unfolding_all rfl), ?_⟩)
    | (with_reducible refine ⟨_, _, (by with_unfolding_all rfl), (by with_unfolding_all rfl), ?_⟩)
    | (with_reducible refine ⟨_, (by with_unfolding_all rfl), ?_⟩)
    | (with_reducible refine ⟨_, _, (by with_unfolding_all rfl), ?_⟩)
    | (with_reducible refine i_ifT (by with_unfolding_all rfl) ?_)
    | (with_reducible refine i_ifF (by with_unfolding_all rfl) ?_)
    | (with_reducible refine ⟨rfl, rfl, _, _, (by with_unfolding_all rfl), ?_⟩)
    | (with_reducible refine c_pow (by decide) (by decide) (by decide) ?_)
    | (with_reducible refine c_b62 (by decide) (by decide) ?_)
    | (with_reducible refine c_eqb (by assumption) (by assumption) (by assumption) ?_)
    | (with_reducible refine c_neb (by assumption) (by assumption) (by assumption) ?_)
    | (with_reducible refine c_neSS (by with_reducible rfl) ?_)
    | (with_reducible refine c_eqSS (by with_reducible rfl) ?_)
    | (with_reducible refine c_rep (by assumption) ?_)
    | (with_reducible refine i_strI ?_ ?_)
    | (with_reducible refine i_mul ?_ ?_)
    | (with_reducible refine i_mod ?_ ?_)
    | (with_reducible refine i_div ?_ ?_)
    | (with_reducible refine i_pow ?_ ?_)
    | (with_reducible refine i_addT ?_ ?_)
    | (with_reducible refine i_addL ?_ ?_)
    | (with_reducible refine i_nm ?_ ?_)
    | (with_reducible refine i_sto (by with_unfolding_all rfl) ?_ ?_)
    | (with_reducible refine i_slS (by with_unfolding_all rfl) ?_)))
local macro_rules
  | `(tactic| array_mem_dec) => `(tactic| repeat' (first
    | (with_reducible refine rr ?_)
    | (fail "a")
    | (fail "b")
    | (with_reducible refine i_varD (by with_unfolding_all rfl) ?_)
    | (with_reducible refine i_two (by with_unfolding_all rfl) (by with_unfolding_all rfl) ?_)
    | (with_reducible refine i_frz (by with_unfolding_all rfl) ?_)
    | (with_reducible refine i_sto (by with_unfolding_all rfl) ?_ (Nat.le_of_ble_eq_true rfl))
    | (with_reducible refine i_varO (by with_unfolding_all rfl) ?_)
    | (with_reducible refine i_varK (by with_unfolding_all rfl) ?_)
    | (with_reducible refine i_app (by with_unfolding_all rfl) ?_)
    | (with_reducible refine i_ixT (by with_unfolding_all rfl) ?_)
    | (with_reducible refine i_ixL (by with_unfolding_all rfl) ?_)
    | (with_reducible refine i_frz3 (by with_unfolding_all rfl) (by with_unfolding_all rfl) ?_)
    | (with_reducible refine i_len (Nat.le_of_ble_eq_true rfl) ?_)
    | (with_reducible refine i_frzD (by with_unfolding_all rfl) (by with_unfolding_all rfl) ?_)
    | (with_reducible refine i_ok (by with_unfolding_all exact True.intro) ?_)
    | (with_reducible refine i_nm ?_ (Nat.le_of_ble_eq_true rfl))
    | (with_reducible refine i_tu ?_ (by with_unfolding_all rfl))
    | (with_reducible refine i_li ?_ (by with_unfolding_all rfl))
    | (with_reducible refine i_szc (by with_unfolding_all rfl) ?_)
    | (with_reducible refine i_trB ?_)
    | (with_reducible refine i_ifb ?_)
    | (with_reducible refine i_and2 (Nat.le_of_ble_eq_true rfl) (Nat.le_of_ble_eq_true rfl) ?_)
    | (with_reducible refine i_and3 (Nat.le_of_ble_eq_true rfl) (Nat.le_of_ble_eq_true rfl) (Nat.le_of_ble_eq_true rfl) ?_)
    | (with_reducible refine c_ltlen (Nat.le_of_ble_eq_true rfl) ?_)
    | (with_reducible refine i_aug (by with_unfolding_all rfl) ?_)
    | (with_reducible refine ⟨_, _, _, (by with_unfolding_all rfl), (by with_unfolding_all rfl), ?_⟩)
    | (with_reducible refine ⟨_, _, (by with_unfolding_all rfl), (by with_unfolding_all rfl), ?_⟩)
    | (with_reducible refine ⟨_, (by with_unfolding_all rfl), ?_⟩)
    | (with_reducible refine ⟨_, _, (by with_unfolding_all rfl), ?_⟩)
    | (with_reducible refine i_ifT (by with_unfolding_all rfl) ?_)
    | (with_reducible refine i_ifF (by with_unfolding_all rfl) ?_)
    | (with_reducible refine ⟨rfl, rfl, _, _, (by with_unfolding_all rfl), ?_⟩)
    | (with_reducible refine c_pow (by decide) (by decide) (by decide) ?_)
    | (with_reducible refine c_b62 (by decide) (by decide) ?_)
    | (with_reducible refine c_eqb (by assumption) (by assumption) (by assumption) ?_)
    | (with_reducible refine c_neb (by assumption) (by assumption) (by assumption) ?_)
    | (with_reducible refine c_neSS (by with_reducible rfl) ?_)
    | (with_reducible refine c_eqSS (by with_reducible rfl) ?_)
    | (with_reducible refine c_rep (by assumption) ?_)
    | (with_reducible refine i_slS (by with_unfolding_all rfl) ?_)
    | (with_reducible refine i_eqL0 (by assumption) ?_)
    | (with_reducible refine i_neL0 (by assumption) ?_)
    | (with_reducible refine i_ifNE ?_ ?_ <;> intro h <;> try (first | (exfalso; contradiction) | (exfalso; omega)))
    | (with_reducible refine ⟨len_lt (by omega), ?_⟩)
    | (with_reducible refine i_mulT ?_ (by decide) (by decide) (by omega))
    | (with_reducible exact len_ok (Nat.le_of_ble_eq_true rfl))
    | (with_reducible refine i_mulT ?_ (by decide) (by decide) (Nat.le_trans cut_len (by omega)))
    | (with_reducible refine i_ifE ?_ ?_ <;> intro h <;> try (first | (exfalso; contradiction) | (exfalso; omega)))
    | (with_reducible refine i_eqT0 (by assumption) ?_)
    | (with_reducible refine i_ixT (by assumption) ?_)
    | (with_reducible refine i_ixL (by assumption) ?_)
    | (with_reducible refine i_ifD ?_ ?_ <;> intro h <;> try (exfalso; omega))
    | (with_reducible refine i_ifDN ?_ ?_ <;> intro h <;> try (exfalso; omega))
    | (with_reducible refine i_eq ?_ (by assumption) (by assumption))
    | (with_reducible refine i_ne ?_ (by assumption) (by assumption))
    | (with_reducible refine i_if2 ?_ ?_ <;> intro h)
    | (with_reducible refine i_strI ?_ ?_)
    | (with_reducible refine i_mul ?_ ?_)
    | (with_reducible refine i_mod ?_ ?_)
    | (with_reducible refine i_div ?_ ?_)
    | (with_reducible refine i_pow ?_ ?_)
    | (with_reducible refine i_addT ?_ ?_)
    | (with_reducible refine i_addL ?_ ?_)
    | (with_reducible refine i_nm ?_ ?_)
    | (with_reducible refine i_sto (by with_unfolding_all rfl) ?_ ?_)))
--+ with_reducible refine i_slS (by with_unfolding_all rfl) ?_
theorem spec__law_pick : ∀ args G, args.length = 2 → S__law_pick args G → dDef 0 (B__law_pick S__law_draw) args G := by
  rintro args G hl ⟨xs, rfl, hne, hlen, hG⟩
  unfold dDef B__law_pick
  have h0 : 0 < xs.length := List.length_pos_iff.mpr hne
  array_mem_dec
  refine i_draw (by omega) (by omega) fun k k0 k1 => ?_
  obtain ⟨d, hat, hd⟩ := pickL k0 k1
  array_mem_dec
  exact hG _ hd
theorem spec__law_stock : ∀ ns : List Int, ns.length ≤ 63 → B__law_stock { nx := fun _ => False, rt := fun r ρ => ∃ xs, relV ρ r = some (.own xs) ∧ goodDk xs } (some (.scr ns) :: (N__law_stock.drop 1).map fun _ => none) := by
  intro ns hn
  unfold B__law_stock
  array_mem_dec
  have hc : (cutZ ns none (some 63)).length ≤ 63 := by
    unfold cutZ
    rw [List.length_take, List.length_drop]
    omega
  refine lc_ind (fun rest acc ρ => ∃ (r2 cs : List Int) (x2 : Option SV), rest = zs r2 ∧ acc = zs cs ∧ cs.length + r2.length ≤ 63 ∧ (∀ x ∈ cs, 0 ≤ x) ∧ ρ = [some (.scr ns), none, x2]) ?_ ?_ _ _ _ ⟨cutZ ns none (some 63), [], none, rfl, rfl, by simpa using hc, (fun _ h => nomatch h), rfl⟩
  rotate_left
  · rintro d ds acc ρ K hK ⟨r2, cs, x2, e, rfl, hl, hp, rfl⟩
    cases r2 with
    | nil => cases e
    | cons b s =>
      obtain ⟨rfl, rfl⟩ : d = .int b ∧ ds = zs s := by simpa [zs] using e
      clear e
      simp only [List.length_cons] at hl
      have hz : (zs cs).length < sizeLine := by rw [zs_len]; exact Nat.lt_of_lt_of_le (by omega : cs.length < 1001) (by decide)
      have go : ∀ (c : Int) x2, 0 ≤ c → K (zs cs ++ [.int c]) [some (.scr ns), none, x2] := fun c x2 h => hK _ _ ⟨s, cs ++ [c], x2, rfl, by rw [zs_app]; rfl, by simp; omega, fun x hx => by
        rcases List.mem_append.mp hx with hx | hx
        · exact hp x hx
        · rw [List.mem_singleton.mp hx]; exact h, rfl⟩
      clear hK
      array_mem_dec
      all_goals first | exact mulL (by decide) (by decide) | skip
      all_goals first | exact ⟨hz, go _ _ (by omega)⟩ | trace_state
  rintro acc ρ ⟨r2, cs, x2, e, rfl, hl, hp, rfl⟩
  have : r2 = [] := by cases r2 with | nil => rfl | cons b s => cases e
  subst this
  have hl' : cs.length ≤ 63 := by simpa using hl
  clear hl e hc
  array_mem_dec
  refine lc_ind (fun rest acc ρ => ∃ (r2 c2 : List Int) (x2 : Option SV), rest = zs r2 ∧ acc = zs c2 ∧ c2.length + r2.length ≤ cs.length ∧ (∀ x ∈ c2, 0 ≤ x) ∧ (∀ x ∈ r2, 0 ≤ x) ∧ ρ = [some (.scr ns), some (.dat (.list (zs cs))), x2]) ?_ ?_ _ _ _ ⟨cs, [], _, rfl, rfl, by simp, (fun _ h => nomatch h), hp, rfl⟩
  · rintro acc ρ ⟨r2, c2, x2, e, rfl, hl2, h2, _, rfl⟩
    have : r2 = [] := by cases r2 with | nil => rfl | cons b s => cases e
    subst this
    have hl3 : c2.length ≤ cs.length := by simpa using hl2
    have hsum := sum_nn hp
    array_mem_dec
    · refine i_sumZ ?_
      array_mem_dec
      refine ⟨c2, cs ++ [((zs cs).length : Int) + 721], cs.sum, 0, ?_, fun z => ?_, h2, by omega, fun x hx => ?_, ?_, ?_, hsum, Int.le_refl 0⟩
      · rw [show (cs ++ [((zs cs).length : Int) + 721]).map PyData.int = zs cs ++ [.int (((zs cs).length : Int) + 721)] by rw [List.map_append]; rfl]
        rfl
      · have := congrArg List.length z
        rw [List.length_append, List.length_singleton] at this
        omega
      · rcases List.mem_append.mp hx with hx | hx
        · exact hp x hx
        · rw [List.mem_singleton.mp hx]; omega
      · rw [List.length_append, List.length_singleton]; omega
      · rw [List.length_append, List.length_singleton]; omega
    · exact szle (by rw [zs_len]; show cs.length + 1 ≤ _; omega)
  · rintro d ds acc ρ K hK ⟨r2, c2, x2, e, rfl, hl2, h2, h3, rfl⟩
    cases r2 with
    | nil => cases e
    | cons b s =>
      obtain ⟨rfl, rfl⟩ : d = .int b ∧ ds = zs s := by simpa [zs] using e
      clear e
      simp only [List.length_cons] at hl2
      have hz : (zs c2).length < sizeLine := by rw [zs_len]; exact Nat.lt_of_lt_of_le (by omega : c2.length < 1001) (by decide)
      have go0 : ∀ x2, K (zs c2) [some (.scr ns), some (.dat (.list (zs cs))), x2] := fun x2 => hK _ _ ⟨s, c2, x2, rfl, rfl, by omega, h2, fun x hx => h3 x (List.mem_cons_of_mem _ hx), rfl⟩
      have go : ∀ x2, K (zs c2 ++ [.int b]) [some (.scr ns), some (.dat (.list (zs cs))), x2] := fun x2 => hK _ _ ⟨s, c2 ++ [b], x2, rfl, by rw [zs_app]; rfl, by simp; omega, fun x hx => by
        rcases List.mem_append.mp hx with hx | hx
        · exact h2 x hx
        · rw [List.mem_singleton.mp hx]; exact h3 b List.mem_cons_self, fun x hx => h3 x (List.mem_cons_of_mem _ hx), rfl⟩
      clear hK
      array_mem_dec
      all_goals first | exact cp10 (by decide) | exact go0 _ | exact ⟨hz, go _⟩ | trace_state
end Lw
/-! Exchanges of neighbouring parts: one by one, all of a row; what both rows have in common around one. -/
namespace Lw
open PySem
inductive Pt | on (n : Int) | off (n : Int) | dl (n : Int) | tn
deriving DecidableEq
def zr : Pt → Option (List Pt)
  | .on n => if n = 0 then some [] else none
  | .off n => if n = 0 then some [] else none
  | .dl n => if n = 0 then some [] else none
  | .tn => none
def put : Pt → Pt → Option (List Pt)
  | .on a, .on b => some [.on (a + b)]
  | .off a, .off b => some [.off (a + b)]
  | .dl a, .dl b => some [.dl (a + b)]
  | _, _ => none
def isDl : Pt → Bool
  | .dl _ => true
  | _ => false
def chg (p q : Pt) : Option (List Pt) := if isDl p || isDl q then some [q, p] else none
def gone : Pt → Pt → Option (List Pt)
  | .tn, .tn => some []
  | _, _ => none
def led : Pt → Pt → Option (List Pt)
  | .tn, .on n => some [.off n, .tn]
  | .tn, .off n => some [.on n, .tn]
  | _, _ => none
def swn : Pt → Pt → Pt → Option (List Pt)
  | .on a, .off b, .on c => if 1 ≤ b ∧ b ≤ a then (if b ≤ c then some [.on a, .dl b, .on (c - b)] else some [.on a, .dl c, .off (b - c)]) else none
  | .off a, .on b, .off c => if 1 ≤ b ∧ b ≤ a then (if b ≤ c then some [.off a, .dl b, .off (c - b)] else some [.off a, .dl c, .on (b - c)]) else none
  | _, _, _ => none
def outs : List Pt → List (List Pt)
  | [p] => (zr p).toList
  | [p, q] => (put p q).toList ++ ((chg p q).toList ++ ((gone p q).toList ++ (led p q).toList))
  | [p, q, r] => (swn p q r).toList
  | _ => []
def Led (r o : List Pt) : Prop := ∃ a m b m', r = a ++ m ++ b ∧ o = a ++ m' ++ b ∧ m' ∈ outs m
def pairsL (p q : Pt) : List (List Pt) := (gone p q).toList ++ ((put p q).toList ++ ((chg p q).toList ++ (led p q).toList))
theorem pairs_outs {p q : Pt} {t : List Pt} : t ∈ pairsL p q ↔ t ∈ outs [p, q] := by
  unfold pairsL outs
  simp only [List.mem_append]
  constructor
  · rintro (h | h | h | h) <;> simp [h]
  · rintro (h | h | h | h) <;> simp [h]
def at2 (a : List Pt) (p : Pt) : List Pt → List (List Pt)
  | q :: s => (pairsL p q).map fun t => a ++ t ++ s
  | [] => []
def at3 (a : List Pt) (p : Pt) : List Pt → List (List Pt)
  | q :: r :: s => (swn p q r).toList.map fun t => a ++ t ++ s
  | _ => []
def leadsAt (a : List Pt) (p : Pt) (s : List Pt) : List (List Pt) := (zr p).toList.map (fun t => a ++ t ++ s) ++ (at2 a p s ++ at3 a p s)
def leadsFrom : List Pt → List Pt → List (List Pt)
  | _, [] => []
  | a, p :: s => leadsAt a p s ++ leadsFrom (a ++ [p]) s
def leads (r : List Pt) : List (List Pt) := leadsFrom [] r
theorem mem_at {a s o : List Pt} {p : Pt} : o ∈ leadsAt a p s ↔ ∃ m y m', p :: s = m ++ y ∧ o = a ++ m' ++ y ∧ m' ∈ outs m := by
  unfold leadsAt
  simp only [List.mem_append]
  constructor
  · rintro (h | h | h)
    · obtain ⟨t, ht, rfl⟩ := List.mem_map.mp h
      exact ⟨[p], s, t, rfl, rfl, ht⟩
    · cases s with
      | nil => exact nomatch h
      | cons q s =>
        obtain ⟨t, ht, rfl⟩ := List.mem_map.mp h
        exact ⟨[p, q], s, t, rfl, rfl, pairs_outs.mp ht⟩
    · rcases s with _ | ⟨q, _ | ⟨r, s⟩⟩
      · exact nomatch h
      · exact nomatch h
      · obtain ⟨t, ht, rfl⟩ := List.mem_map.mp h
        exact ⟨[p, q, r], s, t, rfl, rfl, ht⟩
  · rintro ⟨m, y, m', e, rfl, hm⟩
    rcases m with _ | ⟨x, _ | ⟨z, _ | ⟨w, _ | ⟨v, m⟩⟩⟩⟩
    · exact nomatch hm
    · obtain ⟨rfl, rfl⟩ := List.cons.inj e
      exact .inl (List.mem_map.mpr ⟨m', hm, rfl⟩)
    · obtain ⟨rfl, rfl⟩ := List.cons.inj e
      exact .inr (.inl (List.mem_map.mpr ⟨m', pairs_outs.mpr hm, rfl⟩))
    · obtain ⟨rfl, rfl⟩ := List.cons.inj e
      exact .inr (.inr (List.mem_map.mpr ⟨m', hm, rfl⟩))
    · exact nomatch hm
theorem mem_from : ∀ {s a o : List Pt}, o ∈ leadsFrom a s ↔ ∃ x m y m', s = x ++ m ++ y ∧ o = a ++ x ++ m' ++ y ∧ m' ∈ outs m
  | [], a, o => by
    constructor
    · intro h; cases h
    · rintro ⟨x, m, y, m', e, _, hm⟩
      have hm0 : m = [] := by
        have := congrArg List.length e
        simp only [List.length_append, List.length_nil] at this
        exact List.eq_nil_of_length_eq_zero (by omega)
      subst hm0
      cases hm
  | p :: s, a, o => by
    show o ∈ leadsAt a p s ++ leadsFrom (a ++ [p]) s ↔ _
    rw [List.mem_append, mem_at, mem_from (s := s) (a := a ++ [p])]
    constructor
    · rintro (⟨m, y, m', e, rfl, hm⟩ | ⟨x, m, y, m', rfl, rfl, hm⟩)
      · exact ⟨[], m, y, m', e, by rw [List.append_nil], hm⟩
      · exact ⟨p :: x, m, y, m', rfl, by simp, hm⟩
    · rintro ⟨x, m, y, m', e, rfl, hm⟩
      cases x with
      | nil => exact .inl ⟨m, y, m', e, by rw [List.append_nil], hm⟩
      | cons z x =>
        obtain ⟨rfl, rfl⟩ := List.cons.inj e
        exact .inr ⟨x, m, y, m', rfl, by simp, hm⟩
theorem mem_leads {r o : List Pt} : o ∈ leads r ↔ Led r o := by
  unfold leads Led
  rw [mem_from]
  constructor
  · rintro ⟨x, m, y, m', e1, e2, h⟩; exact ⟨x, m, y, m', e1, by rw [e2]; rfl, h⟩
  · rintro ⟨x, m, y, m', e1, e2, h⟩; exact ⟨x, m, y, m', e1, by rw [e2]; rfl, h⟩
/-! ### what two rows have in common -/
def lcp : List Pt → List Pt → Nat
  | p :: r, q :: o => if p = q then lcp r o + 1 else 0
  | _, _ => 0
theorem lcp_le : ∀ r o : List Pt, lcp r o ≤ r.length ∧ lcp r o ≤ o.length
  | [], o => ⟨Nat.le_refl 0, Nat.zero_le _⟩
  | p :: r, [] => ⟨Nat.zero_le _, Nat.le_refl 0⟩
  | p :: r, q :: o => by
    have := lcp_le r o
    unfold lcp
    split
    · simp only [List.length_cons]; omega
    · exact ⟨Nat.zero_le _, Nat.zero_le _⟩
theorem lcp_take : ∀ {r o : List Pt} {k : Nat}, k ≤ lcp r o → r.take k = o.take k
  | _, _, 0, _ => by rw [List.take_zero, List.take_zero]
  | [], o, k + 1, h => by unfold lcp at h; omega
  | p :: r, [], k + 1, h => by unfold lcp at h; omega
  | p :: r, q :: o, k + 1, h => by
    unfold lcp at h
    split at h
    · rename_i e
      subst e
      rw [List.take_succ_cons, List.take_succ_cons, lcp_take (r := r) (o := o) (k := k) (by omega)]
    · omega
theorem lcp_app : ∀ (a x y : List Pt), a.length ≤ lcp (a ++ x) (a ++ y)
  | [], _, _ => Nat.zero_le _
  | p :: a, x, y => by
    show a.length + 1 ≤ (if p = p then lcp (a ++ x) (a ++ y) + 1 else 0)
    rw [if_pos rfl]
    have := lcp_app a x y
    omega
theorem lcp_drop {r o : List Pt} {k : Nat} (h : k ≤ lcp r.reverse o.reverse) : r.drop (r.length - k) = o.drop (o.length - k) := by
  have e := lcp_take h
  rw [List.take_reverse, List.take_reverse] at e
  exact List.reverse_inj.mp e
def hitP (r o : List Pt) (i n : Nat) : Prop := ∃ t ∈ outs ((r.drop i).take n), (t.length : Int) = (n : Int) + ((o.length : Int) - r.length) ∧ t = (o.drop i).take t.length
theorem hit_iff {r o : List Pt} {i n : Nat} (h1 : i + n ≤ r.length) (h2 : i ≤ lcp r o) (h3 : r.length - n - i ≤ lcp r.reverse o.reverse) : hitP r o i n ↔ ∃ t ∈ outs ((r.drop i).take n), o = r.take i ++ t ++ r.drop (i + n) := by
  have hl := lcp_le r o
  have hl2 := lcp_le r.reverse o.reverse
  rw [List.length_reverse, List.length_reverse] at hl2
  constructor
  · rintro ⟨t, ht, e1, e2⟩
    refine ⟨t, ht, ?_⟩
    have eb := lcp_drop h3
    rw [show r.length - (r.length - n - i) = i + n by omega] at eb
    have eo : o.length - (r.length - n - i) = i + t.length := by omega
    rw [eo] at eb
    have e3 : o.take i ++ ((o.drop i).take t.length ++ (o.drop i).drop t.length) = o := by rw [List.take_append_drop, List.take_append_drop]
    rw [List.drop_drop] at e3
    rw [← e2, ← eb, ← lcp_take h2, ← List.append_assoc] at e3
    exact e3.symm
  · rintro ⟨t, ht, e⟩
    have hlen := congrArg List.length e
    simp only [List.length_append, List.length_take, List.length_drop] at hlen
    refine ⟨t, ht, by omega, ?_⟩
    rw [e, List.append_assoc, List.drop_left' (by rw [List.length_take]; omega), List.take_left]
theorem led_iff {r o : List Pt} : Led r o ↔ ∃ n i : Nat, (n = 1 ∨ n = 2 ∨ n = 3) ∧ i + n ≤ r.length ∧ i ≤ lcp r o ∧ r.length - n - i ≤ lcp r.reverse o.reverse ∧ hitP r o i n := by
  constructor
  · rintro ⟨a, m, b, m', rfl, rfl, hm⟩
    have hn : m.length = 1 ∨ m.length = 2 ∨ m.length = 3 := by
      rcases m with _ | ⟨x, _ | ⟨z, _ | ⟨w, _ | ⟨v, m⟩⟩⟩⟩
      · exact nomatch hm
      · exact .inl rfl
      · exact .inr (.inl rfl)
      · exact .inr (.inr rfl)
      · exact nomatch hm
    have c1 : a.length + m.length ≤ (a ++ m ++ b).length := by simp only [List.length_append]; omega
    have c2 : a.length ≤ lcp (a ++ m ++ b) (a ++ m' ++ b) := by rw [List.append_assoc, List.append_assoc]; exact lcp_app _ _ _
    have c3 : (a ++ m ++ b).length - m.length - a.length ≤ lcp (a ++ m ++ b).reverse (a ++ m' ++ b).reverse := by
      have := lcp_app b.reverse (a ++ m).reverse (a ++ m').reverse
      rw [List.length_reverse, ← List.reverse_append, ← List.reverse_append] at this
      have e : (a ++ m ++ b).length = a.length + m.length + b.length := by simp only [List.length_append]
      rw [e]
      omega
    refine ⟨m.length, a.length, hn, c1, c2, c3, (hit_iff c1 c2 c3).mpr ?_⟩
    have e1 : ((a ++ m ++ b).drop a.length).take m.length = m := by rw [List.append_assoc, List.drop_left, List.take_left]
    have e2 : (a ++ m ++ b).take a.length = a := by rw [List.append_assoc, List.take_left]
    have e3 : (a ++ m ++ b).drop (a.length + m.length) = b := List.drop_left' (by rw [List.length_append])
    rw [e1, e2, e3]
    exact ⟨m', hm, rfl⟩
  · rintro ⟨n, i, _, c1, c2, c3, h⟩
    obtain ⟨t, ht, e⟩ := (hit_iff c1 c2 c3).mp h
    refine ⟨r.take i, (r.drop i).take n, r.drop (i + n), t, ?_, e, ht⟩
    rw [List.append_assoc, ← List.drop_drop, List.take_append_drop, List.take_append_drop]
end Lw
namespace Lw
open PySem L2 DL
def ptD : Pt → PyData
  | .on n => .tuple [.str "on", .int n]
  | .off n => .tuple [.str "off", .int n]
  | .dl n => .tuple [.str "delay", .int n]
  | .tn => .tuple [.str "turn"]
def rowD (r : List Pt) : PyData := .tuple (r.map ptD)
def orow : Option (List Pt) → PyData
  | none => .none
  | some t => rowD t
def isTm : Pt → Bool
  | .on _ => true
  | .off _ => true
  | _ => false
theorem lay_p (p : Pt) : Lay 1 (ptD p) := by
  cases p with
  | tn => exact lay_tup (all_cons (lay_str (by decide +kernel)) all_nil)
  | on n => exact lay_tup (all_cons (lay_str (by decide +kernel)) (all_cons lay_int all_nil))
  | off n => exact lay_tup (all_cons (lay_str (by decide +kernel)) (all_cons lay_int all_nil))
  | dl n => exact lay_tup (all_cons (lay_str (by decide +kernel)) (all_cons lay_int all_nil))
theorem lay_row (r : List Pt) : Lay 2 (rowD r) := lay_tup (all_map fun p _ => lay_p p)
theorem lay_rows (L : List (List Pt)) : Lay 3 (.list (L.map rowD)) := lay_list (all_map fun r _ => lay_row r)
theorem eqv_pt (p q : Pt) : PyData.eqv (ptD p) (ptD q) = decide (p = q) := by
  cases p <;> cases q <;> simp [ptD, PyData.eqv, PyData.eqvAll]
  all_goals first | rfl | (intro h; exact absurd h (by decide +kernel))
theorem eqv_pts : ∀ r o : List Pt, PyData.eqvAll (r.map ptD) (o.map ptD) = decide (r = o)
  | [], [] => by simp [PyData.eqvAll]
  | [], q :: o => by simp [PyData.eqvAll]
  | p :: r, [] => by simp [PyData.eqvAll]
  | p :: r, q :: o => by
    show (PyData.eqv (ptD p) (ptD q) && PyData.eqvAll (r.map ptD) (o.map ptD)) = _
    rw [eqv_pt, eqv_pts r o]
    by_cases h : p = q <;> simp [h]
theorem eqv_row (r o : List Pt) : PyData.eqv (rowD r) (rowD o) = decide (r = o) := by
  show PyData.eqvAll (r.map ptD) (o.map ptD) = _
  exact eqv_pts r o
theorem i_eqPP {p q : Pt} {G : SV → Prop} (k : G (.dat (.bool (decide (p = q))))) : gEq (ptD p) (ptD q) G := c_eqD (lay_p p) (lay_p q) (by decide) (by decide) (by rw [eqv_pt]; exact k)
theorem i_nePP {p q : Pt} {G : SV → Prop} (k : G (.dat (.bool (!decide (p = q))))) : gNe (ptD p) (ptD q) G := c_neD (lay_p p) (lay_p q) (by decide) (by decide) (by rw [eqv_pt]; exact k)
theorem i_eqRR {p q : List Pt} {G : SV → Prop} (k : G (.dat (.bool (decide (p = q))))) : gEq (rowD p) (rowD q) G := c_eqD (lay_row p) (lay_row q) (by decide) (by decide) (by rw [eqv_row]; exact k)
theorem i_neRR {p q : List Pt} {G : SV → Prop} (k : G (.dat (.bool (!decide (p = q))))) : gNe (rowD p) (rowD q) G := c_neD (lay_row p) (lay_row q) (by decide) (by decide) (by rw [eqv_row]; exact k)
theorem any_row (L : List (List Pt)) (o : List Pt) : ((L.map rowD).any fun z => PyData.eqv z (rowD o)) = decide (o ∈ L) := by
  induction L with
  | nil => simp
  | cons a L ih =>
    rw [List.map_cons, List.any_cons, ih, eqv_row]
    by_cases h : a = o
    · subst h; simp
    · have : ¬ o = a := fun e => h e.symm
      simp [h, this]
theorem i_inRows {L : List (List Pt)} {o : List Pt} {G : SV → Prop} (k : G (.dat (.bool (decide (o ∈ L))))) : gIn (rowD o) (.list (L.map rowD)) G := ⟨(lay_row o).shaped (by decide), (lay_rows L).shaped (by decide), by rw [any_row]; exact k⟩
def S_is_timer : DSp := fun args G => ∃ p : Pt, args = [.dat (ptD p)] ∧ G (.dat (.bool (isTm p)))
def S_nothing_left : DSp := fun args G => ∃ p : Pt, args = [.dat (rowD [p])] ∧ G (.dat (orow (zr p)))
def S_put_together : DSp := fun args G => ∃ p q : Pt, args = [.dat (rowD [p, q])] ∧ G (.dat (orow (put p q)))
def S_places_changed : DSp := fun args G => ∃ p q : Pt, args = [.dat (rowD [p, q])] ∧ G (.dat (orow (chg p q)))
def S_turns_gone : DSp := fun args G => ∃ p q : Pt, args = [.dat (rowD [p, q])] ∧ G (.dat (orow (gone p q)))
def S_turn_led : DSp := fun args G => ∃ p q : Pt, args = [.dat (rowD [p, q])] ∧ G (.dat (orow (led p q)))
def S_swing_gone : DSp := fun args G => ∃ p q r : Pt, args = [.dat (rowD [p, q, r])] ∧ G (.dat (orow (swn p q r)))
def S_outcomes : DSp := fun args G => ∃ m : List Pt, args = [.dat (rowD m)] ∧ (m.length = 1 ∨ m.length = 2 ∨ m.length = 3) ∧ G (.own ((outs m).map rowD))
def S__law_contrary : DSp := fun args G => (args = [.dat (.str "on")] ∧ G (.dat (.str "off"))) ∨ (args = [.dat (.str "off")] ∧ G (.dat (.str "on")))
def S__law_pairs : DSp := fun args G => ∃ p q : Pt, args = [.dat (ptD p), .dat (ptD q)] ∧ G (.own ((pairsL p q).map rowD))
def S__law_swings : DSp := fun args G => ∃ p q r : Pt, args = [.dat (ptD p), .dat (ptD q), .dat (ptD r)] ∧ G (.own ((swn p q r).toList.map rowD))
theorem i_inOO {x : Str} {c : Bool} {G : SV → Prop} (sh : SeqAt.shaped (.str x) = true) (h : List.any [PyData.str "on", .str "off"] (fun z => PyData.eqv z (.str x)) = c) (k : G (.dat (.bool c))) : gIn (.str x) (.tuple [.str "on", .str "off"]) G := ⟨sh, by decide +kernel, by rw [h]; exact k⟩
theorem i_ninOO {x : Str} {c : Bool} {G : SV → Prop} (sh : SeqAt.shaped (.str x) = true) (h : (!List.any [PyData.str "on", .str "off"] (fun z => PyData.eqv z (.str x))) = c) (k : G (.dat (.bool c))) : gNotIn (.str x) (.tuple [.str "on", .str "off"]) G := ⟨sh, by decide +kernel, by rw [h]; exact k⟩
theorem i_kdIn {f : Str → Option (Option Str)} {T : DTE} {ρ : DS} {QD : SV → DS → Prop} (h : T ρ fun r ρ1 => ∃ z q, lookD ρ1 r = some (.str z) ∧ f z = some q ∧ QD (.dat (.bool q.isSome)) ρ1) : dKdIn f T ρ QD := h
theorem i_kdIx {f : Str → Option (Option Str)} {T : DTE} {ρ : DS} {QD : SV → DS → Prop} (h : T ρ fun r ρ1 => ∃ z y, lookD ρ1 r = some (.str z) ∧ f z = some (some y) ∧ QD (.dat (.str y)) ρ1) : dKdIx f T ρ QD := h
theorem i_neTurn {G : SV → Prop} (k : G (.dat (.bool false))) : gNe (.tuple [.str "turn"]) (.tuple [.str "turn"]) G := i_nePP (p := .tn) (q := .tn) (by simpa using k)
theorem i_nePart {w : Str} {n : Int} {G : SV → Prop} (hw : PyData.strOk w = true) (k : G (.dat (.bool true))) : gNe (.tuple [.str w, .int n]) (.tuple [.str "turn"]) G := ⟨.inl ⟨shaped2 hw, by decide +kernel⟩, by
  have e : PyData.eqv (.tuple [.str w, .int n]) (.tuple [.str "turn"]) = false := by simp [PyData.eqv, PyData.eqvAll]
  rw [e]; exact k⟩
end Lw
namespace Lw
open PySem L2 DL
set_option hygiene false
local macro_rules
  | `(tactic| fail "a") => `(tactic| (with_reducible refine i_seqN ?_; intro NN hNN))
local macro_rules
  | `(tactic| fail "b") => `(tactic| (with_reducible refine i_nxN (by assumption) (by first | (dsimp only [List.set, wipeD]; done) | exact rfl) ?_; (try clear hNN); (try clear NN)))
set_option hygiene true
local macro_rules
  | `(tactic| array_get_dec) => `(tactic| repeat (first
    | (with_reducible refine i_kdIn ?_)
    | (with_reducible refine i_kdIx ?_)
    | (with_reducible refine rr ?_)
    | (fail "a")
    | (fail "b")
    | (with_reducible refine i_varD (by with_unfolding_all rfl) ?_)
    | (with_reducible refine i_two (by with_unfolding_all rfl) (by with_unfolding_all rfl) ?_)
    | (with_reducible refine i_frz (by with_unfolding_all rfl) ?_)
    | (with_reducible refine i_sto (by with_unfolding_all rfl) ?_ (Nat.le_of_ble_eq_true rfl))
    | (with_reducible refine i_varO (by with_unfolding_all rfl) ?_)
    | (with_reducible refine i_varK (by with_unfolding_all rfl) ?_)
    | (with_reducible refine i_app (by with_unfolding_all rfl) ?_)
    | (with_reducible refine i_ixT (by with_unfolding_all rfl) ?_)
    | (with_reducible refine i_ixL (by with_unfolding_all rfl) ?_)
    | (with_reducible refine i_frz3 (by with_unfolding_all rfl) (by with_unfolding_all rfl) ?_)
    | (with_reducible refine i_len (Nat.le_of_ble_eq_true rfl) ?_)
    | (with_reducible refine i_frzD (by with_unfolding_all rfl) (by with_unfolding_all rfl) ?_)
    | (with_reducible refine i_ok (by with_unfolding_all exact True.intro) ?_)
    | (with_reducible refine i_nm ?_ (Nat.le_of_ble_eq_true rfl))
    | (with_reducible refine i_tu ?_ (by with_unfolding_all rfl))
    | (with_reducible refine i_li ?_ (by with_unfolding_all rfl))
    | (with_reducible refine i_szc (by with_unfolding_all rfl) ?_)
    | (with_reducible refine i_trB ?_)
    | (with_reducible refine i_ifb ?_)
    | (with_reducible refine i_and2 (Nat.le_of_ble_eq_true rfl) (Nat.le_of_ble_eq_true rfl) ?_)
    | (with_reducible refine i_and3 (Nat.le_of_ble_eq_true rfl) (Nat.le_of_ble_eq_true rfl) (Nat.le_of_ble_eq_true rfl) ?_)
    | (with_reducible refine c_ltlen (Nat.le_of_ble_eq_true rfl) ?_)
    | (with_reducible refine i_aug (by with_unfolding_all rfl) ?_)
    | (with_reducible refine ⟨_, _, _, (by with_unfolding_all rfl), (by with_unfolding_all rfl), ?_⟩)
    | (with_reducible refine ⟨_, _, (by with_unfolding_all rfl), (by with_unfolding_all rfl), ?_⟩)
    | (with_reducible refine ⟨_, (by with_unfolding_all rfl), ?_⟩)
    | (with_reducible refine ⟨_, _, (by with_unfolding_all rfl), ?_⟩)
    | (with_reducible refine i_ifT (by with_unfolding_all rfl) ?_)
    | (with_reducible refine i_ifF (by with_unfolding_all rfl) ?_)
    | (with_reducible refine ⟨rfl, rfl, _, _, (by with_unfolding_all rfl), ?_⟩)
    | (with_reducible refine c_pow (by decide) (by decide) (by decide) ?_)
    | (with_reducible refine c_b62 (by decide) (by decide) ?_)
    | (with_reducible refine c_eqb (by assumption) (by assumption) (by assumption) ?_)
    | (with_reducible refine c_neb (by assumption) (by assumption) (by assumption) ?_)
    | (with_reducible refine c_neSS (by with_reducible rfl) ?_)
    | (with_reducible refine c_eqSS (by with_reducible rfl) ?_)
    | (with_reducible refine c_rep (by assumption) ?_)
    | (with_reducible refine i_strI ?_ ?_)
    | (with_reducible refine i_mul ?_ ?_)
    | (with_reducible refine i_mod ?_ ?_)
    | (with_reducible refine i_div ?_ ?_)
    | (with_reducible refine i_pow ?_ ?_)
    | (with_reducible refine i_addT ?_ ?_)
    | (with_reducible refine i_addL ?_ ?_)
    | (with_reducible refine i_nm ?_ ?_)
    | (with_reducible refine i_sto (by with_unfolding_all rfl) ?_ ?_)
    | (with_reducible refine i_eqTurn ?_)
    | (with_reducible refine i_eqPart (by decide +kernel) ?_)
    | (with_reducible refine i_neTurn ?_)
    | (with_reducible refine i_nePart (by decide +kernel) ?_)
    | (with_reducible refine i_eqSt (by decide +kernel) ?_)
    | (with_reducible refine i_eqSf (by decide +kernel) ?_)
    | (with_reducible refine i_neSt (by decide +kernel) ?_)
    | (with_reducible refine i_neSf (by decide +kernel) ?_)))
local macro_rules
  | `(tactic| array_mem_dec) => `(tactic| repeat' (first
    | (with_reducible refine i_kdIn ?_)
    | (with_reducible refine i_kdIx ?_)
    | (with_reducible refine rr ?_)
    | (fail "a")
    | (fail "b")
    | (with_reducible refine i_varD (by with_unfolding_all rfl) ?_)
    | (with_reducible refine i_two (by with_unfolding_all rfl) (by with_unfolding_all rfl) ?_)
    | (with_reducible refine i_frz (by with_unfolding_all rfl) ?_)
    | (with_reducible refine i_sto (by with_unfolding_all rfl) ?_ (Nat.le_of_ble_eq_true rfl))
    | (with_reducible refine i_varO (by with_unfolding_all rfl) ?_)
    | (with_reducible refine i_varK (by with_unfolding_all rfl) ?_)
    | (with_reducible refine i_app (by with_unfolding_all rfl) ?_)
    | (with_reducible refine i_ixT (by with_unfolding_all rfl) ?_)
    | (with_reducible refine i_ixL (by with_unfolding_all rfl) ?_)
    | (with_reducible refine i_frz3 (by with_unfolding_all rfl) (by with_unfolding_all rfl) ?_)
    | (with_reducible refine i_len (Nat.le_of_ble_eq_true rfl) ?_)
    | (with_reducible refine i_frzD (by with_unfolding_all rfl) (by with_unfolding_all rfl) ?_)
    | (with_reducible refine i_ok (by with_unfolding_all exact True.intro) ?_)
    | (with_reducible refine i_nm ?_ (Nat.le_of_ble_eq_true rfl))
    | (with_reducible refine i_tu ?_ (by with_unfolding_all rfl))
    | (with_reducible refine i_li ?_ (by with_unfolding_all rfl))
    | (with_reducible refine i_szc (by with_unfolding_all rfl) ?_)
    | (with_reducible refine i_trB ?_)
    | (with_reducible refine i_ifb ?_)
    | (with_reducible refine i_and2 (Nat.le_of_ble_eq_true rfl) (Nat.le_of_ble_eq_true rfl) ?_)
    | (with_reducible refine i_and3 (Nat.le_of_ble_eq_true rfl) (Nat.le_of_ble_eq_true rfl) (Nat.le_of_ble_eq_true rfl) ?_)
    | (with_reducible refine c_ltlen (Nat.le_of_ble_eq_true rfl) ?_)
    | (with_reducible refine i_aug (by with_unfolding_all rfl) ?_)
    | (with_reducible refine ⟨_, _, _, (by with_unfolding_all rfl), (by with_unfolding_all rfl), ?_⟩)
    | (with_reducible refine ⟨_, _, (by with_unfolding_all rfl), (by with_unfolding_all rfl), ?_⟩)
    | (with_reducible refine ⟨_, (by with_unfolding_all rfl), ?_⟩)
    | (with_reducible refine ⟨_, _, (by with_unfolding_all rfl), ?_⟩)
    | (with_reducible refine i_ifT (by with_unfolding_all rfl) ?_)
    | (with_reducible refine i_ifF (by with_unfolding_all rfl) ?_)
    | (with_reducible refine ⟨rfl, rfl, _, _, (by with_unfolding_all rfl), ?_⟩)
    | (with_reducible refine c_pow (by decide) (by decide) (by decide) ?_)
    | (with_reducible refine c_b62 (by decide) (by decide) ?_)
    | (with_reducible refine c_eqb (by assumption) (by assumption) (by assumption) ?_)
    | (with_reducible refine c_neb (by assumption) (by assumption) (by assumption) ?_)
    | (with_reducible refine c_neSS (by with_reducible rfl) ?_)
    | (with_reducible refine c_eqSS (by with_reducible rfl) ?_)
    | (with_reducible refine c_rep (by assumption) ?_)
    | (with_reducible refine i_eqTurn ?_)
    | (with_reducible refine i_eqPart (by decide +kernel) ?_)
    | (with_reducible refine i_neTurn ?_)
    | (with_reducible refine i_nePart (by decide +kernel) ?_)
    | (with_reducible refine i_eqSt (by decide +kernel) ?_)
    | (with_reducible refine i_eqSf (by decide +kernel) ?_)
    | (with_reducible refine i_neSt (by decide +kernel) ?_)
    | (with_reducible refine i_neSf (by decide +kernel) ?_)
    | (with_reducible refine i_eqL0 (by assumption) ?_)
    | (with_reducible refine i_neL0 (by assumption) ?_)
    | (with_reducible refine i_ifNE ?_ ?_ <;> intro h <;> try (first | (exfalso; contradiction) | (exfalso; omega)))
    | (with_reducible refine ⟨len_lt (by omega), ?_⟩)
    | (with_reducible refine i_mulT ?_ (by decide) (by decide) (by omega))
    | (with_reducible exact len_ok (Nat.le_of_ble_eq_true rfl))
    | (with_reducible refine i_mulT ?_ (by decide) (by decide) (Nat.le_trans cut_len (by omega)))
    | (with_reducible refine i_ifE ?_ ?_ <;> intro h <;> try (first | (exfalso; contradiction) | (exfalso; omega)))
    | (with_reducible refine i_eqT0 (by assumption) ?_)
    | (with_reducible refine i_ixT (by assumption) ?_)
    | (with_reducible refine i_ixL (by assumption) ?_)
    | (with_reducible refine i_ifD ?_ ?_ <;> intro h <;> try (exfalso; omega))
    | (with_reducible refine i_ifDN ?_ ?_ <;> intro h <;> try (exfalso; omega))
    | (with_reducible refine i_eq ?_ (by assumption) (by assumption))
    | (with_reducible refine i_ne ?_ (by assumption) (by assumption))
    | (with_reducible refine i_if2 ?_ ?_ <;> intro h)
    | (with_reducible refine i_strI ?_ ?_)
    | (with_reducible refine i_mul ?_ ?_)
    | (with_reducible refine i_mod ?_ ?_)
    | (with_reducible refine i_div ?_ ?_)
    | (with_reducible refine i_pow ?_ ?_)
    | (with_reducible refine i_addT ?_ ?_)
    | (with_reducible refine i_addL ?_ ?_)
    | (with_reducible refine i_nm ?_ ?_)
    | (with_reducible refine i_sto (by with_unfolding_all rfl) ?_ ?_)))
--++ with_reducible refine i_kdIn ?_
--++ with_reducible refine i_kdIx ?_
--+ with_reducible refine i_eqTurn ?_
--+ with_reducible refine i_eqPart (by decide +kernel) ?_
--+ with_reducible refine i_neTurn ?_
--+ with_reducible refine i_nePart (by decide +kernel) ?_
--+ with_reducible refine i_eqSt (by decide +kernel) ?_
--+ with_reducible refine i_eqSf (by decide +kernel) ?_
--+ with_reducible refine i_neSt (by decide +kernel) ?_
--+ with_reducible refine i_neSf (by decide +kernel) ?_
theorem spec_is_timer : ∀ args G, args.length = 1 → S_is_timer args G → dDef 0 B_is_timer args G := by
  rintro args G hl ⟨p, rfl, hG⟩
  unfold dDef B_is_timer
  cases p
  all_goals dsimp only [ptD, isTm] at hG ⊢
  all_goals array_mem_dec
  all_goals exact hG
theorem spec__law_contrary : ∀ args G, args.length = 1 → S__law_contrary args G → dDef 0 B__law_contrary args G := by
  rintro args G hl (⟨rfl, hG⟩ | ⟨rfl, hG⟩)
  all_goals unfold dDef B__law_contrary
  all_goals array_mem_dec
  all_goals exact hG
theorem spec_nothing_left : ∀ args G, args.length = 1 → S_nothing_left args G → dDef 1 B_nothing_left args G := by
  rintro args G hl ⟨p, rfl, hG⟩
  unfold dDef B_nothing_left
  cases p
  all_goals dsimp only [ptD, rowD, List.map, zr] at hG ⊢
  all_goals array_mem_dec
  all_goals first
    | exact hG
    | (rename_i h; rw [if_pos h] at hG; exact hG)
    | (rename_i h; rw [if_neg h] at hG; exact hG)
    | trace_state
theorem spec_turns_gone : ∀ args G, args.length = 1 → S_turns_gone args G → dDef 0 B_turns_gone args G := by
  rintro args G hl ⟨p, q, rfl, hG⟩
  unfold dDef B_turns_gone
  array_mem_dec
  refine i_eqRR (p := [p, q]) (q := [.tn, .tn]) ?_
  cases p <;> cases q
  all_goals first
    | (rw [decide_eq_true rfl]; array_mem_dec; exact hG)
    | (rw [decide_eq_false (by intro h; cases h)]; array_mem_dec; exact hG)
    | trace_state
theorem spec_places_changed : ∀ args G, args.length = 1 → S_places_changed args G → dDef 2 B_places_changed args G := by
  rintro args G hl ⟨p, q, rfl, hG⟩
  unfold dDef B_places_changed
  cases p <;> cases q
  all_goals dsimp only [ptD, rowD, List.map] at hG ⊢
  all_goals array_mem_dec
  all_goals first | exact hG | trace_state
theorem spec_put_together : ∀ args G, args.length = 1 → S_put_together args G → dDef 2 B_put_together args G := by
  rintro args G hl ⟨p, q, rfl, hG⟩
  unfold dDef B_put_together
  cases p <;> cases q
  all_goals dsimp only [ptD, rowD, List.map] at hG ⊢
  all_goals array_mem_dec
  all_goals first | exact hG | trace_state
theorem spec_turn_led : ∀ args G, args.length = 1 → S_turn_led args G → dDef 2 (B_turn_led S_is_timer) args G := by
  rintro args G hl ⟨p, q, rfl, hG⟩
  unfold dDef B_turn_led
  cases p
  case tn =>
    cases q
    all_goals dsimp only [ptD, rowD, List.map] at hG ⊢
    all_goals array_mem_dec
    · refine ⟨.on _, rfl, ?_⟩
      dsimp only [isTm]
      array_mem_dec
      exact hG
    · refine ⟨.off _, rfl, ?_⟩
      dsimp only [isTm]
      array_mem_dec
      exact hG
    · refine ⟨.dl _, rfl, ?_⟩
      dsimp only [isTm]
      array_mem_dec
      exact hG
    · refine ⟨.tn, rfl, ?_⟩
      dsimp only [isTm]
      array_mem_dec
      exact hG
  all_goals cases q
  all_goals dsimp only [ptD, rowD, List.map] at hG ⊢
  all_goals array_mem_dec
  all_goals first | exact hG | trace_state
end Lw
namespace Lw
open PySem L2 DL
theorem swn1 (a b c : Int) : swn (.on a) (.off b) (.on c) = if 1 ≤ b ∧ b ≤ a then (if b ≤ c then some [.on a, .dl b, .on (c - b)] else some [.on a, .dl c, .off (b - c)]) else none := rfl
theorem swn2 (a b c : Int) : swn (.off a) (.on b) (.off c) = if 1 ≤ b ∧ b ≤ a then (if b ≤ c then some [.off a, .dl b, .off (c - b)] else some [.off a, .dl c, .on (b - c)]) else none := rfl
theorem swn_p : ∀ {p q r : Pt}, isTm p = false → swn p q r = none
  | .dl _, q, r, _ => by cases q <;> cases r <;> rfl
  | .tn, q, r, _ => by cases q <;> cases r <;> rfl
  | .on _, _, _, h => by simp [isTm] at h
  | .off _, _, _, h => by simp [isTm] at h
theorem swn_q : ∀ {p q r : Pt}, isTm q = false → swn p q r = none
  | p, .dl _, r, _ => by cases p <;> cases r <;> rfl
  | p, .tn, r, _ => by cases p <;> cases r <;> rfl
  | _, .on _, _, h => by simp [isTm] at h
  | _, .off _, _, h => by simp [isTm] at h
end Lw
namespace Lw
open PySem L2 DL
set_option hygiene false
local macro_rules
  | `(tactic| fail "a") => `(tactic| (with_reducible refine i_seqN ?_; intro NN hNN))
local macro_rules
  | `(tactic| fail "b") => `(tactic| (with_reducible refine i_nxN (by assumption) (by first | (dsimp only [List.set, wipeD]; done) | exact rfl) ?_; (try clear hNN); (try clear NN)))
set_option hygiene true
local macro_rules
  | `(tactic| array_get_dec) => `(tactic| repeat (first
    | (with_reducible refine i_kdIn ?_)
    | (with_reducible refine i_kdIx ?_)
    | (with_reducible refine rr ?_)
    | (fail "a")
    | (fail "b")
    | (with_reducible refine i_varD (by with_unfolding_all rfl) ?_)
    | (with_reducible refine i_two (by with_unfolding_all rfl) (by with_unfolding_all rfl) ?_)
    | (with_reducible refine i_frz (by with_unfolding_all rfl) ?_)
    | (with_reducible refine i_sto (by with_unfolding_all rfl) ?_ (Nat.le_of_ble_eq_true rfl))
    | (with_reducible refine i_varO (by with_unfolding_all rfl) ?_)
    | (with_reducible refine i_varK (by with_unfolding_all rfl) ?_)
    | (with_reducible refine i_app (by with_unfolding_all rfl) ?_)
    | (with_reducible refine i_ixT (by with_unfolding_all rfl) ?_)
    | (with_reducible refine i_ixL (by with_unfolding_all rfl) ?_)
    | (with_reducible refine i_frz3 (by with_unfolding_all rfl) (by with_unfolding_all rfl) ?_)
    | (with_reducible refine i_len (Nat.le_of_ble_eq_true rfl) ?_)
    | (with_reducible refine i_frzD (by with_unfolding_all rfl) (by with_unfolding_all rfl) ?_)
    | (with_reducible refine i_ok (by with_unfolding_all exact True.intro) ?_)
    | (with_reducible refine i_nm ?_ (Nat.le_of_ble_eq_true rfl))
    | (with_reducible refine i_tu ?_ (by with_unfolding_all rfl))
    | (with_reducible refine i_li ?_ (by with_unfolding_all rfl))
    | (with_reducible refine i_szc (by with_unfolding_all rfl) ?_)
    | (with_reducible refine i_trB ?_)
    | (with_reducible refine i_ifb ?_)
    | (with_reducible refine i_and2 (Nat.le_of_ble_eq_true rfl) (Nat.le_of_ble_eq_true rfl) ?_)
    | (with_reducible refine i_and3 (Nat.le_of_ble_eq_true rfl) (Nat.le_of_ble_eq_true rfl) (Nat.le_of_ble_eq_true rfl) ?_)
    | (with_reducible refine c_ltlen (Nat.le_of_ble_eq_true rfl) ?_)
    | (with_reducible refine i_aug (by with_unfolding_all rfl) ?_)
    | (with_reducible refine ⟨_, _, _, (by with_unfolding_all rfl), (by with_unfolding_all rfl), ?_⟩)
    | (with_reducible refine ⟨_, _, (by with_unfolding_all rfl), (by with_unfolding_all rfl), ?_⟩)
    | (with_reducible refine ⟨_, (by with_unfolding_all rfl), ?_⟩)
    | (with_reducible refine ⟨_, _, (by with_unfolding_all rfl), ?_⟩)
    | (with_reducible refine i_ifT (by with_unfolding_all rfl) ?_)
    | (with_reducible refine i_ifF (by with_unfolding_all rfl) ?_)
    | (with_reducible refine ⟨rfl, rfl, _, _, (by with_unfolding_all rfl), ?_⟩)
    | (with_reducible refine c_pow (by decide) (by decide) (by decide) ?_)
    | (with_reducible refine c_b62 (by decide) (by decide) ?_)
    | (with_reducible refine c_eqb (by assumption) (by assumption) (by assumption) ?_)
    | (with_reducible refine c_neb (by assumption) (by assumption) (by assumption) ?_)
    | (with_reducible refine c_neSS (by with_reducible rfl) ?_)
    | (with_reducible refine c_eqSS (by with_reducible rfl) ?_)
    | (with_reducible refine c_rep (by assumption) ?_)
    | (with_reducible refine i_strI ?_ ?_)
    | (with_reducible refine i_mul ?_ ?_)
    | (with_reducible refine i_mod ?_ ?_)
    | (with_reducible refine i_div ?_ ?_)
    | (with_reducible refine i_pow ?_ ?_)
    | (with_reducible refine i_addT ?_ ?_)
    | (with_reducible refine i_addL ?_ ?_)
    | (with_reducible refine i_nm ?_ ?_)
    | (with_reducible refine i_sto (by with_unfolding_all rfl) ?_ ?_)
    | (with_reducible refine i_eqTurn ?_)
    | (with_reducible refine i_eqPart (by decide +kernel) ?_)
    | (with_reducible refine i_neTurn ?_)
    | (with_reducible refine i_nePart (by decide +kernel) ?_)
    | (with_reducible refine i_eqSt (by decide +kernel) ?_)
    | (with_reducible refine i_eqSf (by decide +kernel) ?_)
    | (with_reducible refine i_neSt (by decide +kernel) ?_)
    | (with_reducible refine i_neSf (by decide +kernel) ?_)
    | (with_reducible refine i_inOO (by decide +kernel) (by with_unfolding_all rfl) ?_)
    | (with_reducible refine i_ninOO (by decide +kernel) (by with_unfolding_all rfl) ?_)))
local macro_rules
  | `(tactic| array_mem_dec) => `(tactic| repeat' (first
    | (with_reducible refine i_kdIn ?_)
    | (with_reducible refine i_kdIx ?_)
    | (with_reducible refine rr ?_)
    | (fail "a")
    | (fail "b")
    | (with_reducible refine i_varD (by with_unfolding_all rfl) ?_)
    | (with_reducible refine i_two (by with_unfolding_all rfl) (by with_unfolding_all rfl) ?_)
    | (with_reducible refine i_frz (by with_unfolding_all rfl) ?_)
    | (with_reducible refine i_sto (by with_unfolding_all rfl) ?_ (Nat.le_of_ble_eq_true rfl))
    | (with_reducible refine i_varO (by with_unfolding_all rfl) ?_)
    | (with_reducible refine i_varK (by with_unfolding_all rfl) ?_)
    | (with_reducible refine i_app (by with_unfolding_all rfl) ?_)
    | (with_reducible refine i_ixT (by with_unfolding_all rfl) ?_)
    | (with_reducible refine i_ixL (by with_unfolding_all rfl) ?_)
    | (with_reducible refine i_frz3 (by with_unfolding_all rfl) (by with_unfolding_all rfl) ?_)
    | (with_reducible refine i_len (Nat.le_of_ble_eq_true rfl) ?_)
    | (with_reducible refine i_frzD (by with_unfolding_all rfl) (by with_unfolding_all rfl) ?_)
    | (with_reducible refine i_ok (by with_unfolding_all exact True.intro) ?_)
    | (with_reducible refine i_nm ?_ (Nat.le_of_ble_eq_true rfl))
    | (with_reducible refine i_tu ?_ (by with_unfolding_all rfl))
    | (with_reducible refine i_li ?_ (by with_unfolding_all rfl))
    | (with_reducible refine i_szc (by with_unfolding_all rfl) ?_)
    | (with_reducible refine i_trB ?_)
    | (with_reducible refine i_ifb ?_)
    | (with_reducible refine i_and2 (Nat.le_of_ble_eq_true rfl) (Nat.le_of_ble_eq_true rfl) ?_)
    | (with_reducible refine i_and3 (Nat.le_of_ble_eq_true rfl) (Nat.le_of_ble_eq_true rfl) (Nat.le_of_ble_eq_true rfl) ?_)
    | (with_reducible refine c_ltlen (Nat.le_of_ble_eq_true rfl) ?_)
    | (with_reducible refine i_aug (by with_unfolding_all rfl) ?_)
    | (with_reducible refine ⟨_, _, _, (by with_unfolding_all rfl), (by with_unfolding_all rfl), ?_⟩)
    | (with_reducible refine ⟨_, _, (by with_unfolding_all rfl), (by with_unfolding_all rfl), ?_⟩)
    | (with_reducible refine ⟨_, (by with_unfolding_all rfl), ?_⟩)
    | (with_reducible refine ⟨_, _, (by with_unfolding_all rfl), ?_⟩)
    | (with_reducible refine i_ifT (by with_unfolding_all rfl) ?_)
    | (with_reducible refine i_ifF (by with_unfolding_all rfl) ?_)
    | (with_reducible refine ⟨rfl, rfl, _, _, (by with_unfolding_all rfl), ?_⟩)
    | (with_reducible refine c_pow (by decide) (by decide) (by decide) ?_)
    | (with_reducible refine c_b62 (by decide) (by decide) ?_)
    | (with_reducible refine c_eqb (by assumption) (by assumption) (by assumption) ?_)
    | (with_reducible refine c_neb (by assumption) (by assumption) (by assumption) ?_)
    | (with_reducible refine c_neSS (by with_reducible rfl) ?_)
    | (with_reducible refine c_eqSS (by with_reducible rfl) ?_)
    | (with_reducible refine c_rep (by assumption) ?_)
    | (with_reducible refine i_eqTurn ?_)
    | (with_reducible refine i_eqPart (by decide +kernel) ?_)
    | (with_reducible refine i_neTurn ?_)
    | (with_reducible refine i_nePart (by decide +kernel) ?_)
    | (with_reducible refine i_eqSt (by decide +kernel) ?_)
    | (with_reducible refine i_eqSf (by decide +kernel) ?_)
    | (with_reducible refine i_neSt (by decide +kernel) ?_)
    | (with_reducible refine i_neSf (by decide +kernel) ?_)
    | (with_reducible refine i_inOO (by decide +kernel) (by with_unfolding_all rfl) ?_)
    | (with_reducible refine i_ninOO (by decide +kernel) (by with_unfolding_all rfl) ?_)
    | (with_reducible refine i_eqL0 (by assumption) ?_)
    | (with_reducible refine i_neL0 (by assumption) ?_)
    | (with_reducible refine i_ifNE ?_ ?_ <;> intro h <;> try (first | (exfalso; contradiction) | (exfalso; omega)))
    | (with_reducible refine ⟨len_lt (by omega), ?_⟩)
    | (with_reducible refine i_mulT ?_ (by decide) (by decide) (by omega))
    | (with_reducible exact len_ok (Nat.le_of_ble_eq_true rfl))
    | (with_reducible refine i_mulT ?_ (by decide) (by decide) (Nat.le_trans cut_len (by omega)))
    | (with_reducible refine i_ifE ?_ ?_ <;> intro h <;> try (first | (exfalso; contradiction) | (exfalso; omega)))
    | (with_reducible refine i_eqT0 (by assumption) ?_)
    | (with_reducible refine i_ixT (by assumption) ?_)
    | (with_reducible refine i_ixL (by assumption) ?_)
    | (with_reducible refine i_ifD ?_ ?_ <;> intro h <;> try (exfalso; omega))
    | (with_reducible refine i_ifDN ?_ ?_ <;> intro h <;> try (exfalso; omega))
    | (with_reducible refine i_eq ?_ (by assumption) (by assumption))
    | (with_reducible refine i_ne ?_ (by assumption) (by assumption))
    | (with_reducible refine i_if2 ?_ ?_ <;> intro h)
    | (with_reducible refine i_strI ?_ ?_)
    | (with_reducible refine i_mul ?_ ?_)
    | (with_reducible refine i_mod ?_ ?_)
    | (with_reducible refine i_div ?_ ?_)
    | (with_reducible refine i_pow ?_ ?_)
    | (with_reducible refine i_addT ?_ ?_)
    | (with_reducible refine i_addL ?_ ?_)
    | (with_reducible refine i_nm ?_ ?_)
    | (with_reducible refine i_sto (by with_unfolding_all rfl) ?_ ?_)))
--++ with_reducible refine i_kdIn ?_
--++ with_reducible refine i_kdIx ?_
--+ with_reducible refine i_eqTurn ?_
--+ with_reducible refine i_eqPart (by decide +kernel) ?_
--+ with_reducible refine i_neTurn ?_
--+ with_reducible refine i_nePart (by decide +kernel) ?_
--+ with_reducible refine i_eqSt (by decide +kernel) ?_
--+ with_reducible refine i_eqSf (by decide +kernel) ?_
--+ with_reducible refine i_neSt (by decide +kernel) ?_
--+ with_reducible refine i_neSf (by decide +kernel) ?_
--+ with_reducible refine i_inOO (by decide +kernel) (by with_unfolding_all rfl) ?_
--+ with_reducible refine i_ninOO (by decide +kernel) (by with_unfolding_all rfl) ?_
theorem lc_out {Kc : List PyData → DS → Prop} {a b x : Option SV} {L : List (Option (List Pt))} (hL : L.length ≤ 10) (k : ∀ ρ', wipeD ρ' [2] = [a, b, none] → Kc ((L.filterMap id).map rowD) ρ') : lcT (gNm 2) (dTst (dBin gIsNot (dVar 2) (dC .none))) (dVar 2) [2] Kc (L.map orow) [] [a, b, x] := by
  refine lc_map (α := Option (List Pt)) (e := orow) (xs := L) (fun o => o.map rowD) rfl (szle (by omega)) (fun ρ' h' => ?_) (fun o ho acc K2 hl2 hK1 hK2 => ?_)
  · rw [show L.filterMap (fun o => o.map rowD) = (L.filterMap id).map rowD by rw [List.map_filterMap]; rfl]
    exact k ρ' h'
  · cases o with
    | none =>
      dsimp only [orow]
      array_mem_dec
      exact hK2 _ rfl rfl
    | some t =>
      dsimp only [orow, rowD]
      array_mem_dec
      exact ⟨hl2, hK1 _ _ rfl rfl⟩
theorem spec_swing_gone : ∀ args G, args.length = 1 → S_swing_gone args G → dDef 6 (B_swing_gone S_is_timer) args G := by
  rintro args G hl ⟨p, q, r, rfl, hG⟩
  unfold dDef B_swing_gone
  have e : rowD [p, q, r] = .tuple [ptD p, ptD q, ptD r] := rfl
  rw [e]
  array_mem_dec
  refine ⟨p, rfl, ?_⟩
  cases hp : isTm p
  · array_mem_dec
    rw [swn_p hp] at hG
    exact hG
  array_mem_dec
  refine ⟨q, rfl, ?_⟩
  cases hq : isTm q
  · array_mem_dec
    rw [swn_q hq] at hG
    exact hG
  cases p <;> (try cases hp)
  all_goals cases q <;> (try cases hq)
  all_goals cases r
  all_goals dsimp only [ptD]
  all_goals array_mem_dec
  all_goals first
    | exact hG
    | ((first | rw [swn1] at hG | rw [swn2] at hG)
       rename_i h
       rw [if_neg (by omega)] at hG
       exact hG)
    | ((first | rw [swn1] at hG | rw [swn2] at hG)
       rename_i h1 h2
       rw [if_neg (by omega)] at hG
       exact hG)
    | ((first | rw [swn1] at hG | rw [swn2] at hG)
       rename_i h1 h2 h3
       rw [if_pos (by omega), if_pos (by omega)] at hG
       exact hG)
    | ((first | rw [swn1] at hG | rw [swn2] at hG)
       rename_i h1 h2 h3
       rw [if_pos (by omega), if_neg (by omega)] at hG
       exact hG)
    | trace_state
theorem spec_outcomes : ∀ args G, args.length = 1 → S_outcomes args G → dDef 2 (B_outcomes S_nothing_left S_places_changed S_put_together S_swing_gone S_turn_led S_turns_gone) args G := by
  rintro args G hl ⟨m, rfl, hm, hG⟩
  unfold dDef B_outcomes
  rcases m with _ | ⟨p, _ | ⟨q, _ | ⟨r, _ | ⟨s, m⟩⟩⟩⟩
  · simp at hm
  · have e : rowD [p] = .tuple [ptD p] := rfl
    rw [e]
    array_mem_dec
    refine ⟨p, rfl, ?_⟩
    array_mem_dec
    dsimp only [List.set, List.map, List.replicate, List.cons_append, List.nil_append]
    refine lc_out (L := [zr p]) (by simp) fun ρ' h' => ?_
    rw [h', show [zr p].filterMap id = outs [p] by show _ = (zr p).toList; cases zr p <;> rfl]
    array_mem_dec
    exact hG
  · have e : rowD [p, q] = .tuple [ptD p, ptD q] := rfl
    rw [e]
    array_mem_dec
    refine ⟨p, q, rfl, ?_⟩
    array_mem_dec
    refine ⟨p, q, rfl, ?_⟩
    array_mem_dec
    refine ⟨p, q, rfl, ?_⟩
    array_mem_dec
    refine ⟨p, q, rfl, ?_⟩
    array_mem_dec
    dsimp only [List.set, List.map, List.replicate, List.cons_append, List.nil_append]
    refine lc_out (L := [put p q, chg p q, gone p q, led p q]) (by simp) fun ρ' h' => ?_
    rw [h', show [put p q, chg p q, gone p q, led p q].filterMap id = outs [p, q] by
      show _ = (put p q).toList ++ ((chg p q).toList ++ ((gone p q).toList ++ (led p q).toList))
      cases put p q <;> cases chg p q <;> cases gone p q <;> cases led p q <;> rfl]
    array_mem_dec
    exact hG
  · have e : rowD [p, q, r] = .tuple [ptD p, ptD q, ptD r] := rfl
    rw [e]
    array_mem_dec
    refine ⟨p, q, r, rfl, ?_⟩
    array_mem_dec
    dsimp only [List.set, List.map, List.replicate, List.cons_append, List.nil_append]
    refine lc_out (L := [swn p q r]) (by simp) fun ρ' h' => ?_
    rw [h', show [swn p q r].filterMap id = outs [p, q, r] by show _ = (swn p q r).toList; cases swn p q r <;> rfl]
    array_mem_dec
    exact hG
  · simp at hm
end Lw
namespace Lw
open PySem L2 DL
def S__is_led_at : DSp := fun args G => ∃ (r o : List Pt) (i n : Nat), args = [.dat (rowD r), .dat (rowD o), .dat (.int (i : Nat)), .dat (.int (n : Nat))] ∧ (n = 1 ∨ n = 2 ∨ n = 3) ∧ i + n ≤ r.length ∧ (r.length ≤ 1000 ∧ o.length ≤ 1000) ∧ ∀ b : Bool, (b = true ↔ hitP r o i n) → G (.dat (.bool b))
def S__alike_parts : DSp := fun args G => ∃ r o : List Pt, args = [.dat (rowD r), .dat (rowD o)] ∧ (r.length ≤ 1000 ∧ o.length ≤ 1000) ∧ G (.dat (.int (lcp r o : Nat)))
def S__is_led : DSp := fun args G => ∃ r o : List Pt, args = [.dat (rowD r), .dat (rowD o)] ∧ (r.length ≤ 1000 ∧ o.length ≤ 1000) ∧ ∀ b : Bool, (b = true ↔ Led r o) → G (.dat (.bool b))
def S_is_exchange : DSp := fun args G => ∃ r o : List Pt, args = [.dat (rowD r), .dat (rowD o)] ∧ (r.length ≤ 1000 ∧ o.length ≤ 1000) ∧ ∀ b : Bool, (b = true ↔ r ≠ o ∧ (Led r o ∨ Led o r)) → G (.dat (.bool b))
theorem zip_nil {r o : List Pt} {k : Nat} (h : [] = enumF k (zipD (r.map ptD) (o.map ptD))) : r = [] ∨ o = [] := by
  cases r with
  | nil => exact .inl rfl
  | cons p r =>
    cases o with
    | nil => exact .inr rfl
    | cons q o =>
      have e : zipD ((p :: r).map ptD) ((q :: o).map ptD) = .tuple [ptD p, ptD q] :: zipD (r.map ptD) (o.map ptD) := rfl
      rw [e, enumF_cons] at h
      cases h
theorem zip_cons {r o : List Pt} {k : Nat} {d : PyData} {ds : List PyData} (h : d :: ds = enumF k (zipD (r.map ptD) (o.map ptD))) : ∃ p q r' o', r = p :: r' ∧ o = q :: o' ∧ d = .tuple [.int (k : Nat), .tuple [ptD p, ptD q]] ∧ ds = enumF (k + 1) (zipD (r'.map ptD) (o'.map ptD)) := by
  cases r with
  | nil => cases h
  | cons p r =>
    cases o with
    | nil => cases h
    | cons q o =>
      have e : zipD ((p :: r).map ptD) ((q :: o).map ptD) = .tuple [ptD p, ptD q] :: zipD (r.map ptD) (o.map ptD) := rfl
      rw [e, enumF_cons] at h
      obtain ⟨h1, h2⟩ := List.cons.inj h
      exact ⟨p, q, r, o, rfl, rfl, h1, h2⟩
theorem lcp_nil {r o : List Pt} (h : r = [] ∨ o = []) : lcp r o = 0 := by
  rcases h with rfl | rfl
  · rfl
  · cases r <;> rfl
theorem cut_at {r : List Pt} {i n : Nat} : cutD (r.map ptD) (some (i : Nat)) (some ((i : Int) + (n : Int))) = ((r.drop i).take n).map ptD := by
  rw [cutD_map, cutT_ab _ (by omega) (by omega)]
  congr 2
  omega
theorem outs_len {m t : List Pt} (h : t ∈ outs m) : t.length ≤ 3 := by
  have swl : ∀ {p q r : Pt} {t : List Pt}, swn p q r = some t → t.length ≤ 3 := by
    intro p q r t h
    unfold swn at h
    split at h
    · split at h
      · split at h <;> (cases h; exact Nat.le_refl 3)
      · cases h
    · split at h
      · split at h <;> (cases h; exact Nat.le_refl 3)
      · cases h
    · cases h
  rcases m with _ | ⟨p, _ | ⟨q, _ | ⟨r, _ | ⟨s, m⟩⟩⟩⟩
  · exact nomatch h
  · have h' : t ∈ (zr p).toList := h
    cases p <;> unfold zr at h' <;> (try split at h') <;> simp at h' <;> simp [h']
  · have h' : t ∈ (put p q).toList ++ ((chg p q).toList ++ ((gone p q).toList ++ (led p q).toList)) := h
    simp only [List.mem_append, Option.mem_toList] at h'
    rcases h' with h' | h' | h' | h'
    · cases p <;> cases q <;> simp [put] at h' <;> simp [← h']
    · unfold chg at h'
      split at h'
      · cases h'; exact (by show 2 ≤ 3; decide)
      · cases h'
    · cases p <;> cases q <;> simp [gone] at h' <;> simp [h']
    · cases p <;> cases q <;> simp [led] at h' <;> simp [← h']
  · have h' : t ∈ (swn p q r).toList := h
    rw [Option.mem_toList] at h'
    exact swl h'
  · exact nomatch h
end Lw
namespace Lw
open PySem L2 DL
set_option hygiene false
local macro_rules
  | `(tactic| fail "a") => `(tactic| (with_reducible refine i_seqN ?_; intro NN hNN))
local macro_rules
  | `(tactic| fail "b") => `(tactic| (with_reducible refine i_nxN (by assumption) (by first | (dsimp only [List.set, wipeD]; done) | exact rfl) ?_; (try clear hNN); (try clear NN)))
set_option hygiene true
local macro_rules
  | `(tactic| array_get_dec) => `(tactic| repeat (first
    | (with_reducible refine rr ?_)
    | (fail "a")
    | (fail "b")
    | (with_reducible refine i_varD (by with_unfolding_all rfl) ?_)
    | (with_reducible refine i_two (by with_unfolding_all rfl) (by with_unfolding_all rfl) ?_)
    | (with_reducible refine i_frz (by with_unfolding_all rfl) ?_)
    | (with_reducible refine i_sto (by with_unfolding_all rfl) ?_ (Nat.le_of_ble_eq_true rfl))
    | (with_reducible refine i_varO (by with_unfolding_all rfl) ?_)
    | (with_reducible refine i_varK (by with_unfolding_all rfl) ?_)
    | (with_reducible refine i_app (by with_unfolding_all rfl) ?_)
    | (with_reducible refine i_ixT (by with_unfolding_all rfl) ?_)
    | (with_reducible refine i_ixL (by with_unfolding_all rfl) ?_)
    | (with_reducible refine i_frz3 (by with_unfolding_all rfl) (by with_unfolding_all rfl) ?_)
    | (with_reducible refine i_len (Nat.le_of_ble_eq_true rfl) ?_)
    | (with_reducible refine i_frzD (by with_unfolding_all rfl) (by with_unfolding_all rfl) ?_)
    | (with_reducible refine i_ok (by with_unfolding_all exact True.intro) ?_)
    | (with_reducible refine i_nm ?_ (Nat.le_of_ble_eq_true rfl))
    | (with_reducible refine i_tu ?_ (by with_unfolding_all rfl))
    | (with_reducible refine i_li ?_ (by with_unfolding_all rfl))
    | (with_reducible refine i_szc (by with_unfolding_all rfl) ?_)
    | (with_reducible refine i_trB ?_)
    | (with_reducible refine i_ifb ?_)
    | (with_reducible refine i_and2 (Nat.le_of_ble_eq_true rfl) (Nat.le_of_ble_eq_true rfl) ?_)
    | (with_reducible refine i_and3 (Nat.le_of_ble_eq_true rfl) (Nat.le_of_ble_eq_true rfl) (Nat.le_of_ble_eq_true rfl) ?_)
    | (with_reducible refine c_ltlen (Nat.le_of_ble_eq_true rfl) ?_)
    | (with_reducible refine i_aug (by with_unfolding_all rfl) ?_)
    | (with_reducible refine ⟨_, _, _, (by with_unfolding_all rfl), (by with_unfolding_all rfl), ?_⟩)
    | (with_reducible refine ⟨_, _, (by with_unfolding_all rfl), (by with_unfolding_all rfl), ?_⟩)
    | (with_reducible refine ⟨_, (by with_unfolding_all rfl), ?_⟩)
    | (with_reducible refine ⟨_, _, (by with_unfolding_all rfl), ?_⟩)
    | (with_reducible refine i_ifT (by with_unfolding_all rfl) ?_)
    | (with_reducible refine i_ifF (by with_unfolding_all rfl) ?_)
    | (with_reducible refine ⟨rfl, rfl, _, _, (by with_unfolding_all rfl), ?_⟩)
    | (with_reducible refine c_pow (by decide) (by decide) (by decide) ?_)
    | (with_reducible refine c_b62 (by decide) (by decide) ?_)
    | (with_reducible refine c_eqb (by assumption) (by assumption) (by assumption) ?_)
    | (with_reducible refine c_neb (by assumption) (by assumption) (by assumption) ?_)
    | (with_reducible refine c_neSS (by with_reducible rfl) ?_)
    | (with_reducible refine c_eqSS (by with_reducible rfl) ?_)
    | (with_reducible refine c_rep (by assumption) ?_)
    | (with_reducible refine i_strI ?_ ?_)
    | (with_reducible refine i_mul ?_ ?_)
    | (with_reducible refine i_mod ?_ ?_)
    | (with_reducible refine i_div ?_ ?_)
    | (with_reducible refine i_pow ?_ ?_)
    | (with_reducible refine i_addT ?_ ?_)
    | (with_reducible refine i_addL ?_ ?_)
    | (with_reducible refine i_nm ?_ ?_)
    | (with_reducible refine i_sto (by with_unfolding_all rfl) ?_ ?_)))
local macro_rules
  | `(tactic| array_mem_dec) => `(tactic| repeat' (first
    | (with_reducible refine rr ?_)
    | (fail "a")
    | (fail "b")
    | (with_reducible refine i_varD (by with_unfolding_all rfl) ?_)
    | (with_reducible refine i_two (by with_unfolding_all rfl) (by with_unfolding_all rfl) ?_)
    | (with_reducible refine i_frz (by with_unfolding_all rfl) ?_)
    | (with_reducible refine i_sto (by with_unfolding_all rfl) ?_ (Nat.le_of_ble_eq_true rfl))
    | (with_reducible refine i_varO (by with_unfolding_all rfl) ?_)
    | (with_reducible refine i_varK (by with_unfolding_all rfl) ?_)
    | (with_reducible refine i_app (by with_unfolding_all rfl) ?_)
    | (with_reducible refine i_ixT (by with_unfolding_all rfl) ?_)
    | (with_reducible refine i_ixL (by with_unfolding_all rfl) ?_)
    | (with_reducible refine i_frz3 (by with_unfolding_all rfl) (by with_unfolding_all rfl) ?_)
    | (with_reducible refine i_len (Nat.le_of_ble_eq_true rfl) ?_)
    | (with_reducible refine i_frzD (by with_unfolding_all rfl) (by with_unfolding_all rfl) ?_)
    | (with_reducible refine i_ok (by with_unfolding_all exact True.intro) ?_)
    | (with_reducible refine i_nm ?_ (Nat.le_of_ble_eq_true rfl))
    | (with_reducible refine i_tu ?_ (by with_unfolding_all rfl))
    | (with_reducible refine i_li ?_ (by with_unfolding_all rfl))
    | (with_reducible refine i_szc (by with_unfolding_all rfl) ?_)
    | (with_reducible refine i_trB ?_)
    | (with_reducible refine i_ifb ?_)
    | (with_reducible refine i_and2 (Nat.le_of_ble_eq_true rfl) (Nat.le_of_ble_eq_true rfl) ?_)
    | (with_reducible refine i_and3 (Nat.le_of_ble_eq_true rfl) (Nat.le_of_ble_eq_true rfl) (Nat.le_of_ble_eq_true rfl) ?_)
    | (with_reducible refine c_ltlen (Nat.le_of_ble_eq_true rfl) ?_)
    | (with_reducible refine i_aug (by with_unfolding_all rfl) ?_)
    | (with_reducible refine ⟨_, _, _, (by with_unfolding_all rfl), (by with_unfolding_all rfl), ?_⟩)
    | (with_reducible refine ⟨_, _, (by with_unfolding_all rfl), (by with_unfolding_all rfl), ?_⟩)
    | (with_reducible refine ⟨_, (by with_unfolding_all rfl), ?_⟩)
    | (with_reducible refine ⟨_, _, (by with_unfolding_all rfl), ?_⟩)
    | (with_reducible refine i_ifT (by with_unfolding_all rfl) ?_)
    | (with_reducible refine i_ifF (by with_unfolding_all rfl) ?_)
    | (with_reducible refine ⟨rfl, rfl, _, _, (by with_unfolding_all rfl), ?_⟩)
    | (with_reducible refine c_pow (by decide) (by decide) (by decide) ?_)
    | (with_reducible refine c_b62 (by decide) (by decide) ?_)
    | (with_reducible refine c_eqb (by assumption) (by assumption) (by assumption) ?_)
    | (with_reducible refine c_neb (by assumption) (by assumption) (by assumption) ?_)
    | (with_reducible refine c_neSS (by with_reducible rfl) ?_)
    | (with_reducible refine c_eqSS (by with_reducible rfl) ?_)
    | (with_reducible refine c_rep (by assumption) ?_)
    | (with_reducible refine i_eqL0 (by assumption) ?_)
    | (with_reducible refine i_neL0 (by assumption) ?_)
    | (with_reducible refine i_ifNE ?_ ?_ <;> intro h <;> try (first | (exfalso; contradiction) | (exfalso; omega)))
    | (with_reducible refine ⟨len_lt (by omega), ?_⟩)
    | (with_reducible refine i_mulT ?_ (by decide) (by decide) (by omega))
    | (with_reducible exact len_ok (Nat.le_of_ble_eq_true rfl))
    | (with_reducible refine i_mulT ?_ (by decide) (by decide) (Nat.le_trans cut_len (by omega)))
    | (with_reducible refine i_ifE ?_ ?_ <;> intro h <;> try (first | (exfalso; contradiction) | (exfalso; omega)))
    | (with_reducible refine i_eqT0 (by assumption) ?_)
    | (with_reducible refine i_ixT (by assumption) ?_)
    | (with_reducible refine i_ixL (by assumption) ?_)
    | (with_reducible refine i_ifD ?_ ?_ <;> intro h <;> try (exfalso; omega))
    | (with_reducible refine i_ifDN ?_ ?_ <;> intro h <;> try (exfalso; omega))
    | (with_reducible refine i_eq ?_ (by assumption) (by assumption))
    | (with_reducible refine i_ne ?_ (by assumption) (by assumption))
    | (with_reducible refine i_if2 ?_ ?_ <;> intro h)
    | (with_reducible refine i_strI ?_ ?_)
    | (with_reducible refine i_mul ?_ ?_)
    | (with_reducible refine i_mod ?_ ?_)
    | (with_reducible refine i_div ?_ ?_)
    | (with_reducible refine i_pow ?_ ?_)
    | (with_reducible refine i_addT ?_ ?_)
    | (with_reducible refine i_addL ?_ ?_)
    | (with_reducible refine i_nm ?_ ?_)
    | (with_reducible refine i_sto (by with_unfolding_all rfl) ?_ ?_)))
theorem spec__alike_parts : ∀ args G, args.length = 2 → S__alike_parts args G → dDef 3 B__alike_parts args G := by
  rintro args G hl ⟨r, o, rfl, ⟨hr, ho⟩, hG⟩
  have hrl : (r.map ptD).length = r.length := List.length_map _
  have hol : (o.map ptD).length = o.length := List.length_map _
  unfold dDef B__alike_parts rowD
  array_mem_dec
  dsimp only [List.set, List.map, List.replicate, List.cons_append, List.nil_append]
  refine forT_ind (fun rest ρ => ∃ (k : Nat) (r2 o2 : List Pt) (x2 x3 x4 : Option SV), rest = enumF k (zipD (r2.map ptD) (o2.map ptD)) ∧ k + lcp r2 o2 = lcp r o ∧ (k + r2.length = r.length ∧ k + o2.length = o.length) ∧ ρ = [some (.dat (.tuple (r.map ptD))), some (.dat (.tuple (o.map ptD))), x2, x3, x4]) ?_ ?_ _ _ ⟨0, r, o, none, none, none, enumD_F _, Nat.zero_add _, ⟨Nat.zero_add _, Nat.zero_add _⟩, rfl⟩
  · rintro ρ ⟨k, r2, o2, x2, x3, x4, e, ek, ⟨e1, e2⟩, rfl⟩
    have hz := zip_nil e
    rw [lcp_nil hz] at ek
    array_mem_dec
    rw [show (min ((r.map ptD).length : Int) (o.map ptD).length) = (lcp r o : Nat) by
      rw [hrl, hol]
      rcases hz with rfl | rfl
      · simp only [List.length_nil] at e1; omega
      · simp only [List.length_nil] at e2; omega]
    exact hG
  · rintro d ds ρ K hK ⟨k, r2, o2, x2, x3, x4, e, ek, ⟨e1, e2⟩, rfl⟩
    obtain ⟨p, q, r', o', rfl, rfl, rfl, rfl⟩ := zip_cons e
    clear e
    rw [List.length_cons] at e1 e2
    have go : ∀ x2 x3 x4, p = q → K [some (.dat (.tuple (r.map ptD))), some (.dat (.tuple (o.map ptD))), x2, x3, x4] := fun x2 x3 x4 h => hK _ ⟨k + 1, r', o', x2, x3, x4, rfl, by
      have : lcp (p :: r') (q :: o') = lcp r' o' + 1 := if_pos h
      omega, ⟨by omega, by omega⟩, rfl⟩
    clear hK
    array_mem_dec
    refine i_nePP ?_
    by_cases h : p = q
    · rw [decide_eq_true h]
      array_mem_dec
      exact go _ _ _ h
    · rw [decide_eq_false h]
      have : lcp (p :: r') (q :: o') = 0 := if_neg h
      rw [this] at ek
      rw [show lcp r o = k by omega] at hG
      array_mem_dec
      exact hG
theorem spec__is_led_at : ∀ args G, args.length = 4 → S__is_led_at args G → dDef 3 (B__is_led_at S_outcomes) args G := by
  rintro args G hl ⟨r, o, i, n, rfl, hn, hin, ⟨hr, ho⟩, hG⟩
  have hrl : (r.map ptD).length = r.length := List.length_map _
  have hol : (o.map ptD).length = o.length := List.length_map _
  unfold dDef B__is_led_at rowD
  array_mem_dec
  rw [cut_at]
  refine ⟨(r.drop i).take n, rfl, by rw [List.length_take, List.length_drop]; omega, ?_⟩
  have hol3 : (outs ((r.drop i).take n)).length ≤ 10 := by
    have : ∀ m : List Pt, (outs m).length ≤ 10 := fun m => by
      have h1 : ∀ o : Option (List Pt), o.toList.length ≤ 1 := fun o => by cases o <;> simp
      rcases m with _ | ⟨p, _ | ⟨q, _ | ⟨r, _ | ⟨s, m⟩⟩⟩⟩
      · simp [outs]
      · exact Nat.le_trans (h1 (zr p)) (by decide)
      · have a := h1 (put p q); have b := h1 (chg p q); have c := h1 (gone p q); have d := h1 (led p q)
        show ((put p q).toList ++ ((chg p q).toList ++ ((gone p q).toList ++ (led p q).toList))).length ≤ 10
        simp only [List.length_append]
        omega
      · exact Nat.le_trans (h1 (swn p q r)) (by decide)
      · simp [outs]
    exact this _
  have hot : ∀ t ∈ outs ((r.drop i).take n), t.length ≤ 3 := fun t h => outs_len h
  unfold hitP at hG
  generalize outs ((r.drop i).take n) = L at hol3 hot hG ⊢
  array_mem_dec
  rw [hrl, hol]
  refine lc_map (α := List Pt) (e := rowD) (xs := L) (fun t => if ((t.length : Nat) : Int) = n + ((o.length : Int) - r.length) then some (rowD t) else none) rfl (szle (by omega)) (fun ρ' h' => ?_) (fun t ht acc K2 hl2 hK1 hK2 => ?_)
  rotate_left
  · have htl : (t.map ptD).length = t.length := List.length_map _
    have ht3 := hot t ht
    dsimp only [rowD]
    array_mem_dec
    · rename_i h
      rw [htl] at h
      exact ⟨hl2, hK1 _ _ (if_pos h) rfl⟩
    · rename_i h
      rw [htl] at h
      exact hK2 _ (if_neg h) rfl
  · have ef : ∀ L : List (List Pt), L.filterMap (fun t => if ((t.length : Nat) : Int) = n + ((o.length : Int) - r.length) then some (rowD t) else none) = (L.filter fun t => decide (((t.length : Nat) : Int) = n + ((o.length : Int) - r.length))).map rowD := fun L => by
      induction L with
      | nil => rfl
      | cons a L ih =>
        rw [List.filterMap_cons, List.filter_cons, ih]
        by_cases h : ((a.length : Nat) : Int) = n + ((o.length : Int) - r.length)
        · rw [if_pos h, if_pos (decide_eq_true h)]; rfl
        · rw [if_neg h, if_neg (by rw [decide_eq_true_iff]; exact h)]
    rw [h', ef]
    dsimp only [List.set, wipeD, List.map, List.replicate, List.cons_append, List.nil_append]
    array_mem_dec
    rw [cutD_map]
    refine i_inRows (o := cutT o (some (i : Int)) (some ((i : Int) + n + ((o.length : Int) - r.length)))) ?_
    array_mem_dec
    refine hG _ ?_
    rw [decide_eq_true_iff, List.mem_filter, decide_eq_true_iff]
    constructor
    · rintro ⟨h1, h2⟩
      refine ⟨_, h1, h2, ?_⟩
      have e : cutT o (some (i : Int)) (some ((i : Int) + n + ((o.length : Int) - r.length))) = (o.drop i).take (cutT o (some (i : Int)) (some ((i : Int) + n + ((o.length : Int) - r.length)))).length := by
        have e2 := cutT_ab o (a := (i : Int)) (b := (i : Int) + n + ((o.length : Int) - r.length)) (by omega) (by omega)
        generalize hc : (cutT o (some (i : Int)) (some ((i : Int) + n + ((o.length : Int) - r.length)))).length = m at h2 ⊢
        rw [e2]
        congr 1
        omega
      exact e
    · rintro ⟨t, h1, h2, h3⟩
      have e2 := cutT_ab o (a := (i : Int)) (b := (i : Int) + n + ((o.length : Int) - r.length)) (by omega) (by omega)
      have e3 : cutT o (some (i : Int)) (some ((i : Int) + n + ((o.length : Int) - r.length))) = t := by
        rw [e2]
        refine Eq.trans ?_ h3.symm
        rw [show ((i : Int) + n + ((o.length : Int) - r.length)).toNat - (i : Int).toNat = t.length by omega, Int.toNat_natCast]
      rw [e3]
      exact ⟨h1, h2⟩
theorem spec__is_led : ∀ args G, args.length = 2 → S__is_led args G → dDef 6 (B__is_led S__alike_parts S__is_led_at) args G := by
  rintro args G hl ⟨r, o, rfl, ⟨hr, ho⟩, hG⟩
  have hrl : (r.map ptD).length = r.length := List.length_map _
  have er : ∀ r : List Pt, (r.map ptD).reverse = r.reverse.map ptD := fun r => List.map_reverse.symm
  have ht := lcp_le r o
  have hb := lcp_le r.reverse o.reverse
  rw [List.length_reverse, List.length_reverse] at hb
  unfold dDef B__is_led rowD
  array_mem_dec
  refine ⟨r, o, rfl, ⟨hr, ho⟩, ?_⟩
  array_mem_dec
  rw [er, er]
  refine ⟨r.reverse, o.reverse, rfl, ⟨by rw [List.length_reverse]; exact hr, by rw [List.length_reverse]; exact ho⟩, ?_⟩
  have hLed := led_iff (r := r) (o := o)
  generalize lcp r o = A at ht hLed ⊢
  generalize lcp r.reverse o.reverse = B at hb hLed ⊢
  array_mem_dec
  dsimp only [List.set, List.map, List.replicate, List.cons_append, List.nil_append]
  refine forT_map (α := Nat) (fun n => PyData.int (n : Nat)) (fun rest ρ => (∀ n, (n = 1 ∨ n = 2 ∨ n = 3) → n ∉ rest → ∀ i, i + n ≤ r.length → i ≤ A → r.length - n - i ≤ B → ¬ hitP r o i n) ∧ (∀ n ∈ rest, n = 1 ∨ n = 2 ∨ n = 3) ∧ ∃ x4 x5 x6 x7 : Option SV, ρ = [some (.dat (.tuple (r.map ptD))), some (.dat (.tuple (o.map ptD))), some (.dat (.int (A : Nat))), some (.dat (.int (B : Nat))), x4, x5, x6, x7]) ?_ ?_ [1, 2, 3] _ ⟨fun n h1 h2 => by simp at h2; omega, fun n h => by simpa using h, none, none, none, none, rfl⟩
  · rintro ρ ⟨hno, _, x4, x5, x6, x7, rfl⟩
    array_mem_dec
    refine hG false ⟨fun h => Bool.noConfusion h, fun h => ?_⟩
    obtain ⟨n, i, hn, c1, c2, c3, hh⟩ := hLed.mp h
    exact absurd hh (hno n hn (fun z => nomatch z) i c1 c2 c3)
  · rintro n rest ρ K hK ⟨hno, hin, x4, x5, x6, x7, rfl⟩
    have hn := hin n List.mem_cons_self
    have go : ∀ x4 x5 x6 x7, (∀ i, i + n ≤ r.length → i ≤ A → r.length - n - i ≤ B → ¬ hitP r o i n) → K [some (.dat (.tuple (r.map ptD))), some (.dat (.tuple (o.map ptD))), some (.dat (.int (A : Nat))), some (.dat (.int (B : Nat))), x4, x5, x6, x7] := fun x4 x5 x6 x7 h => hK _ ⟨fun m h1 h2 => by
      by_cases e : m = n
      · rw [e]; exact h
      · exact hno m h1 (fun z => (List.mem_cons.mp z).elim e h2), fun m hm => hin m (List.mem_cons_of_mem _ hm), x4, x5, x6, x7, rfl⟩
    clear hK hno hin
    array_mem_dec
    refine ⟨by omega, ?_⟩
    rw [hrl]
    generalize hf : max 0 ((r.length : Int) - n - B) = first
    generalize hla : min (A : Int) ((r.length : Int) - n) = last
    refine forT_rng (fun i ρ => first ≤ i ∧ (∀ j : Nat, first ≤ (j : Int) → (j : Int) < i → ¬ hitP r o j n) ∧ ∃ x7 : Option SV, ρ = [some (.dat (.tuple (r.map ptD))), some (.dat (.tuple (o.map ptD))), some (.dat (.int (A : Nat))), some (.dat (.int (B : Nat))), some (.dat (.int (n : Nat))), some (.dat (.int first)), some (.dat (.int last)), x7]) (first + ((last + 1 - first).toNat : Nat)) ?_ ?_ _ _ _ rfl ⟨Int.le_refl _, fun j h1 h2 => by omega, x7, rfl⟩
    · rintro ρ ⟨_, hj, x7, rfl⟩
      exact go _ _ _ _ fun i c1 c2 c3 => hj i (by omega) (by omega)
    · rintro i ρ K2 hi hK2 ⟨h1, hj, x7, rfl⟩
      have go2 : ∀ x7, ¬ hitP r o i.toNat n → K2 [some (.dat (.tuple (r.map ptD))), some (.dat (.tuple (o.map ptD))), some (.dat (.int (A : Nat))), some (.dat (.int (B : Nat))), some (.dat (.int (n : Nat))), some (.dat (.int first)), some (.dat (.int last)), x7] := fun x7 h => hK2 _ ⟨by omega, fun j c1 c2 => by
        by_cases e : (j : Int) = i
        · rw [show j = i.toNat by omega]; exact h
        · exact hj j c1 (by omega), x7, rfl⟩
      clear hK2 go
      obtain ⟨i, rfl⟩ := Int.eq_ofNat_of_zero_le (show 0 ≤ i by omega)
      rw [Int.toNat_natCast] at go2
      array_mem_dec
      refine ⟨r, o, i, n, rfl, hn, by omega, ⟨hr, ho⟩, fun b hb2 => ?_⟩
      cases b
      · array_mem_dec
        exact go2 _ fun h => absurd (hb2.mpr h) (by decide)
      · array_mem_dec
        exact hG true ⟨fun _ => hLed.mpr ⟨n, i, hn, by omega, by omega, by omega, hb2.mp rfl⟩, fun _ => rfl⟩
theorem spec_is_exchange : ∀ args G, args.length = 2 → S_is_exchange args G → dDef 0 (B_is_exchange S__is_led) args G := by
  rintro args G hl ⟨r, o, rfl, ⟨hr, ho⟩, hG⟩
  unfold dDef B_is_exchange
  array_mem_dec
  refine i_eqRR ?_
  by_cases h : r = o
  · rw [decide_eq_true h]
    array_mem_dec
    exact hG false ⟨fun h => Bool.noConfusion h, fun z => absurd h z.1⟩
  · rw [decide_eq_false h]
    array_mem_dec
    refine ⟨r, o, rfl, ⟨hr, ho⟩, fun b1 h1 => ?_⟩
    cases b1
    · array_mem_dec
      refine ⟨o, r, rfl, ⟨ho, hr⟩, fun b2 h2 => ?_⟩
      array_mem_dec
      exact hG b2 ⟨fun z => ⟨h, .inr (h2.mp z)⟩, fun z => z.2.elim (fun q => absurd (h1.mpr q) (by decide)) h2.mpr⟩
    · array_mem_dec
      exact hG true ⟨fun _ => ⟨h, .inl (h1.mp rfl)⟩, fun _ => rfl⟩
end Lw
namespace Lw
open PySem L2 DL
def S__law_leads : DSp := fun args G => ∃ r : List Pt, args = [.dat (rowD r)] ∧ r.length ≤ 1000 ∧ G (.own ((leads r).map rowD))
def S__law_is_led : DSp := fun args G => ∃ r o : List Pt, args = [.dat (rowD r), .dat (rowD o)] ∧ (r.length ≤ 1000 ∧ o.length ≤ 1000) ∧ ∀ b : Bool, (b = true ↔ r ≠ o ∧ (Led r o ∨ Led o r)) → G (.dat (.bool b))
end Lw
namespace Lw
open PySem L2 DL
set_option hygiene false
local macro_rules
  | `(tactic| fail "a") => `(tactic| (with_reducible refine i_seqN ?_; intro NN hNN))
local macro_rules
  | `(tactic| fail "b") => `(tactic| (with_reducible refine i_nxN (by assumption) (by first | (dsimp only [List.set, wipeD]; done) | exact rfl) ?_; (try clear hNN); (try clear NN)))
set_option hygiene true
local macro_rules
  | `(tactic| array_get_dec) => `(tactic| repeat (first
    | (with_reducible refine rr ?_)
    | (fail "a")
    | (fail "b")
    | (with_reducible refine i_varD (by with_unfolding_all rfl) ?_)
    | (with_reducible refine i_two (by with_unfolding_all rfl) (by with_unfolding_all rfl) ?_)
    | (with_reducible refine i_frz (by with_unfolding_all rfl) ?_)
    | (with_reducible refine i_sto (by with_unfolding_all rfl) ?_ (Nat.le_of_ble_eq_true rfl))
    | (with_reducible refine i_varO (by with_unfolding_all rfl) ?_)
    | (with_reducible refine i_varK (by with_unfolding_all rfl) ?_)
    | (with_reducible refine i_app (by with_unfolding_all rfl) ?_)
    | (with_reducible refine i_ixT (by with_unfolding_all rfl) ?_)
    | (with_reducible refine i_ixL (by with_unfolding_all rfl) ?_)
    | (with_reducible refine i_frz3 (by with_unfolding_all rfl) (by with_unfolding_all rfl) ?_)
    | (with_reducible refine i_len (Nat.le_of_ble_eq_true rfl) ?_)
    | (with_reducible refine i_frzD (by with_unfolding_all rfl) (by with_unfolding_all rfl) ?_)
    | (with_reducible refine i_ok (by with_unfolding_all exact True.intro) ?_)
    | (with_reducible refine i_nm ?_ (Nat.le_of_ble_eq_true rfl))
    | (with_reducible refine i_tu ?_ (by with_unfolding_all rfl))
    | (with_reducible refine i_li ?_ (by with_unfolding_all rfl))
    | (with_reducible refine i_szc (by with_unfolding_all rfl) ?_)
    | (with_reducible refine i_trB ?_)
    | (with_reducible refine i_ifb ?_)
    | (with_reducible refine i_and2 (Nat.le_of_ble_eq_true rfl) (Nat.le_of_ble_eq_true rfl) ?_)
    | (with_reducible refine i_and3 (Nat.le_of_ble_eq_true rfl) (Nat.le_of_ble_eq_true rfl) (Nat.le_of_ble_eq_true rfl) ?_)
    | (with_reducible refine c_ltlen (Nat.le_of_ble_eq_true rfl) ?_)
    | (with_reducible refine i_aug (by with_unfolding_all rfl) ?_)
    | (with_reducible refine ⟨_, _, _, (by with_unfolding_all rfl), (by with_unfolding_all rfl), ?_⟩)
    | (with_reducible refine ⟨_, _, (by with_unfolding_all rfl), (by with_unfolding_all rfl), ?_⟩)
    | (with_reducible refine ⟨_, (by with_unfolding_all rfl), ?_⟩)
    | (with_reducible refine ⟨_, _, (by with_unfolding_all rfl), ?_⟩)
    | (with_reducible refine i_ifT (by with_unfolding_all rfl) ?_)
    | (with_reducible refine i_ifF (by with_unfolding_all rfl) ?_)
    | (with_reducible refine ⟨rfl, rfl, _, _, (by with_unfolding_all rfl), ?_⟩)
    | (with_reducible refine c_pow (by decide) (by decide) (by decide) ?_)
    | (with_reducible refine c_b62 (by decide) (by decide) ?_)
    | (with_reducible refine c_eqb (by assumption) (by assumption) (by assumption) ?_)
    | (with_reducible refine c_neb (by assumption) (by assumption) (by assumption) ?_)
    | (with_reducible refine c_neSS (by with_reducible rfl) ?_)
    | (with_reducible refine c_eqSS (by with_reducible rfl) ?_)
    | (with_reducible refine c_rep (by assumption) ?_)
    | (with_reducible refine i_strI ?_ ?_)
    | (with_reducible refine i_mul ?_ ?_)
    | (with_reducible refine i_mod ?_ ?_)
    | (with_reducible refine i_div ?_ ?_)
    | (with_reducible refine i_pow ?_ ?_)
    | (with_reducible refine i_addT ?_ ?_)
    | (with_reducible refine i_addL ?_ ?_)
    | (with_reducible refine i_nm ?_ ?_)
    | (with_reducible refine i_sto (by with_unfolding_all rfl) ?_ ?_)
    | (with_reducible refine i_eqTurn ?_)
    | (with_reducible refine i_eqPart (by decide +kernel) ?_)
    | (with_reducible refine i_neTurn ?_)
    | (with_reducible refine i_nePart (by decide +kernel) ?_)
    | (with_reducible refine i_eqSt (by decide +kernel) ?_)
    | (with_reducible refine i_eqSf (by decide +kernel) ?_)
    | (with_reducible refine i_neSt (by decide +kernel) ?_)
    | (with_reducible refine i_neSf (by decide +kernel) ?_)
    | (with_reducible refine i_inOO (by decide +kernel) (by with_unfolding_all rfl) ?_)
    | (with_reducible refine i_ninOO (by decide +kernel) (by with_unfolding_all rfl) ?_)))
local macro_rules
  | `(tactic| array_mem_dec) => `(tactic| repeat' (first
    | (with_reducible refine rr ?_)
    | (fail "a")
    | (fail "b")
    | (with_reducible refine i_varD (by with_unfolding_all rfl) ?_)
    | (with_reducible refine i_two (by with_unfolding_all rfl) (by with_unfolding_all rfl) ?_)
    | (with_reducible refine i_frz (by with_unfolding_all rfl) ?_)
    | (with_reducible refine i_sto (by with_unfolding_all rfl) ?_ (Nat.le_of_ble_eq_true rfl))
    | (with_reducible refine i_varO (by with_unfolding_all rfl) ?_)
    | (with_reducible refine i_varK (by with_unfolding_all rfl) ?_)
    | (with_reducible refine i_app (by with_unfolding_all rfl) ?_)
    | (with_reducible refine i_ixT (by with_unfolding_all rfl) ?_)
    | (with_reducible refine i_ixL (by with_unfolding_all rfl) ?_)
    | (with_reducible refine i_frz3 (by with_unfolding_all rfl) (by with_unfolding_all rfl) ?_)
    | (with_reducible refine i_len (Nat.le_of_ble_eq_true rfl) ?_)
    | (with_reducible refine i_frzD (by with_unfolding_all rfl) (by with_unfolding_all rfl) ?_)
    | (with_reducible refine i_ok (by with_unfolding_all exact True.intro) ?_)
    | (with_reducible refine i_nm ?_ (Nat.le_of_ble_eq_true rfl))
    | (with_reducible refine i_tu ?_ (by with_unfolding_all rfl))
    | (with_reducible refine i_li ?_ (by with_unfolding_all rfl))
    | (with_reducible refine i_szc (by with_unfolding_all rfl) ?_)
    | (with_reducible refine i_trB ?_)
    | (with_reducible refine i_ifb ?_)
    | (with_reducible refine i_and2 (Nat.le_of_ble_eq_true rfl) (Nat.le_of_ble_eq_true rfl) ?_)
    | (with_reducible refine i_and3 (Nat.le_of_ble_eq_true rfl) (Nat.le_of_ble_eq_true rfl) (Nat.le_of_ble_eq_true rfl) ?_)
    | (with_reducible refine c_ltlen (Nat.le_of_ble_eq_true rfl) ?_)
    | (with_reducible refine i_aug (by with_unfolding_all rfl) ?_)
    | (with_reducible refine ⟨_, _, _, (by with_unfolding_all rfl), (by with_unfolding_all rfl), ?_⟩)
    | (with_reducible refine ⟨_, _, (by with_unfolding_all rfl), (by with_unfolding_all rfl), ?_⟩)
    | (with_reducible refine ⟨_, (by with_unfolding_all rfl), ?_⟩)
    | (with_reducible refine ⟨_, _, (by with_unfolding_all rfl), ?_⟩)
    | (with_reducible refine i_ifT (by with_unfolding_all rfl) ?_)
    | (with_reducible refine i_ifF (by with_unfolding_all rfl) ?_)
    | (with_reducible refine ⟨rfl, rfl, _, _, (by with_unfolding_all rfl), ?_⟩)
    | (with_reducible refine c_pow (by decide) (by decide) (by decide) ?_)
    | (with_reducible refine c_b62 (by decide) (by decide) ?_)
    | (with_reducible refine c_eqb (by assumption) (by assumption) (by assumption) ?_)
    | (with_reducible refine c_neb (by assumption) (by assumption) (by assumption) ?_)
    | (with_reducible refine c_neSS (by with_reducible rfl) ?_)
    | (with_reducible refine c_eqSS (by with_reducible rfl) ?_)
    | (with_reducible refine c_rep (by assumption) ?_)
    | (with_reducible refine i_eqTurn ?_)
    | (with_reducible refine i_eqPart (by decide +kernel) ?_)
    | (with_reducible refine i_neTurn ?_)
    | (with_reducible refine i_nePart (by decide +kernel) ?_)
    | (with_reducible refine i_eqSt (by decide +kernel) ?_)
    | (with_reducible refine i_eqSf (by decide +kernel) ?_)
    | (with_reducible refine i_neSt (by decide +kernel) ?_)
    | (with_reducible refine i_neSf (by decide +kernel) ?_)
    | (with_reducible refine i_inOO (by decide +kernel) (by with_unfolding_all rfl) ?_)
    | (with_reducible refine i_ninOO (by decide +kernel) (by with_unfolding_all rfl) ?_)
    | (with_reducible refine i_eqL0 (by assumption) ?_)
    | (with_reducible refine i_neL0 (by assumption) ?_)
    | (with_reducible refine i_ifNE ?_ ?_ <;> intro h <;> try (first | (exfalso; contradiction) | (exfalso; omega)))
    | (with_reducible refine ⟨len_lt (by omega), ?_⟩)
    | (with_reducible refine i_mulT ?_ (by decide) (by decide) (by omega))
    | (with_reducible exact len_ok (Nat.le_of_ble_eq_true rfl))
    | (with_reducible refine i_mulT ?_ (by decide) (by decide) (Nat.le_trans cut_len (by omega)))
    | (with_reducible refine i_ifE ?_ ?_ <;> intro h <;> try (first | (exfalso; contradiction) | (exfalso; omega)))
    | (with_reducible refine i_eqT0 (by assumption) ?_)
    | (with_reducible refine i_ixT (by assumption) ?_)
    | (with_reducible refine i_ixL (by assumption) ?_)
    | (with_reducible refine i_ifD ?_ ?_ <;> intro h <;> try (exfalso; omega))
    | (with_reducible refine i_ifDN ?_ ?_ <;> intro h <;> try (exfalso; omega))
    | (with_reducible refine i_eq ?_ (by assumption) (by assumption))
    | (with_reducible refine i_ne ?_ (by assumption) (by assumption))
    | (with_reducible refine i_if2 ?_ ?_ <;> intro h)
    | (with_reducible refine i_strI ?_ ?_)
    | (with_reducible refine i_mul ?_ ?_)
    | (with_reducible refine i_mod ?_ ?_)
    | (with_reducible refine i_div ?_ ?_)
    | (with_reducible refine i_pow ?_ ?_)
    | (with_reducible refine i_addT ?_ ?_)
    | (with_reducible refine i_addL ?_ ?_)
    | (with_reducible refine i_nm ?_ ?_)
    | (with_reducible refine i_sto (by with_unfolding_all rfl) ?_ ?_)))
--+ with_reducible refine i_eqTurn ?_
--+ with_reducible refine i_eqPart (by decide +kernel) ?_
--+ with_reducible refine i_neTurn ?_
--+ with_reducible refine i_nePart (by decide +kernel) ?_
--+ with_reducible refine i_eqSt (by decide +kernel) ?_
--+ with_reducible refine i_eqSf (by decide +kernel) ?_
--+ with_reducible refine i_neSt (by decide +kernel) ?_
--+ with_reducible refine i_neSf (by decide +kernel) ?_
--+ with_reducible refine i_inOO (by decide +kernel) (by with_unfolding_all rfl) ?_
--+ with_reducible refine i_ninOO (by decide +kernel) (by with_unfolding_all rfl) ?_
theorem spec__law_pairs : ∀ args G, args.length = 2 → S__law_pairs args G → dDef 1 (B__law_pairs S__law_contrary) args G := by
  rintro args G hl ⟨p, q, rfl, hG⟩
  unfold dDef B__law_pairs
  cases p <;> cases q
  all_goals dsimp only [ptD] at hG ⊢
  all_goals array_mem_dec
  all_goals first
    | exact hG
    | (refine ⟨by decide, ?_⟩
       array_mem_dec
       first
         | exact hG
         | (refine ⟨by decide, ?_⟩
            array_mem_dec
            exact hG))
    | (first
         | refine .inl ⟨rfl, ?_⟩
         | refine .inr ⟨rfl, ?_⟩
       array_mem_dec
       first
         | exact hG
         | (refine ⟨by decide, ?_⟩
            array_mem_dec
            exact hG))
    | trace_state
theorem spec__law_swings : ∀ args G, args.length = 3 → S__law_swings args G → dDef 0 (B__law_swings S__law_contrary) args G := by
  rintro args G hl ⟨p, q, r, rfl, hG⟩
  unfold dDef B__law_swings
  cases p <;> cases q <;> cases r
  all_goals dsimp only [ptD] at hG ⊢
  all_goals array_mem_dec
  all_goals first
    | exact hG
    | (first
         | refine .inl ⟨rfl, ?_⟩
         | refine .inr ⟨rfl, ?_⟩
       array_mem_dec
       all_goals first
         | exact hG
         | ((first | rw [swn1] at hG | rw [swn2] at hG)
            rename_i h
            rw [if_neg (by omega)] at hG
            exact hG)
         | ((first | rw [swn1] at hG | rw [swn2] at hG)
            rename_i h1 h2
            rw [if_neg (by omega)] at hG
            exact hG)
         | ((first | rw [swn1] at hG | rw [swn2] at hG)
            rename_i h1 h2 h3
            rw [if_pos (by omega), if_pos (by omega)] at hG
            exact hG)
         | ((first | rw [swn1] at hG | rw [swn2] at hG)
            rename_i h1 h2 h3
            rw [if_pos (by omega), if_neg (by omega)] at hG
            exact hG)
         | trace_state)
    | trace_state
theorem spec__law_is_led : ∀ args G, args.length = 2 → S__law_is_led args G → dDef 0 (B__law_is_led S__law_leads) args G := by
  rintro args G hl ⟨r, o, rfl, ⟨hr, ho⟩, hG⟩
  unfold dDef B__law_is_led
  array_mem_dec
  refine i_neRR ?_
  by_cases h : r = o
  · rw [decide_eq_true h]
    array_mem_dec
    exact hG false ⟨fun h => Bool.noConfusion h, fun z => absurd h z.1⟩
  · rw [decide_eq_false h]
    array_mem_dec
    refine ⟨r, rfl, hr, ?_⟩
    array_mem_dec
    refine i_inRows ?_
    by_cases h1 : o ∈ leads r
    · rw [decide_eq_true h1]
      array_mem_dec
      exact hG true ⟨fun _ => ⟨h, .inl (mem_leads.mp h1)⟩, fun _ => rfl⟩
    · rw [decide_eq_false h1]
      array_mem_dec
      refine ⟨o, rfl, ho, ?_⟩
      array_mem_dec
      refine i_inRows ?_
      array_mem_dec
      refine hG _ ?_
      rw [decide_eq_true_iff, mem_leads]
      exact ⟨fun z => ⟨h, .inr z⟩, fun z => z.2.elim (fun q => absurd (mem_leads.mpr q) h1) id⟩
end Lw
namespace Lw
open PySem L2 DL
theorem cut_hd {a s : List Pt} {k : Nat} (h : a.length = k) : cutD ((a ++ s).map ptD) none (some (k : Nat)) = a.map ptD := by
  rw [cutD_map, cutT_na _ (by omega), Int.toNat_natCast, List.take_left' h]
theorem cut_tl {a s : List Pt} {p : Pt} {k : Nat} (h : a.length = k) : cutD ((a ++ p :: s).map ptD) (some ((k : Nat) + 1 : Int)) none = s.map ptD := by
  rw [cutD_map, cutT_an _ (by omega), show ((k : Int) + 1).toNat = k + 1 by omega]
  congr 1
  rw [show a ++ p :: s = (a ++ [p]) ++ s by simp]
  exact List.drop_left' (by rw [List.length_append, List.length_singleton, h])
theorem enum_nil {r : List Pt} {k : Nat} (h : [] = enumF k (r.map ptD)) : r = [] := by
  cases r with
  | nil => rfl
  | cons p r => rw [List.map_cons, enumF_cons] at h; cases h
theorem enum_cons {r : List Pt} {k : Nat} {d : PyData} {ds : List PyData} (h : d :: ds = enumF k (r.map ptD)) : ∃ p s, r = p :: s ∧ d = .tuple [.int (k : Nat), ptD p] ∧ ds = enumF (k + 1) (s.map ptD) := by
  cases r with
  | nil => cases h
  | cons p r =>
    rw [List.map_cons, enumF_cons] at h
    obtain ⟨h1, h2⟩ := List.cons.inj h
    exact ⟨p, r, rfl, h1, h2⟩
theorem one_len {α : Type} (o : Option α) : o.toList.length ≤ 1 := by cases o <;> simp
theorem pairs_len (p q : Pt) : (pairsL p q).length ≤ 4 := by
  unfold pairsL
  have a := one_len (put p q); have b := one_len (chg p q); have c := one_len (gone p q); have d := one_len (led p q)
  simp only [List.length_append]
  omega
theorem at2_len (a : List Pt) (p : Pt) : ∀ s, (at2 a p s).length ≤ 4
  | [] => Nat.zero_le 4
  | q :: s => by show ((pairsL p q).map _).length ≤ 4; rw [List.length_map]; exact pairs_len p q
theorem at3_len (a : List Pt) (p : Pt) : ∀ s, (at3 a p s).length ≤ 1
  | [] => Nat.zero_le 1
  | [_] => Nat.zero_le 1
  | q :: r :: s => by show ((swn p q r).toList.map _).length ≤ 1; rw [List.length_map]; exact one_len _
theorem rowD_app (a b : List Pt) : PyData.tuple (a.map ptD ++ b.map ptD) = rowD (a ++ b) := by unfold rowD; rw [List.map_append]
theorem eqv_emp (s : List Pt) : PyData.eqv (.tuple (s.map ptD)) (.tuple []) = s.isEmpty := by cases s <;> simp [PyData.eqv, PyData.eqvAll]
theorem i_neEmp {s : List Pt} {G : SV → Prop} (k : G (.dat (.bool (!s.isEmpty)))) : gNe (.tuple (s.map ptD)) (.tuple []) G := c_neD (k1 := 2) (k2 := 1) (lay_tup (all_map fun p _ => lay_p p)) (lay_tup (k := 0) all_nil) (by decide) (by decide) (by rw [eqv_emp]; exact k)
theorem i_eqEmp {s : List Pt} {G : SV → Prop} (k : G (.dat (.bool s.isEmpty))) : gEq (.tuple (s.map ptD)) (.tuple []) G := c_eqD (k1 := 2) (k2 := 1) (lay_tup (all_map fun p _ => lay_p p)) (lay_tup (k := 0) all_nil) (by decide) (by decide) (by rw [eqv_emp]; exact k)
end Lw
namespace Lw
open PySem L2 DL
set_option hygiene false
local macro_rules
  | `(tactic| fail "a") => `(tactic| (with_reducible refine i_seqN ?_; intro NN hNN))
local macro_rules
  | `(tactic| fail "b") => `(tactic| (with_reducible refine i_nxN (by assumption) (by first | (dsimp only [List.set, wipeD]; done) | exact rfl) ?_; (try clear hNN); (try clear NN)))
set_option hygiene true
local macro_rules
  | `(tactic| array_get_dec) => `(tactic| repeat (first
    | (with_reducible refine i_neEmp ?_)
    | (with_reducible refine rr ?_)
    | (fail "a")
    | (fail "b")
    | (with_reducible refine i_varD (by with_unfolding_all rfl) ?_)
    | (with_reducible refine i_two (by with_unfolding_all rfl) (by with_unfolding_all rfl) ?_)
    | (with_reducible refine i_frz (by with_unfolding_all rfl) ?_)
    | (with_reducible refine i_sto (by with_unfolding_all rfl) ?_ (Nat.le_of_ble_eq_true rfl))
    | (with_reducible refine i_varO (by with_unfolding_all rfl) ?_)
    | (with_reducible refine i_varK (by with_unfolding_all rfl) ?_)
    | (with_reducible refine i_app (by with_unfolding_all rfl) ?_)
    | (with_reducible refine i_ixT (by with_unfolding_all rfl) ?_)
    | (with_reducible refine i_ixL (by with_unfolding_all rfl) ?_)
    | (with_reducible refine i_frz3 (by with_unfolding_all rfl) (by with_unfolding_all rfl) ?_)
    | (with_reducible refine i_len (Nat.le_of_ble_eq_true rfl) ?_)
    | (with_reducible refine i_frzD (by with_unfolding_all rfl) (by with_unfolding_all rfl) ?_)
    | (with_reducible refine i_ok (by with_unfolding_all exact True.intro) ?_)
    | (with_reducible refine i_nm ?_ (Nat.le_of_ble_eq_true rfl))
    | (with_reducible refine i_tu ?_ (by with_unfolding_all rfl))
    | (with_reducible refine i_li ?_ (by with_unfolding_all rfl))
    | (with_reducible refine i_szc (by with_unfolding_all rfl) ?_)
    | (with_reducible refine i_trB ?_)
    | (with_reducible refine i_ifb ?_)
    | (with_reducible refine i_and2 (Nat.le_of_ble_eq_true rfl) (Nat.le_of_ble_eq_true rfl) ?_)
    | (with_reducible refine i_and3 (Nat.le_of_ble_eq_true rfl) (Nat.le_of_ble_eq_true rfl) (Nat.le_of_ble_eq_true rfl) ?_)
    | (with_reducible refine c_ltlen (Nat.le_of_ble_eq_true rfl) ?_)
    | (with_reducible refine i_aug (by with_unfolding_all rfl) ?_)
    | (with_reducible refine ⟨_, _, _, (by with_unfolding_all rfl), (by with_unfolding_all rfl), ?_⟩)
    | (with_reducible refine ⟨_, _, (by with_unfolding_all rfl), (by with_unfolding_all rfl), ?_⟩)
    | (with_reducible refine ⟨_, (by with_unfolding_all rfl), ?_⟩)
    | (with_reducible refine ⟨_, _, (by with_unfolding_all rfl), ?_⟩)
    | (with_reducible refine i_ifT (by with_unfolding_all rfl) ?_)
    | (with_reducible refine i_ifF (by with_unfolding_all rfl) ?_)
    | (with_reducible refine ⟨rfl, rfl, _, _, (by with_unfolding_all rfl), ?_⟩)
    | (with_reducible refine c_pow (by decide) (by decide) (by decide) ?_)
    | (with_reducible refine c_b62 (by decide) (by decide) ?_)
    | (with_reducible refine c_eqb (by assumption) (by assumption) (by assumption) ?_)
    | (with_reducible refine c_neb (by assumption) (by assumption) (by assumption) ?_)
    | (with_reducible refine c_neSS (by with_reducible rfl) ?_)
    | (with_reducible refine c_eqSS (by with_reducible rfl) ?_)
    | (with_reducible refine c_rep (by assumption) ?_)
    | (with_reducible refine i_strI ?_ ?_)
    | (with_reducible refine i_mul ?_ ?_)
    | (with_reducible refine i_mod ?_ ?_)
    | (with_reducible refine i_div ?_ ?_)
    | (with_reducible refine i_pow ?_ ?_)
    | (with_reducible refine i_addT ?_ ?_)
    | (with_reducible refine i_addL ?_ ?_)
    | (with_reducible refine i_nm ?_ ?_)
    | (with_reducible refine i_sto (by with_unfolding_all rfl) ?_ ?_)
    | (with_reducible refine i_eqTurn ?_)
    | (with_reducible refine i_eqPart (by decide +kernel) ?_)
    | (with_reducible refine i_eqSt (by decide +kernel) ?_)
    | (with_reducible refine i_eqSf (by decide +kernel) ?_)
    | (with_reducible refine i_neSt (by decide +kernel) ?_)
    | (with_reducible refine i_neSf (by decide +kernel) ?_)))
local macro_rules
  | `(tactic| array_mem_dec) => `(tactic| repeat' (first
    | (with_reducible refine i_neEmp ?_)
    | (with_reducible refine rr ?_)
    | (fail "a")
    | (fail "b")
    | (with_reducible refine i_varD (by with_unfolding_all rfl) ?_)
    | (with_reducible refine i_two (by with_unfolding_all rfl) (by with_unfolding_all rfl) ?_)
    | (with_reducible refine i_frz (by with_unfolding_all rfl) ?_)
    | (with_reducible refine i_sto (by with_unfolding_all rfl) ?_ (Nat.le_of_ble_eq_true rfl))
    | (with_reducible refine i_varO (by with_unfolding_all rfl) ?_)
    | (with_reducible refine i_varK (by with_unfolding_all rfl) ?_)
    | (with_reducible refine i_app (by with_unfolding_all rfl) ?_)
    | (with_reducible refine i_ixT (by with_unfolding_all rfl) ?_)
    | (with_reducible refine i_ixL (by with_unfolding_all rfl) ?_)
    | (with_reducible refine i_frz3 (by with_unfolding_all rfl) (by with_unfolding_all rfl) ?_)
    | (with_reducible refine i_len (Nat.le_of_ble_eq_true rfl) ?_)
    | (with_reducible refine i_frzD (by with_unfolding_all rfl) (by with_unfolding_all rfl) ?_)
    | (with_reducible refine i_ok (by with_unfolding_all exact True.intro) ?_)
    | (with_reducible refine i_nm ?_ (Nat.le_of_ble_eq_true rfl))
    | (with_reducible refine i_tu ?_ (by with_unfolding_all rfl))
    | (with_reducible refine i_li ?_ (by with_unfolding_all rfl))
    | (with_reducible refine i_szc (by with_unfolding_all rfl) ?_)
    | (with_reducible refine i_trB ?_)
    | (with_reducible refine i_ifb ?_)
    | (with_reducible refine i_and2 (Nat.le_of_ble_eq_true rfl) (Nat.le_of_ble_eq_true rfl) ?_)
    | (with_reducible refine i_and3 (Nat.le_of_ble_eq_true rfl) (Nat.le_of_ble_eq_true rfl) (Nat.le_of_ble_eq_true rfl) ?_)
    | (with_reducible refine c_ltlen (Nat.le_of_ble_eq_true rfl) ?_)
    | (with_reducible refine i_aug (by with_unfolding_all rfl) ?_)
    | (with_reducible refine ⟨_, _, _, (by with_unfolding_all rfl), (by with_unfolding_all rfl), ?_⟩)
    | (with_reducible refine ⟨_, _, (by with_unfolding_all rfl), (by with_unfolding_all rfl), ?_⟩)
    | (with_reducible refine ⟨_, (by with_unfolding_all rfl), ?_⟩)
    | (with_reducible refine ⟨_, _, (by with_unfolding_all rfl), ?_⟩)
    | (with_reducible refine i_ifT (by with_unfolding_all rfl) ?_)
    | (with_reducible refine i_ifF (by with_unfolding_all rfl) ?_)
    | (with_reducible refine ⟨rfl, rfl, _, _, (by with_unfolding_all rfl), ?_⟩)
    | (with_reducible refine c_pow (by decide) (by decide) (by decide) ?_)
    | (with_reducible refine c_b62 (by decide) (by decide) ?_)
    | (with_reducible refine c_eqb (by assumption) (by assumption) (by assumption) ?_)
    | (with_reducible refine c_neb (by assumption) (by assumption) (by assumption) ?_)
    | (with_reducible refine c_neSS (by with_reducible rfl) ?_)
    | (with_reducible refine c_eqSS (by with_reducible rfl) ?_)
    | (with_reducible refine c_rep (by assumption) ?_)
    | (with_reducible refine i_eqTurn ?_)
    | (with_reducible refine i_eqPart (by decide +kernel) ?_)
    | (with_reducible refine i_eqSt (by decide +kernel) ?_)
    | (with_reducible refine i_eqSf (by decide +kernel) ?_)
    | (with_reducible refine i_neSt (by decide +kernel) ?_)
    | (with_reducible refine i_neSf (by decide +kernel) ?_)
    | (with_reducible refine i_eqL0 (by assumption) ?_)
    | (with_reducible refine i_neL0 (by assumption) ?_)
    | (with_reducible refine i_ifNE ?_ ?_ <;> intro h <;> try (first | (exfalso; contradiction) | (exfalso; omega)))
    | (with_reducible refine ⟨len_lt (by omega), ?_⟩)
    | (with_reducible refine i_mulT ?_ (by decide) (by decide) (by omega))
    | (with_reducible exact len_ok (Nat.le_of_ble_eq_true rfl))
    | (with_reducible refine i_mulT ?_ (by decide) (by decide) (Nat.le_trans cut_len (by omega)))
    | (with_reducible refine i_ifE ?_ ?_ <;> intro h <;> try (first | (exfalso; contradiction) | (exfalso; omega)))
    | (with_reducible refine i_eqT0 (by assumption) ?_)
    | (with_reducible refine i_ixT (by assumption) ?_)
    | (with_reducible refine i_ixL (by assumption) ?_)
    | (with_reducible refine i_ifD ?_ ?_ <;> intro h <;> try (exfalso; omega))
    | (with_reducible refine i_ifDN ?_ ?_ <;> intro h <;> try (exfalso; omega))
    | (with_reducible refine i_eq ?_ (by assumption) (by assumption))
    | (with_reducible refine i_ne ?_ (by assumption) (by assumption))
    | (with_reducible refine i_if2 ?_ ?_ <;> intro h)
    | (with_reducible refine i_strI ?_ ?_)
    | (with_reducible refine i_mul ?_ ?_)
    | (with_reducible refine i_mod ?_ ?_)
    | (with_reducible refine i_div ?_ ?_)
    | (with_reducible refine i_pow ?_ ?_)
    | (with_reducible refine i_addT ?_ ?_)
    | (with_reducible refine i_addL ?_ ?_)
    | (with_reducible refine i_nm ?_ ?_)
    | (with_reducible refine i_sto (by with_unfolding_all rfl) ?_ ?_)))
--++ with_reducible refine i_neEmp ?_
--+ with_reducible refine i_eqTurn ?_
--+ with_reducible refine i_eqPart (by decide +kernel) ?_
--+ with_reducible refine i_eqSt (by decide +kernel) ?_
--+ with_reducible refine i_eqSf (by decide +kernel) ?_
--+ with_reducible refine i_neSt (by decide +kernel) ?_
--+ with_reducible refine i_neSf (by decide +kernel) ?_
theorem spec__law_leads : ∀ args G, args.length = 1 → S__law_leads args G → dDef 7 (B__law_leads S__law_pairs S__law_swings) args G := by
  rintro args G hl ⟨r, rfl, hr, hG⟩
  unfold dDef B__law_leads rowD
  array_mem_dec
  dsimp only [List.set, List.map, List.replicate, List.cons_append, List.nil_append]
  refine forT_ind (fun rest ρ => ∃ (k : Nat) (a s : List Pt) (F : List (List Pt)) (x2 x3 x4 x5 x6 x7 : Option SV), rest = enumF k (s.map ptD) ∧ a ++ s = r ∧ a.length = k ∧ F ++ leadsFrom a s = leads r ∧ F.length ≤ 6 * k ∧ ρ = [some (.dat (.tuple (r.map ptD))), some (.own (F.map rowD)), x2, x3, x4, x5, x6, x7]) ?_ ?_ _ _ ⟨0, [], r, [], none, none, none, none, none, none, enumD_F _, rfl, rfl, rfl, Nat.le_refl 0, rfl⟩
  · rintro ρ ⟨k, a, s, F, x2, x3, x4, x5, x6, x7, e, er, ek, ef, hF, rfl⟩
    obtain rfl := enum_nil e
    have ef' : F = leads r := by
      have : F ++ [] = leads r := ef
      rwa [List.append_nil] at this
    rw [ef']
    array_mem_dec
    exact hG
  · rintro d ds ρ K hK ⟨k, a, s, F, x2, x3, x4, x5, x6, x7, e, er, ek, ef, hF, rfl⟩
    obtain ⟨p, s, rfl, rfl, rfl⟩ := enum_cons e
    clear e
    have hlen := congrArg List.length er
    rw [List.length_append, List.length_cons] at hlen
    have go : ∀ x2 x3 x4 x5 x6 x7, K [some (.dat (.tuple (r.map ptD))), some (.own ((F ++ leadsAt a p s).map rowD)), x2, x3, x4, x5, x6, x7] := fun x2 x3 x4 x5 x6 x7 => hK _ ⟨k + 1, a ++ [p], s, F ++ leadsAt a p s, x2, x3, x4, x5, x6, x7, rfl, by rw [← er]; simp, by rw [List.length_append, List.length_singleton, ek], by rw [List.append_assoc]; exact ef, by
      have h1 := one_len (zr p)
      have h2 := at2_len a p s
      have h3 := at3_len a p s
      unfold leadsAt
      simp only [List.length_append, List.length_map]
      omega, rfl⟩
    clear hK hG hNN
    have c1 : cutD (r.map ptD) none (some (k : Nat)) = a.map ptD := by rw [← er]; exact cut_hd ek
    have c2 : cutD (r.map ptD) (some ((k : Nat) + 1 : Int)) none = s.map ptD := by rw [← er]; exact cut_tl ek
    array_mem_dec
    rw [c1, c2]
    have al : a.length ≤ 1000 := by omega
    have sl : s.length ≤ 1000 := by omega
    have hF6 : F.length ≤ 6000 := by omega
    have z1 : ∀ t : List Pt, t.length ≤ 1000 → (a.map ptD).length + (t.map ptD).length ≤ sizeLine := fun t h => szle (by rw [List.length_map, List.length_map]; omega)
    have J1 : ∀ F1 : List (List Pt), F1 = F ++ (zr p).toList.map (fun t => a ++ t ++ s) → NN [some (.dat (.tuple (r.map ptD))), some (.own (F1.map rowD)), some (.dat (.int (k : Nat))), some (.dat (ptD p)), some (.dat (.tuple (a.map ptD))), some (.dat (.tuple (s.map ptD))), x6, x7] := by
      intro F1 hF1
      have hF1l : F1.length ≤ 6001 := by
        have := one_len (zr p)
        rw [hF1, List.length_append, List.length_map]
        omega
      have go1 : ∀ x2 x3 x4 x5 x6 x7, K [some (.dat (.tuple (r.map ptD))), some (.own ((F1 ++ (at2 a p s ++ at3 a p s)).map rowD)), x2, x3, x4, x5, x6, x7] := fun x2 x3 x4 x5 x6 x7 => by
        have := go x2 x3 x4 x5 x6 x7
        unfold leadsAt at this
        rw [← List.append_assoc, ← hF1] at this
        exact this
      clear go
      refine i_nxN hNN rfl ?_
      clear hNN
      cases s with
      | nil =>
        have e0 : at2 a p [] ++ at3 a p [] = [] := rfl
        rw [e0, List.append_nil] at go1
        array_mem_dec
        exact go1 _ _ _ _ _ _
      | cons q s1 =>
        have h2l := at2_len a p (q :: s1)
        have cs1 : cutD ((q :: s1).map ptD) (some 1) none = s1.map ptD := cut_tl (a := []) (s := s1) (p := q) (k := 0) rfl
        have hat0 : atI ((q :: s1).map ptD) 0 = some (ptD q) := atI_map (f := ptD) (xs := q :: s1) (z := q) (Int.le_refl 0) (by rw [List.length_cons]; omega)
        rw [List.length_cons] at sl
        array_mem_dec
        refine ⟨p, q, rfl, ?_⟩
        have hpl := pairs_len p q
        have hpm : ∀ t ∈ pairsL p q, t.length ≤ 3 := fun t h => outs_len (pairs_outs.mp h)
        have ea2 : at2 a p (q :: s1) = (pairsL p q).map fun t => a ++ t ++ s1 := rfl
        rw [ea2] at go1 h2l
        generalize pairsL p q = L at hpl hpm go1 h2l ⊢
        array_mem_dec
        refine lc_all (α := List Pt) (e := rowD) (xs := L) (fun t => rowD (a ++ t ++ s1)) rfl (szle (by omega)) (fun ρ' h' => ?_) (fun t ht acc K2 hl2 hK2 => ?_)
        rotate_left
        · have t3 := hpm t ht
          dsimp only [rowD]
          array_mem_dec
          · rw [cs1, show PyData.tuple (a.map ptD ++ t.map ptD ++ s1.map ptD) = rowD (a ++ t ++ s1) by unfold rowD; rw [List.map_append, List.map_append]]
            exact ⟨hl2, hK2 _ rfl⟩
          · rw [cs1]
            exact szle (by simp only [List.length_append, List.length_map]; omega)
          · exact z1 t (by omega)
        · have eL : L.map (fun t => rowD (a ++ t ++ s1)) = (L.map fun t => a ++ t ++ s1).map rowD := by rw [List.map_map]; rfl
          rw [h', eL]
          generalize (L.map fun t => a ++ t ++ s1) = L2 at h2l go1 ⊢
          dsimp only [List.set, wipeD]
          have hz3 : (F1.map rowD).length + (L2.map rowD).length ≤ sizeLine := szle (by rw [List.length_map, List.length_map]; omega)
          have eF : F1.map rowD ++ L2.map rowD = (F1 ++ L2).map rowD := by rw [List.map_append]
          have go2 : ∀ x2 x3 x4 x5 x6 x7, K [some (.dat (.tuple (r.map ptD))), some (.own (((F1 ++ L2) ++ at3 a p (q :: s1)).map rowD)), x2, x3, x4, x5, x6, x7] := fun x2 x3 x4 x5 x6 x7 => by rw [List.append_assoc]; exact go1 x2 x3 x4 x5 x6 x7
          clear go1
          have hF2 : (F1 ++ L2).length ≤ 6010 := by rw [List.length_append]; omega
          have hQ := PLift.up hNN
          clear hNN
          array_mem_dec
          all_goals try exact hz3
          rw [eF]
          generalize F1 ++ L2 = F2 at go2 hF2 ⊢
          refine i_nxN hQ.down rfl ?_
          clear hQ
          cases s1 with
          | nil =>
            have e0 : at3 a p [q] = [] := rfl
            rw [e0, List.append_nil] at go2
            array_mem_dec
            exact go2 _ _ _ _ _ _
          | cons r2 s2 =>
            have h3l := at3_len a p (q :: r2 :: s2)
            have cs2 : cutD ((q :: r2 :: s2).map ptD) (some 2) none = s2.map ptD := cut_tl (a := [q]) (s := s2) (p := r2) (k := 1) rfl
            have hat0 : atI ((q :: r2 :: s2).map ptD) 0 = some (ptD q) := atI_map (f := ptD) (xs := q :: r2 :: s2) (z := q) (Int.le_refl 0) (by rw [List.length_cons]; omega)
            have hat1 : atI ((q :: r2 :: s2).map ptD) 1 = some (ptD r2) := atI_map (f := ptD) (xs := q :: r2 :: s2) (z := q) (by decide) (by rw [List.length_cons, List.length_cons]; omega)
            have hgt : (1 : Int) < ((q :: r2 :: s2).map ptD).length := by rw [List.length_map, List.length_cons, List.length_cons]; omega
            have ea3 : at3 a p (q :: r2 :: s2) = (swn p q r2).toList.map fun t => a ++ t ++ s2 := rfl
            rw [ea3] at go2 h3l
            have h3m : ∀ t ∈ (swn p q r2).toList, t.length ≤ 3 := fun t h => outs_len (m := [p, q, r2]) h
            rw [List.length_cons] at sl
            array_mem_dec
            all_goals try (exfalso; omega)
            refine ⟨p, q, r2, rfl, ?_⟩
            have hsl := one_len (swn p q r2)
            generalize (swn p q r2).toList = L3 at hsl h3m go2 h3l ⊢
            array_mem_dec
            refine lc_all (α := List Pt) (e := rowD) (xs := L3) (fun t => rowD (a ++ t ++ s2)) rfl (szle (by omega)) (fun ρ' h' => ?_) (fun t ht acc K2 hl2 hK2 => ?_)
            rotate_left
            · have t3 := h3m t ht
              dsimp only [rowD]
              array_mem_dec
              · rw [cs2, show PyData.tuple (a.map ptD ++ t.map ptD ++ s2.map ptD) = rowD (a ++ t ++ s2) by unfold rowD; rw [List.map_append, List.map_append]]
                exact ⟨hl2, hK2 _ rfl⟩
              · rw [cs2]
                exact szle (by simp only [List.length_append, List.length_map]; omega)
              · exact z1 t (by omega)
            · have eL : L3.map (fun t => rowD (a ++ t ++ s2)) = (L3.map fun t => a ++ t ++ s2).map rowD := by rw [List.map_map]; rfl
              rw [h', eL]
              generalize (L3.map fun t => a ++ t ++ s2) = L4 at h3l go2 ⊢
              dsimp only [List.set, wipeD]
              have hz4 : (F2.map rowD).length + (L4.map rowD).length ≤ sizeLine := szle (by rw [List.length_map, List.length_map]; omega)
              have eF4 : F2.map rowD ++ L4.map rowD = (F2 ++ L4).map rowD := by rw [List.map_append]
              array_mem_dec
              all_goals try exact hz4
              rw [eF4]
              exact go2 _ _ _ _ _ _
    clear go hNN
    have hzF : (F.map rowD).length < sizeLine := szl (by rw [List.length_map]; omega)
    have eA : (F.map rowD) ++ [PyData.tuple (a.map ptD ++ s.map ptD)] = (F ++ [a ++ s]).map rowD := by rw [rowD_app, List.map_append]; rfl
    have mid : ∀ q : Pt, (zr q = some []) → F ++ [a ++ s] = F ++ (zr q).toList.map (fun t => a ++ t ++ s) := fun q h => by rw [h]; simp
    have mid0 : ∀ q : Pt, zr q = none → F = F ++ (zr q).toList.map (fun t => a ++ t ++ s) := fun q h => by rw [h]; simp
    cases p with
    | tn =>
      have j0 := J1 F (mid0 _ rfl)
      clear J1
      dsimp only [ptD] at j0 ⊢
      array_mem_dec
      exact j0
    | on n =>
      dsimp only [ptD] at J1 ⊢
      array_mem_dec
      · rename_i h
        refine ⟨hzF, ?_⟩
        rw [eA]
        exact J1 _ (mid _ (if_pos h))
      · exact z1 s sl
      · rename_i h
        exact J1 _ (mid0 _ (if_neg h))
    | off n =>
      dsimp only [ptD] at J1 ⊢
      array_mem_dec
      · rename_i h
        refine ⟨hzF, ?_⟩
        rw [eA]
        exact J1 _ (mid _ (if_pos h))
      · exact z1 s sl
      · rename_i h
        exact J1 _ (mid0 _ (if_neg h))
    | dl n =>
      dsimp only [ptD] at J1 ⊢
      array_mem_dec
      · rename_i h
        refine ⟨hzF, ?_⟩
        rw [eA]
        exact J1 _ (mid _ (if_pos h))
      · exact z1 s sl
      · rename_i h
        exact J1 _ (mid0 _ (if_neg h))
end Lw
namespace Lw
open PySem L2 DL
def bd (c : Int) : Pt → Prop
  | .on n => 0 ≤ n ∧ n ≤ c
  | .off n => 0 ≤ n ∧ n ≤ c
  | .dl n => 0 ≤ n ∧ n ≤ c
  | .tn => True
theorem bd_mono {c d : Int} (h : c ≤ d) {p : Pt} (hp : bd c p) : bd d p := by
  cases p with
  | tn => trivial
  | on n => exact ⟨hp.1, Int.le_trans hp.2 h⟩
  | off n => exact ⟨hp.1, Int.le_trans hp.2 h⟩
  | dl n => exact ⟨hp.1, Int.le_trans hp.2 h⟩
def S__law_part : DSp := fun args G => ∃ (xs : List Int) (c : Int), args = [.dk, .dat (.list (zs xs))] ∧ xs ≠ [] ∧ xs.length ≤ 1000 ∧ (∀ x ∈ xs, 0 ≤ x ∧ x ≤ c) ∧ ∀ p : Pt, bd c p → G (.dat (ptD p))
def S__law_row : DSp := fun args G => ∃ (m : Int) (xs : List Int) (c : Int), args = [.dk, .dat (.int m), .dat (.list (zs xs))] ∧ (0 ≤ m ∧ m ≤ 50) ∧ xs ≠ [] ∧ xs.length ≤ 900 ∧ (∀ x ∈ xs, 0 ≤ x ∧ x ≤ c) ∧ (1 ≤ c ∧ c ≤ 10 ^ 31) ∧ ∀ r : List Pt, (r.length : Int) ≤ m + 3 → (∀ p ∈ r, bd (c + 1) p) → G (.dat (rowD r))
def S__law_shuffled : DSp := fun args G => ∃ L : List PyData, args = [.dk, .dat (.list L)] ∧ L.length ≤ 1000 ∧ ∀ M : List PyData, M.length = L.length → (∀ d ∈ M, d ∈ L) → G (.own M)
def S__law_is_told : DSp := fun args G => ∃ (r o : List Pt) (n : Bool), args = [.dat (rowD r), .dat (rowD o), .dat (.bool n)] ∧ (r.length ≤ 1000 ∧ o.length ≤ 1000) ∧ (∀ p ∈ r, bd (10 ^ 36) p) ∧ (∀ p ∈ o, bd (10 ^ 36) p) ∧ G (.dat (.bool true))
def S__law_unswung : DSp := fun args G => ∃ (r : List Pt) (i : Nat) (c : Int), args = [.dat (rowD r), .dat (.int (i : Nat))] ∧ r.length ≤ 1000 ∧ i < r.length ∧ (∀ p ∈ r, bd c p) ∧ 0 ≤ c ∧ ∀ L : List (List Pt), L.length ≤ 1 → (∀ o ∈ L, o.length ≤ r.length ∧ ∀ p ∈ o, bd (2 * c) p) → G (.own (L.map rowD))
theorem fit_c {i c : Int} (h : 0 ≤ i ∧ i ≤ c) (hc : c ≤ 10 ^ 36) : Fit 39 0 (.int i) := fit_int (m := 38) (by decide) (by decide) (by omega)
theorem fit_w {w : Str} (h : w = "on" ∨ w = "off" ∨ w = "delay" ∨ w = "turn") : Fit 39 0 (.str w) := by
  rcases h with rfl | rfl | rfl | rfl <;> exact ⟨rfl, rfl, by decide +kernel, by decide⟩
theorem fit_2 {w : Str} {i c : Int} (hw : Fit 39 0 (.str w)) (h : 0 ≤ i ∧ i ≤ c) (hc : c ≤ 10 ^ 36) : Fit 100 1 (.tuple [.str w, .int i]) := (fit_tup (n := 39) (k := 0) (by simp only [List.forall_mem_cons]; exact ⟨hw, fit_c h hc, fun _ h => nomatch h⟩)).mono (by simp) (by decide)
theorem fit_pt {p : Pt} {c : Int} (h : bd c p) (hc : c ≤ 10 ^ 36) : Fit 100 1 (ptD p) := by
  cases p with
  | on n => exact fit_2 (fit_w (.inl rfl)) h hc
  | off n => exact fit_2 (fit_w (.inr (.inl rfl))) h hc
  | dl n => exact fit_2 (fit_w (.inr (.inr (.inl rfl)))) h hc
  | tn => exact (fit_tup (n := 39) (k := 0) (by simp only [List.forall_mem_cons]; exact ⟨fit_w (.inr (.inr (.inr rfl))), fun _ h => nomatch h⟩)).mono (by simp) (by decide)
theorem fit_row {r : List Pt} {c : Int} (h : ∀ p ∈ r, bd c p) (hc : c ≤ 10 ^ 36) (hl : r.length ≤ 1000) : Fit 102003 2 (rowD r) :=
  (fit_tup (n := 100) (k := 1) fun d hd => by
    obtain ⟨p, hp, rfl⟩ := List.mem_map.mp hd
    exact fit_pt (h p hp) hc).mono (by rw [List.length_map]; omega) (by decide)
theorem i_lstL {xs : List PyData} {G : SV → Prop} (k : G (.own xs)) : g1 gList [.list xs] G := k
theorem mulRep {x : PyData} {n : Nat} {G : SV → Prop} (hn : n ≤ 1000) (k : G (.own (List.replicate n x))) : gMul (.list [x]) (.int (n : Nat)) G := ⟨by omega, by omega, by rw [Int.toNat_natCast, List.length_singleton]; exact szle (by omega), by
  rw [Int.toNat_natCast, List.flatten_replicate_singleton]
  exact k⟩
end Lw
namespace Lw
open PySem L2 DL
set_option hygiene false
local macro_rules
  | `(tactic| fail "a") => `(tactic| (with_reducible refine i_seqN ?_; intro NN hNN))
local macro_rules
  | `(tactic| fail "b") => `(tactic| (with_reducible refine i_nxN (by assumption) (by first | (dsimp only [List.set, wipeD]; done) | exact rfl) ?_; (try clear hNN); (try clear NN)))
set_option hygiene true
local macro_rules
  | `(tactic| array_get_dec) => `(tactic| repeat (first
    | (with_reducible refine rr ?_)
    | (fail "a")
    | (fail "b")
    | (with_reducible refine i_varD (by with_unfolding_all rfl) ?_)
    | (with_reducible refine i_two (by with_unfolding_all rfl) (by with_unfolding_all rfl) ?_)
    | (with_reducible refine i_frz (by with_unfolding_all rfl) ?_)
    | (with_reducible refine i_sto (by with_unfolding_all rfl) ?_ (Nat.le_of_ble_eq_true rfl))
    | (with_reducible refine i_varO (by with_unfolding_all rfl) ?_)
    | (with_reducible refine i_varK (by with_unfolding_all rfl) ?_)
    | (with_reducible refine i_app (by with_unfolding_all rfl) ?_)
    | (with_reducible refine i_ixT (by with_unfolding_all rfl) ?_)
    | (with_reducible refine i_ixL (by with_unfolding_all rfl) ?_)
    | (with_reducible refine i_frz3 (by with_unfolding_all rfl) (by with_unfolding_all rfl) ?_)
    | (with_reducible refine i_len (Nat.le_of_ble_eq_true rfl) ?_)
    | (with_reducible refine i_frzD (by with_unfolding_all rfl) (by with_unfolding_all rfl) ?_)
    | (with_reducible refine i_ok (by with_unfolding_all exact True.intro) ?_)
    | (with_reducible refine i_nm ?_ (Nat.le_of_ble_eq_true rfl))
    | (with_reducible refine i_tu ?_ (by with_unfolding_all rfl))
    | (with_reducible refine i_li ?_ (by with_unfolding_all rfl))
    | (with_reducible refine i_szc (by with_unfolding_all rfl) ?_)
    | (with_reducible refine i_trB ?_)
    | (with_reducible refine i_ifb ?_)
    | (with_reducible refine i_and2 (Nat.le_of_ble_eq_true rfl) (Nat.le_of_ble_eq_true rfl) ?_)
    | (with_reducible refine i_and3 (Nat.le_of_ble_eq_true rfl) (Nat.le_of_ble_eq_true rfl) (Nat.le_of_ble_eq_true rfl) ?_)
    | (with_reducible refine c_ltlen (Nat.le_of_ble_eq_true rfl) ?_)
    | (with_reducible refine i_aug (by with_unfolding_all rfl) ?_)
    | (with_reducible refine ⟨_, _, _, (by with_unfolding_all rfl), (by with_unfolding_all rfl), ?_⟩)
    | (with_reducible refine ⟨_, _, (by with_unfolding_all rfl), (by with_unfolding_all rfl), ?_⟩)
    | (with_reducible refine ⟨_, (by with_unfolding_all rfl), ?_⟩)
    | (with_reducible refine ⟨_, _, (by with_unfolding_all rfl), ?_⟩)
    | (with_reducible refine i_ifT (by with_unfolding_all rfl) ?_)
    | (with_reducible refine i_ifF (by with_unfolding_all rfl) ?_)
    | (with_reducible refine ⟨rfl, rfl, _, _, (by with_unfolding_all rfl), ?_⟩)
    | (with_reducible refine c_pow (by decide) (by decide) (by decide) ?_)
    | (with_reducible refine c_b62 (by decide) (by decide) ?_)
    | (with_reducible refine c_eqb (by assumption) (by assumption) (by assumption) ?_)
    | (with_reducible refine c_neb (by assumption) (by assumption) (by assumption) ?_)
    | (with_reducible refine c_neSS (by with_reducible rfl) ?_)
    | (with_reducible refine c_eqSS (by with_reducible rfl) ?_)
    | (with_reducible refine c_rep (by assumption) ?_)
    | (with_reducible refine i_strI ?_ ?_)
    | (with_reducible refine i_mul ?_ ?_)
    | (with_reducible refine i_mod ?_ ?_)
    | (with_reducible refine i_div ?_ ?_)
    | (with_reducible refine i_pow ?_ ?_)
    | (with_reducible refine i_addT ?_ ?_)
    | (with_reducible refine i_addL ?_ ?_)
    | (with_reducible refine i_nm ?_ ?_)
    | (with_reducible refine i_sto (by with_unfolding_all rfl) ?_ ?_)
    | (with_reducible refine i_eqTurn ?_)
    | (with_reducible refine i_eqPart (by decide +kernel) ?_)
    | (with_reducible refine i_eqSt (by decide +kernel) ?_)
    | (with_reducible refine i_eqSf (by decide +kernel) ?_)
    | (with_reducible refine i_neSt (by decide +kernel) ?_)
    | (with_reducible refine i_neSf (by decide +kernel) ?_)
    | (with_reducible refine i_rep (by assumption) ?_)))
local macro_rules
  | `(tactic| array_mem_dec) => `(tactic| repeat' (first
    | (with_reducible refine rr ?_)
    | (fail "a")
    | (fail "b")
    | (with_reducible refine i_varD (by with_unfolding_all rfl) ?_)
    | (with_reducible refine i_two (by with_unfolding_all rfl) (by with_unfolding_all rfl) ?_)
    | (with_reducible refine i_frz (by with_unfolding_all rfl) ?_)
    | (with_reducible refine i_sto (by with_unfolding_all rfl) ?_ (Nat.le_of_ble_eq_true rfl))
    | (with_reducible refine i_varO (by with_unfolding_all rfl) ?_)
    | (with_reducible refine i_varK (by with_unfolding_all rfl) ?_)
    | (with_reducible refine i_app (by with_unfolding_all rfl) ?_)
    | (with_reducible refine i_ixT (by with_unfolding_all rfl) ?_)
    | (with_reducible refine i_ixL (by with_unfolding_all rfl) ?_)
    | (with_reducible refine i_frz3 (by with_unfolding_all rfl) (by with_unfolding_all rfl) ?_)
    | (with_reducible refine i_len (Nat.le_of_ble_eq_true rfl) ?_)
    | (with_reducible refine i_frzD (by with_unfolding_all rfl) (by with_unfolding_all rfl) ?_)
    | (with_reducible refine i_ok (by with_unfolding_all exact True.intro) ?_)
    | (with_reducible refine i_nm ?_ (Nat.le_of_ble_eq_true rfl))
    | (with_reducible refine i_tu ?_ (by with_unfolding_all rfl))
    | (with_reducible refine i_li ?_ (by with_unfolding_all rfl))
    | (with_reducible refine i_szc (by with_unfolding_all rfl) ?_)
    | (with_reducible refine i_trB ?_)
    | (with_reducible refine i_ifb ?_)
    | (with_reducible refine i_and2 (Nat.le_of_ble_eq_true rfl) (Nat.le_of_ble_eq_true rfl) ?_)
    | (with_reducible refine i_and3 (Nat.le_of_ble_eq_true rfl) (Nat.le_of_ble_eq_true rfl) (Nat.le_of_ble_eq_true rfl) ?_)
    | (with_reducible refine c_ltlen (Nat.le_of_ble_eq_true rfl) ?_)
    | (with_reducible refine i_aug (by with_unfolding_all rfl) ?_)
    | (with_reducible refine ⟨_, _, _, (by with_unfolding_all rfl), (by with_unfolding_all rfl), ?_⟩)
    | (with_reducible refine ⟨_, _, (by with_unfolding_all rfl), (by with_unfolding_all rfl), ?_⟩)
    | (with_reducible refine ⟨_, (by with_unfolding_all rfl), ?_⟩)
    | (with_reducible refine ⟨_, _, (by with_unfolding_all rfl), ?_⟩)
    | (with_reducible refine i_ifT (by with_unfolding_all rfl) ?_)
    | (with_reducible refine i_ifF (by with_unfolding_all rfl) ?_)
    | (with_reducible refine ⟨rfl, rfl, _, _, (by with_unfolding_all rfl), ?_⟩)
    | (with_reducible refine c_pow (by decide) (by decide) (by decide) ?_)
    | (with_reducible refine c_b62 (by decide) (by decide) ?_)
    | (with_reducible refine c_eqb (by assumption) (by assumption) (by assumption) ?_)
    | (with_reducible refine c_neb (by assumption) (by assumption) (by assumption) ?_)
    | (with_reducible refine c_neSS (by with_reducible rfl) ?_)
    | (with_reducible refine c_eqSS (by with_reducible rfl) ?_)
    | (with_reducible refine c_rep (by assumption) ?_)
    | (with_reducible refine i_eqTurn ?_)
    | (with_reducible refine i_eqPart (by decide +kernel) ?_)
    | (with_reducible refine i_eqSt (by decide +kernel) ?_)
    | (with_reducible refine i_eqSf (by decide +kernel) ?_)
    | (with_reducible refine i_neSt (by decide +kernel) ?_)
    | (with_reducible refine i_neSf (by decide +kernel) ?_)
    | (with_reducible refine i_rep (by assumption) ?_)
    | (with_reducible refine i_eqL0 (by assumption) ?_)
    | (with_reducible refine i_neL0 (by assumption) ?_)
    | (with_reducible refine i_ifNE ?_ ?_ <;> intro h <;> try (first | (exfalso; contradiction) | (exfalso; omega)))
    | (with_reducible refine ⟨len_lt (by omega), ?_⟩)
    | (with_reducible refine i_mulT ?_ (by decide) (by decide) (by omega))
    | (with_reducible exact len_ok (Nat.le_of_ble_eq_true rfl))
    | (with_reducible refine i_mulT ?_ (by decide) (by decide) (Nat.le_trans cut_len (by omega)))
    | (with_reducible refine i_ifE ?_ ?_ <;> intro h <;> try (first | (exfalso; contradiction) | (exfalso; omega)))
    | (with_reducible refine i_eqT0 (by assumption) ?_)
    | (with_reducible refine i_ixT (by assumption) ?_)
    | (with_reducible refine i_ixL (by assumption) ?_)
    | (with_reducible refine i_ifD ?_ ?_ <;> intro h <;> try (exfalso; omega))
    | (with_reducible refine i_ifDN ?_ ?_ <;> intro h <;> try (exfalso; omega))
    | (with_reducible refine i_eq ?_ (by assumption) (by assumption))
    | (with_reducible refine i_ne ?_ (by assumption) (by assumption))
    | (with_reducible refine i_if2 ?_ ?_ <;> intro h)
    | (with_reducible refine i_strI ?_ ?_)
    | (with_reducible refine i_mul ?_ ?_)
    | (with_reducible refine i_mod ?_ ?_)
    | (with_reducible refine i_div ?_ ?_)
    | (with_reducible refine i_pow ?_ ?_)
    | (with_reducible refine i_addT ?_ ?_)
    | (with_reducible refine i_addL ?_ ?_)
    | (with_reducible refine i_nm ?_ ?_)
    | (with_reducible refine i_sto (by with_unfolding_all rfl) ?_ ?_)))
--+ with_reducible refine i_eqTurn ?_
--+ with_reducible refine i_eqPart (by decide +kernel) ?_
--+ with_reducible refine i_eqSt (by decide +kernel) ?_
--+ with_reducible refine i_eqSf (by decide +kernel) ?_
--+ with_reducible refine i_neSt (by decide +kernel) ?_
--+ with_reducible refine i_neSf (by decide +kernel) ?_
--+ with_reducible refine i_rep (by assumption) ?_
theorem spec__law_part : ∀ args G, args.length = 2 → S__law_part args G → dDef 1 (B__law_part S__law_pick) args G := by
  rintro args G hl ⟨xs, c, rfl, hne, hlen, hx, hG⟩
  unfold dDef B__law_part
  array_mem_dec
  refine ⟨_, rfl, by simp, by simp, fun w hw => ?_⟩
  have num : ∀ {G2 : SV → Prop}, (∀ n : Int, 0 ≤ n → n ≤ c → G2 (.dat (.int n))) → S__law_pick [.dk, .dat (.list (zs xs))] G2 := fun {G2} h => ⟨_, rfl, by cases xs with | nil => exact absurd rfl hne | cons _ _ => simp [zs], by rw [zs_len]; exact hlen, fun y hy => by
    obtain ⟨n, hn, rfl⟩ := List.mem_map.mp hy
    exact h n (hx n hn).1 (hx n hn).2⟩
  have hw : w = .str "on" ∨ w = .str "off" ∨ w = .str "delay" ∨ w = .str "turn" := by
    simp only [List.mem_cons, List.not_mem_nil, or_false] at hw
    rcases hw with h | h | h | h | h | h | h | h <;> simp [h]
  have gon := fun (n : Int) (n0 : 0 ≤ n) (n1 : n ≤ c) => hG (.on n) ⟨n0, n1⟩
  have gof := fun (n : Int) (n0 : 0 ≤ n) (n1 : n ≤ c) => hG (.off n) ⟨n0, n1⟩
  have gdl := fun (n : Int) (n0 : 0 ≤ n) (n1 : n ≤ c) => hG (.dl n) ⟨n0, n1⟩
  have gtn := hG .tn trivial
  clear hG
  rcases hw with rfl | rfl | rfl | rfl
  · array_mem_dec
    refine num fun n n0 n1 => ?_
    array_mem_dec
    exact gon n n0 n1
  · array_mem_dec
    refine num fun n n0 n1 => ?_
    array_mem_dec
    exact gof n n0 n1
  · array_mem_dec
    refine num fun n n0 n1 => ?_
    array_mem_dec
    exact gdl n n0 n1
  · array_mem_dec
    exact gtn
theorem spec__law_shuffled : ∀ args G, args.length = 2 → S__law_shuffled args G → dDef 3 (B__law_shuffled S__law_draw) args G := by
  rintro args G hl ⟨L, rfl, hL, hG⟩
  unfold dDef B__law_shuffled
  array_mem_dec
  refine i_lstL ?_
  array_mem_dec
  refine ⟨by omega, by omega, ?_⟩
  dsimp only [List.set, List.map, List.replicate, List.cons_append, List.nil_append]
  refine forT_rng (fun i ρ => ∃ (R M : List PyData) (x4 : Option SV), (R.length : Int) + i = L.length ∧ (M.length : Int) = i ∧ (∀ d ∈ R, d ∈ L) ∧ (∀ d ∈ M, d ∈ L) ∧ ρ = [some .dk, some (.dat (.list L)), some (.own R), some (.own M), x4]) (L.length : Nat) ?_ ?_ _ _ _ (by omega) ⟨L, [], none, by omega, rfl, fun _ h => h, (fun _ h => nomatch h), rfl⟩
  · rintro ρ ⟨R, M, x4, h1, h2, h3, h4, rfl⟩
    array_mem_dec
    exact hG M (by omega) h4
  · rintro i ρ K hi hK ⟨R, M, x4, h1, h2, h3, h4, rfl⟩
    have go : ∀ (j : Nat) (d : PyData) x4, j < R.length → d ∈ R → K [some .dk, some (.dat (.list L)), some (.own (R.eraseIdx j)), some (.own (M ++ [d])), x4] := fun j d x4 hj hd => hK _ ⟨R.eraseIdx j, M ++ [d], x4, by rw [List.length_eraseIdx, if_pos hj]; omega, by rw [List.length_append, List.length_singleton]; push_cast; omega, fun e he => h3 e (List.mem_of_mem_eraseIdx he), fun e he => by
      rcases List.mem_append.mp he with he | he
      · exact h4 e he
      · rw [List.mem_singleton.mp he]; exact h3 d hd, rfl⟩
    have hz : M.length < sizeLine := szl (by omega)
    clear hK hG
    array_mem_dec
    refine i_popAt rfl ?_
    array_mem_dec
    refine i_draw (by omega) (by omega) fun k k0 k1 => ?_
    array_mem_dec
    have hk : k.toNat < R.length := by omega
    refine ⟨k, R, k.toNat, R[k.toNat], rfl, rfl, by omega, by omega, by unfold ixN; rw [if_pos k0, if_pos k1], List.getElem?_eq_getElem hk, ?_⟩
    array_mem_dec
    exact go _ _ _ hk (List.getElem_mem hk)
theorem spec__law_is_told : ∀ args G, args.length = 3 → S__law_is_told args G → dDef 3 (B__law_is_told S__law_is_led S_is_exchange) args G := by
  rintro args G hl ⟨r, o, n, rfl, ⟨hr, ho⟩, br, bo, hG⟩
  have rp : reprOk (.list [rowD r, rowD o]) := (fit_lst (n := 110000) (k := 2) (all_cons ((fit_row br (Int.le_refl _) hr).mono (by decide) (by decide)) (all_cons ((fit_row bo (Int.le_refl _) ho).mono (by decide) (by decide)) all_nil))).ok (by simp) (by decide)
  unfold dDef B__law_is_told
  array_mem_dec
  refine ⟨r, o, rfl, ⟨hr, ho⟩, fun b hb => ?_⟩
  have rpb : reprOk (.list [.bool b, .bool b, .bool b]) := by cases b <;> exact (fit_lst (n := 5) (k := 0) (all_cons fit_bool (all_cons fit_bool (all_cons fit_bool all_nil)))).ok (by simp) (by decide)
  have same : ∀ {c : Bool}, (c = true ↔ r ≠ o ∧ (Led r o ∨ Led o r)) → c = b := fun {c} h => Bool.eq_iff_iff.mpr (h.trans hb.symm)
  have same2 : ∀ {c : Bool}, (c = true ↔ o ≠ r ∧ (Led o r ∨ Led r o)) → c = b := fun {c} h => same (h.trans ⟨fun z => ⟨fun e => z.1 e.symm, z.2.symm⟩, fun z => ⟨fun e => z.1 e.symm, z.2.symm⟩⟩)
  array_mem_dec
  · refine ⟨r, o, rfl, ⟨hr, ho⟩, fun b1 h1 => ?_⟩
    obtain rfl := same h1
    array_mem_dec
    refine ⟨o, r, rfl, ⟨ho, hr⟩, fun b2 h2 => ?_⟩
    obtain rfl := same2 h2
    array_mem_dec
    refine ⟨r, o, rfl, ⟨hr, ho⟩, fun b3 h3 => ?_⟩
    obtain rfl := same h3
    array_mem_dec
    refine mulRep (n := 3) (by decide) ?_
    rw [show ∀ x : PyData, List.replicate 3 x = [x, x, x] from fun _ => rfl]
    array_mem_dec
    exact hG
  · refine ⟨r, o, rfl, ⟨hr, ho⟩, fun b1 h1 => ?_⟩
    obtain rfl := same h1
    array_mem_dec
    refine ⟨o, r, rfl, ⟨ho, hr⟩, fun b2 h2 => ?_⟩
    obtain rfl := same2 h2
    array_mem_dec
    refine ⟨r, o, rfl, ⟨hr, ho⟩, fun b3 h3 => ?_⟩
    obtain rfl := same h3
    array_mem_dec
    refine mulRep (n := 3) (by decide) ?_
    rw [show ∀ x : PyData, List.replicate 3 x = [x, x, x] from fun _ => rfl]
    array_mem_dec
    exact hG
end Lw
namespace Lw
open PySem L2 DL
set_option hygiene false
local macro_rules
  | `(tactic| fail "a") => `(tactic| (with_reducible refine i_seqN ?_; intro NN hNN))
local macro_rules
  | `(tactic| fail "b") => `(tactic| (with_reducible refine i_nxN (by assumption) (by first | (dsimp only [List.set, wipeD]; done) | exact rfl) ?_; (try clear hNN); (try clear NN)))
set_option hygiene true
local macro_rules
  | `(tactic| array_get_dec) => `(tactic| repeat (first
    | (with_reducible refine rr ?_)
    | (fail "a")
    | (fail "b")
    | (with_reducible refine i_varD (by with_unfolding_all rfl) ?_)
    | (with_reducible refine i_two (by with_unfolding_all rfl) (by with_unfolding_all rfl) ?_)
    | (with_reducible refine i_frz (by with_unfolding_all rfl) ?_)
    | (with_reducible refine i_sto (by with_unfolding_all rfl) ?_ (Nat.le_of_ble_eq_true rfl))
    | (with_reducible refine i_varO (by with_unfolding_all rfl) ?_)
    | (with_reducible refine i_varK (by with_unfolding_all rfl) ?_)
    | (with_reducible refine i_app (by with_unfolding_all rfl) ?_)
    | (with_reducible refine i_ixT (by with_unfolding_all rfl) ?_)
    | (with_reducible refine i_ixL (by with_unfolding_all rfl) ?_)
    | (with_reducible refine i_frz3 (by with_unfolding_all rfl) (by with_unfolding_all rfl) ?_)
    | (with_reducible refine i_len (Nat.le_of_ble_eq_true rfl) ?_)
    | (with_reducible refine i_frzD (by with_unfolding_all rfl) (by with_unfolding_all rfl) ?_)
    | (with_reducible refine i_ok (by with_unfolding_all exact True.intro) ?_)
    | (with_reducible refine i_nm ?_ (Nat.le_of_ble_eq_true rfl))
    | (with_reducible refine i_tu ?_ (by with_unfolding_all rfl))
    | (with_reducible refine i_li ?_ (by with_unfolding_all rfl))
    | (with_reducible refine i_szc (by with_unfolding_all rfl) ?_)
    | (with_reducible refine i_trB ?_)
    | (with_reducible refine i_ifb ?_)
    | (with_reducible refine i_and2 (Nat.le_of_ble_eq_true rfl) (Nat.le_of_ble_eq_true rfl) ?_)
    | (with_reducible refine i_and3 (Nat.le_of_ble_eq_true rfl) (Nat.le_of_ble_eq_true rfl) (Nat.le_of_ble_eq_true rfl) ?_)
    | (with_reducible refine c_ltlen (Nat.le_of_ble_eq_true rfl) ?_)
    | (with_reducible refine i_aug (by with_unfolding_all rfl) ?_)
    | (with_reducible refine ⟨_, _, _, (by with_unfolding_all rfl), (by with_unfolding_all rfl), ?_⟩)
    | (with_reducible refine ⟨_, _, (by with_unfolding_all rfl), (by with_unfolding_all rfl), ?_⟩)
    | (with_reducible refine ⟨_, (by with_unfolding_all rfl), ?_⟩)
    | (with_reducible refine ⟨_, _, (by with_unfolding_all rfl), ?_⟩)
    | (with_reducible refine i_ifT (by with_unfolding_all rfl) ?_)
    | (with_reducible refine i_ifF (by with_unfolding_all rfl) ?_)
    | (with_reducible refine ⟨rfl, rfl, _, _, (by with_unfolding_all rfl), ?_⟩)
    | (with_reducible refine c_pow (by decide) (by decide) (by decide) ?_)
    | (with_reducible refine c_b62 (by decide) (by decide) ?_)
    | (with_reducible refine c_eqb (by assumption) (by assumption) (by assumption) ?_)
    | (with_reducible refine c_neb (by assumption) (by assumption) (by assumption) ?_)
    | (with_reducible refine c_neSS (by with_reducible rfl) ?_)
    | (with_reducible refine c_eqSS (by with_reducible rfl) ?_)
    | (with_reducible refine c_rep (by assumption) ?_)
    | (with_reducible refine i_strI ?_ ?_)
    | (with_reducible refine i_mul ?_ ?_)
    | (with_reducible refine i_mod ?_ ?_)
    | (with_reducible refine i_div ?_ ?_)
    | (with_reducible refine i_pow ?_ ?_)
    | (with_reducible refine i_addT ?_ ?_)
    | (with_reducible refine i_addL ?_ ?_)
    | (with_reducible refine i_nm ?_ ?_)
    | (with_reducible refine i_sto (by with_unfolding_all rfl) ?_ ?_)
    | (with_reducible refine i_eqTurn ?_)
    | (with_reducible refine i_eqPart (by decide +kernel) ?_)
    | (with_reducible refine i_eqSt (by decide +kernel) ?_)
    | (with_reducible refine i_eqSf (by decide +kernel) ?_)
    | (with_reducible refine i_neSt (by decide +kernel) ?_)
    | (with_reducible refine i_neSf (by decide +kernel) ?_)
    | (with_reducible refine i_inOO (by decide +kernel) (by with_unfolding_all rfl) ?_)
    | (with_reducible refine i_ninOO (by decide +kernel) (by with_unfolding_all rfl) ?_)))
local macro_rules
  | `(tactic| array_mem_dec) => `(tactic| repeat' (first
    | (with_reducible refine rr ?_)
    | (fail "a")
    | (fail "b")
    | (with_reducible refine i_varD (by with_unfolding_all rfl) ?_)
    | (with_reducible refine i_two (by with_unfolding_all rfl) (by with_unfolding_all rfl) ?_)
    | (with_reducible refine i_frz (by with_unfolding_all rfl) ?_)
    | (with_reducible refine i_sto (by with_unfolding_all rfl) ?_ (Nat.le_of_ble_eq_true rfl))
    | (with_reducible refine i_varO (by with_unfolding_all rfl) ?_)
    | (with_reducible refine i_varK (by with_unfolding_all rfl) ?_)
    | (with_reducible refine i_app (by with_unfolding_all rfl) ?_)
    | (with_reducible refine i_ixT (by with_unfolding_all rfl) ?_)
    | (with_reducible refine i_ixL (by with_unfolding_all rfl) ?_)
    | (with_reducible refine i_frz3 (by with_unfolding_all rfl) (by with_unfolding_all rfl) ?_)
    | (with_reducible refine i_len (Nat.le_of_ble_eq_true rfl) ?_)
    | (with_reducible refine i_frzD (by with_unfolding_all rfl) (by with_unfolding_all rfl) ?_)
    | (with_reducible refine i_ok (by with_unfolding_all exact True.intro) ?_)
    | (with_reducible refine i_nm ?_ (Nat.le_of_ble_eq_true rfl))
    | (with_reducible refine i_tu ?_ (by with_unfolding_all rfl))
    | (with_reducible refine i_li ?_ (by with_unfolding_all rfl))
    | (with_reducible refine i_szc (by with_unfolding_all rfl) ?_)
    | (with_reducible refine i_trB ?_)
    | (with_reducible refine i_ifb ?_)
    | (with_reducible refine i_and2 (Nat.le_of_ble_eq_true rfl) (Nat.le_of_ble_eq_true rfl) ?_)
    | (with_reducible refine i_and3 (Nat.le_of_ble_eq_true rfl) (Nat.le_of_ble_eq_true rfl) (Nat.le_of_ble_eq_true rfl) ?_)
    | (with_reducible refine c_ltlen (Nat.le_of_ble_eq_true rfl) ?_)
    | (with_reducible refine i_aug (by with_unfolding_all rfl) ?_)
    | (with_reducible refine ⟨_, _, _, (by with_unfolding_all rfl), (by with_unfolding_all rfl), ?_⟩)
    | (with_reducible refine ⟨_, _, (by with_unfolding_all rfl), (by with_unfolding_all rfl), ?_⟩)
    | (with_reducible refine ⟨_, (by with_unfolding_all rfl), ?_⟩)
    | (with_reducible refine ⟨_, _, (by with_unfolding_all rfl), ?_⟩)
    | (with_reducible refine i_ifT (by with_unfolding_all rfl) ?_)
    | (with_reducible refine i_ifF (by with_unfolding_all rfl) ?_)
    | (with_reducible refine ⟨rfl, rfl, _, _, (by with_unfolding_all rfl), ?_⟩)
    | (with_reducible refine c_pow (by decide) (by decide) (by decide) ?_)
    | (with_reducible refine c_b62 (by decide) (by decide) ?_)
    | (with_reducible refine c_eqb (by assumption) (by assumption) (by assumption) ?_)
    | (with_reducible refine c_neb (by assumption) (by assumption) (by assumption) ?_)
    | (with_reducible refine c_neSS (by with_reducible rfl) ?_)
    | (with_reducible refine c_eqSS (by with_reducible rfl) ?_)
    | (with_reducible refine c_rep (by assumption) ?_)
    | (with_reducible refine i_eqTurn ?_)
    | (with_reducible refine i_eqPart (by decide +kernel) ?_)
    | (with_reducible refine i_eqSt (by decide +kernel) ?_)
    | (with_reducible refine i_eqSf (by decide +kernel) ?_)
    | (with_reducible refine i_neSt (by decide +kernel) ?_)
    | (with_reducible refine i_neSf (by decide +kernel) ?_)
    | (with_reducible refine i_inOO (by decide +kernel) (by with_unfolding_all rfl) ?_)
    | (with_reducible refine i_ninOO (by decide +kernel) (by with_unfolding_all rfl) ?_)
    | (with_reducible refine i_eqL0 (by assumption) ?_)
    | (with_reducible refine i_neL0 (by assumption) ?_)
    | (with_reducible refine i_ifNE ?_ ?_ <;> intro h <;> try (first | (exfalso; contradiction) | (exfalso; omega)))
    | (with_reducible refine ⟨len_lt (by omega), ?_⟩)
    | (with_reducible refine i_mulT ?_ (by decide) (by decide) (by omega))
    | (with_reducible exact len_ok (Nat.le_of_ble_eq_true rfl))
    | (with_reducible refine i_mulT ?_ (by decide) (by decide) (Nat.le_trans cut_len (by omega)))
    | (with_reducible refine i_ifE ?_ ?_ <;> intro h <;> try (first | (exfalso; contradiction) | (exfalso; omega)))
    | (with_reducible refine i_eqT0 (by assumption) ?_)
    | (with_reducible refine i_ixT (by assumption) ?_)
    | (with_reducible refine i_ixL (by assumption) ?_)
    | (with_reducible refine i_ifD ?_ ?_ <;> intro h <;> try (exfalso; omega))
    | (with_reducible refine i_ifDN ?_ ?_ <;> intro h <;> try (exfalso; omega))
    | (with_reducible refine i_eq ?_ (by assumption) (by assumption))
    | (with_reducible refine i_ne ?_ (by assumption) (by assumption))
    | (with_reducible refine i_if2 ?_ ?_ <;> intro h)
    | (with_reducible refine i_strI ?_ ?_)
    | (with_reducible refine i_mul ?_ ?_)
    | (with_reducible refine i_mod ?_ ?_)
    | (with_reducible refine i_div ?_ ?_)
    | (with_reducible refine i_pow ?_ ?_)
    | (with_reducible refine i_addT ?_ ?_)
    | (with_reducible refine i_addL ?_ ?_)
    | (with_reducible refine i_nm ?_ ?_)
    | (with_reducible refine i_sto (by with_unfolding_all rfl) ?_ ?_)))
--+ with_reducible refine i_eqTurn ?_
--+ with_reducible refine i_eqPart (by decide +kernel) ?_
--+ with_reducible refine i_eqSt (by decide +kernel) ?_
--+ with_reducible refine i_eqSf (by decide +kernel) ?_
--+ with_reducible refine i_neSt (by decide +kernel) ?_
--+ with_reducible refine i_neSf (by decide +kernel) ?_
--+ with_reducible refine i_inOO (by decide +kernel) (by with_unfolding_all rfl) ?_
--+ with_reducible refine i_ninOO (by decide +kernel) (by with_unfolding_all rfl) ?_
theorem spec__law_unswung : ∀ args G, args.length = 2 → S__law_unswung args G → dDef 6 (B__law_unswung S__law_contrary) args G := by
  rintro args G hl ⟨r, i, c, rfl, hr, hi, hb, c0, hG⟩
  have hrl : (r.map ptD).length = r.length := List.length_map _
  have emp := hG [] (by simp) (fun _ h => nomatch h)
  unfold dDef B__law_unswung rowD
  array_mem_dec
  · exact emp
  rename_i h3
  have h3' : i + 3 ≤ r.length := by omega
  obtain ⟨A, p, q, s, B, er, hA⟩ : ∃ A p q s B, r = A ++ p :: q :: s :: B ∧ A.length = i := by
    have hd : (r.drop i).length ≥ 3 := by rw [List.length_drop]; omega
    rcases hq : r.drop i with _ | ⟨p, _ | ⟨q, _ | ⟨s, B⟩⟩⟩
    · rw [hq] at hd; simp at hd
    · rw [hq] at hd; simp at hd
    · rw [hq] at hd; simp at hd
    · exact ⟨r.take i, p, q, s, B, by rw [← hq, List.take_append_drop], by rw [List.length_take]; omega⟩
  have a0 : atI (r.map ptD) (i : Nat) = some (ptD p) := at_nat (by rw [er, List.map_append, List.getElem?_append_right (by rw [List.length_map]; omega), List.length_map, hA, Nat.sub_self]; rfl)
  have a1 : atI (r.map ptD) ((i : Nat) + 1 : Int) = some (ptD q) := by
    rw [show ((i : Nat) : Int) + 1 = ((i + 1 : Nat) : Int) by omega]
    exact at_nat (by rw [er, List.map_append, List.getElem?_append_right (by rw [List.length_map]; omega), List.length_map, hA, show i + 1 - i = 1 by omega]; rfl)
  have c1 : cutD (r.map ptD) none (some (i : Nat)) = A.map ptD := by rw [er]; exact cut_hd hA
  have c2 : cutD (r.map ptD) (some ((i : Nat) + 3 : Int)) none = B.map ptD := by
    have := cut_tl (a := A ++ [p, q]) (s := B) (p := s) (k := i + 2) (by rw [List.length_append, hA]; rfl)
    rw [er]
    rw [show A ++ [p, q] ++ s :: B = A ++ p :: q :: s :: B by simp, show ((i + 2 : Nat) : Int) + 1 = (i : Int) + 3 by omega] at this
    exact this
  have c3 : cutD (r.map ptD) (some (i : Nat)) (some ((i : Nat) + 3 : Int)) = [ptD p, ptD q, ptD s] := by
    rw [cutD_map, cutT_ab _ (by omega) (by omega), er, Int.toNat_natCast, List.drop_left' hA, show ((i : Int) + 3).toNat - i = 3 by omega]
    rfl
  have hp := hb p (by rw [er]; simp)
  have hq := hb q (by rw [er]; simp)
  have hs := hb s (by rw [er]; simp)
  have fin : ∀ x y z : Pt, bd (2 * c) x → bd (2 * c) y → bd (2 * c) z → G (.own [.tuple (A.map ptD ++ [ptD x, ptD y, ptD z] ++ B.map ptD)]) := fun x y z hx hy hz => by
    have := hG [A ++ [x, y, z] ++ B] (by simp) fun o ho => by
      rw [List.mem_singleton.mp ho]
      refine ⟨by rw [er]; simp only [List.length_append, List.length_cons, List.length_nil]; omega, fun w hw => ?_⟩
      rcases List.mem_append.mp hw with hw | hw
      · rcases List.mem_append.mp hw with hw | hw
        · exact bd_mono (by omega) (hb w (by rw [er]; exact List.mem_append_left _ hw))
        · simp only [List.mem_cons, List.not_mem_nil, or_false] at hw
          rcases hw with rfl | rfl | rfl <;> assumption
      · exact bd_mono (by omega) (hb w (by rw [er]; simp [hw]))
    rw [show [A ++ [x, y, z] ++ B].map rowD = [.tuple (A.map ptD ++ [ptD x, ptD y, ptD z] ++ B.map ptD)] by show [PyData.tuple ((A ++ [x, y, z] ++ B).map ptD)] = _; rw [List.map_append, List.map_append]; rfl] at this
    exact this
  have lA : (A.map ptD).length ≤ 1000 := by have := congrArg List.length er; simp only [List.length_append, List.length_cons] at this; rw [List.length_map]; omega
  have lB : (B.map ptD).length ≤ 1000 := by have := congrArg List.length er; simp only [List.length_append, List.length_cons] at this; rw [List.length_map]; omega
  have sz1 : ∀ a b d : PyData, (A.map ptD ++ [a, b, d]).length + (B.map ptD).length ≤ sizeLine := fun a b d => szle (by rw [List.length_append]; simp only [List.length_cons, List.length_nil]; omega)
  have sz2 : ∀ a b d : PyData, (A.map ptD).length + [a, b, d].length ≤ sizeLine := fun a b d => szle (by simp only [List.length_cons, List.length_nil]; omega)
  clear hG hb
  cases p with
  | tn => dsimp only [ptD] at a0; array_mem_dec; exact emp
  | dl a => dsimp only [ptD] at a0; array_mem_dec; exact emp
  | on a =>
    dsimp only [ptD] at a0
    cases q with
    | tn => dsimp only [ptD] at a1; array_mem_dec; exact emp
    | on b => dsimp only [ptD] at a1; array_mem_dec; exact emp
    | off b => dsimp only [ptD] at a1; array_mem_dec; exact emp
    | dl b =>
      dsimp only [ptD] at a1
      array_mem_dec
      rw [c3]
      dsimp only [ptD]
      array_mem_dec
      refine .inl ⟨rfl, ?_⟩
      cases s with
      | tn => dsimp only [ptD]; array_mem_dec; exact emp
      | dl d => dsimp only [ptD]; array_mem_dec; exact emp
      | on d =>
        have q1 : 0 ≤ a ∧ a ≤ c := hp
        have q2 : 0 ≤ b ∧ b ≤ c := hq
        have q3 : 0 ≤ d ∧ d ≤ c := hs
        dsimp only [ptD]
        array_mem_dec
        all_goals first
          | exact emp
          | (rw [c1, c2]; exact fin (.on a) (.off b) (.on (b + d)) ⟨by omega, by omega⟩ ⟨by omega, by omega⟩ ⟨by omega, by omega⟩)
          | (rw [c1, c2]; exact sz1 _ _ _)
          | (rw [c1]; exact sz2 _ _ _)
          | trace_state
      | off d =>
        have q1 : 0 ≤ a ∧ a ≤ c := hp
        have q2 : 0 ≤ b ∧ b ≤ c := hq
        have q3 : 0 ≤ d ∧ d ≤ c := hs
        dsimp only [ptD]
        array_mem_dec
        all_goals first
          | exact emp
          | (rw [c1, c2]; exact fin (.on a) (.off (b + d)) (.on b) ⟨by omega, by omega⟩ ⟨by omega, by omega⟩ ⟨by omega, by omega⟩)
          | (rw [c1, c2]; exact sz1 _ _ _)
          | (rw [c1]; exact sz2 _ _ _)
          | trace_state
  | off a =>
    dsimp only [ptD] at a0
    cases q with
    | tn => dsimp only [ptD] at a1; array_mem_dec; exact emp
    | on b => dsimp only [ptD] at a1; array_mem_dec; exact emp
    | off b => dsimp only [ptD] at a1; array_mem_dec; exact emp
    | dl b =>
      dsimp only [ptD] at a1
      array_mem_dec
      rw [c3]
      dsimp only [ptD]
      array_mem_dec
      refine .inr ⟨rfl, ?_⟩
      cases s with
      | tn => dsimp only [ptD]; array_mem_dec; exact emp
      | dl d => dsimp only [ptD]; array_mem_dec; exact emp
      | on d =>
        have q1 : 0 ≤ a ∧ a ≤ c := hp
        have q2 : 0 ≤ b ∧ b ≤ c := hq
        have q3 : 0 ≤ d ∧ d ≤ c := hs
        dsimp only [ptD]
        array_mem_dec
        all_goals first
          | exact emp
          | (rw [c1, c2]; exact fin (.off a) (.on (b + d)) (.off b) ⟨by omega, by omega⟩ ⟨by omega, by omega⟩ ⟨by omega, by omega⟩)
          | (rw [c1, c2]; exact sz1 _ _ _)
          | (rw [c1]; exact sz2 _ _ _)
          | trace_state
      | off d =>
        have q1 : 0 ≤ a ∧ a ≤ c := hp
        have q2 : 0 ≤ b ∧ b ≤ c := hq
        have q3 : 0 ≤ d ∧ d ≤ c := hs
        dsimp only [ptD]
        array_mem_dec
        all_goals first
          | exact emp
          | (rw [c1, c2]; exact fin (.off a) (.on b) (.off (b + d)) ⟨by omega, by omega⟩ ⟨by omega, by omega⟩ ⟨by omega, by omega⟩)
          | (rw [c1, c2]; exact sz1 _ _ _)
          | (rw [c1]; exact sz2 _ _ _)
          | trace_state
end Lw
namespace Lw
open PySem L2 DL
def S__law_near : DSp := fun args G => ∃ (r : List Pt) (c : Int), args = [.dk, .dat (rowD r)] ∧ r.length ≤ 900 ∧ (∀ p ∈ r, bd c p) ∧ (2 ≤ c ∧ c ≤ 10 ^ 35) ∧ ∀ o : List Pt, o.length ≤ r.length + 1 → (∀ p ∈ o, bd (2 * c + 2) p) → G (.dat (rowD o))
theorem cut_lo (r : List Pt) {k : Int} (h : 0 ≤ k) : cutD (r.map ptD) none (some k) = (r.take k.toNat).map ptD := by rw [cutD_map, cutT_na r h]
theorem cut_hi (r : List Pt) {k : Int} (h : 0 ≤ k) : cutD (r.map ptD) (some k) none = (r.drop k.toNat).map ptD := by rw [cutD_map, cutT_an r h]
theorem at_pt {r : List Pt} {k : Int} (h0 : 0 ≤ k) (h1 : k < r.length) : ∃ p, p ∈ r ∧ atI (r.map ptD) k = some (ptD p) := by
  have hk : k.toNat < r.length := by omega
  refine ⟨r[k.toNat], List.getElem_mem hk, ?_⟩
  unfold atI ixN
  rw [if_pos h0, if_pos (by rw [List.length_map]; omega)]
  show (r.map ptD)[k.toNat]? = _
  rw [List.getElem?_map, List.getElem?_eq_getElem hk]
  rfl
theorem ap3 {a m b : List Pt} {Q : Pt → Prop} (h1 : ∀ p ∈ a, Q p) (h2 : ∀ p ∈ m, Q p) (h3 : ∀ p ∈ b, Q p) : ∀ p ∈ a ++ m ++ b, Q p := fun p hp => by
  rcases List.mem_append.mp hp with hp | hp
  · exact (List.mem_append.mp hp).elim (h1 p) (h2 p)
  · exact h3 p hp
end Lw
namespace Lw
open PySem L2 DL
set_option hygiene false
local macro_rules
  | `(tactic| fail "a") => `(tactic| (with_reducible refine i_seqN ?_; intro NN hNN))
local macro_rules
  | `(tactic| fail "b") => `(tactic| (with_reducible refine i_nxN (by assumption) (by first | (dsimp only [List.set, wipeD]; done) | exact rfl) ?_; (try clear hNN); (try clear NN)))
set_option hygiene true
local macro_rules
  | `(tactic| array_get_dec) => `(tactic| repeat (first
    | (with_reducible refine i_eqEmp ?_)
    | (with_reducible refine rr ?_)
    | (fail "a")
    | (fail "b")
    | (with_reducible refine i_varD (by with_unfolding_all rfl) ?_)
    | (with_reducible refine i_two (by with_unfolding_all rfl) (by with_unfolding_all rfl) ?_)
    | (with_reducible refine i_frz (by with_unfolding_all rfl) ?_)
    | (with_reducible refine i_sto (by with_unfolding_all rfl) ?_ (Nat.le_of_ble_eq_true rfl))
    | (with_reducible refine i_varO (by with_unfolding_all rfl) ?_)
    | (with_reducible refine i_varK (by with_unfolding_all rfl) ?_)
    | (with_reducible refine i_app (by with_unfolding_all rfl) ?_)
    | (with_reducible refine i_ixT (by with_unfolding_all rfl) ?_)
    | (with_reducible refine i_ixL (by with_unfolding_all rfl) ?_)
    | (with_reducible refine i_frz3 (by with_unfolding_all rfl) (by with_unfolding_all rfl) ?_)
    | (with_reducible refine i_len (Nat.le_of_ble_eq_true rfl) ?_)
    | (with_reducible refine i_frzD (by with_unfolding_all rfl) (by with_unfolding_all rfl) ?_)
    | (with_reducible refine i_ok (by with_unfolding_all exact True.intro) ?_)
    | (with_reducible refine i_nm ?_ (Nat.le_of_ble_eq_true rfl))
    | (with_reducible refine i_tu ?_ (by with_unfolding_all rfl))
    | (with_reducible refine i_li ?_ (by with_unfolding_all rfl))
    | (with_reducible refine i_szc (by with_unfolding_all rfl) ?_)
    | (with_reducible refine i_trB ?_)
    | (with_reducible refine i_ifb ?_)
    | (with_reducible refine i_and2 (Nat.le_of_ble_eq_true rfl) (Nat.le_of_ble_eq_true rfl) ?_)
    | (with_reducible refine i_and3 (Nat.le_of_ble_eq_true rfl) (Nat.le_of_ble_eq_true rfl) (Nat.le_of_ble_eq_true rfl) ?_)
    | (with_reducible refine c_ltlen (Nat.le_of_ble_eq_true rfl) ?_)
    | (with_reducible refine i_aug (by with_unfolding_all rfl) ?_)
    | (with_reducible refine ⟨_, _, _, (by with_unfolding_all rfl), (by with_unfolding_all rfl), ?_⟩)
    | (with_reducible refine ⟨_, _, (by with_unfolding_all rfl), (by with_unfolding_all rfl), ?_⟩)
    | (with_reducible refine ⟨_, (by with_unfolding_all rfl), ?_⟩)
    | (with_reducible refine ⟨_, _, (by with_unfolding_all rfl), ?_⟩)
    | (with_reducible refine i_ifT (by with_unfolding_all rfl) ?_)
    | (with_reducible refine i_ifF (by with_unfolding_all rfl) ?_)
    | (with_reducible refine ⟨rfl, rfl, _, _, (by with_unfolding_all rfl), ?_⟩)
    | (with_reducible refine c_pow (by decide) (by decide) (by decide) ?_)
    | (with_reducible refine c_b62 (by decide) (by decide) ?_)
    | (with_reducible refine c_eqb (by assumption) (by assumption) (by assumption) ?_)
    | (with_reducible refine c_neb (by assumption) (by assumption) (by assumption) ?_)
    | (with_reducible refine c_neSS (by with_reducible rfl) ?_)
    | (with_reducible refine c_eqSS (by with_reducible rfl) ?_)
    | (with_reducible refine c_rep (by assumption) ?_)
    | (with_reducible refine i_strI ?_ ?_)
    | (with_reducible refine i_mul ?_ ?_)
    | (with_reducible refine i_mod ?_ ?_)
    | (with_reducible refine i_div ?_ ?_)
    | (with_reducible refine i_pow ?_ ?_)
    | (with_reducible refine i_addT ?_ ?_)
    | (with_reducible refine i_addL ?_ ?_)
    | (with_reducible refine i_nm ?_ ?_)
    | (with_reducible refine i_sto (by with_unfolding_all rfl) ?_ ?_)
    | (with_reducible refine i_eqTurn ?_)
    | (with_reducible refine i_eqPart (by decide +kernel) ?_)
    | (with_reducible refine i_eqSt (by decide +kernel) ?_)
    | (with_reducible refine i_eqSf (by decide +kernel) ?_)
    | (with_reducible refine i_neSt (by decide +kernel) ?_)
    | (with_reducible refine i_neSf (by decide +kernel) ?_)
    | (with_reducible refine i_inOO (by decide +kernel) (by with_unfolding_all rfl) ?_)))
local macro_rules
  | `(tactic| array_mem_dec) => `(tactic| repeat' (first
    | (with_reducible refine i_eqEmp ?_)
    | (with_reducible refine rr ?_)
    | (fail "a")
    | (fail "b")
    | (with_reducible refine i_varD (by with_unfolding_all rfl) ?_)
    | (with_reducible refine i_two (by with_unfolding_all rfl) (by with_unfolding_all rfl) ?_)
    | (with_reducible refine i_frz (by with_unfolding_all rfl) ?_)
    | (with_reducible refine i_sto (by with_unfolding_all rfl) ?_ (Nat.le_of_ble_eq_true rfl))
    | (with_reducible refine i_varO (by with_unfolding_all rfl) ?_)
    | (with_reducible refine i_varK (by with_unfolding_all rfl) ?_)
    | (with_reducible refine i_app (by with_unfolding_all rfl) ?_)
    | (with_reducible refine i_ixT (by with_unfolding_all rfl) ?_)
    | (with_reducible refine i_ixL (by with_unfolding_all rfl) ?_)
    | (with_reducible refine i_frz3 (by with_unfolding_all rfl) (by with_unfolding_all rfl) ?_)
    | (with_reducible refine i_len (Nat.le_of_ble_eq_true rfl) ?_)
    | (with_reducible refine i_frzD (by with_unfolding_all rfl) (by with_unfolding_all rfl) ?_)
    | (with_reducible refine i_ok (by with_unfolding_all exact True.intro) ?_)
    | (with_reducible refine i_nm ?_ (Nat.le_of_ble_eq_true rfl))
    | (with_reducible refine i_tu ?_ (by with_unfolding_all rfl))
    | (with_reducible refine i_li ?_ (by with_unfolding_all rfl))
    | (with_reducible refine i_szc (by with_unfolding_all rfl) ?_)
    | (with_reducible refine i_trB ?_)
    | (with_reducible refine i_ifb ?_)
    | (with_reducible refine i_and2 (Nat.le_of_ble_eq_true rfl) (Nat.le_of_ble_eq_true rfl) ?_)
    | (with_reducible refine i_and3 (Nat.le_of_ble_eq_true rfl) (Nat.le_of_ble_eq_true rfl) (Nat.le_of_ble_eq_true rfl) ?_)
    | (with_reducible refine c_ltlen (Nat.le_of_ble_eq_true rfl) ?_)
    | (with_reducible refine i_aug (by with_unfolding_all rfl) ?_)
    | (with_reducible refine ⟨_, _, _, (by with_unfolding_all rfl), (by with_unfolding_all rfl), ?_⟩)
    | (with_reducible refine ⟨_, _, (by with_unfolding_all rfl), (by with_unfolding_all rfl), ?_⟩)
    | (with_reducible refine ⟨_, (by with_unfolding_all rfl), ?_⟩)
    | (with_reducible refine ⟨_, _, (by with_unfolding_all rfl), ?_⟩)
    | (with_reducible refine i_ifT (by with_unfolding_all rfl) ?_)
    | (with_reducible refine i_ifF (by with_unfolding_all rfl) ?_)
    | (with_reducible refine ⟨rfl, rfl, _, _, (by with_unfolding_all rfl), ?_⟩)
    | (with_reducible refine c_pow (by decide) (by decide) (by decide) ?_)
    | (with_reducible refine c_b62 (by decide) (by decide) ?_)
    | (with_reducible refine c_eqb (by assumption) (by assumption) (by assumption) ?_)
    | (with_reducible refine c_neb (by assumption) (by assumption) (by assumption) ?_)
    | (with_reducible refine c_neSS (by with_reducible rfl) ?_)
    | (with_reducible refine c_eqSS (by with_reducible rfl) ?_)
    | (with_reducible refine c_rep (by assumption) ?_)
    | (with_reducible refine i_eqTurn ?_)
    | (with_reducible refine i_eqPart (by decide +kernel) ?_)
    | (with_reducible refine i_eqSt (by decide +kernel) ?_)
    | (with_reducible refine i_eqSf (by decide +kernel) ?_)
    | (with_reducible refine i_neSt (by decide +kernel) ?_)
    | (with_reducible refine i_neSf (by decide +kernel) ?_)
    | (with_reducible refine i_inOO (by decide +kernel) (by with_unfolding_all rfl) ?_)
    | (with_reducible refine i_eqL0 (by assumption) ?_)
    | (with_reducible refine i_neL0 (by assumption) ?_)
    | (with_reducible refine i_ifNE ?_ ?_ <;> intro h <;> try (first | (exfalso; contradiction) | (exfalso; omega)))
    | (with_reducible refine ⟨len_lt (by omega), ?_⟩)
    | (with_reducible refine i_mulT ?_ (by decide) (by decide) (by omega))
    | (with_reducible exact len_ok (Nat.le_of_ble_eq_true rfl))
    | (with_reducible refine i_mulT ?_ (by decide) (by decide) (Nat.le_trans cut_len (by omega)))
    | (with_reducible refine i_ifE ?_ ?_ <;> intro h <;> try (first | (exfalso; contradiction) | (exfalso; omega)))
    | (with_reducible refine i_eqT0 (by assumption) ?_)
    | (with_reducible refine i_ixT (by assumption) ?_)
    | (with_reducible refine i_ixL (by assumption) ?_)
    | (with_reducible refine i_ifD ?_ ?_ <;> intro h <;> try (exfalso; omega))
    | (with_reducible refine i_ifDN ?_ ?_ <;> intro h <;> try (exfalso; omega))
    | (with_reducible refine i_eq ?_ (by assumption) (by assumption))
    | (with_reducible refine i_ne ?_ (by assumption) (by assumption))
    | (with_reducible refine i_if2 ?_ ?_ <;> intro h)
    | (with_reducible refine i_strI ?_ ?_)
    | (with_reducible refine i_mul ?_ ?_)
    | (with_reducible refine i_mod ?_ ?_)
    | (with_reducible refine i_div ?_ ?_)
    | (with_reducible refine i_pow ?_ ?_)
    | (with_reducible refine i_addT ?_ ?_)
    | (with_reducible refine i_addL ?_ ?_)
    | (with_reducible refine i_nm ?_ ?_)
    | (with_reducible refine i_sto (by with_unfolding_all rfl) ?_ ?_)))
--++ with_reducible refine i_eqEmp ?_
--+ with_reducible refine i_eqTurn ?_
--+ with_reducible refine i_eqPart (by decide +kernel) ?_
--+ with_reducible refine i_eqSt (by decide +kernel) ?_
--+ with_reducible refine i_eqSf (by decide +kernel) ?_
--+ with_reducible refine i_neSt (by decide +kernel) ?_
--+ with_reducible refine i_neSf (by decide +kernel) ?_
--+ with_reducible refine i_inOO (by decide +kernel) (by with_unfolding_all rfl) ?_
theorem spec__law_near : ∀ args G, args.length = 2 → S__law_near args G → dDef 5 (B__law_near S__law_draw S__law_part S__law_pick) args G := by
  rintro args G hl ⟨r, c, rfl, hr, hb, ⟨c2, c35⟩, hG⟩
  have hrl : (r.map ptD).length = r.length := List.length_map _
  unfold dDef B__law_near rowD
  array_mem_dec
  · rename_i hE
    have e : r = [] := List.isEmpty_iff.mp hE
    subst e
    refine ⟨[0, 1, 2], 2, rfl, by simp, by simp, by decide, fun p hp => ?_⟩
    array_mem_dec
    exact hG [p] (by simp) (fun q hq => by rw [List.mem_singleton.mp hq]; exact bd_mono (by omega) hp)
  · rename_i hE
    have hne : r ≠ [] := fun h => by rw [h] at hE; cases hE
    have hpos : 0 < r.length := List.length_pos_iff.mpr hne
    refine i_draw (by omega) (by omega) fun k k0 k1 => ?_
    array_mem_dec
    refine i_draw (by omega) (by omega) fun w w0 w1 => ?_
    obtain ⟨p, hpm, hat⟩ := at_pt k0 (show k < r.length by omega)
    have hp := hb p hpm
    have htk : ∀ j, ∀ p ∈ r.take j, bd (2 * c + 2) p := fun j p h => bd_mono (by omega) (hb p (List.mem_of_mem_take h))
    have hdk : ∀ j, ∀ p ∈ r.drop j, bd (2 * c + 2) p := fun j p h => bd_mono (by omega) (hb p (List.mem_of_mem_drop h))
    have lsum : ∀ j, (r.take j).length + (r.drop j).length = r.length := fun j => by rw [← List.length_append, List.take_append_drop]
    have ldrop : ∀ j, (r.drop (j + 1)).length ≤ (r.drop j).length := fun j => by rw [List.length_drop, List.length_drop]; omega
    have fin : ∀ (m b : List Pt), m.length + b.length ≤ (r.drop k.toNat).length + 1 → (∀ q ∈ m, bd (2 * c + 2) q) → (∀ q ∈ b, bd (2 * c + 2) q) → G (.dat (.tuple ((r.take k.toNat).map ptD ++ m.map ptD ++ b.map ptD))) := fun m b hl2 hm hbb => by
      have := hG (r.take k.toNat ++ m ++ b) (by have := lsum k.toNat; simp only [List.length_append]; omega) (ap3 (htk _) hm hbb)
      unfold rowD at this
      rw [List.map_append, List.map_append] at this
      exact this
    have zz : ∀ {xs ys : List PyData}, xs.length ≤ 2000 → ys.length ≤ 2000 → xs.length + ys.length ≤ sizeLine := fun h1 h2 => szle (by omega)
    have d1 : (r.drop (k.toNat + 1)).length + 1 = (r.drop k.toNat).length := by rw [List.length_drop, List.length_drop]; omega
    have ek1 : (k + 1).toNat = k.toNat + 1 := by omega
    have ek2 : (k + 2).toNat = k.toNat + 2 := by omega
    have ltk : ∀ j, ((r.take j).map ptD).length ≤ 900 := fun j => by rw [List.length_map, List.length_take]; omega
    have ldk : ∀ j, ((r.drop j).map ptD).length ≤ 900 := fun j => by rw [List.length_map, List.length_drop]; omega
    have cl : ∀ lo hi, (cutD (r.map ptD) lo hi).length ≤ 900 := fun lo hi => by rw [cutD_map, List.length_map]; exact Nat.le_trans (cutT_le r lo hi) hr
    have l1 := cl none (some k)
    have l2 := cl (some (k + 1)) none
    have l3 := cl (some k) none
    have l4 := cl (some (k + 1)) (some (k + 2))
    have l5 := cl (some (k + 2)) none
    have C1 : cutD (r.map ptD) none (some k) = (r.take k.toNat).map ptD := cut_lo r k0
    have C2 : cutD (r.map ptD) (some (k + 1)) none = (r.drop (k.toNat + 1)).map ptD := by rw [cut_hi r (by omega), ek1]
    have C3 : cutD (r.map ptD) (some k) none = (r.drop k.toNat).map ptD := cut_hi r k0
    have C4 : cutD (r.map ptD) (some (k + 1)) (some (k + 2)) = ((r.drop (k.toNat + 1)).take 1).map ptD := by rw [cutD_map, cutT_ab r (by omega) (by omega), ek1, ek2, show k.toNat + 2 - (k.toNat + 1) = 1 by omega]
    have C5 : cutD (r.map ptD) (some (k + 2)) none = (r.drop (k.toNat + 2)).map ptD := by rw [cut_hi r (by omega), ek2]
    have hp2 : bd (2 * c + 2) p := bd_mono (by omega) hp
    have grev : G (.dat (.tuple (r.map ptD).reverse)) := by
      have := hG r.reverse (by rw [List.length_reverse]; omega) (fun q hq => bd_mono (by omega) (hb q (List.mem_reverse.mp hq)))
      unfold rowD at this
      rwa [List.map_reverse] at this
    have g3 : G (.dat (.tuple (cutD (r.map ptD) none (some k) ++ cutD (r.map ptD) (some (k + 1)) none))) := by
      rw [C1, C2]
      have := fin [] (r.drop (k.toNat + 1)) (by simp only [List.length_nil]; omega) (fun _ h => nomatch h) (hdk _)
      simpa using this
    have g4 : G (.dat (.tuple (cutD (r.map ptD) none (some k) ++ [ptD p, ptD p] ++ cutD (r.map ptD) (some (k + 1)) none))) := by
      rw [C1, C2]
      exact fin [p, p] (r.drop (k.toNat + 1)) (by simp only [List.length_cons, List.length_nil]; omega) (all_cons hp2 (all_cons hp2 all_nil)) (hdk _)
    have g5 : G (.dat (.tuple (cutD (r.map ptD) none (some k) ++ [.tuple [.str "turn"]] ++ cutD (r.map ptD) (some k) none))) := by
      rw [C1, C3]
      exact fin [.tn] (r.drop k.toNat) (by simp only [List.length_cons, List.length_nil]; omega) (all_cons trivial all_nil) (hdk _)
    have g6 : G (.dat (.tuple (cutD (r.map ptD) none (some k) ++ cutD (r.map ptD) (some (k + 1)) (some (k + 2)) ++ [ptD p] ++ cutD (r.map ptD) (some (k + 2)) none))) := by
      rw [C1, C4, C5]
      have := fin ((r.drop (k.toNat + 1)).take 1 ++ [p]) (r.drop (k.toNat + 2)) (by
        have h1 : ((r.drop (k.toNat + 1)).take 1).length + (r.drop (k.toNat + 2)).length = (r.drop (k.toNat + 1)).length := by
          rw [List.length_take, List.length_drop, List.length_drop]; omega
        simp only [List.length_append, List.length_cons, List.length_nil]; omega) (fun q hq => by
        rcases List.mem_append.mp hq with hq | hq
        · exact hdk _ q (List.mem_of_mem_take hq)
        · rw [List.mem_singleton.mp hq]; exact hp2) (hdk _)
      rw [List.map_append, ← List.append_assoc] at this
      exact this
    have gw : ∀ q : Pt, bd (2 * c + 2) q → G (.dat (.tuple (cutD (r.map ptD) none (some k) ++ [ptD q] ++ cutD (r.map ptD) (some (k + 1)) none))) := fun q hq => by
      rw [C1, C2]
      exact fin [q] (r.drop (k.toNat + 1)) (by simp only [List.length_cons, List.length_nil]; omega) (all_cons hq all_nil) (hdk _)
    clear fin hG C1 C2 C3 C4 C5 hb
    cases p with
    | tn =>
      dsimp only [ptD] at hat
      array_mem_dec
      all_goals first
        | exact grev
        | exact g3
        | exact g4
        | exact g5
        | exact g6
        | exact szle (by omega)
        | exact szle (by simp only [List.length_append, List.length_cons, List.length_nil]; omega)
        | trace_state
    | on n =>
      have hn : 0 ≤ n ∧ n ≤ c := hp
      dsimp only [ptD] at hat
      array_mem_dec
      all_goals first
        | exact grev
        | exact g3
        | exact g4
        | exact g5
        | exact g6
        | exact szle (by omega)
        | exact szle (by simp only [List.length_append, List.length_cons, List.length_nil]; omega)
        | skip
      refine ⟨_, rfl, by simp, by simp, fun x hx => ?_⟩
      obtain ⟨y, rfl, y1⟩ : ∃ y : Int, x = .int y ∧ n + y ≤ 2 * c + 2 := by
        simp only [List.mem_cons, List.not_mem_nil, or_false] at hx
        rcases hx with rfl | rfl | rfl | rfl | rfl <;> exact ⟨_, rfl, by omega⟩
      clear hx
      have hm : 0 ≤ max 0 (n + y) ∧ max 0 (n + y) ≤ 2 * c + 2 := by omega
      array_mem_dec
      · exact gw (.on _) hm
      · exact szle (by simp only [List.length_append, List.length_cons, List.length_nil]; omega)
      · exact szle (by simp only [List.length_cons, List.length_nil]; omega)
      refine ⟨_, rfl, by simp, by simp, fun x hx => ?_⟩
      simp only [List.mem_cons, List.not_mem_nil, or_false] at hx
      rcases hx with rfl | rfl | rfl
      all_goals array_mem_dec
      all_goals first
        | exact gw (.on _) hm
        | exact gw (.off _) hm
        | exact gw (.dl _) hm
        | exact szle (by simp only [List.length_append, List.length_cons, List.length_nil]; omega)
        | exact szle (by simp only [List.length_cons, List.length_nil]; omega)
        | trace_state
    | off n =>
      have hn : 0 ≤ n ∧ n ≤ c := hp
      dsimp only [ptD] at hat
      array_mem_dec
      all_goals first
        | exact grev
        | exact g3
        | exact g4
        | exact g5
        | exact g6
        | exact szle (by omega)
        | exact szle (by simp only [List.length_append, List.length_cons, List.length_nil]; omega)
        | skip
      refine ⟨_, rfl, by simp, by simp, fun x hx => ?_⟩
      obtain ⟨y, rfl, y1⟩ : ∃ y : Int, x = .int y ∧ n + y ≤ 2 * c + 2 := by
        simp only [List.mem_cons, List.not_mem_nil, or_false] at hx
        rcases hx with rfl | rfl | rfl | rfl | rfl <;> exact ⟨_, rfl, by omega⟩
      clear hx
      have hm : 0 ≤ max 0 (n + y) ∧ max 0 (n + y) ≤ 2 * c + 2 := by omega
      array_mem_dec
      · exact gw (.off _) hm
      · exact szle (by simp only [List.length_append, List.length_cons, List.length_nil]; omega)
      · exact szle (by simp only [List.length_cons, List.length_nil]; omega)
      refine ⟨_, rfl, by simp, by simp, fun x hx => ?_⟩
      simp only [List.mem_cons, List.not_mem_nil, or_false] at hx
      rcases hx with rfl | rfl | rfl
      all_goals array_mem_dec
      all_goals first
        | exact gw (.on _) hm
        | exact gw (.off _) hm
        | exact gw (.dl _) hm
        | exact szle (by simp only [List.length_append, List.length_cons, List.length_nil]; omega)
        | exact szle (by simp only [List.length_cons, List.length_nil]; omega)
        | trace_state
    | dl n =>
      have hn : 0 ≤ n ∧ n ≤ c := hp
      dsimp only [ptD] at hat
      array_mem_dec
      all_goals first
        | exact grev
        | exact g3
        | exact g4
        | exact g5
        | exact g6
        | exact szle (by omega)
        | exact szle (by simp only [List.length_append, List.length_cons, List.length_nil]; omega)
        | skip
      refine ⟨_, rfl, by simp, by simp, fun x hx => ?_⟩
      obtain ⟨y, rfl, y1⟩ : ∃ y : Int, x = .int y ∧ n + y ≤ 2 * c + 2 := by
        simp only [List.mem_cons, List.not_mem_nil, or_false] at hx
        rcases hx with rfl | rfl | rfl | rfl | rfl <;> exact ⟨_, rfl, by omega⟩
      clear hx
      have hm : 0 ≤ max 0 (n + y) ∧ max 0 (n + y) ≤ 2 * c + 2 := by omega
      array_mem_dec
      · exact gw (.dl _) hm
      · exact szle (by simp only [List.length_append, List.length_cons, List.length_nil]; omega)
      · exact szle (by simp only [List.length_cons, List.length_nil]; omega)
      refine ⟨_, rfl, by simp, by simp, fun x hx => ?_⟩
      simp only [List.mem_cons, List.not_mem_nil, or_false] at hx
      rcases hx with rfl | rfl | rfl
      all_goals array_mem_dec
      all_goals first
        | exact gw (.on _) hm
        | exact gw (.off _) hm
        | exact gw (.dl _) hm
        | exact szle (by simp only [List.length_append, List.length_cons, List.length_nil]; omega)
        | exact szle (by simp only [List.length_cons, List.length_nil]; omega)
        | trace_state
end Lw
namespace Lw
open PySem L2 DL
set_option hygiene false
local macro_rules
  | `(tactic| fail "a") => `(tactic| (with_reducible refine i_seqN ?_; intro NN hNN))
local macro_rules
  | `(tactic| fail "b") => `(tactic| (with_reducible refine i_nxN (by assumption) (by first | (dsimp only [List.set, wipeD]; done) | exact rfl) ?_; (try clear hNN); (try clear NN)))
set_option hygiene true
local macro_rules
  | `(tactic| array_get_dec) => `(tactic| repeat (first
    | (with_reducible refine rr ?_)
    | (fail "a")
    | (fail "b")
    | (with_reducible refine i_varD (by with_unfolding_all rfl) ?_)
    | (with_reducible refine i_two (by with_unfolding_all rfl) (by with_unfolding_all rfl) ?_)
    | (with_reducible refine i_frz (by with_unfolding_all rfl) ?_)
    | (with_reducible refine i_sto (by with_unfolding_all rfl) ?_ (Nat.le_of_ble_eq_true rfl))
    | (with_reducible refine i_varO (by with_unfolding_all rfl) ?_)
    | (with_reducible refine i_varK (by with_unfolding_all rfl) ?_)
    | (with_reducible refine i_app (by with_unfolding_all rfl) ?_)
    | (with_reducible refine i_ixT (by with_unfolding_all rfl) ?_)
    | (with_reducible refine i_ixL (by with_unfolding_all rfl) ?_)
    | (with_reducible refine i_frz3 (by with_unfolding_all rfl) (by with_unfolding_all rfl) ?_)
    | (with_reducible refine i_len (Nat.le_of_ble_eq_true rfl) ?_)
    | (with_reducible refine i_frzD (by with_unfolding_all rfl) (by with_unfolding_all rfl) ?_)
    | (with_reducible refine i_ok (by with_unfolding_all exact True.intro) ?_)
    | (with_reducible refine i_nm ?_ (Nat.le_of_ble_eq_true rfl))
    | (with_reducible refine i_tu ?_ (by with_unfolding_all rfl))
    | (with_reducible refine i_li ?_ (by with_unfolding_all rfl))
    | (with_reducible refine i_szc (by with_unfolding_all rfl) ?_)
    | (with_reducible refine i_trB ?_)
    | (with_reducible refine i_ifb ?_)
    | (with_reducible refine i_and2 (Nat.le_of_ble_eq_true rfl) (Nat.le_of_ble_eq_true rfl) ?_)
    | (with_reducible refine i_and3 (Nat.le_of_ble_eq_true rfl) (Nat.le_of_ble_eq_true rfl) (Nat.le_of_ble_eq_true rfl) ?_)
    | (with_reducible refine c_ltlen (Nat.le_of_ble_eq_true rfl) ?_)
    | (with_reducible refine i_aug (by with_unfolding_all rfl) ?_)
    | (with_reducible refine ⟨_, _, _, (by with_unfolding_all rfl), (by with_unfolding_all rfl), ?_⟩)
    | (with_reducible refine ⟨_, _, (by with_unfolding_all rfl), (by with_unfolding_all rfl), ?_⟩)
    | (with_reducible refine ⟨_, (by with_unfolding_all rfl), ?_⟩)
    | (with_reducible refine ⟨_, _, (by with_unfolding_all rfl), ?_⟩)
    | (with_reducible refine i_ifT (by with_unfolding_all rfl) ?_)
    | (with_reducible refine i_ifF (by with_unfolding_all rfl) ?_)
    | (with_reducible refine ⟨rfl, rfl, _, _, (by with_unfolding_all rfl), ?_⟩)
    | (with_reducible refine c_pow (by decide) (by decide) (by decide) ?_)
    | (with_reducible refine c_b62 (by decide) (by decide) ?_)
    | (with_reducible refine c_eqb (by assumption) (by assumption) (by assumption) ?_)
    | (with_reducible refine c_neb (by assumption) (by assumption) (by assumption) ?_)
    | (with_reducible refine c_neSS (by with_reducible rfl) ?_)
    | (with_reducible refine c_eqSS (by with_reducible rfl) ?_)
    | (with_reducible refine c_rep (by assumption) ?_)
    | (with_reducible refine i_strI ?_ ?_)
    | (with_reducible refine i_mul ?_ ?_)
    | (with_reducible refine i_mod ?_ ?_)
    | (with_reducible refine i_div ?_ ?_)
    | (with_reducible refine i_pow ?_ ?_)
    | (with_reducible refine i_addT ?_ ?_)
    | (with_reducible refine i_addL ?_ ?_)
    | (with_reducible refine i_nm ?_ ?_)
    | (with_reducible refine i_sto (by with_unfolding_all rfl) ?_ ?_)))
def S__law_back : DSp := fun args G => ∃ (r : List Pt) (c : Int), args = [.dk, .dat (rowD r)] ∧ r.length ≤ 150 ∧ (∀ p ∈ r, bd c p) ∧ (0 ≤ c ∧ c ≤ 10 ^ 35) ∧ ∀ o : List Pt, o.length ≤ r.length + 2 → (∀ p ∈ o, bd (2 * c) p) → G (.dat (rowD o))
theorem swb {c : Int} (hc : 0 ≤ c) {p q r : Pt} {t : List Pt} (b1 : bd c p) (b2 : bd c q) (b3 : bd c r) (h : swn p q r = some t) : t.length ≤ 3 ∧ ∀ p ∈ t, bd (2 * c) p := by
  have two : ∀ p : Pt, bd c p → bd (2 * c) p := fun p h => bd_mono (by omega) h
  have key : ∀ a b d : Int, (0 ≤ a ∧ a ≤ c) → (0 ≤ b ∧ b ≤ c) → (0 ≤ d ∧ d ≤ c) → (if 1 ≤ b ∧ b ≤ a then (if b ≤ d then some [Pt.on a, .dl b, .on (d - b)] else some [Pt.on a, .dl d, .off (b - d)]) else none) = some t → t.length ≤ 3 ∧ ∀ p ∈ t, bd (2 * c) p := fun a b d h1 h2 h3 e => by
    split at e
    · split at e
      · cases e; exact ⟨Nat.le_refl 3, all_cons (two (.on a) h1) (all_cons (two (.dl b) h2) (all_cons (show bd _ (.on (d - b)) from ⟨by omega, by omega⟩) all_nil))⟩
      · cases e; exact ⟨Nat.le_refl 3, all_cons (two (.on a) h1) (all_cons (two (.dl d) h3) (all_cons (show bd _ (.off (b - d)) from ⟨by omega, by omega⟩) all_nil))⟩
    · cases e
  have key2 : ∀ a b d : Int, (0 ≤ a ∧ a ≤ c) → (0 ≤ b ∧ b ≤ c) → (0 ≤ d ∧ d ≤ c) → (if 1 ≤ b ∧ b ≤ a then (if b ≤ d then some [Pt.off a, .dl b, .off (d - b)] else some [Pt.off a, .dl d, .on (b - d)]) else none) = some t → t.length ≤ 3 ∧ ∀ p ∈ t, bd (2 * c) p := fun a b d h1 h2 h3 e => by
    split at e
    · split at e
      · cases e; exact ⟨Nat.le_refl 3, all_cons (two (.off a) h1) (all_cons (two (.dl b) h2) (all_cons (show bd _ (.off (d - b)) from ⟨by omega, by omega⟩) all_nil))⟩
      · cases e; exact ⟨Nat.le_refl 3, all_cons (two (.off a) h1) (all_cons (two (.dl d) h3) (all_cons (show bd _ (.on (b - d)) from ⟨by omega, by omega⟩) all_nil))⟩
    · cases e
  cases p <;> cases q <;> cases r
  all_goals first
    | (simp [swn] at h; done)
    | (rw [swn1] at h; exact key _ _ _ b1 b2 b3 h)
    | (rw [swn2] at h; exact key2 _ _ _ b1 b2 b3 h)
theorem zr_if {n : Int} {t : List Pt} (h : (if n = 0 then some ([] : List Pt) else none) = some t) : t = [] := by
  split at h
  · exact (Option.some.inj h).symm
  · cases h
theorem zr_some {p : Pt} {t : List Pt} (h : zr p = some t) : t = [] := by
  cases p with
  | on n => exact zr_if h
  | off n => exact zr_if h
  | dl n => exact zr_if h
  | tn => cases h
theorem outs_bd {c : Int} (hc : 0 ≤ c) {m t : List Pt} (hm : ∀ p ∈ m, bd c p) (h : t ∈ outs m) : t.length ≤ m.length ∧ ∀ p ∈ t, bd (2 * c) p := by
  have two : ∀ p : Pt, bd c p → bd (2 * c) p := fun p h => bd_mono (by omega) h
  rcases m with _ | ⟨p, _ | ⟨q, _ | ⟨r, _ | ⟨s, m⟩⟩⟩⟩
  · exact nomatch h
  · have h' : t ∈ (zr p).toList := h
    rw [Option.mem_toList] at h'
    have e : t = [] := zr_some h'
    rw [e]
    exact ⟨Nat.zero_le _, all_nil⟩
  · have bp := hm p (by simp)
    have bq := hm q (by simp)
    have h' : t ∈ (put p q).toList ++ ((chg p q).toList ++ ((gone p q).toList ++ (led p q).toList)) := h
    simp only [List.mem_append, Option.mem_toList] at h'
    rcases h' with h' | h' | h' | h'
    · have add : ∀ a b : Int, (0 ≤ a ∧ a ≤ c) → (0 ≤ b ∧ b ≤ c) → 0 ≤ a + b ∧ a + b ≤ 2 * c := fun a b h1 h2 => by omega
      cases p <;> cases q
      all_goals first
        | (simp [put] at h'; done)
        | (have e := (Option.some.inj h').symm
           rw [e]
           exact ⟨by show 1 ≤ 2; decide, all_cons (show bd (2 * c) _ from add _ _ bp bq) all_nil⟩)
    · unfold chg at h'
      split at h'
      · rw [← Option.some.inj h']; exact ⟨Nat.le_refl 2, all_cons (two _ bq) (all_cons (two _ bp) all_nil)⟩
      · cases h'
    · cases p <;> cases q
      all_goals first
        | (simp [gone] at h'; done)
        | (have e := (Option.some.inj h').symm
           rw [e]
           exact ⟨Nat.zero_le _, all_nil⟩)
    · cases p <;> cases q
      all_goals first
        | (simp [led] at h'; done)
        | (have e := (Option.some.inj h').symm
           rw [e]
           exact ⟨Nat.le_refl 2, all_cons (show bd (2 * c) _ from ⟨bq.1, by have := bq.2; omega⟩) (all_cons trivial all_nil)⟩)
  · have h' : t ∈ (swn p q r).toList := h
    rw [Option.mem_toList] at h'
    exact swb hc (hm p (by simp)) (hm q (by simp)) (hm r (by simp)) h'
  · exact nomatch h
theorem leads_bd {c : Int} (hc : 0 ≤ c) {r o : List Pt} (hr : ∀ p ∈ r, bd c p) (h : o ∈ leads r) : o.length ≤ r.length ∧ ∀ p ∈ o, bd (2 * c) p := by
  obtain ⟨a, m, b, m', rfl, rfl, hm⟩ := mem_leads.mp h
  have two : ∀ p : Pt, bd c p → bd (2 * c) p := fun p h => bd_mono (by omega) h
  obtain ⟨h1, h2⟩ := outs_bd hc (fun p hp => hr p (by simp [hp])) hm
  refine ⟨by simp only [List.length_append]; omega, ap3 (fun p hp => two p (hr p (by simp [hp]))) h2 (fun p hp => two p (hr p (by simp [hp])))⟩
theorem leads_len : ∀ (s a : List Pt), (leadsFrom a s).length ≤ 6 * s.length
  | [], _ => Nat.le_refl 0
  | p :: s, a => by
    have ih := leads_len s (a ++ [p])
    have h1 := one_len (zr p)
    have h2 := at2_len a p s
    have h3 := at3_len a p s
    show (leadsAt a p s ++ leadsFrom (a ++ [p]) s).length ≤ _
    unfold leadsAt
    simp only [List.length_append, List.length_map, List.length_cons]
    omega
end Lw
namespace Lw
open PySem L2 DL
theorem lc_each {g : DTG} {tA : DTT} {T : DTE} {vs : List Nat} {Kc : List PyData → DS → Prop} {ρ0 ρ : DS} {ds : List PyData} (Q : PyData → Prop) (hρ : wipeD ρ vs = ρ0) (hl : ds.length ≤ sizeLine) (k : ∀ (ρ' : DS) (ys : List PyData), wipeD ρ' vs = ρ0 → ys.length = ds.length → (∀ y ∈ ys, Q y) → Kc ys ρ')
    (hs : ∀ a ∈ ds, ∀ (acc : List PyData) (K : List PyData → DS → Prop), acc.length < sizeLine → (∀ y ρ, Q y → wipeD ρ vs = ρ0 → K (acc ++ [y]) ρ) →
      g a ρ0 fun ρ1 => tA ρ1 fun b ρ2 => if b = true then T ρ2 fun r ρ3 => ∃ d' ρ4, frz1 ρ3 r = some (.dat d', ρ4) ∧ acc.length < sizeLine ∧ K (acc ++ [d']) ρ4 else K acc ρ2) : lcT g tA T vs Kc ds [] ρ := by
  have := lc_rel (g := g) (tA := tA) (T := T) (vs := vs) (Kc := Kc) (ρ0 := ρ0) (ρ := ρ) (e := id) (xs := ds) (fun _ y => Q y) hρ hl (fun ρ' ys h1 h2 h3 => k ρ' ys h1 h2 fun y hy => by
    obtain ⟨i, hi, rfl⟩ := List.mem_iff_getElem.mp hy
    exact h3 i (ds[i]'(by omega)) _ (List.getElem?_eq_getElem (by omega)) (List.getElem?_eq_getElem hi)) hs
  rwa [List.map_id] at this
theorem of_each {α : Type} {f : α → PyData} {P : α → Prop} : ∀ {ys : List PyData}, (∀ y ∈ ys, ∃ a, y = f a ∧ P a) → ∃ xs : List α, ys = xs.map f ∧ ∀ a ∈ xs, P a
  | [], _ => ⟨[], rfl, fun _ h => nomatch h⟩
  | y :: ys, h => by
    obtain ⟨xs, e, hx⟩ := of_each (fun z hz => h z (List.mem_cons_of_mem _ hz))
    obtain ⟨a, ea, ha⟩ := h y List.mem_cons_self
    exact ⟨a :: xs, by rw [ea, e]; rfl, all_cons ha hx⟩
end Lw
namespace Lw
open PySem L2 DL
set_option hygiene false
local macro_rules
  | `(tactic| fail "a") => `(tactic| (with_reducible refine i_seqN ?_; intro NN hNN))
local macro_rules
  | `(tactic| fail "b") => `(tactic| (with_reducible refine i_nxN (by assumption) (by first | (dsimp only [List.set, wipeD]; done) | exact rfl) ?_; (try clear hNN); (try clear NN)))
set_option hygiene true
local macro_rules
  | `(tactic| array_get_dec) => `(tactic| repeat (first
    | (with_reducible refine rr ?_)
    | (fail "a")
    | (fail "b")
    | (with_reducible refine i_varD (by with_unfolding_all rfl) ?_)
    | (with_reducible refine i_two (by with_unfolding_all rfl) (by with_unfolding_all rfl) ?_)
    | (with_reducible refine i_frz (by with_unfolding_all rfl) ?_)
    | (with_reducible refine i_sto (by with_unfolding_all rfl) ?_ (Nat.le_of_ble_eq_true rfl))
    | (with_reducible refine i_varO (by with_unfolding_all rfl) ?_)
    | (with_reducible refine i_varK (by with_unfolding_all rfl) ?_)
    | (with_reducible refine i_app (by with_unfolding_all rfl) ?_)
    | (with_reducible refine i_ixT (by with_unfolding_all rfl) ?_)
    | (with_reducible refine i_ixL (by with_unfolding_all rfl) ?_)
    | (with_reducible refine i_frz3 (by with_unfolding_all rfl) (by with_unfolding_all rfl) ?_)
    | (with_reducible refine i_len (Nat.le_of_ble_eq_true rfl) ?_)
    | (with_reducible refine i_frzD (by with_unfolding_all rfl) (by with_unfolding_all rfl) ?_)
    | (with_reducible refine i_ok (by with_unfolding_all exact True.intro) ?_)
    | (with_reducible refine i_nm ?_ (Nat.le_of_ble_eq_true rfl))
    | (with_reducible refine i_tu ?_ (by with_unfolding_all rfl))
    | (with_reducible refine i_li ?_ (by with_unfolding_all rfl))
    | (with_reducible refine i_szc (by with_unfolding_all rfl) ?_)
    | (with_reducible refine i_trB ?_)
    | (with_reducible refine i_ifb ?_)
    | (with_reducible refine i_and2 (Nat.le_of_ble_eq_true rfl) (Nat.le_of_ble_eq_true rfl) ?_)
    | (with_reducible refine i_and3 (Nat.le_of_ble_eq_true rfl) (Nat.le_of_ble_eq_true rfl) (Nat.le_of_ble_eq_true rfl) ?_)
    | (with_reducible refine c_ltlen (Nat.le_of_ble_eq_true rfl) ?_)
    | (with_reducible refine i_aug (by with_unfolding_all rfl) ?_)
    | (with_reducible refine ⟨_, _, _, (by with_unfolding_all rfl), (by with_unfolding_all rfl), ?_⟩)
    | (with_reducible refine ⟨_, _, (by with_unfolding_all rfl), (by with_unfolding_all rfl), ?_⟩)
    | (with_reducible refine ⟨_, (by with_unfolding_all rfl), ?_⟩)
    | (with_reducible refine ⟨_, _, (by with_unfolding_all rfl), ?_⟩)
    | (with_reducible refine i_ifT (by with_unfolding_all rfl) ?_)
    | (with_reducible refine i_ifF (by with_unfolding_all rfl) ?_)
    | (with_reducible refine ⟨rfl, rfl, _, _, (by with_unfolding_all rfl), ?_⟩)
    | (with_reducible refine c_pow (by decide) (by decide) (by decide) ?_)
    | (with_reducible refine c_b62 (by decide) (by decide) ?_)
    | (with_reducible refine c_eqb (by assumption) (by assumption) (by assumption) ?_)
    | (with_reducible refine c_neb (by assumption) (by assumption) (by assumption) ?_)
    | (with_reducible refine c_neSS (by with_reducible rfl) ?_)
    | (with_reducible refine c_eqSS (by with_reducible rfl) ?_)
    | (with_reducible refine c_rep (by assumption) ?_)
    | (with_reducible refine i_strI ?_ ?_)
    | (with_reducible refine i_mul ?_ ?_)
    | (with_reducible refine i_mod ?_ ?_)
    | (with_reducible refine i_div ?_ ?_)
    | (with_reducible refine i_pow ?_ ?_)
    | (with_reducible refine i_addT ?_ ?_)
    | (with_reducible refine i_addL ?_ ?_)
    | (with_reducible refine i_nm ?_ ?_)
    | (with_reducible refine i_sto (by with_unfolding_all rfl) ?_ ?_)
    | (with_reducible refine i_eqTurn ?_)
    | (with_reducible refine i_eqPart (by decide +kernel) ?_)))
local macro_rules
  | `(tactic| array_mem_dec) => `(tactic| repeat' (first
    | (with_reducible refine rr ?_)
    | (fail "a")
    | (fail "b")
    | (with_reducible refine i_varD (by with_unfolding_all rfl) ?_)
    | (with_reducible refine i_two (by with_unfolding_all rfl) (by with_unfolding_all rfl) ?_)
    | (with_reducible refine i_frz (by with_unfolding_all rfl) ?_)
    | (with_reducible refine i_sto (by with_unfolding_all rfl) ?_ (Nat.le_of_ble_eq_true rfl))
    | (with_reducible refine i_varO (by with_unfolding_all rfl) ?_)
    | (with_reducible refine i_varK (by with_unfolding_all rfl) ?_)
    | (with_reducible refine i_app (by with_unfolding_all rfl) ?_)
    | (with_reducible refine i_ixT (by with_unfolding_all rfl) ?_)
    | (with_reducible refine i_ixL (by with_unfolding_all rfl) ?_)
    | (with_reducible refine i_frz3 (by with_unfolding_all rfl) (by with_unfolding_all rfl) ?_)
    | (with_reducible refine i_len (Nat.le_of_ble_eq_true rfl) ?_)
    | (with_reducible refine i_frzD (by with_unfolding_all rfl) (by with_unfolding_all rfl) ?_)
    | (with_reducible refine i_ok (by with_unfolding_all exact True.intro) ?_)
    | (with_reducible refine i_nm ?_ (Nat.le_of_ble_eq_true rfl))
    | (with_reducible refine i_tu ?_ (by with_unfolding_all rfl))
    | (with_reducible refine i_li ?_ (by with_unfolding_all rfl))
    | (with_reducible refine i_szc (by with_unfolding_all rfl) ?_)
    | (with_reducible refine i_trB ?_)
    | (with_reducible refine i_ifb ?_)
    | (with_reducible refine i_and2 (Nat.le_of_ble_eq_true rfl) (Nat.le_of_ble_eq_true rfl) ?_)
    | (with_reducible refine i_and3 (Nat.le_of_ble_eq_true rfl) (Nat.le_of_ble_eq_true rfl) (Nat.le_of_ble_eq_true rfl) ?_)
    | (with_reducible refine c_ltlen (Nat.le_of_ble_eq_true rfl) ?_)
    | (with_reducible refine i_aug (by with_unfolding_all rfl) ?_)
    | (with_reducible refine ⟨_, _, _, (by with_unfolding_all rfl), (by with_unfolding_all rfl), ?_⟩)
    | (with_reducible refine ⟨_, _, (by with_unfolding_all rfl), (by with_unfolding_all rfl), ?_⟩)
    | (with_reducible refine ⟨_, (by with_unfolding_all rfl), ?_⟩)
    | (with_reducible refine ⟨_, _, (by with_unfolding_all rfl), ?_⟩)
    | (with_reducible refine i_ifT (by with_unfolding_all rfl) ?_)
    | (with_reducible refine i_ifF (by with_unfolding_all rfl) ?_)
    | (with_reducible refine ⟨rfl, rfl, _, _, (by with_unfolding_all rfl), ?_⟩)
    | (with_reducible refine c_pow (by decide) (by decide) (by decide) ?_)
    | (with_reducible refine c_b62 (by decide) (by decide) ?_)
    | (with_reducible refine c_eqb (by assumption) (by assumption) (by assumption) ?_)
    | (with_reducible refine c_neb (by assumption) (by assumption) (by assumption) ?_)
    | (with_reducible refine c_neSS (by with_reducible rfl) ?_)
    | (with_reducible refine c_eqSS (by with_reducible rfl) ?_)
    | (with_reducible refine c_rep (by assumption) ?_)
    | (with_reducible refine i_eqTurn ?_)
    | (with_reducible refine i_eqPart (by decide +kernel) ?_)
    | (with_reducible refine i_eqL0 (by assumption) ?_)
    | (with_reducible refine i_neL0 (by assumption) ?_)
    | (with_reducible refine i_ifNE ?_ ?_ <;> intro h <;> try (first | (exfalso; contradiction) | (exfalso; omega)))
    | (with_reducible refine ⟨len_lt (by omega), ?_⟩)
    | (with_reducible refine i_mulT ?_ (by decide) (by decide) (by omega))
    | (with_reducible exact len_ok (Nat.le_of_ble_eq_true rfl))
    | (with_reducible refine i_mulT ?_ (by decide) (by decide) (Nat.le_trans cut_len (by omega)))
    | (with_reducible refine i_ifE ?_ ?_ <;> intro h <;> try (first | (exfalso; contradiction) | (exfalso; omega)))
    | (with_reducible refine i_eqT0 (by assumption) ?_)
    | (with_reducible refine i_ixT (by assumption) ?_)
    | (with_reducible refine i_ixL (by assumption) ?_)
    | (with_reducible refine i_ifD ?_ ?_ <;> intro h <;> try (exfalso; omega))
    | (with_reducible refine i_ifDN ?_ ?_ <;> intro h <;> try (exfalso; omega))
    | (with_reducible refine i_eq ?_ (by assumption) (by assumption))
    | (with_reducible refine i_ne ?_ (by assumption) (by assumption))
    | (with_reducible refine i_if2 ?_ ?_ <;> intro h)
    | (with_reducible refine i_strI ?_ ?_)
    | (with_reducible refine i_mul ?_ ?_)
    | (with_reducible refine i_mod ?_ ?_)
    | (with_reducible refine i_div ?_ ?_)
    | (with_reducible refine i_pow ?_ ?_)
    | (with_reducible refine i_addT ?_ ?_)
    | (with_reducible refine i_addL ?_ ?_)
    | (with_reducible refine i_nm ?_ ?_)
    | (with_reducible refine i_sto (by with_unfolding_all rfl) ?_ ?_)))
--+ with_reducible refine i_eqTurn ?_
--+ with_reducible refine i_eqPart (by decide +kernel) ?_
theorem spec__law_row : ∀ args G, args.length = 3 → S__law_row args G → dDef 7 (B__law_row S__law_contrary S__law_draw S__law_part S__law_pick) args G := by
  rintro args G hl ⟨m, xs, c, rfl, ⟨m0, m1⟩, hne, hlen, hx, ⟨c1, c31⟩, hG⟩
  unfold dDef B__law_row
  array_mem_dec
  refine ⟨by omega, by omega, ?_⟩
  refine lc_each (fun y => ∃ p, y = ptD p ∧ bd c p) rfl ?_ (fun ρ' ys h' yl hy => ?_) (fun a ha acc K2 hl2 hK2 => ?_)
  · rw [rng_len]; exact szle (by omega)
  rotate_left
  · array_mem_dec
    refine ⟨xs, c, rfl, hne, by omega, hx, fun p hp => ?_⟩
    array_mem_dec
    exact ⟨hl2, hK2 _ _ ⟨p, rfl, hp⟩ rfl⟩
  · obtain ⟨r, rfl, hb⟩ := of_each hy
    rw [rng_len, List.length_map] at yl
    rw [h']
    dsimp only [List.set, wipeD, List.map, List.replicate, List.cons_append, List.nil_append]
    clear hy h'
    have rlen : (r.map ptD).length = r.length := List.length_map _
    have fin : ∀ o : List Pt, (o.length : Int) ≤ m + 3 → (∀ p ∈ o, bd (c + 1) p) → G (.dat (.tuple (o.map ptD))) := hG
    have up : ∀ p ∈ r, bd (c + 1) p := fun p hp => bd_mono (by omega) (hb p hp)
    have rl : (r.length : Int) ≤ m := by omega
    clear hG hb
    array_mem_dec
    refine i_draw (by omega) (by omega) fun k k0 k1 => ?_
    array_mem_dec
    · refine ⟨_, rfl, by simp, by simp, fun w hw => ?_⟩
      have hw : w = .str "on" ∨ w = .str "off" := by
        simp only [List.mem_cons, List.not_mem_nil, or_false] at hw
        exact hw
      rcases hw with rfl | rfl
      · array_mem_dec
        refine ⟨_, rfl, by cases xs with | nil => exact absurd rfl hne | cons _ _ => simp [zs], by rw [zs_len]; omega, fun y hy => ?_⟩
        obtain ⟨n, hn, rfl⟩ := List.mem_map.mp hy
        have hn1 := hx n hn
        clear hy
        array_mem_dec
        have mx : 1 ≤ max 1 n ∧ max 1 n ≤ c := by omega
        generalize max 1 n = tk at mx ⊢
        refine i_draw mx.1 (by omega) fun bk bk0 bk1 => ?_
        array_mem_dec
        refine i_draw (by omega) (by omega) fun sp sp0 sp1 => ?_
        array_mem_dec
        refine .inl ⟨rfl, ?_⟩
        array_mem_dec
        · refine ⟨_, rfl, by simp, by simp only [List.length_append, zs_len, List.length_cons, List.length_nil]; omega, fun y hy => ?_⟩
          obtain ⟨z, rfl, hz⟩ : ∃ z : Int, y = .int z ∧ 0 ≤ z ∧ z ≤ c + 1 := by
            rcases List.mem_append.mp hy with hy | hy
            · obtain ⟨z, hz, rfl⟩ := List.mem_map.mp hy
              have := hx z hz
              exact ⟨z, rfl, by omega⟩
            · simp only [List.mem_cons, List.not_mem_nil, or_false] at hy
              rcases hy with rfl | rfl | rfl <;> exact ⟨_, rfl, by omega⟩
          clear hy
          have C1 : cutD (r.map ptD) none (some sp) = (r.take sp.toNat).map ptD := cut_lo r sp0
          have C2 : cutD (r.map ptD) (some sp) none = (r.drop sp.toNat).map ptD := cut_hi r sp0
          have lsum : (r.take sp.toNat).length + (r.drop sp.toNat).length = r.length := by rw [← List.length_append, List.take_append_drop]
          have last := fin (r.take sp.toNat ++ [.on tk, .off (1 + bk), .on z] ++ r.drop sp.toNat) (by simp only [List.length_append, List.length_cons, List.length_nil]; omega) (ap3 (fun p h => up p (List.mem_of_mem_take h)) (all_cons (show bd (c + 1) (.on tk) from ⟨by omega, by omega⟩) (all_cons (show bd (c + 1) (.off (1 + bk)) from ⟨by omega, by omega⟩) (all_cons (show bd (c + 1) (.on z) from hz) all_nil))) (fun p h => up p (List.mem_of_mem_drop h)))
          rw [List.map_append, List.map_append] at last
          rw [← C1, ← C2] at last
          have hl2 : ∀ lo hi, (cutD (r.map ptD) lo hi).length ≤ 60 := fun lo hi => by rw [cutD_map, List.length_map]; exact Nat.le_trans (cutT_le r lo hi) (by omega)
          have l1 := hl2 none (some sp)
          have l2 := hl2 (some sp) none
          clear C1 C2
          array_mem_dec
          all_goals first
            | exact last
            | exact szle (by omega)
            | exact szle (by simp only [List.length_append, List.length_cons, List.length_nil]; omega)
            | trace_state
        all_goals exact szle (by rw [zs_len]; simp only [List.length_cons, List.length_nil]; omega)
      · array_mem_dec
        refine ⟨_, rfl, by cases xs with | nil => exact absurd rfl hne | cons _ _ => simp [zs], by rw [zs_len]; omega, fun y hy => ?_⟩
        obtain ⟨n, hn, rfl⟩ := List.mem_map.mp hy
        have hn1 := hx n hn
        clear hy
        array_mem_dec
        have mx : 1 ≤ max 1 n ∧ max 1 n ≤ c := by omega
        generalize max 1 n = tk at mx ⊢
        refine i_draw mx.1 (by omega) fun bk bk0 bk1 => ?_
        array_mem_dec
        refine i_draw (by omega) (by omega) fun sp sp0 sp1 => ?_
        array_mem_dec
        refine .inr ⟨rfl, ?_⟩
        array_mem_dec
        · refine ⟨_, rfl, by simp, by simp only [List.length_append, zs_len, List.length_cons, List.length_nil]; omega, fun y hy => ?_⟩
          obtain ⟨z, rfl, hz⟩ : ∃ z : Int, y = .int z ∧ 0 ≤ z ∧ z ≤ c + 1 := by
            rcases List.mem_append.mp hy with hy | hy
            · obtain ⟨z, hz, rfl⟩ := List.mem_map.mp hy
              have := hx z hz
              exact ⟨z, rfl, by omega⟩
            · simp only [List.mem_cons, List.not_mem_nil, or_false] at hy
              rcases hy with rfl | rfl | rfl <;> exact ⟨_, rfl, by omega⟩
          clear hy
          have C1 : cutD (r.map ptD) none (some sp) = (r.take sp.toNat).map ptD := cut_lo r sp0
          have C2 : cutD (r.map ptD) (some sp) none = (r.drop sp.toNat).map ptD := cut_hi r sp0
          have lsum : (r.take sp.toNat).length + (r.drop sp.toNat).length = r.length := by rw [← List.length_append, List.take_append_drop]
          have last := fin (r.take sp.toNat ++ [.off tk, .on (1 + bk), .off z] ++ r.drop sp.toNat) (by simp only [List.length_append, List.length_cons, List.length_nil]; omega) (ap3 (fun p h => up p (List.mem_of_mem_take h)) (all_cons (show bd (c + 1) (.off tk) from ⟨by omega, by omega⟩) (all_cons (show bd (c + 1) (.on (1 + bk)) from ⟨by omega, by omega⟩) (all_cons (show bd (c + 1) (.off z) from hz) all_nil))) (fun p h => up p (List.mem_of_mem_drop h)))
          rw [List.map_append, List.map_append] at last
          rw [← C1, ← C2] at last
          have hl2 : ∀ lo hi, (cutD (r.map ptD) lo hi).length ≤ 60 := fun lo hi => by rw [cutD_map, List.length_map]; exact Nat.le_trans (cutT_le r lo hi) (by omega)
          have l1 := hl2 none (some sp)
          have l2 := hl2 (some sp) none
          clear C1 C2
          array_mem_dec
          all_goals first
            | exact last
            | exact szle (by omega)
            | exact szle (by simp only [List.length_append, List.length_cons, List.length_nil]; omega)
            | trace_state
        all_goals exact szle (by rw [zs_len]; simp only [List.length_cons, List.length_nil]; omega)
    · exact fin r (by omega) up
end Lw
namespace Lw
open PySem L2 DL
theorem i_eqCutT {r : List Pt} {lo hi : Option Int} {G : SV → Prop} (k : G (.dat (.bool (decide (cutT r lo hi = [.tn]))))) : gEq (.tuple (cutD (r.map ptD) lo hi)) (.tuple [.tuple [.str "turn"]]) G := by
  rw [cutD_map]
  exact i_eqRR (p := cutT r lo hi) (q := [.tn]) k
theorem filt_rows {L : List (List Pt)} {n : Nat} : L.filterMap (fun o => if n ≤ o.length then some (rowD o) else none) = (L.filter fun o => decide (n ≤ o.length)).map rowD := by
  induction L with
  | nil => rfl
  | cons a L ih =>
    rw [List.filterMap_cons, List.filter_cons]
    by_cases h : n ≤ a.length
    · rw [if_pos h, if_pos (decide_eq_true h), ih]; rfl
    · rw [if_neg h, if_neg (by simpa using h), ih]
theorem eqv_nil (F : List (List Pt)) : PyData.eqv (.list (F.map rowD)) (.list []) = F.isEmpty := by cases F <;> simp [PyData.eqv, PyData.eqvAll]
theorem i_neNil {F : List (List Pt)} {G : SV → Prop} (k : G (.dat (.bool (!F.isEmpty)))) : gNe (.list (F.map rowD)) (.list []) G := c_neD (k1 := 3) (k2 := 1) (lay_rows F) (lay_list (k := 0) all_nil) (by decide) (by decide) (by rw [eqv_nil]; exact k)
end Lw
namespace Lw
open PySem L2 DL
set_option hygiene false
local macro_rules
  | `(tactic| fail "a") => `(tactic| (with_reducible refine i_seqN ?_; intro NN hNN))
local macro_rules
  | `(tactic| fail "b") => `(tactic| (with_reducible refine i_nxN (by assumption) (by first | (dsimp only [List.set, wipeD]; done) | exact rfl) ?_; (try clear hNN); (try clear NN)))
set_option hygiene true
local macro_rules
  | `(tactic| array_get_dec) => `(tactic| repeat (first
    | (with_reducible refine i_eqEmp ?_)
    | (with_reducible refine i_neNil ?_)
    | (with_reducible refine i_eqCutT ?_)
    | (with_reducible refine rr ?_)
    | (fail "a")
    | (fail "b")
    | (with_reducible refine i_varD (by with_unfolding_all rfl) ?_)
    | (with_reducible refine i_two (by with_unfolding_all rfl) (by with_unfolding_all rfl) ?_)
    | (with_reducible refine i_frz (by with_unfolding_all rfl) ?_)
    | (with_reducible refine i_sto (by with_unfolding_all rfl) ?_ (Nat.le_of_ble_eq_true rfl))
    | (with_reducible refine i_varO (by with_unfolding_all rfl) ?_)
    | (with_reducible refine i_varK (by with_unfolding_all rfl) ?_)
    | (with_reducible refine i_app (by with_unfolding_all rfl) ?_)
    | (with_reducible refine i_ixT (by with_unfolding_all rfl) ?_)
    | (with_reducible refine i_ixL (by with_unfolding_all rfl) ?_)
    | (with_reducible refine i_frz3 (by with_unfolding_all rfl) (by with_unfolding_all rfl) ?_)
    | (with_reducible refine i_len (Nat.le_of_ble_eq_true rfl) ?_)
    | (with_reducible refine i_frzD (by with_unfolding_all rfl) (by with_unfolding_all rfl) ?_)
    | (with_reducible refine i_ok (by with_unfolding_all exact True.intro) ?_)
    | (with_reducible refine i_nm ?_ (Nat.le_of_ble_eq_true rfl))
    | (with_reducible refine i_tu ?_ (by with_unfolding_all rfl))
    | (with_reducible refine i_li ?_ (by with_unfolding_all rfl))
    | (with_reducible refine i_szc (by with_unfolding_all rfl) ?_)
    | (with_reducible refine i_trB ?_)
    | (with_reducible refine i_ifb ?_)
    | (with_reducible refine i_and2 (Nat.le_of_ble_eq_true rfl) (Nat.le_of_ble_eq_true rfl) ?_)
    | (with_reducible refine i_and3 (Nat.le_of_ble_eq_true rfl) (Nat.le_of_ble_eq_true rfl) (Nat.le_of_ble_eq_true rfl) ?_)
    | (with_reducible refine c_ltlen (Nat.le_of_ble_eq_true rfl) ?_)
    | (with_reducible refine i_aug (by with_unfolding_all rfl) ?_)
    | (with_reducible refine ⟨_, _, _, (by with_unfolding_all rfl), (by with_unfolding_all rfl), ?_⟩)
    | (with_reducible refine ⟨_, _, (by with_unfolding_all rfl), (by with_unfolding_all rfl), ?_⟩)
    | (with_reducible refine ⟨_, (by with_unfolding_all rfl), ?_⟩)
    | (with_reducible refine ⟨_, _, (by with_unfolding_all rfl), ?_⟩)
    | (with_reducible refine i_ifT (by with_unfolding_all rfl) ?_)
    | (with_reducible refine i_ifF (by with_unfolding_all rfl) ?_)
    | (with_reducible refine ⟨rfl, rfl, _, _, (by with_unfolding_all rfl), ?_⟩)
    | (with_reducible refine c_pow (by decide) (by decide) (by decide) ?_)
    | (with_reducible refine c_b62 (by decide) (by decide) ?_)
    | (with_reducible refine c_eqb (by assumption) (by assumption) (by assumption) ?_)
    | (with_reducible refine c_neb (by assumption) (by assumption) (by assumption) ?_)
    | (with_reducible refine c_neSS (by with_reducible rfl) ?_)
    | (with_reducible refine c_eqSS (by with_reducible rfl) ?_)
    | (with_reducible refine c_rep (by assumption) ?_)
    | (with_reducible refine i_strI ?_ ?_)
    | (with_reducible refine i_mul ?_ ?_)
    | (with_reducible refine i_mod ?_ ?_)
    | (with_reducible refine i_div ?_ ?_)
    | (with_reducible refine i_pow ?_ ?_)
    | (with_reducible refine i_addT ?_ ?_)
    | (with_reducible refine i_addL ?_ ?_)
    | (with_reducible refine i_nm ?_ ?_)
    | (with_reducible refine i_sto (by with_unfolding_all rfl) ?_ ?_)
    | (with_reducible refine i_eqTurn ?_)
    | (with_reducible refine i_eqPart (by decide +kernel) ?_)
    | (with_reducible refine i_eqSt (by decide +kernel) ?_)
    | (with_reducible refine i_eqSf (by decide +kernel) ?_)
    | (with_reducible refine i_neSt (by decide +kernel) ?_)
    | (with_reducible refine i_neSf (by decide +kernel) ?_)
    | (with_reducible refine i_inOO (by decide +kernel) (by with_unfolding_all rfl) ?_)))
local macro_rules
  | `(tactic| array_mem_dec) => `(tactic| repeat' (first
    | (with_reducible refine i_eqEmp ?_)
    | (with_reducible refine i_neNil ?_)
    | (with_reducible refine i_eqCutT ?_)
    | (with_reducible refine rr ?_)
    | (fail "a")
    | (fail "b")
    | (with_reducible refine i_varD (by with_unfolding_all rfl) ?_)
    | (with_reducible refine i_two (by with_unfolding_all rfl) (by with_unfolding_all rfl) ?_)
    | (with_reducible refine i_frz (by with_unfolding_all rfl) ?_)
    | (with_reducible refine i_sto (by with_unfolding_all rfl) ?_ (Nat.le_of_ble_eq_true rfl))
    | (with_reducible refine i_varO (by with_unfolding_all rfl) ?_)
    | (with_reducible refine i_varK (by with_unfolding_all rfl) ?_)
    | (with_reducible refine i_app (by with_unfolding_all rfl) ?_)
    | (with_reducible refine i_ixT (by with_unfolding_all rfl) ?_)
    | (with_reducible refine i_ixL (by with_unfolding_all rfl) ?_)
    | (with_reducible refine i_frz3 (by with_unfolding_all rfl) (by with_unfolding_all rfl) ?_)
    | (with_reducible refine i_len (Nat.le_of_ble_eq_true rfl) ?_)
    | (with_reducible refine i_frzD (by with_unfolding_all rfl) (by with_unfolding_all rfl) ?_)
    | (with_reducible refine i_ok (by with_unfolding_all exact True.intro) ?_)
    | (with_reducible refine i_nm ?_ (Nat.le_of_ble_eq_true rfl))
    | (with_reducible refine i_tu ?_ (by with_unfolding_all rfl))
    | (with_reducible refine i_li ?_ (by with_unfolding_all rfl))
    | (with_reducible refine i_szc (by with_unfolding_all rfl) ?_)
    | (with_reducible refine i_trB ?_)
    | (with_reducible refine i_ifb ?_)
    | (with_reducible refine i_and2 (Nat.le_of_ble_eq_true rfl) (Nat.le_of_ble_eq_true rfl) ?_)
    | (with_reducible refine i_and3 (Nat.le_of_ble_eq_true rfl) (Nat.le_of_ble_eq_true rfl) (Nat.le_of_ble_eq_true rfl) ?_)
    | (with_reducible refine c_ltlen (Nat.le_of_ble_eq_true rfl) ?_)
    | (with_reducible refine i_aug (by with_unfolding_all rfl) ?_)
    | (with_reducible refine ⟨_, _, _, (by with_unfolding_all rfl), (by with_unfolding_all rfl), ?_⟩)
    | (with_reducible refine ⟨_, _, (by with_unfolding_all rfl), (by with_unfolding_all rfl), ?_⟩)
    | (with_reducible refine ⟨_, (by with_unfolding_all rfl), ?_⟩)
    | (with_reducible refine ⟨_, _, (by with_unfolding_all rfl), ?_⟩)
    | (with_reducible refine i_ifT (by with_unfolding_all rfl) ?_)
    | (with_reducible refine i_ifF (by with_unfolding_all rfl) ?_)
    | (with_reducible refine ⟨rfl, rfl, _, _, (by with_unfolding_all rfl), ?_⟩)
    | (with_reducible refine c_pow (by decide) (by decide) (by decide) ?_)
    | (with_reducible refine c_b62 (by decide) (by decide) ?_)
    | (with_reducible refine c_eqb (by assumption) (by assumption) (by assumption) ?_)
    | (with_reducible refine c_neb (by assumption) (by assumption) (by assumption) ?_)
    | (with_reducible refine c_neSS (by with_reducible rfl) ?_)
    | (with_reducible refine c_eqSS (by with_reducible rfl) ?_)
    | (with_reducible refine c_rep (by assumption) ?_)
    | (with_reducible refine i_eqTurn ?_)
    | (with_reducible refine i_eqPart (by decide +kernel) ?_)
    | (with_reducible refine i_eqSt (by decide +kernel) ?_)
    | (with_reducible refine i_eqSf (by decide +kernel) ?_)
    | (with_reducible refine i_neSt (by decide +kernel) ?_)
    | (with_reducible refine i_neSf (by decide +kernel) ?_)
    | (with_reducible refine i_inOO (by decide +kernel) (by with_unfolding_all rfl) ?_)
    | (with_reducible refine i_eqL0 (by assumption) ?_)
    | (with_reducible refine i_neL0 (by assumption) ?_)
    | (with_reducible refine i_ifNE ?_ ?_ <;> intro h <;> try (first | (exfalso; contradiction) | (exfalso; omega)))
    | (with_reducible refine ⟨len_lt (by omega), ?_⟩)
    | (with_reducible refine i_mulT ?_ (by decide) (by decide) (by omega))
    | (with_reducible exact len_ok (Nat.le_of_ble_eq_true rfl))
    | (with_reducible refine i_mulT ?_ (by decide) (by decide) (Nat.le_trans cut_len (by omega)))
    | (with_reducible refine i_ifE ?_ ?_ <;> intro h <;> try (first | (exfalso; contradiction) | (exfalso; omega)))
    | (with_reducible refine i_eqT0 (by assumption) ?_)
    | (with_reducible refine i_ixT (by assumption) ?_)
    | (with_reducible refine i_ixL (by assumption) ?_)
    | (with_reducible refine i_ifD ?_ ?_ <;> intro h <;> try (exfalso; omega))
    | (with_reducible refine i_ifDN ?_ ?_ <;> intro h <;> try (exfalso; omega))
    | (with_reducible refine i_eq ?_ (by assumption) (by assumption))
    | (with_reducible refine i_ne ?_ (by assumption) (by assumption))
    | (with_reducible refine i_if2 ?_ ?_ <;> intro h)
    | (with_reducible refine i_strI ?_ ?_)
    | (with_reducible refine i_mul ?_ ?_)
    | (with_reducible refine i_mod ?_ ?_)
    | (with_reducible refine i_div ?_ ?_)
    | (with_reducible refine i_pow ?_ ?_)
    | (with_reducible refine i_addT ?_ ?_)
    | (with_reducible refine i_addL ?_ ?_)
    | (with_reducible refine i_nm ?_ ?_)
    | (with_reducible refine i_sto (by with_unfolding_all rfl) ?_ ?_)))
--++ with_reducible refine i_eqEmp ?_
--++ with_reducible refine i_neNil ?_
--++ with_reducible refine i_eqCutT ?_
--+ with_reducible refine i_eqTurn ?_
--+ with_reducible refine i_eqPart (by decide +kernel) ?_
--+ with_reducible refine i_eqSt (by decide +kernel) ?_
--+ with_reducible refine i_eqSf (by decide +kernel) ?_
--+ with_reducible refine i_neSt (by decide +kernel) ?_
--+ with_reducible refine i_neSf (by decide +kernel) ?_
--+ with_reducible refine i_inOO (by decide +kernel) (by with_unfolding_all rfl) ?_
theorem spec__law_back : ∀ args G, args.length = 2 → S__law_back args G → dDef 7 (B__law_back S__law_contrary S__law_draw S__law_leads S__law_pick S__law_unswung) args G := by
  rintro args G hl ⟨r, c, rfl, hr, hb, ⟨c0, c35⟩, hG⟩
  have hrl : (r.map ptD).length = r.length := List.length_map _
  have up : ∀ p ∈ r, bd (2 * c) p := fun p hp => bd_mono (by omega) (hb p hp)
  have htk : ∀ j, ∀ p ∈ r.take j, bd (2 * c) p := fun j p h => up p (List.mem_of_mem_take h)
  have hdk : ∀ j, ∀ p ∈ r.drop j, bd (2 * c) p := fun j p h => up p (List.mem_of_mem_drop h)
  have lsum : ∀ j, (r.take j).length + (r.drop j).length = r.length := fun j => by rw [← List.length_append, List.take_append_drop]
  have fin : ∀ (k : Nat) (m b : List Pt), m.length + b.length ≤ (r.drop k).length + 2 → (∀ q ∈ m, bd (2 * c) q) → (∀ q ∈ b, bd (2 * c) q) → G (.dat (.tuple ((r.take k).map ptD ++ m.map ptD ++ b.map ptD))) := fun k m b hl2 hm hbb => by
    have := hG (r.take k ++ m ++ b) (by have := lsum k; simp only [List.length_append]; omega) (ap3 (htk _) hm hbb)
    unfold rowD at this
    rw [List.map_append, List.map_append] at this
    exact this
  have cl : ∀ lo hi, (cutD (r.map ptD) lo hi).length ≤ 150 := fun lo hi => by rw [cutD_map, List.length_map]; exact Nat.le_trans (cutT_le r lo hi) hr
  have ze : bd (2 * c) (.on 0) ∧ bd (2 * c) (.off 0) ∧ bd (2 * c) (.dl 0) := ⟨⟨by omega, by omega⟩, ⟨by omega, by omega⟩, ⟨by omega, by omega⟩⟩
  have go1 : ∀ (k : Int), 0 ≤ k → ∀ m : List Pt, m.length ≤ 2 → (∀ q ∈ m, bd (2 * c) q) → G (.dat (.tuple (cutD (r.map ptD) none (some k) ++ m.map ptD ++ cutD (r.map ptD) (some k) none))) := fun k k0 m hm hq => by
    rw [cut_lo r k0, cut_hi r k0]
    exact fin k.toNat m _ (by omega) hq (hdk _)
  have go2 : ∀ (k : Int), 0 ≤ k → k < r.length → ∀ m : List Pt, m.length ≤ 3 → (∀ q ∈ m, bd (2 * c) q) → G (.dat (.tuple (cutD (r.map ptD) none (some k) ++ m.map ptD ++ cutD (r.map ptD) (some (k + 1)) none))) := fun k k0 k1 m hm hq => by
    rw [cut_lo r k0, cut_hi r (by omega), show (k + 1).toNat = k.toNat + 1 by omega]
    exact fin k.toNat m _ (by rw [List.length_drop, List.length_drop]; omega) hq (hdk _)
  have go3 : ∀ (k : Int), 0 ≤ k → k < r.length → ∀ m : List Pt, m.length ≤ 3 → (∀ q ∈ m, bd (2 * c) q) → G (.dat (.tuple (cutD (r.map ptD) none (some k) ++ m.map ptD ++ cutD (r.map ptD) (some (k + 2)) none))) := fun k k0 k1 m hm hq => by
    rw [cut_lo r k0, cut_hi r (by omega), show (k + 2).toNat = k.toNat + 2 by omega]
    exact fin k.toNat m _ (by rw [List.length_drop, List.length_drop]; omega) hq (hdk _)
  clear fin lsum htk hdk
  unfold dDef B__law_back rowD
  array_mem_dec
  refine i_draw (by omega) (by omega) fun k k0 k1 => ?_
  array_mem_dec
  refine i_draw (by omega) (by omega) fun w w0 w1 => ?_
  have l1 := cl none (some k)
  have l2 := cl (some k) none
  have pz : ∀ {G2 : SV → Prop}, (∀ wd, wd = .str "on" ∨ wd = .str "off" ∨ wd = .str "delay" → G2 (.dat wd)) → S__law_pick [.dk, .dat (.list [.str "on", .str "off", .str "delay"])] G2 := fun {G2} h => ⟨_, rfl, by simp, by simp, fun x hx => by
    simp only [List.mem_cons, List.not_mem_nil, or_false] at hx
    exact h x hx⟩
  have gz : ∀ wd, (wd = .str "on" ∨ wd = .str "off" ∨ wd = .str "delay") → G (.dat (.tuple (cutD (r.map ptD) none (some k) ++ [.tuple [wd, .int 0]] ++ cutD (r.map ptD) (some k) none))) := fun wd h => by
    rcases h with rfl | rfl | rfl
    · exact go1 k k0 [.on 0] (by decide) (all_cons ze.1 all_nil)
    · exact go1 k k0 [.off 0] (by decide) (all_cons ze.2.1 all_nil)
    · exact go1 k k0 [.dl 0] (by decide) (all_cons ze.2.2 all_nil)
  array_mem_dec
  · refine pz fun wd hwd => ?_
    have := gz wd hwd
    rcases hwd with rfl | rfl | rfl
    all_goals array_mem_dec
    all_goals first
      | exact this
      | exact szle (by simp only [List.length_append, List.length_cons, List.length_nil]; omega)
  · refine pz fun wd hwd => ?_
    have := gz wd hwd
    rcases hwd with rfl | rfl | rfl
    all_goals array_mem_dec
    all_goals first
      | exact this
      | exact szle (by simp only [List.length_append, List.length_cons, List.length_nil]; omega)
  · exact go1 k k0 [.tn, .tn] (by decide) (all_cons trivial (all_cons trivial all_nil))
  · exact szle (by simp only [List.length_append, List.length_cons, List.length_nil]; omega)
  · exact szle (by simp only [List.length_append, List.length_cons, List.length_nil]; omega)
  rename_i h1 hE h3
  have hpos : 0 < r.length := List.length_pos_iff.mpr fun h => by rw [h] at hE; cases hE
  clear pz gz l1 l2 h1 hE h3
  refine i_draw (by omega) (by omega) fun i i0 i1 => ?_
  rw [hrl] at i1
  dsimp only [List.set, wipeD, List.map, List.replicate, List.cons_append, List.nil_append]
  obtain ⟨p, hpm, hat⟩ := at_pt i0 i1
  have hp := hb p hpm
  have l1 := cl none (some i)
  have l2 := cl (some (i + 1)) none
  have l3 := cl (some (i + 2)) none
  have l4 := cl (some (i + 1)) (some (i + 2))
  have tl : ∀ m : List Pt, m.length ≤ 3 → ∀ x, x ≤ 150 → (cutD (r.map ptD) none (some i) ++ m.map ptD).length + x ≤ sizeLine := fun m hm x hx => szle (by rw [List.length_append, List.length_map]; omega)
  with_reducible refine i_sto (by with_unfolding_all rfl) ?_ (Nat.le_of_ble_eq_true rfl)
  refine i_nxN hNN rfl ?_
  clear hNN
  refine i_seqN ?_
  intro N0 hN0
  have hQ0 := PLift.up hN0
  clear hN0
  array_mem_dec
  refine i_nxN hQ0.down rfl ?_
  clear hQ0
  refine i_seqN ?_
  intro N1 hN1
  have J1 : N1 [some .dk, some (.dat (.tuple (r.map ptD))), some (.dat (.int i)), some (.dat (.int w)), some (.dat (ptD p)), none, none, none, none] := by
    refine i_nxN hN1 rfl ?_
    clear hN1
    refine i_seqN ?_
    intro N2 hN2
    have J2 : N2 [some .dk, some (.dat (.tuple (r.map ptD))), some (.dat (.int i)), some (.dat (.int w)), some (.dat (ptD p)), none, none, none, none] := by
      refine i_nxN hN2 rfl ?_
      clear hN2
      clear go1 go2 go3 l1 l2 l3 l4 hat hpm hp tl
      array_mem_dec
      refine ⟨by omega, by omega, ?_⟩
      rw [hrl, Int.toNat_natCast]
      have rows : ∀ F : List (List Pt), (∀ o ∈ F, o.length ≤ r.length ∧ ∀ p ∈ o, bd (2 * c) p) → ∀ d ∈ F.map rowD, G (.dat d) := fun F h d hd => by
        obtain ⟨o, ho, rfl⟩ := List.mem_map.mp hd
        exact hG o (by have := (h o ho).1; omega) (h o ho).2
      have gend : G (.dat (.tuple (r.map ptD ++ [.tuple [.str "delay", .int 0]]))) := by
        have := hG (r ++ [.dl 0]) (by rw [List.length_append]; simp) (fun p hp => by
          rcases List.mem_append.mp hp with hp | hp
          · exact up p hp
          · rw [List.mem_singleton.mp hp]; exact ze.2.2)
        unfold rowD at this
        rw [List.map_append] at this
        exact this
      refine forT_rng (fun j ρ => ∃ (F : List (List Pt)) (x7 : Option SV), (F.length : Int) ≤ j ∧ (∀ o ∈ F, o.length ≤ r.length ∧ ∀ p ∈ o, bd (2 * c) p) ∧ ρ = [some .dk, some (.dat (.tuple (r.map ptD))), some (.dat (.int i)), some (.dat (.int w)), some (.dat (ptD p)), none, some (.own (F.map rowD)), x7, none]) (r.length : Nat) ?_ ?_ _ _ _ (by omega) ⟨[], none, by simp, (fun _ h => nomatch h), rfl⟩
      · rintro ρ ⟨F, x7, hF, hFb, rfl⟩
        have pk : (!F.isEmpty) = true → ∀ {G2 : SV → Prop}, (∀ d ∈ F.map rowD, G2 (.dat d)) → S__law_pick [.dk, .dat (.list (F.map rowD))] G2 := fun h G2 hg => ⟨_, rfl, (by intro e; rw [List.map_eq_nil_iff.mp e] at h; cases h), by rw [List.length_map]; omega, hg⟩
        clear hG
        array_mem_dec
        · refine pk (by assumption) fun d hd => ?_
          have last := rows F hFb d hd
          array_mem_dec
          exact last
        all_goals
          refine ⟨r, rfl, by omega, ?_⟩
          have hL := leads_len r []
          have hLb := fun o (ho : o ∈ leads r) => leads_bd c0 hb ho
          rw [show leadsFrom [] r = leads r from rfl] at hL
          generalize leads r = L at hL hLb ⊢
          array_mem_dec
          refine lc_map (α := List Pt) (e := rowD) (xs := L) (fun o => if r.length ≤ o.length then some (rowD o) else none) rfl (szle (by omega)) (fun ρ' h' => ?_) (fun o ho acc K2 hl2 hk1 hk2 => ?_)
          rotate_left
          · have hol : (o.map ptD).length = o.length := List.length_map _
            have ho1 := (hLb o ho).1
            dsimp only [rowD]
            array_mem_dec
            · exact ⟨hl2, hk1 _ _ (if_pos (by omega)) rfl⟩
            · exact hk2 _ (if_neg (by omega)) rfl
          · rw [h', filt_rows]
            have hM : (L.filter fun o => decide (r.length ≤ o.length)).length ≤ 900 := Nat.le_trans (List.length_filter_le _ _) (by omega)
            have hMb : ∀ o ∈ L.filter fun o => decide (r.length ≤ o.length), o.length ≤ r.length ∧ ∀ p ∈ o, bd (2 * c) p := fun o ho => hLb o (List.mem_filter.mp ho).1
            generalize (L.filter fun o => decide (r.length ≤ o.length)) = M at hM hMb ⊢
            have pk2 : (!M.isEmpty) = true → ∀ {G2 : SV → Prop}, (∀ d ∈ M.map rowD, G2 (.dat d)) → S__law_pick [.dk, .dat (.list (M.map rowD))] G2 := fun h G2 hg => ⟨_, rfl, (by intro e; rw [List.map_eq_nil_iff.mp e] at h; cases h), by rw [List.length_map]; omega, hg⟩
            dsimp only [List.set, wipeD, List.map, List.replicate, List.cons_append, List.nil_append]
            array_mem_dec
            · refine pk2 (by assumption) fun d hd => ?_
              have last := rows M hMb d hd
              array_mem_dec
              exact last
            · exact gend
            · exact szle (by simp only [List.length_cons, List.length_nil]; omega)
      · rintro j ρ K hj hK ⟨F, x7, hF, hFb, rfl⟩
        have go : ∀ (L : List (List Pt)) x7, L.length ≤ 1 → (∀ o ∈ L, o.length ≤ r.length ∧ ∀ p ∈ o, bd (2 * c) p) → K [some .dk, some (.dat (.tuple (r.map ptD))), some (.dat (.int i)), some (.dat (.int w)), some (.dat (ptD p)), none, some (.own ((F ++ L).map rowD)), x7, none] := fun L x7 hL hLb => hK _ ⟨F ++ L, x7, by rw [List.length_append]; omega, fun o ho => (List.mem_append.mp ho).elim (hFb o) (hLb o), rfl⟩
        clear hK rows gend hNN
        obtain ⟨n, rfl⟩ := Int.eq_ofNat_of_zero_le (show 0 ≤ j by omega)
        array_mem_dec
        refine ⟨r, n, c, rfl, by omega, by omega, hb, c0, fun L hL hLb => ?_⟩
        have go2 := go L (some (.dat (.int (n : Nat)))) hL hLb
        rw [List.map_append] at go2
        array_mem_dec
        · exact go2
        · exact szle (by rw [List.length_map, List.length_map]; omega)
    clear hN2
    have b3 := go3 i i0 i1
    clear go1 go2 go3
    cases p with
    | tn => dsimp only [ptD] at J2 ⊢; array_mem_dec; all_goals exact J2
    | dl n => dsimp only [ptD] at J2 ⊢; array_mem_dec; all_goals exact J2
    | on n =>
      have hn : 0 ≤ n ∧ n ≤ c := hp
      have last := b3 [.tn, .off n] (Nat.le_of_ble_eq_true rfl) (all_cons trivial (all_cons (show bd (2 * c) (.off n) from ⟨by omega, by omega⟩) all_nil))
      dsimp only [ptD] at J2 ⊢
      array_mem_dec
      · refine .inl ⟨rfl, ?_⟩
        array_mem_dec
        all_goals first
          | exact last
          | exact szle (by simp only [List.length_append, List.length_cons, List.length_nil]; omega)
      all_goals first
        | exact J2
        | exact szle (by simp only [List.length_append, List.length_cons, List.length_nil]; omega)
    | off n =>
      have hn : 0 ≤ n ∧ n ≤ c := hp
      have last := b3 [.tn, .on n] (Nat.le_of_ble_eq_true rfl) (all_cons trivial (all_cons (show bd (2 * c) (.on n) from ⟨by omega, by omega⟩) all_nil))
      dsimp only [ptD] at J2 ⊢
      array_mem_dec
      · refine .inr ⟨rfl, ?_⟩
        array_mem_dec
        all_goals first
          | exact last
          | exact szle (by simp only [List.length_append, List.length_cons, List.length_nil]; omega)
      all_goals first
        | exact J2
        | exact szle (by simp only [List.length_append, List.length_cons, List.length_nil]; omega)
  clear hN1
  have b2 := go2 i i0 i1
  clear go1 go2 go3
  cases p with
  | tn => dsimp only [ptD] at J1 ⊢; array_mem_dec; all_goals exact J1
  | on n =>
    have hn : 0 ≤ n ∧ n ≤ c := hp
    dsimp only [ptD] at J1 ⊢
    array_mem_dec
    · refine i_draw (by omega) (by omega) fun a a0 a1 => ?_
      have last := b2 [.on a, .on (n - a)] (Nat.le_of_ble_eq_true rfl) (all_cons (show bd (2 * c) (.on a) from ⟨by omega, by omega⟩) (all_cons (show bd (2 * c) (.on (n - a)) from ⟨by omega, by omega⟩) all_nil))
      array_mem_dec
      all_goals first
        | exact last
        | exact szle (by simp only [List.length_append, List.length_cons, List.length_nil]; omega)
    · exact J1
  | off n =>
    have hn : 0 ≤ n ∧ n ≤ c := hp
    dsimp only [ptD] at J1 ⊢
    array_mem_dec
    · refine i_draw (by omega) (by omega) fun a a0 a1 => ?_
      have last := b2 [.off a, .off (n - a)] (Nat.le_of_ble_eq_true rfl) (all_cons (show bd (2 * c) (.off a) from ⟨by omega, by omega⟩) (all_cons (show bd (2 * c) (.off (n - a)) from ⟨by omega, by omega⟩) all_nil))
      array_mem_dec
      all_goals first
        | exact last
        | exact szle (by simp only [List.length_append, List.length_cons, List.length_nil]; omega)
    · exact J1
  | dl n =>
    have hn : 0 ≤ n ∧ n ≤ c := hp
    dsimp only [ptD] at J1 ⊢
    array_mem_dec
    · refine i_draw (by omega) (by omega) fun a a0 a1 => ?_
      have last := b2 [.dl a, .dl (n - a)] (Nat.le_of_ble_eq_true rfl) (all_cons (show bd (2 * c) (.dl a) from ⟨by omega, by omega⟩) (all_cons (show bd (2 * c) (.dl (n - a)) from ⟨by omega, by omega⟩) all_nil))
      array_mem_dec
      all_goals first
        | exact last
        | exact szle (by simp only [List.length_append, List.length_cons, List.length_nil]; omega)
    · exact J1
end Lw
namespace Lw
open PySem L2 DL
def S__law_others : DSp := fun args G => ∃ (r : List Pt) (c : Int), args = [.dk, .dat (rowD r)] ∧ r.length ≤ 20 ∧ (∀ p ∈ r, bd c p) ∧ (2 ≤ c ∧ c ≤ 10 ^ 33) ∧ ∀ L : List (List Pt), L.length ≤ 100 → (∀ o ∈ L, o.length ≤ 30 ∧ ∀ p ∈ o, bd (10 ^ 36) p) → G (.own (L.map rowD))
theorem mem_rows {L : List (List Pt)} {M : List PyData} (h : ∀ d ∈ M, d ∈ L.map rowD) : ∃ N : List (List Pt), M = N.map rowD ∧ ∀ o ∈ N, o ∈ L := of_each fun y hy => by
  obtain ⟨o, ho, e⟩ := List.mem_map.mp (h y hy)
  exact ⟨o, e.symm, ho⟩
def Good (o : List Pt) : Prop := o.length ≤ 30 ∧ ∀ p ∈ o, bd (10 ^ 36) p
theorem good_back {r : List Pt} {c : Int} {G : SV → Prop} (hr : r.length ≤ 25) (hb : ∀ p ∈ r, bd c p) (h0 : 0 ≤ c) (h1 : c ≤ 10 ^ 35) (k : ∀ o : List Pt, o.length ≤ r.length + 2 → (∀ p ∈ o, bd (2 * c) p) → Good o → G (.dat (rowD o))) : S__law_back [.dk, .dat (rowD r)] G := ⟨r, c, rfl, by omega, hb, ⟨h0, h1⟩, fun o h1 h2 => k o h1 h2 ⟨by omega, fun p hp => bd_mono (by omega) (h2 p hp)⟩⟩
theorem good_near {r : List Pt} {c : Int} {G : SV → Prop} (hr : r.length ≤ 25) (hb : ∀ p ∈ r, bd c p) (h0 : 2 ≤ c) (h1 : c ≤ 10 ^ 35) (k : ∀ o : List Pt, Good o → G (.dat (rowD o))) : S__law_near [.dk, .dat (rowD r)] G := ⟨r, c, rfl, by omega, hb, ⟨h0, h1⟩, fun o h1 h2 => k o ⟨by omega, fun p hp => bd_mono (by omega) (h2 p hp)⟩⟩
end Lw
namespace Lw
open PySem L2 DL
set_option hygiene false
local macro_rules
  | `(tactic| fail "a") => `(tactic| (with_reducible refine i_seqN ?_; intro NN hNN))
local macro_rules
  | `(tactic| fail "b") => `(tactic| (with_reducible refine i_nxN (by assumption) (by first | (dsimp only [List.set, wipeD]; done) | exact rfl) ?_; (try clear hNN); (try clear NN)))
set_option hygiene true
local macro_rules
  | `(tactic| array_get_dec) => `(tactic| repeat (first
    | (with_reducible refine i_neNil ?_)
    | (with_reducible refine rr ?_)
    | (fail "a")
    | (fail "b")
    | (with_reducible refine i_varD (by with_unfolding_all rfl) ?_)
    | (with_reducible refine i_two (by with_unfolding_all rfl) (by with_unfolding_all rfl) ?_)
    | (with_reducible refine i_frz (by with_unfolding_all rfl) ?_)
    | (with_reducible refine i_sto (by with_unfolding_all rfl) ?_ (Nat.le_of_ble_eq_true rfl))
    | (with_reducible refine i_varO (by with_unfolding_all rfl) ?_)
    | (with_reducible refine i_varK (by with_unfolding_all rfl) ?_)
    | (with_reducible refine i_app (by with_unfolding_all rfl) ?_)
    | (with_reducible refine i_ixT (by with_unfolding_all rfl) ?_)
    | (with_reducible refine i_ixL (by with_unfolding_all rfl) ?_)
    | (with_reducible refine i_frz3 (by with_unfolding_all rfl) (by with_unfolding_all rfl) ?_)
    | (with_reducible refine i_len (Nat.le_of_ble_eq_true rfl) ?_)
    | (with_reducible refine i_frzD (by with_unfolding_all rfl) (by with_unfolding_all rfl) ?_)
    | (with_reducible refine i_ok (by with_unfolding_all exact True.intro) ?_)
    | (with_reducible refine i_nm ?_ (Nat.le_of_ble_eq_true rfl))
    | (with_reducible refine i_tu ?_ (by with_unfolding_all rfl))
    | (with_reducible refine i_li ?_ (by with_unfolding_all rfl))
    | (with_reducible refine i_szc (by with_unfolding_all rfl) ?_)
    | (with_reducible refine i_trB ?_)
    | (with_reducible refine i_ifb ?_)
    | (with_reducible refine i_and2 (Nat.le_of_ble_eq_true rfl) (Nat.le_of_ble_eq_true rfl) ?_)
    | (with_reducible refine i_and3 (Nat.le_of_ble_eq_true rfl) (Nat.le_of_ble_eq_true rfl) (Nat.le_of_ble_eq_true rfl) ?_)
    | (with_reducible refine c_ltlen (Nat.le_of_ble_eq_true rfl) ?_)
    | (with_reducible refine i_aug (by with_unfolding_all rfl) ?_)
    | (with_reducible refine ⟨_, _, _, (by with_unfolding_all rfl), (by with_unfolding_all rfl), ?_⟩)
    | (with_reducible refine ⟨_, _, (by with_unfolding_all rfl), (by with_unfolding_all rfl), ?_⟩)
    | (with_reducible refine ⟨_, (by with_unfolding_all rfl), ?_⟩)
    | (with_reducible refine ⟨_, _, (by with_unfolding_all rfl), ?_⟩)
    | (with_reducible refine i_ifT (by with_unfolding_all rfl) ?_)
    | (with_reducible refine i_ifF (by with_unfolding_all rfl) ?_)
    | (with_reducible refine ⟨rfl, rfl, _, _, (by with_unfolding_all rfl), ?_⟩)
    | (with_reducible refine c_pow (by decide) (by decide) (by decide) ?_)
    | (with_reducible refine c_b62 (by decide) (by decide) ?_)
    | (with_reducible refine c_eqb (by assumption) (by assumption) (by assumption) ?_)
    | (with_reducible refine c_neb (by assumption) (by assumption) (by assumption) ?_)
    | (with_reducible refine c_neSS (by with_reducible rfl) ?_)
    | (with_reducible refine c_eqSS (by with_reducible rfl) ?_)
    | (with_reducible refine c_rep (by assumption) ?_)
    | (with_reducible refine i_strI ?_ ?_)
    | (with_reducible refine i_mul ?_ ?_)
    | (with_reducible refine i_mod ?_ ?_)
    | (with_reducible refine i_div ?_ ?_)
    | (with_reducible refine i_pow ?_ ?_)
    | (with_reducible refine i_addT ?_ ?_)
    | (with_reducible refine i_addL ?_ ?_)
    | (with_reducible refine i_nm ?_ ?_)
    | (with_reducible refine i_sto (by with_unfolding_all rfl) ?_ ?_)))
local macro_rules
  | `(tactic| array_mem_dec) => `(tactic| repeat' (first
    | (with_reducible refine i_neNil ?_)
    | (with_reducible refine rr ?_)
    | (fail "a")
    | (fail "b")
    | (with_reducible refine i_varD (by with_unfolding_all rfl) ?_)
    | (with_reducible refine i_two (by with_unfolding_all rfl) (by with_unfolding_all rfl) ?_)
    | (with_reducible refine i_frz (by with_unfolding_all rfl) ?_)
    | (with_reducible refine i_sto (by with_unfolding_all rfl) ?_ (Nat.le_of_ble_eq_true rfl))
    | (with_reducible refine i_varO (by with_unfolding_all rfl) ?_)
    | (with_reducible refine i_varK (by with_unfolding_all rfl) ?_)
    | (with_reducible refine i_app (by with_unfolding_all rfl) ?_)
    | (with_reducible refine i_ixT (by with_unfolding_all rfl) ?_)
    | (with_reducible refine i_ixL (by with_unfolding_all rfl) ?_)
    | (with_reducible refine i_frz3 (by with_unfolding_all rfl) (by with_unfolding_all rfl) ?_)
    | (with_reducible refine i_len (Nat.le_of_ble_eq_true rfl) ?_)
    | (with_reducible refine i_frzD (by with_unfolding_all rfl) (by with_unfolding_all rfl) ?_)
    | (with_reducible refine i_ok (by with_unfolding_all exact True.intro) ?_)
    | (with_reducible refine i_nm ?_ (Nat.le_of_ble_eq_true rfl))
    | (with_reducible refine i_tu ?_ (by with_unfolding_all rfl))
    | (with_reducible refine i_li ?_ (by with_unfolding_all rfl))
    | (with_reducible refine i_szc (by with_unfolding_all rfl) ?_)
    | (with_reducible refine i_trB ?_)
    | (with_reducible refine i_ifb ?_)
    | (with_reducible refine i_and2 (Nat.le_of_ble_eq_true rfl) (Nat.le_of_ble_eq_true rfl) ?_)
    | (with_reducible refine i_and3 (Nat.le_of_ble_eq_true rfl) (Nat.le_of_ble_eq_true rfl) (Nat.le_of_ble_eq_true rfl) ?_)
    | (with_reducible refine c_ltlen (Nat.le_of_ble_eq_true rfl) ?_)
    | (with_reducible refine i_aug (by with_unfolding_all rfl) ?_)
    | (with_reducible refine ⟨_, _, _, (by with_unfolding_all rfl), (by with_unfolding_all rfl), ?_⟩)
    | (with_reducible refine ⟨_, _, (by with_unfolding_all rfl), (by with_unfolding_all rfl), ?_⟩)
    | (with_reducible refine ⟨_, (by with_unfolding_all rfl), ?_⟩)
    | (with_reducible refine ⟨_, _, (by with_unfolding_all rfl), ?_⟩)
    | (with_reducible refine i_ifT (by with_unfolding_all rfl) ?_)
    | (with_reducible refine i_ifF (by with_unfolding_all rfl) ?_)
    | (with_reducible refine ⟨rfl, rfl, _, _, (by with_unfolding_all rfl), ?_⟩)
    | (with_reducible refine c_pow (by decide) (by decide) (by decide) ?_)
    | (with_reducible refine c_b62 (by decide) (by decide) ?_)
    | (with_reducible refine c_eqb (by assumption) (by assumption) (by assumption) ?_)
    | (with_reducible refine c_neb (by assumption) (by assumption) (by assumption) ?_)
    | (with_reducible refine c_neSS (by with_reducible rfl) ?_)
    | (with_reducible refine c_eqSS (by with_reducible rfl) ?_)
    | (with_reducible refine c_rep (by assumption) ?_)
    | (with_reducible refine i_eqL0 (by assumption) ?_)
    | (with_reducible refine i_neL0 (by assumption) ?_)
    | (with_reducible refine i_ifNE ?_ ?_ <;> intro h <;> try (first | (exfalso; contradiction) | (exfalso; omega)))
    | (with_reducible refine ⟨len_lt (by omega), ?_⟩)
    | (with_reducible refine i_mulT ?_ (by decide) (by decide) (by omega))
    | (with_reducible exact len_ok (Nat.le_of_ble_eq_true rfl))
    | (with_reducible refine i_mulT ?_ (by decide) (by decide) (Nat.le_trans cut_len (by omega)))
    | (with_reducible refine i_ifE ?_ ?_ <;> intro h <;> try (first | (exfalso; contradiction) | (exfalso; omega)))
    | (with_reducible refine i_eqT0 (by assumption) ?_)
    | (with_reducible refine i_ixT (by assumption) ?_)
    | (with_reducible refine i_ixL (by assumption) ?_)
    | (with_reducible refine i_ifD ?_ ?_ <;> intro h <;> try (exfalso; omega))
    | (with_reducible refine i_ifDN ?_ ?_ <;> intro h <;> try (exfalso; omega))
    | (with_reducible refine i_eq ?_ (by assumption) (by assumption))
    | (with_reducible refine i_ne ?_ (by assumption) (by assumption))
    | (with_reducible refine i_if2 ?_ ?_ <;> intro h)
    | (with_reducible refine i_strI ?_ ?_)
    | (with_reducible refine i_mul ?_ ?_)
    | (with_reducible refine i_mod ?_ ?_)
    | (with_reducible refine i_div ?_ ?_)
    | (with_reducible refine i_pow ?_ ?_)
    | (with_reducible refine i_addT ?_ ?_)
    | (with_reducible refine i_addL ?_ ?_)
    | (with_reducible refine i_nm ?_ ?_)
    | (with_reducible refine i_sto (by with_unfolding_all rfl) ?_ ?_)))
--++ with_reducible refine i_neNil ?_
theorem spec__law_others : ∀ args G, args.length = 2 → S__law_others args G → dDef 4 (B__law_others S__law_back S__law_leads S__law_near S__law_pick S__law_shuffled) args G := by
  rintro args G hl ⟨r, c, rfl, hr, hb, ⟨c2, c33⟩, hG⟩
  have hLb := fun o (ho : o ∈ leads r) => leads_bd (c := c) (by omega) hb ho
  have hLl := leads_len r []
  rw [show leadsFrom [] r = leads r from rfl] at hLl
  unfold dDef B__law_others
  array_mem_dec
  refine ⟨r, rfl, by omega, ?_⟩
  generalize hL : leads r = L at hLb hLl ⊢
  array_mem_dec
  refine ⟨_, rfl, by rw [List.length_map]; omega, fun M hM hMm => ?_⟩
  obtain ⟨N, rfl, hN⟩ := mem_rows hMm
  clear hM hMm
  have gN : ∀ o ∈ N, Good o := fun o ho => ⟨by have := (hLb o (hN o ho)).1; omega, fun p hp => bd_mono (by omega) ((hLb o (hN o ho)).2 p hp)⟩
  have gr : Good r := ⟨by omega, fun p hp => bd_mono (by omega) (hb p hp)⟩
  have gE : ∀ X : List (List Pt), X.length ≤ 100 → (∀ o ∈ X, Good o) → G (.own (X.map rowD)) := hG
  clear hG
  array_mem_dec
  refine lc_each (fun y => ∃ o, y = rowD o ∧ Good o) rfl (szle (by decide)) (fun ρ' ys h' yl hy => ?_) (fun a ha acc K2 hl2 hK2 => ?_)
  rotate_left
  · dsimp only [List.set, wipeD, List.map, List.replicate, List.cons_append, List.nil_append]
    array_mem_dec
    refine good_back (by omega) hb (by omega) (by omega) fun o h1 h2 h3 => ?_
    array_mem_dec
    exact ⟨hl2, hK2 _ _ ⟨o, rfl, h3⟩ rfl⟩
  obtain ⟨Y, rfl, hY⟩ := of_each hy
  rw [show (rngD 0 (Int.toNat 4)).length = 4 from rfl, List.length_map] at yl
  rw [h']
  clear hy h'
  dsimp only [List.set, wipeD, List.map, List.replicate, List.cons_append, List.nil_append]
  obtain ⟨X, eX, lX, gX⟩ : ∃ X : List (List Pt), cutD (N.map rowD) none (some 5) ++ Y.map rowD = X.map rowD ∧ X.length ≤ 9 ∧ ∀ o ∈ X, Good o := by
    refine ⟨cutT N none (some 5) ++ Y, by rw [cutD_map, List.map_append], ?_, fun o ho => (List.mem_append.mp ho).elim (fun h => gN o (cutT_mem h)) (hY o)⟩
    rw [List.length_append, cutT_na N (by decide), List.length_take, yl]
    omega
  have l5 : (cutD (N.map rowD) none (some 5)).length + (Y.map rowD).length ≤ sizeLine := szle (by have := congrArg List.length eX; rw [List.length_append, List.length_map] at this; rw [List.length_map]; simp only [List.length_map] at this; omega)
  array_mem_dec
  all_goals try exact l5
  rw [eX]
  clear eX hY yl hN gN l5
  refine lc_each (fun y => ∃ o, y = rowD o ∧ Good o) rfl (szle (by decide)) (fun ρ' ys h' yl hy => ?_) (fun a ha acc K2 hl2 hK2 => ?_)
  rotate_left
  · dsimp only [List.set, wipeD, List.map, List.replicate, List.cons_append, List.nil_append]
    array_mem_dec
    refine good_near (by omega) hb c2 (by omega) fun o h3 => ?_
    array_mem_dec
    exact ⟨hl2, hK2 _ _ ⟨o, rfl, h3⟩ rfl⟩
  obtain ⟨Z, rfl, hZ⟩ := of_each hy
  rw [show (rngD 0 (Int.toNat 5)).length = 5 from rfl, List.length_map] at yl
  rw [h']
  clear hy h'
  dsimp only [List.set, wipeD, List.map, List.replicate, List.cons_append, List.nil_append]
  array_mem_dec
  · refine good_back (by omega) hb (by omega) (by omega) fun o1 h1 h2 h3 => ?_
    array_mem_dec
    refine good_back (by omega) h2 (by omega) (by omega) fun o2 h4 h5 h6 => ?_
    have eW : X.map rowD ++ Z.map rowD ++ [rowD r, rowD o2] = (X ++ Z ++ [r, o2]).map rowD := by rw [List.map_append, List.map_append]; rfl
    have gW : ∀ o ∈ X ++ Z ++ [r, o2], Good o := fun o ho => by
      rcases List.mem_append.mp ho with ho | ho
      · exact (List.mem_append.mp ho).elim (gX o) (hZ o)
      · simp only [List.mem_cons, List.not_mem_nil, or_false] at ho
        rcases ho with rfl | rfl <;> assumption
    have lW : (X ++ Z ++ [r, o2]).length ≤ 16 := by simp only [List.length_append, List.length_cons, List.length_nil]; omega
    have l6 : (X.map rowD ++ Z.map rowD).length + [rowD r, rowD o2].length ≤ sizeLine := szle (by simp only [List.length_append, List.length_map, List.length_cons, List.length_nil]; omega)
    have hQ := PLift.up hNN
    clear hNN
    array_mem_dec
    all_goals try exact l6
    rw [eW]
    generalize X ++ Z ++ [r, o2] = W at gW lW ⊢
    clear eW l6 h1 h2 h3 h4 h5 h6 hZ gX
    refine i_nxN hQ.down rfl ?_
    clear hQ
    array_mem_dec
    · rename_i hLe
      refine ⟨_, rfl, (by intro e; rw [List.map_eq_nil_iff.mp e] at hLe; cases hLe), by rw [List.length_map]; omega, fun d hd => ?_⟩
      obtain ⟨o, ho, rfl⟩ := List.mem_map.mp hd
      obtain ⟨o1, o2⟩ := hLb o ho
      array_mem_dec
      refine ⟨o, rfl, by omega, ?_⟩
      have pl := leads_len o []
      have pb := fun q (hq : q ∈ leads o) => leads_bd (c := 2 * c) (by omega) o2 hq
      rw [show leadsFrom [] o = leads o from rfl] at pl
      generalize leads o = L2 at pl pb ⊢
      array_mem_dec
      refine ⟨_, rfl, by rw [List.length_map]; omega, fun M hM hMm => ?_⟩
      obtain ⟨N2, rfl, hN2⟩ := mem_rows hMm
      rw [List.length_map, List.length_map] at hM
      have c2l : (cutT N2 none (some 2)).length ≤ 2 := by rw [cutT_na N2 (by decide), List.length_take]; omega
      have last := gE (W ++ cutT N2 none (some 2)) (by rw [List.length_append]; omega) fun q hq => (List.mem_append.mp hq).elim (gW q) fun h => by
        obtain ⟨q1, q2⟩ := pb q (hN2 q (cutT_mem h))
        exact ⟨by omega, fun p hp => bd_mono (by omega) (q2 p hp)⟩
      rw [List.map_append, ← cutD_map] at last
      have l7 : (W.map rowD).length + (cutD (N2.map rowD) none (some 2)).length ≤ sizeLine := szle (by rw [cutD_map, List.length_map, List.length_map]; omega)
      clear hMm
      array_mem_dec
      all_goals first
        | exact last
        | exact l7
        | trace_state
    · exact gE W (by omega) gW
  · exact szle (by rw [List.length_map, List.length_map]; omega)
end Lw
namespace Lw
open PySem L2 DL
theorem enumF_mem : ∀ {L : List (List Pt)} {k : Nat} {d : PyData}, d ∈ enumF k (L.map rowD) → ∃ (n : Int) (o : List Pt), d = .tuple [.int n, rowD o] ∧ o ∈ L
  | [], k, d, h => by cases h
  | a :: L, k, d, h => by
    rw [List.map_cons, enumF_cons] at h
    rcases List.mem_cons.mp h with rfl | h
    · exact ⟨_, a, rfl, List.mem_cons_self⟩
    · obtain ⟨n, o, e, ho⟩ := enumF_mem h
      exact ⟨n, o, e, List.mem_cons_of_mem _ ho⟩
theorem row_go {m : Int} (xs : List Int) {L : List PyData} {G : SV → Prop} (e : L = zs xs) (m0 : 0 ≤ m) (m1 : m < 7) (h1 : xs ≠ []) (h2 : xs.length ≤ 900) (h3 : ∀ x ∈ xs, 0 ≤ x ∧ x ≤ 3 * 10 ^ 30) (k : ∀ r : List Pt, r.length ≤ 9 → (∀ p ∈ r, bd (3 * 10 ^ 30 + 1) p) → G (.dat (rowD r))) : S__law_row [.dk, .dat (.int m), .dat (.list L)] G :=
  ⟨m, xs, 3 * 10 ^ 30, by rw [e], ⟨m0, by omega⟩, h1, h2, h3, ⟨by decide, by decide⟩, fun r hr => k r (by omega)⟩
theorem mul14 {r : List Pt} {G : SV → Prop} (h : r.length ≤ 1000) (k : ∀ R : List Pt, R.length = 14 * r.length → (∀ p ∈ R, p ∈ r) → G (.dat (rowD R))) : gMul (rowD r) (.int 14) G := i_mulT (by
    have := k (List.replicate 14 r).flatten (by simp; omega) (fun p hp => by
      obtain ⟨l, hl, hp⟩ := List.mem_flatten.mp hp
      rw [List.eq_of_mem_replicate hl] at hp
      exact hp)
    unfold rowD at this
    rw [List.map_flatten, List.map_replicate] at this
    exact this) (by decide) (by decide) (by rw [List.length_map]; exact h)
theorem add_row {R : List Pt} {t : List Pt} {G : SV → Prop} (h : R.length + t.length ≤ 2000) (k : G (.dat (rowD (R ++ t)))) : gAdd (rowD R) (rowD t) G := i_addT (by unfold rowD at k; rw [List.map_append] at k; exact k) (szle (by rw [List.length_map, List.length_map]; exact Nat.le_trans h (by decide)))
def PAIRS : List (List Pt × List Pt) := [([.on 2, .off 1, .on 1], [.on 2, .dl 1, .on 0]), ([.on 2, .off 3, .on 4], [.on 2, .dl 3, .on 1]), ([.off 3, .on 2, .off 0], [.off 3, .dl 0, .on 2]), ([.dl 2, .dl 2], [.dl 2, .dl 2]), ([.on 2, .off 1, .on 1], [.on 2, .dl 1, .off 0]), ([.on 2, .off 3, .on 1], [.on 2, .dl 1, .off 2]), ([.on 3, .on 1, .on 2], [.on 3, .dl 1, .on 1]), ([.on 2, .off 0, .on 1], [.on 2, .dl 0, .on 1])]
def exch (x : List Pt × List Pt) : Bool := decide (x.1 ≠ x.2 ∧ (x.2 ∈ leads x.1 ∨ x.1 ∈ leads x.2))
theorem exch_ok : PAIRS.map (fun x => PyData.bool (exch x)) = [.bool true, .bool false, .bool true, .bool false, .bool false, .bool false, .bool false, .bool false] := by
  have : PAIRS.map exch = [true, false, true, false, false, false, false, false] := by decide +kernel
  have h := congrArg (List.map PyData.bool) this
  rw [List.map_map] at h
  exact h
end Lw
namespace Lw
open PySem L2 DL
set_option hygiene false
local macro_rules
  | `(tactic| fail "a") => `(tactic| (with_reducible refine i_seqN ?_; intro NN hNN))
local macro_rules
  | `(tactic| fail "b") => `(tactic| (with_reducible refine i_nxN (by assumption) (by first | (dsimp only [List.set, wipeD]; done) | exact rfl) ?_; (try clear hNN); (try clear NN)))
set_option hygiene true
local macro_rules
  | `(tactic| array_get_dec) => `(tactic| repeat (first
    | (with_reducible refine rr ?_)
    | (fail "a")
    | (fail "b")
    | (with_reducible refine i_varD (by with_unfolding_all rfl) ?_)
    | (with_reducible refine i_two (by with_unfolding_all rfl) (by with_unfolding_all rfl) ?_)
    | (with_reducible refine i_frz (by with_unfolding_all rfl) ?_)
    | (with_reducible refine i_sto (by with_unfolding_all rfl) ?_ (Nat.le_of_ble_eq_true rfl))
    | (with_reducible refine i_varO (by with_unfolding_all rfl) ?_)
    | (with_reducible refine i_varK (by with_unfolding_all rfl) ?_)
    | (with_reducible refine i_app (by with_unfolding_all rfl) ?_)
    | (with_reducible refine i_ixT (by with_unfolding_all rfl) ?_)
    | (with_reducible refine i_ixL (by with_unfolding_all rfl) ?_)
    | (with_reducible refine i_frz3 (by with_unfolding_all rfl) (by with_unfolding_all rfl) ?_)
    | (with_reducible refine i_len (Nat.le_of_ble_eq_true rfl) ?_)
    | (with_reducible refine i_frzD (by with_unfolding_all rfl) (by with_unfolding_all rfl) ?_)
    | (with_reducible refine i_ok (by with_unfolding_all exact True.intro) ?_)
    | (with_reducible refine i_nm ?_ (Nat.le_of_ble_eq_true rfl))
    | (with_reducible refine i_tu ?_ (by with_unfolding_all rfl))
    | (with_reducible refine i_li ?_ (by with_unfolding_all rfl))
    | (with_reducible refine i_szc (by with_unfolding_all rfl) ?_)
    | (with_reducible refine i_trB ?_)
    | (with_reducible refine i_ifb ?_)
    | (with_reducible refine i_and2 (Nat.le_of_ble_eq_true rfl) (Nat.le_of_ble_eq_true rfl) ?_)
    | (with_reducible refine i_and3 (Nat.le_of_ble_eq_true rfl) (Nat.le_of_ble_eq_true rfl) (Nat.le_of_ble_eq_true rfl) ?_)
    | (with_reducible refine c_ltlen (Nat.le_of_ble_eq_true rfl) ?_)
    | (with_reducible refine i_aug (by with_unfolding_all rfl) ?_)
    | (with_reducible refine ⟨_, _, _, (by with_unfolding_all rfl), (by with_unfolding_all rfl), ?_⟩)
    | (with_reducible refine ⟨_, _, (by with_unfolding_all rfl), (by with_unfolding_all rfl), ?_⟩)
    | (with_reducible refine ⟨_, (by with_unfolding_all rfl), ?_⟩)
    | (with_reducible refine ⟨_, _, (by with_unfolding_all rfl), ?_⟩)
    | (with_reducible refine i_ifT (by with_unfolding_all rfl) ?_)
    | (with_reducible refine i_ifF (by with_unfolding_all rfl) ?_)
    | (with_reducible refine ⟨rfl, rfl, _, _, (by with_unfolding_all rfl), ?_⟩)
    | (with_reducible refine c_pow (by decide) (by decide) (by decide) ?_)
    | (with_reducible refine c_b62 (by decide) (by decide) ?_)
    | (with_reducible refine c_eqb (by assumption) (by assumption) (by assumption) ?_)
    | (with_reducible refine c_neb (by assumption) (by assumption) (by assumption) ?_)
    | (with_reducible refine c_neSS (by with_reducible rfl) ?_)
    | (with_reducible refine c_eqSS (by with_reducible rfl) ?_)
    | (with_reducible refine c_rep (by assumption) ?_)
    | (with_reducible refine i_strI ?_ ?_)
    | (with_reducible refine i_mul ?_ ?_)
    | (with_reducible refine i_mod ?_ ?_)
    | (with_reducible refine i_div ?_ ?_)
    | (with_reducible refine i_pow ?_ ?_)
    | (with_reducible refine i_addT ?_ ?_)
    | (with_reducible refine i_addL ?_ ?_)
    | (with_reducible refine i_nm ?_ ?_)
    | (with_reducible refine i_sto (by with_unfolding_all rfl) ?_ ?_)))
local macro_rules
  | `(tactic| array_mem_dec) => `(tactic| repeat' (first
    | (with_reducible refine rr ?_)
    | (fail "a")
    | (fail "b")
    | (with_reducible refine i_varD (by with_unfolding_all rfl) ?_)
    | (with_reducible refine i_two (by with_unfolding_all rfl) (by with_unfolding_all rfl) ?_)
    | (with_reducible refine i_frz (by with_unfolding_all rfl) ?_)
    | (with_reducible refine i_sto (by with_unfolding_all rfl) ?_ (Nat.le_of_ble_eq_true rfl))
    | (with_reducible refine i_varO (by with_unfolding_all rfl) ?_)
    | (with_reducible refine i_varK (by with_unfolding_all rfl) ?_)
    | (with_reducible refine i_app (by with_unfolding_all rfl) ?_)
    | (with_reducible refine i_ixT (by with_unfolding_all rfl) ?_)
    | (with_reducible refine i_ixL (by with_unfolding_all rfl) ?_)
    | (with_reducible refine i_frz3 (by with_unfolding_all rfl) (by with_unfolding_all rfl) ?_)
    | (with_reducible refine i_len (Nat.le_of_ble_eq_true rfl) ?_)
    | (with_reducible refine i_frzD (by with_unfolding_all rfl) (by with_unfolding_all rfl) ?_)
    | (with_reducible refine i_ok (by with_unfolding_all exact True.intro) ?_)
    | (with_reducible refine i_nm ?_ (Nat.le_of_ble_eq_true rfl))
    | (with_reducible refine i_tu ?_ (by with_unfolding_all rfl))
    | (with_reducible refine i_li ?_ (by with_unfolding_all rfl))
    | (with_reducible refine i_szc (by with_unfolding_all rfl) ?_)
    | (with_reducible refine i_trB ?_)
    | (with_reducible refine i_ifb ?_)
    | (with_reducible refine i_and2 (Nat.le_of_ble_eq_true rfl) (Nat.le_of_ble_eq_true rfl) ?_)
    | (with_reducible refine i_and3 (Nat.le_of_ble_eq_true rfl) (Nat.le_of_ble_eq_true rfl) (Nat.le_of_ble_eq_true rfl) ?_)
    | (with_reducible refine c_ltlen (Nat.le_of_ble_eq_true rfl) ?_)
    | (with_reducible refine i_aug (by with_unfolding_all rfl) ?_)
    | (with_reducible refine ⟨_, _, _, (by with_unfolding_all rfl), (by with_unfolding_all rfl), ?_⟩)
    | (with_reducible refine ⟨_, _, (by with_unfolding_all rfl), (by with_unfolding_all rfl), ?_⟩)
    | (with_reducible refine ⟨_, (by with_unfolding_all rfl), ?_⟩)
    | (with_reducible refine ⟨_, _, (by with_unfolding_all rfl), ?_⟩)
    | (with_reducible refine i_ifT (by with_unfolding_all rfl) ?_)
    | (with_reducible refine i_ifF (by with_unfolding_all rfl) ?_)
    | (with_reducible refine ⟨rfl, rfl, _, _, (by with_unfolding_all rfl), ?_⟩)
    | (with_reducible refine c_pow (by decide) (by decide) (by decide) ?_)
    | (with_reducible refine c_b62 (by decide) (by decide) ?_)
    | (with_reducible refine c_eqb (by assumption) (by assumption) (by assumption) ?_)
    | (with_reducible refine c_neb (by assumption) (by assumption) (by assumption) ?_)
    | (with_reducible refine c_neSS (by with_reducible rfl) ?_)
    | (with_reducible refine c_eqSS (by with_reducible rfl) ?_)
    | (with_reducible refine c_rep (by assumption) ?_)
    | (with_reducible refine i_eqL0 (by assumption) ?_)
    | (with_reducible refine i_neL0 (by assumption) ?_)
    | (with_reducible refine i_ifNE ?_ ?_ <;> intro h <;> try (first | (exfalso; contradiction) | (exfalso; omega)))
    | (with_reducible refine ⟨len_lt (by omega), ?_⟩)
    | (with_reducible refine i_mulT ?_ (by decide) (by decide) (by omega))
    | (with_reducible exact len_ok (Nat.le_of_ble_eq_true rfl))
    | (with_reducible refine i_mulT ?_ (by decide) (by decide) (Nat.le_trans cut_len (by omega)))
    | (with_reducible refine i_ifE ?_ ?_ <;> intro h <;> try (first | (exfalso; contradiction) | (exfalso; omega)))
    | (with_reducible refine i_eqT0 (by assumption) ?_)
    | (with_reducible refine i_ixT (by assumption) ?_)
    | (with_reducible refine i_ixL (by assumption) ?_)
    | (with_reducible refine i_ifD ?_ ?_ <;> intro h <;> try (exfalso; omega))
    | (with_reducible refine i_ifDN ?_ ?_ <;> intro h <;> try (exfalso; omega))
    | (with_reducible refine i_eq ?_ (by assumption) (by assumption))
    | (with_reducible refine i_ne ?_ (by assumption) (by assumption))
    | (with_reducible refine i_if2 ?_ ?_ <;> intro h)
    | (with_reducible refine i_strI ?_ ?_)
    | (with_reducible refine i_mul ?_ ?_)
    | (with_reducible refine i_mod ?_ ?_)
    | (with_reducible refine i_div ?_ ?_)
    | (with_reducible refine i_pow ?_ ?_)
    | (with_reducible refine i_addT ?_ ?_)
    | (with_reducible refine i_addL ?_ ?_)
    | (with_reducible refine i_nm ?_ ?_)
    | (with_reducible refine i_sto (by with_unfolding_all rfl) ?_ ?_)))
theorem inner {r : List Pt} {L : List (List Pt)} {t : Int} {X4 x6 x7 : Option SV} {E : DEnds} (hr : r.length ≤ 9) (hb : ∀ p ∈ r, bd (10 ^ 36) p) (hL : ∀ o ∈ L, o.length ≤ 30 ∧ ∀ p ∈ o, bd (10 ^ 36) p) (h0 : ∀ x6 x7, E.nx [none, some .dk, some (.dat (.int 1000000000000000000000000000000)), some (.dat (.int t)), X4, some (.dat (rowD r)), x6, x7, none, none]) :
    forT (gTu 2 (gCons' (gNm 6) (gCons' (gNm 7) gNil'))) (dIfS (dNot (dTru (dCall (sz 3 S__law_is_told) (dCons (dVar 5) (dCons (dVar 7) (dCons (dBin gEq (dVar 6) (dVar 3)) dNil)))))) (dRet (dC (.bool false))) dNext) E (enumD (L.map rowD)) [none, some .dk, some (.dat (.int 1000000000000000000000000000000)), some (.dat (.int t)), X4, some (.dat (rowD r)), x6, x7, none, none] := by
  refine forT_any _ (fun ρ => ∃ x6 x7 : Option SV, ρ = [none, some .dk, some (.dat (.int 1000000000000000000000000000000)), some (.dat (.int t)), X4, some (.dat (rowD r)), x6, x7, none, none]) ?_ ?_ _ ⟨_, _, rfl⟩
  · rintro ρ ⟨x6, x7, rfl⟩
    exact h0 x6 x7
  · rintro d hd ρ K hK ⟨x6, x7, rfl⟩
    rw [enumD_F] at hd
    obtain ⟨n, o, rfl, ho⟩ := enumF_mem hd
    obtain ⟨o1, o2⟩ := hL o ho
    have go : ∀ x6 x7, K [none, some .dk, some (.dat (.int 1000000000000000000000000000000)), some (.dat (.int t)), X4, some (.dat (rowD r)), x6, x7, none, none] := fun x6 x7 => hK _ ⟨x6, x7, rfl⟩
    clear hK hd
    array_mem_dec
    refine ⟨r, o, _, rfl, ⟨by omega, by omega⟩, hb, o2, ?_⟩
    array_mem_dec
    exact go _ _
theorem spec_law : (B_law S__law_back S__law_draw S__law_is_told S__law_leads S__law_near S__law_others S__law_pick S__law_row S_is_exchange) { nx := fun _ => False, rt := fun r _ => r = .dat (.bool true) } (none :: some .dk :: (N_law.drop 2).map fun _ => none) := by
  show (B_law S__law_back S__law_draw S__law_is_told S__law_leads S__law_near S__law_others S__law_pick S__law_row S_is_exchange) { nx := fun _ => False, rt := fun r _ => r = .dat (.bool true) } [none, some .dk, none, none, none, none, none, none, none, none]
  unfold B_law
  array_mem_dec
  rw [show (10 : Int) ^ Int.toNat 30 = 1000000000000000000000000000000 from by decide]
  refine forT_any _ (fun ρ => ∃ x3 x4 x5 x6 x7 : Option SV, ρ = [none, some .dk, some (.dat (.int 1000000000000000000000000000000)), x3, x4, x5, x6, x7, none, none]) ?_ ?_ _ ⟨_, _, _, _, _, rfl⟩
  · rintro ρ ⟨x3, x4, x5, x6, x7, rfl⟩
    array_mem_dec
    refine i_draw (by decide) (by decide) fun m m0 m1 => ?_
    have J : ∀ x3 x4 x5 x6 x7 : Option SV, NN [none, some .dk, some (.dat (.int 1000000000000000000000000000000)), x3, x4, x5, x6, x7, none, none] := by
      intro x3 x4 x5 x6 x7
      refine i_nxN hNN rfl ?_
      clear hNN
      have rpb : reprOk (.list [.bool true, .bool false, .bool true, .bool false, .bool false, .bool false, .bool false, .bool false]) := (fit_lst (n := 5) (k := 0) (all_cons fit_bool (all_cons fit_bool (all_cons fit_bool (all_cons fit_bool (all_cons fit_bool (all_cons fit_bool (all_cons fit_bool (all_cons fit_bool all_nil))))))))).ok (by simp) (by decide)
      array_mem_dec
      refine lc_all (α := List Pt × List Pt) (e := fun x => .tuple [rowD x.1, rowD x.2]) (xs := PAIRS) (fun x => .bool (exch x)) rfl (szle (by decide)) (fun ρ' h' => ?_) (fun x hx acc K2 hl2 hK2 => ?_)
      rotate_left
      · have hxl : x.1.length ≤ 1000 ∧ x.2.length ≤ 1000 := (by decide : ∀ x ∈ PAIRS, x.1.length ≤ 1000 ∧ x.2.length ≤ 1000) x hx
        array_mem_dec
        refine ⟨x.1, x.2, rfl, hxl, fun b hb => ?_⟩
        have eb : b = exch x := by
          refine Bool.eq_iff_iff.mpr (hb.trans ?_)
          unfold exch
          rw [decide_eq_true_iff, mem_leads, mem_leads]
        subst eb
        array_mem_dec
        exact ⟨hl2, hK2 _ rfl⟩
      · rw [h', exch_ok]
        dsimp only [List.set, wipeD, List.map, List.replicate, List.cons_append, List.nil_append]
        array_mem_dec
        rfl
    clear hNN
    array_mem_dec
    · refine ⟨1, [1, 2, 3], 3, rfl, by decide, by decide, by decide, by decide, by decide, fun r hr hb => ?_⟩
      array_mem_dec
      refine mul14 (by omega) fun R hR hRm => ?_
      have hRb : ∀ p ∈ R, bd 4 p := fun p hp => hb p (hRm p hp)
      have hRl : R.length ≤ 56 := by omega
      clear hRm hR hb hr
      array_mem_dec
      refine ⟨R, 4, rfl, by omega, hRb, by decide, fun a a1 a2 => ?_⟩
      array_mem_dec
      refine ⟨R, 4, rfl, by omega, hRb, by decide, fun b b1 b2 => ?_⟩
      array_mem_dec
      refine add_row (t := [.on 0]) (by simp only [List.length_cons, List.length_nil]; omega) ?_
      have hR2l : (R ++ [Pt.on 0]).length ≤ 57 := by simp only [List.length_append, List.length_cons, List.length_nil]; omega
      have hR2b : ∀ p ∈ R ++ [Pt.on 0], bd 4 p := fun p hp => (List.mem_append.mp hp).elim (hRb p) fun h => by rw [List.mem_singleton.mp h]; exact ⟨by decide, by decide⟩
      have hne : leads (R ++ [Pt.on 0]) ≠ [] := fun e => by
        have : R ∈ leads (R ++ [Pt.on 0]) := mem_leads.mpr ⟨R, [.on 0], [], [], by simp, by simp, by decide⟩
        rw [e] at this
        cases this
      array_mem_dec
      refine ⟨R ++ [.on 0], rfl, by omega, ?_⟩
      have pl := leads_len (R ++ [Pt.on 0]) []
      have pb := fun q (hq : q ∈ leads (R ++ [Pt.on 0])) => leads_bd (c := 4) (by decide) hR2b hq
      rw [show leadsFrom [] (R ++ [Pt.on 0]) = leads (R ++ [Pt.on 0]) from rfl] at pl
      generalize leads (R ++ [Pt.on 0]) = L at pl pb hne ⊢
      array_mem_dec
      refine ⟨_, rfl, fun e => hne (List.map_eq_nil_iff.mp e), by rw [List.length_map]; omega, fun d hd => ?_⟩
      obtain ⟨o, ho, rfl⟩ := List.mem_map.mp hd
      obtain ⟨o1, o2⟩ := pb o ho
      array_mem_dec
      refine forT_any _ (fun ρ => ∃ x7 : Option SV, ρ = [none, some .dk, some (.dat (.int 1000000000000000000000000000000)), x3, x4, some (.dat (rowD R)), x6, x7, none, none]) ?_ ?_ _ ⟨_, rfl⟩
      · rintro ρ ⟨x7, rfl⟩
        exact J _ _ _ _ _
      · rintro d hd ρ K hK ⟨x7, rfl⟩
        have go : ∀ x7, K [none, some .dk, some (.dat (.int 1000000000000000000000000000000)), x3, x4, some (.dat (rowD R)), x6, x7, none, none] := fun x7 => hK _ ⟨x7, rfl⟩
        obtain ⟨q, rfl, ql, qb⟩ : ∃ q : List Pt, d = rowD q ∧ q.length ≤ 1000 ∧ ∀ p ∈ q, bd (10 ^ 36) p := by
          simp only [List.mem_cons, List.not_mem_nil, or_false] at hd
          rcases hd with rfl | rfl | rfl
          · exact ⟨a, rfl, by omega, fun p hp => bd_mono (by decide) (a2 p hp)⟩
          · exact ⟨b, rfl, by omega, fun p hp => bd_mono (by decide) (b2 p hp)⟩
          · exact ⟨o, rfl, by omega, fun p hp => bd_mono (by decide) (o2 p hp)⟩
        clear hK hd J
        array_mem_dec
        refine ⟨R, q, false, rfl, ⟨by omega, ql⟩, fun p hp => bd_mono (by decide) (hRb p hp), qb, ?_⟩
        array_mem_dec
        exact go _
    · exact J _ _ _ _ _
  · rintro d hd ρ K hK ⟨x3, x4, x5, x6, x7, rfl⟩
    have go : ∀ x3 x4 x5 x6 x7, K [none, some .dk, some (.dat (.int 1000000000000000000000000000000)), x3, x4, x5, x6, x7, none, none] := fun x3 x4 x5 x6 x7 => hK _ ⟨x3, x4, x5, x6, x7, rfl⟩
    clear hK hNN
    obtain ⟨t, rfl⟩ : ∃ t : Int, d = .int t := by
      obtain ⟨k, _, rfl⟩ := List.mem_map.mp hd
      exact ⟨_, rfl⟩
    have ht : t = 0 ∨ t = 1 ∨ t = 2 := by
      have : PyData.int t ∈ [PyData.int 0, .int 1, .int 2] := hd
      simpa using this
    clear hd
    have rest : ∀ (x4 : Option SV) (r : List Pt), r.length ≤ 9 → (∀ p ∈ r, bd (3 * 10 ^ 30 + 1) p) → True := fun _ _ _ _ => trivial
    rcases ht with rfl | rfl | rfl
    all_goals
      array_mem_dec
      refine i_draw (by decide) (by decide) fun m m0 m1 => ?_
      array_mem_dec
      first
        | refine row_go [0, 1, 1, 2, 2, 3] rfl m0 m1 (by decide) (by decide) (by decide) fun r hr hb => ?_
        | refine row_go [0, 1, 2, 3, 5, 8] rfl m0 m1 (by decide) (by decide) (by decide) fun r hr hb => ?_
        | refine row_go [0, 1, 1000000000000000000000000000000, 1000000000000000000000000000000 - 1, 1000000000000000000000000000000 + 1, 3 * 1000000000000000000000000000000] rfl m0 m1 (by decide) (by decide) (by decide) fun r hr hb => ?_
      array_mem_dec
      refine ⟨r, 3 * 10 ^ 30 + 1, rfl, by omega, hb, ⟨by decide, by decide⟩, fun L hL hLg => ?_⟩
      array_mem_dec
      refine inner hr (fun p hp => bd_mono (by decide) (hb p hp)) hLg fun x6 x7 => ?_
      exact go _ _ _ _ _
    all_goals exact mulL (by decide) (by decide)
end Lw
namespace Lw
open PySem L2 DL PySem.Spec
theorem all_mk {l : PySem.W.OpenLaw} {w : World} {K : PySem.W.Frag} {h : Heap} {mg : Str → Option Value} {fa : Addr} (X : K.In h) (G : h.Ns mainGlobals mg) (hfa : mg "law" = some (.ref fa))
    {f0 : Addr} {od0 an0 : Option Addr} {sl0 : Array (Option Value)} {oc0 kV0 dc0 pm0 cd0 ct0 : Value}
    {f1 : Addr} {od1 an1 : Option Addr} {sl1 : Array (Option Value)} {oc1 kV1 dc1 pm1 cd1 ct1 : Value}
    {f2 : Addr} {od2 an2 : Option Addr} {sl2 : Array (Option Value)} {oc2 kV2 dc2 pm2 cd2 ct2 : Value}
    {f3 : Addr} {od3 an3 : Option Addr} {sl3 : Array (Option Value)} {oc3 kV3 dc3 pm3 cd3 ct3 : Value}
    {f4 : Addr} {od4 an4 : Option Addr} {sl4 : Array (Option Value)} {oc4 kV4 dc4 pm4 cd4 ct4 : Value}
    {f5 : Addr} {od5 an5 : Option Addr} {sl5 : Array (Option Value)} {oc5 kV5 dc5 pm5 cd5 ct5 : Value}
    {f6 : Addr} {od6 an6 : Option Addr} {sl6 : Array (Option Value)} {oc6 kV6 dc6 pm6 cd6 ct6 : Value}
    {f7 : Addr} {od7 an7 : Option Addr} {sl7 : Array (Option Value)} {oc7 kV7 dc7 pm7 cd7 ct7 : Value}
    {f8 : Addr} {od8 an8 : Option Addr} {sl8 : Array (Option Value)} {oc8 kV8 dc8 pm8 cd8 ct8 : Value}
    {f9 : Addr} {od9 an9 : Option Addr} {sl9 : Array (Option Value)} {oc9 kV9 dc9 pm9 cd9 ct9 : Value}
    {f10 : Addr} {od10 an10 : Option Addr} {sl10 : Array (Option Value)} {oc10 kV10 dc10 pm10 cd10 ct10 : Value}
    {f11 : Addr} {od11 an11 : Option Addr} {sl11 : Array (Option Value)} {oc11 kV11 dc11 pm11 cd11 ct11 : Value}
    {f12 : Addr} {od12 an12 : Option Addr} {sl12 : Array (Option Value)} {oc12 kV12 dc12 pm12 cd12 ct12 : Value}
    {f13 : Addr} {od13 an13 : Option Addr} {sl13 : Array (Option Value)} {oc13 kV13 dc13 pm13 cd13 ct13 : Value}
    {f14 : Addr} {od14 an14 : Option Addr} {sl14 : Array (Option Value)} {oc14 kV14 dc14 pm14 cd14 ct14 : Value}
    {f15 : Addr} {od15 an15 : Option Addr} {sl15 : Array (Option Value)} {oc15 kV15 dc15 pm15 cd15 ct15 : Value}
    {f16 : Addr} {od16 an16 : Option Addr} {sl16 : Array (Option Value)} {oc16 kV16 dc16 pm16 cd16 ct16 : Value}
    {f17 : Addr} {od17 an17 : Option Addr} {sl17 : Array (Option Value)} {oc17 kV17 dc17 pm17 cd17 ct17 : Value}
    {f18 : Addr} {od18 an18 : Option Addr} {sl18 : Array (Option Value)} {oc18 kV18 dc18 pm18 cd18 ct18 : Value}
    {f19 : Addr} {od19 an19 : Option Addr} {sl19 : Array (Option Value)} {oc19 kV19 dc19 pm19 cd19 ct19 : Value}
    {f20 : Addr} {od20 an20 : Option Addr} {sl20 : Array (Option Value)} {oc20 kV20 dc20 pm20 cd20 ct20 : Value}
    {f21 : Addr} {od21 an21 : Option Addr} {sl21 : Array (Option Value)} {oc21 kV21 dc21 pm21 cd21 ct21 : Value}
    {f22 : Addr} {od22 an22 : Option Addr} {sl22 : Array (Option Value)} {oc22 kV22 dc22 pm22 cd22 ct22 : Value}
    {f23 : Addr} {od23 an23 : Option Addr} {sl23 : Array (Option Value)} {oc23 kV23 dc23 pm23 cd23 ct23 : Value}
    {f24 : Addr} {od24 an24 : Option Addr} {sl24 : Array (Option Value)} {oc24 kV24 dc24 pm24 cd24 ct24 : Value}
    {f25 : Addr} {od25 an25 : Option Addr} {sl25 : Array (Option Value)} {oc25 kV25 dc25 pm25 cd25 ct25 : Value}
    {f26 : Addr} {od26 an26 : Option Addr} {sl26 : Array (Option Value)} {oc26 kV26 dc26 pm26 cd26 ct26 : Value}
    {f27 : Addr} {od27 an27 : Option Addr} {sl27 : Array (Option Value)} {oc27 kV27 dc27 pm27 cd27 ct27 : Value}
    {f28 : Addr} {od28 an28 : Option Addr} {sl28 : Array (Option Value)} {oc28 kV28 dc28 pm28 cd28 ct28 : Value}
    {xCONTRARIES : Addr} {esCONTRARIES : Array DictEntry} {nCONTRARIES : Nat} {tCONTRARIES0 tCONTRARIES1 : Tok}
    {xSIZES : Addr} {pSIZES0 pSIZES1 pSIZES2 : Tok} {mSIZES : Nat} {gSIZES : Array (Option Value)}
    {xTURN : Addr} {pTURN0 : Tok} {mTURN : Nat} {gTURN : Array (Option Value)}
    (a0 : PySem.W.nsIn K mainGlobals "outcomes" = some (some (.ref f0))) (l0 : K.lookup f0 = some ⟨oc0, od0, .func (PySem.W.fnOf "outcomes" "outcomes" (defArgs s_outcomes) (defBody s_outcomes) (defScope s_outcomes) .none kV0 dc0 pm0 an0 cd0 ct0), sl0⟩) (c0 : PySem.W.codeIn K cd0 "outcomes" = true) (k0 : PySem.W.keepIn K (.ref f0) = true)
    (a1 : PySem.W.nsIn K mainGlobals "nothing_left" = some (some (.ref f1))) (l1 : K.lookup f1 = some ⟨oc1, od1, .func (PySem.W.fnOf "nothing_left" "nothing_left" (defArgs s_nothing_left) (defBody s_nothing_left) (defScope s_nothing_left) .none kV1 dc1 pm1 an1 cd1 ct1), sl1⟩) (c1 : PySem.W.codeIn K cd1 "nothing_left" = true) (k1 : PySem.W.keepIn K (.ref f1) = true)
    (a2 : PySem.W.nsIn K mainGlobals "put_together" = some (some (.ref f2))) (l2 : K.lookup f2 = some ⟨oc2, od2, .func (PySem.W.fnOf "put_together" "put_together" (defArgs s_put_together) (defBody s_put_together) (defScope s_put_together) .none kV2 dc2 pm2 an2 cd2 ct2), sl2⟩) (c2 : PySem.W.codeIn K cd2 "put_together" = true) (k2 : PySem.W.keepIn K (.ref f2) = true)
    (a3 : PySem.W.nsIn K mainGlobals "places_changed" = some (some (.ref f3))) (l3 : K.lookup f3 = some ⟨oc3, od3, .func (PySem.W.fnOf "places_changed" "places_changed" (defArgs s_places_changed) (defBody s_places_changed) (defScope s_places_changed) .none kV3 dc3 pm3 an3 cd3 ct3), sl3⟩) (c3 : PySem.W.codeIn K cd3 "places_changed" = true) (k3 : PySem.W.keepIn K (.ref f3) = true)
    (a4 : PySem.W.nsIn K mainGlobals "turns_gone" = some (some (.ref f4))) (l4 : K.lookup f4 = some ⟨oc4, od4, .func (PySem.W.fnOf "turns_gone" "turns_gone" (defArgs s_turns_gone) (defBody s_turns_gone) (defScope s_turns_gone) .none kV4 dc4 pm4 an4 cd4 ct4), sl4⟩) (c4 : PySem.W.codeIn K cd4 "turns_gone" = true) (k4 : PySem.W.keepIn K (.ref f4) = true)
    (a5 : PySem.W.nsIn K mainGlobals "turn_led" = some (some (.ref f5))) (l5 : K.lookup f5 = some ⟨oc5, od5, .func (PySem.W.fnOf "turn_led" "turn_led" (defArgs s_turn_led) (defBody s_turn_led) (defScope s_turn_led) .none kV5 dc5 pm5 an5 cd5 ct5), sl5⟩) (c5 : PySem.W.codeIn K cd5 "turn_led" = true) (k5 : PySem.W.keepIn K (.ref f5) = true)
    (a6 : PySem.W.nsIn K mainGlobals "swing_gone" = some (some (.ref f6))) (l6 : K.lookup f6 = some ⟨oc6, od6, .func (PySem.W.fnOf "swing_gone" "swing_gone" (defArgs s_swing_gone) (defBody s_swing_gone) (defScope s_swing_gone) .none kV6 dc6 pm6 an6 cd6 ct6), sl6⟩) (c6 : PySem.W.codeIn K cd6 "swing_gone" = true) (k6 : PySem.W.keepIn K (.ref f6) = true)
    (a7 : PySem.W.nsIn K mainGlobals "is_timer" = some (some (.ref f7))) (l7 : K.lookup f7 = some ⟨oc7, od7, .func (PySem.W.fnOf "is_timer" "is_timer" (defArgs s_is_timer) (defBody s_is_timer) (defScope s_is_timer) .none kV7 dc7 pm7 an7 cd7 ct7), sl7⟩) (c7 : PySem.W.codeIn K cd7 "is_timer" = true) (k7 : PySem.W.keepIn K (.ref f7) = true)
    (a8 : PySem.W.nsIn K mainGlobals "is_exchange" = some (some (.ref f8))) (l8 : K.lookup f8 = some ⟨oc8, od8, .func (PySem.W.fnOf "is_exchange" "is_exchange" (defArgs s_is_exchange) (defBody s_is_exchange) (defScope s_is_exchange) .none kV8 dc8 pm8 an8 cd8 ct8), sl8⟩) (c8 : PySem.W.codeIn K cd8 "is_exchange" = true) (k8 : PySem.W.keepIn K (.ref f8) = true)
    (a9 : PySem.W.nsIn K mainGlobals "_is_led" = some (some (.ref f9))) (l9 : K.lookup f9 = some ⟨oc9, od9, .func (PySem.W.fnOf "_is_led" "_is_led" (defArgs s__is_led) (defBody s__is_led) (defScope s__is_led) .none kV9 dc9 pm9 an9 cd9 ct9), sl9⟩) (c9 : PySem.W.codeIn K cd9 "_is_led" = true) (k9 : PySem.W.keepIn K (.ref f9) = true)
    (a10 : PySem.W.nsIn K mainGlobals "_is_led_at" = some (some (.ref f10))) (l10 : K.lookup f10 = some ⟨oc10, od10, .func (PySem.W.fnOf "_is_led_at" "_is_led_at" (defArgs s__is_led_at) (defBody s__is_led_at) (defScope s__is_led_at) .none kV10 dc10 pm10 an10 cd10 ct10), sl10⟩) (c10 : PySem.W.codeIn K cd10 "_is_led_at" = true) (k10 : PySem.W.keepIn K (.ref f10) = true)
    (a11 : PySem.W.nsIn K mainGlobals "_alike_parts" = some (some (.ref f11))) (l11 : K.lookup f11 = some ⟨oc11, od11, .func (PySem.W.fnOf "_alike_parts" "_alike_parts" (defArgs s__alike_parts) (defBody s__alike_parts) (defScope s__alike_parts) .none kV11 dc11 pm11 an11 cd11 ct11), sl11⟩) (c11 : PySem.W.codeIn K cd11 "_alike_parts" = true) (k11 : PySem.W.keepIn K (.ref f11) = true)
    (a12 : PySem.W.nsIn K mainGlobals "_law_stock" = some (some (.ref f12))) (l12 : K.lookup f12 = some ⟨oc12, od12, .func (PySem.W.fnOf "_law_stock" "_law_stock" (defArgs s__law_stock) (defBody s__law_stock) (defScope s__law_stock) .none kV12 dc12 pm12 an12 cd12 ct12), sl12⟩) (c12 : PySem.W.codeIn K cd12 "_law_stock" = true) (k12 : PySem.W.keepIn K (.ref f12) = true)
    (a13 : PySem.W.nsIn K mainGlobals "_law_draw" = some (some (.ref f13))) (l13 : K.lookup f13 = some ⟨oc13, od13, .func (PySem.W.fnOf "_law_draw" "_law_draw" (defArgs s__law_draw) (defBody s__law_draw) (defScope s__law_draw) .none kV13 dc13 pm13 an13 cd13 ct13), sl13⟩) (c13 : PySem.W.codeIn K cd13 "_law_draw" = true) (k13 : PySem.W.keepIn K (.ref f13) = true)
    (a14 : PySem.W.nsIn K mainGlobals "_law_pick" = some (some (.ref f14))) (l14 : K.lookup f14 = some ⟨oc14, od14, .func (PySem.W.fnOf "_law_pick" "_law_pick" (defArgs s__law_pick) (defBody s__law_pick) (defScope s__law_pick) .none kV14 dc14 pm14 an14 cd14 ct14), sl14⟩) (c14 : PySem.W.codeIn K cd14 "_law_pick" = true) (k14 : PySem.W.keepIn K (.ref f14) = true)
    (a15 : PySem.W.nsIn K mainGlobals "_law_shuffled" = some (some (.ref f15))) (l15 : K.lookup f15 = some ⟨oc15, od15, .func (PySem.W.fnOf "_law_shuffled" "_law_shuffled" (defArgs s__law_shuffled) (defBody s__law_shuffled) (defScope s__law_shuffled) .none kV15 dc15 pm15 an15 cd15 ct15), sl15⟩) (c15 : PySem.W.codeIn K cd15 "_law_shuffled" = true) (k15 : PySem.W.keepIn K (.ref f15) = true)
    (a16 : PySem.W.nsIn K mainGlobals "_law_contrary" = some (some (.ref f16))) (l16 : K.lookup f16 = some ⟨oc16, od16, .func (PySem.W.fnOf "_law_contrary" "_law_contrary" (defArgs s__law_contrary) (defBody s__law_contrary) (defScope s__law_contrary) .none kV16 dc16 pm16 an16 cd16 ct16), sl16⟩) (c16 : PySem.W.codeIn K cd16 "_law_contrary" = true) (k16 : PySem.W.keepIn K (.ref f16) = true)
    (a17 : PySem.W.nsIn K mainGlobals "_law_part" = some (some (.ref f17))) (l17 : K.lookup f17 = some ⟨oc17, od17, .func (PySem.W.fnOf "_law_part" "_law_part" (defArgs s__law_part) (defBody s__law_part) (defScope s__law_part) .none kV17 dc17 pm17 an17 cd17 ct17), sl17⟩) (c17 : PySem.W.codeIn K cd17 "_law_part" = true) (k17 : PySem.W.keepIn K (.ref f17) = true)
    (a18 : PySem.W.nsIn K mainGlobals "_law_row" = some (some (.ref f18))) (l18 : K.lookup f18 = some ⟨oc18, od18, .func (PySem.W.fnOf "_law_row" "_law_row" (defArgs s__law_row) (defBody s__law_row) (defScope s__law_row) .none kV18 dc18 pm18 an18 cd18 ct18), sl18⟩) (c18 : PySem.W.codeIn K cd18 "_law_row" = true) (k18 : PySem.W.keepIn K (.ref f18) = true)
    (a19 : PySem.W.nsIn K mainGlobals "_law_pairs" = some (some (.ref f19))) (l19 : K.lookup f19 = some ⟨oc19, od19, .func (PySem.W.fnOf "_law_pairs" "_law_pairs" (defArgs s__law_pairs) (defBody s__law_pairs) (defScope s__law_pairs) .none kV19 dc19 pm19 an19 cd19 ct19), sl19⟩) (c19 : PySem.W.codeIn K cd19 "_law_pairs" = true) (k19 : PySem.W.keepIn K (.ref f19) = true)
    (a20 : PySem.W.nsIn K mainGlobals "_law_swings" = some (some (.ref f20))) (l20 : K.lookup f20 = some ⟨oc20, od20, .func (PySem.W.fnOf "_law_swings" "_law_swings" (defArgs s__law_swings) (defBody s__law_swings) (defScope s__law_swings) .none kV20 dc20 pm20 an20 cd20 ct20), sl20⟩) (c20 : PySem.W.codeIn K cd20 "_law_swings" = true) (k20 : PySem.W.keepIn K (.ref f20) = true)
    (a21 : PySem.W.nsIn K mainGlobals "_law_leads" = some (some (.ref f21))) (l21 : K.lookup f21 = some ⟨oc21, od21, .func (PySem.W.fnOf "_law_leads" "_law_leads" (defArgs s__law_leads) (defBody s__law_leads) (defScope s__law_leads) .none kV21 dc21 pm21 an21 cd21 ct21), sl21⟩) (c21 : PySem.W.codeIn K cd21 "_law_leads" = true) (k21 : PySem.W.keepIn K (.ref f21) = true)
    (a22 : PySem.W.nsIn K mainGlobals "_law_is_led" = some (some (.ref f22))) (l22 : K.lookup f22 = some ⟨oc22, od22, .func (PySem.W.fnOf "_law_is_led" "_law_is_led" (defArgs s__law_is_led) (defBody s__law_is_led) (defScope s__law_is_led) .none kV22 dc22 pm22 an22 cd22 ct22), sl22⟩) (c22 : PySem.W.codeIn K cd22 "_law_is_led" = true) (k22 : PySem.W.keepIn K (.ref f22) = true)
    (a23 : PySem.W.nsIn K mainGlobals "_law_unswung" = some (some (.ref f23))) (l23 : K.lookup f23 = some ⟨oc23, od23, .func (PySem.W.fnOf "_law_unswung" "_law_unswung" (defArgs s__law_unswung) (defBody s__law_unswung) (defScope s__law_unswung) .none kV23 dc23 pm23 an23 cd23 ct23), sl23⟩) (c23 : PySem.W.codeIn K cd23 "_law_unswung" = true) (k23 : PySem.W.keepIn K (.ref f23) = true)
    (a24 : PySem.W.nsIn K mainGlobals "_law_back" = some (some (.ref f24))) (l24 : K.lookup f24 = some ⟨oc24, od24, .func (PySem.W.fnOf "_law_back" "_law_back" (defArgs s__law_back) (defBody s__law_back) (defScope s__law_back) .none kV24 dc24 pm24 an24 cd24 ct24), sl24⟩) (c24 : PySem.W.codeIn K cd24 "_law_back" = true) (k24 : PySem.W.keepIn K (.ref f24) = true)
    (a25 : PySem.W.nsIn K mainGlobals "_law_near" = some (some (.ref f25))) (l25 : K.lookup f25 = some ⟨oc25, od25, .func (PySem.W.fnOf "_law_near" "_law_near" (defArgs s__law_near) (defBody s__law_near) (defScope s__law_near) .none kV25 dc25 pm25 an25 cd25 ct25), sl25⟩) (c25 : PySem.W.codeIn K cd25 "_law_near" = true) (k25 : PySem.W.keepIn K (.ref f25) = true)
    (a26 : PySem.W.nsIn K mainGlobals "_law_others" = some (some (.ref f26))) (l26 : K.lookup f26 = some ⟨oc26, od26, .func (PySem.W.fnOf "_law_others" "_law_others" (defArgs s__law_others) (defBody s__law_others) (defScope s__law_others) .none kV26 dc26 pm26 an26 cd26 ct26), sl26⟩) (c26 : PySem.W.codeIn K cd26 "_law_others" = true) (k26 : PySem.W.keepIn K (.ref f26) = true)
    (a27 : PySem.W.nsIn K mainGlobals "_law_is_told" = some (some (.ref f27))) (l27 : K.lookup f27 = some ⟨oc27, od27, .func (PySem.W.fnOf "_law_is_told" "_law_is_told" (defArgs s__law_is_told) (defBody s__law_is_told) (defScope s__law_is_told) .none kV27 dc27 pm27 an27 cd27 ct27), sl27⟩) (c27 : PySem.W.codeIn K cd27 "_law_is_told" = true) (k27 : PySem.W.keepIn K (.ref f27) = true)
    (a28 : PySem.W.nsIn K mainGlobals "law" = some (some (.ref f28))) (l28 : K.lookup f28 = some ⟨oc28, od28, .func (PySem.W.fnOf "law" "law" (defArgs s_law) (defBody s_law) (defScope s_law) .none kV28 dc28 pm28 an28 cd28 ct28), sl28⟩) (c28 : PySem.W.codeIn K cd28 "law" = true) (k28 : PySem.W.keepIn K (.ref f28) = true)
    (zb_abs : PySem.W.nsIn K mainGlobals "abs" = some none)
    (zb_enumerate : PySem.W.nsIn K mainGlobals "enumerate" = some none)
    (zb_int : PySem.W.nsIn K mainGlobals "int" = some none)
    (zb_len : PySem.W.nsIn K mainGlobals "len" = some none)
    (zb_list : PySem.W.nsIn K mainGlobals "list" = some none)
    (zb_max : PySem.W.nsIn K mainGlobals "max" = some none)
    (zb_min : PySem.W.nsIn K mainGlobals "min" = some none)
    (zb_range : PySem.W.nsIn K mainGlobals "range" = some none)
    (zb_repr : PySem.W.nsIn K mainGlobals "repr" = some none)
    (zb_sum : PySem.W.nsIn K mainGlobals "sum" = some none)
    (zb_tuple : PySem.W.nsIn K mainGlobals "tuple" = some none)
    (zb_zip : PySem.W.nsIn K mainGlobals "zip" = some none)
    (vCONTRARIES : PySem.W.nsIn K mainGlobals "CONTRARIES" = some (some (.ref xCONTRARIES))) (vxCONTRARIES : K.lookup xCONTRARIES = some ⟨.type "dict", none, .dict esCONTRARIES nCONTRARIES, #[]⟩) (vkCONTRARIES : PySem.W.KeysLit w.params esCONTRARIES.toList) (vlCONTRARIES : (xCONTRARIES == sysModules) = false)
    (viCONTRARIES0 : PySem.W.nsIn K xCONTRARIES "on" = some (some (.str "off" tCONTRARIES0)))
    (viCONTRARIES1 : PySem.W.nsIn K xCONTRARIES "off" = some (some (.str "on" tCONTRARIES1)))
    (voCONTRARIES0 : PySem.W.nsIn K xCONTRARIES "delay" = some none)
    (voCONTRARIES1 : PySem.W.nsIn K xCONTRARIES "turn" = some none)
    (vSIZES : PySem.W.nsIn K mainGlobals "SIZES" = some (some (.ref xSIZES))) (vxSIZES : K.lookup xSIZES = some ⟨.type "tuple", none, .seq #[.int 1 pSIZES0, .int 2 pSIZES1, .int 3 pSIZES2] mSIZES, gSIZES⟩)
    (vTURN : PySem.W.nsIn K mainGlobals "TURN" = some (some (.ref xTURN))) (vxTURN : K.lookup xTURN = some ⟨.type "tuple", none, .seq #[.str "turn" pTURN0] mTURN, gTURN⟩) :
    ∃ fd : FuncData, (∀ (s : Shared) (v : Value), BindsTo s fd ⟨[v], []⟩ [("script", v)]) ∧ ∀ base : Heap, K.In base → base.Ns mainGlobals mg → FnG l.prog w K mg base 8 fa fd ["script"] (spLaw K) := by
  have e := hfa.symm.trans (PySem.W.mg_of X G a28)
  cases e
  have b_abs := PySem.W.mg_none_of X G zb_abs
  have b_enumerate := PySem.W.mg_none_of X G zb_enumerate
  have b_int := PySem.W.mg_none_of X G zb_int
  have b_len := PySem.W.mg_none_of X G zb_len
  have b_list := PySem.W.mg_none_of X G zb_list
  have b_max := PySem.W.mg_none_of X G zb_max
  have b_min := PySem.W.mg_none_of X G zb_min
  have b_range := PySem.W.mg_none_of X G zb_range
  have b_repr := PySem.W.mg_none_of X G zb_repr
  have b_sum := PySem.W.mg_none_of X G zb_sum
  have b_tuple := PySem.W.mg_none_of X G zb_tuple
  have b_zip := PySem.W.mg_none_of X G zb_zip
  have g_CONTRARIES : KdG K w mg "CONTRARIES" f_CONTRARIES := by
    refine ⟨xCONTRARIES, esCONTRARIES, nCONTRARIES, PySem.W.mg_of X G vCONTRARIES, ⟨vxCONTRARIES, vkCONTRARIES, vlCONTRARIES⟩, fun z r hz => ?_⟩
    by_cases h0 : z = "on"
    · subst h0; cases hz; exact ⟨_, viCONTRARIES0⟩
    by_cases h1 : z = "off"
    · subst h1; cases hz; exact ⟨_, viCONTRARIES1⟩
    by_cases q0 : z = "delay"
    · subst q0; cases hz; exact voCONTRARIES0
    by_cases q1 : z = "turn"
    · subst q1; cases hz; exact voCONTRARIES1
    · unfold f_CONTRARIES at hz
      rw [if_neg h0, if_neg h1, if_neg q0, if_neg q1] at hz
      cases hz
  have g_SIZES : GlobD K mg "SIZES" (.tuple [(.int 1), (.int 2), (.int 3)]) := by
    refine ⟨.ref xSIZES, .ref xSIZES, PySem.W.mg_of X G vSIZES, rfl, fun Av H => ?_⟩
    simp only [Da]
    refine ⟨xSIZES, [.int 1, .int 2, .int 3], rfl, .inr ⟨_, _, _, vxSIZES, rfl, rfl, rfl, (by show 3 ≤ sizeLine; decide), .cons ⟨_, rfl⟩ (.cons ⟨_, rfl⟩ (.cons ⟨_, rfl⟩ (.nil)))⟩, ?_⟩
    simp only [Das, Da]
    first | exact ⟨_, _, rfl, rfl, ⟨_, _, rfl, rfl, ⟨_, _, rfl, rfl, rfl⟩⟩⟩ | (refine ⟨_, _, rfl, rfl, ?_⟩; rfl) | simp
  have g_TURN : GlobD K mg "TURN" (.tuple [(.str "turn")]) := by
    refine ⟨.ref xTURN, .ref xTURN, PySem.W.mg_of X G vTURN, rfl, fun Av H => ?_⟩
    simp only [Da]
    refine ⟨xTURN, [.str "turn"], rfl, .inr ⟨_, _, _, vxTURN, rfl, rfl, rfl, (by show 1 ≤ sizeLine; decide), .cons ⟨_, rfl⟩ (.nil)⟩, ?_⟩
    simp only [Das, Da]
    first | exact ⟨_, _, rfl, rfl, rfl⟩ | (refine ⟨_, _, rfl, rfl, ?_⟩; rfl) | simp
  have F0 := fun_mk (x := "outcomes") (qual := "outcomes") (st := s_outcomes) l0 c0 k0
  have B0 := F0.binds (ps := P_outcomes) fun _ _ _ _ _ _ us hl => match us, hl with | [_], _ => rfl
  have F1 := fun_mk (x := "nothing_left") (qual := "nothing_left") (st := s_nothing_left) l1 c1 k1
  have B1 := F1.binds (ps := P_nothing_left) fun _ _ _ _ _ _ us hl => match us, hl with | [_], _ => rfl
  have F2 := fun_mk (x := "put_together") (qual := "put_together") (st := s_put_together) l2 c2 k2
  have B2 := F2.binds (ps := P_put_together) fun _ _ _ _ _ _ us hl => match us, hl with | [_], _ => rfl
  have F3 := fun_mk (x := "places_changed") (qual := "places_changed") (st := s_places_changed) l3 c3 k3
  have B3 := F3.binds (ps := P_places_changed) fun _ _ _ _ _ _ us hl => match us, hl with | [_], _ => rfl
  have F4 := fun_mk (x := "turns_gone") (qual := "turns_gone") (st := s_turns_gone) l4 c4 k4
  have B4 := F4.binds (ps := P_turns_gone) fun _ _ _ _ _ _ us hl => match us, hl with | [_], _ => rfl
  have F5 := fun_mk (x := "turn_led") (qual := "turn_led") (st := s_turn_led) l5 c5 k5
  have B5 := F5.binds (ps := P_turn_led) fun _ _ _ _ _ _ us hl => match us, hl with | [_], _ => rfl
  have F6 := fun_mk (x := "swing_gone") (qual := "swing_gone") (st := s_swing_gone) l6 c6 k6
  have B6 := F6.binds (ps := P_swing_gone) fun _ _ _ _ _ _ us hl => match us, hl with | [_], _ => rfl
  have F7 := fun_mk (x := "is_timer") (qual := "is_timer") (st := s_is_timer) l7 c7 k7
  have B7 := F7.binds (ps := P_is_timer) fun _ _ _ _ _ _ us hl => match us, hl with | [_], _ => rfl
  have F8 := fun_mk (x := "is_exchange") (qual := "is_exchange") (st := s_is_exchange) l8 c8 k8
  have B8 := F8.binds (ps := P_is_exchange) fun _ _ _ _ _ _ us hl => match us, hl with | [_, _], _ => rfl
  have F9 := fun_mk (x := "_is_led") (qual := "_is_led") (st := s__is_led) l9 c9 k9
  have B9 := F9.binds (ps := P__is_led) fun _ _ _ _ _ _ us hl => match us, hl with | [_, _], _ => rfl
  have F10 := fun_mk (x := "_is_led_at") (qual := "_is_led_at") (st := s__is_led_at) l10 c10 k10
  have B10 := F10.binds (ps := P__is_led_at) fun _ _ _ _ _ _ us hl => match us, hl with | [_, _, _, _], _ => rfl
  have F11 := fun_mk (x := "_alike_parts") (qual := "_alike_parts") (st := s__alike_parts) l11 c11 k11
  have B11 := F11.binds (ps := P__alike_parts) fun _ _ _ _ _ _ us hl => match us, hl with | [_, _], _ => rfl
  have F12 := fun_mk (x := "_law_stock") (qual := "_law_stock") (st := s__law_stock) l12 c12 k12
  have B12 := F12.binds (ps := P__law_stock) fun _ _ _ _ _ _ us hl => match us, hl with | [_], _ => rfl
  have F13 := fun_mk (x := "_law_draw") (qual := "_law_draw") (st := s__law_draw) l13 c13 k13
  have B13 := F13.binds (ps := P__law_draw) fun _ _ _ _ _ _ us hl => match us, hl with | [_, _], _ => rfl
  have F14 := fun_mk (x := "_law_pick") (qual := "_law_pick") (st := s__law_pick) l14 c14 k14
  have B14 := F14.binds (ps := P__law_pick) fun _ _ _ _ _ _ us hl => match us, hl with | [_, _], _ => rfl
  have F15 := fun_mk (x := "_law_shuffled") (qual := "_law_shuffled") (st := s__law_shuffled) l15 c15 k15
  have B15 := F15.binds (ps := P__law_shuffled) fun _ _ _ _ _ _ us hl => match us, hl with | [_, _], _ => rfl
  have F16 := fun_mk (x := "_law_contrary") (qual := "_law_contrary") (st := s__law_contrary) l16 c16 k16
  have B16 := F16.binds (ps := P__law_contrary) fun _ _ _ _ _ _ us hl => match us, hl with | [_], _ => rfl
  have F17 := fun_mk (x := "_law_part") (qual := "_law_part") (st := s__law_part) l17 c17 k17
  have B17 := F17.binds (ps := P__law_part) fun _ _ _ _ _ _ us hl => match us, hl with | [_, _], _ => rfl
  have F18 := fun_mk (x := "_law_row") (qual := "_law_row") (st := s__law_row) l18 c18 k18
  have B18 := F18.binds (ps := P__law_row) fun _ _ _ _ _ _ us hl => match us, hl with | [_, _, _], _ => rfl
  have F19 := fun_mk (x := "_law_pairs") (qual := "_law_pairs") (st := s__law_pairs) l19 c19 k19
  have B19 := F19.binds (ps := P__law_pairs) fun _ _ _ _ _ _ us hl => match us, hl with | [_, _], _ => rfl
  have F20 := fun_mk (x := "_law_swings") (qual := "_law_swings") (st := s__law_swings) l20 c20 k20
  have B20 := F20.binds (ps := P__law_swings) fun _ _ _ _ _ _ us hl => match us, hl with | [_, _, _], _ => rfl
  have F21 := fun_mk (x := "_law_leads") (qual := "_law_leads") (st := s__law_leads) l21 c21 k21
  have B21 := F21.binds (ps := P__law_leads) fun _ _ _ _ _ _ us hl => match us, hl with | [_], _ => rfl
  have F22 := fun_mk (x := "_law_is_led") (qual := "_law_is_led") (st := s__law_is_led) l22 c22 k22
  have B22 := F22.binds (ps := P__law_is_led) fun _ _ _ _ _ _ us hl => match us, hl with | [_, _], _ => rfl
  have F23 := fun_mk (x := "_law_unswung") (qual := "_law_unswung") (st := s__law_unswung) l23 c23 k23
  have B23 := F23.binds (ps := P__law_unswung) fun _ _ _ _ _ _ us hl => match us, hl with | [_, _], _ => rfl
  have F24 := fun_mk (x := "_law_back") (qual := "_law_back") (st := s__law_back) l24 c24 k24
  have B24 := F24.binds (ps := P__law_back) fun _ _ _ _ _ _ us hl => match us, hl with | [_, _], _ => rfl
  have F25 := fun_mk (x := "_law_near") (qual := "_law_near") (st := s__law_near) l25 c25 k25
  have B25 := F25.binds (ps := P__law_near) fun _ _ _ _ _ _ us hl => match us, hl with | [_, _], _ => rfl
  have F26 := fun_mk (x := "_law_others") (qual := "_law_others") (st := s__law_others) l26 c26 k26
  have B26 := F26.binds (ps := P__law_others) fun _ _ _ _ _ _ us hl => match us, hl with | [_, _], _ => rfl
  have F27 := fun_mk (x := "_law_is_told") (qual := "_law_is_told") (st := s__law_is_told) l27 c27 k27
  have B27 := F27.binds (ps := P__law_is_told) fun _ _ _ _ _ _ us hl => match us, hl with | [_, _, _], _ => rfl
  have F28 := fun_mk (x := "law") (qual := "law") (st := s_law) l28 c28 k28
  have B28 := F28.binds (ps := P_law) fun _ _ _ _ _ _ us hl => match us, hl with | [_], _ => rfl
  refine ⟨PySem.W.fnOf "law" "law" (defArgs s_law) (defBody s_law) (defScope s_law) .none kV28 dc28 pm28 an28 cd28 ct28, fun s v => .of_eq rfl, fun base _ _ => ?_⟩
  have C_nothing_left := Cal.mk (P := l.prog) (w := w) (base := base) (x := "nothing_left") (ps := P_nothing_left) ⟨f1, _, PySem.W.mg_of X G a1, k1, B1, ok_nothing_left (P := l.prog) (w := w) (base := base) F1 (g_TURN := g_TURN) (T := S_nothing_left) (spec := spec_nothing_left)⟩
  have C_places_changed := Cal.mk (P := l.prog) (w := w) (base := base) (x := "places_changed") (ps := P_places_changed) ⟨f3, _, PySem.W.mg_of X G a3, k3, B3, ok_places_changed (P := l.prog) (w := w) (base := base) F3 (T := S_places_changed) (spec := spec_places_changed)⟩
  have C_put_together := Cal.mk (P := l.prog) (w := w) (base := base) (x := "put_together") (ps := P_put_together) ⟨f2, _, PySem.W.mg_of X G a2, k2, B2, ok_put_together (P := l.prog) (w := w) (base := base) F2 (g_TURN := g_TURN) (T := S_put_together) (spec := spec_put_together)⟩
  have C_is_timer := Cal.mk (P := l.prog) (w := w) (base := base) (x := "is_timer") (ps := P_is_timer) ⟨f7, _, PySem.W.mg_of X G a7, k7, B7, ok_is_timer (P := l.prog) (w := w) (base := base) F7 (g_CONTRARIES := g_CONTRARIES) (T := S_is_timer) (spec := spec_is_timer)⟩
  have C_swing_gone := Cal.mk (P := l.prog) (w := w) (base := base) (x := "swing_gone") (ps := P_swing_gone) ⟨f6, _, PySem.W.mg_of X G a6, k6, B6, ok_swing_gone (P := l.prog) (w := w) (base := base) F6 (c_is_timer := C_is_timer) (T := S_swing_gone) (spec := spec_swing_gone)⟩
  have C_turn_led := Cal.mk (P := l.prog) (w := w) (base := base) (x := "turn_led") (ps := P_turn_led) ⟨f5, _, PySem.W.mg_of X G a5, k5, B5, ok_turn_led (P := l.prog) (w := w) (base := base) F5 (c_is_timer := C_is_timer) (g_CONTRARIES := g_CONTRARIES) (g_TURN := g_TURN) (T := S_turn_led) (spec := spec_turn_led)⟩
  have C_turns_gone := Cal.mk (P := l.prog) (w := w) (base := base) (x := "turns_gone") (ps := P_turns_gone) ⟨f4, _, PySem.W.mg_of X G a4, k4, B4, ok_turns_gone (P := l.prog) (w := w) (base := base) F4 (g_TURN := g_TURN) (T := S_turns_gone) (spec := spec_turns_gone)⟩
  have C_outcomes := Cal.mk (P := l.prog) (w := w) (base := base) (x := "outcomes") (ps := P_outcomes) ⟨f0, _, PySem.W.mg_of X G a0, k0, B0, ok_outcomes (P := l.prog) (w := w) (base := base) F0 (c_nothing_left := C_nothing_left) (c_places_changed := C_places_changed) (c_put_together := C_put_together) (c_swing_gone := C_swing_gone) (c_turn_led := C_turn_led) (c_turns_gone := C_turns_gone) (b_len := b_len) (T := S_outcomes) (spec := spec_outcomes)⟩
  have C__alike_parts := Cal.mk (P := l.prog) (w := w) (base := base) (x := "_alike_parts") (ps := P__alike_parts) ⟨f11, _, PySem.W.mg_of X G a11, k11, B11, ok__alike_parts (P := l.prog) (w := w) (base := base) F11 (b_enumerate := b_enumerate) (b_len := b_len) (b_min := b_min) (b_zip := b_zip) (T := S__alike_parts) (spec := spec__alike_parts)⟩
  have C__is_led_at := Cal.mk (P := l.prog) (w := w) (base := base) (x := "_is_led_at") (ps := P__is_led_at) ⟨f10, _, PySem.W.mg_of X G a10, k10, B10, ok__is_led_at (P := l.prog) (w := w) (base := base) F10 (c_outcomes := C_outcomes) (b_len := b_len) (T := S__is_led_at) (spec := spec__is_led_at)⟩
  have C__is_led := Cal.mk (P := l.prog) (w := w) (base := base) (x := "_is_led") (ps := P__is_led) ⟨f9, _, PySem.W.mg_of X G a9, k9, B9, ok__is_led (P := l.prog) (w := w) (base := base) F9 (c__alike_parts := C__alike_parts) (c__is_led_at := C__is_led_at) (b_len := b_len) (b_max := b_max) (b_min := b_min) (b_range := b_range) (g_SIZES := g_SIZES) (T := S__is_led) (spec := spec__is_led)⟩
  have C_is_exchange := Cal.mk (P := l.prog) (w := w) (base := base) (x := "is_exchange") (ps := P_is_exchange) ⟨f8, _, PySem.W.mg_of X G a8, k8, B8, ok_is_exchange (P := l.prog) (w := w) (base := base) F8 (c__is_led := C__is_led) (T := S_is_exchange) (spec := spec_is_exchange)⟩
  have CK_is_exchange_other_row := CalK.mk (P := l.prog) (w := w) (base := base) (x := "is_exchange") (ps := P_is_exchange) (ks := ["other", "row"]) (np := 0) (pm := [1, 0]) ⟨f8, _, PySem.W.mg_of X G a8, k8, fun s us ws _ h1 h2 => match us, ws, h1, h2 with | [], [_, _], _, _ => .of_eq rfl, ok_is_exchange (P := l.prog) (w := w) (base := base) F8 (c__is_led := C__is_led) (T := S_is_exchange) (spec := spec_is_exchange)⟩
  have CK_is_exchange_row_other := CalK.mk (P := l.prog) (w := w) (base := base) (x := "is_exchange") (ps := P_is_exchange) (ks := ["row", "other"]) (np := 0) (pm := [0, 1]) ⟨f8, _, PySem.W.mg_of X G a8, k8, fun s us ws _ h1 h2 => match us, ws, h1, h2 with | [], [_, _], _, _ => .of_eq rfl, ok_is_exchange (P := l.prog) (w := w) (base := base) F8 (c__is_led := C__is_led) (T := S_is_exchange) (spec := spec_is_exchange)⟩
  have C__law_stock := Cal.mk (P := l.prog) (w := w) (base := base) (x := "_law_stock") (ps := P__law_stock) ⟨f12, _, PySem.W.mg_of X G a12, k12, B12, ok__law_stock (P := l.prog) (w := w) (base := base) F12 (b_len := b_len) (b_sum := b_sum) (spec := spec__law_stock)⟩
  have C__law_draw := Cal.mk (P := l.prog) (w := w) (base := base) (x := "_law_draw") (ps := P__law_draw) ⟨f13, _, PySem.W.mg_of X G a13, k13, B13, ok__law_draw (P := l.prog) (w := w) (base := base) F13 b_int b_len⟩
  have C__law_pick := Cal.mk (P := l.prog) (w := w) (base := base) (x := "_law_pick") (ps := P__law_pick) ⟨f14, _, PySem.W.mg_of X G a14, k14, B14, ok__law_pick (P := l.prog) (w := w) (base := base) F14 (c__law_draw := C__law_draw) (b_len := b_len) (T := S__law_pick) (spec := spec__law_pick)⟩
  have C__law_shuffled := Cal.mk (P := l.prog) (w := w) (base := base) (x := "_law_shuffled") (ps := P__law_shuffled) ⟨f15, _, PySem.W.mg_of X G a15, k15, B15, ok__law_shuffled (P := l.prog) (w := w) (base := base) F15 (c__law_draw := C__law_draw) (b_len := b_len) (b_list := b_list) (b_range := b_range) (T := S__law_shuffled) (spec := spec__law_shuffled)⟩
  have C__law_contrary := Cal.mk (P := l.prog) (w := w) (base := base) (x := "_law_contrary") (ps := P__law_contrary) ⟨f16, _, PySem.W.mg_of X G a16, k16, B16, ok__law_contrary (P := l.prog) (w := w) (base := base) F16 (T := S__law_contrary) (spec := spec__law_contrary)⟩
  have C__law_part := Cal.mk (P := l.prog) (w := w) (base := base) (x := "_law_part") (ps := P__law_part) ⟨f17, _, PySem.W.mg_of X G a17, k17, B17, ok__law_part (P := l.prog) (w := w) (base := base) F17 (c__law_pick := C__law_pick) (T := S__law_part) (spec := spec__law_part)⟩
  have C__law_row := Cal.mk (P := l.prog) (w := w) (base := base) (x := "_law_row") (ps := P__law_row) ⟨f18, _, PySem.W.mg_of X G a18, k18, B18, ok__law_row (P := l.prog) (w := w) (base := base) F18 (c__law_contrary := C__law_contrary) (c__law_draw := C__law_draw) (c__law_part := C__law_part) (c__law_pick := C__law_pick) (b_len := b_len) (b_max := b_max) (b_range := b_range) (b_tuple := b_tuple) (T := S__law_row) (spec := spec__law_row)⟩
  have C__law_pairs := Cal.mk (P := l.prog) (w := w) (base := base) (x := "_law_pairs") (ps := P__law_pairs) ⟨f19, _, PySem.W.mg_of X G a19, k19, B19, ok__law_pairs (P := l.prog) (w := w) (base := base) F19 (c__law_contrary := C__law_contrary) (T := S__law_pairs) (spec := spec__law_pairs)⟩
  have C__law_swings := Cal.mk (P := l.prog) (w := w) (base := base) (x := "_law_swings") (ps := P__law_swings) ⟨f20, _, PySem.W.mg_of X G a20, k20, B20, ok__law_swings (P := l.prog) (w := w) (base := base) F20 (c__law_contrary := C__law_contrary) (T := S__law_swings) (spec := spec__law_swings)⟩
  have C__law_leads := Cal.mk (P := l.prog) (w := w) (base := base) (x := "_law_leads") (ps := P__law_leads) ⟨f21, _, PySem.W.mg_of X G a21, k21, B21, ok__law_leads (P := l.prog) (w := w) (base := base) F21 (c__law_pairs := C__law_pairs) (c__law_swings := C__law_swings) (b_enumerate := b_enumerate) (b_len := b_len) (T := S__law_leads) (spec := spec__law_leads)⟩
  have C__law_is_led := Cal.mk (P := l.prog) (w := w) (base := base) (x := "_law_is_led") (ps := P__law_is_led) ⟨f22, _, PySem.W.mg_of X G a22, k22, B22, ok__law_is_led (P := l.prog) (w := w) (base := base) F22 (c__law_leads := C__law_leads) (T := S__law_is_led) (spec := spec__law_is_led)⟩
  have C__law_unswung := Cal.mk (P := l.prog) (w := w) (base := base) (x := "_law_unswung") (ps := P__law_unswung) ⟨f23, _, PySem.W.mg_of X G a23, k23, B23, ok__law_unswung (P := l.prog) (w := w) (base := base) F23 (c__law_contrary := C__law_contrary) (b_len := b_len) (T := S__law_unswung) (spec := spec__law_unswung)⟩
  have C__law_back := Cal.mk (P := l.prog) (w := w) (base := base) (x := "_law_back") (ps := P__law_back) ⟨f24, _, PySem.W.mg_of X G a24, k24, B24, ok__law_back (P := l.prog) (w := w) (base := base) F24 (c__law_contrary := C__law_contrary) (c__law_draw := C__law_draw) (c__law_leads := C__law_leads) (c__law_pick := C__law_pick) (c__law_unswung := C__law_unswung) (b_len := b_len) (b_range := b_range) (T := S__law_back) (spec := spec__law_back)⟩
  have C__law_near := Cal.mk (P := l.prog) (w := w) (base := base) (x := "_law_near") (ps := P__law_near) ⟨f25, _, PySem.W.mg_of X G a25, k25, B25, ok__law_near (P := l.prog) (w := w) (base := base) F25 (c__law_draw := C__law_draw) (c__law_part := C__law_part) (c__law_pick := C__law_pick) (b_len := b_len) (b_max := b_max) (T := S__law_near) (spec := spec__law_near)⟩
  have C__law_others := Cal.mk (P := l.prog) (w := w) (base := base) (x := "_law_others") (ps := P__law_others) ⟨f26, _, PySem.W.mg_of X G a26, k26, B26, ok__law_others (P := l.prog) (w := w) (base := base) F26 (c__law_back := C__law_back) (c__law_leads := C__law_leads) (c__law_near := C__law_near) (c__law_pick := C__law_pick) (c__law_shuffled := C__law_shuffled) (b_range := b_range) (T := S__law_others) (spec := spec__law_others)⟩
  have C__law_is_told := Cal.mk (P := l.prog) (w := w) (base := base) (x := "_law_is_told") (ps := P__law_is_told) ⟨f27, _, PySem.W.mg_of X G a27, k27, B27, ok__law_is_told (P := l.prog) (w := w) (base := base) F27 (c__law_is_led := C__law_is_led) (c_is_exchange := C_is_exchange) (ck_is_exchange_other_row := CK_is_exchange_other_row) (ck_is_exchange_row_other := CK_is_exchange_row_other) (b_repr := b_repr) (T := S__law_is_told) (spec := spec__law_is_told)⟩
  exact ok_law (P := l.prog) (w := w) (base := base) F28 (c__law_back := C__law_back) (c__law_draw := C__law_draw) (c__law_is_told := C__law_is_told) (c__law_leads := C__law_leads) (c__law_near := C__law_near) (c__law_others := C__law_others) (c__law_pick := C__law_pick) (c__law_row := C__law_row) (c_is_exchange := C_is_exchange) (c__law_stock := C__law_stock) (b_enumerate := b_enumerate) (b_range := b_range) (b_repr := b_repr) (spec := spec_law)
end Lw
open PySem PySem.W PyProof.Rows
set_option maxRecDepth 100000 in
set_option maxHeartbeats 0 in
theorem PySem.Challenge.cw_latewires_k21_whole_exchanges_by_all_of_holds : PySem.Challenge.rw_latewires_k21_whole_exchanges_by_all_of.Holds := by
  w_on; o_law; k_head; (case hw => w_witness2)
  k_fill
  refine DL.walk_ofG (l := PySem.Challenge.rw_latewires_k21_whole_exchanges_by_all_of) (n := 63) (k := 8) (x := "script") (sp := DL.spLaw) rfl (by decide) rfl ⟨rfl, by decide, by decide⟩ (fun w h Y => PySem.W.kIn_of Y) ?F (fun _ _ a ns hl hS => ⟨a, ns, rfl, hS.sql, hl, fun _ => rfl⟩)
  case F =>
    intro w mg fa h KX G hmg
    refine' Lw.all_mk KX G hmg ?a0 ?l0 ?c0 ?k0 ?a1 ?l1 ?c1 ?k1 ?a2 ?l2 ?c2 ?k2 ?a3 ?l3 ?c3 ?k3 ?a4 ?l4 ?c4 ?k4 ?a5 ?l5 ?c5 ?k5 ?a6 ?l6 ?c6 ?k6 ?a7 ?l7 ?c7 ?k7 ?a8 ?l8 ?c8 ?k8 ?a9 ?l9 ?c9 ?k9 ?a10 ?l10 ?c10 ?k10 ?a11 ?l11 ?c11 ?k11 ?a12 ?l12 ?c12 ?k12 ?a13 ?l13 ?c13 ?k13 ?a14 ?l14 ?c14 ?k14 ?a15 ?l15 ?c15 ?k15 ?a16 ?l16 ?c16 ?k16 ?a17 ?l17 ?c17 ?k17 ?a18 ?l18 ?c18 ?k18 ?a19 ?l19 ?c19 ?k19 ?a20 ?l20 ?c20 ?k20 ?a21 ?l21 ?c21 ?k21 ?a22 ?l22 ?c22 ?k22 ?a23 ?l23 ?c23 ?k23 ?a24 ?l24 ?c24 ?k24 ?a25 ?l25 ?c25 ?k25 ?a26 ?l26 ?c26 ?k26 ?a27 ?l27 ?c27 ?k27 ?a28 ?l28 ?c28 ?k28 ?zb_abs ?zb_enumerate ?zb_int ?zb_len ?zb_list ?zb_max ?zb_min ?zb_range ?zb_repr ?zb_sum ?zb_tuple ?zb_zip ?vCONTRARIES ?vxCONTRARIES ?vkCONTRARIES ?vlCONTRARIES ?viCONTRARIES0 ?viCONTRARIES1 ?voCONTRARIES0 ?voCONTRARIES1 ?vSIZES ?vxSIZES ?vTURN ?vxTURN
    (case a0 => k_is)
    (case l0 => k_is)
    (case c0 => k_is)
    (case k0 => k_is)
    (case a1 => k_is)
    (case l1 => k_is)
    (case c1 => k_is)
    (case k1 => k_is)
    (case a2 => k_is)
    (case l2 => k_is)
    (case c2 => k_is)
    (case k2 => k_is)
    (case a3 => k_is)
    (case l3 => k_is)
    (case c3 => k_is)
    (case k3 => k_is)
    (case a4 => k_is)
    (case l4 => k_is)
    (case c4 => k_is)
    (case k4 => k_is)
    (case a5 => k_is)
    (case l5 => k_is)
    (case c5 => k_is)
    (case k5 => k_is)
    (case a6 => k_is)
    (case l6 => k_is)
    (case c6 => k_is)
    (case k6 => k_is)
    (case a7 => k_is)
    (case l7 => k_is)
    (case c7 => k_is)
    (case k7 => k_is)
    (case a8 => k_is)
    (case l8 => k_is)
    (case c8 => k_is)
    (case k8 => k_is)
    (case a9 => k_is)
    (case l9 => k_is)
    (case c9 => k_is)
    (case k9 => k_is)
    (case a10 => k_is)
    (case l10 => k_is)
    (case c10 => k_is)
    (case k10 => k_is)
    (case a11 => k_is)
    (case l11 => k_is)
    (case c11 => k_is)
    (case k11 => k_is)
    (case a12 => k_is)
    (case l12 => k_is)
    (case c12 => k_is)
    (case k12 => k_is)
    (case a13 => k_is)
    (case l13 => k_is)
    (case c13 => k_is)
    (case k13 => k_is)
    (case a14 => k_is)
    (case l14 => k_is)
    (case c14 => k_is)
    (case k14 => k_is)
    (case a15 => k_is)
    (case l15 => k_is)
    (case c15 => k_is)
    (case k15 => k_is)
    (case a16 => k_is)
    (case l16 => k_is)
    (case c16 => k_is)
    (case k16 => k_is)
    (case a17 => k_is)
    (case l17 => k_is)
    (case c17 => k_is)
    (case k17 => k_is)
    (case a18 => k_is)
    (case l18 => k_is)
    (case c18 => k_is)
    (case k18 => k_is)
    (case a19 => k_is)
    (case l19 => k_is)
    (case c19 => k_is)
    (case k19 => k_is)
    (case a20 => k_is)
    (case l20 => k_is)
    (case c20 => k_is)
    (case k20 => k_is)
    (case a21 => k_is)
    (case l21 => k_is)
    (case c21 => k_is)
    (case k21 => k_is)
    (case a22 => k_is)
    (case l22 => k_is)
    (case c22 => k_is)
    (case k22 => k_is)
    (case a23 => k_is)
    (case l23 => k_is)
    (case c23 => k_is)
    (case k23 => k_is)
    (case a24 => k_is)
    (case l24 => k_is)
    (case c24 => k_is)
    (case k24 => k_is)
    (case a25 => k_is)
    (case l25 => k_is)
    (case c25 => k_is)
    (case k25 => k_is)
    (case a26 => k_is)
    (case l26 => k_is)
    (case c26 => k_is)
    (case k26 => k_is)
    (case a27 => k_is)
    (case l27 => k_is)
    (case c27 => k_is)
    (case k27 => k_is)
    (case a28 => k_is)
    (case l28 => k_is)
    (case c28 => k_is)
    (case k28 => k_is)
    (case zb_abs => k_is)
    (case zb_enumerate => k_is)
    (case zb_int => k_is)
    (case zb_len => k_is)
    (case zb_list => k_is)
    (case zb_max => k_is)
    (case zb_min => k_is)
    (case zb_range => k_is)
    (case zb_repr => k_is)
    (case zb_sum => k_is)
    (case zb_tuple => k_is)
    (case zb_zip => k_is)
    (case vCONTRARIES => k_is)
    (case vxCONTRARIES => k_is)
    (case vkCONTRARIES => k_keys)
    (case vlCONTRARIES => decide)
    (case viCONTRARIES0 => k_is)
    (case viCONTRARIES1 => k_is)
    (case voCONTRARIES0 => k_is)
    (case voCONTRARIES1 => k_is)
    (case vSIZES => k_is)
    (case vxSIZES => k_is)
    (case vTURN => k_is)
    (case vxTURN => k_is)
