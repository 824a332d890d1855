import PyProof.Rows.All
import Wide.All
import OpenK.AllK
import Wide.FinOn
import HandS.ForMost
import HandS.Wide
import HandS.IsInst
import HandS.TupMul
import HandS.TupAny
import HandS.SortInts
import HandS.Style
import HandS.Evl
import PySem.Challenge.RW_loopstore_k24_whole_reach
set_option Elab.async false
set_option linter.all false
set_option maxRecDepth 100000
set_option maxHeartbeats 4000000
/-! ## rules that the layer lacks -/
namespace RR
open PySem PySem.Spec PyProof.Rows L2 HT
section
variable {prog : Program} {w : World} {A : Around} {E : Value → Shared → Prop} {s : Shared}
/-- a tuple's items gathered -/
theorem collect_tuple {l : Addr} {vs : List Value} {Q : List Value → Shared → Prop} (hl : IsTup s.heap l vs.toArray)
    (h : Q vs { s with heap := (s.heap.push (seqObj "list" #[] 0)).update s.heap.objs.size (Obj.mapSeq (· ++ vs.toArray)) }) (hsz : vs.length ≤ sizeLine) :
    wpAny (model prog w) A (collect (.ref l)) Q E s := by
  obtain ⟨o, ho, hc, n, hd⟩ := id hl
  unfold collect
  refine wpAny_bind (wpAny_runValue (codeAny_builtin entry_proto_collect' ?_))
  show wpAny _ _ (do again (.builtin "list.__iadd__" ⟨[← newList [], .ref l], []⟩)) _ _ s
  refine wpAny_bind (wpAny_newList (wpAny_pure ⟨Code.quiet_builtin _ (by decide +kernel), codeAny_builtin entry_list_iadd' ?_⟩))
  show wpAny _ _ (Builtin.List.listExtendWith (.ref s.heap.objs.size) (.ref l) (.ref s.heap.objs.size)) _ _ { s with heap := s.heap.push (seqObj "list" #[] 0) }
  unfold Builtin.List.listExtendWith
  have ho' : (s.heap.push (seqObj "list" #[] 0)).get? l = some o := Heap.get?_push_of_some _ ho
  refine wpAny_bind (wpAny_typeOf (T := "tuple") ⟨o, ho', hc⟩ ?_)
  have ht : (Value.type "tuple" == Value.type "tuple") = true := by rfl
  rw [if_pos (by rw [ht]; simp)]
  refine wpAny_bind (listItems_at ho' hd ?_)
  refine wpAny_bind (listItems_at (xs := #[]) (n := 0) (Heap.get?_push_size _ rfl) rfl ?_)
  rw [if_neg (by simp)]
  refine wpAny_bind (listUpdate_at (xs := #[]) (n := 0) (Heap.get?_push_size _ rfl) rfl ?_ (Nat.zero_le _) (by show (#[] ++ vs.toArray).size ≤ sizeLine + 1; simp only [Array.size_append, List.size_toArray, List.length_nil]; omega))
  refine wpAny_pure ?_
  show wpAny (model prog w) A (do
      let o ← load s.heap.objs.size
      match o.data with
      | .seq xs _ => pure xs.toList
      | _ => unsupported "internal:collect") Q E { s with heap := (s.heap.push (seqObj "list" #[] 0)).update s.heap.objs.size (Obj.mapSeq (· ++ vs.toArray)) }
  refine wpAny_bind (wpAny_load (get?_update_seq (Heap.get?_push_size _ rfl) _) ?_)
  show wpAny _ _ (pure ((#[] : Array Value) ++ vs.toArray).toList) Q E _
  rw [show ((#[] : Array Value) ++ vs.toArray).toList = vs by simp]
  exact wpAny_pure h
theorem sorted_ordT {l : Addr} {vs : List Value} {ltv : Value → Value → Bool} {Q : Value → Shared → Prop} (O : SrtO.Swo ltv) (hl : IsTup s.heap l vs.toArray) (hz : vs.length ≤ sizeLine)
    (hS : 2 ≤ vs.length → ∀ (h₁ : Heap) (a : Addr), h₁.get? a = some (seqObj "list" vs.toArray 0) → (∀ b o, s.heap.get? b = some o → b ≠ a ∧ h₁.get? b = some o) → SrtO.SortableO prog w A.in1.in1 { s with heap := h₁ } a vs ltv)
    (h : ∀ out : List Value, SrtO.Srtd ltv out → SrtO.Stb ltv out vs → Q (.ref (s.heap.objs.size + 1)) { s with heap := sortedAll s.heap vs out.toArray }) :
    wpAny (model prog w) A (call (.builtin "sorted") [.ref l]) Q E s := by
  refine Calls.call_function_entry kind_sorted plain_sorted entry_sorted (args_sorted1 _) ?_
  unfold Builtin.«sorted»
  refine wpAny_bind (m := checkCount "sorted" 1 1 _) (wpAny_pure ?_)
  refine wpAny_bind (collect_tuple hl ?_ hz)
  refine wpAny_bind (wpAny_newList ?_ hz)
  have hsz : ((s.heap.push (seqObj "list" #[] 0)).update s.heap.objs.size (Obj.mapSeq (· ++ vs.toArray))).objs.size = s.heap.objs.size + 1 := by
    rw [Heap.size_update, size_push']
  have hoL : (((s.heap.push (seqObj "list" #[] 0)).update s.heap.objs.size (Obj.mapSeq (· ++ vs.toArray))).push (seqObj "list" vs.toArray 0)).get? (s.heap.objs.size + 1) = some (seqObj "list" vs.toArray 0) := by
    rw [← hsz]; exact Heap.get?_push_size _ rfl
  have keep : ∀ b o, s.heap.get? b = some o → b ≠ s.heap.objs.size + 1 ∧ (((s.heap.push (seqObj "list" #[] 0)).update s.heap.objs.size (Obj.mapSeq (· ++ vs.toArray))).push (seqObj "list" vs.toArray 0)).get? b = some o := fun b o q => by
    have hlt : b < s.heap.objs.size := Heap.lt_size q
    refine ⟨Nat.ne_of_lt (Nat.lt_succ_of_lt hlt), Heap.get?_push_of_some _ ?_⟩
    rw [Heap.get?_update_ne _ _ _ _ (Nat.ne_of_lt hlt)]
    exact Heap.get?_push_of_some _ q
  show wpAny _ _ _ _ _ { s with heap := ((s.heap.push (seqObj "list" #[] 0)).update s.heap.objs.size (Obj.mapSeq (· ++ vs.toArray))).push (seqObj "list" vs.toArray 0) }
  rw [hsz]
  refine wpAny_bind (wpAny_holding (wpAny_call_entry slot_list_sort ⟨_, hoL, rfl⟩ entry_list_sort (SrtO.list_sort_ord O hoL hz (fun h2 => hS h2 _ _ hoL keep) fun out hs hb => ⟨_, rfl, ?_⟩) (args_list_sort _)))
  exact wpAny_pure ⟨_, rfl, h out hs hb⟩
end
def rSortedU (K : PySem.W.Frag) : List V → Hp → VK → Prop := fun vs H Q => ∃ (a : Addr) (ns : List Int), vs = [V.ref a] ∧ SqT K H a (ns.map V.int) ∧
  ∀ (ns' : List Int) (p : Addr), ns'.Perm ns → ns'.Pairwise (· ≤ ·) → H p = none → Q (.ref p) (upd H p (.lst (ns'.map V.int)))
section
variable {X : Cx}
/-- sorted(t), t a tuple of ints -/
theorem cr_sortedU : CallR X (.builtin "sorted") (rSortedU X.K) := by
  intro pins s σ H vs us Q I r h
  obtain ⟨a, ns, rfl, hs, q⟩ := h
  obtain ⟨its, rv, hl, hz⟩ := I.tuple hs
  rw [Vals.ref1 r]
  have hi := rv.ints
  refine sorted_ordT SrtO.swo_int hl (by rw [← rv.length]; exact hz) (fun h2 h₁ a' _ _ => SrtO.ints_sortable hi h2) fun out h1 h2 => ?_
  obtain ⟨k1, k2, k3⟩ := SrtO.ints_out hi h1 h2
  obtain ⟨ep, he'⟩ := PyProof.Rows.sortedAll_at s.heap its out.toArray
  have hlen : ((out.map SrtO.iv).map V.int).length ≤ sizeLine := by
    rw [List.length_map, k2.length_eq]
    rw [List.length_map] at hz
    exact hz
  exact ⟨.ref _, upd H (s.heap.objs.size + 1) (.lst ((out.map SrtO.iv).map V.int)), I.laid (t' := s.toks) (fun _ _ => PyProof.Rows.sortedAll_old) (Nat.le_succ _) ⟨hlen, out, ep, vals_of_ints k1, he'⟩, rfl, q _ _ k2 k3 (I.hok.fresh (Nat.le_succ _))⟩
end
/-! ### t[::-1] -/
theorem adj_rev (n : Nat) : Builtin.Slice.sliceAdjust none none (-1) (n : Int) = ((n : Int) - 1, -1) := rfl
theorem pl_rev (n : Nat) : Builtin.Slice.slicePlaces ((n : Int) - 1) (-1) (-1) = n := by
  unfold Builtin.Slice.slicePlaces
  have h1 : ¬ ((-1 : Int) > 0) := by omega
  simp only [h1, if_false]
  split <;> simp <;> omega
theorem pick_rev (xs : List Value) : ((List.range xs.length).filterMap fun (m : Nat) => xs.toArray[(((xs.length : Int) - 1) + (m : Int) * (-1)).toNat]?) = xs.reverse := by
  have key : ∀ m, m ≤ xs.length → ((List.range m).filterMap fun (k : Nat) => xs.toArray[(((xs.length : Int) - 1) + (k : Int) * (-1)).toNat]?) = xs.reverse.take m := by
    intro m
    induction m with
    | zero => intro _; rfl
    | succ m ih =>
      intro hm
      rw [List.range_succ, List.filterMap_append, ih (by omega), List.take_add_one]
      have e : (((xs.length : Int) - 1) + (m : Int) * (-1)).toNat = xs.length - 1 - m := by omega
      have hl : m < xs.reverse.length := by rw [List.length_reverse]; omega
      have e2 : xs.toArray[xs.length - 1 - m]? = some (xs.reverse[m]) := by
        rw [List.getElem?_toArray, List.getElem_reverse, List.getElem?_eq_getElem]
      rw [List.getElem?_eq_getElem hl]
      simp only [List.filterMap_cons, List.filterMap_nil, e, e2, Option.toList_some]
  have := key xs.length (Nat.le_refl _)
  rw [this, List.take_of_length_le (by rw [List.length_reverse]; exact Nat.le_refl _)]
section
variable {prog : Program} {w : World} {A : Around} {E : Value → Shared → Prop} {s : Shared}
theorem sliceApplied_rev {sl : Addr} {vl vu vs : Value} {n : Nat} {Q : Int × Int × Nat → Shared → Prop} (hs : s.heap.IsSliceOf sl vl vu vs) (pl : IsPart vl none) (pu : IsPart vu none) (ps : IsPart vs (some (-1)))
    (h : Q ((n : Int) - 1, -1, n) s) : wpAny (model prog w) A (Builtin.Slice.sliceApplied (.ref sl) (pure (n : Int))) Q E s := by
  obtain ⟨os, hos, hcs, hds⟩ := id hs
  unfold Builtin.Slice.sliceApplied Builtin.Slice.sliceFields
  refine wpAny_bind (wpAny_bind (wpAny_field hos hds (x := vl) rfl (wpAny_bind (wpAny_field hos hds (x := vu) rfl (wpAny_bind (wpAny_field hos hds (x := vs) rfl (wpAny_pure ?_)))))))
  refine wpAny_bind (slicePart_ ps ?_)
  show wpAny _ _ (if ((-1 : Int) == 0) = true then _ else _) _ _ s
  rw [if_neg (by decide)]
  refine wpAny_bind (slicePart_ pl (wpAny_bind (slicePart_ pu (wpAny_bind (wpAny_pure ?_)))))
  show wpAny _ _ (match Builtin.Slice.sliceAdjust none none (-1) (n : Int) with | (lo, hi) => pure (lo, (-1 : Int), Builtin.Slice.slicePlaces lo hi (-1))) _ _ s
  rw [adj_rev n]
  show wpAny _ _ (pure ((n : Int) - 1, (-1 : Int), Builtin.Slice.slicePlaces ((n : Int) - 1) (-1) (-1))) _ _ s
  rw [pl_rev]
  exact wpAny_pure h
theorem getItem_tuple_rev {t sl : Addr} {items : List Value} {vl vu vs : Value} {Q : Value → Shared → Prop} (ht : IsTup s.heap t items.toArray) (hs : s.heap.IsSliceOf sl vl vu vs) (pl : IsPart vl none) (pu : IsPart vu none) (ps : IsPart vs (some (-1)))
    (h : Q (.ref s.heap.objs.size) { s with heap := s.heap.push { cls := .type "tuple", data := .seq items.reverse.toArray } })
    (hsz : items.length ≤ sizeLine) : wpAny (model prog w) A (getItem (.ref t) (.ref sl)) Q E s := by
  have htake : sizeOk (.seq items.reverse.toArray) := by
    show items.reverse.toArray.size ≤ sizeLine
    rw [List.size_toArray, List.length_reverse]
    omega
  obtain ⟨os, hos, hcs, hds⟩ := id hs
  have hTs : s.TypeIs (.ref sl) "slice" := ⟨os, hos, hcs⟩
  unfold getItem
  try with_reducible refine wpAny_holding ?_
  first | refine wpAny_bind (wpAny_pure ?_) | skip
  refine wpAny_bind (wpAny_sequenceKey ht.typeIs (by decide) ?_)
  refine wpAny_bind (wpAny_callSpecial?_slot (name := Str.ofString "__getitem__") ht.typeIs PyProof.Rows.slot_tuple_getitem
    (wpAny_call_entry PyProof.Rows.slot_tuple_getitem ht.typeIs entry_tuple_getitem ?_ (args_tuple_getitem _ _)))
  show wpAny _ _ (Builtin.Tuple.tupleItemsOf (.ref t) >>= _) _ _ s
  refine wpAny_bind (tupleItemsOf_ ht ?_)
  refine wpAny_bind (wpAny_typeOf hTs ?_)
  rw [if_pos (by decide)]
  rw [List.size_toArray]
  refine wpAny_bind (sliceApplied_rev hs pl pu ps ?_)
  have hno : ¬ ((((items.length : Int) - 1) == 0 && (-1 : Int) == 1 && items.length == items.length) = true) := by
    rw [show ((-1 : Int) == 1) = false from rfl, Bool.and_false, Bool.false_and]
    exact Bool.false_ne_true
  show wpAny _ _ (if (((items.length : Int) - 1) == 0 && (-1 : Int) == 1 && items.length == items.length) = true then _ else _) _ _ s
  rw [if_neg hno, pick_rev]
  first
    | exact wpAny_bind (m := Builtin.Tuple.tupleExact _) (wpAny_newObj_type (wpAny_pure ⟨_, rfl, wpAny_pure h⟩) htake)
    | exact wpAny_bind (m := Builtin.Tuple.tupleExact _) (wpAny_newObj_type (wpAny_bind (wpAny_pure (wpAny_pure ⟨_, rfl, wpAny_pure h⟩))) htake)
    | exact wpAny_bind (wpAny_bind (m := Builtin.Tuple.tupleExact _) (wpAny_newObj_type (wpAny_pure (wpAny_pure ⟨_, rfl, wpAny_pure h⟩)) htake))
    | exact wpAny_bind (wpAny_bind (m := Builtin.Tuple.tupleExact _) (wpAny_newObj_type (wpAny_pure ⟨_, rfl, wpAny_pure h⟩) htake))
end
def tRevT (K : PySem.W.Frag) (te : TE) : TE := fun σ H Q => te σ H fun x H1 => ∃ a xs, x = .ref a ∧ SqT K H1 a xs ∧ ∀ p, H1 p = none → Q (.ref p) (upd H1 p (.tup xs.reverse))
section
variable {X : Cx}
theorem pe_revT {e : Expr} {te : TE} {k : Nat} {p1 p2 p3 pos : Pos} (he : PE X e te) : PE X (.Subscript e (.Slice none none (some (.UnaryOp .USub (.Constant (.int 1) k p1) p2)) p3) pos) (tRevT X.K te) := by
  refine ⟨fun pins s σ H Q I h => ?_⟩
  refine Subscript_ (thn (he.run pins s σ H _ I h) fun v s1 ⟨x, H1, I1, r1, q1⟩ => ?_)
  obtain ⟨a, xs, ex, hx, q⟩ := q1
  subst ex
  cases r1
  have hst : PO X (some (.UnaryOp .USub (.Constant (.int 1) k p1) p2)) (tPart (tUn (rU fun i => .int (-i)) (tC (.int 1)))) := po_some (pe_un un_neg pe_int)
  refine wpAny_Slice (thn (po_none.run pins s1 σ H1 (fun o H2 => o = none ∧ H2 = H1) I1 ⟨rfl, rfl⟩) fun vl s2 ⟨l, H2, I2, pl, el, e2⟩ => ?_)
  subst el e2
  refine thn (po_none.run pins s2 σ H2 (fun o H3 => o = none ∧ H3 = H2) I2 ⟨rfl, rfl⟩) fun vu s3 ⟨u, H3, I3, pu, eu, e3⟩ => ?_
  subst eu e3
  refine thn (hst.run pins s3 σ H3 (fun o H4 => o = some (-1) ∧ H4 = H3) I3 ⟨1, rfl, -1, rfl, rfl, rfl⟩) fun vs s4 ⟨o, H4, I4, ps, eo, e4⟩ => ?_
  subst eo e4
  have I5 : Inv X pins σ H4 { s4 with heap := s4.heap.push { cls := .type "slice", data := .fields #[vl, vu, vs] } } := I4.kept (t' := s4.toks) fun b ob q => Heap.get?_push_of_some _ q
  obtain ⟨its, r, ht, hz⟩ := I5.tuple hx
  have hlen := r.length
  show wpAny (model X.prog X.w) X.A (subscriptTail e (.Slice none none (some (.UnaryOp .USub (.Constant (.int 1) k p1) p2)) p3) (.ref a) (.ref s4.heap.objs.size)) (EP X pins σ Q) X.xe { s4 with heap := s4.heap.push { cls := .type "slice", data := .fields #[vl, vu, vs] } }
  refine tail_any (ops := [.ref a, .ref s4.heap.objs.size]) ht.typeIs (PyProof.Rows.slot_tuple_getitem.lookup) ?_ (by with_unfolding_all rfl)
  refine getItem_tuple_rev ht (Heap.IsSliceOf.new _ vl vu vs) pl pu ps ?_ (by rw [← hlen]; exact hz)
  refine ⟨.ref _, _, I5.laid (t' := s4.toks) (o := .tup xs.reverse) (fun b ob q => Heap.get?_push_of_some _ q) (Nat.le_refl _) ?_, rfl, q _ (I5.hok.fresh (Nat.le_refl _))⟩
  exact ⟨by rw [List.length_reverse]; exact hz, _, r.reverse, IsTup.new _ _⟩
end
/-! ### t * k, k from 1 on -/
theorem tuple_mulW1 (l : Addr) (items : Array Value) (n : Nat) (dd : Option Addr) (sl : Array (Option Value)) (u : Tok) :
    Meets (Builtin.«tuple.__mul__» ⟨[.ref l, .int 1 u], []⟩) (fun _ R s => s.heap.get? l = some { cls := .type "tuple", dict := dd, data := .seq items n, slots := sl } ∧ R (.ok (.ret (Value.ref l))) s) :=
  .of_wp fun prog w A R s h => by
    obtain ⟨hp, g, d, tk, os⟩ := s
    obtain ⟨hl, h⟩ := h
    have f1 := AutoSeq1.idx_int
    have c0 : (decide ((1 : Int) < -(2 ^ 63)) || decide ((1 : Int) ≥ 2 ^ 63)) = false := by decide
    have c1 : (items.isEmpty || (1 : Int) == 1) = true := by rw [show ((1 : Int) == 1) = true from rfl, Bool.or_true]
    wp_walk using wpAny_loadPart' hl
    repeat (first
      | (refine wpAny_ite_false (decide_eq_false (by rw [c0]; exact Bool.false_ne_true)) ?_; wp_walk using wpAny_loadPart' hl)
      | (refine wpAny_ite_true (decide_eq_true c1) ?_; wp_walk using wpAny_loadPart' hl))
    exact ⟨_, rfl, h⟩
def rRepA (K : PySem.W.Frag) : R2 := fun x y H Q => ∃ l k xs, x = .ref l ∧ y = .int k ∧ SqT K H l xs ∧ xs ≠ [] ∧ 1 ≤ k ∧ k ≤ 1000 ∧ xs.length ≤ 1000 ∧ (k = 1 → Q (.ref l) H) ∧ (k ≠ 1 → ∀ p, H p = none → Q (.ref p) (upd H p (.tup (List.replicate k.toNat xs).flatten)))
section
variable {X : Cx}
theorem op_repA : OpR X (binaryOp .Mult) (rRepA X.K) := by
  intro pins s σ H x y v u Q I rx ry h
  obtain ⟨l, k, xs, rfl, rfl, hT, hne, h1, h2, hz, q1, q2⟩ := h
  by_cases hk : k = 1
  · subst hk
    cases rx
    obtain ⟨t, rfl⟩ := ry
    obtain ⟨its, r, ⟨⟨cls, dd, data, sl⟩, ho, hc, n, hd⟩, hs⟩ := I.tuple hT
    simp only at hc hd
    subst hc hd
    refine wpAny_binaryOp_repeat_ref (T := "tuple") (U := "int") (by decide) ⟨_, ho, rfl⟩ (fun s' => typeIs_int s' 1 t) noFill_tuple_mul F.fills_int_mul F.slot_int_rmul repeat_tuple F.slot_int_index.lookup
      (call_meets F.slot_int_rmul (typeIs_int s 1 t) F.entry_int_rmul (F.args_int_rmul_2 _ _) (int_rmul_tuple 1 t l its.toArray n dd sl)
        ⟨ho, rfl, ⟨_, ho, rfl⟩, call_meets F.slot_tuple_mul ⟨_, ho, rfl⟩ F.entry_tuple_mul (F.args_tuple_mul_2 _ _) (tuple_mulW1 l its.toArray n dd sl t) ⟨ho, ?_⟩⟩)
    exact ⟨.ref l, H, I, rfl, q1 rfl⟩
  · exact op_repT pins s σ H _ _ v u Q I rx ry ⟨l, k, xs, rfl, rfl, hT, hne, by omega, h2, hz, q2 hk⟩
end
end RR

/-! ### the mathematics of reach -/
namespace Rch
def ins (x : Int) : List Int → List Int
  | [] => [x]
  | y :: r => if x ≤ y then x :: y :: r else y :: ins x r
def isort : List Int → List Int
  | [] => []
  | x :: r => ins x (isort r)
theorem ins_perm (x : Int) : ∀ l : List Int, (ins x l).Perm (x :: l)
  | [] => .refl _
  | y :: r => by
    unfold ins
    split
    · exact .refl _
    · exact ((ins_perm x r).cons y).trans (.swap x y r)
theorem isort_perm : ∀ l : List Int, (isort l).Perm l
  | [] => .refl _
  | x :: r => (ins_perm x (isort r)).trans ((isort_perm r).cons x)
theorem ins_sorted (x : Int) : ∀ l : List Int, l.Pairwise (· ≤ ·) → (ins x l).Pairwise (· ≤ ·)
  | [], _ => List.pairwise_singleton _ _
  | y :: r, h => by
    unfold ins
    have h' := List.pairwise_cons.mp h
    split
    · next hx =>
      refine List.pairwise_cons.mpr ⟨fun z hz => ?_, h⟩
      rcases List.mem_cons.mp hz with e | hz
      · subst e
        exact hx
      · exact Int.le_trans hx (h'.1 z hz)
    · next hx =>
      refine List.pairwise_cons.mpr ⟨fun z hz => ?_, ins_sorted x r h'.2⟩
      rcases List.mem_cons.mp ((ins_perm x r).mem_iff.mp hz) with e | hz
      · subst e
        omega
      · exact h'.1 z hz
theorem isort_sorted : ∀ l : List Int, (isort l).Pairwise (· ≤ ·)
  | [] => .nil
  | x :: r => ins_sorted x _ (isort_sorted r)
theorem uniq : ∀ {l m : List Int}, l.Perm m → l.Pairwise (· ≤ ·) → m.Pairwise (· ≤ ·) → l = m
  | [], m, p, _, _ => (List.nil_perm.mp p).symm
  | x :: l, [], p, _, _ => absurd p.length_eq (by simp)
  | x :: l, y :: m, p, a, b => by
    have a' := List.pairwise_cons.mp a
    have b' := List.pairwise_cons.mp b
    have e : x = y := by
      have h1 : x ∈ y :: m := p.mem_iff.mp List.mem_cons_self
      have h2 : y ∈ x :: l := p.mem_iff.mpr List.mem_cons_self
      rcases List.mem_cons.mp h1 with e | h1
      · exact e
      · rcases List.mem_cons.mp h2 with e | h2
        · exact e.symm
        · exact Int.le_antisymm (a'.1 y h2) (b'.1 x h1)
    subst e
    rw [uniq (List.Perm.cons_inv p) a'.2 b'.2]
theorem isort_of {l m : List Int} (p : m.Perm l) (h : m.Pairwise (· ≤ ·)) : m = isort l := uniq (p.trans (isort_perm l).symm) h (isort_sorted l)
def greedy : Int → List Int → Int
  | T, [] => T
  | T, l :: r => if l > T + 1 then T else greedy (T + l) r
def reachOf (ns : List Int) : Int := greedy 0 (isort ns)
theorem greedy_ge : ∀ (ls : List Int) (T : Int), (∀ x ∈ ls, 0 ≤ x) → T ≤ greedy T ls
  | [], T, _ => Int.le_refl _
  | l :: r, T, h => by
    unfold greedy
    have h0 := h l List.mem_cons_self
    split
    · exact Int.le_refl _
    · have := greedy_ge r (T + l) fun x hx => h x (List.mem_cons_of_mem _ hx)
      omega
theorem greedy_le : ∀ (ls : List Int) (T : Int), (∀ x ∈ ls, 0 ≤ x ∧ x ≤ 40) → greedy T ls ≤ T + 40 * (ls.length : Int)
  | [], T, _ => by
    show T ≤ T + 40 * ((0 : Nat) : Int)
    omega
  | l :: r, T, h => by
    unfold greedy
    have h0 := h l List.mem_cons_self
    rw [List.length_cons]
    split
    · omega
    · have := greedy_le r (T + l) fun x hx => h x (List.mem_cons_of_mem _ hx)
      omega
def Good (ns : List Int) : Prop := 1 ≤ ns.length ∧ ns.length ≤ 8 ∧ ∀ n ∈ ns, 1 ≤ n ∧ n ≤ 40
theorem Good.perm {l m : List Int} (g : Good l) (p : m.Perm l) : Good m := ⟨by rw [p.length_eq]; exact g.1, by rw [p.length_eq]; exact g.2.1, fun n h => g.2.2 n (p.mem_iff.mp h)⟩
theorem isort_congr {l m : List Int} (p : m.Perm l) : isort m = isort l := uniq (((isort_perm m).trans p).trans (isort_perm l).symm) (isort_sorted m) (isort_sorted l)
theorem reach_perm {l m : List Int} (p : m.Perm l) : reachOf m = reachOf l := by
  unfold reachOf
  rw [isort_congr p]
theorem reach_bd {ns : List Int} (g : Good ns) : 0 ≤ reachOf ns ∧ reachOf ns ≤ 320 := by
  have g' := g.perm (isort_perm ns)
  have h1 := greedy_ge (isort ns) 0 fun x hx => by have := g'.2.2 x hx; omega
  have h2 := greedy_le (isort ns) 0 fun x hx => by have := g'.2.2 x hx; omega
  have h3 := g'.2.1
  refine ⟨h1, ?_⟩
  show greedy 0 (isort ns) ≤ 320
  omega
/-- n is a sum of some of ls, and of a number from 0 to T -/
def reps (T : Int) : List Int → Int → Prop
  | [], n => 0 ≤ n ∧ n ≤ T
  | l :: r, n => reps T r n ∨ reps T r (n - l)
theorem reps_perm {T : Int} {l m : List Int} (p : l.Perm m) : ∀ n, reps T l n ↔ reps T m n := by
  induction p with
  | nil => exact fun _ => Iff.rfl
  | cons x _ ih =>
    intro n
    show (reps T _ n ∨ reps T _ (n - x)) ↔ (reps T _ n ∨ reps T _ (n - x))
    rw [ih n, ih (n - x)]
  | swap x y r =>
    intro n
    show ((reps T r n ∨ reps T r (n - x)) ∨ (reps T r (n - y) ∨ reps T r (n - y - x))) ↔ ((reps T r n ∨ reps T r (n - y)) ∨ (reps T r (n - x) ∨ reps T r (n - x - y)))
    rw [show n - y - x = n - x - y by omega]
    constructor
    · rintro ((a | a) | (a | a))
      · exact .inl (.inl a)
      · exact .inr (.inl a)
      · exact .inl (.inr a)
      · exact .inr (.inr a)
    · rintro ((a | a) | (a | a))
      · exact .inl (.inl a)
      · exact .inr (.inl a)
      · exact .inl (.inr a)
      · exact .inr (.inr a)
  | trans _ _ h1 h2 => exact fun n => (h1 n).trans (h2 n)
theorem reps_up {T l : Int} (h0 : 0 ≤ T) (h1 : 1 ≤ l) (h2 : l ≤ T + 1) : ∀ (r : List Int) (n : Int), reps (T + l) r n ↔ reps T (l :: r) n
  | [], n => by
    show (0 ≤ n ∧ n ≤ T + l) ↔ ((0 ≤ n ∧ n ≤ T) ∨ (0 ≤ n - l ∧ n - l ≤ T))
    omega
  | x :: r, n => by
    show (reps (T + l) r n ∨ reps (T + l) r (n - x)) ↔ _
    rw [reps_up h0 h1 h2 r n, reps_up h0 h1 h2 r (n - x)]
    exact (reps_perm (.swap l x r) n)
theorem reps_low {T : Int} : ∀ (ls : List Int) (n : Int), 0 ≤ n → n ≤ T → reps T ls n
  | [], n, a, b => ⟨a, b⟩
  | _ :: r, n, a, b => .inl (reps_low r n a b)
theorem reps_nonneg {T : Int} : ∀ (ls : List Int) (n : Int), (∀ x ∈ ls, 0 ≤ x) → reps T ls n → 0 ≤ n
  | [], n, _, h => h.1
  | l :: r, n, hp, h => by
    have h0 := hp l List.mem_cons_self
    have hr : ∀ x ∈ r, 0 ≤ x := fun x hx => hp x (List.mem_cons_of_mem _ hx)
    rcases h with h | h
    · exact reps_nonneg r n hr h
    · have := reps_nonneg r _ hr h
      omega
theorem reps_not {T : Int} (h0 : 0 ≤ T) : ∀ (ls : List Int) (n : Int), (∀ x ∈ ls, T + 1 < x) → n ≤ T + 1 → reps T ls n → n ≤ T
  | [], n, _, _, h => h.2
  | l :: r, n, hp, hn, h => by
    have hl := hp l List.mem_cons_self
    have hr : ∀ x ∈ r, T + 1 < x := fun x hx => hp x (List.mem_cons_of_mem _ hx)
    rcases h with h | h
    · exact reps_not h0 r n hr hn h
    · have := reps_nonneg r _ (fun x hx => by have := hr x hx; omega) h
      omega
theorem greedy_is : ∀ (ls : List Int) (T : Int), 0 ≤ T → (∀ x ∈ ls, 1 ≤ x) → ls.Pairwise (· ≤ ·) → (∀ n, 0 ≤ n → n ≤ greedy T ls → reps T ls n) ∧ ¬ reps T ls (greedy T ls + 1)
  | [], T, h0, _, _ => ⟨fun n a b => ⟨a, b⟩, fun h => by
    have := h.2
    unfold greedy at this
    omega⟩
  | l :: r, T, h0, hp, hs => by
    have hl := hp l List.mem_cons_self
    have hr : ∀ x ∈ r, 1 ≤ x := fun x hx => hp x (List.mem_cons_of_mem _ hx)
    have hs' := List.pairwise_cons.mp hs
    unfold greedy
    by_cases hc : l > T + 1
    · rw [if_pos hc]
      refine ⟨fun n a b => reps_low _ n a b, fun h => ?_⟩
      have := reps_not h0 (l :: r) (T + 1) (fun x hx => by
        rcases List.mem_cons.mp hx with e | hx
        · omega
        · have := hs'.1 x hx
          omega) (Int.le_refl _) h
      omega
    · rw [if_neg hc]
      have ih := greedy_is r (T + l) (by omega) hr hs'.2
      have up := reps_up h0 hl (by omega : l ≤ T + 1) r
      exact ⟨fun n a b => (up n).mp (ih.1 n a b), fun h => ih.2 ((up _).mpr h)⟩
theorem reach_is {ns : List Int} (g : Good ns) : (∀ n, 0 ≤ n → n ≤ reachOf ns → reps 0 ns n) ∧ ¬ reps 0 ns (reachOf ns + 1) := by
  have g' := g.perm (isort_perm ns)
  have k := greedy_is (isort ns) 0 (Int.le_refl _) (fun x hx => (g'.2.2 x hx).1) (isort_sorted ns)
  exact ⟨fun n a b => (reps_perm (isort_perm ns) n).mp (k.1 n a b), fun h => k.2 ((reps_perm (isort_perm ns) _).mpr h)⟩
/-! ### sums as bits -/
def sumsF (S : Nat) : List Int → Nat
  | [] => S
  | l :: r => sumsF (S ||| S * 2 ^ l.toNat) r
theorem bits_step {S : Nat} {ls : List Int} {l : Int} (hl : 0 ≤ l) (hp : ∀ x ∈ ls, 0 ≤ x) (h : ∀ n : Nat, S.testBit n = true ↔ reps 0 ls (n : Int)) (n : Nat) : (S ||| S * 2 ^ l.toNat).testBit n = true ↔ reps 0 (l :: ls) (n : Int) := by
  rw [← Nat.shiftLeft_eq, Nat.testBit_or, Nat.testBit_shiftLeft, Bool.or_eq_true, Bool.and_eq_true, decide_eq_true_eq, h n, h (n - l.toNat)]
  show _ ↔ (reps 0 ls (n : Int) ∨ reps 0 ls ((n : Int) - l))
  constructor
  · rintro (a | ⟨a, b⟩)
    · exact .inl a
    · refine .inr ?_
      rw [show (n : Int) - l = ((n - l.toNat : Nat) : Int) by omega]
      exact b
  · rintro (a | a)
    · exact .inl a
    · have := reps_nonneg ls _ hp a
      refine .inr ⟨by omega, ?_⟩
      rw [show ((n - l.toNat : Nat) : Int) = (n : Int) - l by omega]
      exact a
theorem bits_all : ∀ (ls acc : List Int) (S : Nat), (∀ x ∈ ls, 0 ≤ x) → (∀ x ∈ acc, 0 ≤ x) → (∀ n : Nat, S.testBit n = true ↔ reps 0 acc (n : Int)) → ∀ n : Nat, (sumsF S ls).testBit n = true ↔ reps 0 (ls.reverse ++ acc) (n : Int)
  | [], acc, S, _, _, h => h
  | l :: r, acc, S, hl, ha, h => by
    intro n
    rw [List.reverse_cons, List.append_assoc]
    exact bits_all r (l :: acc) _ (fun x hx => hl x (List.mem_cons_of_mem _ hx)) (fun x hx => by
      rcases List.mem_cons.mp hx with e | hx
      · subst e
        exact hl x List.mem_cons_self
      · exact ha x hx) (bits_step (hl l List.mem_cons_self) ha h) n
theorem bit_one (n : Nat) : (1 : Nat).testBit n = true ↔ reps 0 [] (n : Int) := by
  show _ ↔ (0 ≤ (n : Int) ∧ (n : Int) ≤ 0)
  cases n with
  | zero => exact ⟨fun _ => ⟨by decide, by decide⟩, fun _ => by decide⟩
  | succ n =>
    rw [Nat.testBit_succ, show 1 / 2 = 0 from rfl, Nat.zero_testBit]
    exact ⟨fun h => absurd h Bool.false_ne_true, fun h => by omega⟩
theorem sums_is {ns : List Int} (g : Good ns) (n : Nat) : (sumsF 1 ns).testBit n = true ↔ reps 0 ns (n : Int) := by
  rw [bits_all ns [] 1 (fun x hx => by have := g.2.2 x hx; omega) (fun _ h => by simp at h) bit_one n, List.append_nil]
  exact reps_perm (List.reverse_perm ns) n
/-- sums // (1 << n) % 2 -/
theorem bit_of (S n : Nat) : (((S : Nat) : Int) / (1 * 2 ^ ((n : Int).toNat))).fmod 2 = if S.testBit n then 1 else 0 := by
  rw [Int.toNat_natCast, Int.one_mul, Int.fmod_eq_emod_of_nonneg _ (by decide), show ((2 : Int) ^ n) = ((2 ^ n : Nat) : Int) by simp, ← Int.natCast_ediv, show ((2 : Int)) = ((2 : Nat) : Int) from rfl, ← Int.natCast_emod, Nat.testBit_eq_decide_div_mod_eq]
  rcases Nat.mod_two_eq_zero_or_one (S / 2 ^ n) with e | e
  · rw [e]; rfl
  · rw [e]; rfl
end Rch

set_option Elab.async false
set_option linter.all false
set_option maxRecDepth 100000
set_option maxHeartbeats 4000000
namespace My
open PySem PySem.Spec PyProof.Rows L2
def topS (i : Nat) : Stmt := PySem.Challenge.pw_loopstore_k24_whole_reach.main.body.getD i (.Pass ⟨0, 0, 0, 0⟩)
abbrev s_is_integer : Stmt := topS 6
theorem sc_is_integer : FnScope ["thing"] ["thing"] (defScope s_is_integer) := ⟨rfl, rfl, rfl, by decide +kernel, rfl, by decide +kernel, by decide +kernel⟩
abbrev s_is_number : Stmt := topS 7
theorem sc_is_number : FnScope ["thing", "least", "most"] ["thing", "least", "most"] (defScope s_is_number) := ⟨rfl, rfl, rfl, by decide +kernel, rfl, by decide +kernel, by decide +kernel⟩
abbrev s_are_numbers : Stmt := topS 8
theorem sc_are_numbers : FnScope ["things", "least", "most", "thing"] ["things", "least", "most"] (defScope s_are_numbers) := ⟨rfl, rfl, rfl, by decide +kernel, rfl, by decide +kernel, by decide +kernel⟩
abbrev s_is_loops : Stmt := topS 9
theorem sc_is_loops : FnScope ["thing"] ["thing"] (defScope s_is_loops) := ⟨rfl, rfl, rfl, by decide +kernel, rfl, by decide +kernel, by decide +kernel⟩
abbrev s_check_loops : Stmt := topS 10
theorem sc_check_loops : FnScope ["thing"] ["thing"] (defScope s_check_loops) := ⟨rfl, rfl, rfl, by decide +kernel, rfl, by decide +kernel, by decide +kernel⟩
abbrev s_reach : Stmt := topS 12
theorem sc_reach : FnScope ["loops", "total", "length"] ["loops"] (defScope s_reach) := ⟨rfl, rfl, rfl, by decide +kernel, rfl, by decide +kernel, by decide +kernel⟩
abbrev s_flood : Stmt := topS 13
theorem sc_flood : FnScope ["loops"] ["loops"] (defScope s_flood) := ⟨rfl, rfl, rfl, by decide +kernel, rfl, by decide +kernel, by decide +kernel⟩
abbrev s__law_tape : Stmt := topS 15
theorem sc__law_tape : FnScope ["script"] ["script"] (defScope s__law_tape) := ⟨rfl, rfl, rfl, by decide +kernel, rfl, by decide +kernel, by decide +kernel⟩
abbrev s__law_pick : Stmt := topS 16
theorem sc__law_pick : FnScope ["tape", "size", "digit", "cell", "mixed"] ["tape", "size"] (defScope s__law_pick) := ⟨rfl, rfl, rfl, by decide +kernel, rfl, by decide +kernel, by decide +kernel⟩
abbrev s__law_doubled : Stmt := topS 17
theorem sc__law_doubled : FnScope ["tape", "most", "row", "turn", "length", "found"] ["tape", "most"] (defScope s__law_doubled) := ⟨rfl, rfl, rfl, by decide +kernel, rfl, by decide +kernel, by decide +kernel⟩
abbrev s__law_drawn : Stmt := topS 18
theorem sc__law_drawn : FnScope ["tape", "loops", "turn"] ["tape"] (defScope s__law_drawn) := ⟨rfl, rfl, rfl, by decide +kernel, rfl, by decide +kernel, by decide +kernel⟩
abbrev s__law_reach : Stmt := topS 19
theorem sc__law_reach : FnScope ["loops", "found", "length"] ["loops"] (defScope s__law_reach) := ⟨rfl, rfl, rfl, by decide +kernel, rfl, by decide +kernel, by decide +kernel⟩
abbrev s__law_sums : Stmt := topS 20
theorem sc__law_sums : FnScope ["loops", "found", "length", "moved", "turn"] ["loops"] (defScope s__law_sums) := ⟨rfl, rfl, rfl, by decide +kernel, rfl, by decide +kernel, by decide +kernel⟩
abbrev s_law : Stmt := topS 21
theorem sc_law : FnScope ["script", "tape", "turn", "loops", "due", "told", "sums", "number"] ["script"] (defScope s_law) := ⟨rfl, rfl, rfl, by decide +kernel, rfl, by decide +kernel, by decide +kernel⟩
structure Tx (K : PySem.W.Frag) (mg : Str → Option Value) where
  a_is_integer : Addr
  d_is_integer : FuncData
  F_is_integer : Fun K "is_integer" "is_integer" s_is_integer a_is_integer d_is_integer
  b_is_integer : Binds K d_is_integer ["thing"] []
  g_is_integer : mg "is_integer" = some (.ref a_is_integer)
  a_is_number : Addr
  d_is_number : FuncData
  F_is_number : Fun K "is_number" "is_number" s_is_number a_is_number d_is_number
  b_is_number : Binds K d_is_number ["thing", "least", "most"] []
  g_is_number : mg "is_number" = some (.ref a_is_number)
  a_are_numbers : Addr
  d_are_numbers : FuncData
  F_are_numbers : Fun K "are_numbers" "are_numbers" s_are_numbers a_are_numbers d_are_numbers
  b_are_numbers : Binds K d_are_numbers ["things", "least", "most"] []
  g_are_numbers : mg "are_numbers" = some (.ref a_are_numbers)
  a_is_loops : Addr
  d_is_loops : FuncData
  F_is_loops : Fun K "is_loops" "is_loops" s_is_loops a_is_loops d_is_loops
  b_is_loops : Binds K d_is_loops ["thing"] []
  g_is_loops : mg "is_loops" = some (.ref a_is_loops)
  a_check_loops : Addr
  d_check_loops : FuncData
  F_check_loops : Fun K "check_loops" "check_loops" s_check_loops a_check_loops d_check_loops
  b_check_loops : Binds K d_check_loops ["thing"] []
  g_check_loops : mg "check_loops" = some (.ref a_check_loops)
  a_reach : Addr
  d_reach : FuncData
  F_reach : Fun K "reach" "reach" s_reach a_reach d_reach
  b_reach : Binds K d_reach ["loops"] []
  g_reach : mg "reach" = some (.ref a_reach)
  a_flood : Addr
  d_flood : FuncData
  F_flood : Fun K "flood" "flood" s_flood a_flood d_flood
  b_flood : Binds K d_flood ["loops"] []
  g_flood : mg "flood" = some (.ref a_flood)
  a__law_tape : Addr
  d__law_tape : FuncData
  F__law_tape : Fun K "_law_tape" "_law_tape" s__law_tape a__law_tape d__law_tape
  b__law_tape : Binds K d__law_tape ["script"] []
  g__law_tape : mg "_law_tape" = some (.ref a__law_tape)
  a__law_pick : Addr
  d__law_pick : FuncData
  F__law_pick : Fun K "_law_pick" "_law_pick" s__law_pick a__law_pick d__law_pick
  b__law_pick : Binds K d__law_pick ["tape", "size"] []
  g__law_pick : mg "_law_pick" = some (.ref a__law_pick)
  a__law_doubled : Addr
  d__law_doubled : FuncData
  F__law_doubled : Fun K "_law_doubled" "_law_doubled" s__law_doubled a__law_doubled d__law_doubled
  b__law_doubled : Binds K d__law_doubled ["tape", "most"] []
  g__law_doubled : mg "_law_doubled" = some (.ref a__law_doubled)
  a__law_drawn : Addr
  d__law_drawn : FuncData
  F__law_drawn : Fun K "_law_drawn" "_law_drawn" s__law_drawn a__law_drawn d__law_drawn
  b__law_drawn : Binds K d__law_drawn ["tape"] []
  g__law_drawn : mg "_law_drawn" = some (.ref a__law_drawn)
  a__law_reach : Addr
  d__law_reach : FuncData
  F__law_reach : Fun K "_law_reach" "_law_reach" s__law_reach a__law_reach d__law_reach
  b__law_reach : Binds K d__law_reach ["loops"] []
  g__law_reach : mg "_law_reach" = some (.ref a__law_reach)
  a__law_sums : Addr
  d__law_sums : FuncData
  F__law_sums : Fun K "_law_sums" "_law_sums" s__law_sums a__law_sums d__law_sums
  b__law_sums : Binds K d__law_sums ["loops"] []
  g__law_sums : mg "_law_sums" = some (.ref a__law_sums)
  a_law : Addr
  d_law : FuncData
  F_law : Fun K "law" "law" s_law a_law d_law
  b_law : Binds K d_law ["script"] []
  g_law : mg "law" = some (.ref a_law)
  m_all : mg "all" = none
  m_bool : mg "bool" = none
  m_int : mg "int" = none
  m_isinstance : mg "isinstance" = none
  m_len : mg "len" = none
  m_list : mg "list" = none
  m_max : mg "max" = none
  m_range : mg "range" = none
  m_sorted : mg "sorted" = none
  m_sum : mg "sum" = none
  m_tuple : mg "tuple" = none
  t_MOST_LENGTH : Tok
  g_MOST_LENGTH : mg "MOST_LENGTH" = some (.int 40 t_MOST_LENGTH)
  t_MOST_LOOPS : Tok
  g_MOST_LOOPS : mg "MOST_LOOPS" = some (.int 8 t_MOST_LOOPS)
/-! ### heaps -/
theorem same_upd {H : Hp} {p : Addr} {o : HO} (h : H p = none) : Same H (upd H p o) := fun b x e => by
  rw [upd_ne (ne_of_none e h)]
  exact e
/-- all but t stays -/
def Moved (t : Addr) (H H' : Hp) : Prop := ∀ b o, b ≠ t → H b = some o → H' b = some o
theorem Moved.refl {t : Addr} {H : Hp} : Moved t H H := fun _ _ _ h => h
theorem Moved.trans {t : Addr} {H H1 H2 : Hp} (a : Moved t H H1) (b : Moved t H1 H2) : Moved t H H2 := fun c o n h => b c o n (a c o n h)
theorem Moved.upd {t : Addr} {H : Hp} {o : HO} : Moved t H (upd H t o) := fun b x n e => by
  rw [upd_ne n]
  exact e
theorem Moved.same {t : Addr} {H H' : Hp} (h : Same H H') : Moved t H H' := fun b o _ e => h b o e
theorem Moved.free {t : Addr} {H H' : Hp} (h : Moved t H H') {p : Addr} (n : p ≠ t) (e : H' p = none) : H p = none := by
  cases q : H p with
  | none => rfl
  | some o =>
    rw [h p o n q] at e
    cases e
/-! ### the tape: where the draws stand -/
def Tape (H : Hp) (t s : Addr) : Prop := ∃ (ns : List Int) (pos rest mx ct : Int), s ≠ t ∧ H t = some (.lst [.ref s, .int pos, .int rest, .int mx, .int ct]) ∧ H s = some (.lst (ns.map V.int)) ∧ 0 ≤ pos
theorem Tape.keep {t s : Addr} {H H' : Hp} (h : Tape H t s) (e : Same H H') : Tape H' t s := by
  obtain ⟨ns, a, b, c, d, h1, h2, h3, h4⟩ := h
  exact ⟨ns, a, b, c, d, h1, e _ _ h2, e _ _ h3, h4⟩
theorem Tape.ne {t s p : Addr} {H : Hp} (h : Tape H t s) (np : H p = none) : p ≠ t := fun e => by
  obtain ⟨ns, a, b, c, d, h1, h2, h3, h4⟩ := h
  rw [e, h2] at np
  cases np
theorem Tape.ne2 {t s p : Addr} {H : Hp} (h : Tape H t s) (np : H p = none) : p ≠ s := fun e => by
  obtain ⟨ns, a, b, c, d, h1, h2, h3, h4⟩ := h
  rw [e, h3] at np
  cases np
theorem Tape.but {t s r : Addr} {H : Hp} {o : HO} (h : Tape H t s) (n : r ≠ t) (n2 : r ≠ s) : Tape (upd H r o) t s := by
  obtain ⟨ns, a, b, c, d, h1, h2, h3, h4⟩ := h
  refine ⟨ns, a, b, c, d, h1, ?_, ?_, h4⟩
  · rw [upd_ne n.symm]
    exact h2
  · rw [upd_ne n2.symm]
    exact h3
section
variable {P : Program} {w : World} {K : PySem.W.Frag} {mg : Str → Option Value} {base : Heap}
def spTape (K : PySem.W.Frag) : Sp := fun vs H Q _ => ∃ (a : Addr) (ns : List Int), vs = [.ref a] ∧ SqL K H a (ns.map V.int) ∧ ∀ t s H', H t = none → H s = none → Same H H' → Tape H' t s → Q (.ref t) H'
theorem ok__law_tape (T : Tx K mg) : FnOk P w K mg base CX0 1 T.a__law_tape T.d__law_tape ["script"] (spTape K) := by
  refine T.F__law_tape.ok sc__law_tape (fun vs H Q E h => ?_) (fun cdv A outer s H vs Q E hr h => ?_)
  · obtain ⟨a, ns, rfl, _⟩ := h
    rfl
  · obtain ⟨a, ns, rfl, hS, q⟩ := h
    refine ⟨_, ((pss_one (ps_ret (pe_lst (pa_cons (pe_callTy call_list_of (by rfl) T.m_list (by decide +kernel) (pa_cons (pv 0) pa_nil)) (pa_cons pe_int (pa_cons pe_int (pa_cons pe_int (pa_cons pe_int pa_nil))))))))), ?_⟩
    refine ⟨.ref a, rfl, a, _, rfl, .inl hS, fun l nl => ?_⟩
    refine ⟨by show 5 ≤ sizeLine; decide, fun t nt => ?_⟩
    have nlt : l ≠ t := fun e => by
      rw [← e, upd_same] at nt
      cases nt
    have s1 : Same H (upd H l (.lst (ns.map V.int))) := same_upd nl
    refine q t l _ (Same.free s1 nt) nl (s1.trans (same_upd nt)) ⟨ns, 0, 0, 1, 0, nlt, upd_same, ?_, by decide⟩
    rw [upd_ne nlt, upd_same]
def spPick (K : PySem.W.Frag) : Sp := fun vs H Q _ => ∃ (t s : Addr) (n : Int), vs = [.ref t, .int n] ∧ (0 < n ∧ n < 2 ^ 60) ∧ Tape H t s ∧ ∀ r H', 0 ≤ r → r < n → Moved t H H' → Tape H' t s → Q (.int r) H'
theorem fm_of {a b : Int} (h : 0 < b) : 0 ≤ a.fmod b ∧ a.fmod b < b := by
  rw [Int.fmod_eq_emod_of_nonneg a (Int.le_of_lt h)]
  exact ⟨Int.emod_nonneg a (by omega), Int.emod_lt_of_pos a h⟩
theorem ok__law_pick (T : Tx K mg) : FnOk P w K mg base CX0 1 T.a__law_pick T.d__law_pick ["tape", "size"] (spPick K) := by
  refine T.F__law_pick.ok sc__law_pick (fun vs H Q E h => ?_) (fun cdv A outer s H vs Q E hr h => ?_)
  · obtain ⟨t, l, n, rfl, _⟩ := h
    rfl
  · obtain ⟨t, l, n, rfl, ⟨hn, hn2⟩, ⟨ns, pos, rest, mx, ct, hlt, ht, hl, hp⟩, q⟩ := h
    have wd : ∀ i : Int, CDivW i n := fun i => wide_div hn (b := 60) (by omega) (by decide) (by decide)
    refine ⟨_, ((pss_cons (ps_if (pt_cmpR op_gt (pe_ix ix_list (pv 0) pe_int (fun _ _ => rfl)) pe_int (nomark _)) (pss_cons (ps_set (i := 2) sc__law_pick.nd rfl (.inl rfl) (pe_op op_modN (pe_callTy call_int1 (by rfl) T.m_int (by decide +kernel) (pa_cons (pe_ix ix_list (pv 0) pe_int (fun _ _ => rfl)) pa_nil)) (pv 1)))
  (pss_cons (ps_asg (pe_op op_fdivW (pe_ix ix_list (pv 0) pe_int (fun _ _ => rfl)) (pv 1)) (pg_sub (pv 0) pe_int set_list))
  (pss_one (ps_ret (pv 2))))) pss_nil)
  (pss_cons (ps_asg (pe_op op_add (pe_ix ix_list (pv 0) pe_int (fun _ _ => rfl)) pe_int) (pg_sub (pv 0) pe_int set_list))
  (pss_cons (ps_set (i := 3) sc__law_pick.nd rfl (.inl rfl) pe_int)
  (Evl.pss_cut (ps_if (pt_cmpR op_lt (pe_ix ix_list (pv 0) pe_int (fun _ _ => rfl)) (pe_callB call_len_seq (by rfl) T.m_len PySem.boot_len (pa_cons (pe_ix ix_list (pv 0) pe_int (fun _ _ => rfl)) pa_nil)) (nomark _)) (pss_cons (ps_set (i := 3) sc__law_pick.nd rfl (.inl rfl) (pe_ix ix_list (pe_ix ix_list (pv 0) pe_int (fun _ _ => rfl)) (pe_ix ix_list (pv 0) pe_int (fun _ _ => rfl)) (fun _ _ => rfl)))
  (pss_one (ps_asg (pe_op op_add (pe_ix ix_list (pv 0) pe_int (fun _ _ => rfl)) pe_int) (pg_sub (pv 0) pe_int set_list)))) pss_nil)
  (pss_cons (ps_if (pt_cmpR op_ge (pv 3) (pe_op op_pow pe_int pe_int) (nomark _)) (pss_cons (ps_asg (pe_op op_fdivW (pv 3) (pv 1)) (pg_sub (pv 0) pe_int set_list))
  (pss_one (ps_ret (pe_op op_modN (pe_callTy call_int1 (by rfl) T.m_int (by decide +kernel) (pa_cons (pv 3) pa_nil)) (pv 1))))) pss_nil)
  (pss_cons (ps_set (i := 4) sc__law_pick.nd rfl (.inl rfl) (pe_op op_modN (pe_callTy call_int1 (by rfl) T.m_int (by decide +kernel) (pa_cons (pe_op op_add (pe_op op_add (pe_op op_mul (pe_ix ix_list (pv 0) pe_int (fun _ _ => rfl)) pe_int) (pe_op op_modN (pe_callTy call_int1 (by rfl) T.m_int (by decide +kernel) (pa_cons (pv 3) pa_nil)) pe_int)) (pe_op op_mul (pe_ix ix_list (pv 0) pe_int (fun _ _ => rfl)) pe_int)) pa_nil)) pe_int))
  (pss_cons (ps_set (i := 4) sc__law_pick.nd rfl (.inl rfl) (pe_op op_modN (pe_callTy call_int1 (by rfl) T.m_int (by decide +kernel) (pa_cons (pe_op op_mul (pv 4) (pe_op op_add (pe_op op_fdivW (pv 4) pe_int) pe_int)) pa_nil)) pe_int))
  (pss_cons (ps_asg (pv 4) (pg_sub (pv 0) pe_int set_list))
  (pss_one (ps_ret (pe_op op_modN (pe_callTy call_int1 (by rfl) T.m_int (by decide +kernel) (pa_cons (pe_op op_fdivW (pv 4) pe_int) pa_nil)) (pv 1))))))))))))), ?_⟩
    -- tape[2] > 1
    refine ⟨.ref t, rfl, t, _, 2, _, rfl, rfl, SqL.of ht, atI_nat (j := 2) rfl, _, _, rfl, rfl, _, rfl, ite2 (fun h1 => ?_) (fun h1 => ?_)⟩
    · -- digit
      refine ⟨.ref t, rfl, t, _, 2, _, rfl, rfl, SqL.of ht, atI_nat (j := 2) rfl, .inl ⟨_, rfl, ?_⟩⟩
      refine ⟨.int n, rfl, _, _, rfl, rfl, by omega, ?_⟩
      -- tape[2] = tape[2] // size
      refine ⟨.ref t, rfl, t, _, 2, _, rfl, rfl, SqL.of ht, atI_nat (j := 2) rfl, .int n, rfl, _, _, rfl, rfl, wd _, ?_⟩
      refine ⟨.ref t, rfl, t, _, 2, 2, rfl, rfl, ht, rfl, ?_⟩
      -- return digit
      refine ⟨_, rfl, ?_⟩
      refine q _ _ (fm_of hn).1 (fm_of hn).2 Moved.upd ⟨ns, pos, _, mx, ct, hlt, upd_same, ?_, hp⟩
      rw [upd_ne hlt]
      exact hl
    · -- tape[4] = tape[4] + 1
      refine ⟨.ref t, rfl, t, _, 4, _, rfl, rfl, SqL.of ht, atI_nat (j := 4) rfl, _, _, rfl, rfl, ?_⟩
      refine ⟨.ref t, rfl, t, _, 4, 4, rfl, rfl, ht, rfl, ?_⟩
      -- cell = 0; the first cut
      refine ⟨fun σ' H1 => ∃ (cell p2 : Int) (σ3 σ4 : Option V), σ' = [some (.ref t), some (.int n), σ3, some (.int cell), σ4] ∧ 0 ≤ p2 ∧ H1 t = some (.lst [.ref l, .int p2, .int rest, .int mx, .int (ct + 1)]) ∧ H1 l = some (.lst (ns.map V.int)) ∧ Moved t H H1, ?_, fun σ' H1 hm => ?_⟩
      · have hl1 : (upd H t (.lst [.ref l, .int pos, .int rest, .int mx, .int (ct + 1)])) l = some (.lst (ns.map V.int)) := by
          rw [upd_ne hlt]
          exact hl
        refine ⟨.ref t, rfl, t, _, 1, _, rfl, rfl, SqL.of upd_same, atI_nat (j := 1) rfl, .ref t, rfl, t, _, 0, _, rfl, rfl, SqL.of upd_same, atI_nat (j := 0) rfl, l, _, rfl, .inl (SqL.of hl1), _, _, rfl, rfl, _, rfl, ite2 (fun h2 => ?_) (fun h2 => ?_)⟩
        · have h3 : pos < ((ns.map V.int).length : Int) := of_decide_eq_true h2
          obtain ⟨j, rfl⟩ : ∃ j : Nat, pos = (j : Int) := ⟨pos.toNat, by omega⟩
          have hj : j < ns.length := by
            rw [List.length_map] at h3
            omega
          have gj : (ns.map V.int)[j]? = some (.int ns[j]) := by
            rw [List.getElem?_map, List.getElem?_eq_getElem hj]
            rfl
          -- cell = tape[0][tape[1]]
          refine ⟨.ref t, rfl, t, _, 0, _, rfl, rfl, SqL.of upd_same, atI_nat (j := 0) rfl, .ref t, rfl, t, _, 1, _, rfl, rfl, SqL.of upd_same, atI_nat (j := 1) rfl, l, _, _, _, rfl, rfl, SqL.of hl1, atI_nat gj, ?_⟩
          -- tape[1] = tape[1] + 1
          refine ⟨.ref t, rfl, t, _, 1, _, rfl, rfl, SqL.of upd_same, atI_nat (j := 1) rfl, _, _, rfl, rfl, ?_⟩
          refine ⟨.ref t, rfl, t, _, 1, 1, rfl, rfl, upd_same, rfl, ?_⟩
          rw [upd_upd]
          exact ⟨_, _, _, _, rfl, by omega, upd_same, (by rw [upd_ne hlt]; exact hl), Moved.upd⟩
        · exact ⟨_, _, _, _, rfl, hp, upd_same, hl1, Moved.upd⟩
      · obtain ⟨cell, p2, σ3, σ4, rfl, hp2, ht1, hl1, mv⟩ := hm
        -- cell >= 10 ** 18
        refine ⟨.int cell, rfl, 10, 18, rfl, rfl, ⟨by decide, by decide, by decide⟩, _, _, rfl, rfl, _, rfl, ite2 (fun h2 => ?_) (fun h2 => ?_)⟩
        · refine ⟨.int cell, rfl, .int n, rfl, _, _, rfl, rfl, wd _, .ref t, rfl, t, _, 2, 2, rfl, rfl, ht1, rfl, ?_⟩
          refine ⟨.int cell, rfl, .inl ⟨_, rfl, .int n, rfl, _, _, rfl, rfl, by omega, ?_⟩⟩
          refine q _ _ (fm_of hn).1 (fm_of hn).2 (mv.trans Moved.upd) ⟨ns, p2, _, mx, _, hlt, upd_same, ?_, hp2⟩
          rw [upd_ne hlt]
          exact hl1
        · -- mixed = ..
          refine ⟨.ref t, rfl, t, _, 3, _, rfl, rfl, SqL.of ht1, atI_nat (j := 3) rfl, _, _, rfl, rfl, .inr ⟨by decide, by decide⟩, ?_⟩
          refine ⟨.int cell, rfl, .inl ⟨_, rfl, _, _, rfl, rfl, (by show (2147483629 : Int) ≠ 0; decide), _, _, rfl, rfl, ?_⟩⟩
          refine ⟨.ref t, rfl, t, _, 4, _, rfl, rfl, SqL.of ht1, atI_nat (j := 4) rfl, _, _, rfl, rfl, .inr ⟨by decide, by decide⟩, _, _, rfl, rfl, ?_⟩
          refine .inl ⟨_, rfl, _, _, rfl, rfl, (by show (2147483647 : Int) ≠ 0; decide), ?_⟩
          have bm := fm_of (a := mx * 48271 + cell.fmod 2147483629 + (ct + 1) * 69621) (b := 2147483647) (by decide)
          -- mixed = int(mixed * ..) % ..
          refine ⟨_, rfl, _, rfl, _, _, rfl, rfl, ⟨by decide, by decide⟩, _, _, rfl, rfl, _, _, rfl, rfl, .inl ⟨Int.lt_of_lt_of_le (by decide) bm.1, Int.lt_trans bm.2 (by decide)⟩, .inl ⟨_, rfl, _, _, rfl, rfl, (by show (2147483399 : Int) ≠ 0; decide), ?_⟩⟩
          -- tape[3] = mixed
          refine ⟨_, rfl, .ref t, rfl, t, _, 3, 3, rfl, rfl, ht1, rfl, ?_⟩
          refine ⟨_, rfl, _, _, rfl, rfl, ⟨by decide, by decide⟩, .inl ⟨_, rfl, .int n, rfl, _, _, rfl, rfl, by omega, ?_⟩⟩
          refine q _ _ (fm_of hn).1 (fm_of hn).2 (mv.trans Moved.upd) ⟨ns, p2, _, _, _, hlt, upd_same, ?_, hp2⟩
          rw [upd_ne hlt]
          exact hl1
end

/-! ### what arguments may be: ints and tuples of ints -/
section
variable {K : PySem.W.Frag} {H : Hp}
theorem tyTup {a : Addr} {xs : List V} (h : SqT K H a xs) : TyX K H (.ref a) (.type "tuple") := by
  rcases h with (h | ⟨o, h⟩) | h
  · exact .base (.tup h)
  · exact .fTuple h
  · obtain ⟨o, n, vs, e, c, _⟩ := h
    exact .kTuple e c
theorem sT {H' : Hp} {a : Addr} {xs : List V} (e : Same H H') (h : SqT K H a xs) : SqT K H' a xs := by
  rcases h with (h | ⟨o, h⟩) | h
  · exact .inl (.inl (e _ _ h))
  · exact .inl (.inr ⟨o, e _ _ h⟩)
  · exact .inr h
end
section
variable {P : Program} {w : World} {K : PySem.W.Frag} {mg : Str → Option Value} {base : Heap}
def spIsInt (K : PySem.W.Frag) : Sp := fun vs H Q _ => ∃ i : Int, vs = [.int i] ∧ Q (.bl true) H
theorem ok_is_integer (T : Tx K mg) : FnOk P w K mg base CX0 1 T.a_is_integer T.d_is_integer ["thing"] (spIsInt K) := by
  refine T.F_is_integer.ok sc_is_integer (fun vs H Q E h => ?_) (fun cdv A outer s H vs Q E hr h => ?_)
  · obtain ⟨i, rfl, _⟩ := h
    rfl
  · obtain ⟨i, rfl, q⟩ := h
    refine ⟨_, ((pss_one (ps_ret (pe_and (pe_callB call_isi (by rfl) T.m_isinstance (by decide +kernel) (pa_cons (pv 0) (pa_cons (pe_bltn (v := .ty "int") (by rfl) T.m_int (by decide +kernel) rfl) pa_nil))) (pe_one (pe_not (pe_callB call_isi (by rfl) T.m_isinstance (by decide +kernel) (pa_cons (pv 0) (pa_cons (pe_bltn (v := .ty "bool") (by rfl) T.m_bool (by decide +kernel) rfl) pa_nil))))))))), ?_⟩
    refine ⟨.int i, rfl, .int i, .ty "int", _, _, true, rfl, .ty _, .base (.int i), kit_ty (by decide +kernel), true, rfl, iteT ?_⟩
    refine ⟨.int i, rfl, .int i, .ty "bool", _, _, false, rfl, .ty _, .base (.int i), kit_ty (by decide +kernel), false, rfl, ?_⟩
    exact q
def spIsNum (K : PySem.W.Frag) : Sp := fun vs H Q _ => ∃ i a b : Int, vs = [.int i, .int a, .int b] ∧ Q (.bl (decide (a ≤ i) && decide (i ≤ b))) H
theorem ok_is_number (T : Tx K mg) : FnOk P w K mg base CX0 2 T.a_is_number T.d_is_number ["thing", "least", "most"] (spIsNum K) := by
  refine T.F_is_number.ok sc_is_number (fun vs H Q E h => ?_) (fun cdv A outer s H vs Q E hr h => ?_)
  · obtain ⟨i, a, b, rfl, _⟩ := h
    rfl
  · obtain ⟨i, a, b, rfl, q⟩ := h
    refine ⟨_, ((pss_one (ps_ret (pe_and (pe_call (ok_is_integer T) (hr.mono (by decide)) (by rfl) T.g_is_integer T.F_is_integer.kp T.b_is_integer .nil pass0 (pa_cons (pv 0) pa_nil)) (pe_one (pe_chain op_le op_le (pv 1) (pv 0) (pv 2))))))), ?_⟩
    refine ⟨.int i, rfl, i, rfl, true, rfl, iteT ?_⟩
    refine ⟨.int a, rfl, .int i, rfl, a, i, rfl, rfl, _, rfl, ?_⟩
    by_cases h : a ≤ i
    · rw [decide_eq_true h] at q ⊢
      refine iteT ⟨.int b, rfl, i, b, rfl, rfl, ?_⟩
      exact q
    · rw [decide_eq_false h] at q ⊢
      exact iteF q
def spAreNums (K : PySem.W.Frag) : Sp := fun vs H Q _ => ∃ (a : Addr) (ns : List Int) (lo hi : Int), vs = [.ref a, .int lo, .int hi] ∧ SqT K H a (ns.map V.int) ∧ ns.length ≤ 1000 ∧
  ∀ H', Same H H' → Q (.bl (ns.all fun n => decide (lo ≤ n) && decide (n ≤ hi))) H'
theorem ok_are_numbers (T : Tx K mg) : FnOk P w K mg base CX0 3 T.a_are_numbers T.d_are_numbers ["things", "least", "most"] (spAreNums K) := by
  refine T.F_are_numbers.ok sc_are_numbers (fun vs H Q E h => ?_) (fun cdv A outer s H vs Q E hr h => ?_)
  · obtain ⟨a, ns, lo, hi, rfl, _⟩ := h
    rfl
  · obtain ⟨a, ns, lo, hi, rfl, hT, hlen, q⟩ := h
    refine ⟨_, ((pss_one (ps_ret (pe_callB (cr_all rfl) (by rfl) T.m_all (by decide +kernel) (pa_cons (pe_lc (own := [("thing", 3)]) (g := (gName 3)) (tt := tYes) rfl sc_are_numbers.nd (pi_tup (pv 0)) (blkOk_by (own := [("thing", 3)]) (N := ["things", "least", "most", "thing"]) (sc := defScope s_are_numbers) (by decide +kernel)) (fun _ _ _ _ _ => pg_name (i := 3) sc_are_numbers.nd rfl (.inl rfl)) (fun _ _ _ _ _ => pts_nil) (fun _ _ _ _ _ => (pe_call (ok_is_number T) (hr.mono (by decide)) (by rfl) T.g_is_number T.F_is_number.kp T.b_is_number .nil pass0 (pa_cons (pv 3) (pa_cons (pv 1) (pa_cons (pv 2) pa_nil)))))) pa_nil))))), ?_⟩
    refine ⟨.ref a, rfl, a, rfl, ⟨_, hT⟩, fun D hD => lc_tup (K := K) (a := a) (xs := ns.map V.int)
      (fun i H' => Same H H' ∧ H D = none ∧ H' D = some (.lst (((ns.take i).map fun n => decide (lo ≤ n) && decide (n ≤ hi)).map V.bl)))
      ⟨same_upd hD, hD, upd_same⟩ (fun i H' _ p => sT p.1 hT) (fun i x H' hx p => ?_) (fun H' p => ?_)⟩
    · obtain ⟨sm, nD, eD⟩ := p
      rw [List.getElem?_map] at hx
      obtain ⟨n, hn, rfl⟩ := Option.map_eq_some_iff.mp hx
      refine ⟨rfl, ?_⟩
      refine ⟨.int n, rfl, .int lo, rfl, .int hi, rfl, n, lo, hi, rfl, ?_⟩
      have hi' : i < ns.length := (List.getElem?_eq_some_iff.mp hn).1
      refine ⟨_, eD, ?_, ?_⟩
      · rw [List.length_map, List.length_map, List.length_take]
        exact small1000 (by omega)
      · refine ⟨fun b o e => ?_, nD, ?_⟩
        · rw [upd_ne (ne_of_none e nD)]
          exact sm b o e
        · rw [upd_same, List.take_add_one, hn, List.map_append, List.map_append]
          rfl
    · obtain ⟨sm, nD, eD⟩ := p
      rw [List.length_map, List.take_of_length_le (Nat.le_refl _)] at eD
      refine ⟨D, _, rfl, SqL.of eD, ?_⟩
      have e2 : ((ns.map fun n => decide (lo ≤ n) && decide (n ≤ hi)).all id) = ns.all fun n => decide (lo ≤ n) && decide (n ≤ hi) := by
        rw [List.all_map]
        rfl
      rw [e2]
      exact q H' sm
end

/-! ### loops that are right, and their reach -/
section
variable {P : Program} {w : World} {K : PySem.W.Frag} {mg : Str → Option Value} {base : Heap}
theorem good_all {ns : List Int} (g : Rch.Good ns) : (ns.all fun n => decide (1 ≤ n) && decide (n ≤ 40)) = true := by
  rw [List.all_eq_true]
  intro n hn
  have := g.2.2 n hn
  rw [Bool.and_eq_true]
  exact ⟨decide_eq_true this.1, decide_eq_true this.2⟩
def spIsLoops (K : PySem.W.Frag) : Sp := fun vs H Q _ => ∃ (a : Addr) (ns : List Int), vs = [.ref a] ∧ SqT K H a (ns.map V.int) ∧ Rch.Good ns ∧ ∀ H', Same H H' → Q (.bl true) H'
theorem ok_is_loops (T : Tx K mg) : FnOk P w K mg base CX0 4 T.a_is_loops T.d_is_loops ["thing"] (spIsLoops K) := by
  refine T.F_is_loops.ok sc_is_loops (fun vs H Q E h => ?_) (fun cdv A outer s H vs Q E hr h => ?_)
  · obtain ⟨a, ns, rfl, _⟩ := h
    rfl
  · obtain ⟨a, ns, rfl, hT, g, q⟩ := h
    refine ⟨_, ((pss_one (ps_ret (pe_and (pe_callB call_isi (by rfl) T.m_isinstance (by decide +kernel) (pa_cons (pv 0) (pa_cons (pe_bltn (v := .ty "tuple") (by rfl) T.m_tuple (by decide +kernel) rfl) pa_nil))) (pe_and (pe_chain op_le op_le pe_int (pe_callB call_len_seq (by rfl) T.m_len PySem.boot_len (pa_cons (pv 0) pa_nil)) (pe_glob (v := .int 8) rfl T.g_MOST_LOOPS ⟨_, rfl⟩)) (pe_one (pe_call (ok_are_numbers T) (hr.mono (by decide)) (by rfl) T.g_are_numbers T.F_are_numbers.kp T.b_are_numbers .nil pass0 (pa_cons (pv 0) (pa_cons pe_int (pa_cons (pe_glob (v := .int 40) rfl T.g_MOST_LENGTH ⟨_, rfl⟩) pa_nil)))))))))), ?_⟩
    refine ⟨.ref a, rfl, .ref a, .ty "tuple", _, _, true, rfl, .ty _, tyTup hT, kit_ty (by decide +kernel), true, rfl, iteT ?_⟩
    have g1 := g.1
    have g2 := g.2.1
    refine ⟨.ref a, rfl, a, _, rfl, .inr hT, 1, _, rfl, rfl, true, ?_, iteT ⟨_, 8, rfl, rfl, true, ?_, iteT ?_⟩⟩
    · show V.bl (decide ((1 : Int) ≤ ((ns.map V.int).length : Int))) = V.bl true
      rw [List.length_map, decide_eq_true (by omega)]
    · show V.bl (decide (((ns.map V.int).length : Int) ≤ (8 : Int))) = V.bl true
      rw [List.length_map, decide_eq_true (by omega)]
    · refine ⟨.ref a, rfl, a, ns, 1, 40, rfl, hT, by omega, fun H' sm => ?_⟩
      have e := good_all g
      rw [e]
      exact q H' sm
def spChkLoops (K : PySem.W.Frag) : Sp := fun vs H Q _ => ∃ (a : Addr) (ns : List Int), vs = [.ref a] ∧ SqT K H a (ns.map V.int) ∧ Rch.Good ns ∧ ∀ H', Same H H' → Q .non H'
theorem ok_check_loops (T : Tx K mg) : FnOk P w K mg base CX0 5 T.a_check_loops T.d_check_loops ["thing"] (spChkLoops K) := by
  refine T.F_check_loops.ok sc_check_loops (fun vs H Q E h => ?_) (fun cdv A outer s H vs Q E hr h => ?_)
  · obtain ⟨a, ns, rfl, _⟩ := h
    rfl
  · obtain ⟨a, ns, rfl, hT, g, q⟩ := h
    refine ⟨_, ((pss_one (ps_if (pt_not (pt_val (pe_call (ok_is_loops T) (hr.mono (by decide)) (by rfl) T.g_is_loops T.F_is_loops.kp T.b_is_loops .nil pass0 (pa_cons (pv 0) pa_nil)))) (pss_one ps_never) pss_nil))), ?_⟩
    refine ⟨.ref a, rfl, a, ns, rfl, hT, g, fun H' sm => ⟨true, rfl, iteF ?_⟩⟩
    exact q H' sm
def spReach (K : PySem.W.Frag) : Sp := fun vs H Q _ => ∃ (a : Addr) (ns : List Int), vs = [.ref a] ∧ SqT K H a (ns.map V.int) ∧ Rch.Good ns ∧ ∀ H', Same H H' → Q (.int (Rch.reachOf ns)) H'
theorem ok_reach (T : Tx K mg) : FnOk P w K mg base CX0 6 T.a_reach T.d_reach ["loops"] (spReach K) := by
  refine T.F_reach.ok sc_reach (fun vs H Q E h => ?_) (fun cdv A outer s H vs Q E hr h => ?_)
  · obtain ⟨a, ns, rfl, _⟩ := h
    rfl
  · obtain ⟨a, ns, rfl, hT, g, q⟩ := h
    refine ⟨_, ((pss_cons (ps_expr (pe_call (ok_check_loops T) (hr.mono (by decide)) (by rfl) T.g_check_loops T.F_check_loops.kp T.b_check_loops .nil pass0 (pa_cons (pv 0) pa_nil)))
  (pss_cons (ps_set (i := 1) sc_reach.nd rfl (.inl rfl) pe_int)
  (pss_cons (ps_for PassesOwn.never rfl (pi_list (pe_callB RR.cr_sortedU (by rfl) T.m_sorted (by decide +kernel) (pa_cons (pv 0) pa_nil))) (pg_name (i := 2) sc_reach.nd rfl (.inl rfl))
   (pss_cons (ps_if (pt_cmpR op_gt (pv 2) (pe_op op_add (pv 1) pe_int) (nomark _)) (pss_one ps_break) pss_nil)
  (pss_one (ps_aug (i := 1) sc_reach.nd rfl (.inl rfl) (pv 2) ip_add))))
  (pss_one (ps_ret (pv 1))))))), ?_⟩
    refine ⟨.ref a, rfl, a, ns, rfl, hT, g, fun H1 s1 => ?_⟩
    refine ⟨.ref a, rfl, a, ns, rfl, sT s1 hT, fun ns' p pm so np => ?_⟩
    have e' := Rch.isort_of pm so
    subst e'
    have s2 : Same H (upd H1 p (.lst ((Rch.isort ns).map V.int))) := s1.trans (same_upd np)
    refine ⟨p, rfl, ⟨_, SqL.of upd_same⟩, for_list (K := K) (xs := (Rch.isort ns).map V.int)
      (fun i σ H' => ∃ y T, σ = [some (.ref a), some (.int T), y] ∧ H' = upd H1 p (.lst ((Rch.isort ns).map V.int)) ∧ Rch.greedy T ((Rch.isort ns).drop i) = Rch.reachOf ns)
      ⟨_, _, rfl, rfl, rfl⟩ (fun i σ H' _ h => ?_) (fun i x σ H' hx h => ?_) (fun σ H' h => ?_)⟩
    · obtain ⟨_, _, _, rfl, _⟩ := h
      exact SqL.of upd_same
    · obtain ⟨y, T, rfl, rfl, eg⟩ := h
      rw [List.getElem?_map] at hx
      obtain ⟨l, hl, rfl⟩ := Option.map_eq_some_iff.mp hx
      obtain ⟨hi, ei⟩ := List.getElem?_eq_some_iff.mp hl
      rw [List.drop_eq_getElem_cons hi, ei] at eg
      unfold Rch.greedy at eg
      refine ⟨_, rfl, _, rfl, _, _, rfl, rfl, _, _, rfl, rfl, _, rfl, ite2 (fun h1 => ?_) (fun h1 => ?_)⟩
      · rw [if_pos (of_decide_eq_true h1)] at eg
        refine ⟨_, rfl, ?_⟩
        rw [eg]
        exact q _ s2
      · rw [if_neg (fun z => h1 (decide_eq_true z))] at eg
        refine ⟨_, rfl, _, rfl, _, _, rfl, rfl, ?_⟩
        exact ⟨_, _, rfl, rfl, eg⟩
    · obtain ⟨y, T, rfl, rfl, eg⟩ := h
      rw [List.length_map, List.drop_length] at eg
      refine ⟨_, rfl, ?_⟩
      have eg' : T = Rch.reachOf ns := eg
      rw [eg']
      exact q _ s2
end

/-! ### drawn loops -/
section
variable {P : Program} {w : World} {K : PySem.W.Frag} {mg : Str → Option Value} {base : Heap}
def In40 (ns : List Int) : Prop := ∀ n ∈ ns, 1 ≤ n ∧ n ≤ 40
theorem In40.snoc {ns : List Int} {x : Int} (h : In40 ns) (h1 : 1 ≤ x) (h2 : x ≤ 40) : In40 (ns ++ [x]) := fun n hn => by
  rcases List.mem_append.mp hn with hn | hn
  · exact h n hn
  · rw [List.mem_singleton.mp hn]
    exact ⟨h1, h2⟩
theorem erase_map (l : List Int) (j : Nat) : (l.map V.int).eraseIdx j = (l.eraseIdx j).map V.int := by
  induction l generalizing j with
  | nil => rfl
  | cons x l ih =>
    cases j with
    | zero => rfl
    | succ j => exact congrArg (V.int x :: ·) (ih j)
theorem seqIx {n j : Nat} (h : j < n) : seqIndex? (j : Int) n = some j := by
  unfold seqIndex?
  simp
  omega
theorem getD_mem {ns : List Int} {j : Nat} (h : j < ns.length) : ns[j]? = some ns[j] := List.getElem?_eq_getElem h
theorem eraseIdx_snoc {ns : List Int} {j : Nat} (h : In40 ns) : In40 (ns.eraseIdx j) := fun n hn => h n (List.mem_of_mem_eraseIdx hn)
/-- what a draw hands back: a new tuple of loops -/
def spDoubled (K : PySem.W.Frag) : Sp := fun vs H Q _ => ∃ (t s : Addr) (m : Int), vs = [.ref t, .int m] ∧ Tape H t s ∧ ∀ a ns H', Rch.Good ns → a ≠ t → H a = none → Moved t H H' → Tape H' t s → H' a = some (.tup (ns.map V.int)) → Q (.ref a) H'
theorem ok__law_doubled (T : Tx K mg) : FnOk P w K mg base CX0 2 T.a__law_doubled T.d__law_doubled ["tape", "most"] (spDoubled K) := by
  refine T.F__law_doubled.ok sc__law_doubled (fun vs H Q E h => ?_) (fun cdv A outer s H vs Q E hr h => ?_)
  · obtain ⟨t, sc, m, rfl, _⟩ := h
    rfl
  · obtain ⟨t, sc, m, rfl, tp, q⟩ := h
    refine ⟨_, ((pss_cons (ps_set (i := 2) sc__law_doubled.nd rfl (.inl rfl) (pe_lst (pa_cons pe_int pa_nil)))
  (pss_cons (ps_for PassesOwn.never rfl (pi_range1 (by rfl) T.m_range (pa_cons (pe_call (ok__law_pick T) (hr.mono (by decide)) (by rfl) T.g__law_pick T.F__law_pick.kp T.b__law_pick .nil pass0 (pa_cons (pv 0) (pa_cons pe_int pa_nil))) pa_nil)) (pg_name (i := 3) sc__law_doubled.nd rfl (.inl rfl))
   (pss_cons (ps_set (i := 4) sc__law_doubled.nd rfl (.inl rfl) (pe_op op_add pe_int (pe_call (ok__law_pick T) (hr.mono (by decide)) (by rfl) T.g__law_pick T.F__law_pick.kp T.b__law_pick .nil pass0 (pa_cons (pv 0) (pa_cons (pe_op op_mul pe_int (pe_callB (cr_max rfl) (by rfl) T.m_max (by decide +kernel) (pa_cons (pv 2) pa_nil))) pa_nil)))))
  (pss_one (ps_if (PW.pt (pw_and (pt_cmpR op_ge (pv 4) (pe_callB (cr_max rfl) (by rfl) T.m_max (by decide +kernel) (pa_cons (pv 2) pa_nil)) (nomark _)) (pw_and (pt_cmpR op_le (pe_op op_add (pe_callB (cr_sum rfl) (by rfl) T.m_sum (by decide +kernel) (pa_cons (pv 2) pa_nil)) (pv 4)) (pv 1) (nomark _)) (pw_and1 (pt_cmpR op_le (pv 4) pe_int (nomark _)))))) (pss_one (ps_expr (pe_bm PySem.F.plainAttrs_list PySem.F.slot_list_append PySem.F.type_list_append mt_append (pv 2) (pa_cons (pv 4) pa_nil)))) pss_nil))))
  (pss_cons (ps_set (i := 5) sc__law_doubled.nd rfl (.inl rfl) (pe_lst pa_nil))
  (pss_cons (ps_for PassesOwn.never rfl (pi_range1 (by rfl) T.m_range (pa_cons (pe_callB call_len_seq (by rfl) T.m_len PySem.boot_len (pa_cons (pv 2) pa_nil)) pa_nil)) (pg_name (i := 3) sc__law_doubled.nd rfl (.inl rfl))
   (pss_one (ps_expr (pe_bm PySem.F.plainAttrs_list PySem.F.slot_list_append PySem.F.type_list_append mt_append (pv 5) (pa_cons (pe_bm PySem.F.plainAttrs_list PySem.F.slot_list_pop PySem.F.type_list_pop mt_popAt (pv 2) (pa_cons (pe_call (ok__law_pick T) (hr.mono (by decide)) (by rfl) T.g__law_pick T.F__law_pick.kp T.b__law_pick .nil pass0 (pa_cons (pv 0) (pa_cons (pe_callB call_len_seq (by rfl) T.m_len PySem.boot_len (pa_cons (pv 2) pa_nil)) pa_nil))) pa_nil)) pa_nil)))))
  (pss_one (ps_ret (pe_callTy call_tuple_of (by rfl) T.m_tuple (by decide +kernel) (pa_cons (pv 5) pa_nil))))))))), ?_⟩
    -- row = [1]
    refine ⟨by show 1 ≤ sizeLine; decide, fun r nr => ?_⟩
    have hrt : r ≠ t := tp.ne nr
    have hrs : r ≠ sc := tp.ne2 nr
    have tp0 : Tape (upd H r (.lst [.int 1])) t sc := tp.keep (same_upd nr)
    have mv0 : Moved t H (upd H r (.lst [.int 1])) := Moved.same (same_upd nr)
    -- range(pick(tape, 8))
    refine ⟨.ref t, rfl, t, sc, 8, rfl, ⟨by decide, by decide⟩, tp0, fun k H1 hk0 hk8 mv1 tp1 => ?_⟩
    have e1 : H1 r = some (.lst ([1].map V.int)) := mv1 r _ hrt upd_same
    refine ⟨k, rfl, by omega, by omega, for_range (lo := 0) (n := k.toNat)
      (fun i σ H' => ∃ y3 y4 y5 row, σ = [some (.ref t), some (.int m), some (.ref r), y3, y4, y5] ∧ H' r = some (.lst (row.map V.int)) ∧ In40 row ∧ 1 ≤ row.length ∧ row.length ≤ 1 + i ∧ (∀ b o, b ≠ t → b ≠ r → H b = some o → H' b = some o) ∧ Tape H' t sc)
      ⟨_, _, _, [1], rfl, e1, fun n hn => by rw [List.mem_singleton.mp hn]; decide, Nat.le_refl _, Nat.le_refl _, fun b o n1 n2 e => mv1 b o n1 (mv0 b o n1 e), tp1⟩ (fun i σ H' hi h => ?_) (fun σ H' h => ?_)⟩
    · obtain ⟨y3, y4, y5, row, rfl, er, i4, l1, l2, kp, tp'⟩ := h
      -- length = 1 + pick(tape, 2 * max(row))
      refine ⟨.ref t, rfl, .ref r, rfl, r, row, rfl, SqL.of er, by omega, fun mx hm _ => ?_⟩
      have bm := i4 mx hm
      refine ⟨2, mx, rfl, rfl, .inl ⟨by decide, by decide⟩, t, sc, 2 * mx, rfl, ⟨by omega, by omega⟩, tp', fun d H2 hd0 hd1 mv2 tp2 => ?_⟩
      have er2 : H2 r = some (.lst (row.map V.int)) := mv2 r _ hrt er
      have kp2 : ∀ b o, b ≠ t → b ≠ r → H b = some o → H2 b = some o := fun b o n1 n2 e => mv2 b o n1 (kp b o n1 n2 e)
      refine ⟨1, d, rfl, rfl, ?_⟩
      -- if ..
      refine ⟨_, rfl, .ref r, rfl, r, row, rfl, SqL.of er2, by omega, fun m2 _ _ => ⟨_, _, rfl, rfl, _, rfl, ite2 (fun c1 => ?_) (fun c1 => ?_)⟩⟩
      · refine ⟨.ref r, rfl, r, row, rfl, SqL.of er2, _, rfl, _, _, rfl, rfl, _, rfl, _, _, rfl, rfl, _, rfl, ite2 (fun c2 => ?_) (fun c2 => ?_)⟩
        · refine ⟨_, rfl, _, _, rfl, rfl, _, rfl, ?_⟩
          by_cases c3 : 1 + d ≤ 40
          · rw [decide_eq_true c3]
            refine ⟨.ref r, rfl, .inl ⟨rfl, _, SqL.of er2⟩, _, rfl, r, _, _, rfl, rfl, er2, ?_, ?_⟩
            · rw [List.length_map]
              exact small1000 (by omega)
            · refine ⟨_, _, _, row ++ [1 + d], rfl, ?_, i4.snoc (by omega) c3, ?_, ?_, fun b o n1 n2 e => ?_, tp2.but hrt hrs⟩
              · rw [upd_same, List.map_append]
                rfl
              · rw [List.length_append]
                omega
              · rw [List.length_append]
                show row.length + 1 ≤ _
                omega
              · rw [upd_ne n2]
                exact kp2 b o n1 n2 e
          · rw [decide_eq_false c3]
            exact ⟨_, _, _, row, rfl, er2, i4, l1, by omega, kp2, tp2⟩
        · exact ⟨_, _, _, row, rfl, er2, i4, l1, by omega, kp2, tp2⟩
      · exact ⟨_, _, _, row, rfl, er2, i4, l1, by omega, kp2, tp2⟩
    · obtain ⟨y3, y4, y5, row, rfl, er, i4, l1, l2, kp, tp'⟩ := h
      have l8 : row.length ≤ 8 := by omega
      -- found = []
      refine ⟨Nat.zero_le _, fun f nf => ?_⟩
      have hfr : f ≠ r := fun e => by
        rw [e, er] at nf
        cases nf
      have hft : f ≠ t := tp'.ne nf
      have hfs : f ≠ sc := tp'.ne2 nf
      have er1 : (upd H' f (.lst [])) r = some (.lst (row.map V.int)) := by
        rw [upd_ne hfr.symm]
        exact er
      -- range(len(row))
      refine ⟨.ref r, rfl, r, _, rfl, .inl (SqL.of er1), _, rfl, by omega, by rw [List.length_map]; omega, for_range (lo := 0) (n := (((row.map V.int).length : Nat) : Int).toNat)
        (fun i σ H' => ∃ y3 y4 row' fs, σ = [some (.ref t), some (.int m), some (.ref r), y3, y4, some (.ref f)] ∧ H' r = some (.lst (row'.map V.int)) ∧ H' f = some (.lst (fs.map V.int)) ∧ In40 row' ∧ In40 fs ∧ fs.length = i ∧ row'.length + i = row.length ∧ (∀ b o, b ≠ t → b ≠ r → b ≠ f → H b = some o → H' b = some o) ∧ Tape H' t sc)
        ⟨_, _, row, [], rfl, er1, upd_same, i4, fun _ h => by simp at h, rfl, rfl, fun b o n1 n2 n3 e => ?_, tp'.keep (same_upd nf)⟩ (fun i σ H2 hi h => ?_) (fun σ H2 h => ?_)⟩
      · rw [upd_ne n3]
        exact kp b o n1 n2 e
      · obtain ⟨y3, y4, row', fs, rfl, e1, e2, i1, i2, z1, z2, kp2, tp2⟩ := h
        rw [Int.toNat_natCast, List.length_map] at hi
        have hpos : 0 < row'.length := by omega
        -- found.append(row.pop(pick(tape, len(row))))
        refine ⟨.ref f, rfl, .inl ⟨rfl, _, SqL.of e2⟩, .ref r, rfl, .inl ⟨rfl, _, SqL.of e1⟩, .ref t, rfl, .ref r, rfl, r, _, rfl, .inl (SqL.of e1), t, sc, _, rfl, ⟨?_, ?_⟩, tp2, fun k H3 hk0 hk1 mv3 tp3 => ?_⟩
        · rw [List.length_map]
          omega
        · rw [List.length_map]
          omega
        · rw [List.length_map] at hk1
          have e3 : H3 r = some (.lst (row'.map V.int)) := mv3 r _ hrt e1
          have e4 : H3 f = some (.lst (fs.map V.int)) := mv3 f _ hft e2
          obtain ⟨j, rfl⟩ : ∃ j : Nat, k = (j : Int) := ⟨k.toNat, by omega⟩
          have hj : j < row'.length := by omega
          have gj : (row'.map V.int)[j]? = some (.int row'[j]) := by
            rw [List.getElem?_map, List.getElem?_eq_getElem hj]
            rfl
          refine ⟨r, _, (j : Int), j, _, rfl, rfl, e3, by omega, by omega, ?_, gj, ?_⟩
          · rw [List.length_map]
            exact seqIx hj
          have e5 : (upd H3 r (.lst ((row'.map V.int).eraseIdx j))) f = some (.lst (fs.map V.int)) := by
            rw [upd_ne hfr]
            exact e4
          refine ⟨f, _, _, rfl, rfl, e5, ?_, ?_⟩
          · rw [List.length_map]
            exact small1000 (by omega)
          · refine ⟨_, _, row'.eraseIdx j, fs ++ [row'[j]], rfl, ?_, ?_, fun n hn => i1 n (List.mem_of_mem_eraseIdx hn), i2.snoc (i1 _ (List.getElem_mem hj)).1 (i1 _ (List.getElem_mem hj)).2, ?_, ?_, fun b o n1 n2 n3 e => ?_, ?_⟩
            · rw [upd_ne hfr.symm, upd_same, erase_map]
            · rw [upd_same, List.map_append]
              rfl
            · rw [List.length_append, z1]
              rfl
            · rw [List.length_eraseIdx_of_lt hj]
              omega
            · rw [upd_ne n3, upd_ne n2]
              exact mv3 b o n1 (kp2 b o n1 n2 n3 e)
            · exact (tp3.but hrt hrs).but hft hfs
      · obtain ⟨y3, y4, row', fs, rfl, e1, e2, i1, i2, z1, z2, kp2, tp2⟩ := h
        rw [Int.toNat_natCast, List.length_map] at z1
        -- return tuple(found)
        refine ⟨.ref f, rfl, f, _, rfl, .inl ⟨SqL.of e2, fun p np => ?_⟩⟩
        have hpt : p ≠ t := tp2.ne np
        have hpr : p ≠ r := fun e => by
          rw [e, e1] at np
          cases np
        have hpf : p ≠ f := fun e => by
          rw [e, e2] at np
          cases np
        have hHp : H p = none := by
          cases z : H p with
          | none => rfl
          | some o =>
            rw [kp2 p o hpt hpr hpf z] at np
            cases np
        refine q p fs _ ⟨by omega, by omega, i2⟩ hpt hHp (fun b o n1 e => ?_) (tp2.keep (same_upd np)) upd_same
        have nb1 : b ≠ p := ne_of_none e hHp
        have nb2 : b ≠ r := ne_of_none e nr
        have nb3 : b ≠ f := fun z => by
          subst z
          rw [kp b o n1 nb2 e] at nf
          cases nf
        rw [upd_ne nb1]
        exact kp2 b o n1 nb2 nb3 e
end

theorem good_set {ns : List Int} {j : Nat} {x : Int} (g : Rch.Good ns) (h1 : 1 ≤ x) (h2 : x ≤ 40) : Rch.Good (ns.set j x) := ⟨by rw [List.length_set]; exact g.1, by rw [List.length_set]; exact g.2.1, fun n hn => by
  rcases List.mem_or_eq_of_mem_set hn with hn | hn
  · exact g.2.2 n hn
  · rw [hn]
    exact ⟨h1, h2⟩⟩
theorem good_rev {ns : List Int} (g : Rch.Good ns) : Rch.Good ns.reverse := g.perm (List.reverse_perm ns)
theorem ixN_nat {n : Nat} {p : Int} (h0 : 0 ≤ p) (h1 : p < (n : Int)) : ixN n p = some p.toNat := by
  unfold ixN
  rw [if_pos h0, if_pos h1]
section
variable {P : Program} {w : World} {K : PySem.W.Frag} {mg : Str → Option Value} {base : Heap}
def spDrawn (K : PySem.W.Frag) : Sp := fun vs H Q _ => ∃ (t s : Addr), vs = [.ref t] ∧ Tape H t s ∧ ∀ a ns H', Rch.Good ns → a ≠ t → H a = none → Moved t H H' → Tape H' t s → H' a = some (.tup (ns.map V.int)) → Q (.ref a) H'
theorem ok__law_drawn (T : Tx K mg) : FnOk P w K mg base CX0 3 T.a__law_drawn T.d__law_drawn ["tape"] (spDrawn K) := by
  refine T.F__law_drawn.ok sc__law_drawn (fun vs H Q E h => ?_) (fun cdv A outer s H vs Q E hr h => ?_)
  · obtain ⟨t, sc, rfl, _⟩ := h
    rfl
  · obtain ⟨t, sc, rfl, tp, q⟩ := h
    refine ⟨_, ((pss_cons (ps_set (i := 1) sc__law_drawn.nd rfl (.inl rfl) (pe_callTy call_list_of (by rfl) T.m_list (by decide +kernel) (pa_cons (pe_call (ok__law_doubled T) (hr.mono (by decide)) (by rfl) T.g__law_doubled T.F__law_doubled.kp T.b__law_doubled .nil pass0 (pa_cons (pv 0) (pa_cons pe_int pa_nil))) pa_nil)))
  (pss_cons (ps_for PassesOwn.never rfl (pi_range1 (by rfl) T.m_range (pa_cons (pe_call (ok__law_pick T) (hr.mono (by decide)) (by rfl) T.g__law_pick T.F__law_pick.kp T.b__law_pick .nil pass0 (pa_cons (pv 0) (pa_cons pe_int pa_nil))) pa_nil)) (pg_name (i := 2) sc__law_drawn.nd rfl (.inl rfl))
   (pss_one (ps_asg (pe_op op_add pe_int (pe_call (ok__law_pick T) (hr.mono (by decide)) (by rfl) T.g__law_pick T.F__law_pick.kp T.b__law_pick .nil pass0 (pa_cons (pv 0) (pa_cons (pe_ix ix_list (pe_lst (pa_cons pe_int (pa_cons pe_int (pa_cons pe_int pa_nil)))) (pe_call (ok__law_pick T) (hr.mono (by decide)) (by rfl) T.g__law_pick T.F__law_pick.kp T.b__law_pick .nil pass0 (pa_cons (pv 0) (pa_cons pe_int pa_nil))) (fun _ _ => rfl)) pa_nil)))) (pg_sub (pv 1) (pe_call (ok__law_pick T) (hr.mono (by decide)) (by rfl) T.g__law_pick T.F__law_pick.kp T.b__law_pick .nil pass0 (pa_cons (pv 0) (pa_cons (pe_callB call_len_seq (by rfl) T.m_len PySem.boot_len (pa_cons (pv 1) pa_nil)) pa_nil))) set_list))))
  (pss_one (ps_ret (pe_callTy call_tuple_of (by rfl) T.m_tuple (by decide +kernel) (pa_cons (pv 1) pa_nil))))))), ?_⟩
    -- the doubled ones
    refine ⟨.ref t, rfl, t, sc, 200, rfl, tp, fun a ns H1 g hat ha mv1 tp1 ea => ?_⟩
    refine ⟨a, _, rfl, .inr (SqT.of ea), fun L nL => ?_⟩
    have hLt : L ≠ t := tp1.ne nL
    have hLs : L ≠ sc := tp1.ne2 nL
    have tp2 := tp1.keep (same_upd (o := .lst (ns.map V.int)) nL)
    refine ⟨.ref t, rfl, t, sc, 4, rfl, ⟨by decide, by decide⟩, tp2, fun k H2 hk0 hk4 mv2 tp3 => ?_⟩
    have e2 : H2 L = some (.lst (ns.map V.int)) := mv2 L _ hLt upd_same
    refine ⟨k, rfl, by omega, by omega, for_range (lo := 0) (n := k.toNat)
      (fun i σ H' => ∃ y2 row, σ = [some (.ref t), some (.ref L), y2] ∧ H' L = some (.lst (row.map V.int)) ∧ Rch.Good row ∧ (∀ b o, b ≠ t → b ≠ L → H b = some o → H' b = some o) ∧ Tape H' t sc)
      ⟨_, ns, rfl, e2, g, fun b o n1 n2 e => mv2 b o n1 (by rw [upd_ne n2]; exact mv1 b o n1 e), tp3⟩ (fun i σ H' hi h => ?_) (fun σ H' h => ?_)⟩
    · obtain ⟨y2, row, rfl, er, gr, kp, tp'⟩ := h
      refine ⟨.ref t, rfl, by show 3 ≤ sizeLine; decide, fun c nc => ?_⟩
      have hct : c ≠ t := tp'.ne nc
      have hLc : L ≠ c := ne_of_none er nc
      have tpc := tp'.keep (same_upd (o := .lst [.int 3, .int 10, .int 40]) nc)
      refine ⟨.ref t, rfl, t, sc, 3, rfl, ⟨by decide, by decide⟩, tpc, fun j H3 hj0 hj3 mv3 tp4 => ?_⟩
      have ec : H3 c = some (.lst [.int 3, .int 10, .int 40]) := mv3 c _ hct upd_same
      obtain ⟨m, hm, gm⟩ : ∃ m : Int, (1 ≤ m ∧ m ≤ 40) ∧ atI [V.int 3, .int 10, .int 40] j = some (.int m) := by
        rcases (by omega : j = 0 ∨ j = 1 ∨ j = 2) with e | e | e <;> subst e
        · exact ⟨3, by decide, rfl⟩
        · exact ⟨10, by decide, rfl⟩
        · exact ⟨40, by decide, rfl⟩
      refine ⟨c, _, j, _, rfl, rfl, SqL.of ec, gm, t, sc, m, rfl, ⟨by omega, by omega⟩, tp4, fun d H4 hd0 hd1 mv4 tp5 => ?_⟩
      have eL4 : H4 L = some (.lst (row.map V.int)) := mv4 L _ hLt (mv3 L _ hLt (by rw [upd_ne hLc]; exact er))
      refine ⟨1, d, rfl, rfl, .ref L, rfl, .ref t, rfl, .ref L, rfl, L, _, rfl, .inl (SqL.of eL4), t, sc, _, rfl, ⟨?_, ?_⟩, tp5, fun p H5 hp0 hp1 mv5 tp6 => ?_⟩
      · rw [List.length_map]
        have := gr.1
        omega
      · rw [List.length_map]
        have := gr.2.1
        omega
      · rw [List.length_map] at hp1
        have eL5 : H5 L = some (.lst (row.map V.int)) := mv5 L _ hLt eL4
        refine ⟨L, _, p, p.toNat, rfl, rfl, eL5, ?_, ?_⟩
        · rw [List.length_map]
          exact ixN_nat hp0 hp1
        · refine ⟨_, row.set p.toNat (1 + d), rfl, ?_, good_set gr (by omega) (by omega), fun b o n1 n2 e => ?_, tp6.but hLt hLs⟩
          · rw [upd_same, List.map_set]
          · rw [upd_ne n2]
            have eb := kp b o n1 n2 e
            exact mv5 b o n1 (mv4 b o n1 (mv3 b o n1 (by rw [upd_ne (ne_of_none eb nc)]; exact eb)))
    · obtain ⟨y2, row, rfl, er, gr, kp, tp'⟩ := h
      refine ⟨.ref L, rfl, L, _, rfl, .inl ⟨SqL.of er, fun p np => ?_⟩⟩
      have hpt : p ≠ t := tp'.ne np
      have hpL : p ≠ L := fun e => by
        rw [e, er] at np
        cases np
      have hHp : H p = none := by
        cases z : H p with
        | none => rfl
        | some o =>
          rw [kp p o hpt hpL z] at np
          cases np
      refine q p row _ gr hpt hHp (fun b o n1 e => ?_) (tp'.keep (same_upd np)) upd_same
      rw [upd_ne (ne_of_none e hHp)]
      exact kp b o n1 (ne_of_none (mv1 b o n1 e) nL) e
end

/-! ### the law's own defs -/
section
variable {P : Program} {w : World} {K : PySem.W.Frag} {mg : Str → Option Value} {base : Heap}
theorem ok__law_reach (T : Tx K mg) : FnOk P w K mg base CX0 1 T.a__law_reach T.d__law_reach ["loops"] (spReach K) := by
  refine T.F__law_reach.ok sc__law_reach (fun vs H Q E h => ?_) (fun cdv A outer s H vs Q E hr h => ?_)
  · obtain ⟨a, ns, rfl, _⟩ := h
    rfl
  · obtain ⟨a, ns, rfl, hT, g, q⟩ := h
    refine ⟨_, ((pss_cons (ps_set (i := 1) sc__law_reach.nd rfl (.inl rfl) pe_int)
  (pss_cons (ps_for PassesOwn.never rfl (pi_list (pe_callB cr_sortedI (by rfl) T.m_sorted (by decide +kernel) (pa_cons (pe_callTy call_list_of (by rfl) T.m_list (by decide +kernel) (pa_cons (pv 0) pa_nil)) pa_nil))) (pg_name (i := 2) sc__law_reach.nd rfl (.inl rfl))
   (pss_cons (ps_if (pt_cmpR op_gt (pv 2) (pe_op op_add (pv 1) pe_int) (nomark _)) (pss_one (ps_ret (pv 1))) pss_nil)
  (pss_one (ps_set (i := 1) sc__law_reach.nd rfl (.inl rfl) (pe_op op_add (pv 1) (pv 2))))))
  (pss_one (ps_ret (pv 1)))))), ?_⟩
    refine ⟨.ref a, rfl, a, _, rfl, .inr hT, fun L nL => ?_⟩
    have s1 : Same H (upd H L (.lst (ns.map V.int))) := same_upd nL
    refine ⟨L, ns, rfl, SqL.of upd_same, fun ns' p pm so np => ?_⟩
    have e' := Rch.isort_of pm so
    subst e'
    have s2 : Same H (upd (upd H L (.lst (ns.map V.int))) p (.lst ((Rch.isort ns).map V.int))) := s1.trans (same_upd np)
    refine ⟨p, rfl, ⟨_, SqL.of upd_same⟩, for_list (K := K) (xs := (Rch.isort ns).map V.int)
      (fun i σ H' => ∃ y T, σ = [some (.ref a), some (.int T), y] ∧ H' = upd (upd H L (.lst (ns.map V.int))) p (.lst ((Rch.isort ns).map V.int)) ∧ Rch.greedy T ((Rch.isort ns).drop i) = Rch.reachOf ns)
      ⟨_, _, rfl, rfl, rfl⟩ (fun i σ H' _ h => ?_) (fun i x σ H' hx h => ?_) (fun σ H' h => ?_)⟩
    · obtain ⟨_, _, _, rfl, _⟩ := h
      exact SqL.of upd_same
    · obtain ⟨y, T, rfl, rfl, eg⟩ := h
      rw [List.getElem?_map] at hx
      obtain ⟨l, hl, rfl⟩ := Option.map_eq_some_iff.mp hx
      obtain ⟨hi, ei⟩ := List.getElem?_eq_some_iff.mp hl
      rw [List.drop_eq_getElem_cons hi, ei] at eg
      unfold Rch.greedy at eg
      refine ⟨_, rfl, _, rfl, _, _, rfl, rfl, _, _, rfl, rfl, _, rfl, ite2 (fun h1 => ?_) (fun h1 => ?_)⟩
      · rw [if_pos (of_decide_eq_true h1)] at eg
        refine ⟨_, rfl, ?_⟩
        rw [eg]
        exact q _ s2
      · rw [if_neg (fun z => h1 (decide_eq_true z))] at eg
        refine ⟨_, rfl, _, rfl, _, _, rfl, rfl, ?_⟩
        exact ⟨_, _, rfl, rfl, eg⟩
    · obtain ⟨y, T, rfl, rfl, eg⟩ := h
      rw [List.length_map, List.drop_length] at eg
      refine ⟨_, rfl, ?_⟩
      have eg' : T = Rch.reachOf ns := eg
      rw [eg']
      exact q _ s2
def spSums (K : PySem.W.Frag) : Sp := fun vs H Q _ => ∃ (a : Addr) (ns : List Int), vs = [.ref a] ∧ SqT K H a (ns.map V.int) ∧ Rch.Good ns ∧ Q (.int (Rch.sumsF 1 ns : Nat)) H
theorem or_nat (a b : Nat) : Builtin.bitOr (a : Int) (b : Int) = ((a ||| b : Nat) : Int) := by
  rw [Bits.bitOr_pp (Int.natCast_nonneg _) (Int.natCast_nonneg _), Int.toNat_natCast, Int.toNat_natCast]
theorem two_pow (S j : Nat) : (2 : Int) * ((S * 2 ^ j : Nat) : Int) = ((S * 2 ^ (j + 1) : Nat) : Int) := by
  rw [Nat.pow_succ, ← Nat.mul_assoc]
  generalize S * 2 ^ j = m
  omega
theorem ok__law_sums (T : Tx K mg) : FnOk P w K mg base CX0 1 T.a__law_sums T.d__law_sums ["loops"] (spSums K) := by
  refine T.F__law_sums.ok sc__law_sums (fun vs H Q E h => ?_) (fun cdv A outer s H vs Q E hr h => ?_)
  · obtain ⟨a, ns, rfl, _⟩ := h
    rfl
  · obtain ⟨a, ns, rfl, hT, g, q⟩ := h
    refine ⟨_, ((pss_cons (ps_set (i := 1) sc__law_sums.nd rfl (.inl rfl) pe_int)
  (pss_cons (ps_for PassesOwn.never rfl (pi_tup (pv 0)) (pg_name (i := 2) sc__law_sums.nd rfl (.inl rfl))
   (pss_cons (ps_set (i := 3) sc__law_sums.nd rfl (.inl rfl) (pv 1))
  (pss_cons (ps_for PassesOwn.never rfl (pi_range1 (by rfl) T.m_range (pa_cons (pv 2) pa_nil)) (pg_name (i := 4) sc__law_sums.nd rfl (.inl rfl))
   (pss_one (ps_set (i := 3) sc__law_sums.nd rfl (.inl rfl) (pe_op op_mul pe_int (pv 3)))))
  (pss_one (ps_set (i := 1) sc__law_sums.nd rfl (.inl rfl) (pe_op op_or (pv 1) (pv 3)))))))
  (pss_one (ps_ret (pv 1)))))), ?_⟩
    refine ⟨.ref a, rfl, a, rfl, ⟨_, hT⟩, for_tup (K := K) (xs := ns.map V.int)
      (fun i σ H' => ∃ y2 y3 y4 S, σ = [some (.ref a), some (.int (S : Nat)), y2, y3, y4] ∧ H' = H ∧ Rch.sumsF S (ns.drop i) = Rch.sumsF 1 ns)
      ⟨_, _, _, 1, rfl, rfl, rfl⟩ (fun i σ H' _ h => ?_) (fun i x σ H' hx h => ?_) (fun σ H' h => ?_)⟩
    · obtain ⟨_, _, _, _, _, rfl, _⟩ := h
      exact hT
    · obtain ⟨y2, y3, y4, S, rfl, rfl, eg⟩ := h
      rw [List.getElem?_map] at hx
      obtain ⟨l, hl, rfl⟩ := Option.map_eq_some_iff.mp hx
      obtain ⟨hi, ei⟩ := List.getElem?_eq_some_iff.mp hl
      have bl := g.2.2 l (List.mem_of_getElem? hl)
      rw [List.drop_eq_getElem_cons hi, ei] at eg
      have eg2 : Rch.sumsF (S ||| S * 2 ^ l.toNat) (ns.drop (i + 1)) = Rch.sumsF 1 ns := eg
      refine ⟨_, rfl, .int l, rfl, l, rfl, by omega, by omega, for_range (lo := 0) (n := l.toNat)
        (fun j σ H2 => ∃ y4, σ = [some (.ref a), some (.int (S : Nat)), some (.int l), some (.int ((S * 2 ^ j : Nat) : Int)), y4] ∧ H2 = H')
        ⟨y4, by rw [Nat.pow_zero, Nat.mul_one]; rfl, rfl⟩ (fun j σ H2 hj h => ?_) (fun σ H2 h => ?_)⟩
      · obtain ⟨y4, rfl, rfl⟩ := h
        refine ⟨_, rfl, 2, _, rfl, rfl, .inl ⟨by decide, by decide⟩, ?_⟩
        exact ⟨_, by rw [← two_pow]; rfl, rfl⟩
      · obtain ⟨y4, rfl, rfl⟩ := h
        refine ⟨_, rfl, _, rfl, _, _, rfl, rfl, ?_⟩
        exact ⟨_, _, _, S ||| S * 2 ^ l.toNat, by rw [← or_nat]; rfl, rfl, eg2⟩
    · obtain ⟨y2, y3, y4, S, rfl, rfl, eg⟩ := h
      rw [List.length_map, List.drop_length] at eg
      refine ⟨_, rfl, ?_⟩
      have eg' : S = Rch.sumsF 1 ns := eg
      rw [eg']
      exact q
def twos (n : Nat) : List V := List.replicate n (V.int 2)
def dTwos (n : Nat) : PyData := .tuple (List.replicate n (.int 2))
theorem twos_all {H : Hp} : ∀ n, DpAll K H (List.replicate n (V.int 2)) (List.replicate n (PyData.int 2))
  | 0 => .nil
  | n + 1 => .cons (.int 2) (twos_all n)
theorem twos_dp {H : Hp} {a : Addr} {n : Nat} (h : SqT K H a (twos n)) : Dp K H (.ref a) (dTwos n) := .tup h (twos_all n)
theorem twos_lay : ∀ n, PyData.canLayAll0 (List.replicate n (PyData.int 2)) = true
  | 0 => by simp [PyData.canLayAll0]
  | n + 1 => by simp [List.replicate_succ, PyData.canLayAll0, PyData.canLay0, twos_lay n]
theorem twos_depth : ∀ n, PyData.depthAll (List.replicate n (PyData.int 2)) ≤ 1
  | 0 => by simp [PyData.depthAll]
  | n + 1 => by
    have := twos_depth n
    simp only [List.replicate_succ, PyData.depthAll, PyData.depth]
    omega
theorem twos_shaped (n : Nat) : SeqAt.shaped (dTwos n) = true := by
  have h1 := twos_depth n
  have h2 : (dTwos n).depth ≤ 64 := by
    unfold dTwos
    simp only [PyData.depth]
    omega
  show ((dTwos n).canLay0 && decide ((dTwos n).depth ≤ 64)) = true
  rw [Bool.and_eq_true]
  exact ⟨by unfold dTwos; simp only [PyData.canLay0]; exact twos_lay n, decide_eq_true h2⟩
theorem twos_eqv (n : Nat) : PyData.eqv (dTwos n) (dTwos n) = true := SeqAt.eqv_refl _ (SeqAt.canLay_of_shaped (twos_shaped n))
theorem flat_twos (n : Nat) : (List.replicate n [V.int 2]).flatten = twos n := by
  unfold twos
  induction n with
  | zero => rfl
  | succ n ih => rw [List.replicate_succ, List.flatten_cons, ih]; rfl
def rRep2 (K : PySem.W.Frag) : R2 := fun x y H Q => ∃ l k, x = .ref l ∧ y = .int k ∧ H l = some (.tup [.int 2]) ∧ 1 ≤ k ∧ k ≤ 1000 ∧ ∀ p H', Same H H' → H' p = some (.tup (twos k.toNat)) → Q (.ref p) H'
theorem op_rep2 {X : Cx} : OpR X (binaryOp .Mult) (rRep2 X.K) := by
  intro pins s σ H x y v u Q I rx ry h
  obtain ⟨l, k, rfl, rfl, el, h1, h2, q⟩ := h
  refine RR.op_repA pins s σ H _ _ v u Q I rx ry ⟨l, k, _, rfl, rfl, SqT.of el, by simp, h1, h2, by show 1 ≤ 1000; decide, fun e => ?_, fun e p np => ?_⟩
  · refine q l H (fun _ _ h => h) ?_
    rw [el, e]
    rfl
  · refine q p _ (same_upd np) ?_
    rw [upd_same, flat_twos]
def spFlood (K : PySem.W.Frag) : Sp := fun vs H Q _ => ∃ (a : Addr) (ns : List Int), vs = [.ref a] ∧ SqT K H a (ns.map V.int) ∧ Rch.Good ns ∧ ∀ p H', Same H H' → H' p = some (.tup (twos (Rch.reachOf ns + 1).toNat)) → Q (.ref p) H'
theorem ok_flood (T : Tx K mg) : FnOk P w K mg base CX0 7 T.a_flood T.d_flood ["loops"] (spFlood K) := by
  refine T.F_flood.ok sc_flood (fun vs H Q E h => ?_) (fun cdv A outer s H vs Q E hr h => ?_)
  · obtain ⟨a, ns, rfl, _⟩ := h
    rfl
  · obtain ⟨a, ns, rfl, hT, g, q⟩ := h
    have bd := Rch.reach_bd g
    refine ⟨_, ((pss_one (ps_ret (pe_op op_rep2 (pe_tup (pa_cons pe_int pa_nil)) (pe_op op_add (pe_call (ok_reach T) (hr.mono (by decide)) (by rfl) T.g_reach T.F_reach.kp T.b_reach .nil pass0 (pa_cons (pv 0) pa_nil)) pe_int))))), ?_⟩
    refine ⟨by show 1 ≤ sizeLine; decide, fun c nc => ?_⟩
    have s1 : Same H (upd H c (.tup [.int 2])) := same_upd nc
    refine ⟨.ref a, rfl, a, ns, rfl, sT s1 hT, g, fun H' sm => ?_⟩
    have ec : H' c = some (.tup [.int 2]) := sm _ _ upd_same
    exact ⟨_, _, rfl, rfl, c, _, rfl, rfl, ec, by omega, by omega, fun p H2 s2 ep => q p H2 ((s1.trans sm).trans s2) ep⟩
def spLaw (K : PySem.W.Frag) : Sp := fun vs H Q _ => ∃ (a : Addr) (ns : List Int), vs = [.ref a] ∧ SqL K H a (ns.map V.int) ∧ ns.length ≤ 63 ∧ ∀ H', Q (.bl true) H'
def lawLevel : Nat := 8
theorem sh_div {i n : Int} (h0 : 0 ≤ n) (h1 : n ≤ 400) : CDivW i (1 * 2 ^ n.toNat) := wide_div (b := 401) (by rw [Int.one_mul]; exact Int.pow_pos (by decide)) (by
  rw [Int.one_mul, Int.natAbs_pow]
  exact Nat.pow_lt_pow_right (by decide) (by omega)) (by decide) (by decide)
theorem iteNE {b : Bool} {A B : Prop} (hb : b = true) (h : B) : if (!b) = true then A else B := by
  subst hb
  exact iteF h
theorem ne_no {a b : Int} (h : a = b) : V.bl (!decide (V.int a = V.int b)) = V.bl false := by
  subst h
  rw [decide_eq_true rfl]
  rfl
theorem bit_in {ns : List Int} (g : Rch.Good ns) {n : Int} (h0 : 0 ≤ n) (h1 : n ≤ Rch.reachOf ns) : (((Rch.sumsF 1 ns : Nat) : Int) / (1 * 2 ^ n.toNat)).fmod 2 = 1 := by
  have e : ((n.toNat : Nat) : Int) = n := by omega
  have b := Rch.bit_of (Rch.sumsF 1 ns) n.toNat
  rw [Int.toNat_natCast] at b
  rw [b, if_pos]
  rw [Rch.sums_is g, e]
  exact (Rch.reach_is g).1 n h0 h1
theorem bit_out {ns : List Int} (g : Rch.Good ns) : (((Rch.sumsF 1 ns : Nat) : Int) / (1 * 2 ^ (Rch.reachOf ns + 1).toNat)).fmod 2 = 0 := by
  have bd := Rch.reach_bd g
  have e : (((Rch.reachOf ns + 1).toNat : Nat) : Int) = Rch.reachOf ns + 1 := by omega
  have b := Rch.bit_of (Rch.sumsF 1 ns) (Rch.reachOf ns + 1).toNat
  rw [Int.toNat_natCast] at b
  rw [b, if_neg]
  rw [Rch.sums_is g, e]
  exact (Rch.reach_is g).2
theorem good2 : Rch.Good [2] := ⟨by decide, by decide, fun n h => by
  rw [List.mem_singleton.mp h]
  decide⟩
theorem good113 : Rch.Good [1, 1, 3] := ⟨by decide, by decide, by decide⟩
theorem ok_law (T : Tx K mg) : FnOk P w K mg base CX0 8 T.a_law T.d_law ["script"] (spLaw K) := by
  refine T.F_law.ok sc_law (fun vs H Q E h => ?_) (fun cdv A outer s H vs Q E hr h => ?_)
  · obtain ⟨a, ns, rfl, _⟩ := h
    rfl
  · obtain ⟨a, ns0, rfl, hS, hlen, q⟩ := h
    refine ⟨_, ((pss_cons (ps_set (i := 1) sc_law.nd rfl (.inl rfl) (pe_call (ok__law_tape T) (hr.mono (by decide)) (by rfl) T.g__law_tape T.F__law_tape.kp T.b__law_tape .nil pass0 (pa_cons (pv 0) pa_nil)))
  (pss_cons (ps_for PassesOwn.never rfl (pi_range1 (by rfl) T.m_range (pa_cons pe_int pa_nil)) (pg_name (i := 2) sc_law.nd rfl (.inl rfl))
   (pss_cons (ps_set (i := 3) sc_law.nd rfl (.inl rfl) (pe_call (ok__law_drawn T) (hr.mono (by decide)) (by rfl) T.g__law_drawn T.F__law_drawn.kp T.b__law_drawn .nil pass0 (pa_cons (pv 1) pa_nil)))
  (pss_cons (ps_set (i := 4) sc_law.nd rfl (.inl rfl) (pe_call (ok__law_reach T) (hr.mono (by decide)) (by rfl) T.g__law_reach T.F__law_reach.kp T.b__law_reach .nil pass0 (pa_cons (pv 3) pa_nil)))
  (pss_cons (ps_set (i := 5) sc_law.nd rfl (.inl rfl) (pe_call (ok_reach T) (hr.mono (by decide)) (by rfl) T.g_reach T.F_reach.kp T.b_reach .nil pass0 (pa_cons (pv 3) pa_nil)))
  (pss_cons (ps_if (PW.pt (pw_or (pt_cmpR op_ne (pv 5) (pv 4) (nomark _)) (pw_or (pt_val (pe_callB call_isi (by rfl) T.m_isinstance (by decide +kernel) (pa_cons (pv 5) (pa_cons (pe_bltn (v := .ty "bool") (by rfl) T.m_bool (by decide +kernel) rfl) pa_nil)))) (pw_or1 (pt_cmpR op_ne (pe_call (ok_reach T) (hr.mono (by decide)) (by rfl) T.g_reach T.F_reach.kp T.b_reach .nil pass0 (pa_cons (RR.pe_revT (pv 3)) pa_nil)) (pv 4) (nomark _)))))) (pss_one (ps_ret pe_bl)) pss_nil)
  (pss_cons (ps_set (i := 6) sc_law.nd rfl (.inl rfl) (pe_call (ok__law_sums T) (hr.mono (by decide)) (by rfl) T.g__law_sums T.F__law_sums.kp T.b__law_sums .nil pass0 (pa_cons (pv 3) pa_nil)))
  (pss_cons (ps_for PassesOwn.never rfl (pi_range1 (by rfl) T.m_range (pa_cons (pe_op op_add (pv 4) pe_int) pa_nil)) (pg_name (i := 7) sc_law.nd rfl (.inl rfl))
   (pss_one (ps_if (pt_cmpR op_ne (pe_op op_modN (pe_op op_fdivW (pv 6) (pe_op op_shl pe_int (pv 7))) pe_int) pe_int (nomark _)) (pss_one (ps_ret pe_bl)) pss_nil)))
  (pss_cons (ps_if (pt_cmpR op_ne (pe_op op_modN (pe_op op_fdivW (pv 6) (pe_op op_shl pe_int (pe_op op_add (pv 4) pe_int))) pe_int) pe_int (nomark _)) (pss_one (ps_ret pe_bl)) pss_nil)
  (pss_one (ps_if (PW.pt (pw_or (pt_cmpR (op_neD hr.units) (pe_call (ok_flood T) (hr.mono (by decide)) (by rfl) T.g_flood T.F_flood.kp T.b_flood .nil pass0 (pa_cons (pv 3) pa_nil)) (pe_op op_rep2 (pe_tup (pa_cons pe_int pa_nil)) (pe_op op_add (pv 4) pe_int)) (nomark _)) (pw_or1 (pt_not (pt_val (pe_callB call_isi (by rfl) T.m_isinstance (by decide +kernel) (pa_cons (pe_call (ok_flood T) (hr.mono (by decide)) (by rfl) T.g_flood T.F_flood.kp T.b_flood .nil pass0 (pa_cons (pv 3) pa_nil)) (pa_cons (pe_bltn (v := .ty "tuple") (by rfl) T.m_tuple (by decide +kernel) rfl) pa_nil)))))))) (pss_one (ps_ret pe_bl)) pss_nil))))))))))
  (pss_one (ps_ret (pe_and (pe_cmpR op_eq (pe_call (ok_reach T) (hr.mono (by decide)) (by rfl) T.g_reach T.F_reach.kp T.b_reach .nil pass0 (pa_cons (pe_tup (pa_cons pe_int pa_nil)) pa_nil)) pe_int (nomark _)) (pe_and (pe_cmpR (op_eqD hr.units) (pe_call (ok_flood T) (hr.mono (by decide)) (by rfl) T.g_flood T.F_flood.kp T.b_flood .nil pass0 (pa_cons (pe_tup (pa_cons pe_int pa_nil)) pa_nil)) (pe_tup (pa_cons pe_int pa_nil)) (nomark _)) (pe_one (pe_cmpR op_eq (pe_call (ok_reach T) (hr.mono (by decide)) (by rfl) T.g_reach T.F_reach.kp T.b_reach .nil pass0 (pa_cons (pe_tup (pa_cons pe_int (pa_cons pe_int (pa_cons pe_int pa_nil)))) pa_nil)) pe_int (nomark _)))))))))), ?_⟩
    refine ⟨.ref a, rfl, a, ns0, rfl, hS, fun t sc H1 nt ns' sm tp => ?_⟩
    refine ⟨5, rfl, by decide, by decide, for_range (lo := 0) (n := (5 : Int).toNat)
      (fun i σ H' => ∃ y2 y3 y4 y5 y6 y7, σ = [some (.ref a), some (.ref t), y2, y3, y4, y5, y6, y7] ∧ Tape H' t sc)
      ⟨_, _, _, _, _, _, rfl, tp⟩ (fun i σ H' hi h => ?_) (fun σ H' h => ?_)⟩
    · obtain ⟨y2, y3, y4, y5, y6, y7, rfl, tp'⟩ := h
      refine ⟨.ref t, rfl, t, sc, rfl, tp', fun l ns H2 g hlt hl mv tp2 el => ?_⟩
      have bd := Rch.reach_bd g
      refine ⟨.ref l, rfl, l, ns, rfl, SqT.of el, g, fun H3 s3 => ?_⟩
      refine ⟨.ref l, rfl, l, ns, rfl, sT s3 (SqT.of el), g, fun H4 s4 => ?_⟩
      have e4 : H4 l = some (.tup (ns.map V.int)) := s4 _ _ (s3 _ _ el)
      refine ⟨.int _, rfl, .int _, rfl, rfl, _, rfl, iteNS rfl ?_⟩
      refine ⟨.int _, rfl, .int _, .ty "bool", _, _, false, rfl, .ty _, .base (.int _), kit_ty (by decide +kernel), false, rfl, iteF ?_⟩
      refine ⟨.ref l, rfl, l, _, rfl, SqT.of e4, fun p np => ?_⟩
      refine ⟨p, ns.reverse, rfl, SqT.of (by rw [upd_same, List.map_reverse]), good_rev g, fun H5 s5 => ?_⟩
      rw [Rch.reach_perm (List.reverse_perm ns)]
      have s45 : Same H4 H5 := (same_upd np).trans s5
      have e5 : H5 l = some (.tup (ns.map V.int)) := s45 _ _ e4
      have tp5 : Tape H5 t sc := ((tp2.keep s3).keep s4).keep s45
      refine ⟨.int _, rfl, rfl, _, rfl, iteNS rfl ?_⟩
      refine ⟨.ref l, rfl, l, ns, rfl, SqT.of e5, g, ?_⟩
      refine ⟨_, rfl, _, _, rfl, rfl, _, rfl, by omega, by omega, for_range (lo := 0) (n := (Rch.reachOf ns + 1).toNat)
        (fun j σ H' => ∃ y2 y5 y7, σ = [some (.ref a), some (.ref t), y2, some (.ref l), some (.int (Rch.reachOf ns)), y5, some (.int (Rch.sumsF 1 ns : Nat)), y7] ∧ H' = H5)
        ⟨_, _, _, rfl, rfl⟩ (fun j σ H' hj h => ?_) (fun σ H' h => ?_)⟩
      · obtain ⟨y2, y5, y7, rfl, rfl⟩ := h
        refine ⟨.int _, rfl, .int _, rfl, _, _, rfl, rfl, ⟨by omega, by omega, by decide⟩, _, _, rfl, rfl, sh_div (by omega) (by omega), _, _, rfl, rfl, (by show (2 : Int) ≠ 0; decide), rfl, false, ne_no (bit_in g (by omega) (by omega)), iteF ?_⟩
        exact ⟨_, _, _, rfl, rfl⟩
      · obtain ⟨y2, y5, y7, rfl, rfl⟩ := h
        refine ⟨.int _, rfl, .int _, rfl, _, _, rfl, rfl, _, _, rfl, rfl, ⟨by omega, by omega, by decide⟩, _, _, rfl, rfl, sh_div (by omega) (by omega), _, _, rfl, rfl, (by show (2 : Int) ≠ 0; decide), rfl, false, ne_no (bit_out g), iteF ?_⟩
        refine ⟨.ref l, rfl, l, ns, rfl, SqT.of e5, g, fun p6 H6 s6 e6 => ?_⟩
        refine ⟨by show 1 ≤ sizeLine; decide, fun c nc => ?_⟩
        have s7 := same_upd (o := .tup [.int 2]) nc
        refine ⟨.int _, rfl, _, _, rfl, rfl, c, _, rfl, rfl, upd_same, by omega, by omega, fun p8 H8 s8 e8 => ?_⟩
        refine ⟨_, _, twos_dp (SqT.of (s8 _ _ (s7 _ _ e6))), twos_dp (SqT.of e8), twos_shaped _, twos_shaped _, _, rfl, iteNE (twos_eqv _) ?_⟩
        have e9 : H8 l = some (.tup (ns.map V.int)) := s8 _ _ (s7 _ _ (s6 _ _ e5))
        refine ⟨.ref l, rfl, l, ns, rfl, SqT.of e9, g, fun p9 H9 s9 e9 => ?_⟩
        refine ⟨.ref p9, .ty "tuple", _, _, true, rfl, .ty _, tyTup (SqT.of e9), kit_ty (by decide +kernel), true, rfl, ?_⟩
        exact ⟨_, _, _, _, _, _, rfl, (((tp5.keep s6).keep s7).keep s8).keep s9⟩
    · obtain ⟨y2, y3, y4, y5, y6, y7, rfl, tp'⟩ := h
      refine ⟨by show 1 ≤ sizeLine; decide, fun c nc => ?_⟩
      refine ⟨c, [2], rfl, SqT.of upd_same, good2, fun H2 s2 => ⟨rfl, true, rfl, iteT ?_⟩⟩
      refine ⟨by show 1 ≤ sizeLine; decide, fun c3 nc3 => ?_⟩
      refine ⟨c3, [2], rfl, SqT.of upd_same, good2, fun p4 H4 s4 e4 => ?_⟩
      refine ⟨by show 1 ≤ sizeLine; decide, fun c5 nc5 => ?_⟩
      have e5 := same_upd (o := .tup [.int 2]) nc5 _ _ e4
      refine ⟨dTwos 1, dTwos 1, twos_dp (n := 1) (SqT.of e5), twos_dp (n := 1) (SqT.of upd_same), twos_shaped _, twos_shaped _, true, congrArg V.bl (twos_eqv 1), iteT ?_⟩
      refine ⟨by show 3 ≤ sizeLine; decide, fun c6 nc6 => ?_⟩
      refine ⟨c6, [1, 1, 3], rfl, SqT.of upd_same, good113, fun H7 s7 => ⟨rfl, ?_⟩⟩
      exact q _
end

/-! ### the end -/
theorem fin_mk {l : PySem.W.OpenLaw} {w : World} {K : PySem.W.Frag} {h : Heap} {mg : Str → Option Value} {fa f_law : Addr} (KX : K.In h) (G : h.Ns mainGlobals mg) (hmg : mg "law" = some (.ref fa)) {an : Option Addr} {kV dc pm cd ct : Value}
    (hT : ∃ T : Tx K mg, T.a_law = f_law ∧ T.d_law = PySem.W.fnOf "law" "law" (defArgs s_law) (defBody s_law) (defScope s_law) .none kV dc pm an cd ct) :
    ∃ fd : FuncData, (∀ (s : Shared) (v : Value), BindsTo s fd ⟨[v], []⟩ [("script", v)]) ∧ ∀ base : Heap, K.In base → base.Ns mainGlobals mg → FnOk l.prog w K mg base CX0 lawLevel fa fd ["script"] (spLaw K) := by
  obtain ⟨T, ea, ed⟩ := hT
  have e := hmg.symm.trans T.g_law
  cases e
  exact ⟨T.d_law, fun s v => by rw [ed]; exact .of_eq rfl, fun base _ _ => ok_law T⟩

theorem all_mk {w : World} {K : PySem.W.Frag} {h : Heap} {mg : Str → Option Value} (X : K.In h) (G : h.Ns mainGlobals mg)
    {f_is_integer : Addr} {od_is_integer an_is_integer : Option Addr} {sl_is_integer : Array (Option Value)} {oc_is_integer kV_is_integer dc_is_integer pm_is_integer cd_is_integer ct_is_integer : Value}
    {f_is_number : Addr} {od_is_number an_is_number : Option Addr} {sl_is_number : Array (Option Value)} {oc_is_number kV_is_number dc_is_number pm_is_number cd_is_number ct_is_number : Value}
    {f_are_numbers : Addr} {od_are_numbers an_are_numbers : Option Addr} {sl_are_numbers : Array (Option Value)} {oc_are_numbers kV_are_numbers dc_are_numbers pm_are_numbers cd_are_numbers ct_are_numbers : Value}
    {f_is_loops : Addr} {od_is_loops an_is_loops : Option Addr} {sl_is_loops : Array (Option Value)} {oc_is_loops kV_is_loops dc_is_loops pm_is_loops cd_is_loops ct_is_loops : Value}
    {f_check_loops : Addr} {od_check_loops an_check_loops : Option Addr} {sl_check_loops : Array (Option Value)} {oc_check_loops kV_check_loops dc_check_loops pm_check_loops cd_check_loops ct_check_loops : Value}
    {f_reach : Addr} {od_reach an_reach : Option Addr} {sl_reach : Array (Option Value)} {oc_reach kV_reach dc_reach pm_reach cd_reach ct_reach : Value}
    {f_flood : Addr} {od_flood an_flood : Option Addr} {sl_flood : Array (Option Value)} {oc_flood kV_flood dc_flood pm_flood cd_flood ct_flood : Value}
    {f__law_tape : Addr} {od__law_tape an__law_tape : Option Addr} {sl__law_tape : Array (Option Value)} {oc__law_tape kV__law_tape dc__law_tape pm__law_tape cd__law_tape ct__law_tape : Value}
    {f__law_pick : Addr} {od__law_pick an__law_pick : Option Addr} {sl__law_pick : Array (Option Value)} {oc__law_pick kV__law_pick dc__law_pick pm__law_pick cd__law_pick ct__law_pick : Value}
    {f__law_doubled : Addr} {od__law_doubled an__law_doubled : Option Addr} {sl__law_doubled : Array (Option Value)} {oc__law_doubled kV__law_doubled dc__law_doubled pm__law_doubled cd__law_doubled ct__law_doubled : Value}
    {f__law_drawn : Addr} {od__law_drawn an__law_drawn : Option Addr} {sl__law_drawn : Array (Option Value)} {oc__law_drawn kV__law_drawn dc__law_drawn pm__law_drawn cd__law_drawn ct__law_drawn : Value}
    {f__law_reach : Addr} {od__law_reach an__law_reach : Option Addr} {sl__law_reach : Array (Option Value)} {oc__law_reach kV__law_reach dc__law_reach pm__law_reach cd__law_reach ct__law_reach : Value}
    {f__law_sums : Addr} {od__law_sums an__law_sums : Option Addr} {sl__law_sums : Array (Option Value)} {oc__law_sums kV__law_sums dc__law_sums pm__law_sums cd__law_sums ct__law_sums : Value}
    {f_law : Addr} {od_law an_law : Option Addr} {sl_law : Array (Option Value)} {oc_law kV_law dc_law pm_law cd_law ct_law : Value}
    {t_MOST_LENGTH : Tok}
    {t_MOST_LOOPS : Tok}
    (a_is_integer : PySem.W.nsIn K mainGlobals "is_integer" = some (some (.ref f_is_integer))) (l_is_integer : K.lookup f_is_integer = some ⟨oc_is_integer, od_is_integer, .func (PySem.W.fnOf "is_integer" "is_integer" (defArgs s_is_integer) (defBody s_is_integer) (defScope s_is_integer) .none kV_is_integer dc_is_integer pm_is_integer an_is_integer cd_is_integer ct_is_integer), sl_is_integer⟩) (c_is_integer : PySem.W.codeIn K cd_is_integer "is_integer" = true) (k_is_integer : PySem.W.keepIn K (.ref f_is_integer) = true)
    (a_is_number : PySem.W.nsIn K mainGlobals "is_number" = some (some (.ref f_is_number))) (l_is_number : K.lookup f_is_number = some ⟨oc_is_number, od_is_number, .func (PySem.W.fnOf "is_number" "is_number" (defArgs s_is_number) (defBody s_is_number) (defScope s_is_number) .none kV_is_number dc_is_number pm_is_number an_is_number cd_is_number ct_is_number), sl_is_number⟩) (c_is_number : PySem.W.codeIn K cd_is_number "is_number" = true) (k_is_number : PySem.W.keepIn K (.ref f_is_number) = true)
    (a_are_numbers : PySem.W.nsIn K mainGlobals "are_numbers" = some (some (.ref f_are_numbers))) (l_are_numbers : K.lookup f_are_numbers = some ⟨oc_are_numbers, od_are_numbers, .func (PySem.W.fnOf "are_numbers" "are_numbers" (defArgs s_are_numbers) (defBody s_are_numbers) (defScope s_are_numbers) .none kV_are_numbers dc_are_numbers pm_are_numbers an_are_numbers cd_are_numbers ct_are_numbers), sl_are_numbers⟩) (c_are_numbers : PySem.W.codeIn K cd_are_numbers "are_numbers" = true) (k_are_numbers : PySem.W.keepIn K (.ref f_are_numbers) = true)
    (a_is_loops : PySem.W.nsIn K mainGlobals "is_loops" = some (some (.ref f_is_loops))) (l_is_loops : K.lookup f_is_loops = some ⟨oc_is_loops, od_is_loops, .func (PySem.W.fnOf "is_loops" "is_loops" (defArgs s_is_loops) (defBody s_is_loops) (defScope s_is_loops) .none kV_is_loops dc_is_loops pm_is_loops an_is_loops cd_is_loops ct_is_loops), sl_is_loops⟩) (c_is_loops : PySem.W.codeIn K cd_is_loops "is_loops" = true) (k_is_loops : PySem.W.keepIn K (.ref f_is_loops) = true)
    (a_check_loops : PySem.W.nsIn K mainGlobals "check_loops" = some (some (.ref f_check_loops))) (l_check_loops : K.lookup f_check_loops = some ⟨oc_check_loops, od_check_loops, .func (PySem.W.fnOf "check_loops" "check_loops" (defArgs s_check_loops) (defBody s_check_loops) (defScope s_check_loops) .none kV_check_loops dc_check_loops pm_check_loops an_check_loops cd_check_loops ct_check_loops), sl_check_loops⟩) (c_check_loops : PySem.W.codeIn K cd_check_loops "check_loops" = true) (k_check_loops : PySem.W.keepIn K (.ref f_check_loops) = true)
    (a_reach : PySem.W.nsIn K mainGlobals "reach" = some (some (.ref f_reach))) (l_reach : K.lookup f_reach = some ⟨oc_reach, od_reach, .func (PySem.W.fnOf "reach" "reach" (defArgs s_reach) (defBody s_reach) (defScope s_reach) .none kV_reach dc_reach pm_reach an_reach cd_reach ct_reach), sl_reach⟩) (c_reach : PySem.W.codeIn K cd_reach "reach" = true) (k_reach : PySem.W.keepIn K (.ref f_reach) = true)
    (a_flood : PySem.W.nsIn K mainGlobals "flood" = some (some (.ref f_flood))) (l_flood : K.lookup f_flood = some ⟨oc_flood, od_flood, .func (PySem.W.fnOf "flood" "flood" (defArgs s_flood) (defBody s_flood) (defScope s_flood) .none kV_flood dc_flood pm_flood an_flood cd_flood ct_flood), sl_flood⟩) (c_flood : PySem.W.codeIn K cd_flood "flood" = true) (k_flood : PySem.W.keepIn K (.ref f_flood) = true)
    (a__law_tape : PySem.W.nsIn K mainGlobals "_law_tape" = some (some (.ref f__law_tape))) (l__law_tape : K.lookup f__law_tape = some ⟨oc__law_tape, od__law_tape, .func (PySem.W.fnOf "_law_tape" "_law_tape" (defArgs s__law_tape) (defBody s__law_tape) (defScope s__law_tape) .none kV__law_tape dc__law_tape pm__law_tape an__law_tape cd__law_tape ct__law_tape), sl__law_tape⟩) (c__law_tape : PySem.W.codeIn K cd__law_tape "_law_tape" = true) (k__law_tape : PySem.W.keepIn K (.ref f__law_tape) = true)
    (a__law_pick : PySem.W.nsIn K mainGlobals "_law_pick" = some (some (.ref f__law_pick))) (l__law_pick : K.lookup f__law_pick = some ⟨oc__law_pick, od__law_pick, .func (PySem.W.fnOf "_law_pick" "_law_pick" (defArgs s__law_pick) (defBody s__law_pick) (defScope s__law_pick) .none kV__law_pick dc__law_pick pm__law_pick an__law_pick cd__law_pick ct__law_pick), sl__law_pick⟩) (c__law_pick : PySem.W.codeIn K cd__law_pick "_law_pick" = true) (k__law_pick : PySem.W.keepIn K (.ref f__law_pick) = true)
    (a__law_doubled : PySem.W.nsIn K mainGlobals "_law_doubled" = some (some (.ref f__law_doubled))) (l__law_doubled : K.lookup f__law_doubled = some ⟨oc__law_doubled, od__law_doubled, .func (PySem.W.fnOf "_law_doubled" "_law_doubled" (defArgs s__law_doubled) (defBody s__law_doubled) (defScope s__law_doubled) .none kV__law_doubled dc__law_doubled pm__law_doubled an__law_doubled cd__law_doubled ct__law_doubled), sl__law_doubled⟩) (c__law_doubled : PySem.W.codeIn K cd__law_doubled "_law_doubled" = true) (k__law_doubled : PySem.W.keepIn K (.ref f__law_doubled) = true)
    (a__law_drawn : PySem.W.nsIn K mainGlobals "_law_drawn" = some (some (.ref f__law_drawn))) (l__law_drawn : K.lookup f__law_drawn = some ⟨oc__law_drawn, od__law_drawn, .func (PySem.W.fnOf "_law_drawn" "_law_drawn" (defArgs s__law_drawn) (defBody s__law_drawn) (defScope s__law_drawn) .none kV__law_drawn dc__law_drawn pm__law_drawn an__law_drawn cd__law_drawn ct__law_drawn), sl__law_drawn⟩) (c__law_drawn : PySem.W.codeIn K cd__law_drawn "_law_drawn" = true) (k__law_drawn : PySem.W.keepIn K (.ref f__law_drawn) = true)
    (a__law_reach : PySem.W.nsIn K mainGlobals "_law_reach" = some (some (.ref f__law_reach))) (l__law_reach : K.lookup f__law_reach = some ⟨oc__law_reach, od__law_reach, .func (PySem.W.fnOf "_law_reach" "_law_reach" (defArgs s__law_reach) (defBody s__law_reach) (defScope s__law_reach) .none kV__law_reach dc__law_reach pm__law_reach an__law_reach cd__law_reach ct__law_reach), sl__law_reach⟩) (c__law_reach : PySem.W.codeIn K cd__law_reach "_law_reach" = true) (k__law_reach : PySem.W.keepIn K (.ref f__law_reach) = true)
    (a__law_sums : PySem.W.nsIn K mainGlobals "_law_sums" = some (some (.ref f__law_sums))) (l__law_sums : K.lookup f__law_sums = some ⟨oc__law_sums, od__law_sums, .func (PySem.W.fnOf "_law_sums" "_law_sums" (defArgs s__law_sums) (defBody s__law_sums) (defScope s__law_sums) .none kV__law_sums dc__law_sums pm__law_sums an__law_sums cd__law_sums ct__law_sums), sl__law_sums⟩) (c__law_sums : PySem.W.codeIn K cd__law_sums "_law_sums" = true) (k__law_sums : PySem.W.keepIn K (.ref f__law_sums) = true)
    (a_law : PySem.W.nsIn K mainGlobals "law" = some (some (.ref f_law))) (l_law : K.lookup f_law = some ⟨oc_law, od_law, .func (PySem.W.fnOf "law" "law" (defArgs s_law) (defBody s_law) (defScope s_law) .none kV_law dc_law pm_law an_law cd_law ct_law), sl_law⟩) (c_law : PySem.W.codeIn K cd_law "law" = true) (k_law : PySem.W.keepIn K (.ref f_law) = true)
    (z_all : PySem.W.nsIn K mainGlobals "all" = some none)
    (z_bool : PySem.W.nsIn K mainGlobals "bool" = some none)
    (z_int : PySem.W.nsIn K mainGlobals "int" = some none)
    (z_isinstance : PySem.W.nsIn K mainGlobals "isinstance" = some none)
    (z_len : PySem.W.nsIn K mainGlobals "len" = some none)
    (z_list : PySem.W.nsIn K mainGlobals "list" = some none)
    (z_max : PySem.W.nsIn K mainGlobals "max" = some none)
    (z_range : PySem.W.nsIn K mainGlobals "range" = some none)
    (z_sorted : PySem.W.nsIn K mainGlobals "sorted" = some none)
    (z_sum : PySem.W.nsIn K mainGlobals "sum" = some none)
    (z_tuple : PySem.W.nsIn K mainGlobals "tuple" = some none)
    (y_MOST_LENGTH : PySem.W.nsIn K mainGlobals "MOST_LENGTH" = some (some (.int 40 t_MOST_LENGTH)))
    (y_MOST_LOOPS : PySem.W.nsIn K mainGlobals "MOST_LOOPS" = some (some (.int 8 t_MOST_LOOPS)))
    : ∃ T : Tx K mg, T.a_law = f_law ∧ T.d_law = PySem.W.fnOf "law" "law" (defArgs s_law) (defBody s_law) (defScope s_law) .none kV_law dc_law pm_law an_law cd_law ct_law :=
  ⟨{ a_is_integer := f_is_integer, d_is_integer := _, F_is_integer := fun_mk (st := s_is_integer) l_is_integer c_is_integer k_is_integer, b_is_integer := (fun_mk (st := s_is_integer) l_is_integer c_is_integer k_is_integer).binds (ps := ["thing"]) (fun _ _ _ _ _ _ us hl => match us, hl with | [_], _ => rfl), g_is_integer := PySem.W.mg_of X G a_is_integer,
     a_is_number := f_is_number, d_is_number := _, F_is_number := fun_mk (st := s_is_number) l_is_number c_is_number k_is_number, b_is_number := (fun_mk (st := s_is_number) l_is_number c_is_number k_is_number).binds (ps := ["thing", "least", "most"]) (fun _ _ _ _ _ _ us hl => match us, hl with | [_, _, _], _ => rfl), g_is_number := PySem.W.mg_of X G a_is_number,
     a_are_numbers := f_are_numbers, d_are_numbers := _, F_are_numbers := fun_mk (st := s_are_numbers) l_are_numbers c_are_numbers k_are_numbers, b_are_numbers := (fun_mk (st := s_are_numbers) l_are_numbers c_are_numbers k_are_numbers).binds (ps := ["things", "least", "most"]) (fun _ _ _ _ _ _ us hl => match us, hl with | [_, _, _], _ => rfl), g_are_numbers := PySem.W.mg_of X G a_are_numbers,
     a_is_loops := f_is_loops, d_is_loops := _, F_is_loops := fun_mk (st := s_is_loops) l_is_loops c_is_loops k_is_loops, b_is_loops := (fun_mk (st := s_is_loops) l_is_loops c_is_loops k_is_loops).binds (ps := ["thing"]) (fun _ _ _ _ _ _ us hl => match us, hl with | [_], _ => rfl), g_is_loops := PySem.W.mg_of X G a_is_loops,
     a_check_loops := f_check_loops, d_check_loops := _, F_check_loops := fun_mk (st := s_check_loops) l_check_loops c_check_loops k_check_loops, b_check_loops := (fun_mk (st := s_check_loops) l_check_loops c_check_loops k_check_loops).binds (ps := ["thing"]) (fun _ _ _ _ _ _ us hl => match us, hl with | [_], _ => rfl), g_check_loops := PySem.W.mg_of X G a_check_loops,
     a_reach := f_reach, d_reach := _, F_reach := fun_mk (st := s_reach) l_reach c_reach k_reach, b_reach := (fun_mk (st := s_reach) l_reach c_reach k_reach).binds (ps := ["loops"]) (fun _ _ _ _ _ _ us hl => match us, hl with | [_], _ => rfl), g_reach := PySem.W.mg_of X G a_reach,
     a_flood := f_flood, d_flood := _, F_flood := fun_mk (st := s_flood) l_flood c_flood k_flood, b_flood := (fun_mk (st := s_flood) l_flood c_flood k_flood).binds (ps := ["loops"]) (fun _ _ _ _ _ _ us hl => match us, hl with | [_], _ => rfl), g_flood := PySem.W.mg_of X G a_flood,
     a__law_tape := f__law_tape, d__law_tape := _, F__law_tape := fun_mk (st := s__law_tape) l__law_tape c__law_tape k__law_tape, b__law_tape := (fun_mk (st := s__law_tape) l__law_tape c__law_tape k__law_tape).binds (ps := ["script"]) (fun _ _ _ _ _ _ us hl => match us, hl with | [_], _ => rfl), g__law_tape := PySem.W.mg_of X G a__law_tape,
     a__law_pick := f__law_pick, d__law_pick := _, F__law_pick := fun_mk (st := s__law_pick) l__law_pick c__law_pick k__law_pick, b__law_pick := (fun_mk (st := s__law_pick) l__law_pick c__law_pick k__law_pick).binds (ps := ["tape", "size"]) (fun _ _ _ _ _ _ us hl => match us, hl with | [_, _], _ => rfl), g__law_pick := PySem.W.mg_of X G a__law_pick,
     a__law_doubled := f__law_doubled, d__law_doubled := _, F__law_doubled := fun_mk (st := s__law_doubled) l__law_doubled c__law_doubled k__law_doubled, b__law_doubled := (fun_mk (st := s__law_doubled) l__law_doubled c__law_doubled k__law_doubled).binds (ps := ["tape", "most"]) (fun _ _ _ _ _ _ us hl => match us, hl with | [_, _], _ => rfl), g__law_doubled := PySem.W.mg_of X G a__law_doubled,
     a__law_drawn := f__law_drawn, d__law_drawn := _, F__law_drawn := fun_mk (st := s__law_drawn) l__law_drawn c__law_drawn k__law_drawn, b__law_drawn := (fun_mk (st := s__law_drawn) l__law_drawn c__law_drawn k__law_drawn).binds (ps := ["tape"]) (fun _ _ _ _ _ _ us hl => match us, hl with | [_], _ => rfl), g__law_drawn := PySem.W.mg_of X G a__law_drawn,
     a__law_reach := f__law_reach, d__law_reach := _, F__law_reach := fun_mk (st := s__law_reach) l__law_reach c__law_reach k__law_reach, b__law_reach := (fun_mk (st := s__law_reach) l__law_reach c__law_reach k__law_reach).binds (ps := ["loops"]) (fun _ _ _ _ _ _ us hl => match us, hl with | [_], _ => rfl), g__law_reach := PySem.W.mg_of X G a__law_reach,
     a__law_sums := f__law_sums, d__law_sums := _, F__law_sums := fun_mk (st := s__law_sums) l__law_sums c__law_sums k__law_sums, b__law_sums := (fun_mk (st := s__law_sums) l__law_sums c__law_sums k__law_sums).binds (ps := ["loops"]) (fun _ _ _ _ _ _ us hl => match us, hl with | [_], _ => rfl), g__law_sums := PySem.W.mg_of X G a__law_sums,
     a_law := f_law, d_law := _, F_law := fun_mk (st := s_law) l_law c_law k_law, b_law := (fun_mk (st := s_law) l_law c_law k_law).binds (ps := ["script"]) (fun _ _ _ _ _ _ us hl => match us, hl with | [_], _ => rfl), g_law := PySem.W.mg_of X G a_law,
     m_all := PySem.W.mg_none_of X G z_all,
     m_bool := PySem.W.mg_none_of X G z_bool,
     m_int := PySem.W.mg_none_of X G z_int,
     m_isinstance := PySem.W.mg_none_of X G z_isinstance,
     m_len := PySem.W.mg_none_of X G z_len,
     m_list := PySem.W.mg_none_of X G z_list,
     m_max := PySem.W.mg_none_of X G z_max,
     m_range := PySem.W.mg_none_of X G z_range,
     m_sorted := PySem.W.mg_none_of X G z_sorted,
     m_sum := PySem.W.mg_none_of X G z_sum,
     m_tuple := PySem.W.mg_none_of X G z_tuple,
     t_MOST_LENGTH := t_MOST_LENGTH, g_MOST_LENGTH := PySem.W.mg_of X G y_MOST_LENGTH,
     t_MOST_LOOPS := t_MOST_LOOPS, g_MOST_LOOPS := PySem.W.mg_of X G y_MOST_LOOPS }, rfl, rfl⟩
end My
open PySem PySem.W PyProof.Rows
set_option maxHeartbeats 0 in
theorem PySem.Challenge.cw_loopstore_k24_whole_reach_holds : PySem.Challenge.rw_loopstore_k24_whole_reach.Holds := by
  w_on; o_law; k_head; (case hw => w_witness2)
  k_fill
  refine L2.walk_of (l := PySem.Challenge.rw_loopstore_k24_whole_reach) (n := 63) (k := My.lawLevel) (x := "script") (CX := fun _ => L2.CX0) (sp := fun w => My.spLaw _) rfl (by decide) rfl ⟨rfl, by decide, by decide⟩ (fun w h Y => PySem.W.kIn_of Y) ?F (fun _ _ a ns hl _ hS => ⟨a, ns, rfl, hS, hl, fun _ => rfl⟩) (fun _ _ _ _ _ h => h)
  case F =>
    intro w mg fa h KX G hmg
    refine' My.fin_mk KX G hmg (My.all_mk (w := w) KX G ?a_is_integer ?l_is_integer ?c_is_integer ?k_is_integer ?a_is_number ?l_is_number ?c_is_number ?k_is_number ?a_are_numbers ?l_are_numbers ?c_are_numbers ?k_are_numbers ?a_is_loops ?l_is_loops ?c_is_loops ?k_is_loops ?a_check_loops ?l_check_loops ?c_check_loops ?k_check_loops ?a_reach ?l_reach ?c_reach ?k_reach ?a_flood ?l_flood ?c_flood ?k_flood ?a__law_tape ?l__law_tape ?c__law_tape ?k__law_tape ?a__law_pick ?l__law_pick ?c__law_pick ?k__law_pick ?a__law_doubled ?l__law_doubled ?c__law_doubled ?k__law_doubled ?a__law_drawn ?l__law_drawn ?c__law_drawn ?k__law_drawn ?a__law_reach ?l__law_reach ?c__law_reach ?k__law_reach ?a__law_sums ?l__law_sums ?c__law_sums ?k__law_sums ?a_law ?l_law ?c_law ?k_law ?z_all ?z_bool ?z_int ?z_isinstance ?z_len ?z_list ?z_max ?z_range ?z_sorted ?z_sum ?z_tuple ?y_MOST_LENGTH ?y_MOST_LOOPS)
    (case a_is_integer => k_is); (case l_is_integer => k_is); (case c_is_integer => k_is); (case k_is_integer => k_is); (case a_is_number => k_is); (case l_is_number => k_is); (case c_is_number => k_is); (case k_is_number => k_is); (case a_are_numbers => k_is); (case l_are_numbers => k_is); (case c_are_numbers => k_is); (case k_are_numbers => k_is); (case a_is_loops => k_is); (case l_is_loops => k_is); (case c_is_loops => k_is); (case k_is_loops => k_is); (case a_check_loops => k_is); (case l_check_loops => k_is); (case c_check_loops => k_is); (case k_check_loops => k_is); (case a_reach => k_is); (case l_reach => k_is); (case c_reach => k_is); (case k_reach => k_is); (case a_flood => k_is); (case l_flood => k_is); (case c_flood => k_is); (case k_flood => k_is); (case a__law_tape => k_is); (case l__law_tape => k_is); (case c__law_tape => k_is); (case k__law_tape => k_is); (case a__law_pick => k_is); (case l__law_pick => k_is); (case c__law_pick => k_is); (case k__law_pick => k_is); (case a__law_doubled => k_is); (case l__law_doubled => k_is); (case c__law_doubled => k_is); (case k__law_doubled => k_is); (case a__law_drawn => k_is); (case l__law_drawn => k_is); (case c__law_drawn => k_is); (case k__law_drawn => k_is); (case a__law_reach => k_is); (case l__law_reach => k_is); (case c__law_reach => k_is); (case k__law_reach => k_is); (case a__law_sums => k_is); (case l__law_sums => k_is); (case c__law_sums => k_is); (case k__law_sums => k_is); (case a_law => k_is); (case l_law => k_is); (case c_law => k_is); (case k_law => k_is); (case z_all => k_is); (case z_bool => k_is); (case z_int => k_is); (case z_isinstance => k_is); (case z_len => k_is); (case z_list => k_is); (case z_max => k_is); (case z_range => k_is); (case z_sorted => k_is); (case z_sum => k_is); (case z_tuple => k_is); (case y_MOST_LENGTH => k_is); (case y_MOST_LOOPS => k_is)

