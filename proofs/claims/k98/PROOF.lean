import PyProof.Rows.All
import Wide.All
import OpenK.AllK
import Wide.FinOn
import HandS.ForMost
import HandS.Wide
import HandS.IsInst
import HandS.TupMul
import HandS.TupAny
import HandS.SortInts
import HandS.SortRule
import HandS.Strs
import HandS.Iter
import HandS.IterNext
import HandS.Zip
import HandS.Deep
import HandS.More
import HandS.Style
import HandS.Gcd
import HandS.Exc
import HandS.ExcOwn
import HandS.ExcInit
import HandS.TryOnly
import HandS.WordsExc
import HandS.ExcField
import HandS.ExcIs
import HandS.ExcCtx
import HandS.HotCalls
import KE.KExcIs
import HandS.Dict
import HandS.DictTup
import HandS.Keys
import HandS.OwnEq
import PyProof.InstNe
import PyProof.ReprReads
import KE.DatumIndex
import PyProof.ReprBulk
import PyProof.FitsInt
import PyProof.ReprRoads
import HandS.GenBody
import HandS.GenYield
import HandS.GenCall
import HandS.GenList
import HandS.Evl
import PySem.Challenge.RW_loopstore_k98_whole_settled_lines
set_option Elab.async false
set_option linter.all false
set_option maxRecDepth 100000
set_option maxHeartbeats 4000000
/-! ## rules that the layer lacks -/
namespace RR
open PySem PySem.Spec PyProof.Rows L2 HT
section
variable {prog : Program} {w : World} {A : Around} {E : Value → Shared → Prop} {s : Shared}
/-- a tuple's items gathered -/
theorem collect_tuple {l : Addr} {vs : List Value} {Q : List Value → Shared → Prop} (hl : IsTup s.heap l vs.toArray)
    (h : Q vs { s with heap := (s.heap.push (seqObj "list" #[] 0)).update s.heap.objs.size (Obj.mapSeq (· ++ vs.toArray)) }) (hsz : vs.length ≤ sizeLine) :
    wpAny (model prog w) A (collect (.ref l)) Q E s := by
  obtain ⟨o, ho, hc, n, hd⟩ := id hl
  unfold collect
  refine wpAny_bind (wpAny_runValue (codeAny_builtin entry_proto_collect' ?_))
  show wpAny _ _ (do again (.builtin "list.__iadd__" ⟨[← newList [], .ref l], []⟩)) _ _ s
  refine wpAny_bind (wpAny_newList (wpAny_pure ⟨Code.quiet_builtin _ (by decide +kernel), codeAny_builtin entry_list_iadd' ?_⟩))
  show wpAny _ _ (Builtin.List.listExtendWith (.ref s.heap.objs.size) (.ref l) (.ref s.heap.objs.size)) _ _ { s with heap := s.heap.push (seqObj "list" #[] 0) }
  unfold Builtin.List.listExtendWith
  have ho' : (s.heap.push (seqObj "list" #[] 0)).get? l = some o := Heap.get?_push_of_some _ ho
  refine wpAny_bind (wpAny_typeOf (T := "tuple") ⟨o, ho', hc⟩ ?_)
  have ht : (Value.type "tuple" == Value.type "tuple") = true := by rfl
  rw [if_pos (by rw [ht]; simp)]
  refine wpAny_bind (listItems_at ho' hd ?_)
  refine wpAny_bind (listItems_at (xs := #[]) (n := 0) (Heap.get?_push_size _ rfl) rfl ?_)
  rw [if_neg (by simp)]
  refine wpAny_bind (listUpdate_at (xs := #[]) (n := 0) (Heap.get?_push_size _ rfl) rfl ?_ (Nat.zero_le _) (by show (#[] ++ vs.toArray).size ≤ sizeLine + 1; simp only [Array.size_append, List.size_toArray, List.length_nil]; omega))
  refine wpAny_pure ?_
  show wpAny (model prog w) A (do
      let o ← load s.heap.objs.size
      match o.data with
      | .seq xs _ => pure xs.toList
      | _ => unsupported "internal:collect") Q E { s with heap := (s.heap.push (seqObj "list" #[] 0)).update s.heap.objs.size (Obj.mapSeq (· ++ vs.toArray)) }
  refine wpAny_bind (wpAny_load (get?_update_seq (Heap.get?_push_size _ rfl) _) ?_)
  show wpAny _ _ (pure ((#[] : Array Value) ++ vs.toArray).toList) Q E _
  rw [show ((#[] : Array Value) ++ vs.toArray).toList = vs by simp]
  exact wpAny_pure h
theorem sorted_ordT {l : Addr} {vs : List Value} {ltv : Value → Value → Bool} {Q : Value → Shared → Prop} (O : SrtO.Swo ltv) (hl : IsTup s.heap l vs.toArray) (hz : vs.length ≤ sizeLine)
    (hS : 2 ≤ vs.length → ∀ (h₁ : Heap) (a : Addr), h₁.get? a = some (seqObj "list" vs.toArray 0) → (∀ b o, s.heap.get? b = some o → b ≠ a ∧ h₁.get? b = some o) → SrtO.SortableO prog w A.in1.in1 { s with heap := h₁ } a vs ltv)
    (h : ∀ out : List Value, SrtO.Srtd ltv out → SrtO.Stb ltv out vs → Q (.ref (s.heap.objs.size + 1)) { s with heap := sortedAll s.heap vs out.toArray }) :
    wpAny (model prog w) A (call (.builtin "sorted") [.ref l]) Q E s := by
  refine Calls.call_function_entry kind_sorted plain_sorted entry_sorted (args_sorted1 _) ?_
  unfold Builtin.«sorted»
  refine wpAny_bind (m := checkCount "sorted" 1 1 _) (wpAny_pure ?_)
  refine wpAny_bind (collect_tuple hl ?_ hz)
  refine wpAny_bind (wpAny_newList ?_ hz)
  have hsz : ((s.heap.push (seqObj "list" #[] 0)).update s.heap.objs.size (Obj.mapSeq (· ++ vs.toArray))).objs.size = s.heap.objs.size + 1 := by
    rw [Heap.size_update, size_push']
  have hoL : (((s.heap.push (seqObj "list" #[] 0)).update s.heap.objs.size (Obj.mapSeq (· ++ vs.toArray))).push (seqObj "list" vs.toArray 0)).get? (s.heap.objs.size + 1) = some (seqObj "list" vs.toArray 0) := by
    rw [← hsz]; exact Heap.get?_push_size _ rfl
  have keep : ∀ b o, s.heap.get? b = some o → b ≠ s.heap.objs.size + 1 ∧ (((s.heap.push (seqObj "list" #[] 0)).update s.heap.objs.size (Obj.mapSeq (· ++ vs.toArray))).push (seqObj "list" vs.toArray 0)).get? b = some o := fun b o q => by
    have hlt : b < s.heap.objs.size := Heap.lt_size q
    refine ⟨Nat.ne_of_lt (Nat.lt_succ_of_lt hlt), Heap.get?_push_of_some _ ?_⟩
    rw [Heap.get?_update_ne _ _ _ _ (Nat.ne_of_lt hlt)]
    exact Heap.get?_push_of_some _ q
  show wpAny _ _ _ _ _ { s with heap := ((s.heap.push (seqObj "list" #[] 0)).update s.heap.objs.size (Obj.mapSeq (· ++ vs.toArray))).push (seqObj "list" vs.toArray 0) }
  rw [hsz]
  refine wpAny_bind (wpAny_holding (wpAny_call_entry slot_list_sort ⟨_, hoL, rfl⟩ entry_list_sort (SrtO.list_sort_ord O hoL hz (fun h2 => hS h2 _ _ hoL keep) fun out hs hb => ⟨_, rfl, ?_⟩) (args_list_sort _)))
  exact wpAny_pure ⟨_, rfl, h out hs hb⟩
end
def rSortedU (K : PySem.W.Frag) : List V → Hp → VK → Prop := fun vs H Q => ∃ (a : Addr) (ns : List Int), vs = [V.ref a] ∧ SqT K H a (ns.map V.int) ∧
  ∀ (ns' : List Int) (p : Addr), ns'.Perm ns → ns'.Pairwise (· ≤ ·) → H p = none → Q (.ref p) (upd H p (.lst (ns'.map V.int)))
section
variable {X : Cx}
/-- sorted(t), t a tuple of ints -/
theorem cr_sortedU : CallR X (.builtin "sorted") (rSortedU X.K) := by
  intro pins s σ H vs us Q I r h
  obtain ⟨a, ns, rfl, hs, q⟩ := h
  obtain ⟨its, rv, hl, hz⟩ := I.tuple hs
  rw [Vals.ref1 r]
  have hi := rv.ints
  refine sorted_ordT SrtO.swo_int hl (by rw [← rv.length]; exact hz) (fun h2 h₁ a' _ _ => SrtO.ints_sortable hi h2) fun out h1 h2 => ?_
  obtain ⟨k1, k2, k3⟩ := SrtO.ints_out hi h1 h2
  obtain ⟨ep, he'⟩ := PyProof.Rows.sortedAll_at s.heap its out.toArray
  have hlen : ((out.map SrtO.iv).map V.int).length ≤ sizeLine := by
    rw [List.length_map, k2.length_eq]
    rw [List.length_map] at hz
    exact hz
  exact ⟨.ref _, upd H (s.heap.objs.size + 1) (.lst ((out.map SrtO.iv).map V.int)), I.laid (t' := s.toks) (fun _ _ => PyProof.Rows.sortedAll_old) (Nat.le_succ _) ⟨hlen, out, ep, vals_of_ints k1, he'⟩, rfl, q _ _ k2 k3 (I.hok.fresh (Nat.le_succ _))⟩
end
/-! ### t[::-1] -/
theorem adj_rev (n : Nat) : Builtin.Slice.sliceAdjust none none (-1) (n : Int) = ((n : Int) - 1, -1) := rfl
theorem pl_rev (n : Nat) : Builtin.Slice.slicePlaces ((n : Int) - 1) (-1) (-1) = n := by
  unfold Builtin.Slice.slicePlaces
  have h1 : ¬ ((-1 : Int) > 0) := by omega
  simp only [h1, if_false]
  split <;> simp <;> omega
theorem pick_rev (xs : List Value) : ((List.range xs.length).filterMap fun (m : Nat) => xs.toArray[(((xs.length : Int) - 1) + (m : Int) * (-1)).toNat]?) = xs.reverse := by
  have key : ∀ m, m ≤ xs.length → ((List.range m).filterMap fun (k : Nat) => xs.toArray[(((xs.length : Int) - 1) + (k : Int) * (-1)).toNat]?) = xs.reverse.take m := by
    intro m
    induction m with
    | zero => intro _; rfl
    | succ m ih =>
      intro hm
      rw [List.range_succ, List.filterMap_append, ih (by omega), List.take_add_one]
      have e : (((xs.length : Int) - 1) + (m : Int) * (-1)).toNat = xs.length - 1 - m := by omega
      have hl : m < xs.reverse.length := by rw [List.length_reverse]; omega
      have e2 : xs.toArray[xs.length - 1 - m]? = some (xs.reverse[m]) := by
        rw [List.getElem?_toArray, List.getElem_reverse, List.getElem?_eq_getElem]
      rw [List.getElem?_eq_getElem hl]
      simp only [List.filterMap_cons, List.filterMap_nil, e, e2, Option.toList_some]
  have := key xs.length (Nat.le_refl _)
  rw [this, List.take_of_length_le (by rw [List.length_reverse]; exact Nat.le_refl _)]
section
variable {prog : Program} {w : World} {A : Around} {E : Value → Shared → Prop} {s : Shared}
theorem sliceApplied_rev {sl : Addr} {vl vu vs : Value} {n : Nat} {Q : Int × Int × Nat → Shared → Prop} (hs : s.heap.IsSliceOf sl vl vu vs) (pl : IsPart vl none) (pu : IsPart vu none) (ps : IsPart vs (some (-1)))
    (h : Q ((n : Int) - 1, -1, n) s) : wpAny (model prog w) A (Builtin.Slice.sliceApplied (.ref sl) (pure (n : Int))) Q E s := by
  obtain ⟨os, hos, hcs, hds⟩ := id hs
  unfold Builtin.Slice.sliceApplied Builtin.Slice.sliceFields
  refine wpAny_bind (wpAny_bind (wpAny_field hos hds (x := vl) rfl (wpAny_bind (wpAny_field hos hds (x := vu) rfl (wpAny_bind (wpAny_field hos hds (x := vs) rfl (wpAny_pure ?_)))))))
  refine wpAny_bind (slicePart_ ps ?_)
  show wpAny _ _ (if ((-1 : Int) == 0) = true then _ else _) _ _ s
  rw [if_neg (by decide)]
  refine wpAny_bind (slicePart_ pl (wpAny_bind (slicePart_ pu (wpAny_bind (wpAny_pure ?_)))))
  show wpAny _ _ (match Builtin.Slice.sliceAdjust none none (-1) (n : Int) with | (lo, hi) => pure (lo, (-1 : Int), Builtin.Slice.slicePlaces lo hi (-1))) _ _ s
  rw [adj_rev n]
  show wpAny _ _ (pure ((n : Int) - 1, (-1 : Int), Builtin.Slice.slicePlaces ((n : Int) - 1) (-1) (-1))) _ _ s
  rw [pl_rev]
  exact wpAny_pure h
theorem getItem_tuple_rev {t sl : Addr} {items : List Value} {vl vu vs : Value} {Q : Value → Shared → Prop} (ht : IsTup s.heap t items.toArray) (hs : s.heap.IsSliceOf sl vl vu vs) (pl : IsPart vl none) (pu : IsPart vu none) (ps : IsPart vs (some (-1)))
    (h : Q (.ref s.heap.objs.size) { s with heap := s.heap.push { cls := .type "tuple", data := .seq items.reverse.toArray } })
    (hsz : items.length ≤ sizeLine) : wpAny (model prog w) A (getItem (.ref t) (.ref sl)) Q E s := by
  have htake : sizeOk (.seq items.reverse.toArray) := by
    show items.reverse.toArray.size ≤ sizeLine
    rw [List.size_toArray, List.length_reverse]
    omega
  obtain ⟨os, hos, hcs, hds⟩ := id hs
  have hTs : s.TypeIs (.ref sl) "slice" := ⟨os, hos, hcs⟩
  unfold getItem
  try with_reducible refine wpAny_holding ?_
  first | refine wpAny_bind (wpAny_pure ?_) | skip
  refine wpAny_bind (wpAny_sequenceKey ht.typeIs (by decide) ?_)
  refine wpAny_bind (wpAny_callSpecial?_slot (name := Str.ofString "__getitem__") ht.typeIs PyProof.Rows.slot_tuple_getitem
    (wpAny_call_entry PyProof.Rows.slot_tuple_getitem ht.typeIs entry_tuple_getitem ?_ (args_tuple_getitem _ _)))
  show wpAny _ _ (Builtin.Tuple.tupleItemsOf (.ref t) >>= _) _ _ s
  refine wpAny_bind (tupleItemsOf_ ht ?_)
  refine wpAny_bind (wpAny_typeOf hTs ?_)
  rw [if_pos (by decide)]
  rw [List.size_toArray]
  refine wpAny_bind (sliceApplied_rev hs pl pu ps ?_)
  have hno : ¬ ((((items.length : Int) - 1) == 0 && (-1 : Int) == 1 && items.length == items.length) = true) := by
    rw [show ((-1 : Int) == 1) = false from rfl, Bool.and_false, Bool.false_and]
    exact Bool.false_ne_true
  show wpAny _ _ (if (((items.length : Int) - 1) == 0 && (-1 : Int) == 1 && items.length == items.length) = true then _ else _) _ _ s
  rw [if_neg hno, pick_rev]
  first
    | exact wpAny_bind (m := Builtin.Tuple.tupleExact _) (wpAny_newObj_type (wpAny_pure ⟨_, rfl, wpAny_pure h⟩) htake)
    | exact wpAny_bind (m := Builtin.Tuple.tupleExact _) (wpAny_newObj_type (wpAny_bind (wpAny_pure (wpAny_pure ⟨_, rfl, wpAny_pure h⟩))) htake)
    | exact wpAny_bind (wpAny_bind (m := Builtin.Tuple.tupleExact _) (wpAny_newObj_type (wpAny_pure (wpAny_pure ⟨_, rfl, wpAny_pure h⟩)) htake))
    | exact wpAny_bind (wpAny_bind (m := Builtin.Tuple.tupleExact _) (wpAny_newObj_type (wpAny_pure ⟨_, rfl, wpAny_pure h⟩) htake))
end
def tRevT (K : PySem.W.Frag) (te : TE) : TE := fun σ H Q => te σ H fun x H1 => ∃ a xs, x = .ref a ∧ SqT K H1 a xs ∧ ∀ p, H1 p = none → Q (.ref p) (upd H1 p (.tup xs.reverse))
section
variable {X : Cx}
theorem pe_revT {e : Expr} {te : TE} {k : Nat} {p1 p2 p3 pos : Pos} (he : PE X e te) : PE X (.Subscript e (.Slice none none (some (.UnaryOp .USub (.Constant (.int 1) k p1) p2)) p3) pos) (tRevT X.K te) := by
  refine ⟨fun pins s σ H Q I h => ?_⟩
  refine Subscript_ (thn (he.run pins s σ H _ I h) fun v s1 ⟨x, H1, I1, r1, q1⟩ => ?_)
  obtain ⟨a, xs, ex, hx, q⟩ := q1
  subst ex
  cases r1
  have hst : PO X (some (.UnaryOp .USub (.Constant (.int 1) k p1) p2)) (tPart (tUn (rU fun i => .int (-i)) (tC (.int 1)))) := po_some (pe_un un_neg pe_int)
  refine wpAny_Slice (thn (po_none.run pins s1 σ H1 (fun o H2 => o = none ∧ H2 = H1) I1 ⟨rfl, rfl⟩) fun vl s2 ⟨l, H2, I2, pl, el, e2⟩ => ?_)
  subst el e2
  refine thn (po_none.run pins s2 σ H2 (fun o H3 => o = none ∧ H3 = H2) I2 ⟨rfl, rfl⟩) fun vu s3 ⟨u, H3, I3, pu, eu, e3⟩ => ?_
  subst eu e3
  refine thn (hst.run pins s3 σ H3 (fun o H4 => o = some (-1) ∧ H4 = H3) I3 ⟨1, rfl, -1, rfl, rfl, rfl⟩) fun vs s4 ⟨o, H4, I4, ps, eo, e4⟩ => ?_
  subst eo e4
  have I5 : Inv X pins σ H4 { s4 with heap := s4.heap.push { cls := .type "slice", data := .fields #[vl, vu, vs] } } := I4.kept (t' := s4.toks) fun b ob q => Heap.get?_push_of_some _ q
  obtain ⟨its, r, ht, hz⟩ := I5.tuple hx
  have hlen := r.length
  show wpAny (model X.prog X.w) X.A (subscriptTail e (.Slice none none (some (.UnaryOp .USub (.Constant (.int 1) k p1) p2)) p3) (.ref a) (.ref s4.heap.objs.size)) (EP X pins σ Q) X.xe { s4 with heap := s4.heap.push { cls := .type "slice", data := .fields #[vl, vu, vs] } }
  refine tail_any (ops := [.ref a, .ref s4.heap.objs.size]) ht.typeIs (PyProof.Rows.slot_tuple_getitem.lookup) ?_ (by with_unfolding_all rfl)
  refine getItem_tuple_rev ht (Heap.IsSliceOf.new _ vl vu vs) pl pu ps ?_ (by rw [← hlen]; exact hz)
  refine ⟨.ref _, _, I5.laid (t' := s4.toks) (o := .tup xs.reverse) (fun b ob q => Heap.get?_push_of_some _ q) (Nat.le_refl _) ?_, rfl, q _ (I5.hok.fresh (Nat.le_refl _))⟩
  exact ⟨by rw [List.length_reverse]; exact hz, _, r.reverse, IsTup.new _ _⟩
end
/-! ### t * k, k from 1 on -/
theorem tuple_mulW1 (l : Addr) (items : Array Value) (n : Nat) (dd : Option Addr) (sl : Array (Option Value)) (u : Tok) :
    Meets (Builtin.«tuple.__mul__» ⟨[.ref l, .int 1 u], []⟩) (fun _ R s => s.heap.get? l = some { cls := .type "tuple", dict := dd, data := .seq items n, slots := sl } ∧ R (.ok (.ret (Value.ref l))) s) :=
  .of_wp fun prog w A R s h => by
    obtain ⟨hp, g, d, tk, os⟩ := s
    obtain ⟨hl, h⟩ := h
    have f1 := AutoSeq1.idx_int
    have c0 : (decide ((1 : Int) < -(2 ^ 63)) || decide ((1 : Int) ≥ 2 ^ 63)) = false := by decide
    have c1 : (items.isEmpty || (1 : Int) == 1) = true := by rw [show ((1 : Int) == 1) = true from rfl, Bool.or_true]
    wp_walk using wpAny_loadPart' hl
    repeat (first
      | (refine wpAny_ite_false (decide_eq_false (by rw [c0]; exact Bool.false_ne_true)) ?_; wp_walk using wpAny_loadPart' hl)
      | (refine wpAny_ite_true (decide_eq_true c1) ?_; wp_walk using wpAny_loadPart' hl))
    exact ⟨_, rfl, h⟩
def rRepA (K : PySem.W.Frag) : R2 := fun x y H Q => ∃ l k xs, x = .ref l ∧ y = .int k ∧ SqT K H l xs ∧ xs ≠ [] ∧ 1 ≤ k ∧ k ≤ 1000 ∧ xs.length ≤ 1000 ∧ (k = 1 → Q (.ref l) H) ∧ (k ≠ 1 → ∀ p, H p = none → Q (.ref p) (upd H p (.tup (List.replicate k.toNat xs).flatten)))
section
variable {X : Cx}
theorem op_repA : OpR X (binaryOp .Mult) (rRepA X.K) := by
  intro pins s σ H x y v u Q I rx ry h
  obtain ⟨l, k, xs, rfl, rfl, hT, hne, h1, h2, hz, q1, q2⟩ := h
  by_cases hk : k = 1
  · subst hk
    cases rx
    obtain ⟨t, rfl⟩ := ry
    obtain ⟨its, r, ⟨⟨cls, dd, data, sl⟩, ho, hc, n, hd⟩, hs⟩ := I.tuple hT
    simp only at hc hd
    subst hc hd
    refine wpAny_binaryOp_repeat_ref (T := "tuple") (U := "int") (by decide) ⟨_, ho, rfl⟩ (fun s' => typeIs_int s' 1 t) noFill_tuple_mul F.fills_int_mul F.slot_int_rmul repeat_tuple F.slot_int_index.lookup
      (call_meets F.slot_int_rmul (typeIs_int s 1 t) F.entry_int_rmul (F.args_int_rmul_2 _ _) (int_rmul_tuple 1 t l its.toArray n dd sl)
        ⟨ho, rfl, ⟨_, ho, rfl⟩, call_meets F.slot_tuple_mul ⟨_, ho, rfl⟩ F.entry_tuple_mul (F.args_tuple_mul_2 _ _) (tuple_mulW1 l its.toArray n dd sl t) ⟨ho, ?_⟩⟩)
    exact ⟨.ref l, H, I, rfl, q1 rfl⟩
  · exact op_repT pins s σ H _ _ v u Q I rx ry ⟨l, k, xs, rfl, rfl, hT, hne, by omega, h2, hz, q2 hk⟩
end
end RR

/-! ## enumerate over a tuple; an empty tuple times k -/
namespace RR
open PySem PySem.Spec PyProof.Rows L2 HT
open Sem (wp)
open AutoSeq1 (wpAny_loadPart')
section
variable {prog : Program} {w : World} {A : Around} {E : Value → Shared → Prop} {s : Shared}
theorem next_tuple_item {it t : Addr} {i : Nat} {items} {x : Value} {Q : Value → Shared → Prop} (hit : s.heap.IsTupleIter it t i)
    (ht : s.heap.IsTuple t items) (hx : items[i]? = some x)
    (hQ : ∀ h', h'.IsTupleIter it t (i + 1) → Heap.SameBut it s.heap h' → Q x { s with heap := h' }) :
    wpAny (model prog w) A (Builtin.SmallTypes.nextOf (.ref it)) Q E s := by
  obtain ⟨o, ho, hc, hd⟩ := id hit
  obtain ⟨ol, hol, _, nl, hdl⟩ := ht
  unfold Builtin.SmallTypes.nextOf
  refine wpAny_bind (wpAny_callSpecial?_slot (name := Str.ofString "__next__") hit.typeIs F.slot_tuple_iterator_next
    (wpAny_call_entry F.slot_tuple_iterator_next hit.typeIs F.entry_tuple_iterator_next ?_ (F.args_tuple_iterator_next_1 _)))
  show wpAny _ _ (field (.ref it) 0 >>= _) _ _ s
  refine wpAny_bind (wpAny_field ho hd (x := .ref t) rfl ?_)
  show wpAny _ _ (if (Value.ref t == Value.none) = true then _ else _) _ _ s
  rw [if_neg (show ¬ ((Value.ref t == Value.none) = true) from Bool.false_ne_true)]
  show wpAny _ _ (field (.ref it) 1 >>= _) _ _ s
  refine wpAny_bind (wpAny_field ho hd (x := .int i 0) rfl ?_)
  show wpAny _ _ (seqItems? (.ref t) >>= _) _ _ s
  refine wpAny_bind (wpAny_seqItems hol hdl ?_)
  simp only [Int.toNat_natCast, hx]
  refine wpAny_bind (wpAny_setField ho hd (by simp) (wpAny_pure ⟨x, rfl, wpAny_pure (hQ _ ?_ (Heap.SameBut.update ..))⟩))
  exact ⟨_, Heap.get?_update_self _ ho (Obj.isFreed_of_fields (Obj.data_mapFields hd _)), (Obj.cls_mapFields ..).trans hc, by
    rw [Obj.data_mapFields hd]; simp [rawInt]⟩
theorem next_tuple_end {it t : Addr} {i : Nat} {items} {Q : Value → Shared → Prop} (hh : A.handled = none)
    (hit : s.heap.IsTupleIter it t i) (ht : s.heap.IsTuple t items) (hx : items[i]? = none)
    (hE : ∀ h' e, Heap.ExtBut it s.heap h' → (∃ o, h'.get? e = some o ∧ o.cls = .type "StopIteration") → E (.ref e) { s with heap := h' }) :
    wpAny (model prog w) A (Builtin.SmallTypes.nextOf (.ref it)) Q E s := by
  obtain ⟨o, ho, hc, hd⟩ := id hit
  obtain ⟨ol, hol, _, nl, hdl⟩ := ht
  unfold Builtin.SmallTypes.nextOf
  refine wpAny_bind (wpAny_callSpecial?_slot (name := Str.ofString "__next__") hit.typeIs F.slot_tuple_iterator_next
    (wpAny_call_entry F.slot_tuple_iterator_next hit.typeIs F.entry_tuple_iterator_next ?_ (F.args_tuple_iterator_next_1 _)))
  show wpAny _ _ (field (.ref it) 0 >>= _) _ _ s
  refine wpAny_bind (wpAny_field ho hd (x := .ref t) rfl ?_)
  show wpAny _ _ (if (Value.ref t == Value.none) = true then _ else _) _ _ s
  rw [if_neg (show ¬ ((Value.ref t == Value.none) = true) from Bool.false_ne_true)]
  show wpAny _ _ (field (.ref it) 1 >>= _) _ _ s
  refine wpAny_bind (wpAny_field ho hd (x := .int i 0) rfl ?_)
  show wpAny _ _ (seqItems? (.ref t) >>= _) _ _ s
  refine wpAny_bind (wpAny_seqItems hol hdl ?_)
  simp only [Int.toNat_natCast, hx]
  refine wpAny_bind (wpAny_rule (wpAny_bind (wpAny_setField ho hd (by simp) ?_)))
  show wpAny _ _ (newExc (.type "StopIteration") [] >>= _) _ _ _
  refine wpAny_bind ?_
  simp only [newExc, newTuple]
  refine wpAny_bind (wpAny_newObj_type ?_ (by size_fits))
  refine wpAny_bind (m := firstArgMember _ _) (wpAny_of_eq (a := Value.none) (by first | rfl | (simp only [firstArgMember]; rfl)) ?_)
  refine wpAny_newObj_type ?_ (by size_fits)
  simp only [raiseNew]
  refine wpAny_bind (wpAny_handled ?_)
  first | rw [show A.in1.handled = none from hh] | rw [hh]
  refine wpAny_bind (wpAny_pure (wpAny_throw ?_))
  exact hE _ _ (((Heap.SameBut.update ..).extBut.push _).push _) ⟨_, Heap.get?_push_size _ rfl, rfl⟩
end
theorem tup_at {h h' : Heap} {a : Addr} {items} (x : h.IsTuple a items) (e : ∀ o, h.get? a = some o → h'.get? a = some o) : h'.IsTuple a items := let ⟨o, ho, r⟩ := x; ⟨o, e _ ho, r⟩
theorem draws_tuple {prog : Program} {w : World} {A : Around} (hh : A.handled = none) (it l : Addr) (hne : l ≠ it) (items : Array Value) :
    Draws prog w A it [it, l] items.size (fun i v => items[i]? = some v) (fun i h => h.IsTupleIter it l i ∧ h.IsTuple l items) where
  live := fun _ _ st => let ⟨o, ho, _⟩ := st.1; ⟨o, ho⟩
  frame := fun _ _ _ st hk => ⟨st.1.at fun o e => hk it (by simp) o e, tup_at st.2 fun o e => hk l (by simp) o e⟩
  item := fun i s Q E hi st hQ => by
    refine next_tuple_item st.1 st.2 (x := items[i]) (by simp [hi]) fun h' hit' hs' => ?_
    exact hQ _ h' s.toks (by simp [hi]) ⟨hit', st.2.extBut hs'.extBut hne⟩ hs'
  done := fun s Q E st hE => next_tuple_end hh st.1 st.2 (by simp) hE
theorem enumerate_newT (l : Addr) (items : Array Value) (n : Nat) (dct : Option Addr) (sl : Array (Option Value)) :
    Meets (Builtin.«enumerate.__new__» ⟨[.type "enumerate", .ref l], []⟩) (fun _ R s => s.heap.get? l = some { cls := .type "tuple", dict := dct, data := .seq items n, slots := sl } ∧
      R (.ok (.ret (.ref (s.heap.push { cls := .type "tuple_iterator", data := .fields #[.ref l, .int 0 0] }).objs.size)))
        { s with heap := (s.heap.push { cls := .type "tuple_iterator", data := .fields #[.ref l, .int 0 0] }).push { cls := .type "enumerate", data := .fields #[.none, .bool false, .ref s.heap.objs.size, rawInt 0, .none, .none] } }) :=
  .of_wp fun prog w A R s h => by
    obtain ⟨hp, g, d, tk, os⟩ := s; obtain ⟨hl, h⟩ := h
    have hsub := sub_enumerate
    have hL : Heap.IsTuple (Shared.heap ⟨hp, g, d, tk, os⟩) l items := ⟨_, hl, rfl, n, rfl⟩
    wp_walk using wpAny_loadPart' hl
    refine wpAny_stack_any fun st => wpAny_pure ?_
    split
    · rename_i c _ _ _ _ _
      cases (c == Value.type "enumerate")
      · wp_walk using wpAny_loadPart' hl, wpAny_pyIter_tuple hL
        exact ⟨_, rfl, h⟩
      · wp_walk using wpAny_loadPart' hl, wpAny_pyIter_tuple hL
        exact ⟨_, rfl, h⟩
    · wp_walk using wpAny_loadPart' hl, wpAny_pyIter_tuple hL
      exact ⟨_, rfl, h⟩
section
variable {prog : Program} {w : World} {A : Around} {E : Value → Shared → Prop} {s : Shared}
theorem call_enumerate_tuple {l : Addr} {items : Array Value} {Q : Value → Shared → Prop} (hL : s.heap.IsTuple l items)
    (h : ∀ h', IsEnum h' (s.heap.objs.size + 1) s.heap.objs.size 0 .none → h'.IsTupleIter s.heap.objs.size l 0 → h'.objs.size = s.heap.objs.size + 2 →
      (∀ b o, s.heap.get? b = some o → h'.get? b = some o) → Q (.ref (s.heap.objs.size + 1)) { s with heap := h' }) :
    wpAny (model prog w) A (call (.type "enumerate") [.ref l]) Q E s := by
  obtain ⟨⟨c, dct, dt, sl⟩, hl, hc, n, hd⟩ := hL
  replace hc : c = .type "tuple" := hc
  replace hd : dt = .seq items n := hd
  subst hc hd
  refine callType_new F.called_enumerate (by decide) (F.typeCall_enumerate_1 _) (F.newCall_enumerate_1 _) (fun obj => F.args_object_init_2 obj _) F.entry_enumerate_new
    (enumerate_newT l items n dct sl) ⟨hl, ?_⟩
  have hz : (s.heap.push { cls := .type "tuple_iterator", data := .fields #[.ref l, .int 0 0] }).objs.size = s.heap.objs.size + 1 := Heap.size_push ..
  show _ ∧ _
  rw [hz]
  have he : IsEnum ((s.heap.push { cls := .type "tuple_iterator", data := .fields #[.ref l, .int 0 0] }).push
      { cls := .type "enumerate", data := .fields #[.none, .bool false, .ref s.heap.objs.size, rawInt 0, .none, .none] }) (s.heap.objs.size + 1) s.heap.objs.size 0 .none := by
    have := Heap.get?_push_size (s.heap.push { cls := .type "tuple_iterator", data := .fields #[.ref l, .int 0 0] })
      (o := { cls := .type "enumerate", data := .fields #[.none, .bool false, .ref s.heap.objs.size, rawInt 0, .none, .none] }) rfl
    rw [hz] at this; exact this
  refine ⟨⟨_, he, rfl⟩, h _ he ⟨_, Heap.get?_push_of_some _ (Heap.get?_push_size _ rfl), rfl, rfl⟩ (by rw [Heap.size_push, hz]) fun b o x => Heap.get?_push_of_some _ (Heap.get?_push_of_some _ x)⟩
end
/-- the tuple at a, each item in a new pair -/
def IteT (K : PySem.W.Frag) (a : Addr) : It :=
  ⟨fun i H => ∃ (xs : List V) (x : V), SqT K H a xs ∧ xs[i]? = some x, fun i H v H' => ∃ T x, v = .ref T ∧ H T = none ∧ H' = upd H T (.tup [.int (i : Nat), x]) ∧ ∀ xs, SqT K H a xs → xs[i]? = some x, fun i H => ∃ xs : List V, SqT K H a xs ∧ xs.length ≤ i⟩
theorem turn_enumT {P : Program} {w : World} {K : PySem.W.Frag} {elts : List Expr} {kk : Nat} {tpos : Pos} (a e it : Addr) :
    Turn P w K (.Tuple elts kk tpos) (IteT K a) [e, it] e (fun i h => (∃ old, IsEnum h e it ((i : Nat) : Int) old) ∧ h.IsTupleIter it a i ∧ e ≠ it ∧ a ≠ it ∧ a ≠ e) where
  mem := by simp
  obj := fun i h st b hb => by
    obtain ⟨⟨old, he⟩, ⟨o, ho, hc, hd⟩, _⟩ := st
    have e' : b = e ∨ b = it := by simpa using hb
    rcases e' with z | z
    · rw [z]; exact ⟨_, he, fun v q => nomatch q⟩
    · rw [z]; exact ⟨o, ho, fun v q => by rw [hd] at q; cases q⟩
  keep := fun i h h' st k => let ⟨⟨old, he⟩, hi, hne⟩ := st; ⟨⟨old, k e (by simp) _ he⟩, hi.at fun o q => k it (by simp) o q, hne⟩
  item := by
    intro X hP hw hK hc i pins s σ H E I hf st hg
    subst hP hw hK
    obtain ⟨⟨old, he⟩, hit, hne, hai, hae⟩ := st
    obtain ⟨xs, x, hq, hx⟩ := hg
    obtain ⟨its, rv, p, hz⟩ := I.tuple hq
    obtain ⟨u, hu, ru⟩ := rv.get hx
    have hel : e < s.heap.objs.size := Heap.lt_size he
    have hil : it < s.heap.objs.size := by obtain ⟨_, q, _⟩ := hit; exact Heap.lt_size q
    have hlt : i < its.toArray.size := by
      have := (List.getElem?_eq_some_iff.mp hu).1
      simpa using this
    refine wpAny_pyNext_enum_itemD (draws_tuple (prog := X.prog) (w := X.w) (A := X.A.in1) (show X.A.in1.handled = none from I.ok.hd hc) it a hai its.toArray) he ⟨hit, (show s.heap.IsTuple a its.toArray from p)⟩ hlt hne (by simp [hne, Ne.symm hae]) fun y h' tk hy ho hst' hT hsz hk => ?_
    have hyu : y = u := by
      have h2 : its.toArray[i]? = some u := by simpa using hu
      exact Option.some.inj (hy.symm.trans h2)
    subst hyu
    refine ⟨_, rfl, wpAny_letOwnedTupleGo_enum (s := { s with heap := h', toks := tk + 1 }) ho fun h'' he' sb => ?_⟩
    have hT2 : h''.get? s.heap.objs.size = some { cls := .type "tuple", data := .seq #[.int i tk, y] } := (sb.2 _ (Nat.ne_of_gt hel)).trans hT
    have new : ObjOk X.prog X.w (upd H s.heap.objs.size (.tup [.int (i : Nat), x])) h'' s.heap.objs.size (.tup [.int (i : Nat), x]) :=
      ⟨by show 2 ≤ sizeLine; decide, [.int i tk, y], .cons ⟨_, rfl⟩ (.cons ru .nil), ⟨_, hT2, rfl, _, rfl⟩⟩
    have I1 : Inv X pins σ (upd H s.heap.objs.size (.tup [.int (i : Nat), x])) { s with heap := h'', toks := tk + 1 } :=
      I.turnedNew (ch := [e, it]) (fun b ob hb q => (sb.2 b (fun z => hb (by simp [z]))).trans (hk b ob (fun z => hb (by simp [z])) (fun z => hb (by simp [z])) q)) hf (Nat.le_refl _) new
    refine ⟨.ref s.heap.objs.size, _, I1, rfl, ⟨_, x, rfl, I.hok.fresh (Nat.le_refl _), rfl, fun ys hy => by rw [I.tuple_inj hy hq]; exact hx⟩, ⟨⟨y, ?_⟩, hst'.1.at fun o q => (sb.2 it (Ne.symm hne)).trans q, hne, hai, hae⟩, fun b hb => ?_⟩
    · have e1 : ((i + 1 : Nat) : Int) = (i : Int) + 1 := by omega
      rw [e1]; exact he'
    · have hb' : b < s.heap.objs.size := by
        have e' : b = e ∨ b = it := by simpa using hb
        rcases e' with z | z
        · rw [z]; exact hel
        · rw [z]; exact hil
      rw [upd_ne (Nat.ne_of_lt hb')]
      exact (hf b hb).1
  done := by
    intro X hP hw hK hc i pins s σ H E I hf st hg
    subst hP hw hK
    obtain ⟨⟨old, he⟩, hit, hne, hai, hae⟩ := st
    obtain ⟨xs, hq, hx⟩ := hg
    obtain ⟨its, rv, p, hz⟩ := I.tuple hq
    obtain ⟨f0, f1, f2, f3, f4, f5⟩ := hf it (by simp)
    have hl := rv.length
    have hT : s.TypeIs (.ref e) "enumerate" := ⟨_, he, rfl⟩
    unfold pyNext
    refine wpAny_bind (wpAny_attempt (wpAny_callSpecial?_slot (name := Str.ofString "__next__") hT F.slot_enumerate_next
      (wpAny_call_entry F.slot_enumerate_next hT F.entry_enumerate_next ?_ (F.args_enumerate_next_1 _))))
    show wpAny _ _ (field (.ref e) 2 >>= _) _ _ _
    refine wpAny_bind (wpAny_field he rfl (x := .ref it) rfl ?_)
    refine wpAny_bind (next_tuple_end (I.ok.hd hc) hit (show s.heap.IsTuple a its.toArray from p) (by simp; omega) fun h' x eb hx' => ?_)
    obtain ⟨o, ho, hc'⟩ := hx'
    refine wpAny_bind (wpAny_isInstance (T := "StopIteration") (b := true) ⟨o, ho, hc'⟩ isSubtype_stop ?_)
    exact wpAny_pure ⟨rfl, I.turned (t' := s.toks) (fun b o hb q => eb b o hb q) f0 f1 f3 f4 f5⟩
  self := fun A i s Q E st h => let ⟨⟨_, he⟩, _⟩ := st; wpAny_pyIter_enum he h
def iEnumT (K : PySem.W.Frag) (ta : TA) : TI := fun σ H R => ta σ H fun vs H1 => ∃ a xs, vs = [.ref a] ∧ SqT K H1 a xs ∧ R (IteT K a) H1
theorem pi_enumT {X : Cx} {e : Expr} {ta : TA} {p pos tpos : Pos} {elts : List Expr} {kk : Nat} (hg : Gl X "enumerate") (hm : X.mg "enumerate" = none) (ha : PA X [e] ta) (hs : starEach [e] X.env = [(false, eval e X.env)] := by rfl) :
    PI X (.Tuple elts kk tpos) (.Call (.Name "enumerate" p) [e] [] pos) (iEnumT X.K ta) := by
  refine ⟨fun pins s σ H R I h => ?_⟩
  refine Call_ (ld_blt I hg hm boot_enumerate (PyProof.Rows.callWith_type1 (thn (ha.run pos pins s σ H _ I h) fun us s1 ⟨vs, H1, I1, r1, q1⟩ => ?_) hs rfl))
  obtain ⟨a, xs, ex, hq, q⟩ := q1
  subst ex
  cases r1 with
  | cons r rr =>
    cases rr
    cases r
    obtain ⟨its, rv, p', hz⟩ := I1.tuple hq
    have hp : s1.heap.IsTuple a its.toArray := p'
    have hal : a < s1.heap.objs.size := by obtain ⟨_, q, _⟩ := hp; exact Heap.lt_size q
    refine call_enumerate_tuple hp fun h' he hit hsz hk => wpAny_pyIter_enum he ?_
    have I2 : Inv X pins σ H1 { s1 with heap := h' } := I1.kept (t' := s1.toks) hk
    refine ⟨s1.heap.objs.size + 1, [s1.heap.objs.size + 1, s1.heap.objs.size], _, _, H1, rfl, I2, turn_enumT a (s1.heap.objs.size + 1) s1.heap.objs.size, ⟨⟨.none, he⟩, hit, Nat.succ_ne_self _, Nat.ne_of_lt hal, Nat.ne_of_lt (Nat.lt_succ_of_lt hal)⟩, fun b hb => ?_, q⟩
    have e' : b = s1.heap.objs.size + 1 ∨ b = s1.heap.objs.size := by simpa using hb
    have hle : s1.heap.objs.size ≤ b := by
      rcases e' with z | z
      · rw [z]; exact Nat.le_add_right _ _
      · rw [z]; exact Nat.le_refl _
    exact I1.fpOk hle (I1.hok.fresh hle)
theorem for_enumT {K : PySem.W.Frag} {a : Addr} {xs : List V} {g : TG} {tb : TS} {D : Ends} {σ : L2.St} {H : Hp} (Pv : Nat → L2.St → Hp → Prop) (h0 : Pv 0 σ H) (hl : ∀ i σ H, i ≤ xs.length → Pv i σ H → SqT K H a xs)
    (hs : ∀ i x T σ H, xs[i]? = some x → Pv i σ H → H T = none → g (.ref T) σ (upd H T (.tup [.int (i : Nat), x])) fun σ2 H2 => tb { D with nx := Pv (i + 1), ct := Pv (i + 1), bk := D.nx } σ2 H2) (hd : ∀ σ H, Pv xs.length σ H → D.nx σ H) :
    ∃ W : Nat → Nat → L2.St → Hp → Prop, (∃ m, W 0 m σ H) ∧ ∀ i m σ H, W i m σ H →
      ((IteT K a).stop i H ∧ D.nx σ H) ∨ ((IteT K a).go i H ∧ ∃ N : L2.St → Hp → Prop, (∀ σ' H', N σ' H' → ∃ m', m' < m ∧ W (i + 1) m' σ' H') ∧ ∀ x H', (IteT K a).yld i H x H' → g x σ H' fun σ2 H2 => tb { D with nx := N, ct := N, bk := D.nx } σ2 H2) := by
  refine ⟨fun i m σ H => m = xs.length - i ∧ i ≤ xs.length ∧ Pv i σ H, ⟨xs.length, by simp, Nat.zero_le _, h0⟩, ?_⟩
  rintro i m σ H ⟨rfl, hi, p⟩
  have hL := hl i σ H hi p
  by_cases h : i < xs.length
  · refine .inr ⟨⟨xs, xs[i], hL, List.getElem?_eq_getElem h⟩, Pv (i + 1), fun σ' H' n => ⟨xs.length - (i + 1), by omega, rfl, by omega, n⟩, ?_⟩
    rintro v H' ⟨T, x, rfl, nT, rfl, hx⟩
    exact hs i x T σ H (hx xs hL) p nT
  · have e : i = xs.length := by omega
    subst e
    exact .inl ⟨⟨xs, hL, Nat.le_refl _⟩, hd σ H p⟩
theorem for_enumL {K : PySem.W.Frag} {a : Addr} {xs : List V} {g : TG} {tb : TS} {D : Ends} {σ : L2.St} {H : Hp} (Pv : Nat → L2.St → Hp → Prop) (h0 : Pv 0 σ H) (hl : ∀ i σ H, i ≤ xs.length → Pv i σ H → SqL K H a xs)
    (hs : ∀ i x T σ H, xs[i]? = some x → Pv i σ H → H T = none → g (.ref T) σ (upd H T (.tup [.int (i : Nat), x])) fun σ2 H2 => tb { D with nx := Pv (i + 1), ct := Pv (i + 1), bk := D.nx } σ2 H2) (hd : ∀ σ H, Pv xs.length σ H → D.nx σ H) :
    ∃ W : Nat → Nat → L2.St → Hp → Prop, (∃ m, W 0 m σ H) ∧ ∀ i m σ H, W i m σ H →
      ((Ite K a).stop i H ∧ D.nx σ H) ∨ ((Ite K a).go i H ∧ ∃ N : L2.St → Hp → Prop, (∀ σ' H', N σ' H' → ∃ m', m' < m ∧ W (i + 1) m' σ' H') ∧ ∀ x H', (Ite K a).yld i H x H' → g x σ H' fun σ2 H2 => tb { D with nx := N, ct := N, bk := D.nx } σ2 H2) := by
  refine ⟨fun i m σ H => m = xs.length - i ∧ i ≤ xs.length ∧ Pv i σ H, ⟨xs.length, by simp, Nat.zero_le _, h0⟩, ?_⟩
  rintro i m σ H ⟨rfl, hi, p⟩
  have hL := hl i σ H hi p
  by_cases h : i < xs.length
  · refine .inr ⟨⟨xs, xs[i], hL, List.getElem?_eq_getElem h⟩, Pv (i + 1), fun σ' H' n => ⟨xs.length - (i + 1), by omega, rfl, by omega, n⟩, ?_⟩
    rintro v H' ⟨T, x, rfl, nT, rfl, hx⟩
    exact hs i x T σ H (hx xs hL) p nT
  · have e : i = xs.length := by omega
    subst e
    exact .inl ⟨⟨xs, hL, Nat.le_refl _⟩, hd σ H p⟩
/-! ### () * k -/
theorem tuple_mul0 (l : Addr) (n : Nat) (dd : Option Addr) (sl : Array (Option Value)) (x : Int) (u : Tok) (c0 : (decide (x < -(2 ^ 63)) || decide (x ≥ 2 ^ 63)) = false) :
    Meets (Builtin.«tuple.__mul__» ⟨[.ref l, .int x u], []⟩) (fun _ R s => s.heap.get? l = some { cls := .type "tuple", dict := dd, data := .seq #[] n, slots := sl } ∧ R (.ok (.ret (Value.ref l))) s) :=
  .of_wp fun prog w A R s h => by
    obtain ⟨hp, g, d, tk, os⟩ := s
    obtain ⟨hl, h⟩ := h
    have f1 := AutoSeq1.idx_int
    have c1 : ((#[] : Array Value).isEmpty || x == 1) = true := rfl
    wp_walk using wpAny_loadPart' hl
    repeat (first
      | (refine wpAny_ite_false (decide_eq_false (by rw [c0]; exact Bool.false_ne_true)) ?_; wp_walk using wpAny_loadPart' hl)
      | (refine wpAny_ite_true (decide_eq_true c1) ?_; wp_walk using wpAny_loadPart' hl))
    exact ⟨_, rfl, h⟩
def rRepZ (K : PySem.W.Frag) : R2 := fun x y H Q => ∃ l k xs, x = .ref l ∧ y = .int k ∧ SqT K H l xs ∧ 1 ≤ k ∧ k ≤ 1000 ∧ xs.length ≤ 1000 ∧ ∀ p H', (∀ b o, H b = some o → H' b = some o) → SqT K H' p (List.replicate k.toNat xs).flatten → Q (.ref p) H'
theorem flat_nil {α : Type} (k : Nat) : (List.replicate k ([] : List α)).flatten = [] := by
  induction k with
  | zero => rfl
  | succ k ih => rw [List.replicate_succ, List.flatten_cons, ih]; rfl
theorem op_repZ {X : Cx} : OpR X (binaryOp .Mult) (rRepZ X.K) := by
  intro pins s σ H x y v u Q I rx ry h
  obtain ⟨l, k, xs, rfl, rfl, hT, h1, h2, hz, q⟩ := h
  by_cases hne : xs = []
  · subst hne
    cases rx
    obtain ⟨t, rfl⟩ := ry
    obtain ⟨its, r, ⟨⟨cls, dd, data, sl⟩, ho, hc, n, hd⟩, hs⟩ := I.tuple hT
    simp only at hc hd
    subst hc hd
    cases r
    have c0 : (decide (k < -(2 ^ 63)) || decide (k ≥ 2 ^ 63)) = false := by
      rw [decide_eq_false (by omega), decide_eq_false (by omega)]
      rfl
    refine wpAny_binaryOp_repeat_ref (T := "tuple") (U := "int") (by decide) ⟨_, ho, rfl⟩ (fun s' => typeIs_int s' k t) noFill_tuple_mul F.fills_int_mul F.slot_int_rmul repeat_tuple F.slot_int_index.lookup
      (call_meets F.slot_int_rmul (typeIs_int s k t) F.entry_int_rmul (F.args_int_rmul_2 _ _) (int_rmul_tuple k t l #[] n dd sl)
        ⟨ho, rfl, ⟨_, ho, rfl⟩, call_meets F.slot_tuple_mul ⟨_, ho, rfl⟩ F.entry_tuple_mul (F.args_tuple_mul_2 _ _) (tuple_mul0 l n dd sl k t c0) ⟨ho, ?_⟩⟩)
    exact ⟨.ref l, H, I, rfl, q l H (fun _ _ h => h) (by rw [flat_nil]; exact hT)⟩
  · refine op_repA pins s σ H _ _ v u Q I rx ry ⟨l, k, xs, rfl, rfl, hT, hne, h1, h2, hz, fun e => ?_, fun e p np => ?_⟩
    · refine q l H (fun _ _ h => h) ?_
      subst e
      show SqT X.K H l ([xs]).flatten
      simpa using hT
    · refine q p _ (fun b o e => by rw [upd_ne (ne_of_none e np)]; exact e) (SqT.of upd_same)
end RR

/-! ### exceptions of own classes as values: made, asked for their class -/
namespace EX6
open PySem PySem.Spec PyProof.Rows L2
/-- C(e, ..) as a value, C an exception class with its own __init__ -/
def tNewE (C : Addr) (sp : Sp) (dvs : List V) (ta : TA) : TE := fun σ H Q => ta σ H fun vs H1 => vs.length ≤ 1000 ∧ ∀ a, H1 a = none → sp (.ref a :: (vs ++ dvs)) (upd H1 a (exo a C none)) (fun v H2 => v = .non ∧ Q (.ref a) H2) (fun _ _ _ => False)
theorem pe_newE {X : Cx} {CX : CXT} {x : Str} {C fI : Addr} {k : Nat} {fd : FuncData} {ps : List Str} {sp : Sp} {ds : List Value} {dvs : List V} {e : Expr} {es : List Expr} {ta : TA} {p pos : Pos} (T : OexC X.K C) (iC : PySem.W.findIn X.K (.ref C) "__init__" = some (some (.ref fI))) (tI : PySem.W.typeIn X.K (.ref fI) = some (.type "function"))
    (F1 : FnOk X.prog X.w X.K X.mg X.base CX k fI fd ps sp) (hr : Room (k + 1) X.A) (hb : Binds X.K fd ps ds) (hd : Vals dvs ds) (hx : Passes CX X (fun _ _ _ => False)) (hg : Gl X x) (hm : X.mg x = some (.ref C)) (ha : PA X (e :: es) ta)
    (hdb : (x == ("__debug__" : Str)) = false := by decide) (he : starEach (e :: es) X.env = (false, eval e X.env) :: starEach es X.env := by rfl) (hpl : (backTo pos (starEach es X.env)).any (·.1) = false := by rfl) :
    PE X (.Call (.Name x p) (e :: es) [] pos) (tNewE C sp dvs ta) := by
  refine ⟨fun pins s σ H Q I h => ?_⟩
  obtain ⟨nm, q, N, bs, bm, sn, sub, ab, col, dd, k0, k1, k2, k3, k5, hC, hbm⟩ := T.cls
  refine wpAny_Call_Name_kw (ld_glob I hg hm ?_ hdb)
  refine PySem.W.callWith_K (h₀ := X.base) I.ok.mod.kin T.kC (thn (ha.run pos pins s σ H _ I h) fun us s1 ⟨vs, H1, I1, r1, hz, q1⟩ => ⟨I1.kIn, ?_⟩) he hpl
  show wpAny _ _ (call (.ref C) us) _ _ _
  obtain ⟨hp, g, dr, tk, os⟩ := s1
  have hsz : hp.objs.size ≤ hp.objs.size + 1 := Nat.le_succ _
  have hn : H1 (hp.objs.size + 1) = none := I1.hok.fresh hsz
  have hq := q1 (hp.objs.size + 1) hn
  have kk : ∀ b o, hp.get? b = some o → ((hp.push (PySem.W.kdv_tup us)).push (PySem.HandSPX.excO C hp.objs.size)).get? b = some o := fun b o e => Heap.get?_push_of_some _ (Heap.get?_push_of_some _ e)
  have hget : ((hp.push (PySem.W.kdv_tup us)).push (PySem.HandSPX.excO C hp.objs.size)).get? (hp.objs.size + 1) = some (PySem.HandSPX.excO C hp.objs.size) := by heap_get
  have I2 : Inv X pins σ (upd H1 (hp.objs.size + 1) (exo (hp.objs.size + 1) C none)) ⟨(hp.push (PySem.W.kdv_tup us)).push (PySem.HandSPX.excO C hp.objs.size), g, dr, tk, os⟩ :=
    I1.laid (t' := tk) (a := hp.objs.size + 1) (o := exo (hp.objs.size + 1) C none) (h' := (hp.push (PySem.W.kdv_tup us)).push (PySem.HandSPX.excO C hp.objs.size)) kk hsz (exo_ok hget)
  have r2 : Vals (V.ref (hp.objs.size + 1) :: (vs ++ dvs)) (Value.ref (hp.objs.size + 1) :: (us ++ ds)) := .cons rfl (r1.append hd)
  have hl : (Value.ref (hp.objs.size + 1) :: us ++ ds).length = ps.length := by
    have e := r2.length
    rw [F1.len _ _ _ _ hq] at e
    exact e.symm
  have hus : us.length ≤ sizeLine := by
    rw [← Paired.length r1, sizeLine_eq]
    omega
  refine wpAny_call (PySem.HandSPX.call_own F.excBase_ValueError (fun Y => PySem.HandSPX.refsVE_contains Y bm hbm) (I1.kIn _ _ hC) (PySem.W.looks_findIn I1.kIn iC) (fun self => PySem.W.bind_fn I1.kIn self tI) hus
    (codeAny_mono (F1.run _ X.stack _ _ ⟨Value.ref (hp.objs.size + 1) :: us, []⟩ (Value.ref (hp.objs.size + 1) :: (us ++ ds)) _ _ (fun _ _ _ => False) (hr.make C us []) (I2.env0.make C us []) (hb _ (Value.ref (hp.objs.size + 1) :: us) I2.kIn hl) r2 hq) fun r s' hq' => ?_))
  cases r with
  | error er => exact hx pins σ _ _ er s' I2 hq'
  | ok fl =>
    cases fl with
    | ret u =>
      obtain ⟨v, H', I3, rv, ev, q3⟩ := I2.after hq'
      subst ev
      exact ⟨rv, ⟨V.ref (hp.objs.size + 1), H', I3, rfl, q3⟩⟩
    | next => exact False.elim hq'
    | brk => exact False.elim hq'
    | cont => exact False.elim hq'
/-- isinstance(e, c), e an exception of the own class at C that stands in the heap with its dict -/
def rIsX (K : PySem.W.Frag) (C : Addr) : List V → Hp → VK → Prop := fun xs H Q => ∃ (a d : Addr) (fs : List (Str × V)) (c : V) (cv : Value) (b : Bool), xs = [.ref a, c] ∧ H a = some (exo a C (some d)) ∧ H d = some (exd d fs) ∧ ClsV c cv ∧ PySem.W.kitOne K (.ref C) cv = some b ∧ Q (.bl b) H
theorem call_isX {X : Cx} {C : Addr} (E : ExcC X.K C) : CallR X (.builtin "isinstance") (rIsX X.K C) := by
  intro pins s σ H xs us Q I r h
  obtain ⟨a, d, fs, c, cv, b, rfl, ea, ed, k, e, q⟩ := h
  obtain ⟨u1, u2, rfl, r1, r2⟩ := vals2 r
  have e2 := k.eq r2
  subst e2
  cases (show u1 = Value.ref a from r1)
  obtain ⟨⟨t1, hget⟩, _⟩ := I.hok a _ ea
  obtain ⟨⟨mA, hns, _⟩, _⟩ := I.hok d _ ed
  obtain ⟨od, ho, _⟩ := lookIn_ns hns
  obtain ⟨cd, hcD, _⟩ := PySem.W.any_some E.hd
  have J : PySem.W.InstAt s.heap a ({ cls := .ref C, dict := some d, data := .fields #[.ref t1, .none, .none, .none, .bool false, .none] } : Obj) C (some od) := ⟨hget, rfl, rfl, ho⟩
  exact PySem.W.kia_one (PySem.W.kitx_exc (by rw [hcD]; rfl) E.hg E.hk E.hs E.ha E.hn E.ht E.hm) I.kIn J e (fun z => nomatch z) fun tk => ⟨.bl b, H, I.tok tk, rfl, q⟩
theorem kit_own {K : PySem.W.Frag} {a b : Addr} (h1 : PySem.W.subIn K (.ref a) (.ref b) = some true) (h2 : PySem.W.isClsIn K b = true) (h3 : PySem.W.typeIn K (.ref b) = some (.type "type")) : PySem.W.kitOne K (.ref a) (.ref b) = some true := by
  unfold PySem.W.kitOne
  split
  · rfl
  · have h2' : (PySem.W.clsIn K b).isSome = true := h2
    show (if ((PySem.W.clsIn K b).isSome && PySem.W.typeIn K (.ref b) == some (.type "type")) = true then PySem.W.subIn K (.ref a) (.ref b) else none) = some true
    rw [h2', h3, if_pos (by rfl)]
    exact h1
theorem kit_ownN {K : PySem.W.Frag} {a b : Addr} (h1 : PySem.W.subIn K (.ref a) (.ref b) = some false) (h2 : PySem.W.isClsIn K b = true) (h3 : PySem.W.typeIn K (.ref b) = some (.type "type")) (h4 : (Value.ref a == Value.ref b) = false) : PySem.W.kitOne K (.ref a) (.ref b) = some false := by
  unfold PySem.W.kitOne
  rw [h4, if_neg Bool.false_ne_true]
  have h2' : (PySem.W.clsIn K b).isSome = true := h2
  show (if ((PySem.W.clsIn K b).isSome && PySem.W.typeIn K (.ref b) == some (.type "type")) = true then PySem.W.subIn K (.ref a) (.ref b) else none) = some false
  rw [h2', h3, if_pos (by rfl)]
  exact h1
end EX6
/-! ### a tuple times an int of any sign -/
namespace RN6
open PySem PySem.Spec PyProof.Rows L2
theorem tuple_mulN (l : Addr) (items : Array Value) (n : Nat) (dd : Option Addr) (sl : Array (Option Value)) (x : Int) (u : Tok) (c0 : (decide (x < -(2 ^ 63)) || decide (x ≥ 2 ^ 63)) = false) (c1 : (items.isEmpty || x == 1) = false) (c2 : (decide (x ≤ 0) || items.isEmpty) = true) :
    Meets (Builtin.«tuple.__mul__» ⟨[.ref l, .int x u], []⟩) (fun _ R s => s.heap.get? l = some { cls := .type "tuple", dict := dd, data := .seq items n, slots := sl } ∧
      R (.ok (.ret (Value.ref s.heap.objs.size))) { s with heap := s.heap.push { cls := Value.type "tuple", data := Data.seq #[] }, toks := s.toks }) :=
  .of_wp fun prog w A R s h => by
    obtain ⟨hp, g, d, tk, os⟩ := s
    obtain ⟨hl, h⟩ := h
    have f1 := AutoSeq1.idx_int
    wp_walk using wpAny_loadPart' hl
    repeat (first
      | (refine wpAny_ite_false (decide_eq_false (by rw [c0]; exact Bool.false_ne_true)) ?_; wp_walk using wpAny_loadPart' hl)
      | (refine wpAny_ite_false (decide_eq_false (by rw [c1]; exact Bool.false_ne_true)) ?_; wp_walk using wpAny_loadPart' hl)
      | (refine wpAny_ite_true (decide_eq_true c2) ?_; wp_walk using wpAny_loadPart' hl))
    exact ⟨_, rfl, h⟩
def rRepN (K : PySem.W.Frag) : R2 := fun x y H Q => ∃ l k xs, x = .ref l ∧ y = .int k ∧ SqT K H l xs ∧ -1000 ≤ k ∧ k ≤ 1000 ∧ xs.length ≤ 1000 ∧ ∀ p H', (∀ b o, H b = some o → H' b = some o) → SqT K H' p (List.replicate k.toNat xs).flatten → Q (.ref p) H'
theorem op_repN {X : Cx} : OpR X (binaryOp .Mult) (rRepN X.K) := by
  intro pins s σ H x y v u Q I rx ry h
  obtain ⟨l, k, xs, rfl, rfl, hT, h1, h2, hz, q⟩ := h
  by_cases hk : 1 ≤ k
  · exact RR.op_repZ pins s σ H _ _ v u Q I rx ry ⟨l, k, xs, rfl, rfl, hT, hk, h2, hz, q⟩
  · have c0 : (decide (k < -(2 ^ 63)) || decide (k ≥ 2 ^ 63)) = false := by
      rw [decide_eq_false (by omega), decide_eq_false (by omega)]
      rfl
    have e0 : k.toNat = 0 := by omega
    cases rx
    obtain ⟨t, rfl⟩ := ry
    obtain ⟨its, r, ⟨⟨cls, dd, data, sl⟩, ho, hc, n, hd⟩, hs⟩ := I.tuple hT
    simp only at hc hd
    subst hc hd
    by_cases hne : xs = []
    · subst hne
      cases r
      refine wpAny_binaryOp_repeat_ref (T := "tuple") (U := "int") (by decide) ⟨_, ho, rfl⟩ (fun s' => typeIs_int s' k t) noFill_tuple_mul F.fills_int_mul F.slot_int_rmul repeat_tuple F.slot_int_index.lookup
        (call_meets F.slot_int_rmul (typeIs_int s k t) F.entry_int_rmul (F.args_int_rmul_2 _ _) (int_rmul_tuple k t l #[] n dd sl)
          ⟨ho, rfl, ⟨_, ho, rfl⟩, call_meets F.slot_tuple_mul ⟨_, ho, rfl⟩ F.entry_tuple_mul (F.args_tuple_mul_2 _ _) (RR.tuple_mul0 l n dd sl k t c0) ⟨ho, ?_⟩⟩)
      exact ⟨.ref l, H, I, rfl, q l H (fun _ _ h => h) (by rw [RR.flat_nil]; exact hT)⟩
    · have hle : its.length = xs.length := r.length.symm
      have hn : its ≠ [] := fun e => hne (by
        rw [e] at hle
        exact List.eq_nil_of_length_eq_zero hle.symm)
      have hi : its.toArray.isEmpty = false := by
        cases its with
        | nil => exact absurd rfl hn
        | cons a b => rfl
      have c1 : (its.toArray.isEmpty || k == 1) = false := by
        rw [hi, Bool.false_or]
        exact beq_eq_false_iff_ne.mpr (by omega)
      have c2 : (decide (k ≤ 0) || its.toArray.isEmpty) = true := by
        rw [decide_eq_true (by omega)]
        rfl
      refine wpAny_binaryOp_repeat_ref (T := "tuple") (U := "int") (by decide) ⟨_, ho, rfl⟩ (fun s' => typeIs_int s' k t) noFill_tuple_mul F.fills_int_mul F.slot_int_rmul repeat_tuple F.slot_int_index.lookup
        (call_meets F.slot_int_rmul (typeIs_int s k t) F.entry_int_rmul (F.args_int_rmul_2 _ _) (int_rmul_tuple k t l its.toArray n dd sl)
          ⟨ho, rfl, ⟨_, ho, rfl⟩, call_meets F.slot_tuple_mul ⟨_, ho, rfl⟩ F.entry_tuple_mul (F.args_tuple_mul_2 _ _) (tuple_mulN l its.toArray n dd sl k t c0 c1 c2) ⟨ho, ?_⟩⟩)
      have hf : H s.heap.objs.size = none := I.hok.fresh (Nat.le_refl _)
      refine ⟨.ref s.heap.objs.size, _, I.laid (t' := s.toks) (o := .tup []) (fun b ob q => Heap.get?_push_of_some _ q) (Nat.le_refl _) ?_, rfl, q _ _ (fun b o e => by rw [upd_ne (ne_of_none e hf)]; exact e) (SqT.of ?_)⟩
      · exact ⟨Nat.zero_le _, [], .nil, IsTup.new _ _⟩
      · rw [upd_same, e0]
        rfl
end RN6
/-! ### list.count of a flat thing -/
namespace CF6
open PySem PySem.Spec PyProof.Rows L2
theorem cnt_eqU {x : V} : ∀ {xs : List V} {us : List Value}, Vals xs us → xs.all flatV = true → us.countP (eqU x) = xs.countP fun y => eqV y x
  | _, _, .nil, _ => rfl
  | y :: xs, u :: us, .cons r t, f => by
    rw [List.all_cons, Bool.and_eq_true] at f
    rw [List.countP_cons, List.countP_cons, eqU_of r f.1, cnt_eqU t f.2]
def rCntF (K : PySem.W.Frag) : V → List V → Hp → VK → Prop := fun x xs H Q => ∃ (p : Addr) (ys : List V) (z : V), x = .ref p ∧ xs = [z] ∧ SqL K H p ys ∧ flatV z = true ∧ ys.all flatV = true ∧ Q (.int (ys.countP fun y => eqV y z : Nat)) H
theorem mt_countF {X : Cx} : MtR X "list.count" (rCntF X.K) := by
  intro pins s σ H x xs v us Q I rx rxs h
  obtain ⟨p, ys, z, rfl, rfl, hs, fz, fy, q⟩ := h
  cases rx
  obtain ⟨u, rfl, ru⟩ := rxs.one
  obtain ⟨its, rv, ⟨⟨cls, dd, data, sl⟩, n, ho, hc, hdn, hd⟩, hlen⟩ := I.list hs
  simp only at hc hd
  subst hc hd
  refine call_meets PySem.F.slot_list_count ⟨_, ho, rfl⟩ PySem.F.entry_list_count (PySem.F.args_list_count_2 _ _)
    (SeqAt.list_countAt p its.toArray n dd sl u (eqU z)) ⟨ho, fun y hy => mem_eqAt ru fz rv fy y (by simpa using hy), .int (ys.countP fun y => eqV y z : Nat), H, I.tok _, ⟨s.toks, ?_⟩, q⟩
  rw [← cnt_eqU rv fy, List.toList_toArray]
end CF6

/-! ### repr of data: a def that is called where no repr is under way -/
namespace RG7
open PySem PySem.Spec PyProof.Rows L2
/-- a def's promise where no repr is under way -/
structure FnG (P : Program) (w : World) (K : PySem.W.Frag) (mg : Str → Option Value) (base : Heap) (k : Nat) (f : Addr) (fd : FuncData) (ps : List Str) (sp : Sp) : Prop where
  many : ∀ vs H Q E, sp vs H Q E → vs.length = ps.length
  goes : ∀ {A : Around} {outer : List Env} {s : Shared} {H : Hp} {args : Args} {us : List Value} {vs : List V} {Q : VK} {E : XK}, A.guards = some [] → Room k A → Env0 P w K mg base A outer s H → BindsTo s fd args (ps.zip us) → Vals vs us → sp vs H Q E →
    codeAny (model P w) A (.call (.ref f) args) (CR CX0 outer P w H s Q E) s
theorem FnG.of {P : Program} {w : World} {K : PySem.W.Frag} {mg : Str → Option Value} {base : Heap} {k : Nat} {f : Addr} {fd : FuncData} {ps : List Str} {sp : Sp} (F : FnOk P w K mg base CX0 k f fd ps sp) : FnG P w K mg base k f fd ps sp :=
  ⟨F.len, fun _ r e b v h => F.run _ _ _ _ _ _ _ _ _ r e b v h⟩
section
variable {P : Program} {w : World} {K : PySem.W.Frag} {mg : Str → Option Value} {base : Heap}
theorem fnG {x qual : Str} {st : Stmt} {f : Addr} {fd : FuncData} {N ps : List Str} {k : Nat} {sp : Sp} (F : Fun K x qual st f fd) (S : FnScope N ps (defScope st)) (many : ∀ vs H Q E, sp vs H Q E → vs.length = ps.length)
    (body : ∀ (cdv : Value) (A : Around) (outer : List Env) (s : Shared) (H : Hp) (vs : List V) (Q : VK) (E : XK), A.guards = some [] → Room k (A.deeper (envOfC qual (defScope st) s.heap.objs.size f cdv)) → sp vs H Q E →
      ∃ t, PSs (cxOf CX0 P w K mg base N qual (defScope st) f cdv A outer s H E).nox (defBody st) t ∧ t { nx := fun _ H' => Q .non H', rt := Q } (L2.start N vs) H) : FnG P w K mg base (k + 1) f fd ps sp := by
  obtain ⟨oc, od, kV, doc, pm, an, cdv, ct, osl, rfl, look, code⟩ := F.ex
  constructor
  · exact many
  · intro A outer s H args us vs Q E noG room e0 bd rv want
    have inK : K.In s.heap := e0.mod.kin.keeps fun b o e => (e0.bs b o e).1
    have kinds : ∀ y ∈ ps.zip us, (defScope st).names.lookup y.1 = some .local ∨ ((defScope st).names.lookup y.1 = some .cell ∧ ((cellsFrom (s.heap.objs.size + 1) (defScope st).names []).lookup y.1).isSome = true) := by
      rintro ⟨n, v⟩ hy
      cases S.par n (List.of_mem_zip hy).1 with
      | inl l => exact .inl l
      | inr l => exact .inr ⟨l, PySem.W.cellsFrom_some _ _ _ (.inl l)⟩
    apply codeAny_call_function room.depth (inK _ _ look) rfl S.co S.gen rfl (PySem.W.codeRec_of inK code)
    apply bd
    apply wpAny_newFunctionEnv_cells S.kind kinds
    rintro env rfl s1 inside
    refine ⟨(e0.mod.nolimit.keeps fun b o e => (e0.bs b o e).1).keeps inside.toInCall.keep, codeAny_func ?_⟩
    obtain ⟨t, ht, q⟩ := body cdv A outer s H vs Q E noG (room.deeper _) want
    have I := inv_start (CX := CX0) (mg := mg) (base := base) (qual := qual) (f := f) (cd := cdv) (E := E) S room.hd e0 (many _ _ _ _ want) rv inside
    refine wpAny_mono (ht.nox.run [] s1 _ H _ I q) (fun fl s' got => ?_) fun e s' got => got
    cases fl with
    | brk => exact got.elim fun _ z => z.elim fun _ z => z.2.elim
    | cont => exact got.elim fun _ z => z.elim fun _ z => z.2.elim
    | next =>
      obtain ⟨σ', H', J, q'⟩ := got
      exact ⟨V.non, H', J.os, J.bare, J.base, J.hok, rfl, q'⟩
    | ret u =>
      obtain ⟨v, σ', H', J, rel, q'⟩ := got
      exact ⟨v, H', J.os, J.bare, J.base, J.hok, rel, q'⟩
end
/-- the script's heap: only the script is told of, and only if the module has no such object -/
def only1 (a : Addr) (u : HO) : Hp := fun b => if b = a then some u else none
theorem only1_at {a : Addr} {u : HO} : only1 a u a = some u := if_pos rfl
theorem only1_no {a b : Addr} {u : HO} (h : b ≠ a) : only1 a u b = none := if_neg h
theorem only1_of {a b : Addr} {u v : HO} (h : only1 a u b = some v) : b = a ∧ v = u := by
  by_cases e : b = a
  · rw [e, only1_at] at h
    exact ⟨e, (Option.some.inj h).symm⟩
  · rw [only1_no e] at h
    cases h
/-- what a call from the claim's caller must end in -/
abbrev EndT (s₁ : Shared) : Result → Shared → Prop := fun r s' => r = .ok (.ret (.bool true)) ∧ OldK s₁.heap s'.heap ∧ s'.os = s₁.os ∧ AllBare s'.gens
/-- from a heap in which at most the script is told of -/
theorem enter {P : Program} {w : World} {K : PySem.W.Frag} {mg mb : Str → Option Value} {k : Nat} {fa a : Addr} {fd : FuncData} {x : Str} {sp : Sp} {s₁ : Shared} {vs : List Value} {H : Hp}
    (inK : K.In s₁.heap) (gl : s₁.heap.Ns mainGlobals mg) (bt : s₁.heap.Ns builtinsNs mb) (boot : ∀ y : Str, y ≠ "__name__" → mb y = bootBuiltins y) (lim : s₁.heap.NoLimit) (ng : s₁.gens = #[])
    (at_ : s₁.heap.get? a = some { cls := .type "list", data := .seq vs.toArray }) (room : Room k callerA)
    (F : ∀ base : Heap, K.In base → base.Ns mainGlobals mg → FnG P w K mg base k fa fd [x] sp) (bd : ∀ (s : Shared) (u : Value), BindsTo s fd ⟨[u], []⟩ [(x, u)])
    (frz : ∀ b u, H b = some u → b = a ∧ ∃ o xs, u = .frz o (.lst xs)) (ok : HOk P w H s₁.heap) (own : H a ≠ none → K.lookup a = none)
    (want : sp [.ref a] H (fun v _ => v = .bl true) fun _ _ _ => False) : codeAny (model P w) callerA (.call (.ref fa) ⟨[.ref a], []⟩) (EndT s₁) s₁ := by
  have told : ∀ {b o}, s₁.heap.get? b = some o → (∀ xs n, o.data = .seq xs n → False) ∨ H b = none → (hidT s₁.heap H).get? b = some o := fun {b o} e h => hidT_get e (by
    rcases h with h | h
    · cases q : H b with
      | none => rfl
      | some u =>
        have ea := (frz b u q).1
        subst ea
        rw [at_] at e
        cases e
        exact (h _ _ rfl).elim
    · exact h)
  have isNs : ∀ {b : Addr} {m : Str → Option Value}, s₁.heap.Ns b m → (hidT s₁.heap H).Ns b m := by
    rintro b m ⟨o, es, ep, e, d, r⟩
    exact ⟨o, es, ep, told e (.inl fun xs n z => by rw [d] at z; cases z), d, r⟩
  have kept : K.In (hidT s₁.heap H) := fun b o e => told (inK b o e) (.inr (by
    cases q : H b with
    | none => rfl
    | some u =>
      have ea := (frz b u q).1
      subst ea
      rw [own (by rw [q]; exact fun z => by cases z)] at e
      cases e))
  obtain ⟨mc, lim1, lim2⟩ := lim
  have start : Env0 P w K mg (hidT s₁.heap H) callerA [] s₁ H :=
    { frames := rfl, mod := ⟨kept, isNs gl, ⟨mb, isNs bt, boot⟩, ⟨mc, isNs lim1, lim2⟩⟩, bs := fun b o e => of_hidT e, bsz := Nat.le_of_eq (hidT_size _ _), funs := trivial, frf := fun b hb => (List.not_mem_nil hb).elim, hok := ok, bare := .of_eq ng }
  refine codeAny_mono ((F _ kept (isNs gl)).goes (us := [.ref a]) (vs := [.ref a]) (E := fun _ _ _ => False) (Q := fun v _ => v = .bl true) rfl room start (bd s₁ (.ref a)) (.cons rfl .nil) want) fun r s' got => ?_
  match r, got with
  | .error e, got => exact got.elim
  | .ok (.ret u), ⟨v, H', os, bare, un, ok', rel, ev⟩ =>
    have ev' : v = .bl true := ev
    subst ev'
    obtain rfl : u = Value.bool true := rel
    refine ⟨rfl, OldK.of_keep fun b o e => ?_, os, bare⟩
    cases q : H b with
    | none => exact un.keep b o e q (by exact fun z => (List.not_mem_nil z).elim) (by exact fun z => (List.not_mem_nil z).elim)
    | some u =>
      obtain ⟨_, ob, xs, eu⟩ := frz b u q
      subst eu
      obtain ⟨y1, _⟩ := ok b _ q
      obtain ⟨y2, _⟩ := ok' b _ (un.frzs b ob _ q)
      rw [e] at y1
      cases y1
      exact y2
theorem callG {P : Program} {w : World} {K : PySem.W.Frag} {mg mb : Str → Option Value} {k : Nat} {fa a : Addr} {fd : FuncData} {x : Str} {sp : Sp} {s₁ : Shared} {vs : List Value} {ns : List Int}
    (inK : K.In s₁.heap) (gl : s₁.heap.Ns mainGlobals mg) (bt : s₁.heap.Ns builtinsNs mb) (boot : ∀ y : Str, y ≠ "__name__" → mb y = bootBuiltins y) (lim : s₁.heap.NoLimit) (ng : s₁.gens = #[])
    (at_ : s₁.heap.get? a = some { cls := .type "list", data := .seq vs.toArray }) (whole : IntsAre vs ns) (few : ns.length ≤ sizeLine) (room : Room k callerA)
    (F : ∀ base : Heap, K.In base → base.Ns mainGlobals mg → FnG P w K mg base k fa fd [x] sp) (bd : ∀ (s : Shared) (u : Value), BindsTo s fd ⟨[u], []⟩ [(x, u)])
    (want : ∀ H : Hp, Only H → SqL K H a (ns.map V.int) → sp [.ref a] H (fun v _ => v = .bl true) fun _ _ _ => False) : codeAny (model P w) callerA (.call (.ref fa) ⟨[.ref a], []⟩) (EndT s₁) s₁ := by
  have rv := vals_ints whole
  have many := whole.length
  cases hk : K.lookup a with
  | some o =>
    have e := inK a o hk
    rw [at_] at e
    cases e
    refine enter (H := fun _ => none) inK gl bt boot lim ng at_ room F bd (fun b u z => by cases z) (fun b u z => by cases z) (fun z => (z rfl).elim) (want _ (fun _ => .inl rfl) (.inr ⟨_, vs.toArray, _, hk, rfl, rfl, rfl, ?_, ?_⟩))
    · rw [List.size_toArray, many]
      exact few
    · rw [List.toList_toArray]
      exact rv
  | none =>
    refine enter (H := only1 a (.frz { cls := .type "list", data := .seq vs.toArray } (.lst (ns.map V.int)))) inK gl bt boot lim ng at_ room F bd (fun b u z => ⟨(only1_of z).1, _, _, (only1_of z).2⟩) (fun b u z => ?_) (fun _ => hk) (want _ (fun b => ?_) (.inl (.inr ⟨_, only1_at⟩)))
    · obtain ⟨rfl, rfl⟩ := only1_of z
      exact ⟨at_, by rw [List.length_map]; exact few, vs, _, rv, at_⟩
    · by_cases e : b = a
      · rw [e]
        exact .inr ⟨_, _, only1_at⟩
      · exact .inl (only1_no e)
theorem walk_ofG {l : PySem.W.OpenLaw} {n k : Nat} {q : Program} {loose : List Str} {XP : (Str → Option Value) → Heap → Prop} {YP : World → Heap → Prop} {d : DefRec} {K : Params → PySem.W.Frag} {sp : World → Sp} {x : Str}
    (hn : l.most = some n) (hn2 : n ≤ sizeLine) (hdf : d.params.defaults = []) (hr : Room k callerA)
    (hY : ∀ (w : World) (h : Heap), YP w h → (K w.params).In h)
    (F : ∀ (w : World) (mg : Str → Option Value) (fa : Addr) (h : Heap), (K w.params).In h → h.Ns mainGlobals mg → mg d.name = some (.ref fa) →
      ∃ fd : FuncData, (∀ (s : Shared) (u : Value), BindsTo s fd ⟨[u], []⟩ [(x, u)]) ∧ ∀ base : Heap, (K w.params).In base → base.Ns mainGlobals mg → FnG l.prog w (K w.params) mg base k fa fd [x] (sp w))
    (hsp : ∀ (w : World) (H : Hp) (a : Addr) (ns : List Int), ns.length ≤ n → Only H → SqL (K w.params) H a (ns.map V.int) → sp w [.ref a] H (fun v _ => v = .bl true) fun _ _ _ => False) :
    PySem.W.WalkO q loose XP YP l.row.toRowW d [] (fun f vs => PySem.call f vs) :=
  Att.attach_call hn hdf fun w s₀ s₁ mg mb fa o pm cd doc a vs ns G Y ho hd hcd hmg hobj hints hlen hg => by
    have KX := hY w _ Y
    obtain ⟨fd, bd, FF⟩ := F w mg fa _ KX G.T.g hmg
    exact callG KX G.T.g G.T.b G.T.builtins G.T.nolimit hg hobj hints (Nat.le_trans hlen hn2) hr FF bd fun H hO hS => hsp w H a ns hlen hO hS
/-- data whose repr is told: k deep, n things in it -/
structure Rp (k n : Nat) (d : PyData) : Prop where
  sh : d.showable = true
  nd : d.hasDict = false
  dp : d.depth ≤ k
  lf : d.leavesShort 64 = true
  bk : d.bulk ≤ n
theorem Rp.up {k k' n n' : Nat} {d : PyData} (h : Rp k n d) (hk : k ≤ k') (hn : n ≤ n') : Rp k' n' d := ⟨h.sh, h.nd, Nat.le_trans h.dp hk, h.lf, Nat.le_trans h.bk hn⟩
theorem Rp.non : Rp 0 0 .none := ⟨rfl, rfl, Nat.le_refl _, rfl, Nat.le_refl _⟩
theorem Rp.bl (b : Bool) : Rp 0 0 (.bool b) := ⟨rfl, rfl, Nat.le_refl _, rfl, Nat.le_refl _⟩
theorem Rp.int {i : Int} (h : i.natAbs < 10 ^ 60) : Rp 0 0 (.int i) := by
  refine ⟨?_, rfl, Nat.le_refl _, ?_, Nat.le_refl _⟩
  · simp only [PyData.showable]
    refine decide_eq_true ?_
    by_cases z : i.natAbs = 0
    · rw [z]
      decide
    · exact (Nat.log2_lt z).mpr (Nat.lt_of_lt_of_le h (Nat.le_trans (by decide : 10 ^ 60 ≤ 2 ^ 200) (Nat.pow_le_pow_right (by decide) (by decide))))
  · simp only [PyData.leavesShort]
    refine decide_eq_true ?_
    have e := int_text_length_le10 (a := i) (k := 60) (by decide) h
    have e2 : (PyData.shown (.int i)).length = (toString i).length := by
      show (Str.ofString (toString i)).length = _
      exact PySem.ofString_length _
    omega
theorem Rp.all {k n : Nat} : ∀ {ds : List PyData}, (∀ d ∈ ds, Rp k n d) → PyData.showableAll ds = true ∧ PyData.hasDictAll ds = false ∧ PyData.depthAll ds ≤ k ∧ PyData.leavesShortAll 64 ds = true ∧ PyData.bulkAll ds ≤ ds.length * (n + 1)
  | [], _ => ⟨by simp [PyData.showableAll], by simp [PyData.hasDictAll], by simp [PyData.depthAll], by simp [PyData.leavesShortAll], by simp [PyData.bulkAll]⟩
  | d :: ds, h => by
    obtain ⟨a1, a2, a3, a4, a5⟩ := Rp.all (ds := ds) fun x hx => h x (List.mem_cons_of_mem _ hx)
    have b := h d List.mem_cons_self
    refine ⟨?_, ?_, ?_, ?_, ?_⟩
    · simp only [PyData.showableAll, b.sh, a1, Bool.and_true]
    · simp only [PyData.hasDictAll, b.nd, a2, Bool.or_false]
    · simp only [PyData.depthAll]
      exact Nat.max_le.mpr ⟨b.dp, a3⟩
    · simp only [PyData.leavesShortAll, b.lf, a4, Bool.and_true]
    · simp only [PyData.bulkAll, List.length_cons]
      have := b.bk
      rw [Nat.add_mul]
      omega
theorem Rp.tup {k n m : Nat} {ds : List PyData} (h : ∀ d ∈ ds, Rp k n d) (hm : ds.length * (n + 1) ≤ m) : Rp (k + 1) m (.tuple ds) := by
  obtain ⟨a1, a2, a3, a4, a5⟩ := Rp.all h
  refine ⟨?_, ?_, ?_, ?_, ?_⟩
  · simpa only [PyData.showable] using a1
  · simpa only [PyData.hasDict] using a2
  · simp only [PyData.depth]
    omega
  · simpa only [PyData.leavesShort] using a4
  · simp only [PyData.bulk]
    omega
theorem Rp.lst {k n m : Nat} {ds : List PyData} (h : ∀ d ∈ ds, Rp k n d) (hm : ds.length * (n + 1) ≤ m) : Rp (k + 1) m (.list ds) := by
  obtain ⟨a1, a2, a3, a4, a5⟩ := Rp.all h
  refine ⟨?_, ?_, ?_, ?_, ?_⟩
  · simpa only [PyData.showable] using a1
  · simpa only [PyData.hasDict] using a2
  · simp only [PyData.depth]
    omega
  · simpa only [PyData.leavesShort] using a4
  · simp only [PyData.bulk]
    omega
theorem Rp.size {k n : Nat} {d : PyData} (h : Rp k n d) (hn : n ≤ 200000) : d.shown.length ≤ sizeLine := by
  have e := PyData.shown_le_bulk 64 (by decide) d h.lf
  have := h.bk
  rw [sizeLine_eq]
  omega
/-- repr(x), x data that the heap holds, a list or a tuple -/
def rReprD (K : PySem.W.Frag) : List V → Hp → VK → Prop := fun xs H Q => ∃ (a : Addr) (d : PyData) (k n : Nat), xs = [.ref a] ∧ Dp K H (.ref a) d ∧ Rp k n d ∧ k ≤ 40 ∧ n ≤ 200000 ∧ Q (.str d.shown) H
theorem call_reprD {X : Cx} (noG : X.A.guards = some []) (hu : X.A.units + 65 < cLine) : CallR X (.builtin "repr") (rReprD X.K) := by
  intro pins s σ H xs us Q I r h
  obtain ⟨a, d, k, n, rfl, hd, rp, hk, hn, q⟩ := h
  cases r with
  | cons r1 rr =>
    cases rr
    obtain ⟨as, rd⟩ := Dp.reads I d _ _ hd r1
    cases (show _ = Value.ref a from r1)
    have dp := rp.dp
    exact repr_of_reads' rd rp.sh (fun z => by rw [rp.nd] at z; cases z) noG (by omega) (fun _ _ e => e) (fun h' u tk keep => ⟨.str d.shown, H, I.kept keep, ⟨u, rfl⟩, q⟩) (rp.size hn)
end RG7

/-! ### data with dicts: repr of anything; the start of a law that knows where sys.modules stands -/
namespace RO9
open PySem PySem.Spec PyProof.Rows L2
def kD : Key → PyData
  | .inl i => .int i
  | .inr x => .str x
mutual
inductive Od (K : PySem.W.Frag) (H : Hp) : V → PyData → Prop
  | non : Od K H .non .none
  | bl (b : Bool) : Od K H (.bl b) (.bool b)
  | int (i : Int) : Od K H (.int i) (.int i)
  | str (x : Str) : Od K H (.str x) (.str x)
  | lst {a : Addr} {xs : List V} {ds : List PyData} : H a = some (.lst xs) → OdAll K H xs ds → Od K H (.ref a) (.list ds)
  | tup {a : Addr} {xs : List V} {ds : List PyData} : SqT K H a xs → OdAll K H xs ds → Od K H (.ref a) (.tuple ds)
  | dct {a : Addr} {kvs : List (Key × V)} {ds : List PyData} : H a = some (.dK kvs) → OdAll K H (kvs.map (·.2)) ds → Od K H (.ref a) (.dict ((kvs.map fun p => kD p.1).zip ds))
inductive OdAll (K : PySem.W.Frag) (H : Hp) : List V → List PyData → Prop
  | nil : OdAll K H [] []
  | cons {v : V} {vs : List V} {d : PyData} {ds : List PyData} : Od K H v d → OdAll K H vs ds → OdAll K H (v :: vs) (d :: ds)
end
/-- where sys.modules stands, there stands no list of the law's -/
def SysK (K : PySem.W.Frag) (H : Hp) : Prop := (∃ u, H sysModules = some u ∧ ∀ xs, u ≠ .lst xs) ∨ ∃ o, K.lookup sysModules = some o
theorem SysK.same {K : PySem.W.Frag} {H H' : Hp} (h : SysK K H) (s : Same H H') : SysK K H' := h.elim (fun ⟨u, e, n⟩ => .inl ⟨u, s _ _ e, n⟩) .inr
theorem SysK.nl {K : PySem.W.Frag} {H H' : Hp} (h : SysK K H) (s : ∀ b o, (∀ ys, o ≠ HO.lst ys) → H b = some o → H' b = some o) : SysK K H' := h.elim (fun ⟨u, e, n⟩ => .inl ⟨u, s _ _ n e, n⟩) .inr
theorem OdAll.len {K : PySem.W.Frag} {H : Hp} : ∀ {vs : List V} {ds : List PyData}, OdAll K H vs ds → vs.length = ds.length
  | [], _, h => by cases h; rfl
  | _ :: vs, _, h => by
    cases h with
    | cons _ t => rw [List.length_cons, List.length_cons, OdAll.len t]
theorem zip_fst {α β : Type} : ∀ (l : List α) (m : List β), l.length = m.length → (l.zip m).map (·.1) = l
  | [], [], _ => rfl
  | a :: l, b :: m, h => by
    rw [List.zip_cons_cons, List.map_cons, zip_fst l m (by simpa using h)]
  | [], _ :: _, h => by simp at h
  | _ :: _, [], h => by simp at h
theorem zip_snd {α β : Type} : ∀ (l : List α) (m : List β), l.length = m.length → (l.zip m).map (·.2) = m
  | [], [], _ => rfl
  | a :: l, b :: m, h => by
    rw [List.zip_cons_cons, List.map_cons, zip_snd l m (by simpa using h)]
  | [], _ :: _, h => by simp at h
  | _ :: _, [], h => by simp at h
section
variable {X : Cx} {pins : List (Addr × Obj)} {σ : L2.St} {H : Hp} {s : Shared}
theorem keys_read {h : Heap} : ∀ {es : List PySem.DictEntry} {vs : List (Key × Value)} {kvs : List (Key × V)}, PySem.Pairs (mixKind X.prog X.w) es vs → KV kvs vs → ∃ as, ReadsAll h (es.map (·.key)) (kvs.map fun p => kD p.1) as ∧ sysModules ∉ as ∧ Vals (kvs.map (·.2)) (es.map (·.val))
  | _, _, _, .nil, .nil => ⟨[], .nil, by simp, .nil⟩
  | e :: es, kv :: vs, p :: kvs, .cons hk hv t, .cons r rt => by
    obtain ⟨as, h1, h2, h3⟩ := keys_read (h := h) t rt
    have hk' : keyIs kv.1 e.key = true := hk
    rw [← r.1] at hk'
    obtain ⟨k, v⟩ := p
    have rv : RelV v e.val := by rw [hv]; exact r.2
    rcases keyIs_shape hk' with ⟨i, t, rfl, e2⟩ | ⟨x, t, rfl, e2⟩
    · refine ⟨[] ++ as, ?_, by simpa using h2, ?_⟩
      · rw [List.map_cons, List.map_cons, e2]
        exact .cons (.int i t) h1
      · rw [List.map_cons, List.map_cons]
        exact .cons rv h3
    · refine ⟨[] ++ as, ?_, by simpa using h2, ?_⟩
      · rw [List.map_cons, List.map_cons, e2]
        exact .cons (.str x t) h1
      · rw [List.map_cons, List.map_cons]
        exact .cons rv h3
theorem od_reads (I : Inv X pins σ H s) (hS : SysK X.K H) {v : V} {d : PyData} (h : Od X.K H v d) : ∀ u, RelV v u → ∃ as, Reads s.heap u d as ∧ sysModules ∉ as := by
  refine Od.rec (motive_1 := fun v d _ => ∀ u, RelV v u → ∃ as, Reads s.heap u d as ∧ sysModules ∉ as) (motive_2 := fun vs ds _ => ∀ us, Vals vs us → ∃ as, ReadsAll s.heap us ds as ∧ sysModules ∉ as) ?_ ?_ ?_ ?_ ?_ ?_ ?_ ?_ ?_ h
  · intro u r
    cases r
    exact ⟨_, Reads.none, by simp⟩
  · intro b u r
    cases r
    exact ⟨_, Reads.bool b, by simp⟩
  · intro i u r
    obtain ⟨t, rfl⟩ := r
    exact ⟨_, Reads.int i t, by simp⟩
  · intro x u r
    obtain ⟨t, rfl⟩ := r
    exact ⟨_, Reads.str x t, by simp⟩
  · intro a xs ds e _ ih u r
    cases r
    obtain ⟨its, rv, ⟨o, n, ho, hc, _, hd⟩, _⟩ := I.list (SqL.of e)
    obtain ⟨as, hr, hn⟩ := ih its rv
    refine ⟨_, Reads.list ho hc hd hr, fun z => ?_⟩
    rcases List.mem_cons.mp z with z | z
    · rw [← z] at e
      rcases hS with ⟨u, eS, nS⟩ | ⟨o, eS⟩
      · rw [eS] at e
        exact nS _ (Option.some.inj e)
      · rw [(I.env0.bs _ _ (I.env0.mod.kin _ _ eS)).2] at e
        cases e
    · exact hn z
  · intro a xs ds e _ ih u r
    cases r
    obtain ⟨its, rv, ⟨o, ho, hc, n, hd⟩, _⟩ := I.tuple e
    obtain ⟨as, hr, hn⟩ := ih its rv
    exact ⟨_, Reads.tuple ho hc hd hr, hn⟩
  · intro a kvs ds e ha ih u r
    cases r
    obtain ⟨_, hm, vs, rel, o, es, ep, ho, hx, hd, _, pr, _⟩ := dk_of I.hok e
    obtain ⟨as, k1, k2, k3⟩ := keys_read (h := s.heap) pr rel
    obtain ⟨bs, v1, v2⟩ := ih _ k3
    have hl : (kvs.map fun p => kD p.1).length = ds.length := by
      rw [List.length_map, ← ha.len, List.length_map]
    refine ⟨_, Reads.dict ho hx.1 hd (by rw [zip_fst _ _ hl]; exact k1) (by rw [zip_snd _ _ hl]; exact v1), fun z => ?_⟩
    rcases List.mem_append.mp z with z | z
    · rcases List.mem_cons.mp z with z | z
      · rw [← z] at hm
        simp at hm
      · exact k2 z
    · exact v2 z
  · intro us r
    cases r
    exact ⟨_, ReadsAll.nil, by simp⟩
  · intro v vs d ds _ _ ih1 ih2 us r
    cases r with
    | cons r1 r2 =>
      obtain ⟨as, q1, n1⟩ := ih1 _ r1
      obtain ⟨bs, q2, n2⟩ := ih2 _ r2
      refine ⟨_, ReadsAll.cons q1 q2, fun z => ?_⟩
      rcases List.mem_append.mp z with z | z
      · exact n1 z
      · exact n2 z
end
/-- data whose repr is told, with dicts: k deep, n things in it -/
structure Ro (k n : Nat) (d : PyData) : Prop where
  sh : d.showable = true
  dp : d.depth ≤ k
  lf : d.leavesShort 64 = true
  bk : d.bulk ≤ n
theorem Ro.of {k n : Nat} {d : PyData} (h : RG7.Rp k n d) : Ro k n d := ⟨h.sh, h.dp, h.lf, h.bk⟩
theorem Ro.size {k n : Nat} {d : PyData} (h : Ro k n d) (hn : n ≤ 200000) : d.shown.length ≤ sizeLine := by
  have e := PyData.shown_le_bulk 64 (by decide) d h.lf
  have := h.bk
  rw [show (sizeLine : Nat) = 16777216 by decide]
  omega
/-- repr(x), x any data that the heap holds -/
def rReprO (K : PySem.W.Frag) : List V → Hp → VK → Prop := fun xs H Q => ∃ (a : Addr) (d : PyData) (k n : Nat), xs = [.ref a] ∧ SysK K H ∧ Od K H (.ref a) d ∧ Ro k n d ∧ k ≤ 40 ∧ n ≤ 200000 ∧ Q (.str d.shown) H
theorem call_reprO {X : Cx} (noG : X.A.guards = some []) (hu : X.A.units + 65 < cLine) : CallR X (.builtin "repr") (rReprO X.K) := by
  intro pins s σ H xs us Q I r h
  obtain ⟨a, d, k, n, rfl, hS, hd, rp, hk, hn, q⟩ := h
  cases r with
  | cons r1 rr =>
    cases rr
    cases (show _ = Value.ref a from r1)
    obtain ⟨as, rd, nm⟩ := od_reads I hS hd _ rfl
    have dp := rp.dp
    exact repr_of_reads' rd rp.sh (fun _ => nm) noG (by omega) (fun _ _ e => e) (fun h' u tk keep => ⟨.str d.shown, H, I.kept keep, ⟨u, rfl⟩, q⟩) (rp.size hn)
/-- what is told at a law's start: the script, and where sys.modules stands -/
def first (a : Addr) (u : Option HO) (v : Option HO) : Hp := fun b => if b = a then u else if b = sysModules then v else none
theorem first_of {a b : Addr} {u v : Option HO} {o : HO} (h : first a u v b = some o) : (b = a ∧ u = some o) ∨ (b ≠ a ∧ b = sysModules ∧ v = some o) := by
  unfold first at h
  by_cases e : b = a
  · rw [if_pos e] at h
    exact .inl ⟨e, h⟩
  · rw [if_neg e] at h
    by_cases e2 : b = sysModules
    · rw [if_pos e2] at h
      exact .inr ⟨e, e2, h⟩
    · rw [if_neg e2] at h
      cases h
/-- what may be told at the start: the script, frozen; an object that is known -/
def Start1 (a : Addr) (b : Addr) (u : HO) : Prop := (b = a ∧ ∃ o xs, u = .frz o (.lst xs)) ∨ (b = sysModules ∧ ∃ (o : Obj) (v : HO), u = .frz o v)
theorem enterS {P : Program} {w : World} {K : PySem.W.Frag} {mg mb : Str → Option Value} {k : Nat} {fa a : Addr} {fd : FuncData} {x : Str} {sp : Sp} {s₁ : Shared} {vs : List Value} {H : Hp}
    (inK : K.In s₁.heap) (gl : s₁.heap.Ns mainGlobals mg) (bt : s₁.heap.Ns builtinsNs mb) (boot : ∀ y : Str, y ≠ "__name__" → mb y = bootBuiltins y) (lim : s₁.heap.NoLimit) (ng : s₁.gens = #[])
    (at_ : s₁.heap.get? a = some { cls := .type "list", data := .seq vs.toArray }) (room : Room k callerA)
    (F : ∀ base : Heap, K.In base → base.Ns mainGlobals mg → RG7.FnG P w K mg base k fa fd [x] sp) (bd : ∀ (s : Shared) (u : Value), BindsTo s fd ⟨[u], []⟩ [(x, u)])
    (frz : ∀ b u, H b = some u → Start1 a b u) (ok : HOk P w H s₁.heap) (own : H a ≠ none → K.lookup a = none) (ownS : H sysModules ≠ none → K.lookup sysModules = none)
    (want : sp [.ref a] H (fun v _ => v = .bl true) fun _ _ _ => False) : codeAny (model P w) callerA (.call (.ref fa) ⟨[.ref a], []⟩) (RG7.EndT s₁) s₁ := by
  have told : ∀ {b o}, s₁.heap.get? b = some o → (b ≠ sysModules ∧ ∀ xs n, o.data = .seq xs n → False) ∨ H b = none → (hidT s₁.heap H).get? b = some o := fun {b o} e h => hidT_get e (by
    rcases h with ⟨h1, h⟩ | h
    · cases q : H b with
      | none => rfl
      | some u =>
        rcases frz b u q with ⟨ea, _⟩ | ⟨eb, _⟩
        · subst ea
          rw [at_] at e
          cases e
          exact (h _ _ rfl).elim
        · exact (h1 eb).elim
    · exact h)
  have isNs : ∀ {b : Addr} {m : Str → Option Value}, b ≠ sysModules → s₁.heap.Ns b m → (hidT s₁.heap H).Ns b m := by
    rintro b m hb ⟨o, es, ep, e, d, r⟩
    exact ⟨o, es, ep, told e (.inl ⟨hb, fun xs n z => by rw [d] at z; cases z⟩), d, r⟩
  have kept : K.In (hidT s₁.heap H) := fun b o e => told (inK b o e) (.inr (by
    cases q : H b with
    | none => rfl
    | some u =>
      rcases frz b u q with ⟨ea, _⟩ | ⟨eb, _⟩
      · subst ea
        rw [own (by rw [q]; exact fun z => by cases z)] at e
        cases e
      · subst eb
        rw [ownS (by rw [q]; exact fun z => by cases z)] at e
        cases e))
  obtain ⟨mc, lim1, lim2⟩ := lim
  have start : Env0 P w K mg (hidT s₁.heap H) callerA [] s₁ H :=
    { frames := rfl, mod := ⟨kept, isNs (by decide) gl, ⟨mb, isNs (by decide) bt, boot⟩, ⟨mc, isNs (by decide) lim1, lim2⟩⟩, bs := fun b o e => of_hidT e, bsz := Nat.le_of_eq (hidT_size _ _), funs := trivial, frf := fun b hb => (List.not_mem_nil hb).elim, hok := ok, bare := .of_eq ng }
  refine codeAny_mono ((F _ kept (isNs (by decide) gl)).goes (us := [.ref a]) (vs := [.ref a]) (E := fun _ _ _ => False) (Q := fun v _ => v = .bl true) rfl room start (bd s₁ (.ref a)) (.cons rfl .nil) want) fun r s' got => ?_
  match r, got with
  | .error e, got => exact got.elim
  | .ok (.ret u), ⟨v, H', os, bare, un, ok', rel, ev⟩ =>
    have ev' : v = .bl true := ev
    subst ev'
    obtain rfl : u = Value.bool true := rel
    refine ⟨rfl, OldK.of_keep fun b o e => ?_, os, bare⟩
    cases q : H b with
    | none => exact un.keep b o e q (by exact fun z => (List.not_mem_nil z).elim) (by exact fun z => (List.not_mem_nil z).elim)
    | some u =>
      rcases frz b u q with ⟨_, ob, xs, eu⟩ | ⟨eb, ob, v, eu⟩
      · subst eu
        obtain ⟨y1, _⟩ := ok b _ q
        obtain ⟨y2, _⟩ := ok' b _ (un.frzs b ob _ q)
        rw [e] at y1
        cases y1
        exact y2
      · subst eu
        obtain ⟨y1, _⟩ := ok b _ q
        obtain ⟨y2, _⟩ := ok' b _ (un.frzs b ob _ q)
        rw [e] at y1
        cases y1
        exact y2
theorem callS {P : Program} {w : World} {K : PySem.W.Frag} {mg mb : Str → Option Value} {k : Nat} {fa a : Addr} {fd : FuncData} {x : Str} {sp : Sp} {s₁ : Shared} {vs : List Value} {ns : List Int}
    (inK : K.In s₁.heap) (gl : s₁.heap.Ns mainGlobals mg) (bt : s₁.heap.Ns builtinsNs mb) (boot : ∀ y : Str, y ≠ "__name__" → mb y = bootBuiltins y) (lim : s₁.heap.NoLimit) (ng : s₁.gens = #[])
    (at_ : s₁.heap.get? a = some { cls := .type "list", data := .seq vs.toArray }) (whole : IntsAre vs ns) (few : ns.length ≤ sizeLine) (room : Room k callerA) (hos : ∃ os, s₁.heap.get? sysModules = some os)
    (F : ∀ base : Heap, K.In base → base.Ns mainGlobals mg → RG7.FnG P w K mg base k fa fd [x] sp) (bd : ∀ (s : Shared) (u : Value), BindsTo s fd ⟨[u], []⟩ [(x, u)])
    (want : ∀ H : Hp, SysK K H → SqL K H a (ns.map V.int) → sp [.ref a] H (fun v _ => v = .bl true) fun _ _ _ => False) : codeAny (model P w) callerA (.call (.ref fa) ⟨[.ref a], []⟩) (RG7.EndT s₁) s₁ := by
  have rv := vals_ints whole
  have many := whole.length
  obtain ⟨os, hos⟩ := hos
  -- what is told of either
  obtain ⟨uA, hA⟩ : ∃ uA : Option HO, uA = if K.lookup a = none then some (.frz { cls := .type "list", data := .seq vs.toArray } (.lst (ns.map V.int))) else none := ⟨_, rfl⟩
  obtain ⟨uS, hS⟩ : ∃ uS : Option HO, uS = if K.lookup sysModules = none then some (.frz os (.ext fun _ => True)) else none := ⟨_, rfl⟩
  have cA : ∀ u, uA = some u → K.lookup a = none ∧ u = .frz { cls := .type "list", data := .seq vs.toArray } (.lst (ns.map V.int)) := fun u e => by
    rw [hA] at e
    by_cases c : K.lookup a = none
    · rw [if_pos c] at e
      exact ⟨c, (Option.some.inj e).symm⟩
    · rw [if_neg c] at e
      cases e
  have cS : ∀ u, uS = some u → K.lookup sysModules = none ∧ u = .frz os (.ext fun _ => True) := fun u e => by
    rw [hS] at e
    by_cases c : K.lookup sysModules = none
    · rw [if_pos c] at e
      exact ⟨c, (Option.some.inj e).symm⟩
    · rw [if_neg c] at e
      cases e
  refine enterS (H := first a uA uS) inK gl bt boot lim ng at_ room F bd (fun b u z => ?_) (fun b u z => ?_) (fun z => ?_) (fun z => ?_) (want _ ?_ ?_)
  · rcases first_of z with ⟨e, h⟩ | ⟨_, e, h⟩
    · exact .inl ⟨e, _, _, (cA u h).2⟩
    · exact .inr ⟨e, _, _, (cS u h).2⟩
  · rcases first_of z with ⟨e, h⟩ | ⟨_, e, h⟩
    · obtain ⟨_, rfl⟩ := cA u h
      subst e
      exact ⟨at_, by rw [List.length_map]; exact few, vs, _, rv, at_⟩
    · obtain ⟨_, rfl⟩ := cS u h
      subst e
      exact ⟨hos, trivial, ⟨_, hos⟩, fun _ _ _ _ => trivial⟩
  · cases q : first a uA uS a with
    | none => exact (z q).elim
    | some u =>
      rcases first_of q with ⟨_, h⟩ | ⟨n, _⟩
      · exact (cA u h).1
      · exact (n rfl).elim
  · cases q : first a uA uS sysModules with
    | none => exact (z q).elim
    | some u =>
      rcases first_of q with ⟨e, h⟩ | ⟨_, _, h⟩
      · rw [e]
        exact (cA u h).1
      · exact (cS u h).1
  · cases hk : K.lookup sysModules with
    | some o => exact .inr ⟨o, hk⟩
    | none =>
      refine .inl ?_
      by_cases e : sysModules = a
      · refine ⟨.frz { cls := .type "list", data := .seq vs.toArray } (.lst (ns.map V.int)), ?_, fun _ z => by cases z⟩
        unfold first
        rw [if_pos e, hA, ← e, if_pos hk]
      · refine ⟨.frz os (.ext fun _ => True), ?_, fun _ z => by cases z⟩
        unfold first
        rw [if_neg e, if_pos rfl, hS, if_pos hk]
  · cases hk : K.lookup a with
    | some o =>
      have e := inK a o hk
      rw [at_] at e
      cases e
      refine .inr ⟨_, vs.toArray, _, hk, rfl, rfl, rfl, ?_, ?_⟩
      · rw [List.size_toArray, many]
        exact few
      · rw [List.toList_toArray]
        exact rv
    | none =>
      refine .inl (.inr ⟨{ cls := .type "list", data := .seq vs.toArray }, ?_⟩)
      unfold first
      rw [if_pos rfl, hA, if_pos hk]
theorem walk_ofS {l : PySem.W.OpenLaw} {n k : Nat} {q : Program} {loose : List Str} {XP : (Str → Option Value) → Heap → Prop} {YP : World → Heap → Prop} {d : DefRec} {K : Params → PySem.W.Frag} {sp : World → Sp} {x : Str}
    (hn : l.most = some n) (hn2 : n ≤ sizeLine) (hdf : d.params.defaults = []) (hr : Room k callerA) (hq : importsNone q = true)
    (hY : ∀ (w : World) (h : Heap), YP w h → (K w.params).In h)
    (F : ∀ (w : World) (mg : Str → Option Value) (fa : Addr) (h : Heap), (K w.params).In h → h.Ns mainGlobals mg → mg d.name = some (.ref fa) →
      ∃ fd : FuncData, (∀ (s : Shared) (u : Value), BindsTo s fd ⟨[u], []⟩ [(x, u)]) ∧ ∀ base : Heap, (K w.params).In base → base.Ns mainGlobals mg → RG7.FnG l.prog w (K w.params) mg base k fa fd [x] (sp w))
    (hsp : ∀ (w : World) (H : Hp) (a : Addr) (ns : List Int), ns.length ≤ n → SysK (K w.params) H → SqL (K w.params) H a (ns.map V.int) → sp w [.ref a] H (fun v _ => v = .bl true) fun _ _ _ => False) :
    PySem.W.WalkO q loose XP YP l.row.toRowW d [] (fun f vs => PySem.call f vs) :=
  Att.attach_call hn hdf fun w s₀ s₁ mg mb fa o pm cd doc a vs ns G Y ho hd hcd hmg hobj hints hlen hg => by
    have KX := hY w _ Y
    obtain ⟨fd, bd, FF⟩ := F w mg fa _ KX G.T.g hmg
    exact callS KX G.T.g G.T.b G.T.builtins G.T.nolimit hg hobj hints (Nat.le_trans hlen hn2) hr (by
      obtain ⟨mm, ⟨o, _, _, e, _⟩, _⟩ := (G.T.seer hq).mods
      exact ⟨o, e⟩) FF bd fun H hO hS => hsp w H a ns hlen hO hS
/-! ### what kind of thing it is -/
def tyD : PyData → String
  | .none => "NoneType"
  | .bool _ => "bool"
  | .int _ => "int"
  | .str _ => "str"
  | .list _ => "list"
  | .tuple _ => "tuple"
  | .dict _ => "dict"
theorem tyTup' {K : PySem.W.Frag} {H : Hp} {a : Addr} {xs : List V} (h : SqT K H a xs) : TyX K H (.ref a) (.type "tuple") := by
  rcases h with (h | ⟨o, h⟩) | h
  · exact .base (.tup h)
  · exact .fTuple h
  · obtain ⟨o, n, vs, e, c, _⟩ := h
    exact .kTuple e c
theorem Od.ty {K : PySem.W.Frag} {H : Hp} {v : V} {d : PyData} (h : Od K H v d) : TyX K H v (.type (tyD d)) := by
  cases h with
  | non => exact .base .non
  | bl b => exact .base (.bl b)
  | int i => exact .base (.int i)
  | str x => exact .base (.str x)
  | lst e _ => exact .base (.lst e)
  | tup e _ => exact tyTup' e
  | dct e _ => exact .base (.dK e)
theorem kit_tuple {K : PySem.W.Frag} (d : PyData) : PySem.W.kitOne K (.type (tyD d)) (.type "tuple") = some (match d with | .tuple _ => true | _ => false) := by
  cases d with
  | none => exact kit_ty (show kitB "NoneType" "tuple" = some false by decide +kernel)
  | bool _ => exact kit_ty (show kitB "bool" "tuple" = some false by decide +kernel)
  | int _ => exact kit_ty (show kitB "int" "tuple" = some false by decide +kernel)
  | str _ => exact kit_ty (show kitB "str" "tuple" = some false by decide +kernel)
  | list _ => exact kit_ty (show kitB "list" "tuple" = some false by decide +kernel)
  | tuple _ => exact kit_ty (show kitB "tuple" "tuple" = some true by decide +kernel)
  | dict _ => exact kit_ty (show kitB "dict" "tuple" = some false by decide +kernel)
theorem kit_int {K : PySem.W.Frag} (d : PyData) : PySem.W.kitOne K (.type (tyD d)) (.type "int") = some (match d with | .int _ => true | .bool _ => true | _ => false) := by
  cases d with
  | none => exact kit_ty (show kitB "NoneType" "int" = some false by decide +kernel)
  | bool _ => exact kit_ty (show kitB "bool" "int" = some true by decide +kernel)
  | int _ => exact kit_ty (show kitB "int" "int" = some true by decide +kernel)
  | str _ => exact kit_ty (show kitB "str" "int" = some false by decide +kernel)
  | list _ => exact kit_ty (show kitB "list" "int" = some false by decide +kernel)
  | tuple _ => exact kit_ty (show kitB "tuple" "int" = some false by decide +kernel)
  | dict _ => exact kit_ty (show kitB "dict" "int" = some false by decide +kernel)
theorem kit_bool {K : PySem.W.Frag} (d : PyData) : PySem.W.kitOne K (.type (tyD d)) (.type "bool") = some (match d with | .bool _ => true | _ => false) := by
  cases d with
  | none => exact kit_ty (show kitB "NoneType" "bool" = some false by decide +kernel)
  | bool _ => exact kit_ty (show kitB "bool" "bool" = some true by decide +kernel)
  | int _ => exact kit_ty (show kitB "int" "bool" = some false by decide +kernel)
  | str _ => exact kit_ty (show kitB "str" "bool" = some false by decide +kernel)
  | list _ => exact kit_ty (show kitB "list" "bool" = some false by decide +kernel)
  | tuple _ => exact kit_ty (show kitB "tuple" "bool" = some false by decide +kernel)
  | dict _ => exact kit_ty (show kitB "dict" "bool" = some false by decide +kernel)
/-- all but what may change stays: data stay data -/
theorem Od.mono {K : PySem.W.Frag} {H H' : Hp} {v : V} {d : PyData} (h : Od K H v d) (s : ∀ b o, H b = some o → H' b = some o) : Od K H' v d := by
  refine Od.rec (motive_1 := fun v d _ => Od K H' v d) (motive_2 := fun vs ds _ => OdAll K H' vs ds) ?_ ?_ ?_ ?_ ?_ ?_ ?_ ?_ ?_ h
  · exact .non
  · exact fun b => .bl b
  · exact fun i => .int i
  · exact fun x => .str x
  · exact fun e _ ih => .lst (s _ _ e) ih
  · exact fun e _ ih => .tup (e.elim (fun h => .inl (h.elim (fun h => .inl (s _ _ h)) fun ⟨o, h⟩ => .inr ⟨o, s _ _ h⟩)) .inr) ih
  · exact fun e _ ih => .dct (s _ _ e) ih
  · exact .nil
  · exact fun _ _ a b => .cons a b
theorem OdAll.get {K : PySem.W.Frag} {H : Hp} : ∀ {vs : List V} {ds : List PyData}, OdAll K H vs ds → ∀ {i : Nat} {v : V}, vs[i]? = some v → ∃ d, ds[i]? = some d ∧ Od K H v d
  | [], _, h, i, v, hv => by simp at hv
  | x :: vs, _, h, i, v, hv => by
    cases h with
    | cons a t =>
      cases i with
      | zero =>
        simp at hv
        subst hv
        exact ⟨_, rfl, a⟩
      | succ i =>
        simp only [List.getElem?_cons_succ] at hv ⊢
        exact OdAll.get t hv
/-- a whole number within bounds -/
def numD (lo hi : Int) : PyData → Bool
  | .int i => decide (lo ≤ i) && decide (i ≤ hi)
  | _ => false
def isI : PyData → Bool
  | .int _ => true
  | _ => false
/-! ### an instance made where the making may raise -/
section
variable {X : Cx} {CX : CXT} {k : Nat} {f C : Addr} {fd : FuncData} {ps : List Str} {sp : Sp} {E : L2.St → XK} {x : Str} {p pos : Pos} {e : Expr} {es : List Expr} {t : TA}
def tMakeS (C : Addr) (sp : Sp) (E : L2.St → XK) (t : TA) : TE := fun σ H Q => t σ H fun vs H1 => ∀ x dx, H1 x = none → H1 dx = none → dx ≠ x → sp (.ref x :: vs) (upd (upd H1 dx (.own x)) x (.ins C dx [])) (fun v H2 => v = .non ∧ Q (.ref x) H2) (E σ)
theorem run_makeS {pins : List (Addr × Obj)} {σ : L2.St} {H : Hp} {s : Shared} {Q : VK} {us : List Value} {vs : List V} (M : Mk X.K C f) (F : FnOk X.prog X.w X.K X.mg X.base CX k f fd ps sp) (hr : Room (k + 1) X.A) (hb : Binds X.K fd ps [])
    (hx : PassesAt CX X σ (E σ)) (I : Inv X pins σ H s) (r : Vals vs us)
    (h : ∀ x dx, H x = none → H dx = none → dx ≠ x → sp (.ref x :: vs) (upd (upd H dx (.own x)) x (.ins C dx [])) (fun v H2 => v = .non ∧ Q (.ref x) H2) (E σ)) :
    wpAny (model X.prog X.w) X.A (call (.ref C) us) (EP X pins σ Q) X.xe s := by
  have hq := h (s.heap.objs.size + 1) s.heap.objs.size (I.hok.fresh (Nat.le_succ _)) (I.hok.fresh (Nat.le_refl _)) (Nat.ne_of_lt (Nat.lt_succ_self _))
  have I2 := Inv.made (C := C) I
  have r2 : Vals (V.ref (s.heap.objs.size + 1) :: vs) (Value.ref (s.heap.objs.size + 1) :: us) := .cons rfl r
  have hl : (Value.ref (s.heap.objs.size + 1) :: us ++ []).length = ps.length := by
    have e := r2.length
    rw [F.len _ _ _ _ hq] at e
    rw [List.append_nil]
    exact e.symm
  have hbb := hb _ (Value.ref (s.heap.objs.size + 1) :: us) I2.kIn hl
  rw [List.append_nil] at hbb
  refine wpAny_call (make_map (f := f) I.kIn M.makes M.init (beq_iff_eq.mp M.fn) (codeAny_mono (F.run _ X.stack _ _ ⟨Value.ref (s.heap.objs.size + 1) :: us, []⟩ (Value.ref (s.heap.objs.size + 1) :: us) _ _ (E σ) (hr.make C us [])
    (I2.env0.make C us []) hbb r2 hq) fun r s' hq' => ?_))
  cases r with
  | error e => exact hx pins _ _ e s' I2 hq'
  | ok fl =>
    cases fl with
    | ret u =>
      obtain ⟨v, H', I3, rv, ev, q3⟩ := I2.after hq'
      subst ev
      exact ⟨rv, ⟨V.ref (s.heap.objs.size + 1), H', I3, rfl, q3⟩⟩
    | next => exact False.elim hq'
    | brk => exact False.elim hq'
    | cont => exact False.elim hq'
theorem pe_makeS (M : Mk X.K C f) (F : FnOk X.prog X.w X.K X.mg X.base CX k f fd ps sp) (hr : Room (k + 1) X.A) (hg : Gl X x) (hm : X.mg x = some (.ref C)) (hb : Binds X.K fd ps []) (hx : ∀ σ, PassesAt CX X σ (E σ))
    (ha : PA X (e :: es) t) (hdb : (x == ("__debug__" : Str)) = false := by decide) (he : starEach (e :: es) X.env = (false, eval e X.env) :: starEach es X.env := by rfl) (hpl : (backTo pos (starEach es X.env)).any (·.1) = false := by rfl) :
    PE X (.Call (.Name x p) (e :: es) [] pos) (tMakeS C sp E t) := by
  refine ⟨fun pins s σ H Q I h => ?_⟩
  refine wpAny_Call_Name_kw (ld_glob I hg hm ?_ hdb)
  refine PySem.W.callWith_K (h₀ := X.base) I.ok.mod.kin M.kp (thn (ha.run pos pins s σ H _ I h) fun us s1 ⟨vs, H1, I1, r, q⟩ => ⟨I1.kIn, ?_⟩) he hpl
  exact run_makeS M F hr hb (hx σ) I1 r q
end
/-- isinstance(e, c), e the caught exception, its fields in the dict at d -/
def rIsED (K : PySem.W.Frag) (D : Addr) (cls : Value) (d : Option Addr) (a : Addr) : List V → Hp → VK → Prop := fun xs H Q => ∃ (c : V) (cv : Value) (b : Bool) (dd : Addr) (fs : List (Str × V)), xs = [.ref a, c] ∧ cls = .ref D ∧ d = some dd ∧ H dd = some (.xd fs) ∧ ClsV c cv ∧ PySem.W.kitOne K (.ref D) cv = some b ∧ Q (.bl b) H
theorem call_isED {X : Cx} {a D : Addr} {oe : Obj} {cls : Value} {d : Option Addr} {pn : List (Addr × Obj)} (C : ExcC X.K D) (hz : Zc cls d oe) (hf : ∃ vs, oe.data = .fields vs) : CallR (X.suite a ((a, oe) :: pn)) (.builtin "isinstance") (rIsED X.K D cls d a) := by
  intro pins s σ H xs us Q I r h
  obtain ⟨c, cv, b, dd, fs, rfl, ec, ed, ea, hcv, e, q⟩ := h
  subst ec
  subst ed
  cases r with
  | cons rx rr =>
    cases rr with
    | cons rt rr =>
      cases rr
      cases rx
      have e2 := hcv.eq rt
      subst e2
      obtain ⟨hget, _⟩ := I.pin (a, oe) (List.mem_append.mpr (.inl List.mem_cons_self))
      obtain ⟨vs, hv⟩ := hf
      have hx : ObjOk X.prog X.w H s.heap dd (.xd fs) := I.hok dd _ ea
      obtain ⟨mA, hns, hr⟩ := hx
      obtain ⟨od, ho, hl⟩ := lookIn_ns hns
      obtain ⟨cd, hcD, _⟩ := PySem.W.any_some C.hd
      have J : PySem.W.InstAt s.heap a oe D (some od) := ⟨hget, hz.1, by unfold PySem.W.notCls; rw [hv] <;> rfl, by rw [hz.2]; exact ho⟩
      exact PySem.W.kia_one (PySem.W.kitx_exc (by rw [hcD]; rfl) C.hg C.hk C.hs C.ha C.hn C.ht C.hm) I.kIn J e (fun z => nomatch z) fun tk => ⟨.bl b, H, I.tok tk, rfl, q⟩
/-- a field where the frame is named (within a try) -/
theorem pe_fldK {X : Cx} {K : PySem.W.Frag} {e : Expr} {f : Str} {ta : TE} {pos : Pos} (h : X.K = K) (he : PE X e ta) (hb : attributeBase e f X.env (eval e X.env) = eval e X.env) : PE X (.Attribute e f pos) (tFld K ta f) := h ▸ pe_fld he hb
end RO9

/-! ### things of any kind: bounds of their repr, data without dicts -/
namespace RO9
open PySem PySem.Spec PyProof.Rows L2
def roB (k n : Nat) (d : PyData) : Bool := d.showable && decide (d.depth ≤ k) && d.leavesShort 64 && decide (d.bulk ≤ n)
theorem roOf {k n : Nat} {d : PyData} (h : roB k n d = true) : Ro k n d := by
  unfold roB at h
  simp only [Bool.and_eq_true, decide_eq_true_eq] at h
  exact ⟨h.1.1.1, h.1.1.2, h.1.2, h.2⟩
theorem Ro.up {k k' n n' : Nat} {d : PyData} (h : Ro k n d) (hk : k ≤ k') (hn : n ≤ n') : Ro k' n' d := ⟨h.sh, Nat.le_trans h.dp hk, h.lf, Nat.le_trans h.bk hn⟩
theorem Ro.all {k n : Nat} : ∀ {ds : List PyData}, (∀ d ∈ ds, Ro k n d) → PyData.showableAll ds = true ∧ PyData.depthAll ds ≤ k ∧ PyData.leavesShortAll 64 ds = true ∧ PyData.bulkAll ds ≤ ds.length * (n + 1)
  | [], _ => ⟨by simp [PyData.showableAll], by simp [PyData.depthAll], by simp [PyData.leavesShortAll], by simp [PyData.bulkAll]⟩
  | d :: ds, h => by
    obtain ⟨a1, a3, a4, a5⟩ := Ro.all (ds := ds) fun x hx => h x (List.mem_cons_of_mem _ hx)
    have b := h d List.mem_cons_self
    refine ⟨?_, ?_, ?_, ?_⟩
    · simp only [PyData.showableAll, b.sh, a1, Bool.and_true]
    · simp only [PyData.depthAll]
      exact Nat.max_le.mpr ⟨b.dp, a3⟩
    · simp only [PyData.leavesShortAll, b.lf, a4, Bool.and_true]
    · simp only [PyData.bulkAll, List.length_cons]
      have := b.bk
      rw [Nat.add_mul]
      omega
theorem Ro.tup {k n m : Nat} {ds : List PyData} (h : ∀ d ∈ ds, Ro k n d) (hm : ds.length * (n + 1) ≤ m) : Ro (k + 1) m (.tuple ds) := by
  obtain ⟨a1, a3, a4, a5⟩ := Ro.all h
  refine ⟨?_, ?_, ?_, ?_⟩
  · simpa only [PyData.showable] using a1
  · simp only [PyData.depth]
    omega
  · simpa only [PyData.leavesShort] using a4
  · simp only [PyData.bulk]
    omega
theorem Ro.lst {k n m : Nat} {ds : List PyData} (h : ∀ d ∈ ds, Ro k n d) (hm : ds.length * (n + 1) ≤ m) : Ro (k + 1) m (.list ds) := by
  obtain ⟨a1, a3, a4, a5⟩ := Ro.all h
  refine ⟨?_, ?_, ?_, ?_⟩
  · simpa only [PyData.showable] using a1
  · simp only [PyData.depth]
    omega
  · simpa only [PyData.leavesShort] using a4
  · simp only [PyData.bulk]
    omega
theorem Ro.pair {k n m q : Nat} {a b : PyData} (ha : Ro k n a) (hb : Ro k m b) (hq : n + m + 2 ≤ q) : Ro (k + 1) q (.tuple [a, b]) := by
  have h1 := ha.bk
  have h2 := hb.bk
  have h3 := ha.dp
  have h4 := hb.dp
  refine ⟨?_, ?_, ?_, ?_⟩
  · simp only [PyData.showable, PyData.showableAll, ha.sh, hb.sh, Bool.and_true]
  · simp only [PyData.depth, PyData.depthAll]
    omega
  · simp only [PyData.leavesShort, PyData.leavesShortAll, ha.lf, hb.lf, Bool.and_true]
  · simp only [PyData.bulk, PyData.bulkAll]
    omega
theorem Ro.int {i : Int} (h : -1000000000 ≤ i) (g : i ≤ 1000000000) : Ro 0 0 (.int i) := .of (.int (by omega))
theorem Ro.ints {ns : List Int} {m : Nat} (h : ∀ n ∈ ns, -1000000000 ≤ n ∧ n ≤ 1000000000) (hm : ns.length ≤ m) : Ro 1 m (.tuple (ns.map PyData.int)) := .tup (n := 0) (fun d hd => by
  obtain ⟨n, hn, rfl⟩ := List.mem_map.mp hd
  exact .int (h n hn).1 (h n hn).2) (by rw [List.length_map]; omega)
theorem Od.dp {K : PySem.W.Frag} {H : Hp} {v : V} {d : PyData} (h : Od K H v d) (n : d.hasDict = false) : Dp K H v d := by
  refine Od.rec (motive_1 := fun v d _ => d.hasDict = false → Dp K H v d) (motive_2 := fun vs ds _ => PyData.hasDictAll ds = false → DpAll K H vs ds) ?_ ?_ ?_ ?_ ?_ ?_ ?_ ?_ ?_ h n
  · exact fun _ => .non
  · exact fun b _ => .bl b
  · exact fun i _ => .int i
  · exact fun x _ => .str x
  · exact fun e _ ih n => .lst (SqL.of e) (ih (by simpa only [PyData.hasDict] using n))
  · exact fun e _ ih n => .tup e (ih (by simpa only [PyData.hasDict] using n))
  · exact fun _ _ _ n => by simp [PyData.hasDict] at n
  · exact fun _ => .nil
  · intro v vs d ds _ _ a b n
    simp only [PyData.hasDictAll, Bool.or_eq_false_iff] at n
    exact .cons (a n.1) (b n.2)
mutual
theorem Dp.od {K : PySem.W.Frag} {H : Hp} (sl : ∀ a xs, SqL K H a xs → H a = some (.lst xs)) : ∀ {v : V} {d : PyData}, Dp K H v d → Od K H v d
  | _, _, .non => .non
  | _, _, .bl b => .bl b
  | _, _, .int i => .int i
  | _, _, .str x => .str x
  | _, _, .lst e h => .lst (sl _ _ e) (DpAll.od sl h)
  | _, _, .tup e h => .tup e (DpAll.od sl h)
theorem DpAll.od {K : PySem.W.Frag} {H : Hp} (sl : ∀ a xs, SqL K H a xs → H a = some (.lst xs)) : ∀ {vs : List V} {ds : List PyData}, DpAll K H vs ds → OdAll K H vs ds
  | _, _, .nil => .nil
  | _, _, .cons a b => .cons (Dp.od sl a) (DpAll.od sl b)
end
theorem OdAll.ints {K : PySem.W.Frag} {H : Hp} : ∀ ns : List Int, OdAll K H (ns.map V.int) (ns.map PyData.int)
  | [] => .nil
  | n :: ns => .cons (.int n) (OdAll.ints ns)
theorem Od.ints {K : PySem.W.Frag} {H : Hp} {a : Addr} {ns : List Int} (h : SqT K H a (ns.map V.int)) : Od K H (.ref a) (.tuple (ns.map PyData.int)) := .tup h (OdAll.ints ns)
theorem OdAll.mono {K : PySem.W.Frag} {H H' : Hp} {vs : List V} {ds : List PyData} (h : OdAll K H vs ds) (s : ∀ b o, H b = some o → H' b = some o) : OdAll K H' vs ds := by
  refine OdAll.rec (motive_1 := fun v d _ => Od K H' v d) (motive_2 := fun vs ds _ => OdAll K H' vs ds) ?_ ?_ ?_ ?_ ?_ ?_ ?_ ?_ ?_ h
  · exact .non
  · exact fun b => .bl b
  · exact fun i => .int i
  · exact fun x => .str x
  · exact fun e _ ih => .lst (s _ _ e) ih
  · exact fun e _ ih => .tup (e.elim (fun h => .inl (h.elim (fun h => .inl (s _ _ h)) fun ⟨o, h⟩ => .inr ⟨o, s _ _ h⟩)) .inr) ih
  · exact fun e _ ih => .dct (s _ _ e) ih
  · exact .nil
  · exact fun _ _ a b => .cons a b
theorem OdAll.append {K : PySem.W.Frag} {H : Hp} {ds' : List PyData} {vs' : List V} (h' : OdAll K H vs' ds') : ∀ {vs : List V} {ds : List PyData}, OdAll K H vs ds → OdAll K H (vs ++ vs') (ds ++ ds')
  | [], _, h => by
    cases h
    exact h'
  | _ :: _, _, h => by
    cases h with
    | cons a t => exact .cons a (OdAll.append h' t)
theorem OdAll.set {K : PySem.W.Frag} {H : Hp} {v : V} {d : PyData} (hd : Od K H v d) : ∀ {vs : List V} {ds : List PyData} (i : Nat), OdAll K H vs ds → OdAll K H (vs.set i v) (ds.set i d)
  | [], _, _, h => by
    cases h
    exact .nil
  | _ :: _, _, 0, h => by
    cases h with
    | cons a t => exact .cons hd t
  | _ :: _, _, i + 1, h => by
    cases h with
    | cons a t => exact .cons a (OdAll.set hd i t)
theorem OdAll.take {K : PySem.W.Frag} {H : Hp} : ∀ {vs : List V} {ds : List PyData} (i : Nat), OdAll K H vs ds → OdAll K H (vs.take i) (ds.take i)
  | [], _, _, h => by
    cases h
    simp only [List.take_nil]
    exact .nil
  | _ :: _, _, 0, _ => .nil
  | _ :: _, _, i + 1, h => by
    cases h with
    | cons a t => exact .cons a (OdAll.take i t)
theorem OdAll.drop {K : PySem.W.Frag} {H : Hp} : ∀ {vs : List V} {ds : List PyData} (i : Nat), OdAll K H vs ds → OdAll K H (vs.drop i) (ds.drop i)
  | [], _, _, h => by
    cases h
    simp only [List.drop_nil]
    exact .nil
  | _ :: _, _, 0, h => h
  | _ :: _, _, i + 1, h => by
    cases h with
    | cons a t => exact OdAll.drop i t
theorem OdAll.rep {K : PySem.W.Frag} {H : Hp} {vs : List V} {ds : List PyData} (h : OdAll K H vs ds) : ∀ n : Nat, OdAll K H (List.replicate n vs).flatten (List.replicate n ds).flatten
  | 0 => .nil
  | n + 1 => by
    rw [List.replicate_succ, List.replicate_succ, List.flatten_cons, List.flatten_cons]
    exact OdAll.append (OdAll.rep h n) h
theorem len_flat {α : Type} (xs : List α) : ∀ n : Nat, (List.replicate n xs).flatten.length = n * xs.length
  | 0 => by simp
  | n + 1 => by
    rw [List.replicate_succ, List.flatten_cons, List.length_append, len_flat xs n, Nat.succ_mul]
    omega
theorem mem_flat {α : Type} {xs : List α} {x : α} {n : Nat} (h : x ∈ (List.replicate n xs).flatten) : x ∈ xs := by
  obtain ⟨l, hl, hx⟩ := List.mem_flatten.mp h
  rw [(List.mem_replicate.mp hl).2] at hx
  exact hx
end RO9

/-! ### the mathematics of the line -/
namespace Ln
/-- tick, turn, wait -/
abbrev Let := Int × Int × Option Int
def step (b τ u : Int) (s : List Let × Int) : List Let × Int := if s.2 > b then (s.1 ++ [(τ, u, none)], s.2) else (s.1 ++ [(τ, u, some s.2)], s.2 + 1)
def turns (b τ : Int) : Nat → List Let × Int → List Let × Int
  | 0, s => s
  | k + 1, s => step b τ (1 + (k : Int)) (turns b τ k s)
def close (c : Int) : Int := if c > 0 then c - 1 else c
def pre (b : Int) (cs : List Int) : Nat → List Let × Int
  | 0 => ([], 0)
  | i + 1 => ((turns b (i : Int) (cs.getD i 0).toNat (pre b cs i)).1, close (turns b (i : Int) (cs.getD i 0).toNat (pre b cs i)).2)
def letts (b : Int) (cs : List Int) : List Let := (pre b cs cs.length).1
def behind (b : Int) (cs : List Int) : Nat → List Int
  | 0 => []
  | i + 1 => behind b cs i ++ [(pre b cs (i + 1)).2]
theorem step_len (b τ u : Int) (s : List Let × Int) : (step b τ u s).1.length = s.1.length + 1 := by
  unfold step
  split <;> simp
theorem turns_len (b τ : Int) : ∀ (k : Nat) (s : List Let × Int), (turns b τ k s).1.length = s.1.length + k
  | 0, _ => rfl
  | k + 1, s => by
    unfold turns
    rw [step_len, turns_len b τ k s, Nat.add_assoc]
theorem turns_rng {b τ : Int} : ∀ (k : Nat) (s : List Let × Int), 0 ≤ s.2 → s.2 ≤ b + 1 → 0 ≤ (turns b τ k s).2 ∧ (turns b τ k s).2 ≤ b + 1
  | 0, s, h0, h1 => ⟨h0, h1⟩
  | k + 1, s, h0, h1 => by
    have ih := turns_rng (τ := τ) k s h0 h1
    unfold turns step
    split
    · exact ih
    · show 0 ≤ (turns b τ k s).2 + 1 ∧ (turns b τ k s).2 + 1 ≤ b + 1
      omega
theorem close_rng {b c : Int} (hb : 0 ≤ b) (h0 : 0 ≤ c) (h1 : c ≤ b + 1) : 0 ≤ close c ∧ close c ≤ b := by
  unfold close
  split <;> omega
theorem pre_rng {b : Int} (hb : 0 ≤ b) (cs : List Int) : ∀ i, 0 ≤ (pre b cs i).2 ∧ (pre b cs i).2 ≤ b
  | 0 => ⟨Int.le_refl _, hb⟩
  | i + 1 => by
    have ih := pre_rng hb cs i
    have t := turns_rng (b := b) (τ := (i : Int)) (cs.getD i 0).toNat (pre b cs i) ih.1 (by omega)
    unfold pre
    exact close_rng hb t.1 t.2
theorem pre_len {b : Int} {cs : List Int} (hc : ∀ c ∈ cs, c ≤ 4) : ∀ i, (pre b cs i).1.length ≤ 4 * i
  | 0 => Nat.le_refl _
  | i + 1 => by
    have ih := pre_len (b := b) hc i
    unfold pre
    rw [turns_len]
    have : cs.getD i 0 ≤ 4 := by
      rw [List.getD_eq_getElem?_getD]
      cases h : cs[i]? with
      | none => decide
      | some c => exact hc c (List.mem_of_getElem? h)
    omega
theorem behind_len (b : Int) (cs : List Int) : ∀ i, (behind b cs i).length = i
  | 0 => rfl
  | i + 1 => by
    unfold behind
    rw [List.length_append, behind_len b cs i]
    rfl
theorem getD_of {cs : List Int} {i : Nat} {c : Int} (h : cs[i]? = some c) : cs.getD i 0 = c := by
  rw [List.getD_eq_getElem?_getD, h]
  rfl
/-! pairs of who goes out when -/
def one (l : Let) (n : Int) : List (Int × Int) := match l.2.2 with
  | none => []
  | some w => [(l.1 + w, n)]
def outsFrom : Int → List Let → List (Int × Int)
  | _, [] => []
  | n, l :: r => one l n ++ outsFrom (n + 1) r
theorem outs_snoc : ∀ (L : List Let) (n : Int) (l : Let), outsFrom n (L ++ [l]) = outsFrom n L ++ one l (n + (L.length : Int))
  | [], n, l => by
    show one l n ++ [] = [] ++ one l (n + ((0 : Nat) : Int))
    rw [List.append_nil, List.nil_append]
    congr 1
    omega
  | x :: L, n, l => by
    show one x n ++ outsFrom (n + 1) (L ++ [l]) = (one x n ++ outsFrom (n + 1) L) ++ one l _
    rw [outs_snoc L (n + 1) l, List.append_assoc]
    congr 3
    rw [List.length_cons]
    omega
theorem one_len (l : Let) (n : Int) : (one l n).length ≤ 1 := by
  unfold one
  split <;> simp
theorem outs_len : ∀ (L : List Let) (n : Int), (outsFrom n L).length ≤ L.length
  | [], _ => Nat.le_refl _
  | l :: r, n => by
    show (one l n ++ outsFrom (n + 1) r).length ≤ r.length + 1
    have := outs_len r (n + 1)
    have := one_len l n
    rw [List.length_append]
    omega
def qp : Int → List Int → List (Int × Int)
  | _, [] => []
  | τ, n :: r => (τ, n) :: qp (τ + 1) r
theorem qp_snoc : ∀ (q : List Int) (τ n : Int), qp τ (q ++ [n]) = qp τ q ++ [(τ + (q.length : Int), n)]
  | [], τ, n => by
    show [(τ, n)] = [(τ + ((0 : Nat) : Int), n)]
    rw [show τ + ((0 : Nat) : Int) = τ by omega]
  | x :: q, τ, n => by
    show (τ, x) :: qp (τ + 1) (q ++ [n]) = (τ, x) :: (qp (τ + 1) q ++ [_])
    rw [qp_snoc q (τ + 1) n, List.length_cons]
    congr 4
    omega
/-- a queue of the law's own line, by the letters that came -/
def Led (τ : Int) (s : List Let × Int) (q : List Int) (prs : List (Int × Int)) : Prop := (q.length : Int) = s.2 ∧ prs ++ qp τ q = outsFrom 0 s.1
theorem Led.no {b τ u : Int} {s : List Let × Int} {q : List Int} {prs} (h : Led τ s q prs) (hb : s.2 > b) : Led τ (step b τ u s) q prs ∧ step b τ u s = (s.1 ++ [(τ, u, none)], s.2) := by
  have e : step b τ u s = (s.1 ++ [(τ, u, none)], s.2) := by
    unfold step
    rw [if_pos hb]
  refine ⟨?_, e⟩
  rw [e]
  refine ⟨h.1, ?_⟩
  rw [outs_snoc, ← h.2]
  show _ = _ ++ []
  rw [List.append_nil]
theorem Led.yes {b τ u : Int} {s : List Let × Int} {q : List Int} {prs} (h : Led τ s q prs) (hb : ¬ s.2 > b) : Led τ (step b τ u s) (q ++ [(s.1.length : Int)]) prs ∧ step b τ u s = (s.1 ++ [(τ, u, some s.2)], s.2 + 1) := by
  have e : step b τ u s = (s.1 ++ [(τ, u, some s.2)], s.2 + 1) := by
    unfold step
    rw [if_neg hb]
  refine ⟨?_, e⟩
  rw [e]
  refine ⟨?_, ?_⟩
  · rw [List.length_append]
    show ((q.length + 1 : Nat) : Int) = s.2 + 1
    have := h.1
    omega
  · show _ = outsFrom 0 (s.1 ++ [(τ, u, some s.2)])
    rw [outs_snoc, ← h.2, qp_snoc, ← List.append_assoc, h.1]
    show _ = _ ++ [(τ + s.2, (0 : Int) + (s.1.length : Int))]
    rw [Int.zero_add]
/-- each one goes out in its time -/
def Due (τ : Int) (L : List Let) (q : List Int) (prs : List (Int × Int)) : Prop := prs ++ qp τ q = outsFrom 0 L
theorem Due.pop {τ : Int} {L : List Let} {x : Int} {q : List Int} {prs} (h : Due τ L (x :: q) prs) : Due (τ + 1) L q (prs ++ [(τ, x)]) := by
  unfold Due at *
  rw [← h, List.append_assoc]
  rfl
theorem Due.nil {τ τ' : Int} {L : List Let} {prs} (h : Due τ L [] prs) : Due τ' L [] prs := h
theorem ticks_turns (b τ : Int) : ∀ (k : Nat) (s : List Let × Int), (turns b τ k s).1.map (·.1) = s.1.map (·.1) ++ List.replicate k τ
  | 0, s => by simp [turns]
  | k + 1, s => by
    have ih := ticks_turns b τ k s
    have e : (step b τ (1 + (k : Int)) (turns b τ k s)).1.map (·.1) = (turns b τ k s).1.map (·.1) ++ [τ] := by
      unfold step
      split <;> simp
    unfold turns
    rw [e, ih, List.append_assoc, List.replicate_succ']
def ticksOf (cs : List Int) : Nat → List Int
  | 0 => []
  | i + 1 => ticksOf cs i ++ List.replicate (cs.getD i 0).toNat (i : Int)
theorem ticks_are (b : Int) (cs : List Int) : ∀ i, (pre b cs i).1.map (·.1) = ticksOf cs i
  | 0 => rfl
  | i + 1 => by
    show (turns b (i : Int) (cs.getD i 0).toNat (pre b cs i)).1.map (·.1) = ticksOf cs i ++ _
    rw [ticks_turns, ticks_are b cs i]
theorem ticks_len {cs : List Int} (hc : ∀ c ∈ cs, c ≤ 4) (i : Nat) : (ticksOf cs i).length ≤ 4 * i := by
  rw [← ticks_are 0 cs i, List.length_map]
  exact pre_len hc i
theorem getD_past {cs : List Int} {i : Nat} (h : cs.length ≤ i) : cs.getD i 0 = 0 := by
  rw [List.getD_eq_getElem?_getD, List.getElem?_eq_none h]
  rfl
theorem pre_past {b : Int} (hb : 0 ≤ b) (cs : List Int) : ∀ d : Nat, (pre b cs (cs.length + d)).1 = letts b cs ∧ ((pre b cs (cs.length + d)).2 ≤ b - d ∨ (pre b cs (cs.length + d)).2 ≤ 0)
  | 0 => ⟨rfl, .inl (by
    have := (pre_rng hb cs cs.length).2
    show (pre b cs cs.length).2 ≤ b - ((0 : Nat) : Int)
    omega)⟩
  | d + 1 => by
    have ih := pre_past hb cs d
    have e : turns b ((cs.length + d : Nat) : Int) (cs.getD (cs.length + d) 0).toNat (pre b cs (cs.length + d)) = pre b cs (cs.length + d) := by
      rw [getD_past (by omega)]
      rfl
    have e1 : (pre b cs (cs.length + (d + 1))).1 = (turns b ((cs.length + d : Nat) : Int) (cs.getD (cs.length + d) 0).toNat (pre b cs (cs.length + d))).1 := rfl
    have e2 : (pre b cs (cs.length + (d + 1))).2 = close (turns b ((cs.length + d : Nat) : Int) (cs.getD (cs.length + d) 0).toNat (pre b cs (cs.length + d))).2 := rfl
    rw [e] at e1 e2
    refine ⟨e1.trans ih.1, ?_⟩
    rw [e2]
    unfold close
    have := ih.2
    split <;> omega
end Ln

/-! ## heaps, tuples, data, sorts -/
namespace My
open PySem PySem.Spec PyProof.Rows L2
--ANN _law_pick | cut if tape[1] < len(tape[0]): | cut
/-! ### heaps -/
theorem same_upd {H : Hp} {p : Addr} {o : HO} (h : H p = none) : Same H (upd H p o) := fun b x e => by
  rw [upd_ne (ne_of_none e h)]
  exact e
/-- all but t stays -/
def Moved (t : Addr) (H H' : Hp) : Prop := ∀ b o, b ≠ t → H b = some o → H' b = some o
theorem Moved.refl {t : Addr} {H : Hp} : Moved t H H := fun _ _ _ h => h
theorem Moved.trans {t : Addr} {H H1 H2 : Hp} (a : Moved t H H1) (b : Moved t H1 H2) : Moved t H H2 := fun c o n h => b c o n (a c o n h)
theorem Moved.upd {t : Addr} {H : Hp} {o : HO} : Moved t H (upd H t o) := fun b x n e => by
  rw [upd_ne n]
  exact e
theorem Moved.same {t : Addr} {H H' : Hp} (h : Same H H') : Moved t H H' := fun b o _ e => h b o e
theorem Moved.free {t : Addr} {H H' : Hp} (h : Moved t H H') {p : Addr} (n : p ≠ t) (e : H' p = none) : H p = none := by
  cases q : H p with
  | none => rfl
  | some o =>
    rw [h p o n q] at e
    cases e
/-! ### the tape: where the draws stand -/
def Tape (H : Hp) (t s : Addr) : Prop := ∃ (ns : List Int) (pos rest mx ct : Int), s ≠ t ∧ H t = some (.lst [.ref s, .int pos, .int rest, .int mx, .int ct]) ∧ H s = some (.lst (ns.map V.int)) ∧ 0 ≤ pos
theorem Tape.keep {t s : Addr} {H H' : Hp} (h : Tape H t s) (e : Same H H') : Tape H' t s := by
  obtain ⟨ns, a, b, c, d, h1, h2, h3, h4⟩ := h
  exact ⟨ns, a, b, c, d, h1, e _ _ h2, e _ _ h3, h4⟩
theorem Tape.ne {t s p : Addr} {H : Hp} (h : Tape H t s) (np : H p = none) : p ≠ t := fun e => by
  obtain ⟨ns, a, b, c, d, h1, h2, h3, h4⟩ := h
  rw [e, h2] at np
  cases np
theorem Tape.ne2 {t s p : Addr} {H : Hp} (h : Tape H t s) (np : H p = none) : p ≠ s := fun e => by
  obtain ⟨ns, a, b, c, d, h1, h2, h3, h4⟩ := h
  rw [e, h3] at np
  cases np
theorem Tape.but {t s r : Addr} {H : Hp} {o : HO} (h : Tape H t s) (n : r ≠ t) (n2 : r ≠ s) : Tape (upd H r o) t s := by
  obtain ⟨ns, a, b, c, d, h1, h2, h3, h4⟩ := h
  refine ⟨ns, a, b, c, d, h1, ?_, ?_, h4⟩
  · rw [upd_ne n.symm]
    exact h2
  · rw [upd_ne n2.symm]
    exact h3
section
variable {K : PySem.W.Frag} {H : Hp}
theorem tyTup {a : Addr} {xs : List V} (h : SqT K H a xs) : TyX K H (.ref a) (.type "tuple") := by
  rcases h with (h | ⟨o, h⟩) | h
  · exact .base (.tup h)
  · exact .fTuple h
  · obtain ⟨o, n, vs, e, c, _⟩ := h
    exact .kTuple e c
theorem sT {H' : Hp} {a : Addr} {xs : List V} (e : Same H H') (h : SqT K H a xs) : SqT K H' a xs := by
  rcases h with (h | ⟨o, h⟩) | h
  · exact .inl (.inl (e _ _ h))
  · exact .inl (.inr ⟨o, e _ _ h⟩)
  · exact .inr h
end
/-! ### new tuples, one for each -/
theorem small2000 {n : Nat} (h : n ≤ 2000) : n < sizeLine := by
  show n < 2 ^ 24
  omega
inductive Tups {α : Type} (f : α → List V) (H : Hp) : List Addr → List α → Prop
  | nil : Tups f H [] []
  | cons {p : Addr} {x : α} {ps : List Addr} {xs : List α} : H p = some (.tup (f x)) → Tups f H ps xs → Tups f H (p :: ps) (x :: xs)
section
variable {α : Type} {f : α → List V} {H H' : Hp}
theorem Tups.keep {ps : List Addr} {xs : List α} (h : Tups f H ps xs) (e : ∀ b ys, H b = some (.tup ys) → H' b = some (.tup ys)) : Tups f H' ps xs := by
  induction h with
  | nil => exact .nil
  | cons a _ ih => exact .cons (e _ _ a) ih
theorem Tups.same {ps : List Addr} {xs : List α} (h : Tups f H ps xs) (e : Same H H') : Tups f H' ps xs := h.keep fun b ys z => e _ _ z
theorem Tups.put {ps : List Addr} {xs : List α} (h : Tups f H ps xs) {L : Addr} {ys : List V} {o : HO} (e : H L = some (.lst ys)) : Tups f (upd H L o) ps xs := h.keep fun b zs z => by
  rw [upd_ne (fun q => by rw [q, e] at z; cases z)]
  exact z
theorem Tups.new {ps : List Addr} {xs : List α} (h : Tups f H ps xs) {p : Addr} {o : HO} (e : H p = none) : Tups f (upd H p o) ps xs := h.same (same_upd e)
theorem Tups.snoc {ps : List Addr} {xs : List α} {p : Addr} {x : α} (h : Tups f H ps xs) (e : H p = some (.tup (f x))) : Tups f H (ps ++ [p]) (xs ++ [x]) := by
  induction h with
  | nil => exact .cons e .nil
  | cons a _ ih => exact .cons a ih
theorem Tups.append {ps qs : List Addr} {xs ys : List α} (h : Tups f H ps xs) (k : Tups f H qs ys) : Tups f H (ps ++ qs) (xs ++ ys) := by
  induction h with
  | nil => exact k
  | cons a _ ih => exact .cons a ih
theorem Tups.length {ps : List Addr} {xs : List α} (h : Tups f H ps xs) : ps.length = xs.length := by
  induction h with
  | nil => rfl
  | cons a _ ih => rw [List.length_cons, List.length_cons, ih]
theorem Tups.get {ps : List Addr} {xs : List α} (h : Tups f H ps xs) : ∀ {i : Nat} {v : V}, (ps.map V.ref)[i]? = some v → ∃ p x, v = .ref p ∧ xs[i]? = some x ∧ H p = some (.tup (f x)) := by
  induction h with
  | nil =>
    intro i v h
    simp at h
  | cons a _ ih =>
    intro i v h
    cases i with
    | zero =>
      simp at h
      exact ⟨_, _, h.symm, rfl, a⟩
    | succ i =>
      simp only [List.map_cons, List.getElem?_cons_succ] at h ⊢
      exact ih h
end
def wv : Option Int → V
  | none => .non
  | some w => .int w
def pv2 (p : Int × Int) : List V := [.int p.1, .int p.2]
/-! ### data that is compared -/
def wd : Option Int → PyData
  | none => .none
  | some w => .int w
def pd2 (p : Int × Int) : PyData := .tuple [.int p.1, .int p.2]
def dInts (ns : List Int) : PyData := .list (ns.map PyData.int)
def dWs (ws : List (Option Int)) : PyData := .list (ws.map wd)
def dPrs (ps : List (Int × Int)) : PyData := .list (ps.map pd2)
section
variable {K : PySem.W.Frag} {H : Hp}
theorem dpa_ints : ∀ ns : List Int, DpAll K H (ns.map V.int) (ns.map PyData.int)
  | [] => .nil
  | n :: ns => .cons (.int n) (dpa_ints ns)
theorem dp_wd : ∀ w : Option Int, Dp K H (wv w) (wd w)
  | none => .non
  | some w => .int w
theorem dpa_ws : ∀ ws : List (Option Int), DpAll K H (ws.map wv) (ws.map wd)
  | [] => .nil
  | w :: ws => .cons (dp_wd w) (dpa_ws ws)
theorem dpa_prs {ps : List Addr} {xs : List (Int × Int)} (h : Tups pv2 H ps xs) : DpAll K H (ps.map V.ref) (xs.map pd2) := by
  induction h with
  | nil => exact .nil
  | cons a _ ih => exact .cons (.tup (SqT.of a) (.cons (.int _) (.cons (.int _) .nil))) ih
end
theorem lay_all {α : Type} {f : α → PyData} (h : ∀ x, (f x).canLay0 = true) : ∀ xs : List α, PyData.canLayAll0 (xs.map f) = true
  | [] => by simp [PyData.canLayAll0]
  | x :: xs => by
    rw [List.map_cons, PyData.canLayAll0, h x, lay_all h xs]
    rfl
theorem dep_all {α : Type} {f : α → PyData} {d : Nat} (h : ∀ x, (f x).depth ≤ d) : ∀ xs : List α, PyData.depthAll (xs.map f) ≤ d
  | [] => by simp [PyData.depthAll]
  | x :: xs => by
    have h1 := h x
    have h2 := dep_all h xs
    rw [List.map_cons, PyData.depthAll]
    omega
/-- can be laid, and is at most d deep -/
def Shp (d : Nat) (x : PyData) : Prop := x.canLay0 = true ∧ x.depth ≤ d
theorem Shp.ok {d : Nat} {x : PyData} (h : Shp d x) (hd : d ≤ 64) : SeqAt.shaped x = true := by
  show (x.canLay0 && decide (x.depth ≤ 64)) = true
  rw [Bool.and_eq_true]
  exact ⟨h.1, decide_eq_true (Nat.le_trans h.2 hd)⟩
theorem Shp.int (i : Int) : Shp 1 (.int i) := ⟨by simp [PyData.canLay0], by simp [PyData.depth]⟩
theorem Shp.wd (w : Option Int) : Shp 1 (wd w) := by
  cases w <;> exact ⟨by simp [My.wd, PyData.canLay0], by simp [My.wd, PyData.depth]⟩
theorem Shp.list {α : Type} {f : α → PyData} {d : Nat} (h : ∀ x, Shp d (f x)) (xs : List α) : Shp (d + 1) (.list (xs.map f)) := by
  have h1 := lay_all (fun x => (h x).1) xs
  have h2 := dep_all (fun x => (h x).2) xs
  exact ⟨by simp only [PyData.canLay0]; exact h1, by simp only [PyData.depth]; omega⟩
theorem Shp.tup0 : Shp 1 (.tuple []) := ⟨by simp [PyData.canLay0, PyData.canLayAll0], by simp [PyData.depth, PyData.depthAll]⟩
theorem Shp.tupC {d : Nat} {x : PyData} {xs : List PyData} (h : Shp d x) (t : Shp (d + 1) (.tuple xs)) : Shp (d + 1) (.tuple (x :: xs)) := by
  obtain ⟨a, b⟩ := h
  obtain ⟨c, e⟩ := t
  simp only [PyData.canLay0] at c
  simp only [PyData.depth] at e
  refine ⟨?_, ?_⟩
  · simp only [PyData.canLay0, PyData.canLayAll0, a, c, Bool.and_self]
  · simp only [PyData.depth, PyData.depthAll]
    omega
theorem Shp.up {d e : Nat} {x : PyData} (h : Shp d x) (le : d ≤ e) : Shp e x := ⟨h.1, Nat.le_trans h.2 le⟩
theorem Shp.pd2 (p : Int × Int) : Shp 2 (pd2 p) := .tupC (.int _) (.tupC (.int _) (Shp.tup0.up (by decide)))
theorem Shp.ints (ns : List Int) : Shp 2 (dInts ns) := .list Shp.int ns
theorem Shp.ws (ws : List (Option Int)) : Shp 2 (dWs ws) := .list Shp.wd ws
theorem Shp.prs (ps : List (Int × Int)) : Shp 3 (dPrs ps) := .list Shp.pd2 ps
theorem eqv_same {d : Nat} {x : PyData} (h : Shp d x) : PyData.eqv x x = true := SeqAt.eqv_refl x h.1
theorem iteNE {b : Bool} {A B : Prop} (hb : b = true) (h : B) : if (!b) = true then A else B := by
  subst hb
  exact iteF h
theorem ne_same {d : Nat} {x : PyData} (h : Shp d x) : V.bl (!PyData.eqv x x) = V.bl false := by
  rw [eqv_same h]
  rfl
theorem eq_same {d : Nat} {x : PyData} (h : Shp d x) : V.bl (PyData.eqv x x) = V.bl true := by
  rw [eqv_same h]

theorem flat_one {α : Type} (n : Nat) (x : α) : (List.replicate n [x]).flatten = List.replicate n x := by
  induction n with
  | zero => rfl
  | succ n ih => rw [List.replicate_succ, List.flatten_cons, ih]; rfl
theorem take_snoc {α : Type} {l : List α} {i : Nat} {x : α} (h : l[i]? = some x) : l.take (i + 1) = l.take i ++ [x] := by
  rw [List.take_add_one, h]
  rfl
theorem same_put {H H' : Hp} {p : Addr} {o : HO} (sm : Same H H') (n : H p = none) : Same H (upd H' p o) := fun b x e => (upd_ne (ne_of_none e n)).trans (sm b x e)
theorem ne_no {a b : Int} (h : a = b) : V.bl (!decide (V.int a = V.int b)) = V.bl false := by
  subst h
  rw [decide_eq_true rfl]
  rfl
theorem ixN_nat {n : Nat} {p : Int} (h0 : 0 ≤ p) (h1 : p < (n : Int)) : ixN n p = some p.toNat := by
  unfold ixN
  rw [if_pos h0, if_pos h1]
theorem atI_of {xs : List V} {p : Int} {v : V} (h0 : 0 ≤ p) (h : xs[p.toNat]? = some v) : atI xs p = some v := by
  have e := atI_nat h
  rw [show ((p.toNat : Nat) : Int) = p by omega] at e
  exact e
theorem ixTK {X : Cx} {K : PySem.W.Frag} (h : X.K = K) : IxR X (rIxT K) := h ▸ ix_tup
theorem ixLK {X : Cx} {K : PySem.W.Frag} (h : X.K = K) : IxR X (rIxL K) := h ▸ ix_list
def rLenS (K : PySem.W.Frag) : List V → Hp → VK → Prop := fun xs H Q => ∃ p ys, xs = [.ref p] ∧ (SqL K H p ys ∨ SqT K H p ys) ∧ Q (.int ys.length) H
theorem lenK {X : Cx} {K : PySem.W.Frag} (h : X.K = K) : CallR X (.builtin "len") (rLenS K) := h ▸ call_len_seq
theorem isiK {X : Cx} {K : PySem.W.Frag} (h : X.K = K) : CallR X (.builtin "isinstance") (rIsi K) := h ▸ call_isi
theorem notInK {X : Cx} {K : PySem.W.Frag} (h : X.K = K) : OpR X (compareOp .NotIn) (rIn K true) := h ▸ op_notIn_seq
theorem inK {X : Cx} {K : PySem.W.Frag} (h : X.K = K) : OpR X (compareOp .In) (rIn K false) := h ▸ op_in_seq
/-! ### tuples of ints as data -/
def fI (r : List Int) : List V := r.map V.int
def dI (r : List Int) : PyData := .tuple (r.map PyData.int)
def dT (rs : List (List Int)) : PyData := .list (rs.map dI)
theorem units65 {k : Nat} {A : Around} (r : Room k A) : A.units + 65 < cLine := by
  have := r.un
  omega
theorem Shp.tuple {α : Type} {f : α → PyData} {d : Nat} (h : ∀ x, Shp d (f x)) (xs : List α) : Shp (d + 1) (.tuple (xs.map f)) := by
  have h1 := lay_all (fun x => (h x).1) xs
  have h2 := dep_all (fun x => (h x).2) xs
  exact ⟨by simp only [PyData.canLay0]; exact h1, by simp only [PyData.depth]; omega⟩
theorem Shp.dI (r : List Int) : Shp 2 (dI r) := .tuple Shp.int r
theorem Shp.dT (rs : List (List Int)) : Shp 3 (dT rs) := .list Shp.dI rs
theorem dp_dI {K : PySem.W.Frag} {H : Hp} {p : Addr} {r : List Int} (h : SqT K H p (r.map V.int)) : Dp K H (.ref p) (My.dI r) := .tup h (dpa_ints r)
theorem dpa_dT {K : PySem.W.Frag} {H : Hp} {ps : List Addr} {rs : List (List Int)} (h : Tups fI H ps rs) : DpAll K H (ps.map V.ref) (rs.map My.dI) := by
  induction h with
  | nil => exact .nil
  | cons a _ ih => exact .cons (dp_dI (SqT.of a)) ih
theorem dp_dT {K : PySem.W.Frag} {H : Hp} {L : Addr} {ps : List Addr} {rs : List (List Int)} (e : H L = some (.lst (ps.map V.ref))) (h : Tups fI H ps rs) : Dp K H (.ref L) (My.dT rs) := .lst (SqL.of e) (dpa_dT h)
theorem eqvA : ∀ a b : List Int, PyData.eqvAll (a.map PyData.int) (b.map PyData.int) = decide (a = b)
  | [], [] => by simp [PyData.eqvAll]
  | [], _ :: _ => by simp [PyData.eqvAll]
  | _ :: _, [] => by simp [PyData.eqvAll]
  | x :: a, y :: b => by
    rw [List.map_cons, List.map_cons, PyData.eqvAll, eqvA a b]
    simp only [PyData.eqv]
    by_cases h : x = y
    · subst h
      simp
    · simp [h]
theorem eqvI (a b : List Int) : PyData.eqv (My.dI a) (My.dI b) = decide (a = b) := by
  unfold My.dI
  rw [PyData.eqv]
  exact eqvA a b
theorem not_any {rs : List (List Int)} {r : List Int} (h : r ∉ rs) : ((rs.map My.dI).any fun z => PyData.eqv z (My.dI r)) = false := by
  rw [List.any_map, List.any_eq_false]
  intro x hx
  show ¬ PyData.eqv (My.dI x) (My.dI r) = true
  rw [eqvI]
  intro z
  exact h (of_decide_eq_true z ▸ hx)
/-! ### a tuple whose object is known: its methods -/
def Frz (H : Hp) (p : Addr) (xs : List V) : Prop := ∃ o : Obj, H p = some (.frz o (.tup xs)) ∧ o.dict = none
theorem Frz.sq {K : PySem.W.Frag} {H : Hp} {p : Addr} {xs : List V} (h : Frz H p xs) : SqT K H p xs := let ⟨o, e, _⟩ := h; .inl (.inr ⟨o, e⟩)
theorem Frz.same {H H' : Hp} {p : Addr} {xs : List V} (h : Frz H p xs) (e : Same H H') : Frz H' p xs := let ⟨o, a, b⟩ := h; ⟨o, e _ _ a, b⟩
theorem Frz.moved {t : Addr} {H H' : Hp} {p : Addr} {xs : List V} (h : Frz H p xs) (n : p ≠ t) (e : Moved t H H') : Frz H' p xs := let ⟨o, a, b⟩ := h; ⟨o, e _ _ n a, b⟩
theorem Frz.of {H H' : Hp} {p : Addr} {xs : List V} (h : Frz H p xs) (e : ∀ o, H p = some o → H' p = some o) : Frz H' p xs := let ⟨o, a, b⟩ := h; ⟨o, e _ a, b⟩
theorem Frz.ne {H : Hp} {p q : Addr} {xs : List V} (h : Frz H p xs) (n : H q = none) : p ≠ q := let ⟨_, a, _⟩ := h; ne_of_none a n
theorem Frz.tape {H : Hp} {p t s : Addr} {xs : List V} (h : Frz H p xs) (tp : Tape H t s) : p ≠ t := fun e => by
  obtain ⟨o, a, _⟩ := h
  obtain ⟨_, _, _, _, _, _, e2, _⟩ := tp
  rw [e, e2] at a
  cases a
theorem call_tupleF {X : Cx} : CallR X (.type "tuple") (fun xs H Q => ∃ p ys, xs = [.ref p] ∧ SqL X.K H p ys ∧ ∀ l H', H l = none → Same H H' → Frz H' l ys → (∀ b, b ≠ l → H' b = H b) → Q (.ref l) H') := by
  intro pins s σ H xs us Q I r h
  obtain ⟨p, ys, rfl, hq, q⟩ := h
  obtain ⟨u, rfl, rx⟩ := vals1 r
  cases rx
  obtain ⟨its, r', pl, hz⟩ := I.list hq
  have hlen := r'.length
  refine call_tuple_list pl.isList (fun h' kp => ?_) (by simp only [List.size_toArray] <;> omega)
  have I1 : Inv X pins σ H { s with heap := h' } := I.kept (t' := s.toks) kp
  have I2 : Inv X pins σ (upd H h'.objs.size (.frz { cls := .type "tuple", data := .seq its.toArray } (.tup ys))) { s with heap := h'.push { cls := .type "tuple", data := .seq its.toArray } } :=
    I1.laid (t' := s.toks) (fun b o e => Heap.get?_push_of_some _ e) (Nat.le_refl _) (show ObjOk X.prog X.w _ _ _ (.frz _ (.tup ys)) from ⟨Heap.get?_push_size _ rfl, hz, its, r', IsTup.new _ _⟩)
  have nl := I1.hok.fresh (Nat.le_refl _)
  exact ⟨.ref h'.objs.size, _, I2, rfl, q _ _ nl (same_upd nl) ⟨_, upd_same, rfl⟩ fun b n => upd_ne n⟩
def tTM (r : V → List V → Hp → VK → Prop) (to : TE) (t : TA) : TE := fun σ H Q => to σ H fun x H1 => (∃ p xs, x = .ref p ∧ Frz H1 p xs) ∧ t σ H1 fun xs H2 => r x xs H2 Q
theorem pe_tm {X : Cx} {o e : Expr} {es : List Expr} {to : TE} {t : TA} {name : Str} {apos cpos : Pos} {id : String} {r : V → List V → Hp → VK → Prop} (pa : PlainAttrs "tuple") (slot : Slot "tuple" name id) (hty : typeOf (.builtin id) = pure (.type "method_descriptor")) (hm : MtR X id r) (ho : PE X o to) (ha : PA X (e :: es) t)
    (hbase : attributeBase o name X.env (eval o X.env) = eval o X.env := by rfl)
    (hfew : ((backTo cpos (starEach (e :: es) X.env)).all (fun x => !x.1) && (backToKw cpos (keywordEach [] X.env)).all (fun x => x.1.isSome)
      && decide ((e :: es).length + ([] : List Keyword).length + (if ([] : List Keyword).isEmpty then 0 else 1) < 30)) = true := by rfl)
    (hline : (apos.endLine == cpos.line) = true := by rfl) (hs : starEach (e :: es) X.env = (false, eval e X.env) :: starEach es X.env := by rfl) (hplain : (backTo cpos (starEach es X.env)).any (·.1) = false := by rfl) :
    PE X (.Call (.Attribute o name apos) (e :: es) [] cpos) (tTM r to t) := by
  refine ⟨fun pins s σ H Q I h => ?_⟩
  refine wpAny_Call_method_late hbase hfew hline rfl (thn (ho.run pins s σ H _ I h) fun v s1 ⟨x, H1, I1, r1, ty, q1⟩ => ?_)
  obtain ⟨p, xs, rfl, ob, hp, hd⟩ := ty
  cases r1
  obtain ⟨hob, _, its, _, ⟨o2, ho2, hc2, _⟩⟩ := I1.hok _ _ hp
  have eo : o2 = ob := Option.some.inj (ho2.symm.trans hob)
  subst eo
  refine ⟨"tuple", id, pa, slot, hty, ⟨_, hob, hc2⟩, fun a ea => ?_, ?_⟩
  · cases ea
    exact ⟨_, hob, hd⟩
  have hA := ha.run cpos pins s1 σ H1 _ I1 q1
  rw [hs] at hA ⊢
  refine Calls.callWith_builtin (by show (false || (backTo cpos (starEach es X.env)).any (·.1)) = false; rw [hplain] <;> rfl) (Calls.evalArgs_plain ?_)
  exact thn hA fun us s2 ⟨vs, H2, I2, r2, q2⟩ => hm pins s2 σ H2 (.ref p) vs _ us Q I2 rfl r2 q2
/-! ### t.index(k), t a tuple of ints -/
theorem flat_ints (ys : List Int) : (ys.map V.int).all flatV = true := by
  rw [List.all_map]
  exact List.all_eq_true.mpr fun _ _ => rfl
def rTIndex (K : PySem.W.Frag) : V → List V → Hp → VK → Prop := fun x xs H Q => ∃ p, ∃ ys : List Int, ∃ z j, x = .ref p ∧ xs = [.int z] ∧ SqT K H p (ys.map V.int) ∧ ys[j]? = some z ∧ (∀ m, m < j → ys[m]? ≠ some z) ∧ Q (.int (j : Nat)) H
theorem mt_tindex {X : Cx} : MtR X "tuple.index" (rTIndex X.K) := by
  intro pins s σ H x xs v us Q I rx rs h
  obtain ⟨p, ys, z, j, rfl, rfl, hq, hy, hno, q⟩ := h
  cases rx
  obtain ⟨u, rfl, t, rfl⟩ := vals1 rs
  obtain ⟨its, r, pl, hz⟩ := I.tuple hq
  obtain ⟨⟨cls, dd, dt, sl⟩, ho, hc, n, hd⟩ := pl
  simp only at hc hd
  subst hc
  subst hd
  have hl : its.toArray.size = ys.length := by rw [List.size_toArray, ← r.length, List.length_map]
  have hj : j < its.toArray.size := by rw [hl]; exact (List.getElem?_eq_some_iff.mp hy).1
  have at' : ∀ (m : Nat) (hm : m < its.toArray.size), ∃ y t', ys[m]? = some y ∧ its.toArray[m] = Value.int y t' := fun m hm => by
    have hm' : m < ys.length := by rw [← hl]; exact hm
    obtain ⟨w, hw, t', hw'⟩ := r.get (i := m) (x := .int ys[m]) (by simp [hm'])
    refine ⟨ys[m], t', List.getElem?_eq_getElem hm', ?_⟩
    have e := (List.getElem?_eq_some_iff.mp hw).2
    rw [← hw', ← e]
    simp
  refine call_meets PySem.F.slot_tuple_index ⟨_, ho, rfl⟩ PySem.F.entry_tuple_index (PySem.F.args_tuple_index_2 _ _) (TI.tuple_indexAt p its.toArray n dd sl (.int z t) (eqU (.int z)) j hj ?_ ?_)
    ⟨ho, fun w hw => mem_eqAt (x := .int z) ⟨t, rfl⟩ rfl r (flat_ints ys) w (by simpa using hw), ⟨.int (j : Nat), H, I.tok _, ⟨_, rfl⟩, q⟩⟩
  · obtain ⟨y, t', h1, h2⟩ := at' j hj
    rw [hy] at h1
    cases h1
    rw [h2]
    show (z == z) = true
    exact beq_self_eq_true z
  · intro m hm hmj
    obtain ⟨y, t', h1, h2⟩ := at' m hm
    rw [h2]
    show (y == z) = false
    exact beq_eq_false_iff_ne.mpr fun e => hno m hmj (e ▸ h1)
/-! ### sorted(xs), xs a list of tuples of d ints from 0 to B, of any length -/
/-- the ints of a tuple that H tracks -/
def intsV (H : Hp) : V → List Int
  | .ref a => match H a with
    | some (.tup xs) => xs.filterMap fun v => match v with
      | .int i => some i
      | _ => none
    | _ => []
  | _ => []
theorem ints_fI (r : List Int) : ((fI r).filterMap fun v => match v with
      | V.int i => some i
      | _ => none) = r := by
  unfold fI
  induction r with
  | nil => rfl
  | cons x r ih => simp [ih]
theorem intsV_of {H : Hp} {a : Addr} {r : List Int} (h : H a = some (.tup (fI r))) : intsV H (.ref a) = r := by
  show (match H a with
    | some (.tup xs) => xs.filterMap fun v => match v with
      | V.int i => some i
      | _ => none
    | _ => []) = r
  rw [h]
  exact ints_fI r
abbrev ltC (B : Int) (k : V → List Int) (x y : V) : Bool := decide (TS.code B (k x) < TS.code B (k y))
theorem swoC {α : Type} (f : α → Int) : SrtO.Swo fun x y => decide (f x < f y) := by
  refine ⟨fun x y h => ?_, fun x y z h1 h2 => ?_⟩
  · have a := of_decide_eq_true h
    exact decide_eq_false (by omega)
  · have a := of_decide_eq_false h1
    have b := of_decide_eq_false h2
    exact decide_eq_false (by omega)
def rSortC (K : PySem.W.Frag) (B : Int) (d : Nat) : List V → Hp → VK → Prop := fun vs H Q => ∃ (a : Addr) (ps : List Addr) (rs : List (List Int)), vs = [V.ref a] ∧ SqL K H a (ps.map V.ref) ∧ Tups fI H ps rs ∧ (∀ r ∈ rs, r.length = d ∧ TS.Bd B r) ∧
  ∀ ps' rs' p, Tups fI H ps' rs' → rs'.Perm rs → rs'.Pairwise (fun x y => TS.code B x ≤ TS.code B y) → H p = none → Q (.ref p) (upd H p (.lst (ps'.map V.ref)))
theorem tups_of {H : Hp} : ∀ {ps : List Addr}, (∀ p ∈ ps, ∃ r, H p = some (.tup (fI r))) → Tups fI H ps (ps.map fun p => intsV H (.ref p))
  | [], _ => .nil
  | p :: ps, h => by
    obtain ⟨r, hr⟩ := h p List.mem_cons_self
    refine .cons ?_ (tups_of fun q hq => h q (List.mem_cons_of_mem _ hq))
    show H p = some (.tup (fI (intsV H (.ref p))))
    rw [intsV_of hr]
    exact hr
theorem Tups.ints {H : Hp} {ps : List Addr} {rs : List (List Int)} (h : Tups fI H ps rs) : rs = ps.map fun p => intsV H (.ref p) := by
  induction h with
  | nil => rfl
  | cons a _ ih => rw [List.map_cons, intsV_of a, ← ih]
theorem Tups.mem {α : Type} {f : α → List V} {H : Hp} {ps : List Addr} {rs : List α} (h : Tups f H ps rs) : ∀ p ∈ ps, ∃ r ∈ rs, H p = some (.tup (f r)) := by
  induction h with
  | nil => exact fun _ h => absurd h (by simp)
  | cons a _ ih =>
    intro p hp
    rcases List.mem_cons.mp hp with rfl | hp
    · exact ⟨_, List.mem_cons_self, a⟩
    · obtain ⟨r, hr, e⟩ := ih p hp
      exact ⟨r, List.mem_cons_of_mem _ hr, e⟩
theorem cr_sortC {X : Cx} {B : Int} {d : Nat} (hd : 1 ≤ d) : CallR X (.builtin "sorted") (rSortC X.K B d) := by
  intro pins s σ H vs us Q I r h
  obtain ⟨a, ps, rs, rfl, hs, tu, hb, q⟩ := h
  obtain ⟨its, rv, hl, hz⟩ := I.list hs
  obtain ⟨u, rfl, ru⟩ := vals1 r
  obtain rfl : u = Value.ref a := ru
  obtain ⟨e1, e2⟩ := refs_back rv fun x m => by
    obtain ⟨t, _, e⟩ := List.mem_map.mp m
    exact ⟨t, e.symm⟩
  have key : ∀ v ∈ its, ∃ p, v = Value.ref p ∧ p ∈ ps := fun v hv => by
    obtain ⟨t, rfl⟩ := e2 v hv
    have hm : V.ref t ∈ ps.map V.ref := by rw [e1]; exact List.mem_map.mpr ⟨_, hv, rfl⟩
    obtain ⟨p, hp, e⟩ := List.mem_map.mp hm
    cases e
    exact ⟨t, rfl, hp⟩
  have tin : ∀ v ∈ its, TS.TupInts s.heap v (intsV H (backV v)) ∧ (intsV H (backV v)).length = d ∧ TS.Bd B (intsV H (backV v)) := fun v hv => by
    obtain ⟨p, rfl, hp⟩ := key v hv
    obtain ⟨r, hr, ep⟩ := tu.mem p hp
    have ei : intsV H (backV (Value.ref p)) = r := intsV_of ep
    rw [ei]
    obtain ⟨its2, r2, pt, _⟩ := I.tuple (SqT.of ep)
    have hb' := hb r hr
    exact ⟨⟨p, its2.toArray, rfl, pt, intsAre_of r2⟩, hb'.1, hb'.2⟩
  refine SrtO.sorted_ord (ltv := fun v u => decide (TS.code B (intsV H (backV v)) < TS.code B (intsV H (backV u)))) (swoC fun v => TS.code B (intsV H (backV v))) hl.isList (by rw [← rv.length]; exact hz) (fun h2 h₁ a' ha' kk => ?_) fun out h1 h2 => ?_
  · intro h' keep
    have keep2 : ∀ b o, s.heap.get? b = some o → o.cls = .type "tuple" → h'.get? b = some o := fun b o e c => keep b o (kk b o e).1 (kk b o e).2
    have tin' : ∀ v ∈ its, TS.TupInts h' v (intsV H (backV v)) ∧ (intsV H (backV v)).length = d ∧ TS.Bd B (intsV H (backV v)) := fun v hv => let ⟨x, y, z⟩ := tin v hv; ⟨x.keeps keep2, y, z⟩
    obtain ⟨fs, k1, k2, k3⟩ := TS.firsts_of (h := h') (d := d) (B := B) hd its fun v hv => ⟨_, tin' v hv⟩
    refine ⟨tuples' true, fun Q E hq => ?_, ?_⟩
    · refine PySem.W.kat_kind (T := .type "int") k1 (by omega) (fun f hm => ?_) (by rfl) ?_
      · obtain ⟨x, t, rfl⟩ := k3 f hm
        exact PySem.W.Looks.now
      · have e : (Value.type "int" != Value.type "tuple") = true := by first | decide +kernel | rfl | decide
        rw [e]
        exact hq
    · intro p q hm hm'
      obtain ⟨⟨a1, xs, x1, ⟨o1, ho1, hc1, n1, hd1⟩, i1⟩, l1, b1⟩ := tin' _ hm
      obtain ⟨⟨a2, ys, x2, ⟨o2, ho2, hc2, n2, hd2⟩, i2⟩, l2, b2⟩ := tin' _ hm'
      show wpAny _ _ (keyLt' _ p.1 q.1) (fun r s' => s' = _ ∧ r = decide (TS.code B (intsV H (backV p.1)) < TS.code B (intsV H (backV q.1)))) (fun _ _ => False) _
      generalize intsV H (backV p.1) = ns at *
      generalize intsV H (backV q.1) = ms at *
      rw [x1, x2]
      refine PySem.W.kat_lt ho1 hd1 ho2 hd2 ?_
      have el : xs.size = ys.size := by
        have z1 := i1.length
        have z2 := i2.length
        simp at z1 z2
        omega
      rw [el, decide_eq_false (Nat.lt_irrefl _)]
      exact TS.lex_ints 0 i1 i2 (by omega) b1 b2 ⟨rfl, rfl⟩
  · obtain ⟨ep, he'⟩ := PyProof.Rows.sortedAll_at s.heap its out.toArray
    have h3 : ∀ u ∈ out, ∃ p, u = Value.ref p ∧ p ∈ ps := fun u hu => key u (h2.perm.mem_iff.mp hu)
    have eo : out.map backV = (out.map fun u => match u with
      | Value.ref a => a
      | _ => 0).map V.ref := by
      rw [List.map_map]
      refine List.map_congr_left fun u hu => ?_
      obtain ⟨p, rfl, _⟩ := h3 u hu
      rfl
    have hp : (out.map backV).Perm (ps.map V.ref) := by
      rw [e1]
      exact h2.perm.map backV
    have hlen : (out.map backV).length ≤ sizeLine := by
      rw [hp.length_eq]
      exact hz
    generalize eps : (out.map fun u => match u with
      | Value.ref a => a
      | _ => 0) = ps' at eo
    have pp : ps'.Perm ps := by
      rw [eo] at hp
      have z := hp.map fun v => match v with
        | V.ref a => a
        | _ => 0
      rw [List.map_map, List.map_map] at z
      have id1 : ∀ l : List Addr, l.map ((fun v => match v with
        | V.ref a => a
        | _ => 0) ∘ V.ref) = l := fun l => by
        induction l with
        | nil => rfl
        | cons x l ih => rw [List.map_cons, ih]; rfl
      rw [id1, id1] at z
      exact z
    have tu' : Tups fI H ps' (ps'.map fun p => intsV H (.ref p)) := tups_of fun p hp => by
      obtain ⟨r, _, e⟩ := tu.mem p (pp.mem_iff.mp hp)
      exact ⟨r, e⟩
    have pw : (ps'.map fun p => intsV H (.ref p)).Pairwise (fun x y => TS.code B x ≤ TS.code B y) := by
      have z : (out.map backV).Pairwise (fun x y => TS.code B (intsV H x) ≤ TS.code B (intsV H y)) := List.pairwise_map.mpr (h1.imp fun {x y} h => Int.not_lt.mp (of_decide_eq_false h))
      rw [eo] at z
      rw [List.pairwise_map] at z ⊢
      exact z
    rw [eo] at hlen
    refine ⟨.ref _, upd H (s.heap.objs.size + 1) (.lst (ps'.map V.ref)), I.laid (t' := s.toks) (fun _ _ => PyProof.Rows.sortedAll_old) (Nat.le_succ _) ⟨hlen, out, ep, ?_, he'⟩, rfl, q ps' _ _ tu' ?_ pw (I.hok.fresh (Nat.le_succ _))⟩
    · rw [← eo]
      exact vals_back fun u hu => by
        obtain ⟨p, e, _⟩ := h3 u hu
        exact ⟨p, e⟩
    · rw [tu.ints]
      exact pp.map _
/-- there is just one such list -/
theorem code_inj {B : Int} : ∀ {d : Nat} {x y : List Int}, x.length = d → y.length = d → TS.Bd B x → TS.Bd B y → TS.code B x = TS.code B y → x = y
  | _, [], [], _, _, _, _, _ => rfl
  | _, [], _ :: _, h1, h2, _, _, _ => by
    subst h1
    cases h2
  | _, _ :: _, [], h1, h2, _, _, _ => by
    subst h2
    cases h1
  | _, a :: x, b :: y, h1, h2, b1, b2, e => by
    have hl : x.length = y.length := by
      rw [List.length_cons] at h1 h2
      omega
    rcases Int.lt_trichotomy a b with z | z | z
    · have := TS.code_lt hl b1.tail b2.tail z
      omega
    · subst z
      have e' : TS.code B x = TS.code B y := by
        have n1 := (TS.code_same (B := B) (d := a) hl).symm
        have n2 := (TS.code_same (B := B) (d := a) hl.symm).symm
        have k1 : ¬ TS.code B x < TS.code B y := fun z => by
          have := n1.mp z
          omega
        have k2 : ¬ TS.code B y < TS.code B x := fun z => by
          have := n2.mp z
          omega
        omega
      rw [code_inj (d := x.length) rfl hl.symm b1.tail b2.tail e']
    · have := TS.code_lt hl.symm b2.tail b1.tail z
      omega
theorem sorted_uniq {B : Int} {d : Nat} : ∀ {l m : List (List Int)}, l.Perm m → (∀ r ∈ m, r.length = d ∧ TS.Bd B r) → l.Pairwise (fun x y => TS.code B x ≤ TS.code B y) → m.Pairwise (fun x y => TS.code B x ≤ TS.code B y) → l = m
  | [], m, p, _, _, _ => (List.nil_perm.mp p).symm
  | x :: l, [], p, _, _, _ => absurd p.length_eq (by simp)
  | x :: l, y :: m, p, hb, a, b => by
    have a' := List.pairwise_cons.mp a
    have b' := List.pairwise_cons.mp b
    have hx : x ∈ y :: m := p.mem_iff.mp List.mem_cons_self
    have hy : y ∈ x :: l := p.mem_iff.mpr List.mem_cons_self
    have e1 : TS.code B x ≤ TS.code B y := by
      rcases List.mem_cons.mp hy with e | h
      · rw [e]
        exact Int.le_refl _
      · exact a'.1 y h
    have e2 : TS.code B y ≤ TS.code B x := by
      rcases List.mem_cons.mp hx with e | h
      · rw [e]
        exact Int.le_refl _
      · exact b'.1 x h
    have e : x = y := code_inj (hb x hx).1 (hb y List.mem_cons_self).1 (hb x hx).2 (hb y List.mem_cons_self).2 (Int.le_antisymm e1 e2)
    subst e
    rw [sorted_uniq (List.Perm.cons_inv p) (fun r hr => hb r (List.mem_cons_of_mem _ hr)) a'.2 b'.2]
end My

/-! ### the mathematics of reach -/
namespace Rch
def ins (x : Int) : List Int → List Int
  | [] => [x]
  | y :: r => if x ≤ y then x :: y :: r else y :: ins x r
def isort : List Int → List Int
  | [] => []
  | x :: r => ins x (isort r)
theorem ins_perm (x : Int) : ∀ l : List Int, (ins x l).Perm (x :: l)
  | [] => .refl _
  | y :: r => by
    unfold ins
    split
    · exact .refl _
    · exact ((ins_perm x r).cons y).trans (.swap x y r)
theorem isort_perm : ∀ l : List Int, (isort l).Perm l
  | [] => .refl _
  | x :: r => (ins_perm x (isort r)).trans ((isort_perm r).cons x)
theorem ins_sorted (x : Int) : ∀ l : List Int, l.Pairwise (· ≤ ·) → (ins x l).Pairwise (· ≤ ·)
  | [], _ => List.pairwise_singleton _ _
  | y :: r, h => by
    unfold ins
    have h' := List.pairwise_cons.mp h
    split
    · next hx =>
      refine List.pairwise_cons.mpr ⟨fun z hz => ?_, h⟩
      rcases List.mem_cons.mp hz with e | hz
      · subst e
        exact hx
      · exact Int.le_trans hx (h'.1 z hz)
    · next hx =>
      refine List.pairwise_cons.mpr ⟨fun z hz => ?_, ins_sorted x r h'.2⟩
      rcases List.mem_cons.mp ((ins_perm x r).mem_iff.mp hz) with e | hz
      · subst e
        omega
      · exact h'.1 z hz
theorem isort_sorted : ∀ l : List Int, (isort l).Pairwise (· ≤ ·)
  | [] => .nil
  | x :: r => ins_sorted x _ (isort_sorted r)
theorem uniq : ∀ {l m : List Int}, l.Perm m → l.Pairwise (· ≤ ·) → m.Pairwise (· ≤ ·) → l = m
  | [], m, p, _, _ => (List.nil_perm.mp p).symm
  | x :: l, [], p, _, _ => absurd p.length_eq (by simp)
  | x :: l, y :: m, p, a, b => by
    have a' := List.pairwise_cons.mp a
    have b' := List.pairwise_cons.mp b
    have e : x = y := by
      have h1 : x ∈ y :: m := p.mem_iff.mp List.mem_cons_self
      have h2 : y ∈ x :: l := p.mem_iff.mpr List.mem_cons_self
      rcases List.mem_cons.mp h1 with e | h1
      · exact e
      · rcases List.mem_cons.mp h2 with e | h2
        · exact e.symm
        · exact Int.le_antisymm (a'.1 y h2) (b'.1 x h1)
    subst e
    rw [uniq (List.Perm.cons_inv p) a'.2 b'.2]
theorem isort_of {l m : List Int} (p : m.Perm l) (h : m.Pairwise (· ≤ ·)) : m = isort l := uniq (p.trans (isort_perm l).symm) h (isort_sorted l)
def greedy : Int → List Int → Int
  | T, [] => T
  | T, l :: r => if l > T + 1 then T else greedy (T + l) r
def reachOf (ns : List Int) : Int := greedy 0 (isort ns)
theorem greedy_ge : ∀ (ls : List Int) (T : Int), (∀ x ∈ ls, 0 ≤ x) → T ≤ greedy T ls
  | [], T, _ => Int.le_refl _
  | l :: r, T, h => by
    unfold greedy
    have h0 := h l List.mem_cons_self
    split
    · exact Int.le_refl _
    · have := greedy_ge r (T + l) fun x hx => h x (List.mem_cons_of_mem _ hx)
      omega
theorem greedy_le : ∀ (ls : List Int) (T : Int), (∀ x ∈ ls, 0 ≤ x ∧ x ≤ 40) → greedy T ls ≤ T + 40 * (ls.length : Int)
  | [], T, _ => by
    show T ≤ T + 40 * ((0 : Nat) : Int)
    omega
  | l :: r, T, h => by
    unfold greedy
    have h0 := h l List.mem_cons_self
    rw [List.length_cons]
    split
    · omega
    · have := greedy_le r (T + l) fun x hx => h x (List.mem_cons_of_mem _ hx)
      omega
def Good (ns : List Int) : Prop := 1 ≤ ns.length ∧ ns.length ≤ 8 ∧ ∀ n ∈ ns, 1 ≤ n ∧ n ≤ 40
theorem Good.perm {l m : List Int} (g : Good l) (p : m.Perm l) : Good m := ⟨by rw [p.length_eq]; exact g.1, by rw [p.length_eq]; exact g.2.1, fun n h => g.2.2 n (p.mem_iff.mp h)⟩
theorem isort_congr {l m : List Int} (p : m.Perm l) : isort m = isort l := uniq (((isort_perm m).trans p).trans (isort_perm l).symm) (isort_sorted m) (isort_sorted l)
theorem reach_perm {l m : List Int} (p : m.Perm l) : reachOf m = reachOf l := by
  unfold reachOf
  rw [isort_congr p]
theorem reach_bd {ns : List Int} (g : Good ns) : 0 ≤ reachOf ns ∧ reachOf ns ≤ 320 := by
  have g' := g.perm (isort_perm ns)
  have h1 := greedy_ge (isort ns) 0 fun x hx => by have := g'.2.2 x hx; omega
  have h2 := greedy_le (isort ns) 0 fun x hx => by have := g'.2.2 x hx; omega
  have h3 := g'.2.1
  refine ⟨h1, ?_⟩
  show greedy 0 (isort ns) ≤ 320
  omega
/-- n is a sum of some of ls, and of a number from 0 to T -/
def reps (T : Int) : List Int → Int → Prop
  | [], n => 0 ≤ n ∧ n ≤ T
  | l :: r, n => reps T r n ∨ reps T r (n - l)
theorem reps_perm {T : Int} {l m : List Int} (p : l.Perm m) : ∀ n, reps T l n ↔ reps T m n := by
  induction p with
  | nil => exact fun _ => Iff.rfl
  | cons x _ ih =>
    intro n
    show (reps T _ n ∨ reps T _ (n - x)) ↔ (reps T _ n ∨ reps T _ (n - x))
    rw [ih n, ih (n - x)]
  | swap x y r =>
    intro n
    show ((reps T r n ∨ reps T r (n - x)) ∨ (reps T r (n - y) ∨ reps T r (n - y - x))) ↔ ((reps T r n ∨ reps T r (n - y)) ∨ (reps T r (n - x) ∨ reps T r (n - x - y)))
    rw [show n - y - x = n - x - y by omega]
    constructor
    · rintro ((a | a) | (a | a))
      · exact .inl (.inl a)
      · exact .inr (.inl a)
      · exact .inl (.inr a)
      · exact .inr (.inr a)
    · rintro ((a | a) | (a | a))
      · exact .inl (.inl a)
      · exact .inr (.inl a)
      · exact .inl (.inr a)
      · exact .inr (.inr a)
  | trans _ _ h1 h2 => exact fun n => (h1 n).trans (h2 n)
theorem reps_up {T l : Int} (h0 : 0 ≤ T) (h1 : 1 ≤ l) (h2 : l ≤ T + 1) : ∀ (r : List Int) (n : Int), reps (T + l) r n ↔ reps T (l :: r) n
  | [], n => by
    show (0 ≤ n ∧ n ≤ T + l) ↔ ((0 ≤ n ∧ n ≤ T) ∨ (0 ≤ n - l ∧ n - l ≤ T))
    omega
  | x :: r, n => by
    show (reps (T + l) r n ∨ reps (T + l) r (n - x)) ↔ _
    rw [reps_up h0 h1 h2 r n, reps_up h0 h1 h2 r (n - x)]
    exact (reps_perm (.swap l x r) n)
theorem reps_low {T : Int} : ∀ (ls : List Int) (n : Int), 0 ≤ n → n ≤ T → reps T ls n
  | [], n, a, b => ⟨a, b⟩
  | _ :: r, n, a, b => .inl (reps_low r n a b)
theorem reps_nonneg {T : Int} : ∀ (ls : List Int) (n : Int), (∀ x ∈ ls, 0 ≤ x) → reps T ls n → 0 ≤ n
  | [], n, _, h => h.1
  | l :: r, n, hp, h => by
    have h0 := hp l List.mem_cons_self
    have hr : ∀ x ∈ r, 0 ≤ x := fun x hx => hp x (List.mem_cons_of_mem _ hx)
    rcases h with h | h
    · exact reps_nonneg r n hr h
    · have := reps_nonneg r _ hr h
      omega
theorem reps_not {T : Int} (h0 : 0 ≤ T) : ∀ (ls : List Int) (n : Int), (∀ x ∈ ls, T + 1 < x) → n ≤ T + 1 → reps T ls n → n ≤ T
  | [], n, _, _, h => h.2
  | l :: r, n, hp, hn, h => by
    have hl := hp l List.mem_cons_self
    have hr : ∀ x ∈ r, T + 1 < x := fun x hx => hp x (List.mem_cons_of_mem _ hx)
    rcases h with h | h
    · exact reps_not h0 r n hr hn h
    · have := reps_nonneg r _ (fun x hx => by have := hr x hx; omega) h
      omega
theorem greedy_is : ∀ (ls : List Int) (T : Int), 0 ≤ T → (∀ x ∈ ls, 1 ≤ x) → ls.Pairwise (· ≤ ·) → (∀ n, 0 ≤ n → n ≤ greedy T ls → reps T ls n) ∧ ¬ reps T ls (greedy T ls + 1)
  | [], T, h0, _, _ => ⟨fun n a b => ⟨a, b⟩, fun h => by
    have := h.2
    unfold greedy at this
    omega⟩
  | l :: r, T, h0, hp, hs => by
    have hl := hp l List.mem_cons_self
    have hr : ∀ x ∈ r, 1 ≤ x := fun x hx => hp x (List.mem_cons_of_mem _ hx)
    have hs' := List.pairwise_cons.mp hs
    unfold greedy
    by_cases hc : l > T + 1
    · rw [if_pos hc]
      refine ⟨fun n a b => reps_low _ n a b, fun h => ?_⟩
      have := reps_not h0 (l :: r) (T + 1) (fun x hx => by
        rcases List.mem_cons.mp hx with e | hx
        · omega
        · have := hs'.1 x hx
          omega) (Int.le_refl _) h
      omega
    · rw [if_neg hc]
      have ih := greedy_is r (T + l) (by omega) hr hs'.2
      have up := reps_up h0 hl (by omega : l ≤ T + 1) r
      exact ⟨fun n a b => (up n).mp (ih.1 n a b), fun h => ih.2 ((up _).mpr h)⟩
theorem reach_is {ns : List Int} (g : Good ns) : (∀ n, 0 ≤ n → n ≤ reachOf ns → reps 0 ns n) ∧ ¬ reps 0 ns (reachOf ns + 1) := by
  have g' := g.perm (isort_perm ns)
  have k := greedy_is (isort ns) 0 (Int.le_refl _) (fun x hx => (g'.2.2 x hx).1) (isort_sorted ns)
  exact ⟨fun n a b => (reps_perm (isort_perm ns) n).mp (k.1 n a b), fun h => k.2 ((reps_perm (isort_perm ns) _).mpr h)⟩
/-! ### sums as bits -/
def sumsF (S : Nat) : List Int → Nat
  | [] => S
  | l :: r => sumsF (S ||| S * 2 ^ l.toNat) r
theorem bits_step {S : Nat} {ls : List Int} {l : Int} (hl : 0 ≤ l) (hp : ∀ x ∈ ls, 0 ≤ x) (h : ∀ n : Nat, S.testBit n = true ↔ reps 0 ls (n : Int)) (n : Nat) : (S ||| S * 2 ^ l.toNat).testBit n = true ↔ reps 0 (l :: ls) (n : Int) := by
  rw [← Nat.shiftLeft_eq, Nat.testBit_or, Nat.testBit_shiftLeft, Bool.or_eq_true, Bool.and_eq_true, decide_eq_true_eq, h n, h (n - l.toNat)]
  show _ ↔ (reps 0 ls (n : Int) ∨ reps 0 ls ((n : Int) - l))
  constructor
  · rintro (a | ⟨a, b⟩)
    · exact .inl a
    · refine .inr ?_
      rw [show (n : Int) - l = ((n - l.toNat : Nat) : Int) by omega]
      exact b
  · rintro (a | a)
    · exact .inl a
    · have := reps_nonneg ls _ hp a
      refine .inr ⟨by omega, ?_⟩
      rw [show ((n - l.toNat : Nat) : Int) = (n : Int) - l by omega]
      exact a
theorem bits_all : ∀ (ls acc : List Int) (S : Nat), (∀ x ∈ ls, 0 ≤ x) → (∀ x ∈ acc, 0 ≤ x) → (∀ n : Nat, S.testBit n = true ↔ reps 0 acc (n : Int)) → ∀ n : Nat, (sumsF S ls).testBit n = true ↔ reps 0 (ls.reverse ++ acc) (n : Int)
  | [], acc, S, _, _, h => h
  | l :: r, acc, S, hl, ha, h => by
    intro n
    rw [List.reverse_cons, List.append_assoc]
    exact bits_all r (l :: acc) _ (fun x hx => hl x (List.mem_cons_of_mem _ hx)) (fun x hx => by
      rcases List.mem_cons.mp hx with e | hx
      · subst e
        exact hl x List.mem_cons_self
      · exact ha x hx) (bits_step (hl l List.mem_cons_self) ha h) n
theorem bit_one (n : Nat) : (1 : Nat).testBit n = true ↔ reps 0 [] (n : Int) := by
  show _ ↔ (0 ≤ (n : Int) ∧ (n : Int) ≤ 0)
  cases n with
  | zero => exact ⟨fun _ => ⟨by decide, by decide⟩, fun _ => by decide⟩
  | succ n =>
    rw [Nat.testBit_succ, show 1 / 2 = 0 from rfl, Nat.zero_testBit]
    exact ⟨fun h => absurd h Bool.false_ne_true, fun h => by omega⟩
theorem sums_is {ns : List Int} (g : Good ns) (n : Nat) : (sumsF 1 ns).testBit n = true ↔ reps 0 ns (n : Int) := by
  rw [bits_all ns [] 1 (fun x hx => by have := g.2.2 x hx; omega) (fun _ h => by simp at h) bit_one n, List.append_nil]
  exact reps_perm (List.reverse_perm ns) n
/-- sums // (1 << n) % 2 -/
theorem bit_of (S n : Nat) : (((S : Nat) : Int) / (1 * 2 ^ ((n : Int).toNat))).fmod 2 = if S.testBit n then 1 else 0 := by
  rw [Int.toNat_natCast, Int.one_mul, Int.fmod_eq_emod_of_nonneg _ (by decide), show ((2 : Int) ^ n) = ((2 ^ n : Nat) : Int) by simp, ← Int.natCast_ediv, show ((2 : Int)) = ((2 : Nat) : Int) from rfl, ← Int.natCast_emod, Nat.testBit_eq_decide_div_mod_eq]
  rcases Nat.mod_two_eq_zero_or_one (S / 2 ^ n) with e | e
  · rw [e]; rfl
  · rw [e]; rfl
end Rch

/-! ### the mathematics of tables -/
namespace Tb
def len1 (ls : List Int) (k : Int) : Int := ls.getD k.toNat 0
def rsum (ls : List Int) (r : List Int) : Int := (r.map (len1 ls)).sum
def InR (ls r : List Int) : Prop := ∀ k ∈ r, 0 ≤ k ∧ k < (ls.length : Int)
def Right (ls : List Int) (rs : List (List Int)) : Prop := Rch.Good ls ∧ 1 ≤ rs.length ∧ rs.length ≤ 60 ∧ ∀ (i : Nat) (r : List Int), rs[i]? = some r → InR ls r ∧ r.length ≤ 60 ∧ rsum ls r = (i : Int) + 1
theorem len_at {ls : List Int} {k : Int} (h0 : 0 ≤ k) (h1 : k < (ls.length : Int)) : ls[k.toNat]? = some (len1 ls k) := by
  have h : k.toNat < ls.length := by omega
  unfold len1
  rw [List.getD_eq_getElem?_getD, List.getElem?_eq_getElem h]
  rfl
theorem len_pos {ls : List Int} (g : Rch.Good ls) {k : Int} (h0 : 0 ≤ k) (h1 : k < (ls.length : Int)) : 1 ≤ len1 ls k ∧ len1 ls k ≤ 40 := g.2.2 _ (List.mem_of_getElem? (len_at h0 h1))
theorem rsum_cons (ls : List Int) (k : Int) (r : List Int) : rsum ls (k :: r) = len1 ls k + rsum ls r := by
  unfold rsum
  rw [List.map_cons, List.sum_cons]
theorem rsum_snoc (ls : List Int) (r : List Int) (k : Int) : rsum ls (r ++ [k]) = rsum ls r + len1 ls k := by
  unfold rsum
  rw [List.map_append, List.sum_append]
  simp
theorem rsum_len {ls : List Int} (g : Rch.Good ls) : ∀ {r : List Int}, InR ls r → (r.length : Int) ≤ rsum ls r
  | [], _ => by simp [rsum]
  | k :: r, h => by
    have h1 := h k List.mem_cons_self
    have := (len_pos g h1.1 h1.2).1
    have ih := rsum_len g (r := r) fun x hx => h x (List.mem_cons_of_mem _ hx)
    rw [rsum_cons, List.length_cons]
    omega
/-- when gone, into which loop -/
def go (ls : List Int) : Int → List Int → List (Int × Int)
  | _, [] => []
  | g, k :: r => (g, k) :: go ls (g + len1 ls k) r
theorem go_len (ls : List Int) : ∀ (r : List Int) (g : Int), (go ls g r).length = r.length
  | [], _ => rfl
  | k :: r, g => by
    show (go ls (g + len1 ls k) r).length + 1 = r.length + 1
    rw [go_len ls r]
theorem go_take (ls : List Int) : ∀ (r : List Int) (g : Int) (j : Nat), (go ls g r)[j]? = (r[j]?).map fun k => (g + rsum ls (r.take j), k)
  | [], g, j => by simp [go]
  | k :: r, g, 0 => by
    show some (g, k) = some (g + rsum ls [], k)
    simp [rsum]
  | k :: r, g, j + 1 => by
    show (go ls (g + len1 ls k) r)[j]? = (r[j]?).map fun x => (g + rsum ls (k :: r.take j), x)
    rw [go_take ls r, rsum_cons]
    congr 1
    funext x
    rw [Int.add_assoc]
theorem go_snd (ls : List Int) : ∀ (r : List Int) (g : Int), (go ls g r).map (·.2) = r
  | [], _ => rfl
  | k :: r, g => by
    show k :: (go ls (g + len1 ls k) r).map (·.2) = k :: r
    rw [go_snd ls r]
theorem go_rng {ls : List Int} (G : Rch.Good ls) : ∀ (r : List Int) (g : Int), InR ls r → ∀ p ∈ go ls g r, g ≤ p.1 ∧ p.1 < g + rsum ls r ∧ 0 ≤ p.2 ∧ p.2 < (ls.length : Int)
  | [], _, _, p, hp => absurd hp (by simp [go])
  | k :: r, g, h, p, hp => by
    have hk := h k List.mem_cons_self
    have l1 := (len_pos G hk.1 hk.2).1
    have hr : InR ls r := fun x hx => h x (List.mem_cons_of_mem _ hx)
    have n0 := rsum_len G hr
    rw [rsum_cons]
    rcases List.mem_cons.mp hp with e | hp
    · rw [e]
      show g ≤ g ∧ g < _ ∧ 0 ≤ k ∧ k < _
      omega
    · have := go_rng G r _ hr p hp
      omega
theorem go_up {ls : List Int} (G : Rch.Good ls) : ∀ (r : List Int) (g : Int), InR ls r → (go ls g r).Pairwise fun p q => p.1 < q.1
  | [], _, _ => .nil
  | k :: r, g, h => by
    have hk := h k List.mem_cons_self
    have l1 := (len_pos G hk.1 hk.2).1
    have hr : InR ls r := fun x hx => h x (List.mem_cons_of_mem _ hx)
    refine List.pairwise_cons.mpr ⟨fun q hq => ?_, go_up G r _ hr⟩
    have := go_rng G r _ hr q hq
    show g < q.1
    omega
/-- loop, gone, left -/
def ent (w : Int) (p : Int × Int) : List Int := [p.2, p.1, w - p.1]
def ents (ls : List Int) (w : Int) (r : List Int) : List (List Int) := (go ls 0 r).map (ent w)
def all (ls : List Int) (rs : List (List Int)) : Nat → List (List Int)
  | 0 => []
  | i + 1 => all ls rs i ++ ents ls ((i : Int) + 1) (rs.getD i [])
theorem ents_len (ls : List Int) (w : Int) (r : List Int) : (ents ls w r).length = r.length := by
  unfold ents
  rw [List.length_map, go_len]
theorem getD_row {rs : List (List Int)} {i : Nat} {r : List Int} (h : rs[i]? = some r) : rs.getD i [] = r := by
  rw [List.getD_eq_getElem?_getD, h]
  rfl
theorem all_wait {ls : List Int} {rs : List (List Int)} : ∀ (i : Nat) (e : List Int), e ∈ all ls rs i → ∃ k g w : Int, e = [k, g, w - g] ∧ 1 ≤ w ∧ w ≤ i
  | 0, e, h => absurd h (by simp [all])
  | i + 1, e, h => by
    rcases List.mem_append.mp h with h | h
    · obtain ⟨k, g, w, e1, h1, h2⟩ := all_wait i e h
      exact ⟨k, g, w, e1, h1, by omega⟩
    · obtain ⟨p, _, rfl⟩ := List.mem_map.mp h
      exact ⟨p.2, p.1, (i : Int) + 1, rfl, by omega, by omega⟩
/-- each new one is new -/
theorem new_one {ls : List Int} {rs : List (List Int)} {r : List Int} (G : Rch.Good ls) (hr : InR ls r) {i j : Nat} {p : Int × Int} (hj : (go ls 0 r)[j]? = some p) : ent ((i : Int) + 1) p ∉ all ls rs i ++ ((go ls 0 r).take j).map (ent ((i : Int) + 1)) := by
  intro h
  rcases List.mem_append.mp h with h | h
  · obtain ⟨k, g, w, e, h1, h2⟩ := all_wait i _ h
    unfold ent at e
    have e1 : p.1 = g := by
      have := congrArg (fun z : List Int => z.getD 1 0) e
      exact this
    have e2 : (i : Int) + 1 - p.1 = w - g := by
      have := congrArg (fun z : List Int => z.getD 2 0) e
      exact this
    omega
  · obtain ⟨q, hq, e⟩ := List.mem_map.mp h
    have e1 : q.1 = p.1 := by
      have := congrArg (fun z : List Int => z.getD 1 0) e
      exact this
    obtain ⟨m, hm⟩ := List.mem_iff_getElem?.mp hq
    rw [List.getElem?_take] at hm
    split at hm
    · next hlt =>
      have pw := List.pairwise_iff_getElem.mp (go_up G r 0 hr)
      obtain ⟨hm', em⟩ := List.getElem?_eq_some_iff.mp hm
      obtain ⟨hj', ej⟩ := List.getElem?_eq_some_iff.mp hj
      have := pw m j hm' hj' hlt
      rw [em, ej] at this
      omega
    · cases hm
theorem ents_bd {ls : List Int} {r : List Int} {w : Int} (G : Rch.Good ls) (hr : InR ls r) (hw : rsum ls r = w) (h60 : w ≤ 60) : ∀ e ∈ ents ls w r, e.length = 3 ∧ TS.Bd 1000 e := by
  intro e he
  obtain ⟨p, hp, rfl⟩ := List.mem_map.mp he
  have h := go_rng G r 0 hr p hp
  have g1 := G.2.1
  refine ⟨rfl, fun m hm => ?_⟩
  unfold ent at hm
  simp only [List.mem_cons, List.not_mem_nil, or_false] at hm
  rcases hm with e | e | e <;> subst e <;> omega
theorem all_bd {ls : List Int} {rs : List (List Int)} (R : Right ls rs) : ∀ i, i ≤ rs.length → ∀ e ∈ all ls rs i, e.length = 3 ∧ TS.Bd 1000 e
  | 0, _, e, he => absurd he (by simp [all])
  | i + 1, hi, e, he => by
    rcases List.mem_append.mp he with he | he
    · exact all_bd R i (by omega) e he
    · have hr : rs[i]? = some rs[i] := List.getElem?_eq_getElem (by omega)
      rw [getD_row hr] at he
      obtain ⟨a, b, c⟩ := R.2.2.2 i _ hr
      have := R.2.2.1
      exact ents_bd R.1 a c (by omega) e he
theorem all_len {ls : List Int} {rs : List (List Int)} (R : Right ls rs) : ∀ i, i ≤ rs.length → (all ls rs i).length ≤ 60 * i
  | 0, _ => Nat.le_refl _
  | i + 1, hi => by
    have ih := all_len R i (by omega)
    have hr : rs[i]? = some rs[i] := List.getElem?_eq_getElem (by omega)
    obtain ⟨a, b, c⟩ := R.2.2.2 i _ hr
    show (all ls rs i ++ ents ls ((i : Int) + 1) (rs.getD i [])).length ≤ _
    rw [List.length_append, ents_len, getD_row hr]
    omega
/-- the entries of one wait, when gone ahead -/
def ofWait (w : Int) (e : List Int) : Bool := (e.getD 1 0 + e.getD 2 0) == w
def swap (e : List Int) : List Int := [e.getD 1 0, e.getD 0 0]
def sel (w : Int) (es : List (List Int)) : List (List Int) := (es.filter (ofWait w)).map swap
theorem sel_append (w : Int) (a b : List (List Int)) : sel w (a ++ b) = sel w a ++ sel w b := by
  unfold sel
  rw [List.filter_append, List.map_append]
def gl (ls r : List Int) : List (List Int) := (go ls 0 r).map fun p => [p.1, p.2]
theorem sel_yes (ls : List Int) (w : Int) (r : List Int) : sel w (ents ls w r) = gl ls r := by
  unfold sel ents gl
  rw [List.filter_eq_self.mpr, List.map_map]
  · rfl
  · intro e he
    obtain ⟨p, _, rfl⟩ := List.mem_map.mp he
    show ((p.1 + (w - p.1)) == w) = true
    rw [beq_iff_eq]
    omega
theorem sel_no {ls : List Int} {w v : Int} (r : List Int) (h : v ≠ w) : sel w (ents ls v r) = [] := by
  unfold sel ents
  rw [List.filter_eq_nil_iff.mpr, List.map_nil]
  intro e he
  obtain ⟨p, _, rfl⟩ := List.mem_map.mp he
  show ¬ ((p.1 + (v - p.1)) == w) = true
  rw [beq_iff_eq]
  omega
theorem sel_all {ls : List Int} {rs : List (List Int)} (m : Nat) : ∀ i, sel ((m : Int) + 1) (all ls rs i) = if m < i then gl ls (rs.getD m []) else []
  | 0 => by
    rw [if_neg (by omega)]
    rfl
  | i + 1 => by
    show sel _ (all ls rs i ++ ents ls ((i : Int) + 1) (rs.getD i [])) = _
    rw [sel_append, sel_all m i]
    by_cases h : m < i
    · rw [if_pos h, if_pos (by omega), sel_no _ (by omega), List.append_nil]
    · rw [if_neg h, List.nil_append]
      by_cases h2 : m = i
      · subst h2
        rw [if_pos (by omega), sel_yes]
      · rw [if_neg (by omega), sel_no _ (by omega)]
theorem gl_bd {ls : List Int} {r : List Int} (G : Rch.Good ls) (hr : InR ls r) (h60 : rsum ls r ≤ 60) : ∀ e ∈ gl ls r, e.length = 2 ∧ TS.Bd 1000 e := by
  intro e he
  obtain ⟨p, hp, rfl⟩ := List.mem_map.mp he
  have h := go_rng G r 0 hr p hp
  have g1 := G.2.1
  refine ⟨rfl, fun m hm => ?_⟩
  simp only [List.mem_cons, List.not_mem_nil, or_false] at hm
  rcases hm with e | e <;> subst e <;> omega
theorem gl_sorted {ls : List Int} {r : List Int} (G : Rch.Good ls) (hr : InR ls r) (h60 : rsum ls r ≤ 60) : (gl ls r).Pairwise fun x y => TS.code 1000 x ≤ TS.code 1000 y := by
  unfold gl
  rw [List.pairwise_map]
  refine (List.pairwise_iff_getElem.mpr fun i j hi hj hij => ?_)
  have pw := List.pairwise_iff_getElem.mp (go_up G r 0 hr) i j hi hj hij
  have b1 := go_rng G r 0 hr _ (List.getElem_mem hi)
  have b2 := go_rng G r 0 hr _ (List.getElem_mem hj)
  have g1 := G.2.1
  show (go ls 0 r)[i].1 * 1000 ^ 1 + ((go ls 0 r)[i].2 * 1000 ^ 0 + 0) ≤ (go ls 0 r)[j].1 * 1000 ^ 1 + ((go ls 0 r)[j].2 * 1000 ^ 0 + 0)
  omega
theorem sel_perm {w : Int} {a b : List (List Int)} (p : a.Perm b) : (sel w a).Perm (sel w b) := (p.filter _).map _
theorem gl_snd (ls r : List Int) : (gl ls r).map (fun e => e.getD 1 0) = r := by
  unfold gl
  rw [List.map_map]
  exact go_snd ls r 0
end Tb

/-! ## sum(t), t a tuple of ints -/
namespace My
open PySem PySem.Spec PyProof.Rows L2
section
variable {prog : Program} {w : World} {A : Around} {E : Value → Shared → Prop} {s : Shared} {l : Addr} {xs : Array (Int × Tok)}
theorem sum_tupG {Q : Value → Shared → Prop} (hh : A.handled = none) (hl : s.heap.IsTuple l (intItems xs))
    (h : ∀ h' tk t', (∀ b o, s.heap.get? b = some o → h'.get? b = some o) → Q (.int (preSum (numAt xs) xs.size) t') { s with heap := h', toks := tk }) :
    wpAny (model prog w) A (call (.builtin "sum") [.ref l]) Q E s := by
  have hll : l < s.heap.objs.size := by obtain ⟨_, q, _⟩ := hl; exact Heap.lt_size q
  refine call_sum_walkG (wpAny_pyIter_tuple hl ?_)
  refine ⟨_, _, _, _, _, _, numAt xs, rfl, Walks.tuple (A := A.in1) hh s.heap.objs.size l (Nat.ne_of_lt hll) (intItems xs), ⟨⟨_, Heap.get?_push_size _ rfl, rfl, rfl⟩, hl.push _⟩, fun b hb => ?_, (fun _ _ => intItems_at), fun h' tk t' hk => ?_⟩
  · show b < (s.heap.push _).objs.size
    rw [Heap.size_push]
    rcases List.mem_cons.mp hb with rfl | hb
    · exact Nat.lt_succ_self _
    · rw [List.mem_singleton.mp hb]
      exact Nat.lt_succ_of_lt hll
  · have := h h' tk t' fun b o e => hk b o (fun hm => by
      rw [List.mem_singleton.mp hm] at e
      exact absurd (Heap.lt_size e) (Nat.lt_irrefl _)) (Heap.get?_push_of_some _ e)
    simpa [intItems] using this
end
def rSumT (K : PySem.W.Frag) : List V → Hp → VK → Prop := fun vs H Q => ∃ (a : Addr) (ns : List Int), vs = [V.ref a] ∧ SqT K H a (ns.map V.int) ∧ Q (.int ns.sum) H
theorem cr_sumT {X : Cx} (hc : X.calm = true) : CallR X (.builtin "sum") (rSumT X.K) := by
  intro pins s σ H vs us Q I r h
  obtain ⟨a, ns, rfl, hs, q⟩ := h
  obtain ⟨its, rv, hl, _⟩ := I.tuple hs
  rw [Vals.ref1 r]
  have hi := rv.ints
  obtain ⟨xs, e⟩ := hi.allInts.items
  have hn : numsOf (intItems xs).toList = ns := by rw [← e]; exact hi.numsOf
  rw [nums_intItems] at hn
  have hl' : s.heap.IsTuple a (intItems xs) := by
    rw [← e]
    exact hl
  refine sum_tupG (I.ok.hd hc) hl' fun h' tk t' hk => ?_
  rw [preSum_eq, List.take_of_length_le (by simp), hn]
  exact ⟨.int _, H, I.kept hk, ⟨_, rfl⟩, q⟩
/-! ### t + u, both tracked, t not empty -/
def rCatP : R2 := fun x y H Q => ∃ a b xs ys, x = .ref a ∧ y = .ref b ∧ H a = some (.tup xs) ∧ H b = some (.tup ys) ∧ xs ≠ [] ∧ xs.length + ys.length ≤ sizeLine ∧ ∀ p H', Same H H' → H' p = some (.tup (xs ++ ys)) → Q (.ref p) H'
theorem op_catP {X : Cx} : OpR X (binaryOp .Add) rCatP := by
  intro pins s σ H x y v u Q I rx ry h
  obtain ⟨a, b, xs, ys, rfl, rfl, ha, hb, hne, hz, q⟩ := h
  refine op_catA pins s σ H _ _ v u Q I rx ry ⟨a, b, xs, ys, rfl, rfl, SqT.of ha, SqT.of hb, hz, fun e => absurd e hne, fun _ e => ?_, fun _ _ p np => ?_⟩
  · subst e
    refine q a H (fun _ _ h => h) ?_
    rw [List.append_nil]
    exact ha
  · exact q p _ (same_upd np) upd_same
/-! ### xs[i] read where it is changed -/
theorem pgetL {X : Cx} : PGet X (rIxL X.K) := by
  intro pins s σ H o i ov iv Q I r1 r2 h
  obtain ⟨p, xs, k, z, rfl, rfl, hq, he, q⟩ := h
  cases r1
  obtain ⟨t, rfl⟩ := r2
  obtain ⟨its, r, pl, hz⟩ := I.list hq
  obtain ⟨j, h1, h2, h3, h4, h5⟩ := atI_get he
  obtain ⟨w, ew, rw'⟩ := r.get h2
  have hl := r.length
  have hn := line63
  have fin : EP X pins σ Q w s := ⟨z, H, I, rw', q⟩
  by_cases h0 : 0 ≤ k
  · have hj : k.toNat = j := by
      rw [PySem.seqIndex_of h0 h5] at h1
      exact Option.some.inj h1
    exact wpAny_getItem_list pl.isList h0 (by omega) (by rw [hj]; simpa using ew) fin
  · have hj : (k + (its.toArray.size : Int)).toNat = j := by
      rw [PySem.seqIndex_neg (by omega) h4] at h1
      rw [List.size_toArray, ← hl]
      exact Option.some.inj h1
    exact wpAny_mono (wpAny_getItem_list_neg (Q := fun r s' => r = w ∧ EP X pins σ Q r s') pl.isList (by omega) (by rw [List.size_toArray] <;> omega) (by omega) (by rw [hj]; simpa using ew) ⟨rfl, fin⟩) (fun _ _ h => h.2) fun _ _ h => h
/-! ### zip of two lists, the second one not longer -/
theorem for_zipS {K : PySem.W.Frag} {a b : Addr} {xs ys : List V} {g : TG} {tb : TS} {D : Ends} {σ : L2.St} {H : Hp} (hl : ys.length ≤ xs.length) (Pv : Nat → L2.St → Hp → Prop) (h0 : Pv 0 σ H) (hq : ∀ i σ H, Pv i σ H → SqL K H a xs ∧ SqL K H b ys)
    (hs : ∀ (i : Nat) (x y : V) (T : Addr) (σ : L2.St) (H : Hp), xs[i]? = some x → ys[i]? = some y → Pv i σ H → H T = none → g (.ref T) σ (upd H T (.tup [x, y])) fun σ2 H2 => tb { D with nx := Pv (i + 1), ct := Pv (i + 1), bk := D.nx } σ2 H2) (hd : ∀ σ H, Pv ys.length σ H → D.nx σ H) :
    ∃ W : Nat → Nat → L2.St → Hp → Prop, (∃ m, W 0 m σ H) ∧ ∀ i m σ H, W i m σ H →
      ((Itz K a b).stop i H ∧ D.nx σ H) ∨ ((Itz K a b).go i H ∧ ∃ N : L2.St → Hp → Prop, (∀ σ' H', N σ' H' → ∃ m', m' < m ∧ W (i + 1) m' σ' H') ∧ ∀ v H', (Itz K a b).yld i H v H' → g v σ H' fun σ2 H2 => tb { D with nx := N, ct := N, bk := D.nx } σ2 H2) := by
  refine ⟨fun i m σ H => m = ys.length - i ∧ i ≤ ys.length ∧ Pv i σ H, ⟨ys.length, rfl, Nat.zero_le _, h0⟩, ?_⟩
  rintro i m σ H ⟨rfl, hi, p⟩
  obtain ⟨qx, qy⟩ := hq i σ H p
  by_cases h : i < ys.length
  · have hx : xs[i]? = some xs[i] := List.getElem?_eq_getElem (by omega)
    have hy : ys[i]? = some ys[i] := List.getElem?_eq_getElem h
    refine .inr ⟨⟨xs, ys, _, _, qx, qy, hx, hy⟩, Pv (i + 1), fun σ' H' n => ⟨ys.length - (i + 1), by omega, rfl, by omega, n⟩, ?_⟩
    rintro v H' ⟨T, x, y, rfl, nT, rfl, ex, ey⟩
    exact hs i x y T σ H (ex xs qx) (ey ys qy) p nT
  · have e : i = ys.length := by omega
    subst e
    exact .inl ⟨⟨xs, ys, qx, qy, .inr (Nat.le_refl _)⟩, hd σ H p⟩
/-! ### what stays while the tape moves -/
theorem Moved.sq {K : PySem.W.Frag} {t s : Addr} {H H' : Hp} {a : Addr} {xs : List V} (mv : Moved t H H') (tp : Tape H t s) (h : SqT K H a xs) : SqT K H' a xs := by
  obtain ⟨_, _, _, _, _, _, e2, _⟩ := tp
  rcases h with (h | ⟨o, h⟩) | h
  · exact .inl (.inl (mv _ _ (fun z => by rw [z, e2] at h; cases h) h))
  · exact .inl (.inr ⟨o, mv _ _ (fun z => by rw [z, e2] at h; cases h) h⟩)
  · exact .inr h
theorem Moved.tups {α : Type} {f : α → List V} {t s : Addr} {H H' : Hp} {ps : List Addr} {xs : List α} (mv : Moved t H H') (tp : Tape H t s) (h : Tups f H ps xs) : Tups f H' ps xs := h.keep fun b ys e => by
  obtain ⟨_, _, _, _, _, _, e2, _⟩ := tp
  exact mv _ _ (fun z => by rw [z, e2] at e; cases e) e
end My

/-! ### == and != by a def of one's own, against anything -/
namespace RE8
open PySem PySem.Spec PySem.W PyProof.Rows L2 Builtin
section
variable {prog : Program} {w : World} {A : Around} {E : Value → Shared → Prop} {s : Shared} {K : Frag} {x C L f : Addr} {h₀ : Heap} {m : Str → Option Value} {ox : Obj} {od : Option Obj} {b tb : Value}
theorem ifBoundB {M : Model} {name : Str} {id : String} {args : List Value} {Q : Option Value → Shared → Prop} (X : K.In s.heap) (I : InstAt s.heap x ox C od) (hs : findIn K (.ref C) name = some (some (.builtin id)))
    (hb : ∀ self, bindSpecial (.builtin id) self = pure (.builtin id, [self])) (h : wpAny M A (call (.builtin id) (.ref x :: args)) (fun v => Q (some v)) E s) : wpAny M A (callSpecialIfBound? (.ref x) name args) Q E s := by
  simp only [callSpecialIfBound?, bindSpecialIfBound?]
  refine wpAny_holding (wpAny_bind (wpAny_bind (wpAny_bind (I.type.here ((looks_findIn X hs).here ?_)))))
  simp only [hb]
  refine wpAny_bind (wpAny_askSetting (wpAny_ite ?_))
  have fin : wpAny M A (call (.builtin id) ([.ref x] ++ args) >>= fun v => pure (some v)) Q E s := wpAny_bind (wpAny_mono h (fun v s' h' => wpAny_pure h') fun _ _ h' => h')
  split
  · exact wpAny_bind (wpAny_pure (wpAny_pure fin))
  · exact wpAny_tryCatch (wpAny_bind (wpAny_pure (wpAny_pure fin)))
theorem ne_body (X : K.In s.heap) (I : InstAt s.heap x ox C od) (hu : A.units < cLine) (hs : findIn K (.ref C) "__eq__" = some (some (.ref f))) (hf : isFn K (.ref f) = true) {Q : Fin → Shared → Prop}
    (hcall : wpAny (model prog w) A (call (.ref f) [.ref x, b]) (fun v s' => ∃ r, v = .bool r ∧ Q (.done (.ret (.bool (!r)))) s') E s) : wpAny (model prog w) A (Builtin.«object.__ne__» ⟨[.ref x, b], []⟩) Q E s := by
  unfold Builtin.«object.__ne__»
  repeat (first
    | with_reducible refine wpAny_cRoomFor hu ?_
    | (refine wpAny_bind (m := callSpecialIfBound? (.ref x) (Str.ofString "__eq__") [b])
        (ifBound_K X I hs hf (wpAny_mono hcall (fun r s' hr => by
          obtain ⟨b, rfl, hq⟩ := hr
          repeat (first | exact hq | exact wpAny_pure hq | exact wpAny_truthy_bool hq | (refine wpAny_bind (m := truthy (.bool _)) (wpAny_truthy_bool ?_)) | wp_step)) fun _ _ e => e)))
    | wp_step)
theorem cmp_ne {Q : Value → Shared → Prop} (hu : A.units + 1 < cLine) (F : Fr h₀ L s.heap m) (X₀ : K.In h₀) (I : InstAt s.heap x ox C od) (hb : Looks (model prog w) s.heap (typeOf b) tb) (hn : notFirst K C tb = true)
    (hs : findIn K (.ref C) "__eq__" = some (some (.ref f))) (hne : findIn K (.ref C) "__ne__" = some (some (.builtin "object.__ne__"))) (hm : mroIn K C (.type "object") = some true) (hf : isFn K (.ref f) = true)
    (h : wpAny (model prog w) A.in1 (call (.ref f) [.ref x, b]) (fun v s' => ∃ r, v = .bool r ∧ Q (.bool (!r)) s') E s) : wpAny (model prog w) A (richCompare .NotEq (.ref x) b) Q E s := by
  have X := X₀.keeps F.keep
  have t2 : Looks (model prog w) s.heap (isInstance (.ref x) (.type "object")) true := I.type.andThen (looks_mroIn X hm)
  have one : wpAny (model prog w) A (tryCompare (.ref x) "__ne__" b) (fun r s' => ∃ v, r = some v ∧ Q v s') E s := by
    unfold tryCompare
    refine wpAny_bind (ifBoundB X I hne (fun self => PySem.F.cmp_object.ne.bind self) (wpAny_call (codeAny_call_builtin PySem.F.cmp_object.ne.plain PySem.F.cmpEntry_ne
      (check_slot PySem.F.cmpKind_ne PySem.F.cmpSplit_ne t2 (PySem.F.cmpArgs_ne _ _) (ne_body (A := A.in1) X I (by exact hu) hs hf (wpAny_mono h (fun v s' hv => ?_) fun _ _ e => e))))))
    obtain ⟨r, rfl, hq⟩ := hv
    exact ⟨r, rfl, wpAny_pure ⟨_, rfl, hq⟩⟩
  unfold richCompare
  simp only [oneThing_ref]
  refine wpAny_holding (wpAny_bind (wpAny_cRoomFor (Nat.lt_of_succ_lt hu) ?_))
  refine wpAny_bind (I.type.here (wpAny_bind (hb.here ?_)))
  split
  · rename_i q
    have e : subIn K tb (.ref C) = some false := by
      rcases Bool.or_eq_true_iff.mp hn with e | e
      · rw [beq_iff_eq.mp e] at q; simp at q
      · exact beq_iff_eq.mp e
    refine wpAny_bind ((looks_subIn X e).here ?_)
    simp only [Bool.false_eq_true, if_false]
    refine wpAny_bind (wpAny_mono one (fun r s' z => ?_) fun _ _ e => e)
    obtain ⟨v, rfl, hq⟩ := z
    exact wpAny_pure hq
  · refine wpAny_bind (wpAny_pure ?_)
    simp only [Bool.false_eq_true, if_false]
    refine wpAny_bind (wpAny_mono one (fun r s' z => ?_) fun _ _ e => e)
    obtain ⟨v, rfl, hq⟩ := z
    exact wpAny_pure hq
end
section
variable {X : Cx} {C f : Addr} {fd : FuncData} {ps : List Str} {sp : Sp} {n : Nat}
/-- a == y, a an instance whose class tells == by a def of its own, y anything -/
def rEqO (K : PySem.W.Frag) (C : Addr) (sp : Sp) : R2 := fun x y H Q => ∃ a dx fs t, x = V.ref a ∧ H a = some (.ins C dx fs) ∧ TyX K H y t ∧ PySem.W.notFirst K C t = true ∧ sp [.ref a, y] H (fun v H' => ∃ b, v = .bl b ∧ Q (.bl b) H') (fun _ _ _ => False)
def rNeO (K : PySem.W.Frag) (C : Addr) (sp : Sp) : R2 := fun x y H Q => ∃ a dx fs t, x = V.ref a ∧ H a = some (.ins C dx fs) ∧ TyX K H y t ∧ PySem.W.notFirst K C t = true ∧ sp [.ref a, y] H (fun v H' => ∃ b, v = .bl b ∧ Q (.bl (!b)) H') (fun _ _ _ => False)
theorem call_own {A : Around} {pins : List (Addr × Obj)} {s : Shared} {σ : L2.St} {H : Hp} {a : Addr} {y : V} {u : Value} {Q : VK} (F : FnOk X.prog X.w X.K X.mg X.base CX0 n f fd ps sp) (hb : Binds X.K fd ps []) (sb : Sub X n A) (I : Inv X pins σ H s) (ry : RelV y u)
    (hsp : sp [.ref a, y] H Q (fun _ _ _ => False)) : wpAny (model X.prog X.w) A (call (.ref f) [.ref a, u]) (EP X pins σ Q) X.xe s := by
  have e0 : Env0 X.prog X.w X.K X.mg X.base A X.stack s H := by
    have e := I.env0
    exact ⟨by rw [sb.fr]; exact e.frames, e.mod, e.bs, e.bsz, e.funs, e.frf, e.hok, e.bare⟩
  have hl := F.len _ _ _ _ hsp
  have r2 : Vals [V.ref a, y] [Value.ref a, u] := .cons rfl (.cons ry .nil)
  refine wpAny_call (codeAny_mono (F.run A X.stack s H ⟨[.ref a, u], []⟩ [.ref a, u] [.ref a, y] _ _ sb.room e0 (by
    have := hb s [.ref a, u] I.kIn (by simpa using hl)
    simpa using this) r2 hsp) fun r s' hq => ?_)
  cases r with
  | error e => exact pass0 pins σ H s e s' I hq
  | ok fl =>
    cases fl with
    | ret w =>
      obtain ⟨z, H', I', rz, ez⟩ := I.after hq
      exact ⟨z, H', I', rz, ez⟩
    | next => exact False.elim hq
    | brk => exact False.elim hq
    | cont => exact False.elim hq
theorem op_eqO (F : FnOk X.prog X.w X.K X.mg X.base CX0 n f fd ps sp) (hs : PySem.W.findIn X.K (.ref C) "__eq__" = some (some (.ref f))) (hf : PySem.W.isFn X.K (.ref f) = true) (hb : Binds X.K fd ps []) (hr : Room n X.A) : OpR X (compareOp .Eq) (rEqO X.K C sp) := by
  intro pins s σ H x y v u Q I rx ry h
  obtain ⟨a, dx, fs, t, rfl, ea, ty, nf, hsp⟩ := h
  cases rx
  obtain ⟨mA, J, _⟩ := ins_get I.hok ea
  obtain ⟨od, J, _⟩ := J.look
  obtain ⟨P, kx, hp, _⟩ := kit_of I ry ty
  obtain ⟨m, hF⟩ := I.fr
  show wpAny (model X.prog X.w) X.A (richCompare .Eq (.ref a) u) (EP X pins σ Q) X.xe s
  refine PySem.W.cmp_K (op := .Eq) (tb := t) hr.units0 hF I.ok.mod.kin J (kx.ty _ _ I.kIn hp) nf hs hf ?_
  refine wpAny_mono (call_own F hb ⟨hr, rfl⟩ I ry hsp) (fun r s' z => ?_) fun _ _ x => x
  obtain ⟨z, H', I', rz, b, rfl, q⟩ := z
  cases rz
  exact ⟨.bl b, H', I', rfl, q⟩
theorem op_neO (F : FnOk X.prog X.w X.K X.mg X.base CX0 n f fd ps sp) (hs : PySem.W.findIn X.K (.ref C) "__eq__" = some (some (.ref f))) (hne : PySem.W.findIn X.K (.ref C) "__ne__" = some (some (.builtin "object.__ne__"))) (hm : PySem.W.mroIn X.K C (.type "object") = some true) (hf : PySem.W.isFn X.K (.ref f) = true) (hb : Binds X.K fd ps []) (hr : Room (n + 1) X.A) : OpR X (compareOp .NotEq) (rNeO X.K C sp) := by
  intro pins s σ H x y v u Q I rx ry h
  obtain ⟨a, dx, fs, t, rfl, ea, ty, nf, hsp⟩ := h
  cases rx
  obtain ⟨mA, J, _⟩ := ins_get I.hok ea
  obtain ⟨od, J, _⟩ := J.look
  obtain ⟨P, kx, hp, _⟩ := kit_of I ry ty
  obtain ⟨m, hF⟩ := I.fr
  show wpAny (model X.prog X.w) X.A (richCompare .NotEq (.ref a) u) (EP X pins σ Q) X.xe s
  have sb : Sub X (n + 1) X.A := ⟨hr, rfl⟩
  refine cmp_ne (tb := t) (by have := sb.in1.room.units0; exact this) hF I.ok.mod.kin J (kx.ty _ _ I.kIn hp) nf hs hne hm hf ?_
  refine wpAny_mono (call_own F hb sb.in1 I ry hsp) (fun r s' z => ?_) fun _ _ x => x
  obtain ⟨z, H', I', rz, b, rfl, q⟩ := z
  cases rz
  exact ⟨b, rfl, .bl (!b), H', I', rfl, q⟩
end
/-- what is asked of a class whose things are looked at -/
structure InsC (K : PySem.W.Frag) (C : Addr) : Prop where
  ha : PySem.W.findIn K (.ref C) "__class__" = some (some (.builtin "object.__class__"))
  hn : PySem.W.specialIn K (.builtin "object.__class__") "__get__" = some (some (.builtin "getset_descriptor.__get__"))
  ht : PySem.W.takesIn K (.builtin "object.__class__") = some true
  hm : PySem.W.mroIn K C (.type "object") = some true
  ne : PySem.W.findIn K (.ref C) "__ne__" = some (some (.builtin "object.__ne__"))
  ic : PySem.W.isClsIn K C = true
  ty : PySem.W.typeIn K (.ref C) = some (.type "type")
theorem InsC.self {K : PySem.W.Frag} {C : Addr} (_ : InsC K C) : PySem.W.kitOne K (.ref C) (.ref C) = some true := by
  unfold PySem.W.kitOne
  rw [if_pos (by simp)]
theorem first_self (K : PySem.W.Frag) (C : Addr) : PySem.W.notFirst K C (.ref C) = true := by
  unfold PySem.W.notFirst
  simp
/-- the kinds of things that are no instance of an own class -/
def Plain (n : String) : Prop := ∃ l, PySem.fastBuiltinMro n = some l ∧ ∀ C : Addr, l.contains (Value.ref C) = false
theorem Plain.sub {n : String} (p : Plain n) (K : PySem.W.Frag) (C : Addr) : PySem.W.subIn K (.type n) (.ref C) = some false := by
  obtain ⟨l, e, h⟩ := p
  show (PySem.fastBuiltinMro n).map (·.contains (Value.ref C)) = some false
  rw [e]
  exact congrArg some (h C)
theorem Plain.first {n : String} (p : Plain n) (K : PySem.W.Frag) (C : Addr) : PySem.W.notFirst K C (.type n) = true := by
  unfold PySem.W.notFirst
  rw [p.sub K C]
  simp
theorem Plain.kit {n : String} (p : Plain n) {K : PySem.W.Frag} {C : Addr} (i : InsC K C) : PySem.W.kitOne K (.type n) (.ref C) = some false := by
  unfold PySem.W.kitOne
  rw [if_neg (by simp)]
  have h2' : (PySem.W.clsIn K C).isSome = true := i.ic
  show (if ((PySem.W.clsIn K C).isSome && PySem.W.typeIn K (.ref C) == some (.type "type")) = true then PySem.W.subIn K (.type n) (.ref C) else none) = some false
  rw [h2', i.ty, if_pos (by rfl)]
  exact p.sub K C
theorem plain_non : Plain "NoneType" := ⟨[.type "NoneType", .type "object"], by kernel_rfl, fun _ => by simp⟩
theorem plain_int : Plain "int" := ⟨[.type "int", .type "object"], by kernel_rfl, fun _ => by simp⟩
theorem plain_str : Plain "str" := ⟨[.type "str", .type "object"], by kernel_rfl, fun _ => by simp⟩
theorem plain_tup : Plain "tuple" := ⟨[.type "tuple", .type "object"], by kernel_rfl, fun _ => by simp⟩
theorem plain_lst : Plain "list" := ⟨[.type "list", .type "object"], by kernel_rfl, fun _ => by simp⟩
theorem InsC.tyOf {K : PySem.W.Frag} {C a dx : Addr} {fs : List (Str × V)} {H : Hp} (i : InsC K C) (cl : Cls K C) (e : H a = some (.ins C dx fs)) : TyX K H (.ref a) (.ref C) := .base (.ins e cl i.ha i.hn i.ht i.hm)
end RE8

/-! ### long comings: the line round by round -/
namespace Lg
open Ln
/-- so many letters come: the line, and how many are turned away -/
def add (b : Int) : Nat → Int × Int → Int × Int
  | 0, s => s
  | k + 1, s => if (add b k s).1 > b then ((add b k s).1, (add b k s).2 + 1) else ((add b k s).1 + 1, (add b k s).2)
/-- a tick: line, gone out, turned away -/
abbrev Tri := Int × Int × Int
def tk (b : Int) (c : Int) (s : Tri) : Tri := if (add b c.toNat (s.1, s.2.2)).1 > 0 then ((add b c.toNat (s.1, s.2.2)).1 - 1, s.2.1 + 1, (add b c.toNat (s.1, s.2.2)).2) else ((add b c.toNat (s.1, s.2.2)).1, s.2.1, (add b c.toNat (s.1, s.2.2)).2)
def rdN (b : Int) (cs : List Int) (s : Tri) : Nat → Tri
  | 0 => s
  | i + 1 => tk b (cs.getD i 0) (rdN b cs s i)
/-- a round from a line -/
def rd (b : Int) (cs : List Int) (l : Int) : Tri := rdN b cs (l, 0, 0) cs.length
/-! the program's own line from any line on -/
def preL (b l : Int) (cs : List Int) : Nat → List Let × Int
  | 0 => ([], l)
  | i + 1 => ((turns b (i : Int) (cs.getD i 0).toNat (preL b l cs i)).1, close (turns b (i : Int) (cs.getD i 0).toNat (preL b l cs i)).2)
def behindL (b l : Int) (cs : List Int) : Nat → List Int
  | 0 => []
  | i + 1 => behindL b l cs i ++ [(preL b l cs (i + 1)).2]
theorem preL_0 (b : Int) (cs : List Int) : ∀ i, preL b 0 cs i = pre b cs i
  | 0 => rfl
  | i + 1 => by
    unfold preL pre
    rw [preL_0 b cs i]
theorem behindL_0 (b : Int) (cs : List Int) : ∀ i, behindL b 0 cs i = behind b cs i
  | 0 => rfl
  | i + 1 => by
    unfold behindL behind
    rw [behindL_0 b cs i, preL_0]
theorem behindL_len (b l : Int) (cs : List Int) : ∀ i, (behindL b l cs i).length = i
  | 0 => rfl
  | i + 1 => by
    unfold behindL
    rw [List.length_append, behindL_len b l cs i]
    rfl
def away (L : List Let) : Int := ((L.countP fun x => x.2.2.isNone : Nat) : Int)
theorem away_snoc (L : List Let) (x : Let) : away (L ++ [x]) = away L + if x.2.2.isNone then 1 else 0 := by
  unfold away
  rw [List.countP_append, List.countP_cons, List.countP_nil]
  cases x.2.2.isNone
  · rw [if_neg Bool.false_ne_true, if_neg Bool.false_ne_true]
    omega
  · rw [if_pos rfl, if_pos rfl]
    omega
theorem turns_add (b τ : Int) (L : List Let) (l : Int) : ∀ k : Nat, add b k (l, away L) = ((turns b τ k (L, l)).2, away (turns b τ k (L, l)).1)
  | 0 => rfl
  | k + 1 => by
    have ih := turns_add b τ L l k
    unfold add turns step
    rw [ih]
    show (if (turns b τ k (L, l)).2 > b then _ else _) = _
    split
    · rw [away_snoc]
      rfl
    · rw [away_snoc]
      show _ = (_, away _ + 0)
      rw [Int.add_zero]
theorem rd_pre (b l : Int) (cs : List Int) : ∀ i : Nat, (rdN b cs (l, 0, 0) i).1 = (preL b l cs i).2 ∧ (rdN b cs (l, 0, 0) i).2.2 = away (preL b l cs i).1
  | 0 => ⟨rfl, rfl⟩
  | i + 1 => by
    obtain ⟨e1, e2⟩ := rd_pre b l cs i
    have t := turns_add b (i : Int) (preL b l cs i).1 (preL b l cs i).2 (cs.getD i 0).toNat
    unfold rdN tk preL close
    rw [e1, e2, t]
    show (if (turns b (i : Int) (cs.getD i 0).toNat (preL b l cs i)).2 > 0 then _ else _ : Tri).1 = _ ∧ (if (turns b (i : Int) (cs.getD i 0).toNat (preL b l cs i)).2 > 0 then _ else _ : Tri).2.2 = _
    split
    · exact ⟨rfl, rfl⟩
    · exact ⟨rfl, rfl⟩
/-! the line stays within the bound; nobody is lost on the way -/
theorem add_rng {b : Int} : ∀ (k : Nat) (s : Int × Int), 0 ≤ s.1 → s.1 ≤ b + 1 → 0 ≤ s.2 → 0 ≤ (add b k s).1 ∧ (add b k s).1 ≤ b + 1 ∧ 0 ≤ (add b k s).2 ∧ (add b k s).1 + (add b k s).2 = s.1 + s.2 + (k : Int)
  | 0, s, h0, h1, h2 => ⟨h0, h1, h2, by show s.1 + s.2 = s.1 + s.2 + ((0 : Nat) : Int); omega⟩
  | k + 1, s, h0, h1, h2 => by
    obtain ⟨a, b', c, d⟩ := add_rng (b := b) k s h0 h1 h2
    unfold add
    split
    · refine ⟨a, b', by show 0 ≤ _ + 1; omega, ?_⟩
      show (add b k s).1 + ((add b k s).2 + 1) = _
      omega
    · refine ⟨by show 0 ≤ _ + 1; omega, by show _ + 1 ≤ _; omega, c, ?_⟩
      show (add b k s).1 + 1 + (add b k s).2 = _
      omega
structure Ok (b came : Int) (s : Tri) : Prop where
  l0 : 0 ≤ s.1
  l1 : s.1 ≤ b
  o0 : 0 ≤ s.2.1
  a0 : 0 ≤ s.2.2
  sum : s.1 + s.2.1 + s.2.2 = came
theorem Ok.tk {b came c : Int} {s : Tri} (h : Ok b came s) (hc : 0 ≤ c) : Ok b (came + c) (tk b c s) := by
  obtain ⟨h1, h2, h3, h4, h5⟩ := h
  obtain ⟨a1, a2, a3, a4⟩ := add_rng (b := b) c.toNat (s.1, s.2.2) h1 (by show s.1 ≤ _; omega) h4
  unfold Lg.tk
  generalize add b c.toNat (s.1, s.2.2) = m at *
  have a4' : m.1 + m.2 = s.1 + s.2.2 + (c.toNat : Int) := a4
  split
  · exact ⟨by show 0 ≤ m.1 - 1; omega, by show m.1 - 1 ≤ b; omega, by show 0 ≤ s.2.1 + 1; omega, a3, by show (m.1 - 1) + (s.2.1 + 1) + m.2 = came + c; omega⟩
  · exact ⟨a1, by show m.1 ≤ b; omega, h3, a3, by show m.1 + s.2.1 + m.2 = came + c; omega⟩
def sumN (cs : List Int) (i : Nat) : Int := (cs.take i).sum
theorem sumN_succ {cs : List Int} {i : Nat} (h : i < cs.length) : sumN cs (i + 1) = sumN cs i + cs.getD i 0 := by
  unfold sumN
  rw [List.take_add_one, List.getElem?_eq_getElem h, List.sum_append, List.getD_eq_getElem?_getD, List.getElem?_eq_getElem h]
  simp
theorem Ok.rdN {b came : Int} {s : Tri} {cs : List Int} (h : Ok b came s) (hc : ∀ c ∈ cs, 0 ≤ c) : ∀ i, i ≤ cs.length → Ok b (came + sumN cs i) (rdN b cs s i)
  | 0, _ => by
    show Ok b (came + 0) s
    rw [Int.add_zero]
    exact h
  | i + 1, hi => by
    rw [sumN_succ (by omega), ← Int.add_assoc]
    refine (Ok.rdN h hc i (by omega)).tk ?_
    rw [List.getD_eq_getElem?_getD, List.getElem?_eq_getElem (by omega)]
    exact hc _ (List.getElem_mem _)
theorem rd_ok {b l : Int} {cs : List Int} (h0 : 0 ≤ l) (h1 : l ≤ b) (hc : ∀ c ∈ cs, 0 ≤ c) : Ok b (l + cs.sum) (rd b cs l) := by
  have o : Ok b l (l, 0, 0) := ⟨h0, h1, Int.le_refl _, Int.le_refl _, by show l + 0 + 0 = l; omega⟩
  have := o.rdN hc cs.length (Nat.le_refl _)
  unfold sumN at this
  rw [List.take_length] at this
  exact this
/-! many rounds -/
def it (b : Int) (cs : List Int) : Nat → Int → Tri
  | 0, l => (l, 0, 0)
  | n + 1, l => ((rd b cs (it b cs n l).1).1, (it b cs n l).2.1 + (rd b cs (it b cs n l).1).2.1, (it b cs n l).2.2 + (rd b cs (it b cs n l).1).2.2)
theorem it_ok {b l : Int} {cs : List Int} (h0 : 0 ≤ l) (h1 : l ≤ b) (hc : ∀ c ∈ cs, 0 ≤ c) : ∀ n : Nat, Ok b (l + (n : Int) * cs.sum) (it b cs n l)
  | 0 => ⟨h0, h1, Int.le_refl _, Int.le_refl _, by show l + 0 + 0 = _; simp⟩
  | n + 1 => by
    have i := it_ok h0 h1 hc n
    have r := rd_ok i.l0 i.l1 hc
    refine ⟨r.l0, r.l1, ?_, ?_, ?_⟩
    · have := i.o0
      have := r.o0
      show 0 ≤ _ + _
      omega
    · have := i.a0
      have := r.a0
      show 0 ≤ _ + _
      omega
    · have a := i.sum
      have c := r.sum
      have e : ((n + 1 : Nat) : Int) * cs.sum = (n : Int) * cs.sum + cs.sum := by
        rw [Int.natCast_add, Int.add_mul]
        simp
      rw [e]
      show (rd b cs (it b cs n l).1).1 + ((it b cs n l).2.1 + (rd b cs (it b cs n l).1).2.1) + ((it b cs n l).2.2 + (rd b cs (it b cs n l).1).2.2) = _
      generalize (n : Int) * cs.sum = m at *
      omega
theorem it_add (b : Int) (cs : List Int) (m : Nat) (l : Int) : ∀ n : Nat, it b cs (m + n) l = ((it b cs n (it b cs m l).1).1, (it b cs m l).2.1 + (it b cs n (it b cs m l).1).2.1, (it b cs m l).2.2 + (it b cs n (it b cs m l).1).2.2)
  | 0 => by
    show it b cs m l = ((it b cs m l).1, (it b cs m l).2.1 + 0, (it b cs m l).2.2 + 0)
    rw [Int.add_zero, Int.add_zero]
  | n + 1 => by
    have e := it_add b cs m l n
    show ((rd b cs (it b cs (m + n) l).1).1, (it b cs (m + n) l).2.1 + (rd b cs (it b cs (m + n) l).1).2.1, (it b cs (m + n) l).2.2 + (rd b cs (it b cs (m + n) l).1).2.2) = _
    rw [e]
    show (_, _, _) = ((rd b cs (it b cs n (it b cs m l).1).1).1, (it b cs m l).2.1 + ((it b cs n (it b cs m l).1).2.1 + (rd b cs (it b cs n (it b cs m l).1).1).2.1), (it b cs m l).2.2 + ((it b cs n (it b cs m l).1).2.2 + (rd b cs (it b cs n (it b cs m l).1).1).2.2))
    rw [← Int.add_assoc, ← Int.add_assoc]
/-- a round that leaves the line as it was is like all behind it -/
theorem it_fix {b : Int} {cs : List Int} {l : Int} (h : (rd b cs l).1 = l) : ∀ n : Nat, it b cs n l = (l, (n : Int) * (rd b cs l).2.1, (n : Int) * (rd b cs l).2.2)
  | 0 => by
    show (l, 0, 0) = _
    simp
  | n + 1 => by
    unfold it
    rw [it_fix h n]
    show ((rd b cs l).1, _ + (rd b cs l).2.1, _ + (rd b cs l).2.2) = _
    rw [h]
    have e : ∀ x : Int, (n : Int) * x + x = ((n + 1 : Nat) : Int) * x := fun x => by
      rw [Int.natCast_add, Int.add_mul]
      simp
    rw [e, e]
/-! long comings: line, came, gone out, turned away -/
abbrev Quad := Int × Int × Int × Int
def go1 (b : Int) (s : Quad) (x : List Int × Int) : Quad := ((it b x.1 x.2.toNat s.1).1, s.2.1 + x.2 * x.1.sum, s.2.2.1 + (it b x.1 x.2.toNat s.1).2.1, s.2.2.2 + (it b x.1 x.2.toNat s.1).2.2)
def tot (b : Int) (xs : List (List Int × Int)) : Quad := xs.foldl (go1 b) (0, 0, 0, 0)
def Right (k : Int) (xs : List (List Int × Int)) : Prop := xs.length ≤ 20 ∧ ∀ x ∈ xs, x.1.length ≤ 60 ∧ (∀ c ∈ x.1, 0 ≤ c ∧ c ≤ k) ∧ 0 ≤ x.2 ∧ x.2 ≤ 10 ^ 30
structure Qk (b : Int) (s : Quad) : Prop where
  l0 : 0 ≤ s.1
  l1 : s.1 ≤ b
  sum : s.2.1 = s.2.2.1 + s.2.2.2 + s.1
theorem Qk.go {b : Int} {s : Quad} {x : List Int × Int} (h : Qk b s) (hc : ∀ c ∈ x.1, 0 ≤ c) (hx : 0 ≤ x.2) : Qk b (go1 b s x) := by
  have i := it_ok h.l0 h.l1 hc x.2.toNat
  have a := i.sum
  rw [Int.toNat_of_nonneg hx] at a
  have c := h.sum
  refine ⟨i.l0, i.l1, ?_⟩
  show s.2.1 + x.2 * x.1.sum = s.2.2.1 + (it b x.1 x.2.toNat s.1).2.1 + (s.2.2.2 + (it b x.1 x.2.toNat s.1).2.2) + (it b x.1 x.2.toNat s.1).1
  generalize x.2 * x.1.sum = m at *
  omega
theorem fold_ok {b : Int} : ∀ (xs : List (List Int × Int)) (s : Quad), Qk b s → (∀ x ∈ xs, (∀ c ∈ x.1, 0 ≤ c) ∧ 0 ≤ x.2) → Qk b (xs.foldl (go1 b) s)
  | [], s, h, _ => h
  | x :: xs, s, h, hx => fold_ok xs _ (h.go (hx x (by simp)).1 (hx x (by simp)).2) fun y hy => hx y (by simp [hy])
theorem tot_ok {b k : Int} (hb : 0 ≤ b) {xs : List (List Int × Int)} (h : Right k xs) : Qk b (tot b xs) := fold_ok xs _ ⟨Int.le_refl _, hb, rfl⟩ fun x hx => ⟨fun c hc => ((h.2 x hx).2.1 c hc).1, (h.2 x hx).2.2.1⟩
/-- so many times and so many times more -/
theorem tot_part (b : Int) (cs : List Int) (m n : Int) (hm : 0 ≤ m) (hn : 0 ≤ n) (xs : List (List Int × Int)) : tot b ((cs, m) :: (cs, n) :: xs) = tot b ((cs, m + n) :: xs) := by
  have e : go1 b (go1 b (0, 0, 0, 0) (cs, m)) (cs, n) = go1 b (0, 0, 0, 0) (cs, m + n) := by
    unfold go1
    show ((it b cs n.toNat (it b cs m.toNat 0).1).1, 0 + m * cs.sum + n * cs.sum, 0 + (it b cs m.toNat 0).2.1 + (it b cs n.toNat (it b cs m.toNat 0).1).2.1, 0 + (it b cs m.toNat 0).2.2 + (it b cs n.toNat (it b cs m.toNat 0).1).2.2) =
      ((it b cs (m + n).toNat 0).1, 0 + (m + n) * cs.sum, 0 + (it b cs (m + n).toNat 0).2.1, 0 + (it b cs (m + n).toNat 0).2.2)
    rw [show (m + n).toNat = m.toNat + n.toNat by omega, it_add, Int.add_mul]
    show (_, _, _, _) = (_, _, _, _)
    rw [Int.add_assoc, Int.add_assoc, Int.add_assoc]
  show xs.foldl (go1 b) (go1 b (go1 b (0, 0, 0, 0) (cs, m)) (cs, n)) = xs.foldl (go1 b) (go1 b (0, 0, 0, 0) (cs, m + n))
  rw [e]
end Lg
namespace Lg
open Ln
theorem preL_len {b l : Int} {cs : List Int} (hc : ∀ c ∈ cs, c ≤ 4) : ∀ i, (preL b l cs i).1.length ≤ 4 * i
  | 0 => Nat.le_refl _
  | i + 1 => by
    have ih := preL_len (b := b) (l := l) hc i
    unfold preL
    rw [turns_len]
    have : cs.getD i 0 ≤ 4 := by
      rw [List.getD_eq_getElem?_getD]
      cases h : cs[i]? with
      | none => decide
      | some c => exact hc c (List.mem_of_getElem? h)
    omega
theorem preL_sum {b l : Int} {cs : List Int} (hc : ∀ c ∈ cs, 0 ≤ c) : ∀ i, i ≤ cs.length → (((preL b l cs i).1.length : Nat) : Int) = sumN cs i
  | 0, _ => rfl
  | i + 1, hi => by
    have ih := preL_sum (b := b) (l := l) hc i (by omega)
    have h0 : 0 ≤ cs.getD i 0 := by
      rw [List.getD_eq_getElem?_getD, List.getElem?_eq_getElem (by omega)]
      exact hc _ (List.getElem_mem _)
    rw [sumN_succ (by omega), ← ih]
    show (((turns b (i : Int) (cs.getD i 0).toNat (preL b l cs i)).1.length : Nat) : Int) = _
    rw [turns_len]
    omega
end Lg
namespace Lg
theorem sum_le : ∀ {cs : List Int}, (∀ c ∈ cs, 0 ≤ c ∧ c ≤ 4) → 0 ≤ cs.sum ∧ cs.sum ≤ 4 * (cs.length : Int)
  | [], _ => ⟨Int.le_refl _, Int.le_refl _⟩
  | c :: cs, h => by
    have ih := sum_le (cs := cs) fun x hx => h x (by simp [hx])
    have := h c (by simp)
    rw [List.sum_cons, List.length_cons]
    omega
end Lg

/-! ### a line that is led by the same comings again and again: it never goes down, and settles -/
namespace Lg
theorem add_mono {b : Int} : ∀ (k : Nat) {s s' : Int × Int}, s.1 ≤ s'.1 → (add b k s).1 ≤ (add b k s').1
  | 0, _, _, h => h
  | k + 1, s, s', h => by
    have ih := add_mono (b := b) k h
    show (if (add b k s).1 > b then ((add b k s).1, (add b k s).2 + 1) else ((add b k s).1 + 1, (add b k s).2)).1 ≤ (if (add b k s').1 > b then ((add b k s').1, (add b k s').2 + 1) else ((add b k s').1 + 1, (add b k s').2)).1
    by_cases c : (add b k s).1 > b
    · rw [if_pos c, if_pos (by omega)]
      exact ih
    · rw [if_neg c]
      by_cases c' : (add b k s').1 > b
      · rw [if_pos c']
        show (add b k s).1 + 1 ≤ (add b k s').1
        omega
      · rw [if_neg c']
        show (add b k s).1 + 1 ≤ (add b k s').1 + 1
        omega
theorem tk_mono {b c : Int} {s s' : Tri} (h : s.1 ≤ s'.1) : (tk b c s).1 ≤ (tk b c s').1 := by
  have m := add_mono (b := b) c.toNat (s := (s.1, s.2.2)) (s' := (s'.1, s'.2.2)) h
  unfold tk
  by_cases c1 : (add b c.toNat (s.1, s.2.2)).1 > 0
  · rw [if_pos c1, if_pos (by omega)]
    show (add b c.toNat (s.1, s.2.2)).1 - 1 ≤ (add b c.toNat (s'.1, s'.2.2)).1 - 1
    omega
  · rw [if_neg c1]
    by_cases c2 : (add b c.toNat (s'.1, s'.2.2)).1 > 0
    · rw [if_pos c2]
      show (add b c.toNat (s.1, s.2.2)).1 ≤ (add b c.toNat (s'.1, s'.2.2)).1 - 1
      omega
    · rw [if_neg c2]
      exact m
theorem rdN_mono {b : Int} {cs : List Int} {s s' : Tri} (h : s.1 ≤ s'.1) : ∀ i, (rdN b cs s i).1 ≤ (rdN b cs s' i).1
  | 0 => h
  | i + 1 => tk_mono (rdN_mono h i)
theorem rd_mono {b l l' : Int} {cs : List Int} (h : l ≤ l') : (rd b cs l).1 ≤ (rd b cs l').1 := rdN_mono (s := (l, 0, 0)) (s' := (l', 0, 0)) h _
/-- the line behind so many rounds -/
def gr (b : Int) (cs : List Int) : Nat → Int
  | 0 => 0
  | n + 1 => (rd b cs (gr b cs n)).1
theorem gr_rng {b : Int} {cs : List Int} (hb : 0 ≤ b) (hc : ∀ c ∈ cs, 0 ≤ c) : ∀ n, 0 ≤ gr b cs n ∧ gr b cs n ≤ b
  | 0 => ⟨Int.le_refl _, hb⟩
  | n + 1 => by
    have ih := gr_rng hb hc n
    have o := rd_ok ih.1 ih.2 hc
    exact ⟨o.l0, o.l1⟩
theorem gr_up {b : Int} {cs : List Int} (hb : 0 ≤ b) (hc : ∀ c ∈ cs, 0 ≤ c) : ∀ n, gr b cs n ≤ gr b cs (n + 1)
  | 0 => (gr_rng hb hc 1).1
  | n + 1 => rd_mono (gr_up hb hc n)
/-- the least number of rounds behind which the line stays -/
def Stl (b : Int) (cs : List Int) (r : Nat) : Prop := gr b cs (r + 1) = gr b cs r ∧ ∀ j, j < r → gr b cs (j + 1) ≠ gr b cs j
theorem stl_le {b : Int} {cs : List Int} (hb : 0 ≤ b) (hc : ∀ c ∈ cs, 0 ≤ c) : ∀ r, (∀ j, j < r → gr b cs (j + 1) ≠ gr b cs j) → (r : Int) ≤ gr b cs r
  | 0, _ => Int.le_refl _
  | r + 1, h => by
    have ih := stl_le hb hc r fun j hj => h j (by omega)
    have u := gr_up hb hc r
    have n := h r (by omega)
    omega
theorem stl_b {b : Int} {cs : List Int} (hb : 0 ≤ b) (hc : ∀ c ∈ cs, 0 ≤ c) {r : Nat} (h : ∀ j, j < r → gr b cs (j + 1) ≠ gr b cs j) : (r : Int) ≤ b := Int.le_trans (stl_le hb hc r h) (gr_rng hb hc r).2
theorem stl_stay {b : Int} {cs : List Int} {r : Nat} (h : Stl b cs r) : ∀ n, gr b cs (r + n) = gr b cs r
  | 0 => rfl
  | n + 1 => by
    have ih := stl_stay h n
    show (rd b cs (gr b cs (r + n))).1 = _
    rw [ih]
    exact h.1
theorem gr_lt {b : Int} {cs : List Int} (hb : 0 ≤ b) (hc : ∀ c ∈ cs, 0 ≤ c) {r : Nat} (h : Stl b cs r) : ∀ d j, j + (d + 1) = r → gr b cs j < gr b cs r
  | 0, j, e => by
    have n := h.2 j (by omega)
    have u := gr_up hb hc j
    rw [show r = j + 1 by omega]
    omega
  | d + 1, j, e => by
    have ih := gr_lt hb hc h d (j + 1) (by omega)
    have u := gr_up hb hc j
    omega
theorem it_gr {b : Int} {cs : List Int} : ∀ n : Nat, (it b cs n 0).1 = gr b cs n
  | 0 => rfl
  | n + 1 => by
    show (rd b cs (it b cs n 0).1).1 = (rd b cs (gr b cs n)).1
    rw [it_gr n]
/-- behind that, each round turns the same number away -/
theorem it_stl {b : Int} {cs : List Int} {r : Nat} (h : Stl b cs r) (n : Nat) : it b cs (r + n) 0 = (gr b cs r, (it b cs r 0).2.1 + (n : Int) * (rd b cs (gr b cs r)).2.1, (it b cs r 0).2.2 + (n : Int) * (rd b cs (gr b cs r)).2.2) := by
  rw [it_add, it_gr, it_fix h.1]
theorem stl_one {b : Int} {cs : List Int} {r r' : Nat} (h : Stl b cs r) (h' : Stl b cs r') : r = r' := by
  rcases Nat.lt_trichotomy r r' with c | c | c
  · exact absurd h.1 (h'.2 r c)
  · exact c
  · exact absurd h'.1 (h.2 r' c)
theorem stl_ex {b : Int} {cs : List Int} (hb : 0 ≤ b) (hc : ∀ c ∈ cs, 0 ≤ c) : ∃ r, Stl b cs r := by
  have key : ∀ n : Nat, (∃ r, Stl b cs r) ∨ ∀ j, j < n → gr b cs (j + 1) ≠ gr b cs j := by
    intro n
    induction n with
    | zero => exact .inr fun j hj => absurd hj (Nat.not_lt_zero _)
    | succ n ih =>
      rcases ih with ih | ih
      · exact .inl ih
      · by_cases c : gr b cs (n + 1) = gr b cs n
        · exact .inl ⟨n, c, ih⟩
        · refine .inr fun j hj => ?_
          rcases Nat.lt_succ_iff_lt_or_eq.mp hj with z | rfl
          · exact ih j z
          · exact c
  rcases key (b.toNat + 1) with h | h
  · exact h
  · have := stl_b hb hc h
    omega
end Lg

/-! ## generators: if, for, a lock; the first item alone -/
namespace GZ
open PySem PySem.Spec PyProof.Rows L2 GenW
section
variable {M : Model} {A : Around} {R : GenEnd} {Y : Protocol} {n : Nat} {s₀ : Shared} {c : Code} {fs : List Frame} {s : Shared} {env : Env}
  {K : Flow → Sem PySem.Fin} {J : Value → Sem PySem.Fin} {gd : Bool → Bool} {lv : List Value → List Value}
theorem seg_If {test : Expr} {a b : List Stmt} {pos : Pos}
    (h : wpAny M (A.over c fs) (isTrue test env (eval test env)) (fun d s' => if d = true then Seg M A R Y n s₀ c ((execs a env).wrap K J gd lv) fs s' else Seg M A R Y n s₀ c ((execs b env).wrap K J gd lv) fs s')
      (fun x s' => Seg M A R Y n s₀ c (J x) fs s') s) :
    Seg M A R Y n s₀ c ((exec (.If test a b pos) env).wrap K J gd lv) fs s := by
  show Seg M A R Y n s₀ c (.at pos fun _ => (isTrue test env (eval test env) >>= fun d => if d = true then execs a env else execs b env).wrap K J gd lv) fs s
  refine seg_at ?_
  rw [Sem.bind_eq_wrap', Sem.wrap_wrap]
  refine seg_wrap (wpAny_mono h (fun d s' hd => ?_) fun _ _ x => x)
  cases d with
  | true =>
    rw [if_pos rfl] at hd
    exact hd
  | false =>
    rw [if_neg Bool.false_ne_true] at hd
    exact hd
theorem seg_For {target iter : Expr} {body orelse : List Stmt} {pos : Pos}
    (h : wpAny M (A.over c fs) (eval iter env) (fun x s1 => wpAny M (A.over c fs) (pyIter x) (fun it s2 => ∀ p, Seg M A R Y n s₀ (.forLoop target it body orelse env) (M.den (.forLoop target it body orelse env))
      (.ret (fun r => ((match r with | .ok f => (.pure f : Sem Flow) | .error e => .raise e).onRaise (cameBack env)).wrap K J gd lv) none (gd false) (lv []) c p [] :: fs) s2)
        (fun x s' => Seg M A R Y n s₀ c (J x) fs s') s1) (fun x s' => Seg M A R Y n s₀ c (J x) fs s') s)
    (hs : ∀ x, foldedSetIterable iter env x = pure x := by intro _; rfl) :
    Seg M A R Y n s₀ c ((exec (.For target iter body orelse pos) env).wrap K J gd lv) fs s := by
  rw [exec_For]
  show Seg M A R Y n s₀ c (.at pos fun _ => (eval iter env >>= fun v => foldedSetIterable iter env v >>= fun x => standAt iter.pos >>= fun _ => holding [x] (pyIter x) >>= fun it => runOwn (.forLoop target it body orelse env) env).wrap K J gd lv) fs s
  refine seg_at ?_
  rw [Sem.bind_eq_wrap', Sem.wrap_wrap]
  refine seg_wrap (wpAny_mono h (fun x s1 h1 => ?_) fun _ _ x => x)
  simp only [hs]
  show Seg M A R Y n s₀ c (Sem.wrap _ _ _ _ (standAt iter.pos >>= fun _ => holding [x] (pyIter x) >>= fun it => runOwn (.forLoop target it body orelse env) env)) fs s1
  rw [Sem.bind_eq_wrap', Sem.wrap_wrap]
  refine seg_wrap (wpAny_standAt ?_)
  show Seg M A R Y n s₀ c (Sem.wrap _ _ _ _ (holding [x] (pyIter x) >>= fun it => runOwn (.forLoop target it body orelse env) env)) fs s1
  rw [Sem.bind_eq_wrap', Sem.wrap_wrap]
  refine seg_wrap (wpAny_holding (wpAny_mono h1 (fun it s2 h2 => ?_) fun _ _ x => x))
  exact seg_call h2
end
section
variable {prog : Program} {w : World} {A : Around} {R : GenEnd} {Y : Protocol} {n : Nat} {s₀ : Shared} {fs : List Frame} {s : Shared} {env : Env}
theorem seg_forLoop {target : Expr} {it : Value} {body orelse : List Stmt}
    (h : wpAny (model prog w) (A.over (.forLoop target it body orelse env) fs) (pyNext it) (fun r s1 => match r with
        | none => Seg (model prog w) A R Y n s₀ (.forLoop target it body orelse env) (.pure (.again (.block orelse env))) fs s1
        | some v => wpAny (model prog w) (A.over (.forLoop target it body orelse env) fs) (letOwnedTupleGo target it v) (fun _ s2 => wpAny (model prog w) (A.over (.forLoop target it body orelse env) fs) (assign target env v) (fun _ s3 =>
          Seg (model prog w) A R Y n s₀ (.forLoop target it body orelse env) ((execs body env).wrap (fun f => match f with
            | .next | .cont => .pure (.again (.forLoop target it body orelse env))
            | .brk => .pure (.done .next)
            | .ret v => .pure (.done (.ret v))) (fun e => (do noteFrame e env; theTreesLotGoes e : Sem Unit).wrap (fun _ => .raise e) .raise id id) id id) fs s3)
          (fun x s' => Seg (model prog w) A R Y n s₀ (.forLoop target it body orelse env) ((do noteFrame x env; theTreesLotGoes x : Sem Unit).wrap (fun _ => .raise x) .raise id id) fs s') s2)
          (fun x s' => Seg (model prog w) A R Y n s₀ (.forLoop target it body orelse env) ((do noteFrame x env; theTreesLotGoes x : Sem Unit).wrap (fun _ => .raise x) .raise id id) fs s') s1)
      (fun x s' => Seg (model prog w) A R Y n s₀ (.forLoop target it body orelse env) ((do noteFrame x env; theTreesLotGoes x : Sem Unit).wrap (fun _ => .raise x) .raise id id) fs s') s) :
    Seg (model prog w) A R Y n s₀ (.forLoop target it body orelse env) ((model prog w).den (.forLoop target it body orelse env)) fs s := by
  show Seg _ A R Y n s₀ _ ((forTurn target it body orelse env).onRaise (fun x => do noteFrame x env; theTreesLotGoes x)) fs s
  have ex : ∀ x s', Seg (model prog w) A R Y n s₀ (.forLoop target it body orelse env) ((do noteFrame x env; theTreesLotGoes x : Sem Unit).wrap (fun _ => .raise x) .raise id id) fs s' →
      Seg (model prog w) A R Y n s₀ (.forLoop target it body orelse env) ((do noteFrame x env; theTreesLotGoes x : Sem Unit).bind fun _ => .raise x) fs s' := fun x s' hx => by
    rw [Sem.bind_eq_wrap]
    exact hx
  unfold forTurn
  rw [Sem.onRaise_eq_wrap, Sem.bind_eq_wrap', Sem.wrap_wrap]
  refine seg_wrap (wpAny_standAt ?_)
  rw [Sem.bind_eq_wrap', Sem.wrap_wrap]
  refine seg_wrap (wpAny_onRaise (wpAny_mono h (fun r s1 h1 => ?_) fun x s' hx => wpAny_standAt (ex x s' hx)))
  cases r with
  | none => exact h1
  | some v =>
    show Seg _ A R Y n s₀ _ (Sem.wrap _ _ _ _ (letOwnedTupleGo target it v >>= fun _ => assign target env v >>= fun _ => execs body env >>= _)) fs s1
    rw [Sem.bind_eq_wrap', Sem.wrap_wrap]
    refine seg_wrap (wpAny_mono h1 (fun _ s2 h2 => ?_) fun x s' hx => ex x s' hx)
    show Seg _ A R Y n s₀ _ (Sem.wrap _ _ _ _ (assign target env v >>= fun _ => execs body env >>= _)) fs s2
    rw [Sem.bind_eq_wrap', Sem.wrap_wrap]
    refine seg_wrap (wpAny_mono h2 (fun _ s3 h3 => ?_) fun x s' hx => ex x s' hx)
    show Seg _ A R Y n s₀ _ (Sem.wrap _ _ _ _ (execs body env >>= _)) fs s3
    rw [Sem.bind_eq_wrap', Sem.wrap_wrap]
    rw [Sem.wrap_congr (execs body env) _ _ (K' := fun f => match f with
            | .next | .cont => .pure (.again (.forLoop target it body orelse env))
            | .brk => .pure (.done .next)
            | .ret v => .pure (.done (.ret v))) (H' := (fun e => (do noteFrame e env; theTreesLotGoes e : Sem Unit).wrap (fun _ => .raise e) .raise id id))
        (fun f => by cases f <;> rfl)
        (fun e => by first | exact Sem.bind_eq_wrap _ _ | (show (do noteFrame e env; theTreesLotGoes e : Sem Unit).bind (fun _ => .raise e) = _; rw [Sem.bind_eq_wrap]))]
    exact h3
theorem seg_block {orelse : List Stmt} (h : Seg (model prog w) A R Y n s₀ (.block orelse env) ((execs orelse env).wrap (fun f => .pure (.done f)) (fun e => (do noteFrame e env; theTreesLotGoes e : Sem Unit).wrap (fun _ => .raise e) .raise id id) id id) fs s) :
    Seg (model prog w) A R Y n s₀ (.block orelse env) ((model prog w).den (.block orelse env)) fs s := by
  show Seg _ A R Y n s₀ _ ((execs orelse env).onRaise (fun x => do noteFrame x env; theTreesLotGoes x) >>= fun f => pure (.done f)) fs s
  rw [Sem.onRaise_eq_wrap, Sem.bind_eq_wrap', Sem.wrap_wrap]
  rw [Sem.wrap_congr (execs orelse env) _ _ (K' := fun f => (.pure (.done f) : Sem PySem.Fin)) (H' := (fun e => (do noteFrame e env; theTreesLotGoes e : Sem Unit).wrap (fun _ => .raise e) .raise id id)) (fun f => by rfl)
    (fun e => by rw [Sem.bind_eq_wrap, Sem.wrap_wrap]; rfl)]
  exact h
end

/-! ### the family: a consumer's list, or none (the first item alone) -/
structure ZEnds where
  nx : List V → L2.St → Hp → Prop
  rt : List V → VK
  bk : List V → L2.St → Hp → Prop := fun _ _ _ => False
  ct : List V → L2.St → Hp → Prop := fun _ _ _ => False
  yd : V → Hp → Prop := fun _ _ => True
abbrev TZn := ZEnds → List V → L2.St → Hp → Prop
def ZEnds.at (D : ZEnds) (ys : List V) : Ends := { nx := D.nx ys, rt := D.rt ys, bk := D.bk ys, ct := D.ct ys }
def GIz (X : Cx) : Option Addr → List (Addr × Obj) → List V → L2.St → Hp → Shared → Prop
  | some S, ip, ys, σ, H, s => GI X S ip ys σ H s
  | none, ip, ys, σ, H, s => ys = [] ∧ Inv X ip σ H s
theorem GIz.open {X : Cx} {So : Option Addr} {ip : List (Addr × Obj)} {ys : List V} {σ : L2.St} {H : Hp} {s : Shared} (h : GIz X So ip ys σ H s) :
    ∃ base : List (Addr × Obj), (∀ p ∈ base, So = some p.1) ∧ (∀ S, So = some S → ∃ o, (S, o) ∈ base) ∧ Inv X (base ++ ip) σ H s ∧ ∀ ip' σ' H' s', Inv X (base ++ ip') σ' H' s' → GIz X So ip' ys σ' H' s' := by
  cases So with
  | none =>
    refine ⟨[], ?_, ?_, h.2, ?_⟩
    · intro p hp
      cases hp
    · intro S hS
      cases hS
    · intro _ _ _ _ I
      exact ⟨h.1, I⟩
  | some S =>
    obtain ⟨acc, c, r, I⟩ := h
    refine ⟨[(S, lstObj acc c)], ?_, ?_, I, ?_⟩
    · intro p hp
      rw [List.mem_singleton.mp hp]
    · intro S' hS
      cases hS
      exact ⟨_, List.mem_singleton.mpr rfl⟩
    · intro _ _ _ _ I
      exact ⟨acc, c, r, I⟩
def YZ (X : Cx) : Option Addr → (V → Hp → Prop) → Protocol
  | some S, _ => GY X S
  | none, yd => fun _ _ v s _ => ∃ x ip σ H, RelV x v ∧ Inv X ip σ H s ∧ yd x H
def GSPz (X : Cx) (So : Option Addr) (ip : List (Addr × Obj)) (D : ZEnds) (ys : List V) (f : Flow) (s : Shared) : Prop :=
  match f with
  | .next => ∃ σ H, GIz X So ip ys σ H s ∧ D.nx ys σ H
  | .brk => ∃ σ H, GIz X So ip ys σ H s ∧ D.bk ys σ H
  | .cont => ∃ σ H, GIz X So ip ys σ H s ∧ D.ct ys σ H
  | .ret u => ∃ v σ H, GIz X So ip ys σ H s ∧ RelV v u ∧ D.rt ys v H
structure GCz (X : Cx) (So : Option Addr) (ip : List (Addr × Obj)) (A : Around) (c : Code) (fs : List Frame) (gd : Bool → Bool) : Prop where
  pn : ∀ S, So = some S → ∀ p ∈ X.pn, p.1 ≠ S
  ip : ∀ S, So = some S → ∀ p ∈ ip, p.1 ≠ S
  apart : ∀ S, So = some S → Apart X S
  over : A.over c fs = X.A
  split : splitAtGen fs = none
  guard : fs.any Frame.guarded = false
  gd : gd false = false
structure GKz (X : Cx) (So : Option Addr) (ip : List (Addr × Obj)) (A : Around) (R : GenEnd) (c : Code) (fs : List Frame) (K : Flow → Sem PySem.Fin) (J : Value → Sem PySem.Fin) (D : ZEnds) : Prop where
  ok : ∀ (n : Nat) (ys : List V) (s₀ s : Shared) (f : Flow), n + ys.length = sizeLine → GSPz X So ip D ys f s → Seg (model X.prog X.w) A R (YZ X So D.yd) n s₀ c (K f) fs s
  exc : ∀ (n : Nat) (s₀ : Shared) (e : Value) (s : Shared), X.xe e s → Seg (model X.prog X.w) A R (YZ X So D.yd) n s₀ c (J e) fs s
structure GSz (X : Cx) (st : Stmt) (t : TZn) : Prop where
  run : ∀ (A : Around) (So : Option Addr) (ip : List (Addr × Obj)) (R : GenEnd) (n : Nat) (ys : List V) (s₀ : Shared) (c : Code) (fs : List Frame) (K : Flow → Sem PySem.Fin) (J : Value → Sem PySem.Fin) (gd : Bool → Bool) (lv : List Value → List Value) (s : Shared) (σ : L2.St) (H : Hp) (D : ZEnds),
    GCz X So ip A c fs gd → n + ys.length = sizeLine → GKz X So ip A R c fs K J D → GIz X So ip ys σ H s → t D ys σ H →
    Seg (model X.prog X.w) A R (YZ X So D.yd) n s₀ c ((exec st X.env).wrap K J gd lv) fs s
structure GSsz (X : Cx) (st : List Stmt) (t : TZn) : Prop where
  run : ∀ (A : Around) (So : Option Addr) (ip : List (Addr × Obj)) (R : GenEnd) (n : Nat) (ys : List V) (s₀ : Shared) (c : Code) (fs : List Frame) (K : Flow → Sem PySem.Fin) (J : Value → Sem PySem.Fin) (gd : Bool → Bool) (lv : List Value → List Value) (s : Shared) (σ : L2.St) (H : Hp) (D : ZEnds),
    GCz X So ip A c fs gd → n + ys.length = sizeLine → GKz X So ip A R c fs K J D → GIz X So ip ys σ H s → t D ys σ H →
    Seg (model X.prog X.w) A R (YZ X So D.yd) n s₀ c ((execs st X.env).wrap K J gd lv) fs s
section
variable {X : Cx} {st : Stmt} {rest : List Stmt}
def tzPlain (t : TS) : TZn := fun D ys σ H => t (D.at ys) σ H
theorem sp_gspz {So : Option Addr} {base ip : List (Addr × Obj)} {s : Shared} {D : ZEnds} {ys : List V} {f : Flow} (r : ∀ σ' H' s', Inv X (base ++ ip) σ' H' s' → GIz X So ip ys σ' H' s') (h : SP X (base ++ ip) (D.at ys) f s) : GSPz X So ip D ys f s := by
  cases f with
  | next => obtain ⟨σ, H, I, q⟩ := h; exact ⟨σ, H, r _ _ _ I, q⟩
  | brk => obtain ⟨σ, H, I, q⟩ := h; exact ⟨σ, H, r _ _ _ I, q⟩
  | cont => obtain ⟨σ, H, I, q⟩ := h; exact ⟨σ, H, r _ _ _ I, q⟩
  | ret u => obtain ⟨v, σ, H, I, r1, q⟩ := h; exact ⟨v, σ, H, r _ _ _ I, r1, q⟩
theorem gz_ps {t : TS} (h : PS X st t) : GSz X st (tzPlain t) := by
  refine ⟨fun A So ip R n ys s₀ c fs K J gd lv s σ H D g hn k hI ht => ?_⟩
  obtain ⟨base, _, _, I, back⟩ := hI.open
  refine seg_wrap ?_
  rw [g.over]
  exact wpAny_mono (h.run _ s σ H (D.at ys) I ht) (fun f s' hs => k.ok n ys s₀ s' f hn (sp_gspz (back ip) hs)) fun x s' hx => k.exc n s₀ x s' hx
def tz0 : TZn := fun D ys σ H => D.nx ys σ H
theorem gzs_nil : GSsz X [] tz0 := by
  refine ⟨fun A So ip R n ys s₀ c fs K J gd lv s σ H D g hn k hI ht => ?_⟩
  exact seg_execs_nil (k.ok n ys s₀ s .next hn ⟨σ, H, hI, ht⟩)
def tzThen (t u : TZn) : TZn := fun D ys σ H => t { D with nx := fun ys' σ' H' => u D ys' σ' H' } ys σ H
theorem gzs_cons {t u : TZn} (a : GSz X st t) (b : GSsz X rest u) : GSsz X (st :: rest) (tzThen t u) := by
  refine ⟨fun A So ip R n ys s₀ c fs K J gd lv s σ H D g hn k hI ht => ?_⟩
  refine seg_execs_cons ?_
  refine a.run A So ip R n ys s₀ c fs _ J gd lv s σ H { D with nx := fun ys' σ' H' => u D ys' σ' H' } g hn ⟨fun n' ys' s₀' s' f hn' hs => ?_, k.exc⟩ hI ht
  cases f with
  | next =>
    obtain ⟨σ', H', I', q⟩ := hs
    exact b.run A So ip R n' ys' s₀' c fs K J gd lv s' σ' H' D g hn' k I' q
  | brk => exact k.ok n' ys' s₀' s' .brk hn' hs
  | cont => exact k.ok n' ys' s₀' s' .cont hn' hs
  | ret u => exact k.ok n' ys' s₀' s' (.ret u) hn' hs
theorem gzs_one {t : TZn} (a : GSz X st t) : GSsz X [st] t := by
  refine ⟨fun A So ip R n ys s₀ c fs K J gd lv s σ H D g hn k hI ht => ?_⟩
  refine seg_execs_cons ?_
  refine a.run A So ip R n ys s₀ c fs _ J gd lv s σ H D g hn ⟨fun n' ys' s₀' s' f hn' hs => ?_, k.exc⟩ hI ht
  cases f with
  | next => exact seg_execs_nil (k.ok n' ys' s₀' s' .next hn' hs)
  | brk => exact k.ok n' ys' s₀' s' .brk hn' hs
  | cont => exact k.ok n' ys' s₀' s' .cont hn' hs
  | ret u => exact k.ok n' ys' s₀' s' (.ret u) hn' hs
/-- yield e: D.yd is told of the item, too -/
def tzYield (te : TE) : TZn := fun D ys σ H => ys.length < sizeLine ∧ te σ H fun x H1 => (ys = [] → D.yd x H1) ∧ D.nx (ys ++ [x]) σ H1
theorem gz_yield {e : Expr} {yp pos : Pos} {te : TE} (he : PE X e te) (hco : X.env.scope.isCoroutine = false := by rfl) (hi : interactive X.env = false := by rfl) : GSz X (.Expr (.Yield (some e) yp) pos) (tzYield te) := by
  refine ⟨fun A So ip R n ys s₀ c fs K J gd lv s σ H D g hn k hI ht => ?_⟩
  obtain ⟨hlt, ht⟩ := ht
  obtain ⟨n, rfl⟩ : ∃ m, n = m + 1 := ⟨n - 1, by omega⟩
  obtain ⟨base, _, _, I, back⟩ := hI.open
  refine seg_Expr_Yield g.split g.gd g.guard ?_ hco hi
  rw [g.over]
  refine wpAny_mono (he.run _ s σ H _ I ht) (fun v s' hv => ?_) fun x s' hx => k.exc _ s₀ x s' hx
  obtain ⟨x, H1, I1, rv, q0, q⟩ := hv
  have G1 : GIz X So ip ys σ H1 s' := back _ _ _ _ I1
  intro kap hk
  cases So with
  | none =>
    obtain ⟨ey, I2⟩ := G1
    exact ⟨x, ip, σ, H1, rv, I2, q0 ey⟩
  | some S =>
    have G1 : GI X S ip ys σ H1 s' := G1
    refine ⟨ys, x, ip, σ, H1, hn, rv, G1, fun s'' z => hk .none s'' ?_⟩
    refine k.ok n (ys ++ [x]) s'' s'' .next ?_ ⟨σ, H1, (show GI X S ip (ys ++ [x]) σ H1 s'' from G1.woken (g.pn S rfl) (g.ip S rfl) (g.apart S rfl) rv z), q⟩
    rw [List.length_append, List.length_singleton]; omega
/-- if -/
def tzIf (c : TT) (t u : TZn) : TZn := fun D ys σ H => c σ H fun b H1 => if b = true then t D ys σ H1 else u D ys σ H1
theorem gz_if {test : Expr} {a b : List Stmt} {pos : Pos} {tc : TT} {t u : TZn} (hc : PT X test tc) (ha : GSsz X a t) (hb : GSsz X b u) : GSz X (.If test a b pos) (tzIf tc t u) := by
  refine ⟨fun A So ip R n ys s₀ c fs K J gd lv s σ H D g hn k hI ht => ?_⟩
  obtain ⟨base, _, _, I, back⟩ := hI.open
  refine seg_If ?_
  rw [g.over]
  refine wpAny_mono (hc.run _ s σ H _ I ht) (fun d s' hd => ?_) fun x s' hx => k.exc n s₀ x s' hx
  obtain ⟨H1, I1, q⟩ := hd
  have G1 : GIz X So ip ys σ H1 s' := back _ _ _ _ I1
  cases d with
  | true =>
    rw [if_pos rfl] at q ⊢
    exact ha.run A So ip R n ys s₀ c fs K J gd lv s' σ H1 D g hn k G1 q
  | false =>
    rw [if_neg Bool.false_ne_true] at q ⊢
    exact hb.run A So ip R n ys s₀ c fs K J gd lv s' σ H1 D g hn k G1 q
/-- the thing at d is locked meanwhile -/
def tzLock (t : TZn) : TZn := fun D ys σ H => ∃ d u, H d = some u ∧ Mut (some u) ∧ ∀ od, t ⟨fun ys' σ' H' => H' d = some (.frz od u) ∧ D.nx ys' σ' (upd H' d u), fun ys' v H' => H' d = some (.frz od u) ∧ D.rt ys' v (upd H' d u),
  fun ys' σ' H' => H' d = some (.frz od u) ∧ D.bk ys' σ' (upd H' d u), fun ys' σ' H' => H' d = some (.frz od u) ∧ D.ct ys' σ' (upd H' d u), D.yd⟩ ys σ (upd H d (.frz od u))
theorem gz_lock {t : TZn} (h : GSz X st t) : GSz X st (tzLock t) := by
  refine ⟨fun A So ip R n ys s₀ c fs K J gd lv s σ H D g hn k hI ht => ?_⟩
  obtain ⟨d, u, hd, mu, ht⟩ := ht
  obtain ⟨base, _, _, I, back⟩ := hI.open
  obtain ⟨od, I1⟩ := I.lock hd mu
  have un : ∀ {ys' : List V} {σ' : L2.St} {H' : Hp} {s' : Shared}, GIz X So ip ys' σ' H' s' → H' d = some (.frz od u) → GIz X So ip ys' σ' (upd H' d u) s' := fun {ys' σ' H' s'} G e => by
    obtain ⟨base', _, _, I', back'⟩ := G.open
    exact back' _ _ _ _ (I'.unlock e (I.nofrz hd mu))
  refine h.run A So ip R n ys s₀ c fs K J gd lv s σ _ { nx := fun ys' σ' H' => H' d = some (.frz od u) ∧ D.nx ys' σ' (upd H' d u), rt := fun ys' v H' => H' d = some (.frz od u) ∧ D.rt ys' v (upd H' d u), bk := fun ys' σ' H' => H' d = some (.frz od u) ∧ D.bk ys' σ' (upd H' d u), ct := fun ys' σ' H' => H' d = some (.frz od u) ∧ D.ct ys' σ' (upd H' d u), yd := D.yd } g hn ⟨fun n' ys' s₀' s' f hn' hs => ?_, k.exc⟩ (back _ _ _ _ I1) (ht od)
  cases f with
  | next => obtain ⟨σ', H', G, e, q⟩ := hs; exact k.ok n' ys' s₀' s' .next hn' ⟨σ', _, un G e, q⟩
  | brk => obtain ⟨σ', H', G, e, q⟩ := hs; exact k.ok n' ys' s₀' s' .brk hn' ⟨σ', _, un G e, q⟩
  | cont => obtain ⟨σ', H', G, e, q⟩ := hs; exact k.ok n' ys' s₀' s' .cont hn' ⟨σ', _, un G e, q⟩
  | ret v => obtain ⟨x, σ', H', G, r, e, q⟩ := hs; exact k.ok n' ys' s₀' s' (.ret v) hn' ⟨x, σ', _, un G e, r, q⟩
/-! ### for -/
def tzFor (wi : TI) (g : TG) (tb : TZn) : TZn := fun D ys σ H => wi σ H fun J H1 => ∃ W : Nat → Nat → List V → L2.St → Hp → Prop, (∃ m, W 0 m ys σ H1) ∧ ∀ i m ys σ H, W i m ys σ H →
  (J.stop i H ∧ D.nx ys σ H) ∨ (J.go i H ∧ ∃ N : List V → L2.St → Hp → Prop, (∀ ys' σ' H', N ys' σ' H' → ∃ m', m' < m ∧ W (i + 1) m' ys' σ' H') ∧ ∀ x H', J.yld i H x H' → g x σ H' fun σ2 H2 => tb { D with nx := N, ct := N, bk := D.nx } ys σ2 H2)
theorem gcz_loop {So : Option Addr} {ip : List (Addr × Obj)} {A : Around} {c c' : Code} {fs : List Frame} {gd : Bool → Bool} {k : Result → Sem PySem.Fin} {l kp : List Value} {p : Pos} (g : GCz X So ip A c fs gd) (hw : c'.weight = 0) (hu : c'.cUnits = 0) :
    GCz X So ip A c' (.ret k none (gd false) l c p kp :: fs) id where
  pn := g.pn
  ip := g.ip
  apart := g.apart
  over := (over_loop hw hu).trans g.over
  split := by
    show (splitAtGen fs).map _ = none
    rw [g.split]; rfl
  guard := by
    show (gd false || fs.any Frame.guarded) = false
    rw [g.gd, g.guard]; rfl
  gd := rfl
theorem GCz.more {So : Option Addr} {ip ip' : List (Addr × Obj)} {A : Around} {c : Code} {fs : List Frame} {gd : Bool → Bool} (g : GCz X So ip A c fs gd) (h : ∀ S, So = some S → ∀ p ∈ ip', p.1 ≠ S) : GCz X So ip' A c fs gd :=
  ⟨g.pn, h, g.apart, g.over, g.split, g.guard, g.gd⟩
theorem seg_cameBackz {So : Option Addr} {ip : List (Addr × Obj)} {A : Around} {R : GenEnd} {c : Code} {fs : List Frame} {K : Flow → Sem PySem.Fin} {J : Value → Sem PySem.Fin} {gd : Bool → Bool} {lv : List Value → List Value} {D : ZEnds} {n : Nat} {s₀ s : Shared} {e : Value}
    (g : GCz X So ip A c fs gd) (k : GKz X So ip A R c fs K J D) (h : cameBackBy (model X.prog X.w) X.A X.env X.xe e s) :
    Seg (model X.prog X.w) A R (YZ X So D.yd) n s₀ c (((Sem.raise e : Sem Flow).onRaise (cameBack X.env)).wrap K J gd lv) fs s := by
  show Seg _ _ _ _ _ _ _ (((cameBack X.env e).bind fun _ => (Sem.raise e : Sem Flow)).wrap K J gd lv) _ _
  rw [Sem.bind_eq_wrap, Sem.wrap_wrap]
  refine seg_wrap ?_
  rw [g.over]
  exact wpAny_mono h (fun _ s' hx => k.exc n s₀ e s' hx) fun x s' hx => k.exc n s₀ x s' hx
theorem gz_for {tg iter : Expr} {body : List Stmt} {wi : TI} {g : TG} {tb : TZn} {pos : Pos} (hp : PassesOwn (model X.prog X.w) X.A X.env X.xe) (hc : X.calm = true) (hi : PI X tg iter wi) (hg : PG X tg g) (hb : GSsz X body tb)
    (hs : ∀ x, foldedSetIterable iter X.env x = pure x := by intro _; rfl) : GSz X (.For tg iter body [] pos) (tzFor wi g tb) := by
  refine ⟨fun A So ip R n ys s₀ c fs K J gd lv s σ H D gc hn k hI ht => ?_⟩
  obtain ⟨base, hbs, hbo, I, back⟩ := hI.open
  refine seg_For ?_ hs
  rw [gc.over]
  refine wpAny_mono (hi.run _ s σ H _ I ht) (fun v s1 h1 => ?_) fun x s' hx => k.exc n s₀ x s' hx
  refine wpAny_mono h1 (fun itv s2 h2 => ?_) fun x s' hx => k.exc n s₀ x s' hx
  intro p
  obtain ⟨it, fp, tn, Jt, H2, e, I2, T, st2, f2, W, ⟨m0, w0⟩, turn⟩ := h2
  subst e
  have stat : ∀ {base' : List (Addr × Obj)} {H' : Hp}, (∀ p ∈ base', So = some p.1) → (∀ b ∈ fp, H' b = none) → ∀ b ∈ fp, FpOk X (base' ++ ip) H' b := fun {base' H'} hb' hn b hb => by
    obtain ⟨q1, q2, q3, q4, q5, q6⟩ := f2 b hb
    refine ⟨hn b hb, q2, q3, q4, q5, fun p hp => ?_⟩
    rcases List.mem_append.mp hp with hp | hp
    · exact q6 p (List.mem_append_left _ hp)
    · rcases List.mem_append.mp hp with hp | hp
      · obtain ⟨o, ho⟩ := hbo p.1 (hb' p hp)
        exact q6 (p.1, o) (List.mem_append_right _ (List.mem_append_left _ ho))
      · exact q6 p (List.mem_append_right _ (List.mem_append_right _ hp))
  have notS : ∀ S, So = some S → ∀ b ∈ fp, b ≠ S := fun S hS b hb z => by
    obtain ⟨o, ho⟩ := hbo S hS
    obtain ⟨_, _, _, _, _, q6⟩ := f2 b hb
    exact q6 (S, o) (List.mem_append_right _ (List.mem_append_left _ ho)) z.symm
  have gl := fun (kk : Result → Sem PySem.Fin) => gcz_loop (k := kk) (c' := .forLoop tg (.ref it) body [] X.env) (l := lv []) (kp := []) (p := p) gc rfl rfl
  have loop : ∀ (m i n : Nat) (ys : List V) (s₀ s : Shared) (σ : L2.St) (H : Hp), n + ys.length = sizeLine → W i m ys σ H → GIz X So ip ys σ H s → tn i s.heap → (∀ b ∈ fp, H b = none) →
      Seg (model X.prog X.w) A R (YZ X So D.yd) n s₀ (.forLoop tg (.ref it) body [] X.env) ((model X.prog X.w).den (.forLoop tg (.ref it) body [] X.env))
        (.ret (fun r => ((match r with | .ok f => (.pure f : Sem Flow) | .error e => .raise e).onRaise (cameBack X.env)).wrap K J gd lv) none (gd false) (lv []) c p [] :: fs) s := by
    intro m
    induction m using Nat.strongRecOn with
    | ind m ih =>
      intro i n ys s₀ s3 σ3 H3 hn w3 hI3 st3 fr3
      have ee : ∀ (n : Nat) (s₀ : Shared) (x : Value) (s' : Shared), X.xe x s' → Seg (model X.prog X.w) A R (YZ X So D.yd) n s₀ (.forLoop tg (.ref it) body [] X.env)
          ((do noteFrame x X.env; theTreesLotGoes x : Sem Unit).wrap (fun _ => .raise x) .raise id id)
          (.ret (fun r => ((match r with | .ok f => (.pure f : Sem Flow) | .error e => .raise e).onRaise (cameBack X.env)).wrap K J gd lv) none (gd false) (lv []) c p [] :: fs) s' := fun n s₀ x s' hx => by
        refine seg_wrap ?_
        rw [(gl _).over]
        refine wpAny_bind (wpAny_mono (hp x s' hx) (fun _ s'' hcb => wpAny_theTreesLotGoes ?_) fun y s'' hcb => ?_)
        · exact seg_leaf (.error x) (seg_cameBackz gc k hcb)
        · exact seg_leaf (.error y) (seg_cameBackz gc k hcb)
      obtain ⟨base3, hbs3, hbo3, I3, back3⟩ := hI3.open
      refine seg_forLoop ?_
      rw [(gl _).over]
      rcases turn i m ys σ3 H3 w3 with ⟨stop, qn⟩ | ⟨go, N, hN, step⟩
      · refine wpAny_mono (T.done X rfl rfl rfl hc i _ s3 σ3 H3 X.xe I3 (stat hbs3 fr3) st3 stop) (fun r s4 ⟨hr, I4⟩ => ?_) fun x s' hx => ee n s₀ x s' hx
        subst hr
        refine seg_again rfl (seg_block (seg_execs_nil ?_))
        exact seg_leaf (.ok .next) (k.ok n ys s₀ s4 .next hn ⟨σ3, H3, back3 _ _ _ _ I4, qn⟩)
      · refine wpAny_mono (T.item X rfl rfl rfl hc i _ s3 σ3 H3 X.xe I3 (stat hbs3 fr3) st3 go) (fun r s4 ⟨u, hr, h4⟩ => ?_) fun x s' hx => ee n s₀ x s' hx
        subst hr
        refine wpAny_mono h4 (fun _ s5 ⟨x, H5, I5, r5, y5, st5, fr5⟩ => ?_) fun x s' hx => ee n s₀ x s' hx
        have I5' := I5.pinned (stat hbs3 fr5) (T.obj _ _ st5)
        refine wpAny_mono (hg.run _ s5 σ3 H5 x u _ I5' r5 (step x H5 y5)) (fun _ s6 ⟨σ6, H6, I6, q6⟩ => ?_) fun x s' hx => ee n s₀ x s' hx
        rw [List.append_assoc] at I6
        have G6 := back3 _ _ _ _ I6
        have gc6 := (gl (fun r => ((match r with | .ok f => (.pure f : Sem Flow) | .error e => .raise e).onRaise (cameBack X.env)).wrap K J gd lv)).more (ip' := ip ++ pinsAt fp s5.heap) (fun S hS p hp => by
          rcases List.mem_append.mp hp with hp | hp
          · exact gc.ip S hS p hp
          · exact notS S hS p.1 (of_pinsAt hp).1)
        refine hb.run A So _ R n ys s₀ _ _ _ _ id id s6 σ6 H6 { D with nx := N, ct := N, bk := D.nx } gc6 hn ⟨fun n' ys' s₀' s7 f hn' hs7 => ?_, fun n' s₀' x s7 hx => ee n' s₀' x s7 hx⟩ G6 q6
        have un : ∀ {ys7 : List V} {σ7 : L2.St} {H7 : Hp}, GIz X So (ip ++ pinsAt fp s5.heap) ys7 σ7 H7 s7 → GIz X So ip ys7 σ7 H7 s7 ∧ tn (i + 1) s7.heap ∧ ∀ b ∈ fp, H7 b = none := fun {ys7 σ7 H7} G7 => by
          obtain ⟨base7, _, _, I7, back7⟩ := G7.open
          rw [← List.append_assoc] at I7
          refine ⟨back7 _ _ _ _ I7.unpinned, T.keep _ _ _ st5 fun b hb o e => (I7.pin (b, o) (List.mem_append_right _ (List.mem_append_right _ (mem_pinsAt hb e)))).1, fun b hb => ?_⟩
          obtain ⟨o, e, d⟩ := T.obj _ _ st5 b hb
          exact (I7.pin (b, o) (List.mem_append_right _ (List.mem_append_right _ (mem_pinsAt hb e)))).2.1
        cases f with
        | next =>
          obtain ⟨σ7, H7, G7, n7⟩ := hs7
          obtain ⟨m', hm, w7⟩ := hN ys' σ7 H7 n7
          obtain ⟨u1, u2, u3⟩ := un G7
          exact seg_again rfl (ih m' hm (i + 1) n' ys' s₀' s7 σ7 H7 hn' w7 u1 u2 u3)
        | cont =>
          obtain ⟨σ7, H7, G7, n7⟩ := hs7
          obtain ⟨m', hm, w7⟩ := hN ys' σ7 H7 n7
          obtain ⟨u1, u2, u3⟩ := un G7
          exact seg_again rfl (ih m' hm (i + 1) n' ys' s₀' s7 σ7 H7 hn' w7 u1 u2 u3)
        | brk =>
          obtain ⟨σ7, H7, G7, q7⟩ := hs7
          exact seg_leaf (.ok .next) (k.ok n' ys' s₀' s7 .next hn' ⟨σ7, H7, (un G7).1, q7⟩)
        | ret v =>
          obtain ⟨x7, σ7, H7, G7, r7, q7⟩ := hs7
          exact seg_leaf (.ok (.ret v)) (k.ok n' ys' s₀' s7 (.ret v) hn' ⟨x7, σ7, H7, (un G7).1, r7, q7⟩)
  exact loop m0 0 n ys s₀ s2 σ H2 hn w0 (back _ _ _ _ I2) st2 fun b hb => (f2 b hb).1
/-! ### as the library's generator bodies are -/
theorem gss_of {sts : List Stmt} {t : TZn} (h : GSsz X sts t) : GSs X sts (fun D ys σ H => t { nx := D.nx, rt := D.rt, bk := D.bk, ct := D.ct } ys σ H) := by
  refine ⟨fun A S ip R n ys s₀ c fs K J gd lv s σ H D g hn k hI ht => ?_⟩
  refine h.run A (some S) ip R n ys s₀ c fs K J gd lv s σ H { nx := D.nx, rt := D.rt, bk := D.bk, ct := D.ct } ⟨?_, ?_, ?_, g.over, g.split, g.guard, g.gd⟩ hn ⟨fun n' ys' s₀' s' f hn' hs => ?_, k.exc⟩ hI ht
  · intro S' hS
    cases hS
    exact g.pn
  · intro S' hS
    cases hS
    exact g.ip
  · intro S' hS
    cases hS
    exact g.apart
  · refine k.ok n' ys' s₀' s' f hn' ?_
    cases f with
    | next => exact hs
    | brk => exact hs
    | cont => exact hs
    | ret u => exact hs
end
/-! ### the first item alone -/
def RF (P : Program) (w : World) (outer : List Env) (H : Hp) (s : Shared) (Qe : Hp → Prop) : GenEnd := fun _ _ r s1 =>
  ((r = .ok (.ret .none) ∨ r = .ok .next) ∧ ∃ H', s1.os = s.os ∧ AllBare s1.gens ∧ Un (frs outer) [] H H' s.heap s1.heap ∧ HOk P w H' s1.heap ∧ Qe H') ∨ ∃ e, r = .error e ∧ (fun (_ : Value) (_ : Shared) => False) e s1
def YF (P : Program) (w : World) (outer : List Env) (H : Hp) (s : Shared) (Yd : V → Hp → Prop) : Protocol := fun _ _ v s1 _ =>
  ∃ x H', s1.os = s.os ∧ AllBare s1.gens ∧ Un (frs outer) [] H H' s.heap s1.heap ∧ HOk P w H' s1.heap ∧ RelV x v ∧ Yd x H'
def GMadeF (P : Program) (w : World) (k : Nat) (outer : List Env) (H : Hp) (s : Shared) (Yd : V → Hp → Prop) (Qe : Hp → Prop) (u : Value) (s' : Shared) : Prop :=
  ∃ (a : Addr) (g : Nat) (c : Code), u = .ref a ∧ s'.heap.IsGen a g ∧ s'.gens[g]? = some (.fresh c) ∧ s'.os = s.os ∧ AllBare s'.gens ∧ s'.heap.NoLimit ∧ (∀ b o, s.heap.get? b = some o → s'.heap.get? b = some o) ∧
    ∀ (A : Around) (s2 : Shared), Room k A → A.frames = some outer → (∀ b o, s'.heap.get? b = some o → s2.heap.get? b = some o) → s2.os = s.os → AllBare s2.gens →
      Seg (model P w) A (RF P w outer H s Qe) (YF P w outer H s Yd) sizeLine s2 c ((model P w).den c) [] s2
/-- the promise: what is told of the first item, what of the end if there is none -/
abbrev SpF := List V → Hp → (V → Hp → Prop) → (Hp → Prop) → Prop
structure GFnF (P : Program) (w : World) (K : PySem.W.Frag) (mg : Str → Option Value) (base : Heap) (k : Nat) (f : Addr) (fd : FuncData) (ps : List Str) (sp : SpF) : Prop where
  len : ∀ vs H Yd Qe, sp vs H Yd Qe → vs.length = ps.length
  run : ∀ (A : Around) (outer : List Env) (s : Shared) (H : Hp) (args : Args) (us : List Value) (vs : List V) (Yd : V → Hp → Prop) (Qe : Hp → Prop), Room k A → Env0 P w K mg base A outer s H → BindsTo s fd args (ps.zip us) → Vals vs us → sp vs H Yd Qe →
    codeAny (model P w) A (.call (.ref f) args) (fun r s' => match r with | .ok (.ret u) => GMadeF P w k outer H s Yd Qe u s' | _ => False) s
theorem gfnF_of {P : Program} {w : World} {K : PySem.W.Frag} {mg : Str → Option Value} {base : Heap} {k : Nat} {f : Addr} {name qual : Str} {params : Arguments} {body : List Stmt} {scope : Scope} {dV kV doc pm cdv ct oc : Value} {an od : Option Addr}
    {osl : Array (Option Value)} {N ps : List Str} {sp : SpF} (lk : K.lookup f = some ⟨oc, od, .func (PySem.W.fnOf name qual params body scope dV kV doc pm an cdv ct), osl⟩) (hcd : PySem.W.codeIn K cdv qual = true) (S : GScope N ps scope)
    (len : ∀ vs H Yd Qe, sp vs H Yd Qe → vs.length = ps.length)
    (hbody : ∀ (A : Around) (outer : List Env) (s : Shared) (H : Hp) (vs : List V) (Yd : V → Hp → Prop) (Qe : Hp → Prop), Room k (A.deeper (envOfC qual scope s.heap.objs.size f cdv)) → sp vs H Yd Qe →
      ∃ t, GSsz (gcxOf P w K mg base N qual scope f cdv A outer s H (fun _ _ _ => False) []) body t ∧ t { nx := fun ys _ H' => ys = [] → Qe H', rt := fun ys v H' => v = .non ∧ (ys = [] → Qe H'), yd := Yd } [] (start N vs) H) :
    GFnF P w K mg base (k + 1) f (PySem.W.fnOf name qual params body scope dV kV doc pm an cdv ct) ps sp := by
  refine ⟨len, fun A outer s H args us vs Yd Qe hr e0 hb r hsp => ?_⟩
  have hl := len _ _ _ _ hsp
  have KX : K.In s.heap := e0.mod.kin.keeps fun b o e => (e0.bs b o e).1
  have lim : s.heap.NoLimit := e0.mod.nolimit.keeps fun b o e => (e0.bs b o e).1
  have hkind : ∀ y ∈ ps.zip us, scope.names.lookup y.1 = some .local ∨ (scope.names.lookup y.1 = some .cell ∧ ((cellsFrom (s.heap.objs.size + 1) scope.names []).lookup y.1).isSome = true) := fun ⟨n, v⟩ hy => by
    rcases S.par n (List.of_mem_zip hy).1 with q | q
    · exact .inl q
    · exact .inr ⟨q, PySem.W.cellsFrom_some _ _ _ (.inl q)⟩
  refine codeAny_call_generator hr.depth (KX _ _ lk) rfl S.co S.gen rfl (PySem.W.codeRec_of KX hcd) (hb _ _ _ _ ?_)
  refine wpAny_newFunctionEnv_cells S.kind hkind fun env he s1 x => ?_
  subst he
  have lim1 : s1.heap.NoLimit := lim.keeps x.toInCall.keep
  refine ⟨lim1, ?_⟩
  obtain ⟨h1, tk, es1, hk1⟩ := x.done
  have os1 : s1.os = s.os := by rw [es1]
  have gen1 : s1.gens = s.gens := by rw [es1]
  have kp1 : ∀ b o, s.heap.get? b = some o → s1.heap.get? b = some o := x.toInCall.keep
  have main : ∀ (go : Obj) (nm qn : Value) (tk2 : Nat), go.cls = .type "generator" → go.data = .fields #[.int s1.gens.size 0, nm, qn] → go.slots = #[] → (∀ h : Heap, (h.push go).get? h.objs.size = some go) →
      GMadeF P w (k + 1) outer H s Yd Qe (.ref s1.heap.objs.size) { s1 with gens := s1.gens.push (.fresh (.func body (envOfC qual scope s.heap.objs.size f cdv))), toks := tk2, heap := s1.heap.push go } := by
    intro go nm qn tk2 hgc hgd0 hgs hgp
    refine ⟨s1.heap.objs.size, s1.gens.size, _, rfl, ⟨go, nm, qn, hgp _, hgc, hgd0, hgs⟩, Array.getElem?_push_size .., os1, ?_, lim1.keeps fun b o e => Heap.get?_push_of_some _ e, fun b o e => Heap.get?_push_of_some _ (kp1 b o e), ?_⟩
    · exact AllBare.push (by rw [gen1]; exact e0.bare) rfl
    intro Aw s2 hrw hfr hk2 hos hba
    have e0w : Env0 P w K mg base Aw outer s H := ⟨hfr, e0.mod, e0.bs, e0.bsz, e0.funs, e0.frf, e0.hok, e0.bare⟩
    obtain ⟨t, ht, hq⟩ := hbody Aw outer s H vs Yd Qe (hrw.deeper _) hsp
    have I1 : Inv (gcxOf P w K mg base N qual scope f cdv Aw outer s H (fun _ _ _ => False) []) [] (start N vs) H s1 := inv_startG S hrw.hd e0w hl r x
    have kp2 : ∀ b o, s1.heap.get? b = some o → s2.heap.get? b = some o := fun b o e => hk2 b o (Heap.get?_push_of_some _ e)
    have I2 : Inv (gcxOf P w K mg base N qual scope f cdv Aw outer s H (fun _ _ _ => False) []) [] (start N vs) H s2 :=
      I1.call' (ch := []) (hos.trans os1.symm) (Un.kept kp2) (I1.hok.kept kp2) hba fun b z => by simp at z
    refine seg_func ?_
    refine seg_imp (R := RF P w outer H s Qe) (Y := YZ (gcxOf P w K mg base N qual scope f cdv Aw outer s H (fun _ _ _ => False) []) none Yd) (fun n s₀ r s1' hR => hR) (fun n s₀ v s1' kap kap' hkk hY => ?_) sizeLine ?_
    · obtain ⟨xx, ip, σ', H', rv, J, hy⟩ := hY
      exact ⟨xx, H', J.os, J.bare, J.base, J.hok, rv, hy⟩
    · refine ht.run Aw none [] _ sizeLine [] s2 _ [] _ _ id id s2 (start N vs) H { nx := fun ys _ H' => ys = [] → Qe H', rt := fun ys v H' => v = .non ∧ (ys = [] → Qe H'), yd := Yd }
        ⟨?_, ?_, ?_, over_func, rfl, rfl, rfl⟩ (Nat.add_zero _) ⟨fun n ys s₀ s' fl hn hs => ?_, fun n s₀ e s' hx => ?_⟩ ⟨rfl, I2⟩ hq
      · intro S' hS
        cases hS
      · intro S' hS
        cases hS
      · intro S' hS
        cases hS
      · cases fl with
        | next =>
          obtain ⟨σ', H', ⟨ey, J⟩, hQ⟩ := hs
          exact seg_end (.ok (.ret .none)) (.inl ⟨.inl rfl, H', J.os, J.bare, J.base, J.hok, hQ ey⟩)
        | brk => obtain ⟨_, _, _, q⟩ := hs; exact False.elim q
        | cont => obtain ⟨_, _, _, q⟩ := hs; exact False.elim q
        | ret u =>
          obtain ⟨v, σ', H', ⟨ey, J⟩, rv, ev, hQ⟩ := hs
          subst ev
          have eu : u = Value.none := rv
          subst eu
          exact seg_end (.ok (.ret .none)) (.inl ⟨.inl rfl, H', J.os, J.bare, J.base, J.hok, hQ ey⟩)
      · refine seg_wrap ?_
        rw [over_func]
        refine wpAny_mono (show wpAny (model P w) (Aw.deeper (envOfC qual scope s.heap.objs.size f cdv)) (leaving (envOfC qual scope s.heap.objs.size f cdv) e) (fun _ s'' => CX P w outer H s (fun _ _ _ => False) e s'' ∧ ∀ p ∈ ([] : List (Addr × Obj)), s''.heap.get? p.1 = some p.2) (fun _ _ => False) s' from hx) (fun _ s'' q => ?_) fun _ s'' q => q.elim
        obtain ⟨_, _, _, _, _, _, _, _, _, _, _, _, z⟩ := q.1
        exact z.elim
  exact main _ _ _ _ rfl rfl rfl fun h => Heap.get?_push_size _ rfl
/-- an expression whose value is such a generator -/
abbrev TGenF := L2.St → Hp → (V → Hp → Prop) → (Hp → Prop) → Prop
structure PGenF (X : Cx) (k : Nat) (e : Expr) (tg : TGenF) : Prop where
  run : ∀ (pins : List (Addr × Obj)) (s : Shared) (σ : L2.St) (H : Hp) (Yd : V → Hp → Prop) (Qe : Hp → Prop), Inv X pins σ H s → tg σ H Yd Qe → wpAny (model X.prog X.w) X.A (eval e X.env)
    (fun u s' => ∃ H1 sc, Inv X pins σ H1 sc ∧ GMadeF X.prog X.w k X.stack H1 sc Yd Qe u s') X.xe s
section
variable {X : Cx} {k : Nat} {f : Addr} {fd : FuncData} {ps : List Str} {sp : SpF} {x : Str} {p pos' pos : Pos}
def tCallF (sp : SpF) (t : TA) : TGenF := fun σ H Yd Qe => t σ H fun vs H1 => sp vs H1 Yd Qe
theorem pgenF_call {e : Expr} {es : List Expr} {t : TA} (F : GFnF X.prog X.w X.K X.mg X.base k f fd ps sp) (hr : Room k X.A) (hg : Gl X x) (hm : X.mg x = some (.ref f)) (hk : PySem.W.keepIn X.K (.ref f) = true) (hb : Binds X.K fd ps [])
    (ha : PA X (e :: es) t) (hdb : (x == ("__debug__" : Str)) = false := by decide) (he : starEach (e :: es) X.env = (false, eval e X.env) :: starEach es X.env := by rfl) (hpl : (backTo pos' (starEach es X.env)).any (·.1) = false := by rfl) :
    PGenF X k (.Call (.Name x p) (e :: es) [] pos') (tCallF sp t) := by
  refine ⟨fun pins s σ H Yd Qe I h => ?_⟩
  refine wpAny_Call_Name_kw (ld_glob I hg hm ?_ hdb)
  refine PySem.W.callWith_K (h₀ := X.base) I.ok.mod.kin hk (thn (ha.run pos' pins s σ H _ I h) fun us s1 ⟨vs, H1, I1, r, q⟩ => ⟨I1.kIn, ?_⟩) he hpl
  have hl : us.length = ps.length := by rw [← r.length]; exact F.len _ _ _ _ q
  have b := hb s1 us I1.kIn (by rw [List.append_nil]; exact hl)
  rw [List.append_nil] at b
  refine wpAny_call (codeAny_mono (F.run X.A X.stack s1 H1 ⟨us, []⟩ us vs Yd Qe hr I1.env0 b r q) fun r s' hq => ?_)
  cases r with
  | error e => exact False.elim hq
  | ok fl =>
    cases fl with
    | ret u => exact ⟨H1, s1, I1, hq⟩
    | next => exact False.elim hq
    | brk => exact False.elim hq
    | cont => exact False.elim hq
def tFor1 (tg : TGenF) (g : TG) (tb : TS) : TS := fun D σ H => tg σ H (fun x H1 => g x σ H1 fun σ2 H2 => tb { D with nx := fun _ _ => False, ct := fun _ _ => False, bk := D.nx } σ2 H2) fun H1 => D.nx σ H1
theorem ps_for1 {iter target : Expr} {body : List Stmt} {tg : TGenF} {g : TG} {tb : TS} (hp : PassesOwn (model X.prog X.w) X.A X.env X.xe) (hc : X.calm = true) (h : PGenF X k iter tg) (hr : Room (k + 3) X.A) (hg : PG X target g) (hb : PSs X body tb)
    (hs : ∀ x, foldedSetIterable iter X.env x = pure x := by intro _; rfl) (ht : ∀ it v, letOwnedTupleGo target it v = pure () := by intro _ _; rfl) : PS X (.For target iter body [] pos) (tFor1 tg g tb) := by
  refine ⟨fun pins s σ H D I hw => ?_⟩
  refine wpAny_For (thn (h.run pins s σ H _ _ I hw) fun u s1 ⟨H1, sc, I1, hG⟩ => ?_) hs
  obtain ⟨a, g', c, rfl, hgen, hgs, hos, hba, hlim, hkp, wake⟩ := hG
  refine wpAny_pyIter_gen hgen ?_
  refine codeAny_forLoop_any (fun n s' => n = 0 ∧ s' = s1) ?_ 0 ⟨rfl, rfl⟩
  rintro n s3 ⟨rfl, rfl⟩
  have hr1 : Room k X.A.in1 := ⟨hr.hd, by have := hr.dp; show X.A.depth + 3 * k + 5 < _; omega, by have := hr.un; show X.A.units + 1 + 16 * k + 200 < _; omega⟩
  have fin : ∀ (s1 : Shared) (gg : Array GenState) (h' : Heap) (H' : Hp), s1.os = sc.os → AllBare gg → Un (frs X.stack) [] H1 H' sc.heap h' → HOk X.prog X.w H' h' → Inv X pins σ H' { s1 with gens := gg, heap := h' } := fun s1 gg h' H' e1 e2 e3 e4 =>
    I1.call' (ch := []) e1 e3 e4 e2 fun b z => by simp at z
  refine wpAny_passesOwn hp ?_
  refine next_genG (Er := fun _ _ => False) (F := fun _ _ s1 => ∃ H', s1.os = sc.os ∧ AllBare s1.gens ∧ Un (frs X.stack) [] H1 H' sc.heap s1.heap ∧ HOk X.prog X.w H' s1.heap ∧ _) (Y := YF X.prog X.w X.stack H1 sc _) (n := sizeLine) hr.hd hlim (by have := hr.dp; show X.A.depth < _; omega) hgen hgs
    ⟨rfl, wake X.A.in1 (s3.setGen g' .running) hr1 I1.ok.frames (fun _ _ e => e) hos (allBare_setGen hba rfl)⟩ (fun v s4 gs' hbare hv => ?_) (fun s4 hp4 h' hk => ?_) fun e s4 he => he.elim
  · obtain ⟨xx, H', q1, q2, q3, q4, rv, hy⟩ := hv
    have I4 : Inv X pins σ H' (s4.setGen g' gs') := fin s4 _ s4.heap H' q1 (allBare_setGen q2 hbare) q3 q4
    refine wpAny_of_eq (ht _ v) ?_
    refine wpAny_passesOwn hp (thn (hg.run _ _ σ H' xx v _ I4 rv hy) fun _ s6 ⟨σ6, H6, I6, q6⟩ => ?_)
    refine wpAny_passesOwn hp (thn (hb.run _ s6 σ6 H6 _ I6 q6) fun f s7 q7 => ?_)
    cases f with
    | next => obtain ⟨_, _, _, q⟩ := q7; exact False.elim q
    | cont => obtain ⟨_, _, _, q⟩ := q7; exact False.elim q
    | brk => obtain ⟨σ7, H7, I7, q7⟩ := q7; exact ⟨σ7, H7, I7, q7⟩
    | ret v => obtain ⟨x7, σ7, H7, I7, r7, q7⟩ := q7; exact ⟨x7, σ7, H7, I7, r7, q7⟩
  · obtain ⟨H', q1, q2, q3, q4, hq⟩ := hp4
    exact wpAny_execs_nil ⟨σ, H', fin s4 _ h' H' q1 (allBare_setGen q2 rfl) (q3.trans (Un.kept hk)) (q4.kept hk), hq⟩
end
/-! ### by a def of the text -/
section
variable {P : Program} {w : World} {K : PySem.W.Frag} {mg : Str → Option Value} {base : Heap}
theorem okF {x qual : Str} {st : Stmt} {f : Addr} {fd : FuncData} {N ps : List Str} {k : Nat} {sp : SpF} (F : Fun K x qual st f fd) (S : GScope N ps (defScope st)) (len : ∀ vs H Yd Qe, sp vs H Yd Qe → vs.length = ps.length)
    (hbody : ∀ (cdv : Value) (A : Around) (outer : List Env) (s : Shared) (H : Hp) (vs : List V) (Yd : V → Hp → Prop) (Qe : Hp → Prop), Room k (A.deeper (envOfC qual (defScope st) s.heap.objs.size f cdv)) → sp vs H Yd Qe →
      ∃ t, GSsz (gcxOf P w K mg base N qual (defScope st) f cdv A outer s H (fun _ _ _ => False) []) (defBody st) t ∧ t { nx := fun ys _ H' => ys = [] → Qe H', rt := fun ys v H' => v = .non ∧ (ys = [] → Qe H'), yd := Yd } [] (start N vs) H) :
    GFnF P w K mg base (k + 1) f fd ps sp := by
  obtain ⟨oc, od, kV, doc, pm, an, cdv, ct, osl, rfl, lk, hcd⟩ := F.ex
  exact gfnF_of lk hcd S len fun A outer s H vs Yd Qe hr hsp => hbody cdv A outer s H vs Yd Qe hr hsp
theorem okG {x qual : Str} {st : Stmt} {f : Addr} {fd : FuncData} {N ps : List Str} {k : Nat} {sp : SpG} (F : Fun K x qual st f fd) (S : GScope N ps (defScope st)) (len : ∀ vs H Q E, sp vs H Q E → vs.length = ps.length)
    (hbody : ∀ (cdv : Value) (A : Around) (outer : List Env) (s : Shared) (H : Hp) (vs : List V) (Q : List V → Hp → Prop) (E : XK) (pn : List (Addr × Obj)), Room k (A.deeper (envOfC qual (defScope st) s.heap.objs.size f cdv)) → sp vs H Q E →
      ∃ t, GSsz (gcxOf P w K mg base N qual (defScope st) f cdv A outer s H E pn) (defBody st) t ∧ t { nx := fun ys _ H' => Q ys H', rt := fun ys v H' => v = .non ∧ Q ys H' } [] (start N vs) H) :
    GFn P w K mg base (k + 1) f fd ps sp := by
  obtain ⟨oc, od, kV, doc, pm, an, cdv, ct, osl, rfl, lk, hcd⟩ := F.ex
  refine gfn_of lk hcd S len fun A outer s H vs Q E pn hr hsp => ?_
  obtain ⟨t, ht, hq⟩ := hbody cdv A outer s H vs Q E pn hr hsp
  exact ⟨_, gss_of ht, hq⟩
end
/-! ### walks in generators -/
theorem zfor_list {K : PySem.W.Frag} {a : Addr} {xs : List V} {g : TG} {tb : TZn} {D : ZEnds} {ys : List V} {σ : L2.St} {H : Hp} (Pv : Nat → List V → L2.St → Hp → Prop) (h0 : Pv 0 ys σ H) (hl : ∀ i ys σ H, i ≤ xs.length → Pv i ys σ H → SqL K H a xs)
    (hs : ∀ i x ys σ H, xs[i]? = some x → Pv i ys σ H → g x σ H fun σ2 H2 => tb { D with nx := Pv (i + 1), ct := Pv (i + 1), bk := D.nx } ys σ2 H2) (hd : ∀ ys σ H, Pv xs.length ys σ H → D.nx ys σ H) :
    ∃ W : Nat → Nat → List V → L2.St → Hp → Prop, (∃ m, W 0 m ys σ H) ∧ ∀ i m ys σ H, W i m ys σ H →
      ((Itl K a).stop i H ∧ D.nx ys σ H) ∨ ((Itl K a).go i H ∧ ∃ N : List V → L2.St → Hp → Prop, (∀ ys' σ' H', N ys' σ' H' → ∃ m', m' < m ∧ W (i + 1) m' ys' σ' H') ∧ ∀ x H', (Itl K a).yld i H x H' → g x σ H' fun σ2 H2 => tb { D with nx := N, ct := N, bk := D.nx } ys σ2 H2) := by
  refine ⟨fun i m ys σ H => m = xs.length - i ∧ i ≤ xs.length ∧ Pv i ys σ H, ⟨xs.length, by simp, Nat.zero_le _, h0⟩, ?_⟩
  rintro i m ys σ H ⟨rfl, hi, p⟩
  have q := hl i ys σ H hi p
  by_cases hlt : i < xs.length
  · refine .inr ⟨⟨xs, xs[i], q, by simp [hlt]⟩, Pv (i + 1), fun ys' σ' H' p' => ⟨xs.length - (i + 1), by omega, rfl, hlt, p'⟩, fun x H' y => ?_⟩
    obtain ⟨e, y⟩ := y
    subst e
    exact hs i x ys σ _ (y xs q) p
  · have e : i = xs.length := by omega
    subst e
    exact .inl ⟨⟨xs, q, Nat.le_refl _⟩, hd ys σ H p⟩
theorem zfor_vals {d : Addr} {o : Obj} {kvs : List (Key × V)} {g : TG} {tb : TZn} {D : ZEnds} {ys : List V} {σ : L2.St} {H : Hp} (Pv : Nat → List V → L2.St → Hp → Prop) (h0 : Pv 0 ys σ H) (hl : ∀ i ys σ H, i ≤ kvs.length → Pv i ys σ H → H d = some (.frz o (.dK kvs)))
    (hs : ∀ i k x ys σ H, kvs[i]? = some (k, x) → Pv i ys σ H → g x σ H fun σ2 H2 => tb { D with nx := Pv (i + 1), ct := Pv (i + 1), bk := D.nx } ys σ2 H2) (hd : ∀ ys σ H, Pv kvs.length ys σ H → D.nx ys σ H) :
    ∃ W : Nat → Nat → List V → L2.St → Hp → Prop, (∃ m, W 0 m ys σ H) ∧ ∀ i m ys σ H, W i m ys σ H →
      ((Itd d o kvs).stop i H ∧ D.nx ys σ H) ∨ ((Itd d o kvs).go i H ∧ ∃ N : List V → L2.St → Hp → Prop, (∀ ys' σ' H', N ys' σ' H' → ∃ m', m' < m ∧ W (i + 1) m' ys' σ' H') ∧ ∀ x H', (Itd d o kvs).yld i H x H' → g x σ H' fun σ2 H2 => tb { D with nx := N, ct := N, bk := D.nx } ys σ2 H2) := by
  refine ⟨fun i m ys σ H => m = kvs.length - i ∧ i ≤ kvs.length ∧ Pv i ys σ H, ⟨kvs.length, by simp, Nat.zero_le _, h0⟩, ?_⟩
  rintro i m ys σ H ⟨rfl, hi, p⟩
  have q := hl i ys σ H hi p
  by_cases hlt : i < kvs.length
  · refine .inr ⟨⟨q, hlt⟩, Pv (i + 1), fun ys' σ' H' p' => ⟨kvs.length - (i + 1), by omega, rfl, hlt, p'⟩, fun x H' y => ?_⟩
    obtain ⟨e, k, y⟩ := y
    subst e
    exact hs i k x ys σ _ y p
  · have e : i = kvs.length := by omega
    subst e
    exact .inl ⟨⟨q, Nat.le_refl _⟩, hd ys σ H p⟩
/-! ### a op b op c op d, as a test -/
def tChain3 (r r' r'' : R2) (ta tb tc td : TE) : TE := fun σ H Q => ta σ H fun x H1 => tb σ H1 fun y H2 => r x y H2 fun z H3 => ∃ k, z = .bl k ∧
  (if k = true then tc σ H3 fun u H4 => r' y u H4 fun z2 H5 => ∃ k2, z2 = .bl k2 ∧ (if k2 = true then td σ H5 fun v H6 => r'' u v H6 Q else Q (.bl false) H5) else Q (.bl false) H3)
section
variable {X : Cx} {a b c d : Expr} {ta tb tc td : TE} {pos : Pos}
theorem pt_chain3 {op op' op'' : CmpOp} {r r' r'' : R2} (ho : OpR X (compareOp op) r) (ho' : OpR X (compareOp op') r') (ho'' : OpR X (compareOp op'') r'') (ha : PE X a ta) (hb : PE X b tb) (hc : PE X c tc) (hd : PE X d td)
    (hm : lastMarks [op, op', op''] [b, c, d] = false := by with_unfolding_all rfl) : PT X (.Compare a [op, op', op''] [b, c, d] pos) (tTest (tChain3 r r' r'' ta tb tc td)) := by
  refine ⟨fun pins s σ H Q I h => ?_⟩
  refine isTrue_chain (thn (ha.run pins s σ H _ I h) fun v s1 ⟨x, H1, I1, r1, q1⟩ => test_link (thn (hb.run pins s1 σ H1 _ I1 q1) fun u s2 ⟨y, H2, I2, r2, q2⟩ =>
    thn (ho pins s2 σ H2 x y v u _ I2 r1 r2 q2) fun d s3 ⟨z, H3, I3, r3, k, e, q3⟩ => ?_)) hm
  subst e
  cases r3
  refine wpAny_truthy_bool ?_
  cases k with
  | false =>
    obtain ⟨k', e', q'⟩ := q3
    cases e'
    exact ite_ff ⟨H3, I3, q'⟩
  | true =>
    refine ite_tt (test_link (thn (hc.run pins s3 σ H3 _ I3 q3) fun w' s4 ⟨z', H4, I4, r4, q4⟩ => thn (ho' pins s4 σ H4 y z' u w' _ I4 r2 r4 q4) fun d' s5 ⟨z2, H5, I5, r5, k2, e2, q5⟩ => ?_))
    subst e2
    cases r5
    refine wpAny_truthy_bool ?_
    cases k2 with
    | false =>
      obtain ⟨k', e', q'⟩ := q5
      cases e'
      exact ite_ff ⟨H5, I5, q'⟩
    | true =>
      refine ite_tt (test_last (thn (hd.run pins s5 σ H5 _ I5 q5) fun w6 s6 ⟨z6, H6, I6, r6, q6⟩ => thn (ho'' pins s6 σ H6 z' z6 w' w6 _ I6 r4 r6 q6) fun d7 s7 ⟨z7, H7, I7, r7, k7, e7, q7⟩ => ?_))
      subst e7
      cases r7
      exact wpAny_truthy_bool ⟨H7, I7, q7⟩
end
end GZ

/-! ## pairs of tuples of ints; sorted(xs) of them -/
namespace My
open PySem PySem.Spec PyProof.Rows L2
/-- the pairs that are told, each a new tuple of two -/
inductive PT2 (H : Hp) : List Addr → List (List Int × List Int) → Prop
  | nil : PT2 H [] []
  | cons {q a b : Addr} {x y : List Int} {qs : List Addr} {ps : List (List Int × List Int)} : H q = some (.tup [.ref a, .ref b]) → H a = some (.tup (fI x)) → H b = some (.tup (fI y)) → PT2 H qs ps → PT2 H (q :: qs) ((x, y) :: ps)
theorem PT2.keep {H H' : Hp} {qs : List Addr} {ps : List (List Int × List Int)} (h : PT2 H qs ps) (e : ∀ b ys, H b = some (.tup ys) → H' b = some (.tup ys)) : PT2 H' qs ps := by
  induction h with
  | nil => exact .nil
  | cons a b c _ ih => exact .cons (e _ _ a) (e _ _ b) (e _ _ c) ih
theorem PT2.same {H H' : Hp} {qs : List Addr} {ps : List (List Int × List Int)} (h : PT2 H qs ps) (e : Same H H') : PT2 H' qs ps := h.keep fun _ _ z => e _ _ z
theorem PT2.snoc {H : Hp} {q a b : Addr} {x y : List Int} {qs : List Addr} {ps : List (List Int × List Int)} (h : PT2 H qs ps) (h1 : H q = some (.tup [.ref a, .ref b])) (h2 : H a = some (.tup (fI x))) (h3 : H b = some (.tup (fI y))) : PT2 H (qs ++ [q]) (ps ++ [(x, y)]) := by
  induction h with
  | nil => exact .cons h1 h2 h3 .nil
  | cons a b c _ ih => exact .cons a b c ih
theorem PT2.length {H : Hp} {qs : List Addr} {ps : List (List Int × List Int)} (h : PT2 H qs ps) : qs.length = ps.length := by
  induction h with
  | nil => rfl
  | cons a b c _ ih => rw [List.length_cons, List.length_cons, ih]
theorem PT2.get {H : Hp} {qs : List Addr} {ps : List (List Int × List Int)} (h : PT2 H qs ps) : ∀ {i : Nat} {v : V}, (qs.map V.ref)[i]? = some v → ∃ q a b x y, v = .ref q ∧ ps[i]? = some (x, y) ∧ H q = some (.tup [.ref a, .ref b]) ∧ H a = some (.tup (fI x)) ∧ H b = some (.tup (fI y)) := by
  induction h with
  | nil =>
    intro i v h
    simp at h
  | cons a b c _ ih =>
    intro i v h
    cases i with
    | zero =>
      simp at h
      exact ⟨_, _, _, _, _, h.symm, rfl, a, b, c⟩
    | succ i =>
      simp only [List.map_cons, List.getElem?_cons_succ] at h ⊢
      exact ih h
/-! ### the order of tuples of ints, as a number -/
theorem lex_code {B : Int} : ∀ {x y : List Int}, x.length = y.length → TS.Bd B x → TS.Bd B y → HT.lexLt x y = decide (TS.code B x < TS.code B y)
  | [], [], _, _, _ => by
    rw [decide_eq_false (Int.lt_irrefl _)]
    rfl
  | [], _ :: _, h, _, _ => by cases h
  | _ :: _, [], h, _, _ => by cases h
  | a :: x, b :: y, h, h1, h2 => by
    have hl : x.length = y.length := by simpa using h
    rw [HT.lexLt_cons]
    by_cases e : a = b
    · subst e
      rw [if_pos rfl, lex_code hl h1.tail h2.tail]
      exact decide_eq_decide.mpr (TS.code_same hl).symm
    · rw [if_neg e]
      refine decide_eq_decide.mpr ⟨fun z => TS.code_lt hl h1.tail h2.tail z, fun z => ?_⟩
      rcases Int.lt_trichotomy a b with y1 | y1 | y1
      · exact y1
      · exact absurd y1 e
      · have := TS.code_lt hl.symm h2.tail h1.tail y1
        omega
theorem code_app {B : Int} : ∀ (x u : List Int), TS.code B (x ++ u) = TS.code B x * B ^ u.length + TS.code B u
  | [], u => by
    show TS.code B u = 0 * B ^ u.length + TS.code B u
    rw [Int.zero_mul, Int.zero_add]
  | a :: x, u => by
    show a * B ^ (x ++ u).length + TS.code B (x ++ u) = (a * B ^ x.length + TS.code B x) * B ^ u.length + TS.code B u
    rw [code_app x u, List.length_append, Int.pow_add, Int.add_mul, ← Int.mul_assoc]
    omega
theorem bd_app {B : Int} {x u : List Int} (h1 : TS.Bd B x) (h2 : TS.Bd B u) : TS.Bd B (x ++ u) := fun m hm => (List.mem_append.mp hm).elim (h1 m) (h2 m)
/-- a pair as one list -/
def cat2 (p : List Int × List Int) : List Int := p.1 ++ p.2
def Ok33 (B : Int) (p : List Int × List Int) : Prop := (p.1.length = 3 ∧ TS.Bd B p.1) ∧ p.2.length = 3 ∧ TS.Bd B p.2
theorem Ok33.cat {B : Int} {p : List Int × List Int} (h : Ok33 B p) : (cat2 p).length = 6 ∧ TS.Bd B (cat2 p) := ⟨by
  unfold cat2
  rw [List.length_append, h.1.1, h.2.1], bd_app h.1.2 h.2.2⟩
theorem cat2_inj {B : Int} {p q : List Int × List Int} (h1 : Ok33 B p) (h2 : Ok33 B q) (e : cat2 p = cat2 q) : p = q := by
  have e' := List.append_inj e (by rw [h1.1.1, h2.1.1])
  exact Prod.ext e'.1 e'.2
theorem itemsInt {P : Program} {w : World} : ∀ {vs : List Value} {ns : List Int}, IntsAre vs ns → ItemsAre (PySem.intKind P w) ns vs := fun {vs ns} h => by
  induction h with
  | nil => exact .nil
  | cons p t _ ih => exact .cons (by show Value.isInt p (.int p t) = true; first | rfl | simp [Value.isInt] | decide) ih
theorem isT_of {P : Program} {w : World} {h : Heap} {a : Addr} {items : Array Value} {ns : List Int} (t : IsTup h a items) (i : IntsAre items.toList ns) : IsTupleKey (PySem.intKind P w) h ns a := by
  obtain ⟨o, ho, hc, n, hd⟩ := t
  exact ⟨o, items, n, ho, hc, hd, itemsInt i⟩
/-- v is a pair of tuples of ints -/
def PairT (h : Heap) (v : Value) (p : List Int × List Int) : Prop := ∃ q a b : Addr, v = .ref q ∧ IsTup h q #[.ref a, .ref b] ∧ TS.TupInts h (.ref a) p.1 ∧ TS.TupInts h (.ref b) p.2
theorem PairT.keeps {h h' : Heap} {v : Value} {p : List Int × List Int} (x : PairT h v p) (k : ∀ b o, h.get? b = some o → o.cls = .type "tuple" → h'.get? b = some o) : PairT h' v p := by
  obtain ⟨q, a, b, e, ⟨o, ho, hc, n⟩, h1, h2⟩ := x
  exact ⟨q, a, b, e, ⟨o, k _ _ ho hc, hc, n⟩, h1.keeps k, h2.keeps k⟩
theorem firstsP {h : Heap} {k : Value → List Int × List Int} : ∀ vs : List Value, (∀ v ∈ vs, PairT h v (k v)) → ∃ fs : List Value, PySem.W.KatTups h vs fs ∧ fs.length = vs.length ∧ ∀ f ∈ fs, ∃ (q : Addr) (o : Obj), f = Value.ref q ∧ h.get? q = some o ∧ o.cls = .type "tuple"
  | [], _ => ⟨[], PySem.W.KatTups.nil, rfl, fun f hf => by simp at hf⟩
  | v :: vs, x => by
    obtain ⟨fs, kk, hl, hi⟩ := firstsP vs fun u hu => x u (List.mem_cons_of_mem _ hu)
    obtain ⟨q, a, b, rfl, ⟨o, ho, hc, n, hd⟩, ⟨a2, xs2, e2, ⟨o2, ho2, hc2, _⟩, _⟩, _⟩ := x v (List.mem_cons_self ..)
    cases e2
    refine ⟨.ref a :: fs, PySem.W.KatTups.cons ho hc hd rfl kk, by rw [List.length_cons, List.length_cons, hl], fun f hf => ?_⟩
    rcases List.mem_cons.mp hf with rfl | hf
    · exact ⟨a, o2, rfl, ho2, hc2⟩
    · exact hi f hf
/-- which of two pairs is less, by the code of both lists in a row -/
def codeP (B : Int) (p : List Int × List Int) : Int := TS.code B (cat2 p)
theorem codeP_eq {B : Int} {p : List Int × List Int} (hp : Ok33 B p) : codeP B p = TS.code B p.1 * B ^ 3 + TS.code B p.2 := by
  unfold codeP cat2
  rw [code_app, hp.2.1]
theorem cat_lt {B : Int} {p q : List Int × List Int} (hp : Ok33 B p) (hq : Ok33 B q) (h : TS.code B p.1 < TS.code B q.1) : codeP B p < codeP B q := by
  rw [codeP_eq hp, codeP_eq hq]
  obtain ⟨c0, c1⟩ := TS.code_bd p.2 hp.2.2
  obtain ⟨g0, g1⟩ := TS.code_bd q.2 hq.2.2
  rw [hp.2.1] at c1
  exact TS.num2 c0 c1 g0 h
theorem codeP_lt1 {B : Int} {p q : List Int × List Int} (hp : Ok33 B p) (hq : Ok33 B q) (e : p.1 ≠ q.1) : HT.lexLt p.1 q.1 = decide (codeP B p < codeP B q) := by
  rw [lex_code (by rw [hp.1.1, hq.1.1]) hp.1.2 hq.1.2]
  rcases Int.lt_trichotomy (TS.code B p.1) (TS.code B q.1) with h | h | h
  · rw [decide_eq_true h, decide_eq_true (cat_lt hp hq h)]
  · exact absurd (code_inj hp.1.1 hq.1.1 hp.1.2 hq.1.2 h) e
  · have h' := cat_lt hq hp h
    rw [decide_eq_false (by omega), decide_eq_false (by omega)]
theorem codeP_lt2 {B : Int} {p q : List Int × List Int} (hp : Ok33 B p) (hq : Ok33 B q) (e : p.1 = q.1) : HT.lexLt p.2 q.2 = decide (codeP B p < codeP B q) := by
  rw [lex_code (by rw [hp.2.1, hq.2.1]) hp.2.2 hq.2.2, codeP_eq hp, codeP_eq hq, e]
  exact decide_eq_decide.mpr ⟨fun h => by omega, fun h => by omega⟩
theorem codeP_inj {B : Int} {p q : List Int × List Int} (hp : Ok33 B p) (hq : Ok33 B q) (e : codeP B p = codeP B q) : p = q := cat2_inj hp hq (code_inj hp.cat.1 hq.cat.1 hp.cat.2 hq.cat.2 e)
/-- a pair, read off the heap -/
def pairV (H : Hp) (v : V) : List Int × List Int := match v with
  | .ref q => match H q with
    | some (.tup [a, b]) => (intsV H a, intsV H b)
    | _ => ([], [])
  | _ => ([], [])
theorem pairV_of {H : Hp} {q a b : Addr} {x y : List Int} (h : H q = some (.tup [.ref a, .ref b])) (h1 : H a = some (.tup (fI x))) (h2 : H b = some (.tup (fI y))) : pairV H (.ref q) = (x, y) := by
  show (match H q with
    | some (.tup [a, b]) => (intsV H a, intsV H b)
    | _ => ([], [])) = (x, y)
  rw [h]
  show (intsV H (.ref a), intsV H (.ref b)) = (x, y)
  rw [intsV_of h1, intsV_of h2]
theorem PT2.mem {H : Hp} {qs : List Addr} {ps : List (List Int × List Int)} (h : PT2 H qs ps) : ∀ q ∈ qs, ∃ p ∈ ps, ∃ a b, H q = some (.tup [.ref a, .ref b]) ∧ H a = some (.tup (fI p.1)) ∧ H b = some (.tup (fI p.2)) := by
  induction h with
  | nil => exact fun _ h => absurd h (by simp)
  | cons h1 h2 h3 _ ih =>
    intro q hq
    rcases List.mem_cons.mp hq with rfl | hq
    · exact ⟨_, List.mem_cons_self, _, _, h1, h2, h3⟩
    · obtain ⟨p, hp, r⟩ := ih q hq
      exact ⟨p, List.mem_cons_of_mem _ hp, r⟩
theorem PT2.vals {H : Hp} {qs : List Addr} {ps : List (List Int × List Int)} (h : PT2 H qs ps) : ps = qs.map fun q => pairV H (.ref q) := by
  induction h with
  | nil => rfl
  | cons h1 h2 h3 _ ih => rw [List.map_cons, pairV_of h1 h2 h3, ← ih]
theorem pt2_of {H : Hp} : ∀ {qs : List Addr}, (∀ q ∈ qs, ∃ (p : List Int × List Int) (a b : Addr), H q = some (.tup [.ref a, .ref b]) ∧ H a = some (.tup (fI p.1)) ∧ H b = some (.tup (fI p.2))) → PT2 H qs (qs.map fun q => pairV H (.ref q))
  | [], _ => .nil
  | q :: qs, h => by
    obtain ⟨p, a, b, h1, h2, h3⟩ := h q List.mem_cons_self
    rw [List.map_cons, pairV_of h1 h2 h3]
    exact .cons h1 h2 h3 (pt2_of fun u hu => h u (List.mem_cons_of_mem _ hu))
def rSortP (K : PySem.W.Frag) (B : Int) : List V → Hp → VK → Prop := fun vs H Q => ∃ (a : Addr) (qs : List Addr) (ps : List (List Int × List Int)), vs = [V.ref a] ∧ SqL K H a (qs.map V.ref) ∧ PT2 H qs ps ∧ (∀ p ∈ ps, Ok33 B p) ∧
  ∀ qs' ps' z, PT2 H qs' ps' → ps'.Perm ps → ps'.Pairwise (fun x y => codeP B x ≤ codeP B y) → H z = none → Q (.ref z) (upd H z (.lst (qs'.map V.ref)))
theorem cr_sortP {X : Cx} {B : Int} (hu : X.A.units + 64 < cLine) : CallR X (.builtin "sorted") (rSortP X.K B) := by
  intro pins s σ H vs us Q I r h
  obtain ⟨a, qs, ps, rfl, hs, tu, hb, q⟩ := h
  obtain ⟨its, rv, hl, hz⟩ := I.list hs
  obtain ⟨u, rfl, ru⟩ := vals1 r
  obtain rfl : u = Value.ref a := ru
  obtain ⟨e1, e2⟩ := refs_back rv fun x m => by
    obtain ⟨t, _, e⟩ := List.mem_map.mp m
    exact ⟨t, e.symm⟩
  have key : ∀ v ∈ its, ∃ p, v = Value.ref p ∧ p ∈ qs := fun v hv => by
    obtain ⟨t, rfl⟩ := e2 v hv
    have hm : V.ref t ∈ qs.map V.ref := by rw [e1]; exact List.mem_map.mpr ⟨_, hv, rfl⟩
    obtain ⟨p, hp, e⟩ := List.mem_map.mp hm
    cases e
    exact ⟨t, rfl, hp⟩
  have ti : ∀ {b : Addr} {x : List Int}, H b = some (.tup (fI x)) → TS.TupInts s.heap (.ref b) x := fun {b x} hb' => by
    obtain ⟨its2, r2, pt, _⟩ := I.tuple (SqT.of hb')
    exact ⟨b, its2.toArray, rfl, pt, intsAre_of r2⟩
  have tin : ∀ v ∈ its, PairT s.heap v (pairV H (backV v)) ∧ Ok33 B (pairV H (backV v)) := fun v hv => by
    obtain ⟨p, rfl, hp⟩ := key v hv
    obtain ⟨xy, hm, a, b, h1, h2, h3⟩ := tu.mem p hp
    have ei : pairV H (backV (Value.ref p)) = xy := pairV_of h1 h2 h3
    rw [ei]
    obtain ⟨its2, r2, pt, _⟩ := I.tuple (SqT.of h1)
    obtain ⟨u1, u2, rfl, r1, r3⟩ := vals2 r2
    obtain rfl : u1 = Value.ref a := r1
    obtain rfl : u2 = Value.ref b := r3
    exact ⟨⟨p, a, b, rfl, pt, ti h2, ti h3⟩, hb _ hm⟩
  refine SrtO.sorted_ord (ltv := fun v u => decide (codeP B (pairV H (backV v)) < codeP B (pairV H (backV u)))) (swoC fun v => codeP B (pairV H (backV v))) hl.isList (by rw [← rv.length]; exact hz) (fun h2 h₁ a' ha' kk => ?_) fun out h1 h2 => ?_
  · intro h' keep
    have keep2 : ∀ b o, s.heap.get? b = some o → o.cls = .type "tuple" → h'.get? b = some o := fun b o e c => keep b o (kk b o e).1 (kk b o e).2
    have tin' : ∀ v ∈ its, PairT h' v (pairV H (backV v)) ∧ Ok33 B (pairV H (backV v)) := fun v hv => let ⟨x, y⟩ := tin v hv; ⟨x.keeps keep2, y⟩
    obtain ⟨fs, k1, k2, k3⟩ := firstsP (h := h') (k := fun v => pairV H (backV v)) its fun v hv => (tin' v hv).1
    refine ⟨tuples' false, fun Q E hq => ?_, ?_⟩
    · refine PySem.W.kat_kind (T := .type "tuple") k1 (by omega) (fun f hm => ?_) (by rfl) ?_
      · obtain ⟨q, o, rfl, ho, hc⟩ := k3 f hm
        have z : PySem.W.Looks (model X.prog X.w) h' (typeOf (.ref q)) o.cls := (PySem.W.Looks.ld ho).andThen .now
        rw [hc] at z
        exact z
      · have e : (Value.type "tuple" != Value.type "tuple") = false := by first | decide +kernel | rfl | decide
        rw [e]
        exact hq
    · intro p q hm hm'
      obtain ⟨⟨q1, a1, b1, x1, ⟨o1, ho1, hc1, n1, hd1⟩, ⟨a1', xs, x1', t1, i1⟩, ⟨b1', xs', x1'', t1', i1'⟩⟩, k1⟩ := tin' _ hm
      obtain ⟨⟨q2, a2, b2, x2, ⟨o2, ho2, hc2, n2, hd2⟩, ⟨a2', ys, x2', t2, i2⟩, ⟨b2', ys', x2'', t2', i2'⟩⟩, k2⟩ := tin' _ hm'
      cases x1'
      cases x1''
      cases x2'
      cases x2''
      show wpAny _ _ (keyLt' _ p.1 q.1) (fun r s' => s' = _ ∧ r = decide (codeP B (pairV H (backV p.1)) < codeP B (pairV H (backV q.1)))) (fun _ _ => False) _
      generalize pairV H (backV p.1) = P at *
      generalize pairV H (backV q.1) = R at *
      rw [x1, x2]
      refine PySem.W.kat_lt ho1 hd1 ho2 hd2 ?_
      have hu1 : X.A.in1.in1.units < cLine := by
        show X.A.units + 1 + 1 < cLine
        omega
      show PySem.W.KatLex X.prog X.w X.A.in1.in1 false false _ [(Value.ref a1, Value.ref a2), (Value.ref b1, Value.ref b2)] 0 _
      refine PySem.W.kat_cons (wpAny_eqBool_tuple hu1 (isT_of t1 i1) (isT_of t2 i2) ?_)
      refine PySem.W.kat_go (fun e0 => ?_) (fun e0 => ?_)
      · have e := of_decide_eq_true e0
        refine PySem.W.kat_yes (PySem.W.kat_cons (wpAny_eqBool_tuple hu1 (isT_of t1' i1') (isT_of t2' i2') ?_))
        refine PySem.W.kat_go (fun e1 => ?_) (fun e1 => ?_)
        · have e' := of_decide_eq_true e1
          refine PySem.W.kat_yes (PySem.W.kat_nil ⟨rfl, ?_⟩)
          have : P = R := Prod.ext e e'
          rw [this]
          exact (decide_eq_false (Int.lt_irrefl _)).symm
        · refine PySem.W.kat_no ?_
          show wpAny _ _ (oneLt' false _ _) _ _ _
          exact PySem.W.kat_one _ _ (HT.lt_tupInts t1' t2' i1' i2' hu1 ⟨rfl, codeP_lt2 k1 k2 e⟩)
      · have e := of_decide_eq_false e0
        refine PySem.W.kat_no ?_
        show wpAny _ _ (oneLt' false _ _) _ _ _
        exact PySem.W.kat_one _ _ (HT.lt_tupInts t1 t2 i1 i2 hu1 ⟨rfl, codeP_lt1 k1 k2 e⟩)
  · obtain ⟨ep, he'⟩ := PyProof.Rows.sortedAll_at s.heap its out.toArray
    have h3 : ∀ u ∈ out, ∃ p, u = Value.ref p ∧ p ∈ qs := fun u hu => key u (h2.perm.mem_iff.mp hu)
    have eo : out.map backV = (out.map fun u => match u with
      | Value.ref a => a
      | _ => 0).map V.ref := by
      rw [List.map_map]
      refine List.map_congr_left fun u hu => ?_
      obtain ⟨p, rfl, _⟩ := h3 u hu
      rfl
    have hp : (out.map backV).Perm (qs.map V.ref) := by
      rw [e1]
      exact h2.perm.map backV
    have hlen : (out.map backV).length ≤ sizeLine := by
      rw [hp.length_eq]
      exact hz
    generalize eps : (out.map fun u => match u with
      | Value.ref a => a
      | _ => 0) = qs' at eo
    have pp : qs'.Perm qs := by
      rw [eo] at hp
      have z := hp.map fun v => match v with
        | V.ref a => a
        | _ => 0
      rw [List.map_map, List.map_map] at z
      have id1 : ∀ l : List Addr, l.map ((fun v => match v with
        | V.ref a => a
        | _ => 0) ∘ V.ref) = l := fun l => by
        induction l with
        | nil => rfl
        | cons x l ih => rw [List.map_cons, ih]; rfl
      rw [id1, id1] at z
      exact z
    have tu' : PT2 H qs' (qs'.map fun p => pairV H (.ref p)) := pt2_of fun p hp => by
      obtain ⟨r, _, e⟩ := tu.mem p (pp.mem_iff.mp hp)
      exact ⟨r, e⟩
    have pw : (qs'.map fun p => pairV H (.ref p)).Pairwise (fun x y => codeP B x ≤ codeP B y) := by
      have z : (out.map backV).Pairwise (fun x y => codeP B (pairV H x) ≤ codeP B (pairV H y)) := List.pairwise_map.mpr (h1.imp fun {x y} h => Int.not_lt.mp (of_decide_eq_false h))
      rw [eo] at z
      rw [List.pairwise_map] at z ⊢
      exact z
    rw [eo] at hlen
    refine ⟨.ref _, upd H (s.heap.objs.size + 1) (.lst (qs'.map V.ref)), I.laid (t' := s.toks) (fun _ _ => PyProof.Rows.sortedAll_old) (Nat.le_succ _) ⟨hlen, out, ep, ?_, he'⟩, rfl, q qs' _ _ tu' ?_ pw (I.hok.fresh (Nat.le_succ _))⟩
    · rw [← eo]
      exact vals_back fun u hu => by
        obtain ⟨p, e, _⟩ := h3 u hu
        exact ⟨p, e⟩
    · rw [tu.vals]
      exact pp.map _
/-- of the pairs in a row by their codes and none twice there is just one list -/
theorem codeP_uniq {B : Int} {ps rs : List (List Int × List Int)} (hp : ∀ p ∈ ps, Ok33 B p) (h : ps.Perm rs) (h1 : ps.Pairwise fun x y => codeP B x ≤ codeP B y) (h2 : rs.Pairwise fun x y => codeP B x ≤ codeP B y) : ps = rs :=
  h.eq_of_pairwise (fun x y hx hy a b => codeP_inj (hp x hx) (hp y (h.mem_iff.mpr hy)) (Int.le_antisymm a b)) h1 h2
end My

/-! ### an own exception without fields: raised, asked -/
namespace EXN
open PySem PySem.Spec PyProof.Rows L2
section
variable {X : Cx} {pins : List (Addr × Obj)} {σ : L2.St}
theorem mk_endN {H1 : Hp} {hp hp2 h2 : Heap} {g1 g2 : Array GenState} {d1 d2 : Drawn} {t1 t2 : Nat} {os1 os2 : OsState} {a C : Addr} (I1 : Inv X pins σ H1 ⟨hp, g1, d1, t1, os1⟩)
    (ha : hp.objs.size ≤ a) (k : ∀ b o, hp.get? b = some o → hp2.get? b = some o) (un : Un (frs X.stack) [] (upd H1 a (exo a C none)) (upd H1 a (exo a C none)) hp2 h2) (hok : HOk X.prog X.w (upd H1 a (exo a C none)) h2) (ho : os2 = os1) (hb : AllBare g2) :
    ∃ (t0 : Addr) (G : Heap), Inv X pins σ H1 ⟨G, g2, d2, t2, os2⟩ ∧ (∀ b o, G.get? b = some o → h2.get? b = some o) ∧ G.get? a = none ∧
      h2.get? a = some ({ cls := .ref C, dict := none, data := .fields #[.ref t0, .none, .none, .none, .bool false, .none] } : Obj) ∧ H1 a = none := by
  obtain ⟨t0, hoe⟩ := exo_at hok upd_same
  have hn : H1 a = none := I1.hok.fresh ha
  obtain ⟨G, g1', g2'⟩ := restrict h2 fun b => decide (b ≠ a)
  have gk : ∀ b, b ≠ a → G.get? b = h2.get? b := fun b hb => g1' b (decide_eq_true hb)
  have ge : G.get? a = none := g2' a (by simp)
  have nha : ∀ {b : Addr} {o : Obj}, hp.get? b = some o → b ≠ a := fun {b o} z => Nat.ne_of_lt (Nat.lt_of_lt_of_le (Heap.lt_size z) ha)
  have up : ∀ {b : Addr}, b ≠ a → H1 b = none → upd H1 a (exo a C none) b = none := fun {b} hb n => by rw [upd_ne hb]; exact n
  have U : Un (frs X.stack) [] H1 H1 hp G := {
    keep := fun b o z n hf hx => by
      rw [gk b (nha z)]
      exact un.keep b o (k b o z) (up (nha z) n) hf hx
    slot := fun b o z n hf hx => by
      rw [gk b (nha z)]
      exact un.slot b o (k b o z) (up (nha z) n) hf hx
    free := fun b o z n hx => n
    there := fun b o z hx => by
      rw [gk b (nha z)]
      exact un.there b o (k b o z) hx
    tups := fun b xs z => z
    frzs := fun b o v z => z
    tbls := fun b ps z => ⟨#[], by rw [z]; simp⟩ }
  have hok3 : HOk X.prog X.w H1 G := fun b o z => by
    have hba : b ≠ a := ne_of_none z hn
    have z' : upd H1 a (exo a C none) b = some o := by rw [upd_ne hba]; exact z
    refine (hok b o z').stay (fun c v hc y => ?_) (fun c hc => ?_) (fun c xs hc => ?_)
    · have hca : c ≠ a := by
        rcases hc with hc | hc
        · rw [hc]
          exact hba
        · exact at_ne (upd_same (H := H1) (o := exo a C none)) hc exo_own
      rw [gk c hca]
      exact y
    · have hca : c ≠ a := at_ne (upd_same (H := H1) (o := exo a C none)) hc exo_own
      rw [upd_ne hca] at hc
      exact hc
    · have hca : c ≠ a := at_ne (upd_same (H := H1) (o := exo a C none)) hc exo_tup
      rw [upd_ne hca] at hc
      exact hc
  have J : Inv X pins σ H1 ⟨G, g2, d2, t2, os2⟩ := I1.call' (ch := []) ho U hok3 hb (fun b z => absurd z (by simp))
  refine ⟨t0, G, J, fun b o z => ?_, ge, hoe, hn⟩
  by_cases hba : b = a
  · rw [hba, ge] at z
    cases z
  · exact (gk b hba).symm.trans z
/-- C(), C an exception class whose own __init__ does nothing -/
theorem pmk_oex0 {CX : CXT} {x : Str} {C fI : Addr} {k : Nat} {fd : FuncData} {sp : Sp} {p pos : Pos} (T : OexC X.K C) (iC : PySem.W.findIn X.K (.ref C) "__init__" = some (some (.ref fI))) (tI : PySem.W.typeIn X.K (.ref fI) = some (.type "function"))
    (F1 : FnOk X.prog X.w X.K X.mg X.base CX k fI fd ["self"] sp) (hsp : ∀ (a : Addr) (H : Hp) (Q : VK) (E : XK), Q .non H → sp [.ref a] H Q E) (hr : Room (k + 1) X.A) (hb : Binds X.K fd ["self"] []) (hx : Passes CX X (fun _ _ _ => False)) (hg : Gl X x) (hm : X.mg x = some (.ref C))
    (hdb : (x == ("__debug__" : Str)) = false := by decide) :
    PMk X (.Call (.Name x p) [] [] pos) (fun _ H Q => Q (.ref C) none H) := by
  intro pins s σ H Q I h
  obtain ⟨nm, q, N, bs, bm, sn, sub, ab, col, dd, k0, k1, k2, k3, k5, hC, hbm⟩ := T.cls
  refine wpAny_Call_Name_kw (ld_glob I hg hm ?_ hdb)
  refine PySem.W.callWith_K0 I.kIn T.kC ?_
  show wpAny _ _ (call (.ref C) []) _ _ _
  obtain ⟨hp, g, dr, tk, os⟩ := s
  have hsz : hp.objs.size ≤ hp.objs.size + 1 := Nat.le_succ _
  have kk : ∀ b o, hp.get? b = some o → ((hp.push (PySem.W.kdv_tup [])).push (PySem.HandSPX.excO C hp.objs.size)).get? b = some o := fun b o e => Heap.get?_push_of_some _ (Heap.get?_push_of_some _ e)
  have hget : ((hp.push (PySem.W.kdv_tup [])).push (PySem.HandSPX.excO C hp.objs.size)).get? (hp.objs.size + 1) = some (PySem.HandSPX.excO C hp.objs.size) := by heap_get
  have I2 : Inv X pins σ (upd H (hp.objs.size + 1) (exo (hp.objs.size + 1) C none)) ⟨(hp.push (PySem.W.kdv_tup [])).push (PySem.HandSPX.excO C hp.objs.size), g, dr, tk, os⟩ :=
    I.laid (t' := tk) (a := hp.objs.size + 1) (o := exo (hp.objs.size + 1) C none) (h' := (hp.push (PySem.W.kdv_tup [])).push (PySem.HandSPX.excO C hp.objs.size)) kk hsz (exo_ok hget)
  have r2 : Vals [V.ref (hp.objs.size + 1)] [Value.ref (hp.objs.size + 1)] := .cons rfl .nil
  refine wpAny_call (PySem.HandSPX.call_own F.excBase_ValueError (fun Y => PySem.HandSPX.refsVE_contains Y bm hbm) (I.kIn _ _ hC) (PySem.W.looks_findIn I.kIn iC) (fun self => PySem.W.bind_fn I.kIn self tI) (Nat.zero_le _)
    (codeAny_mono (F1.run _ X.stack _ _ ⟨[Value.ref (hp.objs.size + 1)], []⟩ [Value.ref (hp.objs.size + 1)] _ (fun v H3 => v = .non ∧ H3 = upd H (hp.objs.size + 1) (exo (hp.objs.size + 1) C none)) (fun _ _ _ => False) (hr.make C [] []) (I2.env0.make C [] []) (hb _ [Value.ref (hp.objs.size + 1)] I2.kIn rfl) r2 (hsp _ _ _ _ ⟨rfl, rfl⟩)) fun r s' hq' => ?_))
  cases r with
  | error er => exact hx pins σ _ _ er s' I2 hq'
  | ok fl =>
    cases fl with
    | ret u =>
      obtain ⟨v, H2, os2, bare2, un2, hok2, rv, ev, eH⟩ := hq'
      subst ev
      subst eH
      obtain ⟨h2, g2, d2, t2, os'⟩ := s'
      refine ⟨rv, ?_⟩
      obtain ⟨t0, G, J, kG, ge, hoe, na⟩ := mk_endN (d2 := d2) (t2 := t2) I hsz kk un2 hok2 os2 bare2
      exact ⟨_, _, _, ⟨G, g2, d2, t2, os'⟩, _, .ref C, none, rfl, J, kG, ge, hoe, ⟨rfl, rfl⟩, rfl, rfl, na, rfl, bare2, raises_own T.exC T.tyC, h⟩
    | next => exact False.elim hq'
    | brk => exact False.elim hq'
    | cont => exact False.elim hq'
/-- the same, its context known to be None -/
theorem pmk_oex0N {CX : CXT} {x : Str} {C fI : Addr} {k : Nat} {fd : FuncData} {sp : Sp} {p pos : Pos} (T : OexC X.K C) (iC : PySem.W.findIn X.K (.ref C) "__init__" = some (some (.ref fI))) (tI : PySem.W.typeIn X.K (.ref fI) = some (.type "function"))
    (F1 : FnOk X.prog X.w X.K X.mg X.base CX k fI fd ["self"] sp) (hsp : ∀ (a : Addr) (H : Hp) (Q : VK) (E : XK), Q .non H → sp [.ref a] H Q E) (hr : Room (k + 1) X.A) (hb : Binds X.K fd ["self"] []) (hx : Passes CX X (fun _ _ _ => False)) (hg : Gl X x) (hm : X.mg x = some (.ref C))
    (hdb : (x == ("__debug__" : Str)) = false := by decide) :
    L2N.PMk X (.Call (.Name x p) [] [] pos) (fun _ H Q => Q (.ref C) none H) := by
  intro pins s σ H Q I h
  obtain ⟨nm, q, N, bs, bm, sn, sub, ab, col, dd, k0, k1, k2, k3, k5, hC, hbm⟩ := T.cls
  refine wpAny_Call_Name_kw (ld_glob I hg hm ?_ hdb)
  refine PySem.W.callWith_K0 I.kIn T.kC ?_
  show wpAny _ _ (call (.ref C) []) _ _ _
  obtain ⟨hp, g, dr, tk, os⟩ := s
  have hsz : hp.objs.size ≤ hp.objs.size + 1 := Nat.le_succ _
  have kk : ∀ b o, hp.get? b = some o → ((hp.push (PySem.W.kdv_tup [])).push (PySem.HandSPX.excO C hp.objs.size)).get? b = some o := fun b o e => Heap.get?_push_of_some _ (Heap.get?_push_of_some _ e)
  have hget : ((hp.push (PySem.W.kdv_tup [])).push (PySem.HandSPX.excO C hp.objs.size)).get? (hp.objs.size + 1) = some (PySem.HandSPX.excO C hp.objs.size) := by heap_get
  have I2 : Inv X pins σ (upd H (hp.objs.size + 1) (exo (hp.objs.size + 1) C none)) ⟨(hp.push (PySem.W.kdv_tup [])).push (PySem.HandSPX.excO C hp.objs.size), g, dr, tk, os⟩ :=
    I.laid (t' := tk) (a := hp.objs.size + 1) (o := exo (hp.objs.size + 1) C none) (h' := (hp.push (PySem.W.kdv_tup [])).push (PySem.HandSPX.excO C hp.objs.size)) kk hsz (exo_ok hget)
  have r2 : Vals [V.ref (hp.objs.size + 1)] [Value.ref (hp.objs.size + 1)] := .cons rfl .nil
  refine wpAny_call (PySem.HandSPX.call_own F.excBase_ValueError (fun Y => PySem.HandSPX.refsVE_contains Y bm hbm) (I.kIn _ _ hC) (PySem.W.looks_findIn I.kIn iC) (fun self => PySem.W.bind_fn I.kIn self tI) (Nat.zero_le _)
    (codeAny_mono (F1.run _ X.stack _ _ ⟨[Value.ref (hp.objs.size + 1)], []⟩ [Value.ref (hp.objs.size + 1)] _ (fun v H3 => v = .non ∧ H3 = upd H (hp.objs.size + 1) (exo (hp.objs.size + 1) C none)) (fun _ _ _ => False) (hr.make C [] []) (I2.env0.make C [] []) (hb _ [Value.ref (hp.objs.size + 1)] I2.kIn rfl) r2 (hsp _ _ _ _ ⟨rfl, rfl⟩)) fun r s' hq' => ?_))
  cases r with
  | error er => exact hx pins σ _ _ er s' I2 hq'
  | ok fl =>
    cases fl with
    | ret u =>
      obtain ⟨v, H2, os2, bare2, un2, hok2, rv, ev, eH⟩ := hq'
      subst ev
      subst eH
      obtain ⟨h2, g2, d2, t2, os'⟩ := s'
      refine ⟨rv, ?_⟩
      obtain ⟨t0, G, J, kG, ge, hoe, na⟩ := mk_endN (d2 := d2) (t2 := t2) I hsz kk un2 hok2 os2 bare2
      exact ⟨_, _, _, ⟨G, g2, d2, t2, os'⟩, _, .ref C, none, rfl, J, kG, ge, hoe, ⟨rfl, rfl, fun vs e => by cases e; rfl⟩, rfl, rfl, na, rfl, bare2, raises_own T.exC T.tyC, h⟩
    | next => exact False.elim hq'
    | brk => exact False.elim hq'
    | cont => exact False.elim hq'
/-- isinstance(e, c), e the caught exception without fields: of one of several classes -/
def rIsN (K : PySem.W.Frag) (cls : Value) (d : Option Addr) (a : Addr) : List V → Hp → VK → Prop := fun xs H Q => ∃ (D : Addr) (c : V) (cv : Value) (b : Bool), xs = [.ref a, c] ∧ cls = .ref D ∧ d = none ∧ ExcC K D ∧ ClsV c cv ∧ PySem.W.kitOne K (.ref D) cv = some b ∧ Q (.bl b) H
theorem call_isN {X : Cx} {a : Addr} {oe : Obj} {cls : Value} {d : Option Addr} {pn : List (Addr × Obj)} (hz : Zc cls d oe) (hf : ∃ vs, oe.data = .fields vs) : CallR (X.suite a ((a, oe) :: pn)) (.builtin "isinstance") (rIsN X.K cls d a) := by
  intro pins s σ H xs us Q I r h
  obtain ⟨D, c, cv, b, rfl, ec, ed, C, hcv, e, q⟩ := h
  subst ec
  subst ed
  exact call_isE (a := a) C hz hf pins s σ H _ us Q I r ⟨c, cv, b, rfl, fun u r => hcv.eq r, e, q⟩
/-- a method where the frame is named (within a try or its suite) -/
theorem pe_bmK {X : Cx} {K : PySem.W.Frag} {T : String} {name : Str} {id : String} {r : V → List V → Hp → VK → Prop} {o e : Expr} {es : List Expr} {to : TE} {t : TA} {apos cpos : Pos} (h : X.K = K) (pa : PlainAttrs T) (slot : Slot T name id) (hty : typeOf (.builtin id) = pure (.type "method_descriptor")) (hm : MtR X id r) (ho : PE X o to) (ha : PA X (e :: es) t)
    (hbase : attributeBase o name X.env (eval o X.env) = eval o X.env := by rfl)
    (hfew : ((backTo cpos (starEach (e :: es) X.env)).all (fun x => !x.1) && (backToKw cpos (keywordEach [] X.env)).all (fun x => x.1.isSome)
      && decide ((e :: es).length + ([] : List Keyword).length + (if ([] : List Keyword).isEmpty then 0 else 1) < 30)) = true := by rfl)
    (hline : (apos.endLine == cpos.line) = true := by rfl) (hs : starEach (e :: es) X.env = (false, eval e X.env) :: starEach es X.env := by rfl) (hplain : (backTo cpos (starEach es X.env)).any (·.1) = false := by rfl) :
    PE X (.Call (.Attribute o name apos) (e :: es) [] cpos) (tBM K T r to t) := h ▸ pe_bm pa slot hty hm ho ha hbase hfew hline hs hplain
def rJoin (K : PySem.W.Frag) : V → List V → Hp → VK → Prop := fun x xs H Q => ∃ a p, ∃ ys : List Str, x = .str a ∧ xs = [.ref p] ∧ (SqL K H p (ys.map V.str) ∨ SqT K H p (ys.map V.str)) ∧ (ys.map (·.length)).sum + ys.length * a.length ≤ 16777216 ∧ Q (.str (Txt.join a ys)) H
theorem mt_joinK {X : Cx} {K : PySem.W.Frag} (h : X.K = K) : MtR X "str.join" (rJoin K) := h ▸ mt_join
end
end EXN
/-! ### what a def promises, taken together -/
namespace FN11
open PySem PySem.Spec PyProof.Rows L2
section
variable {P : Program} {w : World} {K : PySem.W.Frag} {mg : Str → Option Value} {base : Heap} {k : Nat} {f : Addr} {fd : FuncData} {ps : List Str} {sp sp' : Sp}
/-- what raises nothing may be called where something is let out -/
theorem lift {CX : CXT} (F : FnOk P w K mg base CX0 k f fd ps sp) : FnOk P w K mg base CX k f fd ps sp :=
  ⟨F.len, fun A outer s H args us vs Q E hr e0 hb r h => codeAny_mono (F.run A outer s H args us vs Q E hr e0 hb r h) fun r s' hq => by
    cases r with
    | error e => exact (show False from hq).elim
    | ok fl =>
      cases fl with
      | ret u => exact hq
      | next => exact False.elim hq
      | brk => exact False.elim hq
      | cont => exact False.elim hq⟩
/-- either -/
theorem or {CX : CXT} (F : FnOk P w K mg base CX k f fd ps sp) (G : FnOk P w K mg base CX k f fd ps sp') : FnOk P w K mg base CX k f fd ps (fun vs H Q E => sp vs H Q E ∨ sp' vs H Q E) :=
  ⟨fun vs H Q E h => h.elim (F.len vs H Q E) (G.len vs H Q E), fun A outer s H args us vs Q E hr e0 hb r h => h.elim (F.run A outer s H args us vs Q E hr e0 hb r) (G.run A outer s H args us vs Q E hr e0 hb r)⟩
end
end FN11
/-! ### [.. for .. in range(..)] where an exception is handled -/
namespace HL11
open PySem PySem.Spec PyProof.Rows L2
open L2H (HotC PIH)
/-- the block's context with the handled exception's object in it -/
abbrev withP (Y : Cx) (p : Addr × Obj) : Cx := { Y with pn := [p] }
theorem toP {Y : Cx} {p : Addr × Obj} {σ : L2.St} {H : Hp} {s : Shared} (hY : Y.pn = []) (I : Inv Y [p] σ H s) : Inv (withP Y p) [] σ H s :=
  have o := I.ok
  ⟨⟨o.mod, o.kind, o.glob, o.blt, o.above, o.inj, o.has, o.cab, o.hd, o.frames, o.stk, o.exf, o.bs, o.bsz, o.noex, o.exfs, o.funs, o.frf⟩, I.os, I.bare, I.base, I.loc, I.cell, I.free, I.freeC,
    fun x hx => I.pin x (by rw [hY]; simpa using hx), I.hok, I.len⟩
theorem ofP {Y : Cx} {p : Addr × Obj} {σ : L2.St} {H : Hp} {s : Shared} (hY : Y.pn = []) (I : Inv (withP Y p) [] σ H s) : Inv Y [p] σ H s :=
  have o := I.ok
  ⟨⟨o.mod, o.kind, o.glob, o.blt, o.above, o.inj, o.has, o.cab, o.hd, o.frames, o.stk, o.exf, o.bs, o.bsz, o.noex, o.exfs, o.funs, o.frf⟩, I.os, I.bare, I.base, I.loc, I.cell, I.free, I.freeC,
    fun x hx => I.pin x (by rw [hY] at hx; simpa using hx), I.hok, I.len⟩
section
variable {X : Cx}
theorem lc_hot {pins : List (Addr × Obj)} {s : Shared} {σ : L2.St} {H : Hp} {Q : VK} {elt tg iter : Expr} {ifs : List Expr} {scope : Scope} {own : List (Str × Nat)} {pos pos' : Pos} {wi : TI} {g : TG} {tt : TT} {te : TE}
    (hot : HotC X) (hN : X.N.Nodup) (I : Inv X pins σ H s) (hi : PIH X tg iter wi) (ok : BlkOk X.N X.env.scope scope own)
    (hg : ∀ s H C cl fp, PG (X.blk s H scope (compEnvC scope cl C X.env) fp) tg g) (ht : ∀ s H C cl fp, PTs (X.blk s H scope (compEnvC scope cl C X.env) fp) ifs tt)
    (he : ∀ s H C cl fp, PE (X.blk s H scope (compEnvC scope cl C X.env) fp) elt te) (hs : ∀ x, foldedSetIterable iter X.env x = pure x)
    (want : tLc wi g tt te (own.map (·.2)) σ H Q) :
    wpAny (model X.prog X.w) X.A (comprehension (.ListComp elt [⟨tg, iter, ifs, 0⟩] scope pos) scope X.env pos' (newList []) false (eval iter X.env) none) (EP X pins σ Q) X.xe s := by
  obtain ⟨p, hp1, hpm⟩ := hot
  have caught : ∀ y ∈ scope.names, y.2 = .free → ∃ c, X.env.cells.lookup y.1 = some c := fun y hy e => (ok.free y hy e).elim (fun k => I.ok.has _ (.inl k)) fun k => I.ok.has _ (.inr k)
  refine wpAny_comprehension_free (use := none) rfl hs (closure_ok caught) ok.kind (fun y hy e => (ok.uniq y hy).trans (by rw [e])) (thn (hi.run pins s σ H _ I want) fun _ _ hx => thn hx fun _ sI got => ?_)
  obtain ⟨it, fp, tn, J, HI, e, JI, T, tn0, fOk, q⟩ := got
  subst e
  refine wpAny_newObj_type (newEnv_comp ?_) (Nat.zero_le _)
  obtain ⟨D, eD⟩ : ∃ D, D = sI.heap.objs.size := ⟨_, rfl⟩
  rw [← eD]
  have nD : HI D = none := JI.hok.fresh (Nat.le_of_eq eD.symm)
  obtain ⟨W, ⟨m0, w0⟩, turn⟩ := q D nD
  obtain ⟨sL, esL⟩ : ∃ sL : Shared, sL = { sI with heap := sI.heap.push { cls := .type "list", data := .seq ([] : List Value).toArray } } := ⟨_, rfl⟩
  have hL : sL.heap = sI.heap.push { cls := .type "list", data := .seq ([] : List Value).toArray } := by rw [esL]
  have grow : ∀ b o, sI.heap.get? b = some o → sL.heap.get? b = some o := fun b o e => by rw [hL]; exact Heap.get?_push_of_some _ e
  have JL : Inv X pins σ (upd HI D (.lst [])) sL := by
    rw [esL]
    refine JI.laid (t' := sI.toks) (o := .lst []) (fun b o e => Heap.get?_push_of_some _ e) (Nat.le_of_eq eD.symm) ?_
    refine ⟨Nat.zero_le _, [], 0, .nil, ?_⟩
    rw [eD]
    exact Heap.get?_push_size _ rfl
  have small : ∀ b ∈ fp, b < sI.heap.objs.size := fun b hb => let ⟨_, e, _⟩ := T.obj _ _ tn0 b hb; Heap.lt_size e
  have fL : ∀ b ∈ fp, FpOk X pins (upd HI D (.lst [])) b ∧ b < sL.heap.objs.size := fun b hb => by
    have lt := small b hb
    have ne : b ≠ D := by rw [eD]; exact Nat.ne_of_lt lt
    exact ⟨⟨(upd_ne ne).trans (fOk b hb).1, (fOk b hb).2⟩, by rw [hL, Heap.size_push]; exact Nat.lt_succ_of_lt lt⟩
  have tnL : tn 0 sL.heap := T.keep _ _ _ tn0 fun b _ o e => grow b o e
  have JB := block_start JL ok hN fL
  have PGb := hg sL (upd HI D (.lst [])) sL.heap.objs.size (cellsFrom (sL.heap.objs.size + 1) scope.names (cloFrom X.env.cells scope.names [])) fp
  have PTb := ht sL (upd HI D (.lst [])) sL.heap.objs.size (cellsFrom (sL.heap.objs.size + 1) scope.names (cloFrom X.env.cells scope.names [])) fp
  have PEb := he sL (upd HI D (.lst [])) sL.heap.objs.size (cellsFrom (sL.heap.objs.size + 1) scope.names (cloFrom X.env.cells scope.names [])) fp
  rw [← esL]
  show codeAny _ _ (.compStart _ 0 (.ref it) (.ref D) (compEnvC scope (cellsFrom (sL.heap.objs.size + 1) scope.names (cloFrom X.env.cells scope.names [])) sL.heap.objs.size X.env)) (compPost (model X.prog X.w) X.A X.xe none (EP X pins σ Q) (.ref D) sL.heap.objs.size) { sL with heap := pushCells (sL.heap.push { cls := .type "dict", data := .dict #[] }) scope.names }
  have nF : ∀ b ∈ fp, (upd HI D (.lst [])) b = none := fun b hb => (fL b hb).1.1
  obtain ⟨ce, ece⟩ : ∃ ce, ce = compEnvC scope (cellsFrom (sL.heap.objs.size + 1) scope.names (cloFrom X.env.cells scope.names [])) sL.heap.objs.size X.env := ⟨_, rfl⟩
  have lce : ce.locals = sL.heap.objs.size := by rw [ece]; rfl
  rw [← ece] at JB PGb PTb PEb ⊢
  obtain ⟨HL, eHL⟩ : ∃ HL, HL = upd HI D (.lst []) := ⟨_, rfl⟩
  rw [← eHL] at JL JB PGb PTb PEb w0 nF fL
  obtain ⟨sB, esB⟩ : ∃ sB : Shared, sB = { sL with heap := pushCells (sL.heap.push { cls := .type "dict", data := .dict #[] }) scope.names } := ⟨_, rfl⟩
  rw [← esB] at JB ⊢
  have tnB : tn 0 sB.heap := T.keep _ _ _ tnL fun b _ o e => by rw [esB]; exact pushCells_keeps _ _ _ _ (Heap.get?_push_of_some _ e)
  -- the handled exception's object stands through the block
  obtain ⟨pg1, pg2, pg3, pg4, pg5⟩ := JL.pin p (List.mem_append_left _ hpm)
  have pFp : p.1 ∉ fp := fun hb => (fL p.1 hb).1.2.2.2.2.2 p (List.mem_append_left _ hpm) rfl
  have pinned : ∀ {σ' : L2.St} {H' : Hp} {s' : Shared}, Inv (X.blk sL HL scope ce fp) [] σ' H' s' → Inv (X.blk sL HL scope ce fp) [p] σ' H' s' := fun {σ' H' s'} K => by
    refine K.pins_of fun x hx => ?_
    have ex : x = p := by simpa using hx
    rw [ex]
    have nfr : p.1 ∉ frs X.stack := fun z => by
      rcases List.mem_cons.mp (JL.stkSub _ z) with z | z
      · exact pg3 z
      · exact pg4 z
    refine ⟨K.base.keep p.1 p.2 pg1 pg2 nfr pFp, K.base.free p.1 p.2 pg1 pg2 pFp, fun z => ?_, nfr, pg5⟩
    have z' : p.1 = ce.locals := z
    rw [lce] at z'
    exact absurd (Heap.lt_size pg1) (by rw [z']; exact Nat.lt_irrefl _)
  have hotB : HotC (withP (X.blk sL HL scope ce fp) p) := ⟨p, hp1, List.mem_singleton.mpr rfl⟩
  have fpB : ∀ {σ' : L2.St} {H' : Hp} {s' : Shared}, Inv (X.blk sL HL scope ce fp) [p] σ' H' s' → (∀ b ∈ fp, H' b = none) → ∀ b ∈ fp, FpOk (withP (X.blk sL HL scope ce fp) p) [] H' b := fun {σ' H' s'} K hn b hb =>
    ⟨hn b hb, (K.ok.exf b hb).1, K.ok.exfs b hb, .inl hb, fun x c e => (K.ok.exf b hb).2 x c e, fun x hx z => by
      have ex : x = p := by simpa using hx
      rw [ex] at z
      exact pFp (z ▸ hb)⟩
  refine codeAny_compStart_list ?_ (T.self X.A 0 _ _ _ tnB ?_)
  all_goals
    refine compLoop_any (fun n s' => ∃ i H', Inv (X.blk sL HL scope ce fp) [] (wipe σ (own.map (·.2))) H' s' ∧ tn i s'.heap ∧ (∀ b ∈ fp, H' b = none) ∧ W i n H') ?_ m0 ⟨0, HL, JB, tnB, nF, w0⟩
    rintro n s5 ⟨i, H5, K5, tn5, n5, w5⟩
    have P5 := pinned K5
    rcases turn i n H5 w5 with ⟨stop, fin⟩ | ⟨go, Nx, hNx, step⟩
    · refine thnF (T.done (withP (X.blk sL HL scope ce fp) p) rfl rfl rfl hotB i [] s5 _ H5 (fun _ _ => False) (toP rfl P5) (fpB P5 n5) tn5 stop) fun r s6 ⟨er, K6⟩ => ?_
      subst er
      have J6 : Inv X pins σ H5 s6 := JL.call' (ch := fp) K6.os K6.base K6.hok K6.bare fun b hb => let f := (fL b hb).1.2; ⟨f.2.2.1, f.1, f.2.2.2.1, f.2.2.2.2⟩
      have free6 : H5 sL.heap.objs.size = none := by
        have z := K6.free
        rw [show (withP (X.blk sL HL scope ce fp) p).env.locals = ce.locals from rfl, lce] at z
        exact z
      obtain ⟨m, ns6, _⟩ := K6.loc
      rw [show (withP (X.blk sL HL scope ce fp) p).env.locals = ce.locals from rfl, lce] at ns6
      obtain ⟨g0, g1, g2, g3, g4, g5⟩ := JL.fpOk (Nat.le_refl _) free6
      exact ⟨m, ns6, fun h'' sb => ⟨.ref D, H5, J6.turned (t' := s6.toks) (fun b o hb e => (sb.2 b hb).trans e) g0 g1 g3 g4 g5, rfl, fin⟩⟩
    · refine thnF (T.item (withP (X.blk sL HL scope ce fp) p) rfl rfl rfl hotB i [] s5 _ H5 (fun _ _ => False) (toP rfl P5) (fpB P5 n5) tn5 go) fun r s6 ⟨u, er, h6⟩ => ?_
      subst er
      refine thnF h6 fun _ s7 ⟨x, H7, K7, rx, y7, tn7, n7⟩ => ?_
      have P7 := ofP (Y := X.blk sL HL scope ce fp) rfl K7
      have Q7 : Inv (X.blk sL HL scope ce fp) ([p] ++ pinsAt fp s7.heap) _ H7 s7 := P7.pinned (fun b hb => by
        obtain ⟨a1, a2, a3, a4, a5, a6⟩ := fpB P7 n7 b hb
        exact ⟨a1, a2, a3, a4, a5, fun x hx => a6 x (by simpa using hx)⟩) (T.obj _ _ tn7)
      refine thnF (PGb.run _ s7 _ H7 x u _ Q7 rx (step x H7 y7)) fun _ s8 ⟨σ8, H8, K8, w8, q8⟩ => ?_
      refine thnF (PTb.run _ s8 σ8 H8 _ K8 q8) fun b s9 ⟨H9, K9, q9⟩ => ?_
      have last : ∀ {s' : Shared} {H' : Hp}, Inv (X.blk sL HL scope ce fp) ([p] ++ pinsAt fp s7.heap) σ8 H' s' → Nx H' → ∃ m, m < n ∧ ∃ i H', Inv (X.blk sL HL scope ce fp) [] (wipe σ (own.map (·.2))) H' s' ∧ tn i s'.heap ∧ (∀ b ∈ fp, H' b = none) ∧ W i m H' := fun {s' H'} K nx => by
        obtain ⟨m', lt, w'⟩ := hNx H' nx
        have held : ∀ b ∈ fp, ∀ o, s7.heap.get? b = some o → s'.heap.get? b = some o ∧ H' b = none := fun b hb o e =>
          let z := K.pin (b, o) (List.mem_append_right _ (List.mem_append_right _ (mem_pinsAt hb e)))
          ⟨z.1, z.2.1⟩
        have K' : Inv (X.blk sL HL scope ce fp) [] σ8 H' s' := (K.unpinned (pins := [p]) (pl := pinsAt fp s7.heap)).pins_of fun _ hx => absurd hx (by simp)
        refine ⟨m', lt, i + 1, H', K'.weak (by rw [← w8, wipe_length]) (fun j v e => (wipe_some (by rw [w8]; exact e)).1), T.keep _ _ _ tn7 fun b hb o e => (held b hb o e).1, fun b hb => ?_, w'⟩
        obtain ⟨o, e, _⟩ := T.obj _ _ tn7 b hb
        exact (held b hb o e).2
      cases b with
      | false => exact last K9 q9
      | true => exact thnF (PEb.run _ s9 σ8 H9 _ K9 q9) fun z s10 ⟨yv, H10, K10, r10, acc, eD10, z10, nx⟩ => app_ok (X := X.blk sL HL scope ce fp) K10 eD10 z10 r10 fun s11 K11 => last K11 nx
theorem hotS {Y : Cx} {a : Addr} {oe : Obj} {cls : Value} {d : Option Addr} {pn : List (Addr × Obj)} (hz : L2N.Zn cls d oe) (hf : ∃ vs, oe.data = .fields vs) : HotC (Y.suite a ((a, oe) :: pn)) :=
  let ⟨vs, hv⟩ := hf
  ⟨(a, oe), ⟨rfl, vs, hv, hz.2.2 vs hv⟩, List.mem_cons_self⟩
theorem pe_lcH {elt tg iter : Expr} {ifs : List Expr} {scope : Scope} {own : List (Str × Nat)} {pos : Pos} {wi : TI} {g : TG} {tt : TT} {te : TE} (hot : HotC X) (hN : X.N.Nodup) (hi : PIH X tg iter wi) (ok : BlkOk X.N X.env.scope scope own)
    (hg : ∀ (s : Shared) (H : Hp) (C : Addr) (cl : List (Str × Addr)) (fp : List Addr), PG (X.blk s H scope (compEnvC scope cl C X.env) fp) tg g) (ht : ∀ (s : Shared) (H : Hp) (C : Addr) (cl : List (Str × Addr)) (fp : List Addr), PTs (X.blk s H scope (compEnvC scope cl C X.env) fp) ifs tt)
    (he : ∀ (s : Shared) (H : Hp) (C : Addr) (cl : List (Str × Addr)) (fp : List Addr), PE (X.blk s H scope (compEnvC scope cl C X.env) fp) elt te) (hs : ∀ x, foldedSetIterable iter X.env x = pure x := by intro _; rfl) :
    PE X (.ListComp elt [⟨tg, iter, ifs, 0⟩] scope pos) (tLc wi g tt te (own.map (·.2))) := by
  refine ⟨fun pins s σ H Q I h => ?_⟩
  rw [eval_ListComp]
  exact lc_hot hot hN I hi ok hg ht he hs h
end
end HL11
/-! ### a def that may raise, its exceptions' context None -/
namespace HL11
open PySem PySem.Spec PyProof.Rows L2
theorem takes0N {X : Cx} : L2N.Takes X (fun _ _ _ _ => False) := fun _ _ x => by
  obtain ⟨_, _, _, _, _, _, _, _, _, _, _, _, _, _, _, _, z⟩ := x
  exact z.elim
theorem okN {P : Program} {w : World} {K : PySem.W.Frag} {mg : Str → Option Value} {base : Heap} {x qual : Str} {st : Stmt} {f : Addr} {fd : FuncData} {N ps : List Str} {k : Nat} {sp : Sp} (F : Fun K x qual st f fd) (S : FnScope N ps (defScope st)) (many : ∀ vs H Q E, sp vs H Q E → vs.length = ps.length)
    (body : ∀ (cdv : Value) (A : Around) (outer : List Env) (s : Shared) (H : Hp) (vs : List V) (Q : VK) (E : XK), Room k (A.deeper (envOfC qual (defScope st) s.heap.objs.size f cdv)) → sp vs H Q E →
      ∃ t, PSs (cxOf (L2N.CX P w) P w K mg base N qual (defScope st) f cdv A outer s H E) (defBody st) t ∧ t { nx := fun _ H' => Q .non H', rt := Q } (L2.start N vs) H) : FnOk P w K mg base (L2N.CX P w) (k + 1) f fd ps sp := by
  obtain ⟨oc, od, kV, doc, pm, an, cdv, ct, osl, rfl, look, code⟩ := F.ex
  exact fn_of look code S many fun A outer s H vs Q E hr want => body cdv A outer s H vs Q E hr want
end HL11

/-! ### a call of an expression that gives one of several defs -/
namespace CE12
open PySem PySem.Spec PyProof.Rows L2
structure HeldX (P : Program) (w : World) (K : PySem.W.Frag) (mg : Str → Option Value) (base : Heap) (CX : CXT) (k : Nat) (f : Addr) (sp : Sp) : Prop where
  ex : ∃ (fd : FuncData) (ps : List Str), FnOk P w K mg base CX k f fd ps sp ∧ PySem.W.keepIn K (.ref f) = true ∧ Binds K fd ps []
def tCallE (S : Addr → Sp → Prop) (E : L2.St → XK) (tf : TE) (t : TA) : TE := fun σ H Q => tf σ H fun x H1 => ∃ f sp, x = .ref f ∧ S f sp ∧ t σ H1 fun vs H2 => sp vs H2 Q (E σ)
section
variable {X : Cx} {CX : CXT} {k : Nat} {E : L2.St → XK} {pos : Pos} {g e : Expr} {es : List Expr} {tf : TE} {t : TA}
theorem pe_callE {S : Addr → Sp → Prop} (A : ∀ f sp, S f sp → HeldX X.prog X.w X.K X.mg X.base CX k f sp) (hr : Room k X.A) (hx : ∀ σ, PassesAt CX X σ (E σ)) (hf : PE X g tf) (ha : PA X (e :: es) t)
    (ht : eval (.Call g (e :: es) [] pos) X.env = (do callWith pos (← eval g X.env) [] (backTo pos (starEach (e :: es) X.env)) (backToKw pos (keywordEach [] X.env))) := by rfl)
    (he : starEach (e :: es) X.env = (false, eval e X.env) :: starEach es X.env := by rfl) (hpl : (backTo pos (starEach es X.env)).any (·.1) = false := by rfl) :
    PE X (.Call g (e :: es) [] pos) (tCallE S E tf t) := by
  refine ⟨fun pins s σ H Q I h => ?_⟩
  refine Call_ (thn (hf.run pins s σ H _ I h) fun u s1 ⟨x, H1, I1, rx, f, sp, ex, hS, q⟩ => ?_) ht
  subst ex
  obtain rfl : u = Value.ref f := rx
  obtain ⟨fd, ps, F, hk, hb⟩ := (A f sp hS).ex
  refine PySem.W.callWith_K (h₀ := X.base) I1.ok.mod.kin hk (thn (ha.run pos pins s1 σ H1 _ I1 q) fun us s2 ⟨vs, H2, I2, r, q2⟩ => ⟨I2.kIn, ?_⟩) he hpl
  exact run_fnS F hr hb (hx σ) I2 r q2
end
end CE12

set_option Elab.async false
set_option linter.all false
set_option maxRecDepth 100000
set_option maxHeartbeats 4000000
namespace My
open PySem PySem.Spec PyProof.Rows L2
def topS (i : Nat) : Stmt := PySem.Challenge.pw_loopstore_k98_whole_settled_lines.main.body.getD i (.Pass ⟨0, 0, 0, 0⟩)
abbrev s_is_integer : Stmt := topS 10
theorem sc_is_integer : FnScope ["thing"] ["thing"] (defScope s_is_integer) := ⟨rfl, rfl, rfl, by decide +kernel, rfl, by decide +kernel, by decide +kernel⟩
abbrev s_is_number : Stmt := topS 11
theorem sc_is_number : FnScope ["thing", "least", "most"] ["thing", "least", "most"] (defScope s_is_number) := ⟨rfl, rfl, rfl, by decide +kernel, rfl, by decide +kernel, by decide +kernel⟩
abbrev s_are_numbers : Stmt := topS 12
theorem sc_are_numbers : FnScope ["things", "least", "most", "thing"] ["things", "least", "most"] (defScope s_are_numbers) := ⟨rfl, rfl, rfl, by decide +kernel, rfl, by decide +kernel, by decide +kernel⟩
abbrev s_is_comings : Stmt := topS 13
theorem sc_is_comings : FnScope ["comers", "thing"] ["comers", "thing"] (defScope s_is_comings) := ⟨rfl, rfl, rfl, by decide +kernel, rfl, by decide +kernel, by decide +kernel⟩
abbrev s_check_comers : Stmt := topS 14
theorem sc_check_comers : FnScope ["thing"] ["thing"] (defScope s_check_comers) := ⟨rfl, rfl, rfl, by decide +kernel, rfl, by decide +kernel, by decide +kernel⟩
abbrev s_check_bound : Stmt := topS 15
theorem sc_check_bound : FnScope ["thing"] ["thing"] (defScope s_check_bound) := ⟨rfl, rfl, rfl, by decide +kernel, rfl, by decide +kernel, by decide +kernel⟩
abbrev s_follow_line : Stmt := topS 17
theorem sc_follow_line : FnScope ["bound", "line", "comings", "letters", "behind", "tick", "number", "turn"] ["bound", "line", "comings"] (defScope s_follow_line) := ⟨rfl, rfl, rfl, by decide +kernel, rfl, by decide +kernel, by decide +kernel⟩
abbrev s_reduced : Stmt := topS 19
theorem sc_reduced : FnScope ["top", "bottom", "shared"] ["top", "bottom"] (defScope s_reduced) := ⟨rfl, rfl, rfl, by decide +kernel, rfl, by decide +kernel, by decide +kernel⟩
abbrev s_is_round : Stmt := topS 23
theorem sc_is_round : FnScope ["comers", "thing"] ["comers", "thing"] (defScope s_is_round) := ⟨rfl, rfl, rfl, by decide +kernel, rfl, by decide +kernel, by decide +kernel⟩
abbrev s_is_long_pair : Stmt := topS 24
theorem sc_is_long_pair : FnScope ["comers", "thing"] ["comers", "thing"] (defScope s_is_long_pair) := ⟨rfl, rfl, rfl, by decide +kernel, rfl, by decide +kernel, by decide +kernel⟩
abbrev s_check_long : Stmt := topS 25
theorem sc_check_long : FnScope ["comers", "bound", "long", "pair"] ["comers", "bound", "long"] (defScope s_check_long) := ⟨rfl, rfl, rfl, by decide +kernel, rfl, by decide +kernel, by decide +kernel⟩
abbrev s_check_round : Stmt := topS 26
theorem sc_check_round : FnScope ["comers", "bound", "comings"] ["comers", "bound", "comings"] (defScope s_check_round) := ⟨rfl, rfl, rfl, by decide +kernel, rfl, by decide +kernel, by decide +kernel⟩
abbrev s_follow_round : Stmt := topS 27
theorem sc_follow_round : FnScope ["bound", "line", "comings", "letters", "behind", "away", "tick", "_", "wait"] ["bound", "line", "comings"] (defScope s_follow_round) := ⟨rfl, rfl, rfl, by decide +kernel, rfl, by decide +kernel, by decide +kernel⟩
abbrev s_follow_long : Stmt := topS 28
theorem sc_follow_long : FnScope ["bound", "long", "line", "came", "away", "comings", "times", "left", "behind", "more", "lost", "alike"] ["bound", "long"] (defScope s_follow_long) := ⟨rfl, rfl, rfl, by decide +kernel, rfl, by decide +kernel, by decide +kernel⟩
abbrev s_long_line : Stmt := topS 29
theorem sc_long_line : FnScope ["comers", "bound", "long", "line", "_"] ["comers", "bound", "long"] (defScope s_long_line) := ⟨rfl, rfl, rfl, by decide +kernel, rfl, by decide +kernel, by decide +kernel⟩
abbrev s_long_counts : Stmt := topS 30
theorem sc_long_counts : FnScope ["comers", "bound", "long", "line", "came", "away"] ["comers", "bound", "long"] (defScope s_long_counts) := ⟨rfl, rfl, rfl, by decide +kernel, rfl, by decide +kernel, by decide +kernel⟩
abbrev s_settle : Stmt := topS 31
theorem sc_settle : FnScope ["bound", "comings", "rounds", "line", "behind", "_"] ["bound", "comings"] (defScope s_settle) := ⟨rfl, rfl, rfl, by decide +kernel, rfl, by decide +kernel, by decide +kernel⟩
abbrev s_settled : Stmt := topS 32
theorem sc_settled : FnScope ["comers", "bound", "comings"] ["comers", "bound", "comings"] (defScope s_settled) := ⟨rfl, rfl, rfl, by decide +kernel, rfl, by decide +kernel, by decide +kernel⟩
abbrev s_lost_share : Stmt := topS 33
theorem sc_lost_share : FnScope ["comers", "bound", "comings", "_", "line", "came", "away"] ["comers", "bound", "comings"] (defScope s_lost_share) := ⟨rfl, rfl, rfl, by decide +kernel, rfl, by decide +kernel, by decide +kernel⟩
abbrev s__law_tape : Stmt := topS 35
theorem sc__law_tape : FnScope ["script"] ["script"] (defScope s__law_tape) := ⟨rfl, rfl, rfl, by decide +kernel, rfl, by decide +kernel, by decide +kernel⟩
abbrev s__law_pick : Stmt := topS 36
theorem sc__law_pick : FnScope ["tape", "size", "digit", "cell", "mixed"] ["tape", "size"] (defScope s__law_pick) := ⟨rfl, rfl, rfl, by decide +kernel, rfl, by decide +kernel, by decide +kernel⟩
abbrev s__law_round : Stmt := topS 37
theorem sc__law_round : FnScope ["bound", "line", "comings", "out", "away", "number", "k"] ["bound", "line", "comings"] (defScope s__law_round) := ⟨rfl, rfl, rfl, by decide +kernel, rfl, by decide +kernel, by decide +kernel⟩
abbrev s__law_short : Stmt := topS 38
theorem sc__law_short : FnScope ["tape", "comers", "most", "thick", "found", "k", "number"] ["tape", "comers", "most"] (defScope s__law_short) := ⟨rfl, rfl, rfl, by decide +kernel, rfl, by decide +kernel, by decide +kernel⟩
abbrev s__law_no_bound : Stmt := topS 39
theorem sc__law_no_bound : FnScope ["tape"] ["tape"] (defScope s__law_no_bound) := ⟨rfl, rfl, rfl, by decide +kernel, rfl, by decide +kernel, by decide +kernel⟩
abbrev s__law_no_comers : Stmt := topS 40
theorem sc__law_no_comers : FnScope ["tape"] ["tape"] (defScope s__law_no_comers) := ⟨rfl, rfl, rfl, by decide +kernel, rfl, by decide +kernel, by decide +kernel⟩
abbrev s__law_common : Stmt := topS 41
theorem sc__law_common : FnScope ["one", "other", "turn"] ["one", "other"] (defScope s__law_common) := ⟨rfl, rfl, rfl, by decide +kernel, rfl, by decide +kernel, by decide +kernel⟩
abbrev s__law_word : Stmt := topS 42
theorem sc__law_word : FnScope ["which", "comers", "bound", "thing", "word", "e", "flags"] ["which", "comers", "bound", "thing"] (defScope s__law_word) := ⟨rfl, rfl, rfl, by decide +kernel, rfl, by decide +kernel, by decide +kernel⟩
abbrev s__law_settles : Stmt := topS 43
theorem sc__law_settles : FnScope ["comers", "bound", "comings", "rows", "turn", "rounds", "told", "away", "due", "part", "times", "first", "k"] ["comers", "bound", "comings"] (defScope s__law_settles) := ⟨rfl, rfl, rfl, by decide +kernel, rfl, by decide +kernel, by decide +kernel⟩
abbrev s_law : Stmt := topS 44
theorem sc_law : FnScope ["script", "tape", "turn", "comers", "bound", "comings", "odd", "none", "wrong", "long", "which", "thing", "good"] ["script"] (defScope s_law) := ⟨rfl, rfl, rfl, by decide +kernel, rfl, by decide +kernel, by decide +kernel⟩
abbrev s_NoComers___init__ : Stmt := inClass (topS 3) 0
theorem sc_NoComers___init__ : FnScope ["self"] ["self"] (defScope s_NoComers___init__) := ⟨rfl, rfl, rfl, by decide +kernel, rfl, by decide +kernel, by decide +kernel⟩
abbrev s_NoBound___init__ : Stmt := inClass (topS 4) 0
theorem sc_NoBound___init__ : FnScope ["self"] ["self"] (defScope s_NoBound___init__) := ⟨rfl, rfl, rfl, by decide +kernel, rfl, by decide +kernel, by decide +kernel⟩
abbrev s_NoLong___init__ : Stmt := inClass (topS 5) 0
theorem sc_NoLong___init__ : FnScope ["self"] ["self"] (defScope s_NoLong___init__) := ⟨rfl, rfl, rfl, by decide +kernel, rfl, by decide +kernel, by decide +kernel⟩
structure Tx (K : PySem.W.Frag) (mg : Str → Option Value) where
  a_is_integer : Addr
  d_is_integer : FuncData
  F_is_integer : Fun K "is_integer" "is_integer" s_is_integer a_is_integer d_is_integer
  b_is_integer : Binds K d_is_integer ["thing"] []
  g_is_integer : mg "is_integer" = some (.ref a_is_integer)
  a_is_number : Addr
  d_is_number : FuncData
  F_is_number : Fun K "is_number" "is_number" s_is_number a_is_number d_is_number
  b_is_number : Binds K d_is_number ["thing", "least", "most"] []
  g_is_number : mg "is_number" = some (.ref a_is_number)
  a_are_numbers : Addr
  d_are_numbers : FuncData
  F_are_numbers : Fun K "are_numbers" "are_numbers" s_are_numbers a_are_numbers d_are_numbers
  b_are_numbers : Binds K d_are_numbers ["things", "least", "most"] []
  g_are_numbers : mg "are_numbers" = some (.ref a_are_numbers)
  a_is_comings : Addr
  d_is_comings : FuncData
  F_is_comings : Fun K "is_comings" "is_comings" s_is_comings a_is_comings d_is_comings
  b_is_comings : Binds K d_is_comings ["comers", "thing"] []
  g_is_comings : mg "is_comings" = some (.ref a_is_comings)
  a_check_comers : Addr
  d_check_comers : FuncData
  F_check_comers : Fun K "check_comers" "check_comers" s_check_comers a_check_comers d_check_comers
  b_check_comers : Binds K d_check_comers ["thing"] []
  g_check_comers : mg "check_comers" = some (.ref a_check_comers)
  a_check_bound : Addr
  d_check_bound : FuncData
  F_check_bound : Fun K "check_bound" "check_bound" s_check_bound a_check_bound d_check_bound
  b_check_bound : Binds K d_check_bound ["thing"] []
  g_check_bound : mg "check_bound" = some (.ref a_check_bound)
  a_follow_line : Addr
  d_follow_line : FuncData
  F_follow_line : Fun K "follow_line" "follow_line" s_follow_line a_follow_line d_follow_line
  b_follow_line : Binds K d_follow_line ["bound", "line", "comings"] []
  g_follow_line : mg "follow_line" = some (.ref a_follow_line)
  a_reduced : Addr
  d_reduced : FuncData
  F_reduced : Fun K "reduced" "reduced" s_reduced a_reduced d_reduced
  b_reduced : Binds K d_reduced ["top", "bottom"] []
  g_reduced : mg "reduced" = some (.ref a_reduced)
  a_is_round : Addr
  d_is_round : FuncData
  F_is_round : Fun K "is_round" "is_round" s_is_round a_is_round d_is_round
  b_is_round : Binds K d_is_round ["comers", "thing"] []
  g_is_round : mg "is_round" = some (.ref a_is_round)
  a_is_long_pair : Addr
  d_is_long_pair : FuncData
  F_is_long_pair : Fun K "is_long_pair" "is_long_pair" s_is_long_pair a_is_long_pair d_is_long_pair
  b_is_long_pair : Binds K d_is_long_pair ["comers", "thing"] []
  g_is_long_pair : mg "is_long_pair" = some (.ref a_is_long_pair)
  a_check_long : Addr
  d_check_long : FuncData
  F_check_long : Fun K "check_long" "check_long" s_check_long a_check_long d_check_long
  b_check_long : Binds K d_check_long ["comers", "bound", "long"] []
  g_check_long : mg "check_long" = some (.ref a_check_long)
  a_check_round : Addr
  d_check_round : FuncData
  F_check_round : Fun K "check_round" "check_round" s_check_round a_check_round d_check_round
  b_check_round : Binds K d_check_round ["comers", "bound", "comings"] []
  g_check_round : mg "check_round" = some (.ref a_check_round)
  a_follow_round : Addr
  d_follow_round : FuncData
  F_follow_round : Fun K "follow_round" "follow_round" s_follow_round a_follow_round d_follow_round
  b_follow_round : Binds K d_follow_round ["bound", "line", "comings"] []
  g_follow_round : mg "follow_round" = some (.ref a_follow_round)
  a_follow_long : Addr
  d_follow_long : FuncData
  F_follow_long : Fun K "follow_long" "follow_long" s_follow_long a_follow_long d_follow_long
  b_follow_long : Binds K d_follow_long ["bound", "long"] []
  g_follow_long : mg "follow_long" = some (.ref a_follow_long)
  a_long_line : Addr
  d_long_line : FuncData
  F_long_line : Fun K "long_line" "long_line" s_long_line a_long_line d_long_line
  b_long_line : Binds K d_long_line ["comers", "bound", "long"] []
  g_long_line : mg "long_line" = some (.ref a_long_line)
  a_long_counts : Addr
  d_long_counts : FuncData
  F_long_counts : Fun K "long_counts" "long_counts" s_long_counts a_long_counts d_long_counts
  b_long_counts : Binds K d_long_counts ["comers", "bound", "long"] []
  g_long_counts : mg "long_counts" = some (.ref a_long_counts)
  a_settle : Addr
  d_settle : FuncData
  F_settle : Fun K "settle" "settle" s_settle a_settle d_settle
  b_settle : Binds K d_settle ["bound", "comings"] []
  g_settle : mg "settle" = some (.ref a_settle)
  a_settled : Addr
  d_settled : FuncData
  F_settled : Fun K "settled" "settled" s_settled a_settled d_settled
  b_settled : Binds K d_settled ["comers", "bound", "comings"] []
  g_settled : mg "settled" = some (.ref a_settled)
  a_lost_share : Addr
  d_lost_share : FuncData
  F_lost_share : Fun K "lost_share" "lost_share" s_lost_share a_lost_share d_lost_share
  b_lost_share : Binds K d_lost_share ["comers", "bound", "comings"] []
  g_lost_share : mg "lost_share" = some (.ref a_lost_share)
  a__law_tape : Addr
  d__law_tape : FuncData
  F__law_tape : Fun K "_law_tape" "_law_tape" s__law_tape a__law_tape d__law_tape
  b__law_tape : Binds K d__law_tape ["script"] []
  g__law_tape : mg "_law_tape" = some (.ref a__law_tape)
  a__law_pick : Addr
  d__law_pick : FuncData
  F__law_pick : Fun K "_law_pick" "_law_pick" s__law_pick a__law_pick d__law_pick
  b__law_pick : Binds K d__law_pick ["tape", "size"] []
  g__law_pick : mg "_law_pick" = some (.ref a__law_pick)
  a__law_round : Addr
  d__law_round : FuncData
  F__law_round : Fun K "_law_round" "_law_round" s__law_round a__law_round d__law_round
  b__law_round : Binds K d__law_round ["bound", "line", "comings"] []
  g__law_round : mg "_law_round" = some (.ref a__law_round)
  a__law_short : Addr
  d__law_short : FuncData
  F__law_short : Fun K "_law_short" "_law_short" s__law_short a__law_short d__law_short
  b__law_short : Binds K d__law_short ["tape", "comers", "most"] []
  g__law_short : mg "_law_short" = some (.ref a__law_short)
  a__law_no_bound : Addr
  d__law_no_bound : FuncData
  F__law_no_bound : Fun K "_law_no_bound" "_law_no_bound" s__law_no_bound a__law_no_bound d__law_no_bound
  b__law_no_bound : Binds K d__law_no_bound ["tape"] []
  g__law_no_bound : mg "_law_no_bound" = some (.ref a__law_no_bound)
  a__law_no_comers : Addr
  d__law_no_comers : FuncData
  F__law_no_comers : Fun K "_law_no_comers" "_law_no_comers" s__law_no_comers a__law_no_comers d__law_no_comers
  b__law_no_comers : Binds K d__law_no_comers ["tape"] []
  g__law_no_comers : mg "_law_no_comers" = some (.ref a__law_no_comers)
  a__law_common : Addr
  d__law_common : FuncData
  F__law_common : Fun K "_law_common" "_law_common" s__law_common a__law_common d__law_common
  b__law_common : Binds K d__law_common ["one", "other"] []
  g__law_common : mg "_law_common" = some (.ref a__law_common)
  a__law_word : Addr
  d__law_word : FuncData
  F__law_word : Fun K "_law_word" "_law_word" s__law_word a__law_word d__law_word
  b__law_word : Binds K d__law_word ["which", "comers", "bound", "thing"] []
  g__law_word : mg "_law_word" = some (.ref a__law_word)
  a__law_settles : Addr
  d__law_settles : FuncData
  F__law_settles : Fun K "_law_settles" "_law_settles" s__law_settles a__law_settles d__law_settles
  b__law_settles : Binds K d__law_settles ["comers", "bound", "comings"] []
  g__law_settles : mg "_law_settles" = some (.ref a__law_settles)
  a_law : Addr
  d_law : FuncData
  F_law : Fun K "law" "law" s_law a_law d_law
  b_law : Binds K d_law ["script"] []
  g_law : mg "law" = some (.ref a_law)
  m_all : mg "all" = none
  m_bool : mg "bool" = none
  m_enumerate : mg "enumerate" = none
  m_int : mg "int" = none
  m_isinstance : mg "isinstance" = none
  m_len : mg "len" = none
  m_list : mg "list" = none
  m_range : mg "range" = none
  m_sum : mg "sum" = none
  m_tuple : mg "tuple" = none
  t_MOST_BOUND : Tok
  g_MOST_BOUND : mg "MOST_BOUND" = some (.int 60 t_MOST_BOUND)
  t_MOST_COMERS : Tok
  g_MOST_COMERS : mg "MOST_COMERS" = some (.int 4 t_MOST_COMERS)
  t_MOST_PAIRS : Tok
  g_MOST_PAIRS : mg "MOST_PAIRS" = some (.int 20 t_MOST_PAIRS)
  t_MOST_ROUND : Tok
  g_MOST_ROUND : mg "MOST_ROUND" = some (.int 60 t_MOST_ROUND)
  t_MOST_TICKS : Tok
  g_MOST_TICKS : mg "MOST_TICKS" = some (.int 400 t_MOST_TICKS)
  g_gcd : mg "gcd" = some (.builtin "math.gcd")
  c_LoopError : Addr
  g_LoopError : mg "LoopError" = some (.ref c_LoopError)
  c_NoBound : Addr
  g_NoBound : mg "NoBound" = some (.ref c_NoBound)
  c_NoComers : Addr
  g_NoComers : mg "NoComers" = some (.ref c_NoComers)
  c_NoLong : Addr
  g_NoLong : mg "NoLong" = some (.ref c_NoLong)
  a_NoComers___init__ : Addr
  d_NoComers___init__ : FuncData
  F_NoComers___init__ : Fun K "__init__" "NoComers.__init__" s_NoComers___init__ a_NoComers___init__ d_NoComers___init__
  b_NoComers___init__ : Binds K d_NoComers___init__ ["self"] []
  x_NoComers : OexC K c_NoComers
  i_NoComers : PySem.W.findIn K (.ref c_NoComers) "__init__" = some (some (.ref a_NoComers___init__))
  ti_NoComers : PySem.W.typeIn K (.ref a_NoComers___init__) = some (.type "function")
  e_NoComers : PySem.W.exmOne K (.ref c_NoComers) (.ref c_NoComers) = some true
  a_NoBound___init__ : Addr
  d_NoBound___init__ : FuncData
  F_NoBound___init__ : Fun K "__init__" "NoBound.__init__" s_NoBound___init__ a_NoBound___init__ d_NoBound___init__
  b_NoBound___init__ : Binds K d_NoBound___init__ ["self"] []
  x_NoBound : OexC K c_NoBound
  i_NoBound : PySem.W.findIn K (.ref c_NoBound) "__init__" = some (some (.ref a_NoBound___init__))
  ti_NoBound : PySem.W.typeIn K (.ref a_NoBound___init__) = some (.type "function")
  e_NoBound : PySem.W.exmOne K (.ref c_NoBound) (.ref c_NoBound) = some true
  a_NoLong___init__ : Addr
  d_NoLong___init__ : FuncData
  F_NoLong___init__ : Fun K "__init__" "NoLong.__init__" s_NoLong___init__ a_NoLong___init__ d_NoLong___init__
  b_NoLong___init__ : Binds K d_NoLong___init__ ["self"] []
  x_NoLong : OexC K c_NoLong
  i_NoLong : PySem.W.findIn K (.ref c_NoLong) "__init__" = some (some (.ref a_NoLong___init__))
  ti_NoLong : PySem.W.typeIn K (.ref a_NoLong___init__) = some (.type "function")
  e_NoLong : PySem.W.exmOne K (.ref c_NoLong) (.ref c_NoLong) = some true
  ec_NoComers : ExcC K c_NoComers
  ec_NoBound : ExcC K c_NoBound
  ec_NoLong : ExcC K c_NoLong
  ec_LoopError : ExcC K c_LoopError
  kt_NoComers_LoopError : PySem.W.kitOne K (.ref c_NoComers) (.ref c_LoopError) = some true
  kt_NoBound_LoopError : PySem.W.kitOne K (.ref c_NoBound) (.ref c_LoopError) = some true
  kt_NoLong_LoopError : PySem.W.kitOne K (.ref c_NoLong) (.ref c_LoopError) = some true
  kt_NoComers_NoComers : PySem.W.kitOne K (.ref c_NoComers) (.ref c_NoComers) = some true
  kt_NoComers_NoBound : PySem.W.kitOne K (.ref c_NoComers) (.ref c_NoBound) = some false
  kt_NoComers_NoLong : PySem.W.kitOne K (.ref c_NoComers) (.ref c_NoLong) = some false
  kt_NoBound_NoComers : PySem.W.kitOne K (.ref c_NoBound) (.ref c_NoComers) = some false
  kt_NoBound_NoBound : PySem.W.kitOne K (.ref c_NoBound) (.ref c_NoBound) = some true
  kt_NoBound_NoLong : PySem.W.kitOne K (.ref c_NoBound) (.ref c_NoLong) = some false
  kt_NoLong_NoComers : PySem.W.kitOne K (.ref c_NoLong) (.ref c_NoComers) = some false
  kt_NoLong_NoBound : PySem.W.kitOne K (.ref c_NoLong) (.ref c_NoBound) = some false
  kt_NoLong_NoLong : PySem.W.kitOne K (.ref c_NoLong) (.ref c_NoLong) = some true
  xm_NoComers_LoopError : PySem.W.exmOne K (.ref c_NoComers) (.ref c_LoopError) = some true
  xm_NoBound_LoopError : PySem.W.exmOne K (.ref c_NoBound) (.ref c_LoopError) = some true
  xm_NoLong_LoopError : PySem.W.exmOne K (.ref c_NoLong) (.ref c_LoopError) = some true
/- ((pss_cons (ps_set (i := 1) sc_law.nd rfl (.inl rfl) (pe_call (ok__law_tape T) (hr.mono (by decide)) (by rfl) T.g__law_tape T.F__law_tape.kp T.b__law_tape .nil pass0 (pa_cons (pv 0) pa_nil)))
  (pss_cons (ps_for PassesOwn.never rfl (pi_range1 (by rfl) T.m_range (pa_cons pe_int pa_nil)) (pg_name (i := 2) sc_law.nd rfl (.inl rfl))
   (pss_cons (ps_set (i := 3) sc_law.nd rfl (.inl rfl) (pe_op op_add pe_int (pe_call (ok__law_pick T) (hr.mono (by decide)) (by rfl) T.g__law_pick T.F__law_pick.kp T.b__law_pick .nil pass0 (pa_cons (pv 1) (pa_cons pe_int pa_nil)))))
  (pss_cons (ps_set (i := 4) sc_law.nd rfl (.inl rfl) (pe_ix ix_list (pe_lst (pa_cons (pe_op op_add pe_int (pe_call (ok__law_pick T) (hr.mono (by decide)) (by rfl) T.g__law_pick T.F__law_pick.kp T.b__law_pick .nil pass0 (pa_cons (pv 1) (pa_cons pe_int pa_nil)))) (pa_cons (pe_op op_add pe_int (pe_call (ok__law_pick T) (hr.mono (by decide)) (by rfl) T.g__law_pick T.F__law_pick.kp T.b__law_pick .nil pass0 (pa_cons (pv 1) (pa_cons pe_int pa_nil)))) (pa_cons pe_int pa_nil)))) (pe_call (ok__law_pick T) (hr.mono (by decide)) (by rfl) T.g__law_pick T.F__law_pick.kp T.b__law_pick .nil pass0 (pa_cons (pv 1) (pa_cons pe_int pa_nil))) (fun _ _ => rfl)))
  (pss_cons (ps_set (i := 5) sc_law.nd rfl (.inl rfl) (pe_call (ok__law_short T) (hr.mono (by decide)) (by rfl) T.g__law_short T.F__law_short.kp T.b__law_short .nil pass0 (pa_cons (pv 1) (pa_cons (pv 3) (pa_cons (pe_ix ix_list (pe_lst (pa_cons pe_int (pa_cons pe_int (pa_cons pe_int pa_nil)))) (pe_call (ok__law_pick T) (hr.mono (by decide)) (by rfl) T.g__law_pick T.F__law_pick.kp T.b__law_pick .nil pass0 (pa_cons (pv 1) (pa_cons pe_int pa_nil))) (fun _ _ => rfl)) pa_nil)))))
  (Evl.pss_cut (ps_if (pt_cmpR (op_eqD hr.units) (pv 5) (pe_tup pa_nil) (nomark _)) (pss_one (ps_set (i := 5) sc_law.nd rfl (.inl rfl) (pe_tup (pa_cons (pe_call (ok__law_pick T) (hr.mono (by decide)) (by rfl) T.g__law_pick T.F__law_pick.kp T.b__law_pick .nil pass0 (pa_cons (pv 1) (pa_cons (pe_op op_add (pv 3) pe_int) pa_nil))) pa_nil)))) pss_nil)
  (pss_one (ps_if (pt_not (pt_val (pe_call (ok__law_settles T) (hr.mono (by decide)) (by rfl) T.g__law_settles T.F__law_settles.kp T.b__law_settles .nil pass0 (pa_cons (pv 3) (pa_cons (pv 4) (pa_cons (pv 5) pa_nil)))))) (pss_one (ps_ret pe_bl)) pss_nil)))))))
  (pss_cons (ps_set (i := 6) sc_law.nd rfl (.inl rfl) (pe_call (ok__law_no_comers T) (hr.mono (by decide)) (by rfl) T.g__law_no_comers T.F__law_no_comers.kp T.b__law_no_comers .nil pass0 (pa_cons (pv 1) pa_nil)))
  (pss_cons (ps_set (i := 7) sc_law.nd rfl (.inl rfl) (pe_call (ok__law_no_bound T) (hr.mono (by decide)) (by rfl) T.g__law_no_bound T.F__law_no_bound.kp T.b__law_no_bound .nil pass0 (pa_cons (pv 1) pa_nil)))
  (pss_cons (ps_set (i := 8) sc_law.nd rfl (.inl rfl) (pe_ix ix_list (pe_lst (pa_cons pe_non (pa_cons (pe_lst (pa_cons pe_int pa_nil)) (pa_cons (pe_tup (pa_cons pe_int pa_nil)) (pa_cons (pe_tup (pa_cons (pe_un un_neg pe_int) pa_nil)) (pa_cons (pe_tup (pa_cons pe_bl pa_nil)) (pa_cons (pe_tup (pa_cons pe_int (pa_cons pe_non pa_nil))) (pa_cons pe_str (pa_cons pe_int (pa_cons (pe_op RN6.op_repN (pe_tup (pa_cons pe_int pa_nil)) pe_int) (pa_cons pe_dnewK (pa_cons (pe_tup pa_nil) pa_nil)))))))))))) (pe_call (ok__law_pick T) (hr.mono (by decide)) (by rfl) T.g__law_pick T.F__law_pick.kp T.b__law_pick .nil pass0 (pa_cons (pv 1) (pa_cons pe_int pa_nil))) (fun _ _ => rfl)))
  (pss_cons (ps_set (i := 9) sc_law.nd rfl (.inl rfl) (pe_lst (pa_cons pe_non (pa_cons (pe_lst (pa_cons (pe_tup (pa_cons (pe_tup (pa_cons pe_int pa_nil)) (pa_cons pe_int pa_nil))) pa_nil)) (pa_cons (pe_tup (pa_cons (pe_tup (pa_cons pe_int pa_nil)) (pa_cons pe_int pa_nil))) (pa_cons (pe_tup (pa_cons (pe_tup (pa_cons (pe_tup (pa_cons pe_int pa_nil)) (pa_cons (pe_un un_neg pe_int) pa_nil))) pa_nil)) (pa_cons (pe_tup (pa_cons (pe_tup (pa_cons (pe_tup (pa_cons pe_int pa_nil)) (pa_cons pe_bl pa_nil))) pa_nil)) (pa_cons (pe_tup (pa_cons (pe_tup (pa_cons (pe_tup (pa_cons pe_int pa_nil)) (pa_cons (pe_op op_add (pe_op op_pow pe_int pe_int) pe_int) pa_nil))) pa_nil)) (pa_cons (pe_tup (pa_cons (pe_tup (pa_cons (pe_tup (pa_cons pe_int pa_nil)) (pa_cons pe_int pa_nil))) pa_nil)) (pa_cons (pe_tup (pa_cons (pe_tup (pa_cons (pe_lst (pa_cons pe_int pa_nil)) (pa_cons pe_int pa_nil))) pa_nil)) pa_nil))))))))))
  (pss_cons (ps_set (i := 9) sc_law.nd rfl (.inl rfl) (pe_op op_cat (pv 9) (pe_lst (pa_cons (pe_tup (pa_cons (pe_tup (pa_cons (pe_tup (pa_cons pe_int pa_nil)) (pa_cons pe_int (pa_cons pe_int pa_nil)))) pa_nil)) (pa_cons (pe_tup (pa_cons (pe_tup (pa_cons (pe_op RN6.op_repN (pe_tup (pa_cons pe_int pa_nil)) pe_int) (pa_cons pe_int pa_nil))) pa_nil)) (pa_cons (pe_op RN6.op_repN (pe_tup (pa_cons (pe_tup (pa_cons (pe_tup (pa_cons pe_int pa_nil)) (pa_cons pe_int pa_nil))) pa_nil)) pe_int) (pa_cons (pe_tup (pa_cons (pe_tup (pa_cons (pe_tup (pa_cons pe_int pa_nil)) (pa_cons pe_non pa_nil))) pa_nil)) (pa_cons pe_int (pa_cons pe_str (pa_cons (pe_tup (pa_cons (pe_tup pa_nil) pa_nil)) pa_nil))))))))))
  (pss_cons (ps_set (i := 9) sc_law.nd rfl (.inl rfl) (pe_ix ix_list (pv 9) (pe_call (ok__law_pick T) (hr.mono (by decide)) (by rfl) T.g__law_pick T.F__law_pick.kp T.b__law_pick .nil pass0 (pa_cons (pv 1) (pa_cons pe_int pa_nil))) (fun _ _ => rfl)))
  (pss_cons (ps_for PassesOwn.never rfl (pi_range1 (by rfl) T.m_range (pa_cons pe_int pa_nil)) (pg_name (i := 10) sc_law.nd rfl (.inl rfl))
   (pss_cons (ps_set (i := 11) sc_law.nd rfl (.inl rfl) (pe_ix ix_list (pe_lst (pa_cons (pv 9) (pa_cons (pv 8) pa_nil))) (pe_callTy call_int1 (by rfl) T.m_int (by decide +kernel) (pa_cons (pe_cmpR op_gt (pv 10) pe_int (nomark _)) pa_nil)) (fun _ _ => rfl)))
  (pss_cons (ps_set (i := 12) sc_law.nd rfl (.inl rfl) (pe_ix ix_list (pe_lst (pa_cons (pe_op RN6.op_repN (pe_tup (pa_cons (pe_tup (pa_cons (pe_op RN6.op_repN (pe_tup (pa_cons pe_int pa_nil)) pe_int) (pa_cons (pe_op op_pow pe_int pe_int) pa_nil))) pa_nil)) pe_int) (pa_cons (pe_op RN6.op_repN (pe_tup (pa_cons pe_int pa_nil)) pe_int) pa_nil))) (pe_callTy call_int1 (by rfl) T.m_int (by decide +kernel) (pa_cons (pe_cmpR op_gt (pv 10) pe_int (nomark _)) pa_nil)) (fun _ _ => rfl)))
  (pss_cons (ps_if (PW.pt (pw_or (pt_cmpR op_ne (pe_call (ok__law_word T) (hr.mono (by decide)) (by rfl) T.g__law_word T.F__law_word.kp T.b__law_word .nil pass0 (pa_cons (pv 10) (pa_cons (pv 6) (pa_cons (pv 7) (pa_cons (pv 11) pa_nil))))) pe_str (nomark _)) (pw_or1 (pt_cmpR op_ne (pe_call (ok__law_word T) (hr.mono (by decide)) (by rfl) T.g__law_word T.F__law_word.kp T.b__law_word .nil pass0 (pa_cons (pv 10) (pa_cons pe_int (pa_cons (pv 7) (pa_cons (pv 11) pa_nil))))) pe_str (nomark _))))) (pss_one (ps_ret pe_bl)) pss_nil)
  (pss_one (ps_if (PW.pt (pw_or (pt_cmpR op_ne (pe_call (ok__law_word T) (hr.mono (by decide)) (by rfl) T.g__law_word T.F__law_word.kp T.b__law_word .nil pass0 (pa_cons (pv 10) (pa_cons pe_int (pa_cons pe_int (pa_cons (pv 11) pa_nil))))) pe_str (nomark _)) (pw_or1 (pt_cmpR op_ne (pe_call (ok__law_word T) (hr.mono (by decide)) (by rfl) T.g__law_word T.F__law_word.kp T.b__law_word .nil pass0 (pa_cons (pv 10) (pa_cons pe_int (pa_cons pe_int (pa_cons (pv 12) pa_nil))))) pe_str (nomark _))))) (pss_one (ps_ret pe_bl)) pss_nil))))))
  (pss_one (ps_ret pe_bl)))))))))))) ((pss_cons (ps_set (i := 4) sc__law_word.nd rfl (.inl rfl) pe_str)
  (pss_cons (L2N.ps_try_as (i := 5) (Wout := fun _ _ _ _ => False) rfl rfl sc__law_word.nd rfl rfl ⟨by rfl, by decide, .inl T.g_LoopError⟩ HL11.takes0N (fun W pn xe tk _ => (pss_one (ps_expr (CE12.pe_callE (S := S_four T K) (held_four T) (hr.mono (by decide)) (fun σ => L2N.passAt tk σ) (pe_ix (ixLK (K := K) (by rfl)) (pe_lst (pa_cons (pe_glob (v := .ref T.a_long_line) rfl T.g_long_line rfl) (pa_cons (pe_glob (v := .ref T.a_long_counts) rfl T.g_long_counts rfl) (pa_cons (pe_glob (v := .ref T.a_settled) rfl T.g_settled rfl) (pa_cons (pe_glob (v := .ref T.a_lost_share) rfl T.g_lost_share rfl) pa_nil))))) (pv 0) (fun _ _ => rfl)) (pa_cons (pv 1) (pa_cons (pv 2) (pa_cons (pv 3) pa_nil))))))) (fun a oe cls d pn hz hf => (pss_cons (ps_set (i := 6) sc__law_word.nd rfl (.inl rfl) (pe_lst (pa_cons (pe_callB (EXN.call_isN hz.zc hf) (by rfl) T.m_isinstance (by decide +kernel) (pa_cons (pv 5) (pa_cons (pe_glob (v := .ref T.c_NoComers) rfl T.g_NoComers rfl) pa_nil))) (pa_cons (pe_callB (EXN.call_isN hz.zc hf) (by rfl) T.m_isinstance (by decide +kernel) (pa_cons (pv 5) (pa_cons (pe_glob (v := .ref T.c_NoBound) rfl T.g_NoBound rfl) pa_nil))) (pa_cons (pe_callB (EXN.call_isN hz.zc hf) (by rfl) T.m_isinstance (by decide +kernel) (pa_cons (pv 5) (pa_cons (pe_glob (v := .ref T.c_NoLong) rfl T.g_NoLong rfl) pa_nil))) pa_nil)))))
  (pss_cons (ps_set (i := 4) sc__law_word.nd rfl (.inl rfl) pe_str)
  (pss_one (ps_if (pt_cmpR op_eq (EXN.pe_bmK (K := K) (by rfl) PySem.F.plainAttrs_list PySem.F.slot_list_count PySem.F.type_list_count (mt_countFK (K := K) (by rfl)) (pv 6) (pa_cons pe_bl pa_nil)) pe_int (nomark _)) (pss_one (ps_set (i := 4) sc__law_word.nd rfl (.inl rfl) (pe_ix (ixLK (K := K) (by rfl)) (pe_lst (pa_cons pe_str (pa_cons pe_str (pa_cons pe_str pa_nil)))) (EXN.pe_bmK (K := K) (by rfl) PySem.F.plainAttrs_list PySem.F.slot_list_index PySem.F.type_list_index (mt_indexK (K := K) (by rfl)) (pv 6) (pa_cons pe_bl pa_nil)) (fun _ _ => rfl)))) pss_nil))))))
  (pss_one (ps_ret (pv 4)))))) ((pss_cons (ps_set (i := 3) sc__law_settles.nd rfl (.inr rfl) (pe_lst (pa_cons pe_int pa_nil)))
  (pss_cons (ps_for PassesOwn.never rfl (pi_range1 (by rfl) T.m_range (pa_cons pe_int pa_nil)) (pg_name (i := 4) sc__law_settles.nd rfl (.inl rfl))
   (pss_one (ps_expr (pe_bm PySem.F.plainAttrs_list PySem.F.slot_list_append PySem.F.type_list_append mt_append (pv 3) (pa_cons (pe_ix ix_tup (pe_call (ok__law_round T) (hr.mono (by decide)) (by rfl) T.g__law_round T.F__law_round.kp T.b__law_round .nil pass0 (pa_cons (pv 1) (pa_cons (pe_ix ix_list (pv 3) (pe_un un_neg pe_int) (fun _ _ => rfl)) (pa_cons (pv 2) pa_nil)))) pe_int (fun _ _ => rfl)) pa_nil)))))
  (pss_cons (ps_if (PW.pt (pw_or (pt_cmpR op_gt (pe_callB call_len_seq (by rfl) T.m_len PySem.boot_len (pa_cons (pe_lc (own := [("k", 12)]) (g := (gName 12)) rfl sc__law_settles.nd (pi_range1 (by rfl) T.m_range (pa_cons pe_int pa_nil)) (blkOk_by (own := [("k", 12)]) (N := ["comers", "bound", "comings", "rows", "turn", "rounds", "told", "away", "due", "part", "times", "first", "k"]) (sc := defScope s__law_settles) (by decide +kernel)) (fun _ _ _ _ _ => pg_name (i := 12) sc__law_settles.nd rfl (.inl rfl)) (fun _ _ _ _ _ => (pts_one (pt_cmpR op_gt (pe_ix (ixLK (K := K) (by rfl)) (pv 3) (pv 12) (fun _ _ => rfl)) (pe_ix (ixLK (K := K) (by rfl)) (pv 3) (pe_op op_add (pv 12) pe_int) (fun _ _ => rfl)) (nomark _)))) (fun _ _ _ _ _ => (pv 12))) pa_nil)) pe_int (nomark _)) (pw_or1 (pt_cmpR op_ne (pe_ix ix_list (pv 3) pe_int (fun _ _ => rfl)) (pe_ix ix_list (pv 3) pe_int (fun _ _ => rfl)) (nomark _))))) (pss_one (ps_ret pe_bl)) pss_nil)
  (pss_cons (ps_set (i := 5) sc__law_settles.nd rfl (.inl rfl) (pe_bm PySem.F.plainAttrs_list PySem.F.slot_list_index PySem.F.type_list_index mt_index (pv 3) (pa_cons (pe_ix ix_list (pv 3) pe_int (fun _ _ => rfl)) pa_nil)))
  (pss_cons (ps_set (i := 6) sc__law_settles.nd rfl (.inl rfl) (pe_call (ok_settled T) (hr.mono (by decide)) (by rfl) T.g_settled T.F_settled.kp T.b_settled .nil pass0 (pa_cons (pv 0) (pa_cons (pv 1) (pa_cons (pv 2) pa_nil)))))
  (pss_cons (ps_if (PW.pt (pw_or (pt_cmpR (op_neD hr.units) (pv 6) (pe_tup (pa_cons (pv 5) (pa_cons (pe_ix ix_list (pv 3) pe_int (fun _ _ => rfl)) pa_nil))) (nomark _)) (pw_or (pt_not (pt_val (pe_callB call_isi (by rfl) T.m_isinstance (by decide +kernel) (pa_cons (pv 6) (pa_cons (pe_bltn (v := .ty "tuple") (by rfl) T.m_tuple (by decide +kernel) rfl) pa_nil))))) (pw_or (pt_val (pe_callB call_isi (by rfl) T.m_isinstance (by decide +kernel) (pa_cons (pe_ix ix_tup (pv 6) pe_int (fun _ _ => rfl)) (pa_cons (pe_bltn (v := .ty "bool") (by rfl) T.m_bool (by decide +kernel) rfl) pa_nil)))) (pw_or1 (pt_val (pe_callB call_isi (by rfl) T.m_isinstance (by decide +kernel) (pa_cons (pe_ix ix_tup (pv 6) pe_int (fun _ _ => rfl)) (pa_cons (pe_bltn (v := .ty "bool") (by rfl) T.m_bool (by decide +kernel) rfl) pa_nil))))))))) (pss_one (ps_ret pe_bl)) pss_nil)
  (pss_cons (ps_set (i := 7) sc__law_settles.nd rfl (.inl rfl) (pe_ix ix_tup (pe_call (ok__law_round T) (hr.mono (by decide)) (by rfl) T.g__law_round T.F__law_round.kp T.b__law_round .nil pass0 (pa_cons (pv 1) (pa_cons (pe_ix ix_list (pv 3) pe_int (fun _ _ => rfl)) (pa_cons (pv 2) pa_nil)))) pe_int (fun _ _ => rfl)))
  (pss_cons (ps_set (i := 8) sc__law_settles.nd rfl (.inl rfl) (pe_tup (pa_cons pe_int (pa_cons pe_int pa_nil))))
  (Evl.pss_cut (ps_if (pt_cmpR op_gt (pe_callB (cr_sumT rfl) (by rfl) T.m_sum (by decide +kernel) (pa_cons (pv 2) pa_nil)) pe_int (nomark _)) (pss_cons (ps_set (i := 9) sc__law_settles.nd rfl (.inl rfl) (pe_call (ok__law_common T) (hr.mono (by decide)) (by rfl) T.g__law_common T.F__law_common.kp T.b__law_common .nil pass0 (pa_cons (pv 7) (pa_cons (pe_callB (cr_sumT rfl) (by rfl) T.m_sum (by decide +kernel) (pa_cons (pv 2) pa_nil)) pa_nil))))
  (pss_one (ps_set (i := 8) sc__law_settles.nd rfl (.inl rfl) (pe_tup (pa_cons (pe_op op_fdivW (pv 7) (pv 9)) (pa_cons (pe_op op_fdivW (pe_callB (cr_sumT rfl) (by rfl) T.m_sum (by decide +kernel) (pa_cons (pv 2) pa_nil)) (pv 9)) pa_nil)))))) pss_nil)
  (pss_cons (ps_if (pt_cmpR (op_neD hr.units) (pe_call (ok_lost_share T) (hr.mono (by decide)) (by rfl) T.g_lost_share T.F_lost_share.kp T.b_lost_share .nil pass0 (pa_cons (pv 0) (pa_cons (pv 1) (pa_cons (pv 2) pa_nil)))) (pv 8) (nomark _)) (pss_one (ps_ret pe_bl)) pss_nil)
  (pss_cons (ps_for PassesOwn.never rfl (pi_list (pe_lst (pa_cons (pv 5) (pa_cons (pe_op op_add (pv 5) pe_int) (pa_cons (pe_op op_sub (pe_op op_add (pv 5) (pe_op op_pow pe_int pe_int)) pe_int) pa_nil))))) (pg_name (i := 10) sc__law_settles.nd rfl (.inl rfl))
   (pss_cons (ps_set (i := 11) sc__law_settles.nd rfl (.inl rfl) (pe_call (ok_long_counts T) (hr.mono (by decide)) (by rfl) T.g_long_counts T.F_long_counts.kp T.b_long_counts .nil pass0 (pa_cons (pv 0) (pa_cons (pv 1) (pa_cons (pe_tup (pa_cons (pe_tup (pa_cons (pv 2) (pa_cons (pv 5) pa_nil))) pa_nil)) pa_nil)))))
  (pss_cons (ps_if (pt_cmpR op_ne (pe_call (ok_long_line T) (hr.mono (by decide)) (by rfl) T.g_long_line T.F_long_line.kp T.b_long_line .nil pass0 (pa_cons (pv 0) (pa_cons (pv 1) (pa_cons (pe_tup (pa_cons (pe_tup (pa_cons (pv 2) (pa_cons (pv 10) pa_nil))) pa_nil)) pa_nil)))) (pe_ix ix_list (pv 3) pe_int (fun _ _ => rfl)) (nomark _)) (pss_one (ps_ret pe_bl)) pss_nil)
  (pss_one (ps_if (pt_cmpR op_ne (pe_op op_sub (pe_ix ix_tup (pe_call (ok_long_counts T) (hr.mono (by decide)) (by rfl) T.g_long_counts T.F_long_counts.kp T.b_long_counts .nil pass0 (pa_cons (pv 0) (pa_cons (pv 1) (pa_cons (pe_tup (pa_cons (pe_tup (pa_cons (pv 2) (pa_cons (pv 10) pa_nil))) pa_nil)) pa_nil)))) pe_int (fun _ _ => rfl)) (pe_ix ix_tup (pv 11) pe_int (fun _ _ => rfl))) (pe_op op_mul (pv 7) (pe_op op_sub (pv 10) (pv 5))) (nomark _)) (pss_one (ps_ret pe_bl)) pss_nil)))))
  (pss_one (ps_ret pe_bl)))))))))))))) ((pss_cons (ps_for PassesOwn.never rfl (pi_range1 (by rfl) T.m_range (pa_cons pe_int pa_nil)) (pg_name (i := 2) sc__law_common.nd rfl (.inl rfl))
   (pss_one (ps_if (pt_cmpR op_gt (pv 1) pe_int (nomark _)) (pss_one (ps_par (i := 0) (j := 1) (by rfl) sc__law_common.nd rfl rfl (by decide) (by rfl) (by rfl) (pa_cons (pv 1) (pa_cons (pe_op op_modN (pe_callTy call_int1 (by rfl) T.m_int (by decide +kernel) (pa_cons (pv 0) pa_nil)) (pv 1)) pa_nil)) (by rfl))) pss_nil)))
  (pss_one (ps_ret (pv 0))))) ((pss_one (ps_ret (pe_ix ix_list (pe_lst (pa_cons pe_int (pa_cons pe_int (pa_cons (pe_un un_neg pe_int) (pa_cons pe_non (pa_cons pe_bl (pa_cons pe_str (pa_cons (pe_tup (pa_cons pe_int pa_nil)) (pa_cons (pe_op op_pow pe_int pe_int) pa_nil))))))))) (pe_call (ok__law_pick T) (hr.mono (by decide)) (by rfl) T.g__law_pick T.F__law_pick.kp T.b__law_pick .nil pass0 (pa_cons (pv 0) (pa_cons pe_int pa_nil))) (fun _ _ => rfl))))) ((pss_one (ps_ret (pe_ix ix_list (pe_lst (pa_cons pe_int (pa_cons pe_int (pa_cons pe_int (pa_cons (pe_un un_neg pe_int) (pa_cons pe_non (pa_cons pe_bl (pa_cons pe_str (pa_cons (pe_tup (pa_cons pe_int pa_nil)) (pa_cons (pe_op op_pow pe_int pe_int) pa_nil)))))))))) (pe_call (ok__law_pick T) (hr.mono (by decide)) (by rfl) T.g__law_pick T.F__law_pick.kp T.b__law_pick .nil pass0 (pa_cons (pv 0) (pa_cons pe_int pa_nil))) (fun _ _ => rfl))))) ((pss_cons (ps_set (i := 3) sc__law_round.nd rfl (.inl rfl) pe_int)
  (pss_cons (ps_set (i := 4) sc__law_round.nd rfl (.inl rfl) pe_int)
  (pss_cons (ps_for PassesOwn.never rfl (pi_tup (pv 2)) (pg_name (i := 5) sc__law_round.nd rfl (.inl rfl))
   (pss_cons (ps_for PassesOwn.never rfl (pi_range1 (by rfl) T.m_range (pa_cons (pv 5) pa_nil)) (pg_name (i := 6) sc__law_round.nd rfl (.inl rfl))
   (pss_one (ps_if (pt_cmpR op_gt (pv 1) (pv 0) (nomark _)) (pss_one (ps_set (i := 4) sc__law_round.nd rfl (.inl rfl) (pe_op op_add (pv 4) pe_int))) (pss_one (ps_set (i := 1) sc__law_round.nd rfl (.inl rfl) (pe_op op_add (pv 1) pe_int))))))
  (pss_one (ps_if (pt_cmpR op_gt (pv 1) pe_int (nomark _)) (pss_cons (ps_set (i := 1) sc__law_round.nd rfl (.inl rfl) (pe_op op_sub (pv 1) pe_int))
  (pss_one (ps_set (i := 3) sc__law_round.nd rfl (.inl rfl) (pe_op op_add (pv 3) pe_int)))) pss_nil))))
  (pss_one (ps_ret (pe_tup (pa_cons (pv 1) (pa_cons (pv 3) (pa_cons (pv 4) pa_nil)))))))))) ((pss_cons (ps_set (i := 3) sc__law_short.nd rfl (.inl rfl) (pe_call (ok__law_pick T) (hr.mono (by decide)) (by rfl) T.g__law_pick T.F__law_pick.kp T.b__law_pick .nil pass0 (pa_cons (pv 0) (pa_cons pe_int pa_nil))))
  (pss_cons (ps_set (i := 4) sc__law_short.nd rfl (.inl rfl) (pe_lst pa_nil))
  (pss_cons (ps_for PassesOwn.never rfl (pi_range1 (by rfl) T.m_range (pa_cons (pe_call (ok__law_pick T) (hr.mono (by decide)) (by rfl) T.g__law_pick T.F__law_pick.kp T.b__law_pick .nil pass0 (pa_cons (pv 0) (pa_cons (pe_op op_add (pv 2) pe_int) pa_nil))) pa_nil)) (pg_name (i := 5) sc__law_short.nd rfl (.inl rfl))
   (pss_cons (ps_set (i := 6) sc__law_short.nd rfl (.inl rfl) (pe_call (ok__law_pick T) (hr.mono (by decide)) (by rfl) T.g__law_pick T.F__law_pick.kp T.b__law_pick .nil pass0 (pa_cons (pv 0) (pa_cons (pe_op op_add (pv 1) pe_int) pa_nil))))
  (Evl.pss_cut (ps_if (PW.pt (pw_and (pt_cmpR op_eq (pv 3) pe_int (nomark _)) (pw_and1 (pt_cmpR op_eq (pe_call (ok__law_pick T) (hr.mono (by decide)) (by rfl) T.g__law_pick T.F__law_pick.kp T.b__law_pick .nil pass0 (pa_cons (pv 0) (pa_cons pe_int pa_nil))) pe_int (nomark _))))) (pss_one (ps_set (i := 6) sc__law_short.nd rfl (.inl rfl) pe_int)) pss_nil)
  (Evl.pss_cut (ps_if (PW.pt (pw_and (pt_cmpR op_eq (pv 3) pe_int (nomark _)) (pw_and1 (pt_cmpR op_eq (pe_call (ok__law_pick T) (hr.mono (by decide)) (by rfl) T.g__law_pick T.F__law_pick.kp T.b__law_pick .nil pass0 (pa_cons (pv 0) (pa_cons pe_int pa_nil))) pe_int (nomark _))))) (pss_one (ps_set (i := 6) sc__law_short.nd rfl (.inl rfl) (pv 1))) pss_nil)
  (pss_one (ps_expr (pe_bm PySem.F.plainAttrs_list PySem.F.slot_list_append PySem.F.type_list_append mt_append (pv 4) (pa_cons (pv 6) pa_nil))))))))
  (pss_one (ps_ret (pe_callTy call_tuple_of (by rfl) T.m_tuple (by decide +kernel) (pa_cons (pv 4) pa_nil)))))))) -/
def tv (l : Ln.Let) : List V := [.int l.1, .int l.2.1, wv l.2.2]
/-- comings that are right -/
def Rt (k : Int) (cs : List Int) : Prop := cs.length ≤ 400 ∧ ∀ c ∈ cs, 0 ≤ c ∧ c ≤ k
theorem Rt.four {k : Int} {cs : List Int} (h : Rt k cs) (hk : k ≤ 4) : ∀ c ∈ cs, c ≤ 4 := fun c hc => by
  have := h.2 c hc
  omega
theorem Rt.all {k : Int} {cs : List Int} (h : Rt k cs) : (cs.all fun n => decide (0 ≤ n) && decide (n ≤ k)) = true := by
  rw [List.all_eq_true]
  intro n hn
  have := h.2 n hn
  rw [Bool.and_eq_true]
  exact ⟨decide_eq_true this.1, decide_eq_true this.2⟩

section
variable {P : Program} {w : World} {K : PySem.W.Frag} {mg : Str → Option Value} {base : Heap}
def spTape (K : PySem.W.Frag) : Sp := fun vs H Q _ => ∃ (a : Addr) (ns : List Int), vs = [.ref a] ∧ SqL K H a (ns.map V.int) ∧ ∀ t s H', H t = none → H s = none → Same H H' → Tape H' t s → Q (.ref t) H'
theorem ok__law_tape (T : Tx K mg) : FnOk P w K mg base CX0 1 T.a__law_tape T.d__law_tape ["script"] (spTape K) := by
  refine T.F__law_tape.ok sc__law_tape (fun vs H Q E h => ?_) (fun cdv A outer s H vs Q E hr h => ?_)
  · obtain ⟨a, ns, rfl, _⟩ := h
    rfl
  · obtain ⟨a, ns, rfl, hS, q⟩ := h
    refine ⟨_, ((pss_one (ps_ret (pe_lst (pa_cons (pe_callTy call_list_of (by rfl) T.m_list (by decide +kernel) (pa_cons (pv 0) pa_nil)) (pa_cons pe_int (pa_cons pe_int (pa_cons pe_int (pa_cons pe_int pa_nil))))))))), ?_⟩
    refine ⟨.ref a, rfl, a, _, rfl, .inl hS, fun l nl => ?_⟩
    refine ⟨by show 5 ≤ sizeLine; decide, fun t nt => ?_⟩
    have nlt : l ≠ t := fun e => by
      rw [← e, upd_same] at nt
      cases nt
    have s1 : Same H (upd H l (.lst (ns.map V.int))) := same_upd nl
    refine q t l _ (Same.free s1 nt) nl (s1.trans (same_upd nt)) ⟨ns, 0, 0, 1, 0, nlt, upd_same, ?_, by decide⟩
    rw [upd_ne nlt, upd_same]
def spPick (K : PySem.W.Frag) : Sp := fun vs H Q _ => ∃ (t s : Addr) (n : Int), vs = [.ref t, .int n] ∧ (0 < n ∧ n < 2 ^ 60) ∧ Tape H t s ∧ ∀ r H', 0 ≤ r → r < n → Moved t H H' → Tape H' t s → Q (.int r) H'
theorem fm_of {a b : Int} (h : 0 < b) : 0 ≤ a.fmod b ∧ a.fmod b < b := by
  rw [Int.fmod_eq_emod_of_nonneg a (Int.le_of_lt h)]
  exact ⟨Int.emod_nonneg a (by omega), Int.emod_lt_of_pos a h⟩
theorem ok__law_pick (T : Tx K mg) : FnOk P w K mg base CX0 1 T.a__law_pick T.d__law_pick ["tape", "size"] (spPick K) := by
  refine T.F__law_pick.ok sc__law_pick (fun vs H Q E h => ?_) (fun cdv A outer s H vs Q E hr h => ?_)
  · obtain ⟨t, l, n, rfl, _⟩ := h
    rfl
  · obtain ⟨t, l, n, rfl, ⟨hn, hn2⟩, ⟨ns, pos, rest, mx, ct, hlt, ht, hl, hp⟩, q⟩ := h
    have wd : ∀ i : Int, CDivW i n := fun i => wide_div hn (b := 60) (by omega) (by decide) (by decide)
    refine ⟨_, ((pss_cons (ps_if (pt_cmpR op_gt (pe_ix ix_list (pv 0) pe_int (fun _ _ => rfl)) pe_int (nomark _)) (pss_cons (ps_set (i := 2) sc__law_pick.nd rfl (.inl rfl) (pe_op op_modN (pe_callTy call_int1 (by rfl) T.m_int (by decide +kernel) (pa_cons (pe_ix ix_list (pv 0) pe_int (fun _ _ => rfl)) pa_nil)) (pv 1)))
  (pss_cons (ps_asg (pe_op op_fdivW (pe_ix ix_list (pv 0) pe_int (fun _ _ => rfl)) (pv 1)) (pg_sub (pv 0) pe_int set_list))
  (pss_one (ps_ret (pv 2))))) pss_nil)
  (pss_cons (ps_asg (pe_op op_add (pe_ix ix_list (pv 0) pe_int (fun _ _ => rfl)) pe_int) (pg_sub (pv 0) pe_int set_list))
  (pss_cons (ps_set (i := 3) sc__law_pick.nd rfl (.inl rfl) pe_int)
  (Evl.pss_cut (ps_if (pt_cmpR op_lt (pe_ix ix_list (pv 0) pe_int (fun _ _ => rfl)) (pe_callB call_len_seq (by rfl) T.m_len PySem.boot_len (pa_cons (pe_ix ix_list (pv 0) pe_int (fun _ _ => rfl)) pa_nil)) (nomark _)) (pss_cons (ps_set (i := 3) sc__law_pick.nd rfl (.inl rfl) (pe_ix ix_list (pe_ix ix_list (pv 0) pe_int (fun _ _ => rfl)) (pe_ix ix_list (pv 0) pe_int (fun _ _ => rfl)) (fun _ _ => rfl)))
  (pss_one (ps_asg (pe_op op_add (pe_ix ix_list (pv 0) pe_int (fun _ _ => rfl)) pe_int) (pg_sub (pv 0) pe_int set_list)))) pss_nil)
  (pss_cons (ps_if (pt_cmpR op_ge (pv 3) (pe_op op_pow pe_int pe_int) (nomark _)) (pss_cons (ps_asg (pe_op op_fdivW (pv 3) (pv 1)) (pg_sub (pv 0) pe_int set_list))
  (pss_one (ps_ret (pe_op op_modN (pe_callTy call_int1 (by rfl) T.m_int (by decide +kernel) (pa_cons (pv 3) pa_nil)) (pv 1))))) pss_nil)
  (pss_cons (ps_set (i := 4) sc__law_pick.nd rfl (.inl rfl) (pe_op op_modN (pe_callTy call_int1 (by rfl) T.m_int (by decide +kernel) (pa_cons (pe_op op_add (pe_op op_add (pe_op op_mul (pe_ix ix_list (pv 0) pe_int (fun _ _ => rfl)) pe_int) (pe_op op_modN (pe_callTy call_int1 (by rfl) T.m_int (by decide +kernel) (pa_cons (pv 3) pa_nil)) pe_int)) (pe_op op_mul (pe_ix ix_list (pv 0) pe_int (fun _ _ => rfl)) pe_int)) pa_nil)) pe_int))
  (pss_cons (ps_set (i := 4) sc__law_pick.nd rfl (.inl rfl) (pe_op op_modN (pe_callTy call_int1 (by rfl) T.m_int (by decide +kernel) (pa_cons (pe_op op_mul (pv 4) (pe_op op_add (pe_op op_fdivW (pv 4) pe_int) pe_int)) pa_nil)) pe_int))
  (pss_cons (ps_asg (pv 4) (pg_sub (pv 0) pe_int set_list))
  (pss_one (ps_ret (pe_op op_modN (pe_callTy call_int1 (by rfl) T.m_int (by decide +kernel) (pa_cons (pe_op op_fdivW (pv 4) pe_int) pa_nil)) (pv 1))))))))))))), ?_⟩
    -- tape[2] > 1
    refine ⟨.ref t, rfl, t, _, 2, _, rfl, rfl, SqL.of ht, atI_nat (j := 2) rfl, _, _, rfl, rfl, _, rfl, ite2 (fun h1 => ?_) (fun h1 => ?_)⟩
    · -- digit
      refine ⟨.ref t, rfl, t, _, 2, _, rfl, rfl, SqL.of ht, atI_nat (j := 2) rfl, .inl ⟨_, rfl, ?_⟩⟩
      refine ⟨.int n, rfl, _, _, rfl, rfl, by omega, ?_⟩
      -- tape[2] = tape[2] // size
      refine ⟨.ref t, rfl, t, _, 2, _, rfl, rfl, SqL.of ht, atI_nat (j := 2) rfl, .int n, rfl, _, _, rfl, rfl, wd _, ?_⟩
      refine ⟨.ref t, rfl, t, _, 2, 2, rfl, rfl, ht, rfl, ?_⟩
      -- return digit
      refine ⟨_, rfl, ?_⟩
      refine q _ _ (fm_of hn).1 (fm_of hn).2 Moved.upd ⟨ns, pos, _, mx, ct, hlt, upd_same, ?_, hp⟩
      rw [upd_ne hlt]
      exact hl
    · -- tape[4] = tape[4] + 1
      refine ⟨.ref t, rfl, t, _, 4, _, rfl, rfl, SqL.of ht, atI_nat (j := 4) rfl, _, _, rfl, rfl, ?_⟩
      refine ⟨.ref t, rfl, t, _, 4, 4, rfl, rfl, ht, rfl, ?_⟩
      -- cell = 0; the first cut
      refine ⟨fun σ' H1 => ∃ (cell p2 : Int) (σ3 σ4 : Option V), σ' = [some (.ref t), some (.int n), σ3, some (.int cell), σ4] ∧ 0 ≤ p2 ∧ H1 t = some (.lst [.ref l, .int p2, .int rest, .int mx, .int (ct + 1)]) ∧ H1 l = some (.lst (ns.map V.int)) ∧ Moved t H H1, ?_, fun σ' H1 hm => ?_⟩
      · have hl1 : (upd H t (.lst [.ref l, .int pos, .int rest, .int mx, .int (ct + 1)])) l = some (.lst (ns.map V.int)) := by
          rw [upd_ne hlt]
          exact hl
        refine ⟨.ref t, rfl, t, _, 1, _, rfl, rfl, SqL.of upd_same, atI_nat (j := 1) rfl, .ref t, rfl, t, _, 0, _, rfl, rfl, SqL.of upd_same, atI_nat (j := 0) rfl, l, _, rfl, .inl (SqL.of hl1), _, _, rfl, rfl, _, rfl, ite2 (fun h2 => ?_) (fun h2 => ?_)⟩
        · have h3 : pos < ((ns.map V.int).length : Int) := of_decide_eq_true h2
          obtain ⟨j, rfl⟩ : ∃ j : Nat, pos = (j : Int) := ⟨pos.toNat, by omega⟩
          have hj : j < ns.length := by
            rw [List.length_map] at h3
            omega
          have gj : (ns.map V.int)[j]? = some (.int ns[j]) := by
            rw [List.getElem?_map, List.getElem?_eq_getElem hj]
            rfl
          -- cell = tape[0][tape[1]]
          refine ⟨.ref t, rfl, t, _, 0, _, rfl, rfl, SqL.of upd_same, atI_nat (j := 0) rfl, .ref t, rfl, t, _, 1, _, rfl, rfl, SqL.of upd_same, atI_nat (j := 1) rfl, l, _, _, _, rfl, rfl, SqL.of hl1, atI_nat gj, ?_⟩
          -- tape[1] = tape[1] + 1
          refine ⟨.ref t, rfl, t, _, 1, _, rfl, rfl, SqL.of upd_same, atI_nat (j := 1) rfl, _, _, rfl, rfl, ?_⟩
          refine ⟨.ref t, rfl, t, _, 1, 1, rfl, rfl, upd_same, rfl, ?_⟩
          rw [upd_upd]
          exact ⟨_, _, _, _, rfl, by omega, upd_same, (by rw [upd_ne hlt]; exact hl), Moved.upd⟩
        · exact ⟨_, _, _, _, rfl, hp, upd_same, hl1, Moved.upd⟩
      · obtain ⟨cell, p2, σ3, σ4, rfl, hp2, ht1, hl1, mv⟩ := hm
        -- cell >= 10 ** 18
        refine ⟨.int cell, rfl, 10, 18, rfl, rfl, ⟨by decide, by decide, by decide⟩, _, _, rfl, rfl, _, rfl, ite2 (fun h2 => ?_) (fun h2 => ?_)⟩
        · refine ⟨.int cell, rfl, .int n, rfl, _, _, rfl, rfl, wd _, .ref t, rfl, t, _, 2, 2, rfl, rfl, ht1, rfl, ?_⟩
          refine ⟨.int cell, rfl, .inl ⟨_, rfl, .int n, rfl, _, _, rfl, rfl, by omega, ?_⟩⟩
          refine q _ _ (fm_of hn).1 (fm_of hn).2 (mv.trans Moved.upd) ⟨ns, p2, _, mx, _, hlt, upd_same, ?_, hp2⟩
          rw [upd_ne hlt]
          exact hl1
        · -- mixed = ..
          refine ⟨.ref t, rfl, t, _, 3, _, rfl, rfl, SqL.of ht1, atI_nat (j := 3) rfl, _, _, rfl, rfl, .inr ⟨by decide, by decide⟩, ?_⟩
          refine ⟨.int cell, rfl, .inl ⟨_, rfl, _, _, rfl, rfl, (by show (2147483629 : Int) ≠ 0; decide), _, _, rfl, rfl, ?_⟩⟩
          refine ⟨.ref t, rfl, t, _, 4, _, rfl, rfl, SqL.of ht1, atI_nat (j := 4) rfl, _, _, rfl, rfl, .inr ⟨by decide, by decide⟩, _, _, rfl, rfl, ?_⟩
          refine .inl ⟨_, rfl, _, _, rfl, rfl, (by show (2147483647 : Int) ≠ 0; decide), ?_⟩
          have bm := fm_of (a := mx * 48271 + cell.fmod 2147483629 + (ct + 1) * 69621) (b := 2147483647) (by decide)
          -- mixed = int(mixed * ..) % ..
          refine ⟨_, rfl, _, rfl, _, _, rfl, rfl, ⟨by decide, by decide⟩, _, _, rfl, rfl, _, _, rfl, rfl, .inl ⟨Int.lt_of_lt_of_le (by decide) bm.1, Int.lt_trans bm.2 (by decide)⟩, .inl ⟨_, rfl, _, _, rfl, rfl, (by show (2147483399 : Int) ≠ 0; decide), ?_⟩⟩
          -- tape[3] = mixed
          refine ⟨_, rfl, .ref t, rfl, t, _, 3, 3, rfl, rfl, ht1, rfl, ?_⟩
          refine ⟨_, rfl, _, _, rfl, rfl, ⟨by decide, by decide⟩, .inl ⟨_, rfl, .int n, rfl, _, _, rfl, rfl, by omega, ?_⟩⟩
          refine q _ _ (fm_of hn).1 (fm_of hn).2 (mv.trans Moved.upd) ⟨ns, p2, _, _, _, hlt, upd_same, ?_, hp2⟩
          rw [upd_ne hlt]
          exact hl1
end

section
variable {P : Program} {w : World} {K : PySem.W.Frag} {mg : Str → Option Value} {base : Heap}
def spIsInt (K : PySem.W.Frag) : Sp := fun vs H Q _ => ∃ i : Int, vs = [.int i] ∧ Q (.bl true) H
theorem ok_is_integer (T : Tx K mg) : FnOk P w K mg base CX0 1 T.a_is_integer T.d_is_integer ["thing"] (spIsInt K) := by
  refine T.F_is_integer.ok sc_is_integer (fun vs H Q E h => ?_) (fun cdv A outer s H vs Q E hr h => ?_)
  · obtain ⟨i, rfl, _⟩ := h
    rfl
  · obtain ⟨i, rfl, q⟩ := h
    refine ⟨_, ((pss_one (ps_ret (pe_and (pe_callB call_isi (by rfl) T.m_isinstance (by decide +kernel) (pa_cons (pv 0) (pa_cons (pe_bltn (v := .ty "int") (by rfl) T.m_int (by decide +kernel) rfl) pa_nil))) (pe_one (pe_not (pe_callB call_isi (by rfl) T.m_isinstance (by decide +kernel) (pa_cons (pv 0) (pa_cons (pe_bltn (v := .ty "bool") (by rfl) T.m_bool (by decide +kernel) rfl) pa_nil))))))))), ?_⟩
    refine ⟨.int i, rfl, .int i, .ty "int", _, _, true, rfl, .ty _, .base (.int i), kit_ty (by decide +kernel), true, rfl, iteT ?_⟩
    refine ⟨.int i, rfl, .int i, .ty "bool", _, _, false, rfl, .ty _, .base (.int i), kit_ty (by decide +kernel), false, rfl, ?_⟩
    exact q
def spIsNum (K : PySem.W.Frag) : Sp := fun vs H Q _ => ∃ i a b : Int, vs = [.int i, .int a, .int b] ∧ Q (.bl (decide (a ≤ i) && decide (i ≤ b))) H
theorem ok_is_number (T : Tx K mg) : FnOk P w K mg base CX0 2 T.a_is_number T.d_is_number ["thing", "least", "most"] (spIsNum K) := by
  refine T.F_is_number.ok sc_is_number (fun vs H Q E h => ?_) (fun cdv A outer s H vs Q E hr h => ?_)
  · obtain ⟨i, a, b, rfl, _⟩ := h
    rfl
  · obtain ⟨i, a, b, rfl, q⟩ := h
    refine ⟨_, ((pss_one (ps_ret (pe_and (pe_call (ok_is_integer T) (hr.mono (by decide)) (by rfl) T.g_is_integer T.F_is_integer.kp T.b_is_integer .nil pass0 (pa_cons (pv 0) pa_nil)) (pe_one (pe_chain op_le op_le (pv 1) (pv 0) (pv 2))))))), ?_⟩
    refine ⟨.int i, rfl, i, rfl, true, rfl, iteT ?_⟩
    refine ⟨.int a, rfl, .int i, rfl, a, i, rfl, rfl, _, rfl, ?_⟩
    by_cases h : a ≤ i
    · rw [decide_eq_true h] at q ⊢
      refine iteT ⟨.int b, rfl, i, b, rfl, rfl, ?_⟩
      exact q
    · rw [decide_eq_false h] at q ⊢
      exact iteF q
def spAreNums (K : PySem.W.Frag) : Sp := fun vs H Q _ => ∃ (a : Addr) (ns : List Int) (lo hi : Int), vs = [.ref a, .int lo, .int hi] ∧ SqT K H a (ns.map V.int) ∧ ns.length ≤ 1000 ∧
  ∀ H', Same H H' → Q (.bl (ns.all fun n => decide (lo ≤ n) && decide (n ≤ hi))) H'
theorem ok_are_numbers (T : Tx K mg) : FnOk P w K mg base CX0 3 T.a_are_numbers T.d_are_numbers ["things", "least", "most"] (spAreNums K) := by
  refine T.F_are_numbers.ok sc_are_numbers (fun vs H Q E h => ?_) (fun cdv A outer s H vs Q E hr h => ?_)
  · obtain ⟨a, ns, lo, hi, rfl, _⟩ := h
    rfl
  · obtain ⟨a, ns, lo, hi, rfl, hT, hlen, q⟩ := h
    refine ⟨_, ((pss_one (ps_ret (pe_callB (cr_all rfl) (by rfl) T.m_all (by decide +kernel) (pa_cons (pe_lc (own := [("thing", 3)]) (g := (gName 3)) (tt := tYes) rfl sc_are_numbers.nd (pi_tup (pv 0)) (blkOk_by (own := [("thing", 3)]) (N := ["things", "least", "most", "thing"]) (sc := defScope s_are_numbers) (by decide +kernel)) (fun _ _ _ _ _ => pg_name (i := 3) sc_are_numbers.nd rfl (.inl rfl)) (fun _ _ _ _ _ => pts_nil) (fun _ _ _ _ _ => (pe_call (ok_is_number T) (hr.mono (by decide)) (by rfl) T.g_is_number T.F_is_number.kp T.b_is_number .nil pass0 (pa_cons (pv 3) (pa_cons (pv 1) (pa_cons (pv 2) pa_nil)))))) pa_nil))))), ?_⟩
    refine ⟨.ref a, rfl, a, rfl, ⟨_, hT⟩, fun D hD => lc_tup (K := K) (a := a) (xs := ns.map V.int)
      (fun i H' => Same H H' ∧ H D = none ∧ H' D = some (.lst (((ns.take i).map fun n => decide (lo ≤ n) && decide (n ≤ hi)).map V.bl)))
      ⟨same_upd hD, hD, upd_same⟩ (fun i H' _ p => sT p.1 hT) (fun i x H' hx p => ?_) (fun H' p => ?_)⟩
    · obtain ⟨sm, nD, eD⟩ := p
      rw [List.getElem?_map] at hx
      obtain ⟨n, hn, rfl⟩ := Option.map_eq_some_iff.mp hx
      refine ⟨rfl, ?_⟩
      refine ⟨.int n, rfl, .int lo, rfl, .int hi, rfl, n, lo, hi, rfl, ?_⟩
      have hi' : i < ns.length := (List.getElem?_eq_some_iff.mp hn).1
      refine ⟨_, eD, ?_, ?_⟩
      · rw [List.length_map, List.length_map, List.length_take]
        exact small1000 (by omega)
      · refine ⟨fun b o e => ?_, nD, ?_⟩
        · rw [upd_ne (ne_of_none e nD)]
          exact sm b o e
        · rw [upd_same, List.take_add_one, hn, List.map_append, List.map_append]
          rfl
    · obtain ⟨sm, nD, eD⟩ := p
      rw [List.length_map, List.take_of_length_le (Nat.le_refl _)] at eD
      refine ⟨D, _, rfl, SqL.of eD, ?_⟩
      have e2 : ((ns.map fun n => decide (lo ≤ n) && decide (n ≤ hi)).all id) = ns.all fun n => decide (lo ≤ n) && decide (n ≤ hi) := by
        rw [List.all_map]
        rfl
      rw [e2]
      exact q H' sm
end

/-! ### the checks -/
section
variable {P : Program} {w : World} {K : PySem.W.Frag} {mg : Str → Option Value} {base : Heap}
def spIsComings (K : PySem.W.Frag) : Sp := fun vs H Q _ => ∃ (a : Addr) (cs : List Int) (k : Int), vs = [.int k, .ref a] ∧ SqT K H a (cs.map V.int) ∧ Rt k cs ∧ ∀ H', Same H H' → Q (.bl true) H'
theorem ok_is_comings (T : Tx K mg) : FnOk P w K mg base CX0 4 T.a_is_comings T.d_is_comings ["comers", "thing"] (spIsComings K) := by
  refine T.F_is_comings.ok sc_is_comings (fun vs H Q E h => ?_) (fun cdv A outer s H vs Q E hr h => ?_)
  · obtain ⟨a, cs, k, rfl, _⟩ := h
    rfl
  · obtain ⟨a, cs, k, rfl, hT, g, q⟩ := h
    refine ⟨_, ((pss_one (ps_ret (pe_and (pe_callB call_isi (by rfl) T.m_isinstance (by decide +kernel) (pa_cons (pv 1) (pa_cons (pe_bltn (v := .ty "tuple") (by rfl) T.m_tuple (by decide +kernel) rfl) pa_nil))) (pe_and (pe_cmpR op_le (pe_callB call_len_seq (by rfl) T.m_len PySem.boot_len (pa_cons (pv 1) pa_nil)) (pe_glob (v := .int 400) rfl T.g_MOST_TICKS ⟨_, rfl⟩) (nomark _)) (pe_one (pe_call (ok_are_numbers T) (hr.mono (by decide)) (by rfl) T.g_are_numbers T.F_are_numbers.kp T.b_are_numbers .nil pass0 (pa_cons (pv 1) (pa_cons pe_int (pa_cons (pv 0) pa_nil)))))))))), ?_⟩
    refine ⟨.ref a, rfl, .ref a, .ty "tuple", _, _, true, rfl, .ty _, tyTup hT, kit_ty (by decide +kernel), true, rfl, iteT ?_⟩
    have g1 := g.1
    refine ⟨.ref a, rfl, a, _, rfl, .inr hT, _, 400, rfl, rfl, true, ?_, iteT ?_⟩
    · show V.bl (decide (((cs.map V.int).length : Int) ≤ (400 : Int))) = V.bl true
      rw [List.length_map, decide_eq_true (by omega)]
    · refine ⟨.ref a, rfl, .int k, rfl, a, cs, 0, k, rfl, hT, by omega, fun H' sm => ?_⟩
      have e := g.all
      rw [e]
      exact q H' sm
def spChkNum (lo hi : Int) (K : PySem.W.Frag) : Sp := fun vs H Q _ => ∃ k : Int, vs = [.int k] ∧ lo ≤ k ∧ k ≤ hi ∧ Q .non H
theorem ok_check_comers (T : Tx K mg) : FnOk P w K mg base CX0 3 T.a_check_comers T.d_check_comers ["thing"] (spChkNum 2 4 K) := by
  refine T.F_check_comers.ok sc_check_comers (fun vs H Q E h => ?_) (fun cdv A outer s H vs Q E hr h => ?_)
  · obtain ⟨k, rfl, _⟩ := h
    rfl
  · obtain ⟨k, rfl, h1, h2, q⟩ := h
    refine ⟨_, ((pss_one (ps_if (pt_not (pt_val (pe_call (ok_is_number T) (hr.mono (by decide)) (by rfl) T.g_is_number T.F_is_number.kp T.b_is_number .nil pass0 (pa_cons (pv 0) (pa_cons pe_int (pa_cons (pe_glob (v := .int 4) rfl T.g_MOST_COMERS ⟨_, rfl⟩) pa_nil)))))) (pss_one ps_never) pss_nil))), ?_⟩
    refine ⟨.int k, rfl, k, 2, 4, rfl, true, ?_, iteF ?_⟩
    · rw [decide_eq_true h1, decide_eq_true h2]
      rfl
    · exact q
theorem ok_check_bound (T : Tx K mg) : FnOk P w K mg base CX0 3 T.a_check_bound T.d_check_bound ["thing"] (spChkNum 1 60 K) := by
  refine T.F_check_bound.ok sc_check_bound (fun vs H Q E h => ?_) (fun cdv A outer s H vs Q E hr h => ?_)
  · obtain ⟨k, rfl, _⟩ := h
    rfl
  · obtain ⟨k, rfl, h1, h2, q⟩ := h
    refine ⟨_, ((pss_one (ps_if (pt_not (pt_val (pe_call (ok_is_number T) (hr.mono (by decide)) (by rfl) T.g_is_number T.F_is_number.kp T.b_is_number .nil pass0 (pa_cons (pv 0) (pa_cons pe_int (pa_cons (pe_glob (v := .int 60) rfl T.g_MOST_BOUND ⟨_, rfl⟩) pa_nil)))))) (pss_one ps_never) pss_nil))), ?_⟩
    refine ⟨.int k, rfl, k, 1, 60, rfl, true, ?_, iteF ?_⟩
    · rw [decide_eq_true h1, decide_eq_true h2]
      rfl
    · exact q
end

/-! ### the line -/
section
variable {P : Program} {w : World} {K : PySem.W.Frag} {mg : Str → Option Value} {base : Heap}

def spFollow (K : PySem.W.Frag) : Sp := fun vs H Q _ => ∃ (a : Addr) (cs : List Int) (b l k : Int), vs = [.int b, .int l, .ref a] ∧ SqT K H a (cs.map V.int) ∧ Rt k cs ∧ k ≤ 4 ∧ 0 ≤ b ∧
  ∀ L B p ps H', Same H H' → H L = none → H B = none → L ≠ B → H' L = some (.lst (ps.map V.ref)) → Tups tv H' ps (Lg.preL b l cs cs.length).1 → H' B = some (.lst ((Lg.behindL b l cs cs.length).map V.int)) → H' p = some (.tup [.ref L, .ref B]) → Q (.ref p) H'
theorem ok_follow_line (T : Tx K mg) : FnOk P w K mg base CX0 1 T.a_follow_line T.d_follow_line ["bound", "line", "comings"] (spFollow K) := by
  refine T.F_follow_line.ok sc_follow_line (fun vs H Q E h => ?_) (fun cdv A outer s H vs Q E hr h => ?_)
  · obtain ⟨a, cs, b, l, k, rfl, _⟩ := h
    rfl
  · obtain ⟨a, cs, b, l, k, rfl, hT, g, hk, hb, q⟩ := h
    have g4 := g.four hk
    have g1 := g.1
    refine ⟨_, ((pss_cons (ps_set (i := 3) sc_follow_line.nd rfl (.inl rfl) (pe_lst pa_nil))
  (pss_cons (ps_set (i := 4) sc_follow_line.nd rfl (.inl rfl) (pe_lst pa_nil))
  (pss_cons (ps_for PassesOwn.never rfl (RR.pi_enumT (by rfl) T.m_enumerate (pa_cons (pv 2) pa_nil)) (pg_tup rfl (pgs_cons (pg_name (i := 5) sc_follow_line.nd rfl (.inl rfl)) (pgs_cons (pg_name (i := 6) sc_follow_line.nd rfl (.inl rfl)) pgs_nil)))
   (pss_cons (ps_for PassesOwn.never rfl (pi_range2 (by rfl) T.m_range (pa_cons pe_int (pa_cons (pe_op op_add (pv 6) pe_int) pa_nil))) (pg_name (i := 7) sc_follow_line.nd rfl (.inl rfl))
   (pss_one (ps_if (pt_cmpR op_gt (pv 1) (pv 0) (nomark _)) (pss_one (ps_expr (pe_bm PySem.F.plainAttrs_list PySem.F.slot_list_append PySem.F.type_list_append mt_append (pv 3) (pa_cons (pe_tup (pa_cons (pv 5) (pa_cons (pv 7) (pa_cons pe_non pa_nil)))) pa_nil)))) (pss_cons (ps_expr (pe_bm PySem.F.plainAttrs_list PySem.F.slot_list_append PySem.F.type_list_append mt_append (pv 3) (pa_cons (pe_tup (pa_cons (pv 5) (pa_cons (pv 7) (pa_cons (pv 1) pa_nil)))) pa_nil)))
  (pss_one (ps_aug (i := 1) sc_follow_line.nd rfl (.inl rfl) pe_int ip_add))))))
  (Evl.pss_cut (ps_if (pt_cmpR op_gt (pv 1) pe_int (nomark _)) (pss_one (ps_aug (i := 1) sc_follow_line.nd rfl (.inl rfl) pe_int ip_sub)) pss_nil)
  (pss_one (ps_expr (pe_bm PySem.F.plainAttrs_list PySem.F.slot_list_append PySem.F.type_list_append mt_append (pv 4) (pa_cons (pv 1) pa_nil)))))))
  (pss_one (ps_ret (pe_tup (pa_cons (pv 3) (pa_cons (pv 4) pa_nil))))))))), ?_⟩
    refine ⟨Nat.zero_le _, fun L nL => ⟨Nat.zero_le _, fun B nB => ?_⟩⟩
    have hBL : B ≠ L := fun e => by
      rw [e, upd_same] at nB
      cases nB
    have hHB : H B = none := Same.free (same_upd nL) nB
    have s2 : Same H (upd (upd H L (.lst [])) B (.lst [])) := (same_upd nL).trans (same_upd nB)
    refine ⟨.ref a, rfl, a, _, rfl, sT s2 hT, RR.for_enumT (K := K) (xs := cs.map V.int)
      (fun i σ H' => ∃ y5 y6 y7 ps, σ = [some (.int b), some (.int (Lg.preL b l cs i).2), some (.ref a), some (.ref L), some (.ref B), y5, y6, y7] ∧ H' L = some (.lst (ps.map V.ref)) ∧ Tups tv H' ps (Lg.preL b l cs i).1 ∧ H' B = some (.lst ((Lg.behindL b l cs i).map V.int)) ∧ Same H H')
      ⟨_, _, _, [], rfl, by rw [upd_ne hBL.symm, upd_same]; rfl, .nil, upd_same, s2⟩ (fun i σ H' _ h => ?_) (fun i x T σ H' hx h nT => ?_) (fun σ H' h => ?_)⟩
    · obtain ⟨_, _, _, _, _, _, _, _, sm⟩ := h
      exact sT sm hT
    · obtain ⟨y5, y6, y7, ps, rfl, eL, tu, eB, sm⟩ := h
      rw [List.getElem?_map] at hx
      obtain ⟨c, hc, rfl⟩ := Option.map_eq_some_iff.mp hx
      have bc := g.2 c (List.mem_of_getElem? hc)
      have ec := Ln.getD_of hc
      have hi : i < cs.length := (List.getElem?_eq_some_iff.mp hc).1
      have smT : Same H' (upd H' T (.tup [.int (i : Nat), .int c])) := same_upd nT
      refine ⟨T, _, rfl, SqT.of upd_same, rfl, _, [_], rfl, _, [], rfl, rfl, ?_⟩
      refine ⟨.int c, rfl, _, _, rfl, rfl, 1, c + 1, rfl, ⟨by omega, by omega, by omega, by omega⟩, for_range (lo := 1) (n := (c + 1 - 1).toNat)
        (fun j σ H2 => ∃ y7 ps, σ = [some (.int b), some (.int (Ln.turns b (i : Int) j (Lg.preL b l cs i)).2), some (.ref a), some (.ref L), some (.ref B), some (.int (i : Nat)), some (.int c), y7] ∧ H2 L = some (.lst (ps.map V.ref)) ∧ Tups tv H2 ps (Ln.turns b (i : Int) j (Lg.preL b l cs i)).1 ∧ H2 B = some (.lst ((Lg.behindL b l cs i).map V.int)) ∧ Same H H2)
        ⟨_, ps, rfl, smT _ _ eL, tu.new nT, smT _ _ eB, sm.trans smT⟩ (fun j σ H2 hj h => ?_) (fun σ H2 h => ?_)⟩
      · obtain ⟨y7, ps, rfl, eL, tu, eB, sm⟩ := h
        have zl : ps.length ≤ 1640 := by
          rw [tu.length, Ln.turns_len]
          have := Lg.preL_len (b := b) (l := l) g4 i
          omega
        refine ⟨_, rfl, _, rfl, _, _, rfl, rfl, _, rfl, ite2 (fun h1 => ?_) (fun h1 => ?_)⟩
        · have hb1 : (Ln.turns b (i : Int) j (Lg.preL b l cs i)).2 > b := of_decide_eq_true h1
          have es : Ln.turns b (i : Int) (j + 1) (Lg.preL b l cs i) = ((Ln.turns b (i : Int) j (Lg.preL b l cs i)).1 ++ [((i : Int), 1 + (j : Int), none)], (Ln.turns b (i : Int) j (Lg.preL b l cs i)).2) := if_pos hb1
          refine ⟨.ref L, rfl, .inl ⟨rfl, _, SqL.of eL⟩, _, rfl, _, rfl, by show 3 ≤ sizeLine; decide, fun p np => ?_⟩
          have s3 := same_upd (o := .tup (tv ((i : Int), 1 + (j : Int), none))) np
          refine ⟨L, _, _, rfl, rfl, s3 _ _ eL, by rw [List.length_map]; exact small2000 (by omega), ?_⟩
          refine ⟨_, ps ++ [p], by rw [es]; rfl, by rw [upd_same, List.map_append]; rfl, ?_, ?_, fun b o e => ?_⟩
          · rw [es]
            exact ((tu.new np).snoc (x := ((i : Int), 1 + (j : Int), none)) upd_same).put (s3 _ _ eL)
          · rw [upd_ne hBL]
            exact s3 _ _ eB
          · rw [upd_ne (ne_of_none e nL)]
            exact s3 _ _ (sm _ _ e)
        · have hb1 : ¬ (Ln.turns b (i : Int) j (Lg.preL b l cs i)).2 > b := fun z => h1 (decide_eq_true z)
          have es : Ln.turns b (i : Int) (j + 1) (Lg.preL b l cs i) = ((Ln.turns b (i : Int) j (Lg.preL b l cs i)).1 ++ [((i : Int), 1 + (j : Int), some (Ln.turns b (i : Int) j (Lg.preL b l cs i)).2)], (Ln.turns b (i : Int) j (Lg.preL b l cs i)).2 + 1) := if_neg hb1
          refine ⟨.ref L, rfl, .inl ⟨rfl, _, SqL.of eL⟩, _, rfl, _, rfl, _, rfl, by show 3 ≤ sizeLine; decide, fun p np => ?_⟩
          have s3 := same_upd (o := .tup (tv ((i : Int), 1 + (j : Int), some (Ln.turns b (i : Int) j (Lg.preL b l cs i)).2))) np
          refine ⟨L, _, _, rfl, rfl, s3 _ _ eL, by rw [List.length_map]; exact small2000 (by omega), ?_⟩
          refine ⟨_, rfl, _, _, rfl, rfl, ?_⟩
          refine ⟨_, ps ++ [p], by rw [es]; rfl, by rw [upd_same, List.map_append]; rfl, ?_, ?_, fun b o e => ?_⟩
          · rw [es]
            exact ((tu.new np).snoc (x := ((i : Int), 1 + (j : Int), some (Ln.turns b (i : Int) j (Lg.preL b l cs i)).2)) upd_same).put (s3 _ _ eL)
          · rw [upd_ne hBL]
            exact s3 _ _ eB
          · rw [upd_ne (ne_of_none e nL)]
            exact s3 _ _ (sm _ _ e)
      · obtain ⟨y7, ps, rfl, eL, tu, eB, sm⟩ := h
        have en : (c + 1 - 1).toNat = (cs.getD i 0).toNat := by
          rw [ec]
          omega
        rw [en] at tu ⊢
        refine ⟨fun σ' H3 => ∃ y7, σ' = [some (.int b), some (.int (Lg.preL b l cs (i + 1)).2), some (.ref a), some (.ref L), some (.ref B), some (.int (i : Nat)), some (.int c), y7] ∧ H3 = H2, ?_, fun σ' H3 hm => ?_⟩
        · refine ⟨_, rfl, _, _, rfl, rfl, _, rfl, ite2 (fun h1 => ?_) (fun h1 => ?_)⟩
          · refine ⟨_, rfl, _, _, rfl, rfl, ?_⟩
            refine ⟨y7, ?_, rfl⟩
            have e : (Lg.preL b l cs (i + 1)).2 = (Ln.turns b (i : Int) (cs.getD i 0).toNat (Lg.preL b l cs i)).2 - 1 := if_pos (of_decide_eq_true h1)
            rw [e]
            rfl
          · refine ⟨y7, ?_, rfl⟩
            have e : (Lg.preL b l cs (i + 1)).2 = (Ln.turns b (i : Int) (cs.getD i 0).toNat (Lg.preL b l cs i)).2 := if_neg (fun z => h1 (decide_eq_true z))
            rw [e]
        · obtain ⟨y7, rfl, rfl⟩ := hm
          refine ⟨.ref B, rfl, .inl ⟨rfl, _, SqL.of eB⟩, _, rfl, B, _, _, rfl, rfl, eB, by rw [List.length_map, Lg.behindL_len]; exact small1000 (by omega), ?_⟩
          refine ⟨_, _, _, ps, rfl, by rw [upd_ne hBL.symm]; exact eL, tu.put eB, ?_, fun b o e => ?_⟩
          · rw [upd_same]
            show _ = some (HO.lst ((Lg.behindL b l cs i ++ [(Lg.preL b l cs (i + 1)).2]).map V.int))
            rw [List.map_append]
            rfl
          · rw [upd_ne (ne_of_none e hHB)]
            exact sm _ _ e
    · obtain ⟨y5, y6, y7, ps, rfl, eL, tu, eB, sm⟩ := h
      rw [List.length_map] at tu eB
      refine ⟨.ref L, rfl, .ref B, rfl, by show 2 ≤ sizeLine; decide, fun p np => ?_⟩
      have s3 := same_upd (o := .tup [.ref L, .ref B]) np
      exact q L B p ps _ (sm.trans s3) nL hHB hBL.symm (s3 _ _ eL) (tu.new np) (s3 _ _ eB) upd_same
end

/-! ### long comings -/
section
variable {P : Program} {w : World} {K : PySem.W.Frag} {mg : Str → Option Value} {base : Heap}
/-- a pair of comings and a number -/
def Lp (K : PySem.W.Frag) (H : Hp) (p : Addr) (x : List Int × Int) : Prop := ∃ ca, SqT K H p [.ref ca, .int x.2] ∧ SqT K H ca (x.1.map V.int)
inductive Lps (K : PySem.W.Frag) (H : Hp) : List Addr → List (List Int × Int) → Prop
  | nil : Lps K H [] []
  | cons {p x ps xs} : Lp K H p x → Lps K H ps xs → Lps K H (p :: ps) (x :: xs)
theorem Lp.same {K : PySem.W.Frag} {H H' : Hp} {p x} (h : Lp K H p x) (s : Same H H') : Lp K H' p x := let ⟨ca, e, c⟩ := h; ⟨ca, sT s e, sT s c⟩
theorem Lps.same {K : PySem.W.Frag} {H H' : Hp} {ps xs} (h : Lps K H ps xs) (s : Same H H') : Lps K H' ps xs := by
  induction h with
  | nil => exact .nil
  | cons a _ ih => exact .cons (a.same s) ih
theorem Lps.len {K : PySem.W.Frag} {H : Hp} {ps xs} (h : Lps K H ps xs) : ps.length = xs.length := by
  induction h with
  | nil => rfl
  | cons _ _ ih => rw [List.length_cons, List.length_cons, ih]
theorem Lps.get {K : PySem.W.Frag} {H : Hp} {ps xs} (h : Lps K H ps xs) : ∀ {i : Nat} {v : V}, (ps.map V.ref)[i]? = some v → ∃ p x, v = .ref p ∧ xs[i]? = some x ∧ Lp K H p x := by
  induction h with
  | nil =>
    intro i v h
    simp at h
  | cons a _ ih =>
    intro i v h
    cases i with
    | zero =>
      simp at h
      exact ⟨_, _, h.symm, rfl, a⟩
    | succ i =>
      simp only [List.map_cons, List.getElem?_cons_succ] at h ⊢
      exact ih h
def spIsRound (K : PySem.W.Frag) : Sp := fun vs H Q _ => ∃ (a : Addr) (cs : List Int) (k : Int), vs = [.int k, .ref a] ∧ SqT K H a (cs.map V.int) ∧ Rt k cs ∧ cs.length ≤ 60 ∧ ∀ H', Same H H' → Q (.bl true) H'
theorem ok_is_round (T : Tx K mg) : FnOk P w K mg base CX0 5 T.a_is_round T.d_is_round ["comers", "thing"] (spIsRound K) := by
  refine T.F_is_round.ok sc_is_round (fun vs H Q E h => ?_) (fun cdv A outer s H vs Q E hr h => ?_)
  · obtain ⟨a, cs, k, rfl, _⟩ := h
    rfl
  · obtain ⟨a, cs, k, rfl, hT, g, h60, q⟩ := h
    refine ⟨_, ((pss_one (ps_ret (pe_and (pe_call (ok_is_comings T) (hr.mono (by decide)) (by rfl) T.g_is_comings T.F_is_comings.kp T.b_is_comings .nil pass0 (pa_cons (pv 0) (pa_cons (pv 1) pa_nil))) (pe_one (pe_cmpR op_le (pe_callB call_len_seq (by rfl) T.m_len PySem.boot_len (pa_cons (pv 1) pa_nil)) (pe_glob (v := .int 60) rfl T.g_MOST_ROUND ⟨_, rfl⟩) (nomark _))))))), ?_⟩
    refine ⟨.int k, rfl, .ref a, rfl, a, cs, k, rfl, hT, g, fun H' sm => ⟨true, rfl, iteT ?_⟩⟩
    refine ⟨.ref a, rfl, a, _, rfl, .inr (sT sm hT), _, 60, rfl, rfl, ?_⟩
    have e : decide ((((cs.map V.int).length : Nat) : Int) ≤ 60) = true := decide_eq_true (by rw [List.length_map]; omega)
    show Q (V.bl (decide ((((cs.map V.int).length : Nat) : Int) ≤ 60))) H'
    rw [e]
    exact q H' sm
def spIsLP (K : PySem.W.Frag) : Sp := fun vs H Q _ => ∃ (p : Addr) (x : List Int × Int) (k : Int), vs = [.int k, .ref p] ∧ Lp K H p x ∧ (∀ c ∈ x.1, 0 ≤ c ∧ c ≤ k) ∧ x.1.length ≤ 60 ∧ 0 ≤ x.2 ∧ x.2 ≤ 10 ^ 30 ∧ ∀ H', Same H H' → Q (.bl true) H'
theorem ok_is_long_pair (T : Tx K mg) : FnOk P w K mg base CX0 6 T.a_is_long_pair T.d_is_long_pair ["comers", "thing"] (spIsLP K) := by
  refine T.F_is_long_pair.ok sc_is_long_pair (fun vs H Q E h => ?_) (fun cdv A outer s H vs Q E hr h => ?_)
  · obtain ⟨p, x, k, rfl, _⟩ := h
    rfl
  · obtain ⟨p, x, k, rfl, ⟨ca, ep, hC⟩, hk, h60, n0, n1, q⟩ := h
    refine ⟨_, ((pss_cons (ps_if (PW.pt (pw_or (pt_not (pt_val (pe_callB call_isi (by rfl) T.m_isinstance (by decide +kernel) (pa_cons (pv 1) (pa_cons (pe_bltn (v := .ty "tuple") (by rfl) T.m_tuple (by decide +kernel) rfl) pa_nil))))) (pw_or1 (pt_cmpR op_ne (pe_callB call_len_seq (by rfl) T.m_len PySem.boot_len (pa_cons (pv 1) pa_nil)) pe_int (nomark _))))) (pss_one (ps_ret pe_bl)) pss_nil)
  (pss_one (ps_ret (pe_and (pe_call (ok_is_round T) (hr.mono (by decide)) (by rfl) T.g_is_round T.F_is_round.kp T.b_is_round .nil pass0 (pa_cons (pv 0) (pa_cons (pe_ix ix_tup (pv 1) pe_int (fun _ _ => rfl)) pa_nil))) (pe_one (pe_call (ok_is_number T) (hr.mono (by decide)) (by rfl) T.g_is_number T.F_is_number.kp T.b_is_number .nil pass0 (pa_cons (pe_ix ix_tup (pv 1) pe_int (fun _ _ => rfl)) (pa_cons pe_int (pa_cons (pe_op op_pow pe_int pe_int) pa_nil)))))))))), ?_⟩
    refine ⟨.ref p, rfl, .ref p, .ty "tuple", _, _, true, rfl, .ty _, tyTup (ep), kit_ty (by decide +kernel), true, rfl, iteF ?_⟩
    refine ⟨.ref p, rfl, p, _, rfl, .inr (ep), rfl, false, rfl, iteF ?_⟩
    refine ⟨.int k, rfl, .ref p, rfl, p, _, 0, _, rfl, rfl, ep, atI_nat (j := 0) rfl, ca, x.1, k, rfl, hC, ⟨by omega, hk⟩, h60, fun H' sm => ⟨true, rfl, iteT ?_⟩⟩
    refine ⟨.ref p, rfl, p, _, 1, _, rfl, rfl, sT sm ep, atI_nat (j := 1) rfl, ?_⟩
    refine ⟨10, 30, rfl, rfl, ⟨by decide, by decide, by decide⟩, x.2, 0, 10 ^ 30, rfl, ?_⟩
    rw [decide_eq_true n0, decide_eq_true n1]
    exact q H' sm
def spChkLong (K : PySem.W.Frag) : Sp := fun vs H Q _ => ∃ (ra : Addr) (ps : List Addr) (xs : List (List Int × Int)) (k b : Int), vs = [.int k, .int b, .ref ra] ∧ SqT K H ra (ps.map V.ref) ∧ Lps K H ps xs ∧ Lg.Right k xs ∧ 2 ≤ k ∧ k ≤ 4 ∧ 1 ≤ b ∧ b ≤ 60 ∧ ∀ H', Same H H' → Q .non H'
theorem ok_check_long (T : Tx K mg) : FnOk P w K mg base CX0 7 T.a_check_long T.d_check_long ["comers", "bound", "long"] (spChkLong K) := by
  refine T.F_check_long.ok sc_check_long (fun vs H Q E h => ?_) (fun cdv A outer s H vs Q E hr h => ?_)
  · obtain ⟨ra, ps, xs, k, b, rfl, _⟩ := h
    rfl
  · obtain ⟨ra, ps, xs, k, b, rfl, hR, lp, R, k2, k4, b1, b60, q⟩ := h
    refine ⟨_, ((pss_cons (ps_expr (pe_call (ok_check_comers T) (hr.mono (by decide)) (by rfl) T.g_check_comers T.F_check_comers.kp T.b_check_comers .nil pass0 (pa_cons (pv 0) pa_nil)))
  (pss_cons (ps_expr (pe_call (ok_check_bound T) (hr.mono (by decide)) (by rfl) T.g_check_bound T.F_check_bound.kp T.b_check_bound .nil pass0 (pa_cons (pv 1) pa_nil)))
  (pss_one (ps_if (PW.pt (pw_or (pt_not (pt_val (pe_callB call_isi (by rfl) T.m_isinstance (by decide +kernel) (pa_cons (pv 2) (pa_cons (pe_bltn (v := .ty "tuple") (by rfl) T.m_tuple (by decide +kernel) rfl) pa_nil))))) (pw_or (pt_cmpR op_gt (pe_callB call_len_seq (by rfl) T.m_len PySem.boot_len (pa_cons (pv 2) pa_nil)) (pe_glob (v := .int 20) rfl T.g_MOST_PAIRS ⟨_, rfl⟩) (nomark _)) (pw_or1 (pt_not (pt_val (pe_callB (cr_all rfl) (by rfl) T.m_all (by decide +kernel) (pa_cons (pe_lc (own := [("pair", 3)]) (g := (gName 3)) (tt := tYes) rfl sc_check_long.nd (pi_tup (pv 2)) (blkOk_by (own := [("pair", 3)]) (N := ["comers", "bound", "long", "pair"]) (sc := defScope s_check_long) (by decide +kernel)) (fun _ _ _ _ _ => pg_name (i := 3) sc_check_long.nd rfl (.inl rfl)) (fun _ _ _ _ _ => pts_nil) (fun _ _ _ _ _ => (pe_call (ok_is_long_pair T) (hr.mono (by decide)) (by rfl) T.g_is_long_pair T.F_is_long_pair.kp T.b_is_long_pair .nil pass0 (pa_cons (pv 0) (pa_cons (pv 3) pa_nil))))) pa_nil)))))))) (pss_one ps_never) pss_nil))))), ?_⟩
    have zl := lp.len
    have r20 := R.1
    refine ⟨.int k, rfl, k, rfl, k2, k4, ?_⟩
    refine ⟨.int b, rfl, b, rfl, b1, b60, ?_⟩
    refine ⟨.ref ra, rfl, .ref ra, .ty "tuple", _, _, true, rfl, .ty _, tyTup hR, kit_ty (by decide +kernel), true, rfl, iteF ?_⟩
    refine ⟨.ref ra, rfl, ra, _, rfl, .inr hR, _, 20, rfl, rfl, false, congrArg V.bl (decide_eq_false (by rw [List.length_map]; omega)), iteF ?_⟩
    refine ⟨.ref ra, rfl, ra, rfl, ⟨_, hR⟩, fun D nD => lc_tup (K := K) (a := ra) (xs := ps.map V.ref)
      (fun i H' => Same H H' ∧ H' D = some (.lst (List.replicate i (V.bl true))))
      ⟨same_upd nD, upd_same⟩ (fun i H' _ h => sT h.1 hR) (fun i x H' hx h => ?_) (fun H' h => ?_)⟩
    · obtain ⟨sm, eD⟩ := h
      obtain ⟨p, y, rfl, hy, ly⟩ := lp.get hx
      have hi := (List.getElem?_eq_some_iff.mp hy).1
      obtain ⟨y60, yk, y0, y1⟩ := R.2 y (List.mem_of_getElem? hy)
      refine ⟨rfl, .int k, rfl, .ref p, rfl, p, y, k, rfl, ly.same sm, yk, y60, y0, y1, fun H2 s2 => ?_⟩
      refine ⟨_, s2 _ _ eD, by rw [List.length_replicate]; exact small1000 (by omega), same_put (sm.trans s2) nD, ?_⟩
      rw [upd_same, List.replicate_succ']
    · obtain ⟨sm, eD⟩ := h
      refine ⟨D, List.replicate (ps.map V.ref).length true, rfl, .inl (.inl (by rw [eD, List.map_replicate])), true, ?_, iteF ?_⟩
      · rw [List.all_replicate]
        simp
      · exact q H' sm
/-- a round from a line on -/
def spFRound (K : PySem.W.Frag) : Sp := fun vs H Q _ => ∃ (a : Addr) (cs : List Int) (b l k : Int), vs = [.int b, .int l, .ref a] ∧ SqT K H a (cs.map V.int) ∧ Rt k cs ∧ k ≤ 4 ∧ 0 ≤ b ∧
  ∀ p H', Same H H' → H p = none → H' p = some (.tup [.int (Lg.rd b cs l).1, .int cs.sum, .int (Lg.rd b cs l).2.2]) → Q (.ref p) H'
theorem ok_follow_round (T : Tx K mg) : FnOk P w K mg base CX0 2 T.a_follow_round T.d_follow_round ["bound", "line", "comings"] (spFRound K) := by
  refine T.F_follow_round.ok sc_follow_round (fun vs H Q E h => ?_) (fun cdv A outer s H vs Q E hr h => ?_)
  · obtain ⟨a, cs, b, l, k, rfl, _⟩ := h
    rfl
  · obtain ⟨a, cs, b, l, k, rfl, hT, g, hk, hb, q⟩ := h
    have g4 := g.four hk
    have g1 := g.1
    refine ⟨_, ((pss_cons (ps_asg (pe_call (ok_follow_line T) (hr.mono (by decide)) (by rfl) T.g_follow_line T.F_follow_line.kp T.b_follow_line .nil pass0 (pa_cons (pv 0) (pa_cons (pv 1) (pa_cons (pv 2) pa_nil)))) (pg_tup rfl (pgs_cons (pg_name (i := 3) sc_follow_round.nd rfl (.inl rfl)) (pgs_cons (pg_name (i := 4) sc_follow_round.nd rfl (.inl rfl)) pgs_nil))))
  (pss_cons (ps_set (i := 5) sc_follow_round.nd rfl (.inl rfl) (pe_callB call_len_seq (by rfl) T.m_len PySem.boot_len (pa_cons (pe_lc (own := [("tick", 6), ("_", 7), ("wait", 8)]) (g := (gTup K 3 (gCons (gName 6) (gCons (gName 7) (gCons (gName 8) gNil))))) rfl sc_follow_round.nd (pi_list (pv 3)) (blkOk_by (own := [("tick", 6), ("_", 7), ("wait", 8)]) (N := ["bound", "line", "comings", "letters", "behind", "away", "tick", "_", "wait"]) (sc := defScope s_follow_round) (by decide +kernel)) (fun _ _ _ _ _ => pg_tup rfl (pgs_cons (pg_name (i := 6) sc_follow_round.nd rfl (.inl rfl)) (pgs_cons (pg_name (i := 7) sc_follow_round.nd rfl (.inl rfl)) (pgs_cons (pg_name (i := 8) sc_follow_round.nd rfl (.inl rfl)) pgs_nil)))) (fun _ _ _ _ _ => (pts_one (pt_cmpR op_isN (pv 8) pe_non (nomark _)))) (fun _ _ _ _ _ => (pv 6))) pa_nil)))
  (pss_one (ps_ret (pe_tup (pa_cons (pe_ifExp (pt_truth (pv 4) (by intro _; rfl)) (pe_ix ix_list (pv 4) (pe_un un_neg pe_int) (fun _ _ => rfl)) (pv 1)) (pa_cons (pe_callB call_len_seq (by rfl) T.m_len PySem.boot_len (pa_cons (pv 3) pa_nil)) (pa_cons (pv 5) pa_nil))))))))), ?_⟩
    refine ⟨.int b, rfl, .int l, rfl, .ref a, rfl, a, cs, b, l, k, rfl, hT, g, hk, hb, fun L B p ps H1 sm nL nB hLB eL tu eB ep => ?_⟩
    refine ⟨p, _, rfl, SqT.of ep, rfl, _, [_], rfl, _, [], rfl, rfl, ?_⟩
    have zl : ps.length ≤ 1600 := by
      rw [tu.length]
      have := Lg.preL_len (b := b) (l := l) g4 cs.length
      omega
    refine ⟨.ref L, rfl, L, rfl, ⟨_, SqL.of eL⟩, fun D nD => lc_list (K := K) (a := L) (xs := ps.map V.ref)
      (fun i H' => ∃ ks : List Int, Same H1 H' ∧ H' D = some (.lst (ks.map V.int)) ∧ ks.length ≤ i ∧ ((ks.length : Nat) : Int) = Lg.away ((Lg.preL b l cs cs.length).1.take i))
      ⟨[], same_upd nD, upd_same, Nat.le_refl _, rfl⟩ (fun i H' _ h => let ⟨_, sm, _⟩ := h; SqL.of (sm _ _ eL)) (fun i x H' hx h => ?_) (fun H' h => ?_)⟩
    · obtain ⟨ks, s2, eD, zk, ek⟩ := h
      obtain ⟨r, y, rfl, hy, er⟩ := tu.get hx
      have hi := (List.getElem?_eq_some_iff.mp hx).1
      rw [List.length_map] at hi
      refine ⟨r, _, rfl, SqT.of (s2 _ _ er), rfl, _, [_, _], rfl, _, [_], rfl, _, [], rfl, rfl, rfl, ?_⟩
      have hy' : (Lg.preL b l cs cs.length).1.take (i + 1) = (Lg.preL b l cs cs.length).1.take i ++ [y] := by
        rw [List.take_add_one, hy]
        rfl
      obtain ⟨yt, yu, yw⟩ := y
      cases yw with
      | none =>
        refine ⟨.non, rfl, rfl, true, rfl, iteT ?_⟩
        refine ⟨_, rfl, _, eD, by rw [List.length_map]; exact small2000 (by omega), ks ++ [yt], same_put s2 nD, by rw [upd_same, List.map_append]; rfl, by rw [List.length_append]; show ks.length + 1 ≤ i + 1; omega, ?_⟩
        rw [hy', Lg.away_snoc, ← ek, List.length_append]
        rfl
      | some v =>
        refine ⟨.int v, rfl, rfl, false, rfl, iteF ?_⟩
        refine ⟨ks, s2, eD, by omega, ?_⟩
        rw [hy', Lg.away_snoc, ← ek]
        show _ = _ + (0 : Int)
        rw [Int.add_zero]
    · obtain ⟨ks, s2, eD, zk, ek⟩ := h
      rw [List.length_map, tu.length, List.take_of_length_le (Nat.le_refl _)] at ek
      refine ⟨D, _, rfl, .inl (SqL.of eD), ?_⟩
      rw [List.length_map, ek]
      have c0 : ∀ c ∈ cs, 0 ≤ c := fun c hc => (g.2 c hc).1
      obtain ⟨r1, r2⟩ := Lg.rd_pre b l cs cs.length
      have es : (((Lg.preL b l cs cs.length).1.length : Nat) : Int) = cs.sum := by
        rw [Lg.preL_sum c0 cs.length (Nat.le_refl _)]
        unfold Lg.sumN
        rw [List.take_length]
      have eB2 := s2 _ _ eB
      have eL2 := s2 _ _ eL
      refine ⟨.ref B, rfl, _, .inl ⟨_, SqL.of eB2, rfl⟩, ?_⟩
      have fin : ∀ v : Int, v = (Lg.rd b cs l).1 → ∀ p' : Addr, H' p' = none → Q (.ref p') (upd H' p' (.tup [.int v, .int (((ps.map V.ref).length : Nat) : Int), .int (Lg.away (Lg.preL b l cs cs.length).1)])) := fun v hv p' np => by
        refine q p' _ ((sm.trans s2).trans (same_upd np)) (Same.free (sm.trans s2) np) ?_
        rw [upd_same, hv, List.length_map, tu.length, es, ← r2]
        rfl
      cases hcs : cs with
      | nil =>
        subst hcs
        refine iteF ⟨.int l, rfl, .ref L, rfl, L, _, rfl, .inl (SqL.of eL2), _, rfl, by show 3 ≤ sizeLine; decide, fun p' np => ?_⟩
        exact fin l rfl p' np
      | cons c0' cs' =>
        have hne : 0 < cs.length := by rw [hcs]; exact Nat.succ_pos _
        obtain ⟨n, hn⟩ : ∃ n, cs.length = n + 1 := ⟨cs.length - 1, by omega⟩
        have eb : Lg.behindL b l cs cs.length = Lg.behindL b l cs n ++ [(Lg.preL b l cs cs.length).2] := by
          rw [hn]
          rfl
        rw [← hcs]
        have em : (List.map V.int (Lg.behindL b l cs cs.length)).isEmpty = false := by
          rw [eb, List.map_append]
          simp
        rw [em]
        refine iteT ⟨.ref B, rfl, 1, rfl, B, _, _, .int (Lg.preL b l cs cs.length).2, rfl, rfl, SqL.of eB2, by rw [eb, List.map_append]; exact atI_last _ _, ?_⟩
        refine ⟨.ref L, rfl, L, _, rfl, .inl (SqL.of eL2), _, rfl, by show 3 ≤ sizeLine; decide, fun p' np => ?_⟩
        exact fin _ r1.symm p' np
def spFLong (K : PySem.W.Frag) : Sp := fun vs H Q _ => ∃ (ra : Addr) (ps : List Addr) (xs : List (List Int × Int)) (k b : Int), vs = [.int b, .ref ra] ∧ SqT K H ra (ps.map V.ref) ∧ Lps K H ps xs ∧ Lg.Right k xs ∧ k ≤ 4 ∧ 0 ≤ b ∧ b ≤ 60 ∧
  ∀ p H', Same H H' → H' p = some (.tup [.int (Lg.tot b xs).1, .int (Lg.tot b xs).2.1, .int (Lg.tot b xs).2.2.2]) → Q (.ref p) H'
theorem ok_follow_long (T : Tx K mg) : FnOk P w K mg base CX0 3 T.a_follow_long T.d_follow_long ["bound", "long"] (spFLong K) := by
  refine T.F_follow_long.ok sc_follow_long (fun vs H Q E h => ?_) (fun cdv A outer s H vs Q E hr h => ?_)
  · obtain ⟨ra, ps, xs, k, b, rfl, _⟩ := h
    rfl
  · obtain ⟨ra, ps, xs, k, b, rfl, hR, lp, R, k4, hb, hb60, q⟩ := h
    refine ⟨_, ((pss_cons (ps_set (i := 2) sc_follow_long.nd rfl (.inl rfl) pe_int)
  (pss_cons (ps_set (i := 3) sc_follow_long.nd rfl (.inl rfl) pe_int)
  (pss_cons (ps_set (i := 4) sc_follow_long.nd rfl (.inl rfl) pe_int)
  (pss_cons (ps_for PassesOwn.never rfl (pi_tup (pv 1)) (pg_tup rfl (pgs_cons (pg_name (i := 5) sc_follow_long.nd rfl (.inl rfl)) (pgs_cons (pg_name (i := 6) sc_follow_long.nd rfl (.inl rfl)) pgs_nil)))
   (pss_cons (ps_set (i := 7) sc_follow_long.nd rfl (.inl rfl) (pv 6))
  (pss_one (ps_while PassesOwn.never (pt_cmpR op_gt (pv 7) pe_int (nomark _)) (pss_cons (ps_asg (pe_call (ok_follow_round T) (hr.mono (by decide)) (by rfl) T.g_follow_round T.F_follow_round.kp T.b_follow_round .nil pass0 (pa_cons (pv 0) (pa_cons (pv 2) (pa_cons (pv 5) pa_nil)))) (pg_tup rfl (pgs_cons (pg_name (i := 8) sc_follow_long.nd rfl (.inl rfl)) (pgs_cons (pg_name (i := 9) sc_follow_long.nd rfl (.inl rfl)) (pgs_cons (pg_name (i := 10) sc_follow_long.nd rfl (.inl rfl)) pgs_nil)))))
  (pss_cons (ps_set (i := 11) sc_follow_long.nd rfl (.inl rfl) (pe_ifExp (pt_cmpR op_eq (pv 8) (pv 2) (nomark _)) (pv 7) pe_int))
  (pss_cons (ps_set (i := 2) sc_follow_long.nd rfl (.inl rfl) (pv 8))
  (pss_cons (ps_aug (i := 3) sc_follow_long.nd rfl (.inl rfl) (pe_op op_mul (pv 11) (pv 9)) ip_add)
  (pss_cons (ps_aug (i := 4) sc_follow_long.nd rfl (.inl rfl) (pe_op op_mul (pv 11) (pv 10)) ip_add)
  (pss_one (ps_aug (i := 7) sc_follow_long.nd rfl (.inl rfl) (pv 11) ip_sub)))))))))))
  (pss_one (ps_ret (pe_tup (pa_cons (pv 2) (pa_cons (pv 3) (pa_cons (pv 4) pa_nil))))))))))), ?_⟩
    refine ⟨.ref ra, rfl, ra, rfl, ⟨_, hR⟩, for_tup (K := K) (xs := ps.map V.ref)
      (fun i σ H' => ∃ (y5 y6 y7 y8 y9 y10 y11 : Option V), σ = [some (.int b), some (.ref ra), some (.int (Lg.tot b (xs.take i)).1), some (.int (Lg.tot b (xs.take i)).2.1), some (.int (Lg.tot b (xs.take i)).2.2.2), y5, y6, y7, y8, y9, y10, y11] ∧ Same H H')
      ⟨_, _, _, _, _, _, _, rfl, fun _ _ e => e⟩ (fun i σ H' _ h => ?_) (fun i x σ H' hx h => ?_) (fun σ H' h => ?_)⟩
    · obtain ⟨_, _, _, _, _, _, _, _, sm⟩ := h
      exact sT sm hR
    · obtain ⟨y5, y6, y7, y8, y9, y10, y11, rfl, sm⟩ := h
      obtain ⟨p, x, rfl, hy, ca, ep, hC⟩ := lp.get hx
      obtain ⟨x60, xk, x0, x1⟩ := R.2 x (List.mem_of_getElem? hy)
      have c0 : ∀ c ∈ x.1, 0 ≤ c := fun c hc => (xk c hc).1
      have et : Lg.tot b (xs.take (i + 1)) = Lg.go1 b (Lg.tot b (xs.take i)) x := by
        unfold Lg.tot
        rw [take_snoc hy, List.foldl_append]
        rfl
      have qk : Lg.Qk b (Lg.tot b (xs.take i)) := Lg.tot_ok hb ⟨by rw [List.length_take]; have := R.1; omega, fun y hy' => R.2 y (List.mem_of_mem_take hy')⟩
      refine ⟨p, _, rfl, sT sm ep, rfl, _, [_], rfl, _, [], rfl, rfl, ?_⟩
      rw [et]
      generalize Lg.tot b (xs.take i) = s0 at *
      obtain ⟨cs, n⟩ := x
      have x0' : 0 ≤ n := x0
      have x1' : n ≤ 10 ^ 30 := x1
      refine ⟨.int n, rfl, ?_⟩
      refine ⟨fun m σ' H' => ∃ (d : Nat) (lv cv av lf : Int) (y8 y9 y10 y11 : Option V), (m : Int) = lf ∧ σ' = [some (.int b), some (.ref ra), some (.int lv), some (.int cv), some (.int av), some (.ref ca), some (.int n), some (.int lf), y8, y9, y10, y11] ∧ Same H H' ∧ lf = n - (d : Int) ∧ lv = (Lg.it b cs d s0.1).1 ∧ cv = s0.2.1 + (d : Int) * cs.sum ∧ av = s0.2.2.2 + (Lg.it b cs d s0.1).2.2,
        ⟨n.toNat, 0, _, _, _, n, y8, y9, y10, y11, by omega, rfl, sm, by omega, rfl, by simp, by show _ = s0.2.2.2 + 0; omega⟩, ?_⟩
      rintro m σ' H2 ⟨d, lv, cv, av, lf, y8, y9, y10, y11, em, rfl, s2, elf, elv, ecv, eav⟩
      have c0' : ∀ c ∈ cs, 0 ≤ c := c0
      have ok := Lg.it_ok qk.l0 qk.l1 c0' d
      refine ⟨.int lf, rfl, _, _, rfl, rfl, _, rfl, ite2 (fun c1 => ?_) (fun c1 => ?_)⟩
      · have c1' : lf > 0 := of_decide_eq_true c1
        refine ⟨fun σ3 H3 => ∃ (d' : Nat) (lv cv av lf' : Int) (y8 y9 y10 y11 : Option V), 0 ≤ lf' ∧ lf' < lf ∧ σ3 = [some (.int b), some (.ref ra), some (.int lv), some (.int cv), some (.int av), some (.ref ca), some (.int n), some (.int lf'), y8, y9, y10, y11] ∧ Same H H3 ∧ lf' = n - (d' : Int) ∧ lv = (Lg.it b cs d' s0.1).1 ∧ cv = s0.2.1 + (d' : Int) * cs.sum ∧ av = s0.2.2.2 + (Lg.it b cs d' s0.1).2.2,
          fun σ3 H3 h3 => ?_, ?_⟩
        · obtain ⟨d', a1, a2, a3, a4, z8, z9, z10, z11, le, lt, e3, s3, b1, b2, b3, b4⟩ := h3
          exact ⟨a4.toNat, by omega, d', a1, a2, a3, a4, z8, z9, z10, z11, by omega, e3, s3, b1, b2, b3, b4⟩
        · have l0 : 0 ≤ lv := by rw [elv]; exact ok.l0
          have l1 : lv ≤ b := by rw [elv]; exact ok.l1
          have h60 : cs.length ≤ 60 := x60
          have su := Lg.sum_le (cs := cs) fun c hc => by
            have : 0 ≤ c ∧ c ≤ k := xk c hc
            omega
          refine ⟨.int b, rfl, .int lv, rfl, .ref ca, rfl, ca, cs, b, lv, k, rfl, sT s2 hC, ⟨by omega, xk⟩, k4, hb, fun p3 H3 s3 np3 ep3 => ?_⟩
          refine ⟨p3, _, rfl, SqT.of ep3, rfl, _, [_, _], rfl, _, [_], rfl, _, [], rfl, rfl, ?_⟩
          have s23 := s2.trans s3
          have ro := Lg.rd_ok l0 l1 c0'
          have r0 := ro.l0
          have r2 := ro.o0
          have r3 := ro.a0
          have r4 := ro.sum
          refine ⟨.int (Lg.rd b cs lv).1, rfl, .int lv, rfl, rfl, _, rfl, ite2 (fun c2 => ?_) (fun c2 => ?_)⟩
          · have c2' : (Lg.rd b cs lv).1 = lv := V.int.inj (of_decide_eq_true c2)
            refine ⟨.int lf, rfl, .int (Lg.rd b cs lv).1, rfl, _, rfl, .int lf, rfl, .int cs.sum, rfl, _, _, rfl, rfl, .inr ⟨by omega, by omega⟩, _, _, rfl, rfl, ?_⟩
            refine ⟨_, rfl, .int lf, rfl, .int (Lg.rd b cs lv).2.2, rfl, _, _, rfl, rfl, .inr ⟨by omega, by omega⟩, _, _, rfl, rfl, ?_⟩
            refine ⟨_, rfl, .int lf, rfl, _, _, rfl, rfl, ?_⟩
            have ef := Lg.it_fix (b := b) (cs := cs) c2' lf.toNat
            have ea := Lg.it_add b cs d s0.1 lf.toNat
            rw [← elv, ef] at ea
            have en : ((lf.toNat : Nat) : Int) = lf := by omega
            refine ⟨d + lf.toNat, _, _, _, lf - lf, _, _, _, _, by omega, by omega, rfl, s23, by omega, ?_, ?_, ?_⟩
            · rw [ea]
              exact c2'
            · rw [ecv, Int.natCast_add, en, Int.add_mul]
              exact Int.add_assoc _ _ _
            · rw [ea, eav, en]
              exact Int.add_assoc _ _ _
          · refine ⟨.int (Lg.rd b cs lv).1, rfl, _, rfl, .int 1, rfl, .int cs.sum, rfl, _, _, rfl, rfl, .inl ⟨by decide, by decide⟩, _, _, rfl, rfl, ?_⟩
            refine ⟨_, rfl, .int 1, rfl, .int (Lg.rd b cs lv).2.2, rfl, _, _, rfl, rfl, .inl ⟨by decide, by decide⟩, _, _, rfl, rfl, ?_⟩
            refine ⟨_, rfl, .int 1, rfl, _, _, rfl, rfl, ?_⟩
            refine ⟨d + 1, _, _, _, lf - 1, _, _, _, _, by omega, by omega, rfl, s23, by omega, ?_, ?_, ?_⟩
            · show _ = (Lg.rd b cs (Lg.it b cs d s0.1).1).1
              rw [elv]
            · rw [ecv, Int.natCast_add, Int.add_mul]
              exact Int.add_assoc _ _ _
            · show _ = s0.2.2.2 + ((Lg.it b cs d s0.1).2.2 + (Lg.rd b cs (Lg.it b cs d s0.1).1).2.2)
              rw [eav, elv, Int.one_mul]
              exact Int.add_assoc _ _ _
      · have c1' : ¬ lf > 0 := fun z => c1 (decide_eq_true z)
        have elf0 : lf = 0 := by omega
        have ed : d = n.toNat := by omega
        subst ed
        refine ⟨some (.ref ca), some (.int n), some (.int lf), y8, y9, y10, y11, ?_, s2⟩
        have en : ((n.toNat : Nat) : Int) = n := by omega
        rw [en] at ecv
        rw [elv, ecv, eav]
        rfl
    · obtain ⟨y5, y6, y7, y8, y9, y10, y11, rfl, sm⟩ := h
      rw [List.length_map, lp.len, List.take_of_length_le (Nat.le_refl _)]
      refine ⟨_, rfl, _, rfl, _, rfl, by show 3 ≤ sizeLine; decide, fun p np => ?_⟩
      exact q p _ (sm.trans (same_upd np)) upd_same
def spLLine (K : PySem.W.Frag) : Sp := fun vs H Q _ => ∃ (ra : Addr) (ps : List Addr) (xs : List (List Int × Int)) (k b : Int), vs = [.int k, .int b, .ref ra] ∧ SqT K H ra (ps.map V.ref) ∧ Lps K H ps xs ∧ Lg.Right k xs ∧ 2 ≤ k ∧ k ≤ 4 ∧ 1 ≤ b ∧ b ≤ 60 ∧ ∀ H', Same H H' → Q (.int (Lg.tot b xs).1) H'
theorem ok_long_line (T : Tx K mg) : FnOk P w K mg base CX0 8 T.a_long_line T.d_long_line ["comers", "bound", "long"] (spLLine K) := by
  refine T.F_long_line.ok sc_long_line (fun vs H Q E h => ?_) (fun cdv A outer s H vs Q E hr h => ?_)
  · obtain ⟨ra, ps, xs, k, b, rfl, _⟩ := h
    rfl
  · obtain ⟨ra, ps, xs, k, b, rfl, hR, lp, R, k2, k4, b1, b60, q⟩ := h
    refine ⟨_, ((pss_cons (ps_expr (pe_call (ok_check_long T) (hr.mono (by decide)) (by rfl) T.g_check_long T.F_check_long.kp T.b_check_long .nil pass0 (pa_cons (pv 0) (pa_cons (pv 1) (pa_cons (pv 2) pa_nil)))))
  (pss_cons (ps_asg (pe_call (ok_follow_long T) (hr.mono (by decide)) (by rfl) T.g_follow_long T.F_follow_long.kp T.b_follow_long .nil pass0 (pa_cons (pv 1) (pa_cons (pv 2) pa_nil))) (pg_tup rfl (pgs_cons (pg_name (i := 3) sc_long_line.nd rfl (.inl rfl)) (pgs_cons (pg_name (i := 4) sc_long_line.nd rfl (.inl rfl)) (pgs_cons (pg_name (i := 4) sc_long_line.nd rfl (.inl rfl)) pgs_nil)))))
  (pss_one (ps_ret (pv 3)))))), ?_⟩
    refine ⟨.int k, rfl, .int b, rfl, .ref ra, rfl, ra, ps, xs, k, b, rfl, hR, lp, R, k2, k4, b1, b60, fun H1 s1 => ?_⟩
    refine ⟨.int b, rfl, .ref ra, rfl, ra, ps, xs, k, b, rfl, sT s1 hR, lp.same s1, R, k4, by omega, b60, fun p H2 s2 ep => ?_⟩
    refine ⟨p, _, rfl, SqT.of ep, rfl, _, [_, _], rfl, _, [_], rfl, _, [], rfl, rfl, ?_⟩
    exact ⟨_, rfl, q H2 (s1.trans s2)⟩
def spLCounts (K : PySem.W.Frag) : Sp := fun vs H Q _ => ∃ (ra : Addr) (ps : List Addr) (xs : List (List Int × Int)) (k b : Int), vs = [.int k, .int b, .ref ra] ∧ SqT K H ra (ps.map V.ref) ∧ Lps K H ps xs ∧ Lg.Right k xs ∧ 2 ≤ k ∧ k ≤ 4 ∧ 1 ≤ b ∧ b ≤ 60 ∧
  ∀ p H', Same H H' → H' p = some (.tup [.int (Lg.tot b xs).2.1, .int (Lg.tot b xs).2.2.1, .int (Lg.tot b xs).2.2.2]) → Q (.ref p) H'
theorem ok_long_counts (T : Tx K mg) : FnOk P w K mg base CX0 8 T.a_long_counts T.d_long_counts ["comers", "bound", "long"] (spLCounts K) := by
  refine T.F_long_counts.ok sc_long_counts (fun vs H Q E h => ?_) (fun cdv A outer s H vs Q E hr h => ?_)
  · obtain ⟨ra, ps, xs, k, b, rfl, _⟩ := h
    rfl
  · obtain ⟨ra, ps, xs, k, b, rfl, hR, lp, R, k2, k4, b1, b60, q⟩ := h
    refine ⟨_, ((pss_cons (ps_expr (pe_call (ok_check_long T) (hr.mono (by decide)) (by rfl) T.g_check_long T.F_check_long.kp T.b_check_long .nil pass0 (pa_cons (pv 0) (pa_cons (pv 1) (pa_cons (pv 2) pa_nil)))))
  (pss_cons (ps_asg (pe_call (ok_follow_long T) (hr.mono (by decide)) (by rfl) T.g_follow_long T.F_follow_long.kp T.b_follow_long .nil pass0 (pa_cons (pv 1) (pa_cons (pv 2) pa_nil))) (pg_tup rfl (pgs_cons (pg_name (i := 3) sc_long_counts.nd rfl (.inl rfl)) (pgs_cons (pg_name (i := 4) sc_long_counts.nd rfl (.inl rfl)) (pgs_cons (pg_name (i := 5) sc_long_counts.nd rfl (.inl rfl)) pgs_nil)))))
  (pss_one (ps_ret (pe_tup (pa_cons (pv 4) (pa_cons (pe_op op_sub (pe_op op_sub (pv 4) (pv 5)) (pv 3)) (pa_cons (pv 5) pa_nil))))))))), ?_⟩
    refine ⟨.int k, rfl, .int b, rfl, .ref ra, rfl, ra, ps, xs, k, b, rfl, hR, lp, R, k2, k4, b1, b60, fun H1 s1 => ?_⟩
    refine ⟨.int b, rfl, .ref ra, rfl, ra, ps, xs, k, b, rfl, sT s1 hR, lp.same s1, R, k4, by omega, b60, fun p H2 s2 ep => ?_⟩
    refine ⟨p, _, rfl, SqT.of ep, rfl, _, [_, _], rfl, _, [_], rfl, _, [], rfl, rfl, ?_⟩
    refine ⟨_, rfl, _, rfl, _, rfl, _, _, rfl, rfl, _, rfl, _, _, rfl, rfl, _, rfl, by show 3 ≤ sizeLine; decide, fun p' np => ?_⟩
    have qk := (Lg.tot_ok (by omega : (0 : Int) ≤ b) R).sum
    refine q p' _ ((s1.trans s2).trans (same_upd np)) ?_
    rw [upd_same]
    have e : (Lg.tot b xs).2.1 - (Lg.tot b xs).2.2.2 - (Lg.tot b xs).1 = (Lg.tot b xs).2.2.1 := by omega
    rw [← e]
end

/-! ### whole numbers, numbers within bounds, tuples of them: asked of anything, beside the promises for right ones -/
section
variable {P : Program} {w : World} {K : PySem.W.Frag} {mg : Str → Option Value} {base : Heap}
open RO9
def spIsIntA (K : PySem.W.Frag) : Sp := fun vs H Q _ => ∃ (v : V) (d : PyData), vs = [v] ∧ Od K H v d ∧ Q (.bl (isI d)) H
theorem ok_is_integer_o (T : Tx K mg) : FnOk P w K mg base CX0 1 T.a_is_integer T.d_is_integer ["thing"] (spIsIntA K) := by
  refine T.F_is_integer.ok sc_is_integer (fun vs H Q E h => ?_) (fun cdv A outer s H vs Q E hr h => ?_)
  · obtain ⟨v, d, rfl, _⟩ := h
    rfl
  · obtain ⟨v, d, rfl, od, q⟩ := h
    refine ⟨_, ((pss_one (ps_ret (pe_and (pe_callB call_isi (by rfl) T.m_isinstance (by decide +kernel) (pa_cons (pv 0) (pa_cons (pe_bltn (v := .ty "int") (by rfl) T.m_int (by decide +kernel) rfl) pa_nil))) (pe_one (pe_not (pe_callB call_isi (by rfl) T.m_isinstance (by decide +kernel) (pa_cons (pv 0) (pa_cons (pe_bltn (v := .ty "bool") (by rfl) T.m_bool (by decide +kernel) rfl) pa_nil))))))))), ?_⟩
    refine ⟨v, rfl, v, .ty "int", _, _, _, rfl, .ty _, od.ty, kit_int d, _, rfl, ?_⟩
    cases d with
    | int i => exact iteT ⟨v, rfl, v, .ty "bool", _, _, _, rfl, .ty _, od.ty, kit_bool _, _, rfl, q⟩
    | bool b => exact iteT ⟨v, rfl, v, .ty "bool", _, _, _, rfl, .ty _, od.ty, kit_bool _, _, rfl, q⟩
    | none => exact iteF q
    | str _ => exact iteF q
    | list _ => exact iteF q
    | tuple _ => exact iteF q
    | dict _ => exact iteF q
def spIsNumA (K : PySem.W.Frag) : Sp := fun vs H Q _ => ∃ (v : V) (d : PyData) (a b : Int), vs = [v, .int a, .int b] ∧ Od K H v d ∧ Q (.bl (numD a b d)) H
theorem ok_is_number_o (T : Tx K mg) : FnOk P w K mg base CX0 2 T.a_is_number T.d_is_number ["thing", "least", "most"] (spIsNumA K) := by
  refine T.F_is_number.ok sc_is_number (fun vs H Q E h => ?_) (fun cdv A outer s H vs Q E hr h => ?_)
  · obtain ⟨v, d, a, b, rfl, _⟩ := h
    rfl
  · obtain ⟨v, d, a, b, rfl, od, q⟩ := h
    refine ⟨_, ((pss_one (ps_ret (pe_and (pe_call (ok_is_integer_o T) (hr.mono (by decide)) (by rfl) T.g_is_integer T.F_is_integer.kp T.b_is_integer .nil pass0 (pa_cons (pv 0) pa_nil)) (pe_one (pe_chain op_le op_le (pv 1) (pv 0) (pv 2))))))), ?_⟩
    refine ⟨v, rfl, v, d, rfl, od, _, rfl, ?_⟩
    cases d with
    | int i =>
      cases od
      refine iteT ⟨.int a, rfl, .int i, rfl, a, i, rfl, rfl, _, rfl, ?_⟩
      have q' : Q (.bl (decide (a ≤ i) && decide (i ≤ b))) H := q
      by_cases h : a ≤ i
      · rw [decide_eq_true h] at q' ⊢
        exact iteT ⟨.int b, rfl, i, b, rfl, rfl, q'⟩
      · rw [decide_eq_false h] at q' ⊢
        exact iteF q'
    | none => exact iteF q
    | bool _ => exact iteF q
    | str _ => exact iteF q
    | list _ => exact iteF q
    | tuple _ => exact iteF q
    | dict _ => exact iteF q
def spAreNumsA (K : PySem.W.Frag) : Sp := fun vs H Q _ => ∃ (a : Addr) (xs : List V) (ds : List PyData) (lo hi : Int), vs = [.ref a, .int lo, .int hi] ∧ SqT K H a xs ∧ OdAll K H xs ds ∧ ds.length ≤ 1000 ∧
  ∀ H', Same H H' → Q (.bl (ds.all (numD lo hi))) H'
theorem ok_are_numbers_o (T : Tx K mg) : FnOk P w K mg base CX0 3 T.a_are_numbers T.d_are_numbers ["things", "least", "most"] (spAreNumsA K) := by
  refine T.F_are_numbers.ok sc_are_numbers (fun vs H Q E h => ?_) (fun cdv A outer s H vs Q E hr h => ?_)
  · obtain ⟨a, xs, ds, lo, hi, rfl, _⟩ := h
    rfl
  · obtain ⟨a, xs, ds, lo, hi, rfl, hT, oa, hlen, q⟩ := h
    have zl := oa.len
    refine ⟨_, ((pss_one (ps_ret (pe_callB (cr_all rfl) (by rfl) T.m_all (by decide +kernel) (pa_cons (pe_lc (own := [("thing", 3)]) (g := (gName 3)) (tt := tYes) rfl sc_are_numbers.nd (pi_tup (pv 0)) (blkOk_by (own := [("thing", 3)]) (N := ["things", "least", "most", "thing"]) (sc := defScope s_are_numbers) (by decide +kernel)) (fun _ _ _ _ _ => pg_name (i := 3) sc_are_numbers.nd rfl (.inl rfl)) (fun _ _ _ _ _ => pts_nil) (fun _ _ _ _ _ => (pe_call (ok_is_number_o T) (hr.mono (by decide)) (by rfl) T.g_is_number T.F_is_number.kp T.b_is_number .nil pass0 (pa_cons (pv 3) (pa_cons (pv 1) (pa_cons (pv 2) pa_nil)))))) pa_nil))))), ?_⟩
    refine ⟨.ref a, rfl, a, rfl, ⟨_, hT⟩, fun D hD => lc_tup (K := K) (a := a) (xs := xs)
      (fun i H' => Same H H' ∧ H' D = some (.lst (((ds.take i).map (numD lo hi)).map V.bl)))
      ⟨same_upd hD, upd_same⟩ (fun i H' _ p => sT p.1 hT) (fun i x H' hx p => ?_) (fun H' p => ?_)⟩
    · obtain ⟨sm, eD⟩ := p
      obtain ⟨d, hd, od⟩ := oa.get hx
      have hi' : i < ds.length := (List.getElem?_eq_some_iff.mp hd).1
      refine ⟨rfl, x, rfl, .int lo, rfl, .int hi, rfl, x, d, lo, hi, rfl, od.mono sm, ?_⟩
      refine ⟨_, eD, by rw [List.length_map, List.length_map, List.length_take]; exact small1000 (by omega), same_put sm hD, ?_⟩
      rw [upd_same, take_snoc hd, List.map_append, List.map_append]
      rfl
    · obtain ⟨sm, eD⟩ := p
      rw [zl, List.take_of_length_le (Nat.le_refl _)] at eD
      refine ⟨D, _, rfl, .inl (.inl eD), ?_⟩
      have e2 : ((ds.map (numD lo hi)).all id) = ds.all (numD lo hi) := by
        rw [List.all_map]
        rfl
      rw [e2]
      exact q H' sm
end

/-! ### rounds and long comings: asked of anything -/
section
variable {P : Program} {w : World} {K : PySem.W.Frag} {mg : Str → Option Value} {base : Heap}
open RO9
/-- a tuple is not too long to be looked at -/
def Lim (d : PyData) : Prop := ∀ ds, d = .tuple ds → ds.length ≤ 1000
/-- nor is what is in it, nor what is in that -/
def Lim2 (d : PyData) : Prop := ∀ ds, d = .tuple ds → ∀ x ∈ ds, Lim x
def Lim3 (d : PyData) : Prop := ∀ ds, d = .tuple ds → ∀ x ∈ ds, Lim2 x
def comD (k : Int) : PyData → Bool
  | .tuple ds => decide (ds.length ≤ 400) && ds.all (numD 0 k)
  | _ => false
def spIsComO (K : PySem.W.Frag) : Sp := fun vs H Q _ => ∃ (k : Int) (v : V) (d : PyData), vs = [.int k, v] ∧ Od K H v d ∧ Lim d ∧ ∀ H', Same H H' → Q (.bl (comD k d)) H'
theorem ok_is_comings_o (T : Tx K mg) : FnOk P w K mg base CX0 4 T.a_is_comings T.d_is_comings ["comers", "thing"] (spIsComO K) := by
  refine T.F_is_comings.ok sc_is_comings (fun vs H Q E h => ?_) (fun cdv A outer s H vs Q E hr h => ?_)
  · obtain ⟨k, v, d, rfl, _⟩ := h
    rfl
  · obtain ⟨k, v, d, rfl, od, lm, q⟩ := h
    refine ⟨_, ((pss_one (ps_ret (pe_and (pe_callB call_isi (by rfl) T.m_isinstance (by decide +kernel) (pa_cons (pv 1) (pa_cons (pe_bltn (v := .ty "tuple") (by rfl) T.m_tuple (by decide +kernel) rfl) pa_nil))) (pe_and (pe_cmpR op_le (pe_callB call_len_seq (by rfl) T.m_len PySem.boot_len (pa_cons (pv 1) pa_nil)) (pe_glob (v := .int 400) rfl T.g_MOST_TICKS ⟨_, rfl⟩) (nomark _)) (pe_one (pe_call (ok_are_numbers_o T) (hr.mono (by decide)) (by rfl) T.g_are_numbers T.F_are_numbers.kp T.b_are_numbers .nil pass0 (pa_cons (pv 1) (pa_cons pe_int (pa_cons (pv 0) pa_nil)))))))))), ?_⟩
    have same : Same H H := fun _ _ e => e
    refine ⟨v, rfl, v, .ty "tuple", _, _, _, rfl, .ty _, od.ty, kit_tuple d, _, rfl, ?_⟩
    cases d with
    | tuple ds =>
      have l1000 := lm ds rfl
      cases od with
      | @tup r xs _ hT oa =>
        have zl := oa.len
        refine iteT ⟨.ref r, rfl, r, _, rfl, .inr hT, _, 400, rfl, rfl, decide (((xs.length : Nat) : Int) ≤ 400), rfl, ?_⟩
        by_cases c : ((xs.length : Nat) : Int) ≤ 400
        · rw [decide_eq_true c]
          refine iteT ⟨.ref r, rfl, .int k, rfl, r, xs, ds, 0, k, rfl, hT, oa, l1000, fun H' s' => ?_⟩
          have e2 : comD k (.tuple ds) = ds.all (numD 0 k) := by
            show (decide (ds.length ≤ 400) && ds.all (numD 0 k)) = _
            rw [decide_eq_true (by omega)]
            rfl
          rw [← e2]
          exact q H' s'
        · rw [decide_eq_false c]
          have e2 : comD k (.tuple ds) = false := by
            show (decide (ds.length ≤ 400) && ds.all (numD 0 k)) = _
            rw [decide_eq_false (by omega)]
            rfl
          have q' := q H same
          rw [e2] at q'
          exact iteF q'
    | none => exact iteF (q H same)
    | bool _ => exact iteF (q H same)
    | int _ => exact iteF (q H same)
    | str _ => exact iteF (q H same)
    | list _ => exact iteF (q H same)
    | dict _ => exact iteF (q H same)
def roundD (k : Int) (d : PyData) : Bool := comD k d && (match d with
  | .tuple ds => decide (ds.length ≤ 60)
  | _ => false)
theorem com_tup {k : Int} {d : PyData} (h : comD k d = true) : ∃ ds, d = .tuple ds := by
  cases d with
  | tuple ds => exact ⟨ds, rfl⟩
  | none => cases h
  | bool _ => cases h
  | int _ => cases h
  | str _ => cases h
  | list _ => cases h
  | dict _ => cases h
def spIsRoundO (K : PySem.W.Frag) : Sp := fun vs H Q _ => ∃ (k : Int) (v : V) (d : PyData), vs = [.int k, v] ∧ Od K H v d ∧ Lim d ∧ ∀ H', Same H H' → Q (.bl (roundD k d)) H'
theorem ok_is_round_o (T : Tx K mg) : FnOk P w K mg base CX0 5 T.a_is_round T.d_is_round ["comers", "thing"] (spIsRoundO K) := by
  refine T.F_is_round.ok sc_is_round (fun vs H Q E h => ?_) (fun cdv A outer s H vs Q E hr h => ?_)
  · obtain ⟨k, v, d, rfl, _⟩ := h
    rfl
  · obtain ⟨k, v, d, rfl, od, lm, q⟩ := h
    refine ⟨_, ((pss_one (ps_ret (pe_and (pe_call (ok_is_comings_o T) (hr.mono (by decide)) (by rfl) T.g_is_comings T.F_is_comings.kp T.b_is_comings .nil pass0 (pa_cons (pv 0) (pa_cons (pv 1) pa_nil))) (pe_one (pe_cmpR op_le (pe_callB call_len_seq (by rfl) T.m_len PySem.boot_len (pa_cons (pv 1) pa_nil)) (pe_glob (v := .int 60) rfl T.g_MOST_ROUND ⟨_, rfl⟩) (nomark _))))))), ?_⟩
    refine ⟨.int k, rfl, v, rfl, k, v, d, rfl, od, lm, fun H1 s1 => ?_⟩
    cases c : comD k d with
    | false =>
      have e : roundD k d = false := by
        unfold roundD
        rw [c]
        rfl
      rw [e] at q
      exact ⟨_, rfl, iteF (q H1 s1)⟩
    | true =>
      obtain ⟨ds, rfl⟩ := com_tup c
      have od1 := od.mono s1
      cases od1 with
      | @tup r xs _ hT oa =>
        have zl := oa.len
        refine ⟨_, rfl, iteT ⟨.ref r, rfl, r, _, rfl, .inr hT, _, 60, rfl, rfl, ?_⟩⟩
        have e : roundD k (.tuple ds) = decide (((xs.length : Nat) : Int) ≤ 60) := by
          unfold roundD
          rw [c, zl]
          show decide (ds.length ≤ 60) = _
          exact decide_eq_decide.mpr (by omega)
        rw [e] at q
        exact q H1 s1
def lpairD (k : Int) : PyData → Bool
  | .tuple [x, y] => roundD k x && numD 0 (10 ^ 30) y
  | _ => false
theorem lpair_no {k : Int} {ds : List PyData} (h : ds.length ≠ 2) : lpairD k (.tuple ds) = false := by
  cases ds with
  | nil => rfl
  | cons a t =>
    cases t with
    | nil => rfl
    | cons b t =>
      cases t with
      | nil => exact absurd rfl h
      | cons c t => rfl
def spIsLPO (K : PySem.W.Frag) : Sp := fun vs H Q _ => ∃ (k : Int) (v : V) (d : PyData), vs = [.int k, v] ∧ Od K H v d ∧ Lim2 d ∧ ∀ H', Same H H' → Q (.bl (lpairD k d)) H'
theorem two_of {α : Type} {ds : List α} (h : ds.length = 2) : ∃ x y, ds = [x, y] := by
  cases ds with
  | nil => cases h
  | cons a t =>
    cases t with
    | nil => cases h
    | cons b t =>
      cases t with
      | nil => exact ⟨a, b, rfl⟩
      | cons c t => cases h
theorem ok_is_long_pair_o (T : Tx K mg) : FnOk P w K mg base CX0 6 T.a_is_long_pair T.d_is_long_pair ["comers", "thing"] (spIsLPO K) := by
  refine T.F_is_long_pair.ok sc_is_long_pair (fun vs H Q E h => ?_) (fun cdv A outer s H vs Q E hr h => ?_)
  · obtain ⟨k, v, d, rfl, _⟩ := h
    rfl
  · obtain ⟨k, v, d, rfl, od, lm, q⟩ := h
    refine ⟨_, ((pss_cons (ps_if (PW.pt (pw_or (pt_not (pt_val (pe_callB call_isi (by rfl) T.m_isinstance (by decide +kernel) (pa_cons (pv 1) (pa_cons (pe_bltn (v := .ty "tuple") (by rfl) T.m_tuple (by decide +kernel) rfl) pa_nil))))) (pw_or1 (pt_cmpR op_ne (pe_callB call_len_seq (by rfl) T.m_len PySem.boot_len (pa_cons (pv 1) pa_nil)) pe_int (nomark _))))) (pss_one (ps_ret pe_bl)) pss_nil)
  (pss_one (ps_ret (pe_and (pe_call (ok_is_round_o T) (hr.mono (by decide)) (by rfl) T.g_is_round T.F_is_round.kp T.b_is_round .nil pass0 (pa_cons (pv 0) (pa_cons (pe_ix ix_tup (pv 1) pe_int (fun _ _ => rfl)) pa_nil))) (pe_one (pe_call (ok_is_number_o T) (hr.mono (by decide)) (by rfl) T.g_is_number T.F_is_number.kp T.b_is_number .nil pass0 (pa_cons (pe_ix ix_tup (pv 1) pe_int (fun _ _ => rfl)) (pa_cons pe_int (pa_cons (pe_op op_pow pe_int pe_int) pa_nil)))))))))), ?_⟩
    have same : Same H H := fun _ _ e => e
    refine ⟨v, rfl, v, .ty "tuple", _, _, _, rfl, .ty _, od.ty, kit_tuple d, _, rfl, ?_⟩
    cases d with
    | tuple ds =>
      have lm := lm ds rfl
      cases od with
      | @tup r xs _ hT oa =>
        have zl := oa.len
        refine iteF ⟨.ref r, rfl, r, _, rfl, .inr hT, rfl, _, rfl, ?_⟩
        by_cases c : xs.length = 2
        · obtain ⟨x, y, rfl⟩ := two_of c
          rw [c] at zl
          obtain ⟨dx, dy, rfl⟩ := two_of zl.symm
          cases oa with
          | cons ox oy =>
            cases oy with
            | cons oy _ =>
              refine iteF ?_
              refine ⟨.int k, rfl, .ref r, rfl, r, _, 0, x, rfl, rfl, hT, atI_nat (j := 0) rfl, k, x, dx, rfl, ox, lm dx List.mem_cons_self, fun H1 s1 => ⟨_, rfl, ?_⟩⟩
              have e : lpairD k (.tuple [dx, dy]) = (roundD k dx && numD 0 (10 ^ 30) dy) := rfl
              cases cr : roundD k dx with
              | false =>
                rw [e, cr] at q
                exact iteF (q H1 s1)
              | true =>
                rw [e, cr] at q
                refine iteT ⟨.ref r, rfl, r, _, 1, y, rfl, rfl, sT s1 hT, atI_nat (j := 1) rfl, ?_⟩
                refine ⟨10, 30, rfl, rfl, ⟨by decide, by decide, by decide⟩, y, dy, 0, 10 ^ 30, rfl, oy.mono s1, ?_⟩
                exact q H1 s1
        · rw [lpair_no (fun z => c (zl.trans z))] at q
          rw [decide_eq_false (fun z => c (by have := V.int.inj z; omega))]
          exact q H same
    | none => exact iteT (q H same)
    | bool _ => exact iteT (q H same)
    | int _ => exact iteT (q H same)
    | str _ => exact iteT (q H same)
    | list _ => exact iteT (q H same)
    | dict _ => exact iteT (q H same)
end

/-! ### what is refused -/
theorem exm_self {K : PySem.W.Frag} {S : Addr} (h1 : PySem.W.subIn K (.ref S) (.type "BaseException") = some true) (h2 : PySem.W.isClsIn K S = true) (h3 : PySem.W.typeIn K (.ref S) = some (.type "type")) (h4 : PySem.W.subIn K (.ref S) (.ref S) = some true) :
    PySem.W.exmOne K (.ref S) (.ref S) = some true := by
  have a : (PySem.W.subIn K (.ref S) (.type "BaseException") == some true) = true := by
    rw [h1]
    rfl
  have h2' : (PySem.W.clsIn K S).isSome = true := h2
  have b : ((PySem.W.clsIn K S).isSome && PySem.W.typeIn K (.ref S) == some (.type "type")) = true := by
    rw [h2', h3]
    rfl
  unfold PySem.W.exmOne
  rw [if_pos a]
  show (if _ then PySem.W.subIn K (.ref S) (.ref S) else none) = some true
  rw [if_pos b]
  exact h4
section
variable {P : Program} {w : World} {K : PySem.W.Frag} {mg : Str → Option Value} {base : Heap}
open RO9
def spI0 : Sp := fun vs H Q _ => ∃ a : Addr, vs = [.ref a] ∧ Q .non H
theorem ok_NoComers___init__ (T : Tx K mg) : FnOk P w K mg base CX0 1 T.a_NoComers___init__ T.d_NoComers___init__ ["self"] spI0 := by
  refine T.F_NoComers___init__.ok sc_NoComers___init__ (fun vs H Q E h => ?_) (fun cdv A outer s H vs Q E hr h => ?_)
  · obtain ⟨a, rfl, _⟩ := h
    rfl
  · obtain ⟨a, rfl, q⟩ := h
    exact ⟨_, ((pss_one ps_pass)), q⟩
theorem ok_NoBound___init__ (T : Tx K mg) : FnOk P w K mg base CX0 1 T.a_NoBound___init__ T.d_NoBound___init__ ["self"] spI0 := by
  refine T.F_NoBound___init__.ok sc_NoBound___init__ (fun vs H Q E h => ?_) (fun cdv A outer s H vs Q E hr h => ?_)
  · obtain ⟨a, rfl, _⟩ := h
    rfl
  · obtain ⟨a, rfl, q⟩ := h
    exact ⟨_, ((pss_one ps_pass)), q⟩
theorem ok_NoLong___init__ (T : Tx K mg) : FnOk P w K mg base CX0 1 T.a_NoLong___init__ T.d_NoLong___init__ ["self"] spI0 := by
  refine T.F_NoLong___init__.ok sc_NoLong___init__ (fun vs H Q E h => ?_) (fun cdv A outer s H vs Q E hr h => ?_)
  · obtain ⟨a, rfl, _⟩ := h
    rfl
  · obtain ⟨a, rfl, q⟩ := h
    exact ⟨_, ((pss_one ps_pass)), q⟩
def spChkX (lo hi : Int) (K : PySem.W.Frag) (C : Addr) : Sp := fun vs H Q E => ∃ (v : V) (d : PyData), vs = [v] ∧ Od K H v d ∧ (numD lo hi d = true → Q .non H) ∧ (numD lo hi d = false → E (.ref C) none H)
theorem ok_check_comers_x (T : Tx K mg) : FnOk P w K mg base (L2N.CX P w) 4 T.a_check_comers T.d_check_comers ["thing"] (spChkX 2 4 K T.c_NoComers) := by
  refine HL11.okN T.F_check_comers sc_check_comers (fun vs H Q E h => ?_) (fun cdv A outer s H vs Q E hr h => ?_)
  · obtain ⟨v, d, rfl, _⟩ := h
    rfl
  · obtain ⟨v, d, rfl, od, qn, qe⟩ := h
    refine ⟨_, ((pss_one (ps_if (pt_not (pt_val (pe_call (ok_is_number_o T) (hr.mono (by decide)) (by rfl) T.g_is_number T.F_is_number.kp T.b_is_number .nil pass0 (pa_cons (pv 0) (pa_cons pe_int (pa_cons (pe_glob (v := .int 4) rfl T.g_MOST_COMERS ⟨_, rfl⟩) pa_nil)))))) (pss_one (L2N.ps_raise rfl (L2N.takes_of rfl rfl rfl rfl) (EXN.pmk_oex0N T.x_NoComers T.i_NoComers T.ti_NoComers (ok_NoComers___init__ T) (fun a H Q E h => ⟨a, rfl, h⟩) (hr.mono (by decide)) T.b_NoComers___init__ pass0 (by rfl) T.g_NoComers))) pss_nil))), ?_⟩
    refine ⟨v, rfl, v, d, 2, 4, rfl, od, _, rfl, ?_⟩
    cases c : numD 2 4 d with
    | false => exact iteT (qe c)
    | true => exact iteF (qn c)
theorem ok_check_bound_x (T : Tx K mg) : FnOk P w K mg base (L2N.CX P w) 4 T.a_check_bound T.d_check_bound ["thing"] (spChkX 1 60 K T.c_NoBound) := by
  refine HL11.okN T.F_check_bound sc_check_bound (fun vs H Q E h => ?_) (fun cdv A outer s H vs Q E hr h => ?_)
  · obtain ⟨v, d, rfl, _⟩ := h
    rfl
  · obtain ⟨v, d, rfl, od, qn, qe⟩ := h
    refine ⟨_, ((pss_one (ps_if (pt_not (pt_val (pe_call (ok_is_number_o T) (hr.mono (by decide)) (by rfl) T.g_is_number T.F_is_number.kp T.b_is_number .nil pass0 (pa_cons (pv 0) (pa_cons pe_int (pa_cons (pe_glob (v := .int 60) rfl T.g_MOST_BOUND ⟨_, rfl⟩) pa_nil)))))) (pss_one (L2N.ps_raise rfl (L2N.takes_of rfl rfl rfl rfl) (EXN.pmk_oex0N T.x_NoBound T.i_NoBound T.ti_NoBound (ok_NoBound___init__ T) (fun a H Q E h => ⟨a, rfl, h⟩) (hr.mono (by decide)) T.b_NoBound___init__ pass0 (by rfl) T.g_NoBound))) pss_nil))), ?_⟩
    refine ⟨v, rfl, v, d, 1, 60, rfl, od, _, rfl, ?_⟩
    cases c : numD 1 60 d with
    | false => exact iteT (qe c)
    | true => exact iteF (qn c)
def intD : PyData → Int
  | .int i => i
  | _ => 0
theorem num_of {K : PySem.W.Frag} {H : Hp} {lo hi : Int} {v : V} {d : PyData} (od : Od K H v d) (h : numD lo hi d = true) : v = .int (intD d) ∧ d = .int (intD d) ∧ lo ≤ intD d ∧ intD d ≤ hi := by
  cases od with
  | int i =>
    have h' : (decide (lo ≤ i) && decide (i ≤ hi)) = true := h
    rw [Bool.and_eq_true] at h'
    exact ⟨rfl, rfl, of_decide_eq_true h'.1, of_decide_eq_true h'.2⟩
  | _ => exact absurd (show false = true from h) Bool.false_ne_true
theorem ints_of {lo hi : Int} {K : PySem.W.Frag} {H : Hp} : ∀ {xs : List V} {ds : List PyData}, OdAll K H xs ds → ds.all (numD lo hi) = true → ∃ ns : List Int, xs = ns.map V.int ∧ ds = ns.map PyData.int ∧ ∀ n ∈ ns, lo ≤ n ∧ n ≤ hi
  | [], _, h, _ => by
    cases h
    exact ⟨[], rfl, rfl, fun _ h => by simp at h⟩
  | x :: xs, _, h, ha => by
    cases h with
    | @cons _ _ d ds a t =>
      rw [List.all_cons, Bool.and_eq_true] at ha
      obtain ⟨ns, e1, e2, e3⟩ := ints_of t ha.2
      obtain ⟨ev, ed, h1, h2⟩ := num_of a ha.1
      refine ⟨intD d :: ns, by rw [ev, e1]; rfl, by rw [e2, List.map_cons, ← ed], fun n hn => ?_⟩
      rcases List.mem_cons.mp hn with rfl | hn
      · exact ⟨h1, h2⟩
      · exact e3 n hn
/-- refused: nothing else -/
def Refused (cs : Nat → Addr) (du : Option Nat) (H : Hp) (E : XK) : Prop := ∃ c, du = some c ∧ ∀ H', Same H H' → E (.ref (cs c)) none H'
/-- let or refused -/
def Judged (cs : Nat → Addr) (du : Option Nat) (H : Hp) (Q : VK) (E : XK) : Prop := (du = none → ∀ v H', Same H H' → Q v H') ∧ ∀ c, du = some c → ∀ H', Same H H' → E (.ref (cs c)) none H'
def clsT (T : Tx K mg) : Nat → Addr
  | 0 => T.c_NoComers
  | 1 => T.c_NoBound
  | _ => T.c_NoLong
def dueB (d1 d2 : PyData) (r : Option Nat) : Option Nat := if numD 2 4 d1 then (if numD 1 60 d2 then r else some 1) else some 0
def longD (k : Int) : PyData → Bool
  | .tuple ds => decide (ds.length ≤ 20) && ds.all (lpairD k)
  | _ => false
def roundN (k : Int) (d : PyData) : Bool := roundD k d && (match d with
  | .tuple ds => decide (ds ≠ [])
  | _ => false)
def dueL (d1 d2 d3 : PyData) : Option Nat := dueB d1 d2 (if longD (intD d1) d3 then none else some 2)
def dueR (d1 d2 d3 : PyData) : Option Nat := dueB d1 d2 (if roundN (intD d1) d3 then none else some 2)
def spChkLX (T : Tx K mg) : Sp := fun vs H Q E => ∃ (v1 v2 v3 : V) (d1 d2 d3 : PyData), vs = [v1, v2, v3] ∧ Od K H v1 d1 ∧ Od K H v2 d2 ∧ Od K H v3 d3 ∧ Lim3 d3 ∧ (dueL d1 d2 d3 = none → ∀ H', Same H H' → Q .non H') ∧ ∀ c, dueL d1 d2 d3 = some c → ∀ H', Same H H' → E (.ref (clsT T c)) none H'
theorem ok_check_long_x (T : Tx K mg) : FnOk P w K mg base (L2N.CX P w) 7 T.a_check_long T.d_check_long ["comers", "bound", "long"] (spChkLX T) := by
  refine HL11.okN T.F_check_long sc_check_long (fun vs H Q E h => ?_) (fun cdv A outer s H vs Q E hr h => ?_)
  · obtain ⟨v1, v2, v3, d1, d2, d3, rfl, _⟩ := h
    rfl
  · obtain ⟨v1, v2, v3, d1, d2, d3, rfl, o1, o2, o3, l3, qn, qe⟩ := h
    refine ⟨_, ((pss_cons (ps_expr (pe_callS (ok_check_comers_x T) (hr.mono (by decide)) (by rfl) T.g_check_comers T.F_check_comers.kp T.b_check_comers (fun σ => L2N.passAt (L2N.takes_of rfl rfl rfl rfl) σ) (pa_cons (pv 0) pa_nil)))
  (pss_cons (ps_expr (pe_callS (ok_check_bound_x T) (hr.mono (by decide)) (by rfl) T.g_check_bound T.F_check_bound.kp T.b_check_bound (fun σ => L2N.passAt (L2N.takes_of rfl rfl rfl rfl) σ) (pa_cons (pv 1) pa_nil)))
  (pss_one (ps_if (PW.pt (pw_or (pt_not (pt_val (pe_callB call_isi (by rfl) T.m_isinstance (by decide +kernel) (pa_cons (pv 2) (pa_cons (pe_bltn (v := .ty "tuple") (by rfl) T.m_tuple (by decide +kernel) rfl) pa_nil))))) (pw_or (pt_cmpR op_gt (pe_callB call_len_seq (by rfl) T.m_len PySem.boot_len (pa_cons (pv 2) pa_nil)) (pe_glob (v := .int 20) rfl T.g_MOST_PAIRS ⟨_, rfl⟩) (nomark _)) (pw_or1 (pt_not (pt_val (pe_callB (cr_all rfl) (by rfl) T.m_all (by decide +kernel) (pa_cons (pe_lc (own := [("pair", 3)]) (g := (gName 3)) (tt := tYes) rfl sc_check_long.nd (pi_tup (pv 2)) (blkOk_by (own := [("pair", 3)]) (N := ["comers", "bound", "long", "pair"]) (sc := defScope s_check_long) (by decide +kernel)) (fun _ _ _ _ _ => pg_name (i := 3) sc_check_long.nd rfl (.inl rfl)) (fun _ _ _ _ _ => pts_nil) (fun _ _ _ _ _ => (pe_call (ok_is_long_pair_o T) (hr.mono (by decide)) (by rfl) T.g_is_long_pair T.F_is_long_pair.kp T.b_is_long_pair .nil pass0 (pa_cons (pv 0) (pa_cons (pv 3) pa_nil))))) pa_nil)))))))) (pss_one (L2N.ps_raise rfl (L2N.takes_of rfl rfl rfl rfl) (EXN.pmk_oex0N T.x_NoLong T.i_NoLong T.ti_NoLong (ok_NoLong___init__ T) (fun a H Q E h => ⟨a, rfl, h⟩) (hr.mono (by decide)) T.b_NoLong___init__ pass0 (by rfl) T.g_NoLong))) pss_nil))))), ?_⟩
    have same : Same H H := fun _ _ e => e
    refine ⟨v1, rfl, v1, d1, rfl, o1, fun n1 => ?_, fun n1 => qe 0 (by unfold dueL dueB; rw [n1]; rfl) H same⟩
    obtain ⟨rfl, _, _, _⟩ := num_of o1 n1
    refine ⟨v2, rfl, v2, d2, rfl, o2, fun n2 => ?_, fun n2 => qe 1 (by unfold dueL dueB; rw [n1, n2]; rfl) H same⟩
    have e : dueL d1 d2 d3 = if longD (intD d1) d3 then none else some 2 := by
      unfold dueL dueB
      rw [n1, n2]
      rfl
    rw [e] at qn qe
    refine ⟨v3, rfl, v3, .ty "tuple", _, _, _, rfl, .ty _, o3.ty, kit_tuple d3, _, rfl, ?_⟩
    cases d3 with
    | tuple ds =>
      have l3 := l3 ds rfl
      cases o3 with
      | @tup r xs _ hT oa =>
        have zl := oa.len
        refine iteF ⟨.ref r, rfl, r, _, rfl, .inr hT, _, 20, rfl, rfl, _, rfl, ?_⟩
        by_cases c : ds.length ≤ 20
        · rw [decide_eq_false (by omega)]
          have e2 : longD (intD d1) (.tuple ds) = ds.all (lpairD (intD d1)) := by
            show (decide (ds.length ≤ 20) && ds.all (lpairD (intD d1))) = _
            rw [decide_eq_true c]
            rfl
          rw [e2] at qn qe
          refine iteF ⟨.ref r, rfl, r, rfl, ⟨_, hT⟩, fun D hD => lc_tup (K := K) (a := r) (xs := xs)
            (fun i H' => Same H H' ∧ H' D = some (.lst (((ds.take i).map (lpairD (intD d1))).map V.bl)))
            ⟨same_upd hD, upd_same⟩ (fun i H' _ p => sT p.1 hT) (fun i x H' hx p => ?_) (fun H' p => ?_)⟩
          · obtain ⟨sm, eD⟩ := p
            obtain ⟨d, hd, od⟩ := oa.get hx
            have hi' : i < ds.length := (List.getElem?_eq_some_iff.mp hd).1
            refine ⟨rfl, .int (intD d1), rfl, x, rfl, intD d1, x, d, rfl, od.mono sm, l3 d (List.mem_of_getElem? hd), fun H2 s2 => ?_⟩
            refine ⟨_, s2 _ _ eD, by rw [List.length_map, List.length_map, List.length_take]; exact small1000 (by omega), same_put (sm.trans s2) hD, ?_⟩
            rw [upd_same, take_snoc hd, List.map_append, List.map_append]
            rfl
          · obtain ⟨sm, eD⟩ := p
            rw [zl, List.take_of_length_le (Nat.le_refl _)] at eD
            have e3 : ((ds.map (lpairD (intD d1))).all id) = ds.all (lpairD (intD d1)) := by
              rw [List.all_map]
              rfl
            refine ⟨D, _, rfl, .inl (.inl eD), ds.all (lpairD (intD d1)), congrArg V.bl e3, ?_⟩
            cases ca : ds.all (lpairD (intD d1)) with
            | true =>
              rw [ca] at qn
              exact iteF (qn rfl H' sm)
            | false =>
              rw [ca] at qe
              exact iteT (qe 2 rfl H' sm)
        · rw [decide_eq_true (by omega)]
          have e2 : longD (intD d1) (.tuple ds) = false := by
            show (decide (ds.length ≤ 20) && ds.all (lpairD (intD d1))) = _
            rw [decide_eq_false c]
            rfl
          rw [e2] at qe
          exact iteT (qe 2 rfl H same)
    | none => exact iteT (qe 2 rfl H same)
    | bool _ => exact iteT (qe 2 rfl H same)
    | int _ => exact iteT (qe 2 rfl H same)
    | str _ => exact iteT (qe 2 rfl H same)
    | list _ => exact iteT (qe 2 rfl H same)
    | dict _ => exact iteT (qe 2 rfl H same)
def spChkRX (T : Tx K mg) : Sp := fun vs H Q E => ∃ (v1 v2 v3 : V) (d1 d2 d3 : PyData), vs = [v1, v2, v3] ∧ Od K H v1 d1 ∧ Od K H v2 d2 ∧ Od K H v3 d3 ∧ Lim d3 ∧ (dueR d1 d2 d3 = none → ∀ H', Same H H' → Q .non H') ∧ ∀ c, dueR d1 d2 d3 = some c → ∀ H', Same H H' → E (.ref (clsT T c)) none H'
theorem round_tup {k : Int} {d : PyData} (h : roundD k d = true) : ∃ ds, d = .tuple ds := by
  unfold roundD at h
  rw [Bool.and_eq_true] at h
  exact com_tup h.1
theorem ok_check_round_x (T : Tx K mg) : FnOk P w K mg base (L2N.CX P w) 7 T.a_check_round T.d_check_round ["comers", "bound", "comings"] (spChkRX T) := by
  refine HL11.okN T.F_check_round sc_check_round (fun vs H Q E h => ?_) (fun cdv A outer s H vs Q E hr h => ?_)
  · obtain ⟨v1, v2, v3, d1, d2, d3, rfl, _⟩ := h
    rfl
  · obtain ⟨v1, v2, v3, d1, d2, d3, rfl, o1, o2, o3, l3, qn, qe⟩ := h
    refine ⟨_, ((pss_cons (ps_expr (pe_callS (ok_check_comers_x T) (hr.mono (by decide)) (by rfl) T.g_check_comers T.F_check_comers.kp T.b_check_comers (fun σ => L2N.passAt (L2N.takes_of rfl rfl rfl rfl) σ) (pa_cons (pv 0) pa_nil)))
  (pss_cons (ps_expr (pe_callS (ok_check_bound_x T) (hr.mono (by decide)) (by rfl) T.g_check_bound T.F_check_bound.kp T.b_check_bound (fun σ => L2N.passAt (L2N.takes_of rfl rfl rfl rfl) σ) (pa_cons (pv 1) pa_nil)))
  (pss_one (ps_if (PW.pt (pw_or (pt_not (pt_val (pe_call (ok_is_round_o T) (hr.mono (by decide)) (by rfl) T.g_is_round T.F_is_round.kp T.b_is_round .nil pass0 (pa_cons (pv 0) (pa_cons (pv 2) pa_nil))))) (pw_or1 (pt_cmpR op_eq (pe_callB call_len_seq (by rfl) T.m_len PySem.boot_len (pa_cons (pv 2) pa_nil)) pe_int (nomark _))))) (pss_one (L2N.ps_raise rfl (L2N.takes_of rfl rfl rfl rfl) (EXN.pmk_oex0N T.x_NoLong T.i_NoLong T.ti_NoLong (ok_NoLong___init__ T) (fun a H Q E h => ⟨a, rfl, h⟩) (hr.mono (by decide)) T.b_NoLong___init__ pass0 (by rfl) T.g_NoLong))) pss_nil))))), ?_⟩
    have same : Same H H := fun _ _ e => e
    refine ⟨v1, rfl, v1, d1, rfl, o1, fun n1 => ?_, fun n1 => qe 0 (by unfold dueR dueB; rw [n1]; rfl) H same⟩
    obtain ⟨rfl, _, _, _⟩ := num_of o1 n1
    refine ⟨v2, rfl, v2, d2, rfl, o2, fun n2 => ?_, fun n2 => qe 1 (by unfold dueR dueB; rw [n1, n2]; rfl) H same⟩
    have e : dueR d1 d2 d3 = if roundN (intD d1) d3 then none else some 2 := by
      unfold dueR dueB
      rw [n1, n2]
      rfl
    rw [e] at qn qe
    refine ⟨.int (intD d1), rfl, v3, rfl, intD d1, v3, d3, rfl, o3, l3, fun H1 s1 => ⟨_, rfl, ?_⟩⟩
    cases c : roundD (intD d1) d3 with
    | false =>
      have e2 : roundN (intD d1) d3 = false := by
        unfold roundN
        rw [c]
        rfl
      rw [e2] at qe
      exact iteT (qe 2 rfl H1 s1)
    | true =>
      obtain ⟨ds, rfl⟩ := round_tup c
      have o3 := o3.mono s1
      cases o3 with
      | @tup r xs _ hT oa =>
        have zl := oa.len
        refine iteF ⟨.ref r, rfl, r, _, rfl, .inr hT, rfl, _, rfl, ?_⟩
        by_cases z : ds = []
        · have e2 : roundN (intD d1) (.tuple ds) = false := by
            unfold roundN
            rw [c, z]
            rfl
          rw [e2] at qe
          rw [decide_eq_true (by rw [zl, z]; rfl)]
          exact iteT (qe 2 rfl H1 s1)
        · have e2 : roundN (intD d1) (.tuple ds) = true := by
            unfold roundN
            rw [c]
            exact decide_eq_true z
          rw [e2] at qn
          rw [decide_eq_false (fun y => z (List.length_eq_zero_iff.mp (by have := V.int.inj y; omega)))]
          exact iteF (qn rfl H1 s1)
end

/-! ### settled lines -/

section
variable {P : Program} {w : World} {K : PySem.W.Frag} {mg : Str → Option Value} {base : Heap}
def spChkRound (K : PySem.W.Frag) : Sp := fun vs H Q _ => ∃ (a : Addr) (cs : List Int) (k b : Int), vs = [.int k, .int b, .ref a] ∧ SqT K H a (cs.map V.int) ∧ Rt k cs ∧ 1 ≤ cs.length ∧ cs.length ≤ 60 ∧ 2 ≤ k ∧ k ≤ 4 ∧ 1 ≤ b ∧ b ≤ 60 ∧ ∀ H', Same H H' → Q .non H'
theorem ok_check_round (T : Tx K mg) : FnOk P w K mg base CX0 7 T.a_check_round T.d_check_round ["comers", "bound", "comings"] (spChkRound K) := by
  refine T.F_check_round.ok sc_check_round (fun vs H Q E h => ?_) (fun cdv A outer s H vs Q E hr h => ?_)
  · obtain ⟨a, cs, k, b, rfl, _⟩ := h
    rfl
  · obtain ⟨a, cs, k, b, rfl, hT, g, h1, h60, k2, k4, b1, b60, q⟩ := h
    refine ⟨_, ((pss_cons (ps_expr (pe_call (ok_check_comers T) (hr.mono (by decide)) (by rfl) T.g_check_comers T.F_check_comers.kp T.b_check_comers .nil pass0 (pa_cons (pv 0) pa_nil)))
  (pss_cons (ps_expr (pe_call (ok_check_bound T) (hr.mono (by decide)) (by rfl) T.g_check_bound T.F_check_bound.kp T.b_check_bound .nil pass0 (pa_cons (pv 1) pa_nil)))
  (pss_one (ps_if (PW.pt (pw_or (pt_not (pt_val (pe_call (ok_is_round T) (hr.mono (by decide)) (by rfl) T.g_is_round T.F_is_round.kp T.b_is_round .nil pass0 (pa_cons (pv 0) (pa_cons (pv 2) pa_nil))))) (pw_or1 (pt_cmpR op_eq (pe_callB call_len_seq (by rfl) T.m_len PySem.boot_len (pa_cons (pv 2) pa_nil)) pe_int (nomark _))))) (pss_one ps_never) pss_nil))))), ?_⟩
    refine ⟨.int k, rfl, k, rfl, k2, k4, ?_⟩
    refine ⟨.int b, rfl, b, rfl, b1, b60, ?_⟩
    refine ⟨.int k, rfl, .ref a, rfl, a, cs, k, rfl, hT, g, h60, fun H' sm => ⟨true, rfl, iteF ?_⟩⟩
    refine ⟨.ref a, rfl, a, _, rfl, .inr (sT sm hT), rfl, false, congrArg V.bl (decide_eq_false fun z => ?_), iteF ?_⟩
    · have := V.int.inj z
      rw [List.length_map] at this
      omega
    · exact q H' sm
def spSettle (K : PySem.W.Frag) : Sp := fun vs H Q _ => ∃ (a : Addr) (cs : List Int) (b k : Int), vs = [.int b, .ref a] ∧ SqT K H a (cs.map V.int) ∧ Rt k cs ∧ k ≤ 4 ∧ 0 ≤ b ∧ b ≤ 60 ∧
  ∀ (r : Nat) p H', Lg.Stl b cs r → Same H H' → H' p = some (.tup [.int (r : Int), .int (Lg.gr b cs r)]) → Q (.ref p) H'
theorem ok_settle (T : Tx K mg) : FnOk P w K mg base CX0 3 T.a_settle T.d_settle ["bound", "comings"] (spSettle K) := by
  refine T.F_settle.ok sc_settle (fun vs H Q E h => ?_) (fun cdv A outer s H vs Q E hr h => ?_)
  · obtain ⟨a, cs, b, k, rfl, _⟩ := h
    rfl
  · obtain ⟨a, cs, b, k, rfl, hT, g, k4, b0, b60, q⟩ := h
    refine ⟨_, ((pss_cons (ps_set (i := 2) sc_settle.nd rfl (.inl rfl) pe_int)
  (pss_cons (ps_set (i := 3) sc_settle.nd rfl (.inl rfl) pe_int)
  (pss_cons (ps_asg (pe_call (ok_follow_round T) (hr.mono (by decide)) (by rfl) T.g_follow_round T.F_follow_round.kp T.b_follow_round .nil pass0 (pa_cons (pv 0) (pa_cons (pv 3) (pa_cons (pv 1) pa_nil)))) (pg_tup rfl (pgs_cons (pg_name (i := 4) sc_settle.nd rfl (.inl rfl)) (pgs_cons (pg_name (i := 5) sc_settle.nd rfl (.inl rfl)) (pgs_cons (pg_name (i := 5) sc_settle.nd rfl (.inl rfl)) pgs_nil)))))
  (pss_cons (ps_while PassesOwn.never (pt_cmpR op_ne (pv 4) (pv 3) (nomark _)) (pss_cons (ps_aug (i := 2) sc_settle.nd rfl (.inl rfl) pe_int ip_add)
  (pss_cons (ps_set (i := 3) sc_settle.nd rfl (.inl rfl) (pv 4))
  (pss_one (ps_asg (pe_call (ok_follow_round T) (hr.mono (by decide)) (by rfl) T.g_follow_round T.F_follow_round.kp T.b_follow_round .nil pass0 (pa_cons (pv 0) (pa_cons (pv 3) (pa_cons (pv 1) pa_nil)))) (pg_tup rfl (pgs_cons (pg_name (i := 4) sc_settle.nd rfl (.inl rfl)) (pgs_cons (pg_name (i := 5) sc_settle.nd rfl (.inl rfl)) (pgs_cons (pg_name (i := 5) sc_settle.nd rfl (.inl rfl)) pgs_nil)))))))))
  (pss_one (ps_ret (pe_tup (pa_cons (pv 2) (pa_cons (pv 3) pa_nil)))))))))), ?_⟩
    have c0 : ∀ c ∈ cs, 0 ≤ c := fun c hc => (g.2 c hc).1
    refine ⟨.int b, rfl, .int 0, rfl, .ref a, rfl, a, cs, b, 0, k, rfl, hT, g, k4, b0, fun p1 H1 s1 np1 ep1 => ⟨p1, _, rfl, SqT.of ep1, rfl, _, [_, _], rfl, _, [_], rfl, _, [], rfl, rfl, ?_⟩⟩
    refine ⟨fun m σ' H' => ∃ (i : Nat) (y5 : Option V), m + i = 61 ∧ σ' = [some (.int b), some (.ref a), some (.int (i : Int)), some (.int (Lg.gr b cs i)), some (.int (Lg.gr b cs (i + 1))), y5] ∧ Same H H' ∧ ∀ j, j < i → Lg.gr b cs (j + 1) ≠ Lg.gr b cs j,
      ⟨61, 0, _, rfl, rfl, s1, fun j hj => absurd hj (Nat.not_lt_zero _)⟩, ?_⟩
    rintro m σ' H2 ⟨i, y5, em, rfl, s2, hj⟩
    by_cases c : Lg.gr b cs (i + 1) = Lg.gr b cs i
    · refine ⟨.int _, rfl, .int _, rfl, rfl, false, by rw [c, decide_eq_true rfl]; rfl, iteF ?_⟩
      refine ⟨_, rfl, _, rfl, by show 2 ≤ sizeLine; decide, fun p np => ?_⟩
      exact q i p _ ⟨c, hj⟩ (s2.trans (same_upd np)) upd_same
    · refine ⟨.int _, rfl, .int _, rfl, rfl, true, by rw [decide_eq_false (fun z => c (V.int.inj z))]; rfl, iteT ?_⟩
      have hj' : ∀ j, j < i + 1 → Lg.gr b cs (j + 1) ≠ Lg.gr b cs j := fun j h => by
        rcases Nat.lt_succ_iff_lt_or_eq.mp h with h | rfl
        · exact hj j h
        · exact c
      have ib := Lg.stl_b b0 c0 hj'
      refine ⟨fun σ3 H3 => ∃ (y5 : Option V), σ3 = [some (.int b), some (.ref a), some (.int ((i : Int) + 1)), some (.int (Lg.gr b cs (i + 1))), some (.int (Lg.gr b cs (i + 1 + 1))), y5] ∧ Same H H3, fun σ3 H3 h3 => ?_, ?_⟩
      · obtain ⟨z5, e3, s3⟩ := h3
        exact ⟨60 - i, by omega, i + 1, z5, by omega, e3, s3, hj'⟩
      · refine ⟨_, rfl, _, _, rfl, rfl, ?_⟩
        refine ⟨_, rfl, ?_⟩
        refine ⟨.int b, rfl, .int _, rfl, .ref a, rfl, a, cs, b, Lg.gr b cs (i + 1), k, rfl, sT s2 hT, g, k4, b0, fun p1 H3 s3 np1 ep1 => ⟨p1, _, rfl, SqT.of ep1, rfl, _, [_, _], rfl, _, [_], rfl, _, [], rfl, rfl, ?_⟩⟩
        exact ⟨_, rfl, s2.trans s3⟩
def spSettled (K : PySem.W.Frag) : Sp := fun vs H Q _ => ∃ (a : Addr) (cs : List Int) (k b : Int), vs = [.int k, .int b, .ref a] ∧ SqT K H a (cs.map V.int) ∧ Rt k cs ∧ 1 ≤ cs.length ∧ cs.length ≤ 60 ∧ 2 ≤ k ∧ k ≤ 4 ∧ 1 ≤ b ∧ b ≤ 60 ∧
  ∀ (r : Nat) p H', Lg.Stl b cs r → Same H H' → H' p = some (.tup [.int (r : Int), .int (Lg.gr b cs r)]) → Q (.ref p) H'
theorem ok_settled (T : Tx K mg) : FnOk P w K mg base CX0 8 T.a_settled T.d_settled ["comers", "bound", "comings"] (spSettled K) := by
  refine T.F_settled.ok sc_settled (fun vs H Q E h => ?_) (fun cdv A outer s H vs Q E hr h => ?_)
  · obtain ⟨a, cs, k, b, rfl, _⟩ := h
    rfl
  · obtain ⟨a, cs, k, b, rfl, hT, g, h1, h60, k2, k4, b1, b60, q⟩ := h
    refine ⟨_, ((pss_cons (ps_expr (pe_call (ok_check_round T) (hr.mono (by decide)) (by rfl) T.g_check_round T.F_check_round.kp T.b_check_round .nil pass0 (pa_cons (pv 0) (pa_cons (pv 1) (pa_cons (pv 2) pa_nil)))))
  (pss_one (ps_ret (pe_call (ok_settle T) (hr.mono (by decide)) (by rfl) T.g_settle T.F_settle.kp T.b_settle .nil pass0 (pa_cons (pv 1) (pa_cons (pv 2) pa_nil))))))), ?_⟩
    refine ⟨.int k, rfl, .int b, rfl, .ref a, rfl, a, cs, k, b, rfl, hT, g, h1, h60, k2, k4, b1, b60, fun H1 s1 => ?_⟩
    exact ⟨.int b, rfl, .ref a, rfl, a, cs, b, k, rfl, sT s1 hT, g, k4, by omega, b60, fun r p H2 st s2 ep => q r p H2 st (s1.trans s2) ep⟩
/-- the fraction of two numbers -/
def spReduced (K : PySem.W.Frag) : Sp := fun vs H Q _ => ∃ (t b : Int), vs = [.int t, .int b] ∧ 0 ≤ t ∧ t ≤ 1000 ∧ 1 ≤ b ∧ b ≤ 1000 ∧
  ∀ p H', Same H H' → H' p = some (.tup [.int (t / ((Nat.gcd t.natAbs b.natAbs : Nat) : Int)), .int (b / ((Nat.gcd t.natAbs b.natAbs : Nat) : Int))]) → Q (.ref p) H'
theorem ok_reduced (T : Tx K mg) : FnOk P w K mg base CX0 1 T.a_reduced T.d_reduced ["top", "bottom"] (spReduced K) := by
  refine T.F_reduced.ok sc_reduced (fun vs H Q E h => ?_) (fun cdv A outer s H vs Q E hr h => ?_)
  · obtain ⟨t, b, rfl, _⟩ := h
    rfl
  · obtain ⟨t, b, rfl, t0, t1, b0, b1, q⟩ := h
    refine ⟨_, ((pss_cons (ps_set (i := 2) sc_reduced.nd rfl (.inl rfl) (pe_callBfun cr_gcd (by rfl) T.g_gcd (pa_cons (pv 0) (pa_cons (pv 1) pa_nil))))
  (pss_one (ps_ret (pe_tup (pa_cons (pe_op op_fdivW (pv 0) (pv 2)) (pa_cons (pe_op op_fdivW (pv 1) (pv 2)) pa_nil))))))), ?_⟩
    have gp : 0 < Nat.gcd t.natAbs b.natAbs := Nat.gcd_pos_of_pos_right _ (by omega)
    have gl : Nat.gcd t.natAbs b.natAbs ≤ 1000 := Nat.le_trans (Nat.gcd_le_right _ (by omega)) (by omega)
    have wd : ∀ i : Int, CDivW i ((Nat.gcd t.natAbs b.natAbs : Nat) : Int) := fun i => wide_div (by omega) (b := 60) (by omega) (by decide) (by decide)
    refine ⟨_, rfl, _, rfl, t, b, rfl, ?_⟩
    refine ⟨_, rfl, _, rfl, _, _, rfl, rfl, wd t, _, rfl, _, rfl, _, _, rfl, rfl, wd b, by show 2 ≤ sizeLine; decide, fun p np => ?_⟩
    exact q p _ (same_upd np) upd_same
def share (b : Int) (cs : List Int) (l : Int) : Int × Int := if cs.sum > 0 then ((Lg.rd b cs l).2.2 / ((Nat.gcd (Lg.rd b cs l).2.2.natAbs cs.sum.natAbs : Nat) : Int), cs.sum / ((Nat.gcd (Lg.rd b cs l).2.2.natAbs cs.sum.natAbs : Nat) : Int)) else (0, 1)
def spShare (K : PySem.W.Frag) : Sp := fun vs H Q _ => ∃ (a : Addr) (cs : List Int) (k b : Int), vs = [.int k, .int b, .ref a] ∧ SqT K H a (cs.map V.int) ∧ Rt k cs ∧ 1 ≤ cs.length ∧ cs.length ≤ 60 ∧ 2 ≤ k ∧ k ≤ 4 ∧ 1 ≤ b ∧ b ≤ 60 ∧
  ∀ (r : Nat) p H', Lg.Stl b cs r → Same H H' → H' p = some (.tup [.int (share b cs (Lg.gr b cs r)).1, .int (share b cs (Lg.gr b cs r)).2]) → Q (.ref p) H'
theorem ok_lost_share (T : Tx K mg) : FnOk P w K mg base CX0 8 T.a_lost_share T.d_lost_share ["comers", "bound", "comings"] (spShare K) := by
  refine T.F_lost_share.ok sc_lost_share (fun vs H Q E h => ?_) (fun cdv A outer s H vs Q E hr h => ?_)
  · obtain ⟨a, cs, k, b, rfl, _⟩ := h
    rfl
  · obtain ⟨a, cs, k, b, rfl, hT, g, h1, h60, k2, k4, b1, b60, q⟩ := h
    refine ⟨_, ((pss_cons (ps_expr (pe_call (ok_check_round T) (hr.mono (by decide)) (by rfl) T.g_check_round T.F_check_round.kp T.b_check_round .nil pass0 (pa_cons (pv 0) (pa_cons (pv 1) (pa_cons (pv 2) pa_nil)))))
  (pss_cons (ps_asg (pe_call (ok_settle T) (hr.mono (by decide)) (by rfl) T.g_settle T.F_settle.kp T.b_settle .nil pass0 (pa_cons (pv 1) (pa_cons (pv 2) pa_nil))) (pg_tup rfl (pgs_cons (pg_name (i := 3) sc_lost_share.nd rfl (.inl rfl)) (pgs_cons (pg_name (i := 4) sc_lost_share.nd rfl (.inl rfl)) pgs_nil))))
  (pss_cons (ps_asg (pe_call (ok_follow_round T) (hr.mono (by decide)) (by rfl) T.g_follow_round T.F_follow_round.kp T.b_follow_round .nil pass0 (pa_cons (pv 1) (pa_cons (pv 4) (pa_cons (pv 2) pa_nil)))) (pg_tup rfl (pgs_cons (pg_name (i := 3) sc_lost_share.nd rfl (.inl rfl)) (pgs_cons (pg_name (i := 5) sc_lost_share.nd rfl (.inl rfl)) (pgs_cons (pg_name (i := 6) sc_lost_share.nd rfl (.inl rfl)) pgs_nil)))))
  (pss_one (ps_ret (pe_ifExp (pt_cmpR op_gt (pv 5) pe_int (nomark _)) (pe_call (ok_reduced T) (hr.mono (by decide)) (by rfl) T.g_reduced T.F_reduced.kp T.b_reduced .nil pass0 (pa_cons (pv 6) (pa_cons (pv 5) pa_nil))) (pe_tup (pa_cons pe_int (pa_cons pe_int pa_nil)))))))))), ?_⟩
    have c0 : ∀ c ∈ cs, 0 ≤ c := fun c hc => (g.2 c hc).1
    refine ⟨.int k, rfl, .int b, rfl, .ref a, rfl, a, cs, k, b, rfl, hT, g, h1, h60, k2, k4, b1, b60, fun H1 s1 => ?_⟩
    refine ⟨.int b, rfl, .ref a, rfl, a, cs, b, k, rfl, sT s1 hT, g, k4, by omega, b60, fun r p H2 st s2 ep => ⟨p, _, rfl, SqT.of ep, rfl, _, [_], rfl, _, [], rfl, rfl, ?_⟩⟩
    have s12 := s1.trans s2
    have q' := fun p H' => q r p H' st
    have rg := Lg.gr_rng (b := b) (cs := cs) (by omega) c0 r
    generalize Lg.gr b cs r = l at *
    refine ⟨.int b, rfl, .int l, rfl, .ref a, rfl, a, cs, b, l, k, rfl, sT s12 hT, g, k4, by omega, fun p3 H3 s3 np3 ep3 => ⟨p3, _, rfl, SqT.of ep3, rfl, _, [_, _], rfl, _, [_], rfl, _, [], rfl, rfl, ?_⟩⟩
    have s13 := s12.trans s3
    have ro := Lg.rd_ok rg.1 rg.2 c0
    have r0 := ro.l0
    have r2 := ro.o0
    have r3 := ro.a0
    have r4 := ro.sum
    have su := Lg.sum_le (cs := cs) fun c hc => by
      have := g.2 c hc
      omega
    refine ⟨_, rfl, _, _, rfl, rfl, _, rfl, ite2 (fun c => ?_) (fun c => ?_)⟩
    · have c' : cs.sum > 0 := of_decide_eq_true c
      have e : share b cs l = ((Lg.rd b cs l).2.2 / ((Nat.gcd (Lg.rd b cs l).2.2.natAbs cs.sum.natAbs : Nat) : Int), cs.sum / ((Nat.gcd (Lg.rd b cs l).2.2.natAbs cs.sum.natAbs : Nat) : Int)) := if_pos c'
      rw [e] at q'
      exact ⟨_, rfl, _, rfl, _, _, rfl, r3, by omega, by omega, by omega, fun p H4 s4 ep4 => q' p H4 (s13.trans s4) ep4⟩
    · have c' : ¬ cs.sum > 0 := fun z => c (decide_eq_true z)
      have e : share b cs l = (0, 1) := if_neg c'
      rw [e] at q'
      exact ⟨by show 2 ≤ sizeLine; decide, fun p np => q' p _ (s13.trans (same_upd np)) upd_same⟩
end

/-! ### the functions: let or refused -/
section
variable {P : Program} {w : World} {K : PySem.W.Frag} {mg : Str → Option Value} {base : Heap}
open RO9
theorem dueB_none {d1 d2 : PyData} {r : Option Nat} (h : dueB d1 d2 r = none) : numD 2 4 d1 = true ∧ numD 1 60 d2 = true ∧ r = none := by
  unfold dueB at h
  by_cases h1 : numD 2 4 d1 = true
  · rw [if_pos h1] at h
    by_cases h2 : numD 1 60 d2 = true
    · rw [if_pos h2] at h
      exact ⟨h1, h2, h⟩
    · rw [if_neg h2] at h
      cases h
  · rw [if_neg h1] at h
    cases h
theorem ifN {b : Bool} {n : Nat} (h : (if b = true then none else some n : Option Nat) = none) : b = true := by
  cases b with
  | true => rfl
  | false => cases h
theorem com_of {K : PySem.W.Frag} {H : Hp} {k : Int} {v : V} {d : PyData} (od : Od K H v d) (h : comD k d = true) : ∃ (a : Addr) (cs : List Int), v = .ref a ∧ SqT K H a (cs.map V.int) ∧ Rt k cs ∧ d = .tuple (cs.map PyData.int) := by
  cases od with
  | @tup a xs ds hT oa =>
    have h' : (decide (ds.length ≤ 400) && ds.all (numD 0 k)) = true := h
    rw [Bool.and_eq_true] at h'
    obtain ⟨ns, rfl, rfl, hb⟩ := ints_of oa h'.2
    have l4 := of_decide_eq_true h'.1
    rw [List.length_map] at l4
    exact ⟨a, ns, rfl, hT, ⟨l4, hb⟩, rfl⟩
  | _ => exact absurd (show false = true from h) Bool.false_ne_true
theorem round_of {K : PySem.W.Frag} {H : Hp} {k : Int} {v : V} {d : PyData} (od : Od K H v d) (h : roundD k d = true) : ∃ (a : Addr) (cs : List Int), v = .ref a ∧ SqT K H a (cs.map V.int) ∧ Rt k cs ∧ cs.length ≤ 60 ∧ d = .tuple (cs.map PyData.int) := by
  unfold roundD at h
  rw [Bool.and_eq_true] at h
  obtain ⟨a, cs, e, hT, g, rfl⟩ := com_of od h.1
  have l := of_decide_eq_true h.2
  rw [List.length_map] at l
  exact ⟨a, cs, e, hT, g, l, rfl⟩
theorem lpair_of {K : PySem.W.Frag} {H : Hp} {k : Int} {v : V} {d : PyData} (od : Od K H v d) (h : lpairD k d = true) : ∃ (p : Addr) (x : List Int × Int), v = .ref p ∧ Lp K H p x ∧ (x.1.length ≤ 60 ∧ (∀ c ∈ x.1, 0 ≤ c ∧ c ≤ k) ∧ 0 ≤ x.2 ∧ x.2 ≤ 10 ^ 30) := by
  cases od with
  | @tup p xs ds hT oa =>
    by_cases c : ds.length = 2
    · obtain ⟨dx, dy, rfl⟩ := two_of c
      have h' : (roundD k dx && numD 0 (10 ^ 30) dy) = true := h
      rw [Bool.and_eq_true] at h'
      cases oa with
      | cons ox oy =>
        cases oy with
        | cons oy on =>
          cases on
          obtain ⟨a, cs, rfl, hC, g, l, _⟩ := round_of ox h'.1
          obtain ⟨rfl, _, n0, n1⟩ := num_of oy h'.2
          exact ⟨p, (cs, intD dy), rfl, ⟨a, hT, hC⟩, l, g.2, n0, n1⟩
    · rw [lpair_no c] at h
      cases h
  | _ => exact absurd (show false = true from h) Bool.false_ne_true
theorem lps_of {K : PySem.W.Frag} {H : Hp} {k : Int} : ∀ {vs : List V} {ds : List PyData}, OdAll K H vs ds → ds.all (lpairD k) = true → ∃ (ps : List Addr) (xs : List (List Int × Int)), vs = ps.map V.ref ∧ Lps K H ps xs ∧ ∀ x ∈ xs, x.1.length ≤ 60 ∧ (∀ c ∈ x.1, 0 ≤ c ∧ c ≤ k) ∧ 0 ≤ x.2 ∧ x.2 ≤ 10 ^ 30
  | [], _, h, _ => ⟨[], [], rfl, .nil, fun x hx => absurd hx (by simp)⟩
  | v :: vs, _, h, ha => by
    cases h with
    | @cons _ _ d ds a t =>
      rw [List.all_cons, Bool.and_eq_true] at ha
      obtain ⟨ps, xs, rfl, lp, hx⟩ := lps_of t ha.2
      obtain ⟨p, x, rfl, l, g⟩ := lpair_of a ha.1
      refine ⟨p :: ps, x :: xs, rfl, .cons l lp, fun y hy => ?_⟩
      rcases List.mem_cons.mp hy with rfl | hy
      · exact g
      · exact hx y hy
theorem long_of {K : PySem.W.Frag} {H : Hp} {k : Int} {v : V} {d : PyData} (od : Od K H v d) (h : longD k d = true) : ∃ (ra : Addr) (ps : List Addr) (xs : List (List Int × Int)), v = .ref ra ∧ SqT K H ra (ps.map V.ref) ∧ Lps K H ps xs ∧ Lg.Right k xs := by
  cases od with
  | @tup ra vs ds hT oa =>
    have h' : (decide (ds.length ≤ 20) && ds.all (lpairD k)) = true := h
    rw [Bool.and_eq_true] at h'
    have zl := oa.len
    obtain ⟨ps, xs, rfl, lp, hx⟩ := lps_of oa h'.2
    have l := of_decide_eq_true h'.1
    have zp := lp.len
    rw [List.length_map] at zl
    exact ⟨ra, ps, xs, rfl, hT, lp, by omega, hx⟩
  | _ => exact absurd (show false = true from h) Bool.false_ne_true
def spXL (cs : Nat → Addr) (K : PySem.W.Frag) : Sp := fun vs H Q E => ∃ (v1 v2 v3 : V) (d1 d2 d3 : PyData), vs = [v1, v2, v3] ∧ Od K H v1 d1 ∧ Od K H v2 d2 ∧ Od K H v3 d3 ∧ Lim3 d3 ∧ Judged cs (dueL d1 d2 d3) H Q E
def spXLR (cs : Nat → Addr) (K : PySem.W.Frag) : Sp := fun vs H Q E => ∃ (v1 v2 v3 : V) (d1 d2 d3 : PyData), vs = [v1, v2, v3] ∧ Od K H v1 d1 ∧ Od K H v2 d2 ∧ Od K H v3 d3 ∧ Lim3 d3 ∧ Refused cs (dueL d1 d2 d3) H E
def spXR (cs : Nat → Addr) (K : PySem.W.Frag) : Sp := fun vs H Q E => ∃ (v1 v2 v3 : V) (d1 d2 d3 : PyData), vs = [v1, v2, v3] ∧ Od K H v1 d1 ∧ Od K H v2 d2 ∧ Od K H v3 d3 ∧ Lim d3 ∧ Judged cs (dueR d1 d2 d3) H Q E
def spXRR (cs : Nat → Addr) (K : PySem.W.Frag) : Sp := fun vs H Q E => ∃ (v1 v2 v3 : V) (d1 d2 d3 : PyData), vs = [v1, v2, v3] ∧ Od K H v1 d1 ∧ Od K H v2 d2 ∧ Od K H v3 d3 ∧ Lim d3 ∧ Refused cs (dueR d1 d2 d3) H E
theorem ok_long_line_r (T : Tx K mg) : FnOk P w K mg base (L2N.CX P w) 8 T.a_long_line T.d_long_line ["comers", "bound", "long"] (spXLR (clsT T) K) := by
  refine HL11.okN T.F_long_line sc_long_line (fun vs H Q E h => ?_) (fun cdv A outer s H vs Q E hr h => ?_)
  · obtain ⟨v1, v2, v3, d1, d2, d3, rfl, _⟩ := h
    rfl
  · obtain ⟨v1, v2, v3, d1, d2, d3, rfl, o1, o2, o3, lm, c, hc, q⟩ := h
    refine ⟨_, ((pss_cons (ps_expr (pe_callS (ok_check_long_x T) (hr.mono (by decide)) (by rfl) T.g_check_long T.F_check_long.kp T.b_check_long (fun σ => L2N.passAt (L2N.takes_of rfl rfl rfl rfl) σ) (pa_cons (pv 0) (pa_cons (pv 1) (pa_cons (pv 2) pa_nil)))))
  (pss_cons (ps_asg (pe_call (ok_follow_long T) (hr.mono (by decide)) (by rfl) T.g_follow_long T.F_follow_long.kp T.b_follow_long .nil pass0 (pa_cons (pv 1) (pa_cons (pv 2) pa_nil))) (pg_tup rfl (pgs_cons (pg_name (i := 3) sc_long_line.nd rfl (.inl rfl)) (pgs_cons (pg_name (i := 4) sc_long_line.nd rfl (.inl rfl)) (pgs_cons (pg_name (i := 4) sc_long_line.nd rfl (.inl rfl)) pgs_nil)))))
  (pss_one (ps_ret (pv 3)))))), ?_⟩
    refine ⟨v1, rfl, v2, rfl, v3, rfl, v1, v2, v3, d1, d2, d3, rfl, o1, o2, o3, lm, fun hd => ?_, fun c' hd H' s' => ?_⟩
    · rw [hd] at hc
      cases hc
    · rw [hd] at hc
      cases hc
      exact q H' s'
theorem ok_long_line_x (T : Tx K mg) : FnOk P w K mg base (L2N.CX P w) 8 T.a_long_line T.d_long_line ["comers", "bound", "long"] (spXL (clsT T) K) := (FN11.or (FN11.lift ((ok_long_line T).mono (by decide))) (ok_long_line_r T)).imp fun vs H Q E h => by
  obtain ⟨v1, v2, v3, d1, d2, d3, rfl, o1, o2, o3, lm, jd⟩ := h
  cases hd : dueL d1 d2 d3 with
  | some c => exact .inr ⟨v1, v2, v3, d1, d2, d3, rfl, o1, o2, o3, lm, c, hd, fun H' s' => jd.2 c hd H' s'⟩
  | none =>
    obtain ⟨h1, h2, h3⟩ := dueB_none hd
    obtain ⟨rfl, _, a1, a2⟩ := num_of o1 h1
    obtain ⟨rfl, _, b1, b2⟩ := num_of o2 h2
    obtain ⟨ra, ps, xs, rfl, hR, lp, rt⟩ := long_of o3 (ifN h3)
    exact .inl ⟨ra, ps, xs, intD d1, intD d2, rfl, hR, lp, rt, a1, a2, b1, b2, fun H' s' => jd.1 hd _ H' s'⟩
theorem ok_long_counts_r (T : Tx K mg) : FnOk P w K mg base (L2N.CX P w) 8 T.a_long_counts T.d_long_counts ["comers", "bound", "long"] (spXLR (clsT T) K) := by
  refine HL11.okN T.F_long_counts sc_long_counts (fun vs H Q E h => ?_) (fun cdv A outer s H vs Q E hr h => ?_)
  · obtain ⟨v1, v2, v3, d1, d2, d3, rfl, _⟩ := h
    rfl
  · obtain ⟨v1, v2, v3, d1, d2, d3, rfl, o1, o2, o3, lm, c, hc, q⟩ := h
    refine ⟨_, ((pss_cons (ps_expr (pe_callS (ok_check_long_x T) (hr.mono (by decide)) (by rfl) T.g_check_long T.F_check_long.kp T.b_check_long (fun σ => L2N.passAt (L2N.takes_of rfl rfl rfl rfl) σ) (pa_cons (pv 0) (pa_cons (pv 1) (pa_cons (pv 2) pa_nil)))))
  (pss_cons (ps_asg (pe_call (ok_follow_long T) (hr.mono (by decide)) (by rfl) T.g_follow_long T.F_follow_long.kp T.b_follow_long .nil pass0 (pa_cons (pv 1) (pa_cons (pv 2) pa_nil))) (pg_tup rfl (pgs_cons (pg_name (i := 3) sc_long_counts.nd rfl (.inl rfl)) (pgs_cons (pg_name (i := 4) sc_long_counts.nd rfl (.inl rfl)) (pgs_cons (pg_name (i := 5) sc_long_counts.nd rfl (.inl rfl)) pgs_nil)))))
  (pss_one (ps_ret (pe_tup (pa_cons (pv 4) (pa_cons (pe_op op_sub (pe_op op_sub (pv 4) (pv 5)) (pv 3)) (pa_cons (pv 5) pa_nil))))))))), ?_⟩
    refine ⟨v1, rfl, v2, rfl, v3, rfl, v1, v2, v3, d1, d2, d3, rfl, o1, o2, o3, lm, fun hd => ?_, fun c' hd H' s' => ?_⟩
    · rw [hd] at hc
      cases hc
    · rw [hd] at hc
      cases hc
      exact q H' s'
theorem ok_long_counts_x (T : Tx K mg) : FnOk P w K mg base (L2N.CX P w) 8 T.a_long_counts T.d_long_counts ["comers", "bound", "long"] (spXL (clsT T) K) := (FN11.or (FN11.lift ((ok_long_counts T).mono (by decide))) (ok_long_counts_r T)).imp fun vs H Q E h => by
  obtain ⟨v1, v2, v3, d1, d2, d3, rfl, o1, o2, o3, lm, jd⟩ := h
  cases hd : dueL d1 d2 d3 with
  | some c => exact .inr ⟨v1, v2, v3, d1, d2, d3, rfl, o1, o2, o3, lm, c, hd, fun H' s' => jd.2 c hd H' s'⟩
  | none =>
    obtain ⟨h1, h2, h3⟩ := dueB_none hd
    obtain ⟨rfl, _, a1, a2⟩ := num_of o1 h1
    obtain ⟨rfl, _, b1, b2⟩ := num_of o2 h2
    obtain ⟨ra, ps, xs, rfl, hR, lp, rt⟩ := long_of o3 (ifN h3)
    exact .inl ⟨ra, ps, xs, intD d1, intD d2, rfl, hR, lp, rt, a1, a2, b1, b2, fun p H' s' _ => jd.1 hd _ H' s'⟩
theorem ok_settled_r (T : Tx K mg) : FnOk P w K mg base (L2N.CX P w) 8 T.a_settled T.d_settled ["comers", "bound", "comings"] (spXRR (clsT T) K) := by
  refine HL11.okN T.F_settled sc_settled (fun vs H Q E h => ?_) (fun cdv A outer s H vs Q E hr h => ?_)
  · obtain ⟨v1, v2, v3, d1, d2, d3, rfl, _⟩ := h
    rfl
  · obtain ⟨v1, v2, v3, d1, d2, d3, rfl, o1, o2, o3, lm, c, hc, q⟩ := h
    refine ⟨_, ((pss_cons (ps_expr (pe_callS (ok_check_round_x T) (hr.mono (by decide)) (by rfl) T.g_check_round T.F_check_round.kp T.b_check_round (fun σ => L2N.passAt (L2N.takes_of rfl rfl rfl rfl) σ) (pa_cons (pv 0) (pa_cons (pv 1) (pa_cons (pv 2) pa_nil)))))
  (pss_one (ps_ret (pe_call (ok_settle T) (hr.mono (by decide)) (by rfl) T.g_settle T.F_settle.kp T.b_settle .nil pass0 (pa_cons (pv 1) (pa_cons (pv 2) pa_nil))))))), ?_⟩
    refine ⟨v1, rfl, v2, rfl, v3, rfl, v1, v2, v3, d1, d2, d3, rfl, o1, o2, o3, lm, fun hd => ?_, fun c' hd H' s' => ?_⟩
    · rw [hd] at hc
      cases hc
    · rw [hd] at hc
      cases hc
      exact q H' s'
theorem ok_settled_x (T : Tx K mg) : FnOk P w K mg base (L2N.CX P w) 8 T.a_settled T.d_settled ["comers", "bound", "comings"] (spXR (clsT T) K) := (FN11.or (FN11.lift ((ok_settled T).mono (by decide))) (ok_settled_r T)).imp fun vs H Q E h => by
  obtain ⟨v1, v2, v3, d1, d2, d3, rfl, o1, o2, o3, lm, jd⟩ := h
  cases hd : dueR d1 d2 d3 with
  | some c => exact .inr ⟨v1, v2, v3, d1, d2, d3, rfl, o1, o2, o3, lm, c, hd, fun H' s' => jd.2 c hd H' s'⟩
  | none =>
    obtain ⟨h1, h2, h3⟩ := dueB_none hd
    obtain ⟨rfl, _, a1, a2⟩ := num_of o1 h1
    obtain ⟨rfl, _, b1, b2⟩ := num_of o2 h2
    have h3 := ifN h3
    unfold roundN at h3
    rw [Bool.and_eq_true] at h3
    obtain ⟨a, cs, rfl, hT, g, l60, rfl⟩ := round_of o3 h3.1
    have ne := of_decide_eq_true h3.2
    have l1 : 1 ≤ cs.length := by
      cases cs with
      | nil => exact absurd rfl ne
      | cons c cs => exact Nat.succ_le_succ (Nat.zero_le _)
    exact .inl ⟨a, cs, intD d1, intD d2, rfl, hT, g, l1, l60, a1, a2, b1, b2, fun r p H' _ s' _ => jd.1 hd _ H' s'⟩
theorem ok_lost_share_r (T : Tx K mg) : FnOk P w K mg base (L2N.CX P w) 8 T.a_lost_share T.d_lost_share ["comers", "bound", "comings"] (spXRR (clsT T) K) := by
  refine HL11.okN T.F_lost_share sc_lost_share (fun vs H Q E h => ?_) (fun cdv A outer s H vs Q E hr h => ?_)
  · obtain ⟨v1, v2, v3, d1, d2, d3, rfl, _⟩ := h
    rfl
  · obtain ⟨v1, v2, v3, d1, d2, d3, rfl, o1, o2, o3, lm, c, hc, q⟩ := h
    refine ⟨_, ((pss_cons (ps_expr (pe_callS (ok_check_round_x T) (hr.mono (by decide)) (by rfl) T.g_check_round T.F_check_round.kp T.b_check_round (fun σ => L2N.passAt (L2N.takes_of rfl rfl rfl rfl) σ) (pa_cons (pv 0) (pa_cons (pv 1) (pa_cons (pv 2) pa_nil)))))
  (pss_cons (ps_asg (pe_call (ok_settle T) (hr.mono (by decide)) (by rfl) T.g_settle T.F_settle.kp T.b_settle .nil pass0 (pa_cons (pv 1) (pa_cons (pv 2) pa_nil))) (pg_tup rfl (pgs_cons (pg_name (i := 3) sc_lost_share.nd rfl (.inl rfl)) (pgs_cons (pg_name (i := 4) sc_lost_share.nd rfl (.inl rfl)) pgs_nil))))
  (pss_cons (ps_asg (pe_call (ok_follow_round T) (hr.mono (by decide)) (by rfl) T.g_follow_round T.F_follow_round.kp T.b_follow_round .nil pass0 (pa_cons (pv 1) (pa_cons (pv 4) (pa_cons (pv 2) pa_nil)))) (pg_tup rfl (pgs_cons (pg_name (i := 3) sc_lost_share.nd rfl (.inl rfl)) (pgs_cons (pg_name (i := 5) sc_lost_share.nd rfl (.inl rfl)) (pgs_cons (pg_name (i := 6) sc_lost_share.nd rfl (.inl rfl)) pgs_nil)))))
  (pss_one (ps_ret (pe_ifExp (pt_cmpR op_gt (pv 5) pe_int (nomark _)) (pe_call (ok_reduced T) (hr.mono (by decide)) (by rfl) T.g_reduced T.F_reduced.kp T.b_reduced .nil pass0 (pa_cons (pv 6) (pa_cons (pv 5) pa_nil))) (pe_tup (pa_cons pe_int (pa_cons pe_int pa_nil)))))))))), ?_⟩
    refine ⟨v1, rfl, v2, rfl, v3, rfl, v1, v2, v3, d1, d2, d3, rfl, o1, o2, o3, lm, fun hd => ?_, fun c' hd H' s' => ?_⟩
    · rw [hd] at hc
      cases hc
    · rw [hd] at hc
      cases hc
      exact q H' s'
theorem ok_lost_share_x (T : Tx K mg) : FnOk P w K mg base (L2N.CX P w) 8 T.a_lost_share T.d_lost_share ["comers", "bound", "comings"] (spXR (clsT T) K) := (FN11.or (FN11.lift ((ok_lost_share T).mono (by decide))) (ok_lost_share_r T)).imp fun vs H Q E h => by
  obtain ⟨v1, v2, v3, d1, d2, d3, rfl, o1, o2, o3, lm, jd⟩ := h
  cases hd : dueR d1 d2 d3 with
  | some c => exact .inr ⟨v1, v2, v3, d1, d2, d3, rfl, o1, o2, o3, lm, c, hd, fun H' s' => jd.2 c hd H' s'⟩
  | none =>
    obtain ⟨h1, h2, h3⟩ := dueB_none hd
    obtain ⟨rfl, _, a1, a2⟩ := num_of o1 h1
    obtain ⟨rfl, _, b1, b2⟩ := num_of o2 h2
    have h3 := ifN h3
    unfold roundN at h3
    rw [Bool.and_eq_true] at h3
    obtain ⟨a, cs, rfl, hT, g, l60, rfl⟩ := round_of o3 h3.1
    have ne := of_decide_eq_true h3.2
    have l1 : 1 ≤ cs.length := by
      cases cs with
      | nil => exact absurd rfl ne
      | cons c cs => exact Nat.succ_le_succ (Nat.zero_le _)
    exact .inl ⟨a, cs, intD d1, intD d2, rfl, hT, g, l1, l60, a1, a2, b1, b2, fun r p H' _ s' _ => jd.1 hd _ H' s'⟩
end

/-! ### asked: let, or the word of what is refused -/
theorem mt_countFK {X : Cx} {K : PySem.W.Frag} (h : X.K = K) : MtR X "list.count" (CF6.rCntF K) := by
  subst h
  exact CF6.mt_countF
theorem mt_indexK {X : Cx} {K : PySem.W.Frag} (h : X.K = K) : MtR X "list.index" (rIndex K) := by
  subst h
  exact mt_index
section
variable {P : Program} {w : World} {K : PySem.W.Frag} {mg : Str → Option Value} {base : Heap}
open RO9
def S_four (T : Tx K mg) (K : PySem.W.Frag) : Addr → Sp → Prop := fun f sp => ((f = T.a_long_line ∨ f = T.a_long_counts) ∧ sp = spXL (clsT T) K) ∨ ((f = T.a_settled ∨ f = T.a_lost_share) ∧ sp = spXR (clsT T) K)
theorem held_four (T : Tx K mg) : ∀ f sp, S_four T K f sp → CE12.HeldX P w K mg base (L2N.CX P w) 8 f sp := fun f sp h => by
  rcases h with ⟨rfl | rfl, rfl⟩ | ⟨rfl | rfl, rfl⟩
  · exact ⟨_, _, ok_long_line_x T, T.F_long_line.kp, T.b_long_line⟩
  · exact ⟨_, _, ok_long_counts_x T, T.F_long_counts.kp, T.b_long_counts⟩
  · exact ⟨_, _, ok_settled_x T, T.F_settled.kp, T.b_settled⟩
  · exact ⟨_, _, ok_lost_share_x T, T.F_lost_share.kp, T.b_lost_share⟩
def wordL : Option Nat → Str
  | none => "let"
  | some 0 => "comers"
  | some 1 => "bound"
  | some _ => "long"
def dueW (which : Int) (d1 d2 d3 : PyData) : Option Nat := if which ≤ 1 then dueL d1 d2 d3 else dueR d1 d2 d3
def spWord (K : PySem.W.Frag) : Sp := fun vs H Q _ => ∃ (i : Int) (v1 v2 v3 : V) (d1 d2 d3 : PyData), vs = [.int i, v1, v2, v3] ∧ (0 ≤ i ∧ i ≤ 3) ∧ Od K H v1 d1 ∧ Od K H v2 d2 ∧ Od K H v3 d3 ∧ Lim d3 ∧ Lim3 d3 ∧ ∀ H', Same H H' → Q (.str (wordL (dueW i d1 d2 d3))) H'
theorem kitT (T : Tx K mg) : ∀ (c j : Nat), c ≤ 2 → j ≤ 2 → PySem.W.kitOne K (.ref (clsT T c)) (.ref (clsT T j)) = some (decide (c = j))
  | 0, 0, _, _ => T.kt_NoComers_NoComers
  | 0, 1, _, _ => T.kt_NoComers_NoBound
  | 0, 2, _, _ => T.kt_NoComers_NoLong
  | 1, 0, _, _ => T.kt_NoBound_NoComers
  | 1, 1, _, _ => T.kt_NoBound_NoBound
  | 1, 2, _, _ => T.kt_NoBound_NoLong
  | 2, 0, _, _ => T.kt_NoLong_NoComers
  | 2, 1, _, _ => T.kt_NoLong_NoBound
  | 2, 2, _, _ => T.kt_NoLong_NoLong
  | c + 3, _, h, _ => absurd h (by omega)
  | _, j + 3, _, h => absurd h (by omega)
theorem ecT (T : Tx K mg) : ∀ c : Nat, ExcC K (clsT T c)
  | 0 => T.ec_NoComers
  | 1 => T.ec_NoBound
  | _ + 2 => T.ec_NoLong
theorem xmT (T : Tx K mg) : ∀ c : Nat, PySem.W.exmOne K (.ref (clsT T c)) (.ref T.c_LoopError) = some true
  | 0 => T.xm_NoComers_LoopError
  | 1 => T.xm_NoBound_LoopError
  | _ + 2 => T.xm_NoLong_LoopError
theorem dueB_le {d1 d2 : PyData} {b : Bool} {c : Nat} (h : dueB d1 d2 (if b = true then none else some 2) = some c) : c ≤ 2 := by
  unfold dueB at h
  split at h
  · split at h
    · split at h
      · cases h
      · cases h
        decide
    · cases h
      decide
  · cases h
    decide
theorem due_le {i : Int} {d1 d2 d3 : PyData} {c : Nat} (h : dueW i d1 d2 d3 = some c) : c ≤ 2 := by
  unfold dueW at h
  split at h
  · exact dueB_le h
  · exact dueB_le h
def fl3 (c : Nat) : List V := [.bl (decide (c = 0)), .bl (decide (c = 1)), .bl (decide (c = 2))]
theorem eqTi {a b : Int} (h : a = b) : V.bl (decide (V.int a = V.int b)) = V.bl true := congrArg V.bl (decide_eq_true (congrArg V.int h))
theorem iteB' {A B : Prop} {b : Bool} (h : b = true) (a : A) : if b = true then A else B := by
  rw [if_pos h]
  exact a
theorem ok__law_word (T : Tx K mg) : FnOk P w K mg base CX0 9 T.a__law_word T.d__law_word ["which", "comers", "bound", "thing"] (spWord K) := by
  refine T.F__law_word.ok sc__law_word (fun vs H Q E h => ?_) (fun cdv A outer s H vs Q E hr h => ?_)
  · obtain ⟨i, v1, v2, v3, d1, d2, d3, rfl, _⟩ := h
    rfl
  · obtain ⟨i, v1, v2, v3, d1, d2, d3, rfl, hi, o1, o2, o3, l1, l3, q⟩ := h
    refine ⟨_, ((pss_cons (ps_set (i := 4) sc__law_word.nd rfl (.inl rfl) pe_str)
  (pss_cons (L2N.ps_try_as (i := 5) (Wout := fun _ _ _ _ => False) rfl rfl sc__law_word.nd rfl rfl ⟨by rfl, by decide, .inl T.g_LoopError⟩ HL11.takes0N (fun W pn xe tk _ => (pss_one (ps_expr (CE12.pe_callE (S := S_four T K) (held_four T) (hr.mono (by decide)) (fun σ => L2N.passAt tk σ) (pe_ix (ixLK (K := K) (by rfl)) (pe_lst (pa_cons (pe_glob (v := .ref T.a_long_line) rfl T.g_long_line rfl) (pa_cons (pe_glob (v := .ref T.a_long_counts) rfl T.g_long_counts rfl) (pa_cons (pe_glob (v := .ref T.a_settled) rfl T.g_settled rfl) (pa_cons (pe_glob (v := .ref T.a_lost_share) rfl T.g_lost_share rfl) pa_nil))))) (pv 0) (fun _ _ => rfl)) (pa_cons (pv 1) (pa_cons (pv 2) (pa_cons (pv 3) pa_nil))))))) (fun a oe cls d pn hz hf => (pss_cons (ps_set (i := 6) sc__law_word.nd rfl (.inl rfl) (pe_lst (pa_cons (pe_callB (EXN.call_isN hz.zc hf) (by rfl) T.m_isinstance (by decide +kernel) (pa_cons (pv 5) (pa_cons (pe_glob (v := .ref T.c_NoComers) rfl T.g_NoComers rfl) pa_nil))) (pa_cons (pe_callB (EXN.call_isN hz.zc hf) (by rfl) T.m_isinstance (by decide +kernel) (pa_cons (pv 5) (pa_cons (pe_glob (v := .ref T.c_NoBound) rfl T.g_NoBound rfl) pa_nil))) (pa_cons (pe_callB (EXN.call_isN hz.zc hf) (by rfl) T.m_isinstance (by decide +kernel) (pa_cons (pv 5) (pa_cons (pe_glob (v := .ref T.c_NoLong) rfl T.g_NoLong rfl) pa_nil))) pa_nil)))))
  (pss_cons (ps_set (i := 4) sc__law_word.nd rfl (.inl rfl) pe_str)
  (pss_one (ps_if (pt_cmpR op_eq (EXN.pe_bmK (K := K) (by rfl) PySem.F.plainAttrs_list PySem.F.slot_list_count PySem.F.type_list_count (mt_countFK (K := K) (by rfl)) (pv 6) (pa_cons pe_bl pa_nil)) pe_int (nomark _)) (pss_one (ps_set (i := 4) sc__law_word.nd rfl (.inl rfl) (pe_ix (ixLK (K := K) (by rfl)) (pe_lst (pa_cons pe_str (pa_cons pe_str (pa_cons pe_str pa_nil)))) (EXN.pe_bmK (K := K) (by rfl) PySem.F.plainAttrs_list PySem.F.slot_list_index PySem.F.type_list_index (mt_indexK (K := K) (by rfl)) (pv 6) (pa_cons pe_bl pa_nil)) (fun _ _ => rfl)))) pss_nil))))))
  (pss_one (ps_ret (pv 4)))))), ?_⟩
    have key : ∃ f sp, [V.ref T.a_long_line, .ref T.a_long_counts, .ref T.a_settled, .ref T.a_lost_share][i.toNat]? = some (.ref f) ∧ S_four T K f sp ∧ ∀ (H1 : Hp) (Q : VK) (E : XK), Same H H1 → Judged (clsT T) (dueW i d1 d2 d3) H1 Q E → sp [v1, v2, v3] H1 Q E := by
      have hi' : i = 0 ∨ i = 1 ∨ i = 2 ∨ i = 3 := by omega
      rcases hi' with rfl | rfl | rfl | rfl
      · exact ⟨_, _, rfl, .inl ⟨.inl rfl, rfl⟩, fun H1 Q E s jd => ⟨v1, v2, v3, d1, d2, d3, rfl, o1.mono s, o2.mono s, o3.mono s, l3, jd⟩⟩
      · exact ⟨_, _, rfl, .inl ⟨.inr rfl, rfl⟩, fun H1 Q E s jd => ⟨v1, v2, v3, d1, d2, d3, rfl, o1.mono s, o2.mono s, o3.mono s, l3, jd⟩⟩
      · exact ⟨_, _, rfl, .inr ⟨.inl rfl, rfl⟩, fun H1 Q E s jd => ⟨v1, v2, v3, d1, d2, d3, rfl, o1.mono s, o2.mono s, o3.mono s, l1, jd⟩⟩
      · exact ⟨_, _, rfl, .inr ⟨.inr rfl, rfl⟩, fun H1 Q E s jd => ⟨v1, v2, v3, d1, d2, d3, rfl, o1.mono s, o2.mono s, o3.mono s, l1, jd⟩⟩
    obtain ⟨f, sp, hf, hS, hsp⟩ := key
    refine ⟨by show 4 ≤ sizeLine; decide, fun W nW => ?_⟩
    have sW := same_upd (o := .lst [V.ref T.a_long_line, .ref T.a_long_counts, .ref T.a_settled, .ref T.a_lost_share]) nW
    refine ⟨.int i, rfl, W, _, i, .ref f, rfl, rfl, SqL.of upd_same, atI_of hi.1 hf, f, sp, rfl, hS, v1, rfl, v2, rfl, v3, rfl, hsp _ _ _ sW ⟨fun hd v H1 s1 => ?_, fun c hc H1 s1 => ?_⟩⟩
    · have q' := q H1 (sW.trans s1)
      rw [hd] at q'
      exact ⟨_, rfl, q'⟩
    · have c2 : c ≤ 2 := due_le hc
      have q' := fun H' s' => q H' s'
      rw [hc] at q'
      refine ⟨true, xmT T c, fun _ a0 ha0 => ?_, fun z => nomatch z⟩
      refine ⟨.ref a0, rfl, clsT T c, _, _, _, rfl, rfl, rfl, ecT T c, .own _, kitT T c 0 c2 (by decide), .ref a0, rfl, clsT T c, _, _, _, rfl, rfl, rfl, ecT T c, .own _, kitT T c 1 c2 (by decide), .ref a0, rfl, clsT T c, _, _, _, rfl, rfl, rfl, ecT T c, .own _, kitT T c 2 c2 (by decide), by show 3 ≤ sizeLine; decide, fun F nF => ?_⟩
      have sF : Same H1 (upd H1 F (.lst (fl3 c))) := same_upd nF
      have eF : upd H1 F (.lst (fl3 c)) F = some (.lst (fl3 c)) := upd_same
      show tSeq _ _ _ _ (upd H1 F (.lst (fl3 c)))
      generalize upd H1 F (.lst (fl3 c)) = H2 at *
      have s02 := (sW.trans s1).trans sF
      have h3 : c = 0 ∨ c = 1 ∨ c = 2 := by omega
      have last : ∀ (j : Nat) (x : V), [V.str "comers", .str "bound", .str "long"][j]? = some x → (fl3 c)[j]? = some (.bl true) → (∀ (m : Nat) (z : V), m < j → (fl3 c)[m]? = some z → eqV z (.bl true) = false) → (fl3 c).countP (fun y => eqV y (.bl true)) = 1 → (fl3 c).all flatV = true → x = .str (wordL (some c)) → _ := fun j x hx hj hno hc1 hfl ex =>
        (⟨.ref F, rfl, .inl ⟨rfl, _, SqL.of eF⟩, F, fl3 c, .bl true, rfl, rfl, SqL.of eF, rfl, hfl, rfl, true, by rw [hc1]; exact eqTi rfl, iteT ⟨by show 3 ≤ sizeLine; decide, fun Z nZ => ⟨.ref F, rfl, .inl ⟨rfl, _, SqL.of ((same_upd nZ) _ _ eF)⟩, F, fl3 c, .bl true, j, .bl true, rfl, rfl, SqL.of ((same_upd nZ) _ _ eF), rfl, hfl, hj, rfl, hno, Z, _, (j : Int), x, rfl, rfl, SqL.of upd_same, atI_nat hx, ⟨x, rfl, by rw [ex]; exact q' _ (s02.trans (same_upd nZ))⟩⟩⟩⟩ :
          tIfS (tTest (tOp rEq (tBM K "list" (CF6.rCntF K) (tVar 6) (tCons (tC (V.bl true)) tNil)) (tC (V.int 1))))
            (tAsg (tOp (rIxL K) (tLst (tCons (tC (V.str ("comers"))) (tCons (tC (V.str ("bound"))) (tCons (tC (V.str ("long"))) tNil)))) (tBM K "list" (rIndex K) (tVar 6) (tCons (tC (V.bl true)) tNil))) (gName 4)) tNext
            { nx := fun σ' H' => tRet (tVar 4) { nx := fun x H' => Q V.non H', rt := Q } (List.set σ' 5 none) H', rt := Q }
            [some (.int i), some v1, some v2, some v3, some (.str "other"), some (.ref a0), some (.ref F)] H2)
      rcases h3 with rfl | rfl | rfl
      · exact last 0 _ rfl rfl (fun m z h => absurd h (by omega)) (by decide) rfl rfl
      · exact last 1 _ rfl rfl (fun m z h e => by
          have : m = 0 := by omega
          subst this
          cases e
          rfl) (by decide) rfl rfl
      · exact last 2 _ rfl rfl (fun m z h e => by
          have : m = 0 ∨ m = 1 := by omega
          rcases this with rfl | rfl <;> cases e <;> rfl) (by decide) rfl rfl
end

/-! ### the law's own rounds -/
section
variable {P : Program} {w : World} {K : PySem.W.Frag} {mg : Str → Option Value} {base : Heap}
/-- a tuple of three -/
def f3 (s : Lg.Tri) : List V := [.int s.1, .int s.2.1, .int s.2.2]
def spLRound (K : PySem.W.Frag) : Sp := fun vs H Q _ => ∃ (a : Addr) (cs : List Int) (b l k : Int), vs = [.int b, .int l, .ref a] ∧ SqT K H a (cs.map V.int) ∧ Rt k cs ∧ k ≤ 4 ∧ ∀ p H', Same H H' → H p = none → H' p = some (.tup (f3 (Lg.rd b cs l))) → Q (.ref p) H'
theorem ok__law_round (T : Tx K mg) : FnOk P w K mg base CX0 1 T.a__law_round T.d__law_round ["bound", "line", "comings"] (spLRound K) := by
  refine T.F__law_round.ok sc__law_round (fun vs H Q E h => ?_) (fun cdv A outer s H vs Q E hr h => ?_)
  · obtain ⟨a, cs, b, l, k, rfl, _⟩ := h
    rfl
  · obtain ⟨a, cs, b, l, k, rfl, hT, g, hk, q⟩ := h
    refine ⟨_, ((pss_cons (ps_set (i := 3) sc__law_round.nd rfl (.inl rfl) pe_int)
  (pss_cons (ps_set (i := 4) sc__law_round.nd rfl (.inl rfl) pe_int)
  (pss_cons (ps_for PassesOwn.never rfl (pi_tup (pv 2)) (pg_name (i := 5) sc__law_round.nd rfl (.inl rfl))
   (pss_cons (ps_for PassesOwn.never rfl (pi_range1 (by rfl) T.m_range (pa_cons (pv 5) pa_nil)) (pg_name (i := 6) sc__law_round.nd rfl (.inl rfl))
   (pss_one (ps_if (pt_cmpR op_gt (pv 1) (pv 0) (nomark _)) (pss_one (ps_set (i := 4) sc__law_round.nd rfl (.inl rfl) (pe_op op_add (pv 4) pe_int))) (pss_one (ps_set (i := 1) sc__law_round.nd rfl (.inl rfl) (pe_op op_add (pv 1) pe_int))))))
  (pss_one (ps_if (pt_cmpR op_gt (pv 1) pe_int (nomark _)) (pss_cons (ps_set (i := 1) sc__law_round.nd rfl (.inl rfl) (pe_op op_sub (pv 1) pe_int))
  (pss_one (ps_set (i := 3) sc__law_round.nd rfl (.inl rfl) (pe_op op_add (pv 3) pe_int)))) pss_nil))))
  (pss_one (ps_ret (pe_tup (pa_cons (pv 1) (pa_cons (pv 3) (pa_cons (pv 4) pa_nil)))))))))), ?_⟩
    refine ⟨.ref a, rfl, a, rfl, ⟨_, hT⟩, for_tup (K := K) (xs := cs.map V.int)
      (fun i σ H' => ∃ (y5 y6 : Option V), σ = [some (.int b), some (.int (Lg.rdN b cs (l, 0, 0) i).1), some (.ref a), some (.int (Lg.rdN b cs (l, 0, 0) i).2.1), some (.int (Lg.rdN b cs (l, 0, 0) i).2.2), y5, y6] ∧ H' = H)
      ⟨_, _, rfl, rfl⟩ (fun i σ H' _ h => ?_) (fun i x σ H' hx h => ?_) (fun σ H' h => ?_)⟩
    · obtain ⟨_, _, _, rfl⟩ := h
      exact hT
    · obtain ⟨y5, y6, rfl, rfl⟩ := h
      rw [List.getElem?_map] at hx
      obtain ⟨c, hc, rfl⟩ := Option.map_eq_some_iff.mp hx
      have bc := g.2 c (List.mem_of_getElem? hc)
      have en : Lg.rdN b cs (l, 0, 0) (i + 1) = Lg.tk b c (Lg.rdN b cs (l, 0, 0) i) := by
        show Lg.tk b (cs.getD i 0) _ = _
        rw [Ln.getD_of hc]
      rw [en]
      generalize Lg.rdN b cs (l, 0, 0) i = s0 at *
      refine ⟨.int c, rfl, c, rfl, by omega, by omega, for_range (lo := 0) (n := c.toNat)
        (fun m σ H2 => ∃ (y6 : Option V), σ = [some (.int b), some (.int (Lg.add b m (s0.1, s0.2.2)).1), some (.ref a), some (.int s0.2.1), some (.int (Lg.add b m (s0.1, s0.2.2)).2), some (.int c), y6] ∧ H2 = H')
        ⟨_, rfl, rfl⟩ (fun m σ H2 hm h => ?_) (fun σ H2 h => ?_)⟩
      · obtain ⟨y6, rfl, rfl⟩ := h
        refine ⟨_, rfl, .int b, rfl, _, _, rfl, rfl, _, rfl, ite2 (fun h1 => ?_) (fun h1 => ?_)⟩
        · have e : Lg.add b (m + 1) (s0.1, s0.2.2) = ((Lg.add b m (s0.1, s0.2.2)).1, (Lg.add b m (s0.1, s0.2.2)).2 + 1) := if_pos (of_decide_eq_true h1)
          refine ⟨_, rfl, _, _, rfl, rfl, some (.int (0 + (m : Int))), ?_, rfl⟩
          rw [e]
          rfl
        · have e : Lg.add b (m + 1) (s0.1, s0.2.2) = ((Lg.add b m (s0.1, s0.2.2)).1 + 1, (Lg.add b m (s0.1, s0.2.2)).2) := if_neg (fun z => h1 (decide_eq_true z))
          refine ⟨_, rfl, _, _, rfl, rfl, some (.int (0 + (m : Int))), ?_, rfl⟩
          rw [e]
          rfl
      · obtain ⟨y6, rfl, rfl⟩ := h
        refine ⟨_, rfl, _, _, rfl, rfl, _, rfl, ite2 (fun h1 => ?_) (fun h1 => ?_)⟩
        · have e : Lg.tk b c s0 = ((Lg.add b c.toNat (s0.1, s0.2.2)).1 - 1, s0.2.1 + 1, (Lg.add b c.toNat (s0.1, s0.2.2)).2) := if_pos (of_decide_eq_true h1)
          refine ⟨_, rfl, _, _, rfl, rfl, _, rfl, _, _, rfl, rfl, some (.int c), y6, ?_, rfl⟩
          rw [e]
          rfl
        · have e : Lg.tk b c s0 = ((Lg.add b c.toNat (s0.1, s0.2.2)).1, s0.2.1, (Lg.add b c.toNat (s0.1, s0.2.2)).2) := if_neg (fun z => h1 (decide_eq_true z))
          refine ⟨some (.int c), y6, ?_, rfl⟩
          rw [e]
    · obtain ⟨y5, y6, rfl, rfl⟩ := h
      rw [List.length_map]
      refine ⟨_, rfl, _, rfl, _, rfl, by show 3 ≤ sizeLine; decide, fun p np => ?_⟩
      exact q p _ (same_upd np) np upd_same
def spShort (K : PySem.W.Frag) : Sp := fun vs H Q _ => ∃ (t s : Addr) (k m : Int), vs = [.ref t, .int k, .int m] ∧ (1 ≤ k ∧ k ≤ 1000) ∧ (0 ≤ m ∧ m ≤ 1000) ∧ Tape H t s ∧
  ∀ a (cs : List Int) H', (cs.length : Int) ≤ m → (∀ c ∈ cs, 0 ≤ c ∧ c ≤ k) → a ≠ t → H a = none → Moved t H H' → Tape H' t s → H' a = some (.tup (cs.map V.int)) → Q (.ref a) H'
theorem all_snoc {k : Int} {cs : List Int} (h : ∀ c ∈ cs, 0 ≤ c ∧ c ≤ k) {x : Int} (h0 : 0 ≤ x) (h1 : x ≤ k) : ∀ c ∈ cs ++ [x], 0 ≤ c ∧ c ≤ k := fun c hc => by
  rcases List.mem_append.mp hc with hc | hc
  · exact h c hc
  · rw [List.mem_singleton.mp hc]
    exact ⟨h0, h1⟩
theorem ok__law_short (T : Tx K mg) : FnOk P w K mg base CX0 2 T.a__law_short T.d__law_short ["tape", "comers", "most"] (spShort K) := by
  refine T.F__law_short.ok sc__law_short (fun vs H Q E h => ?_) (fun cdv A outer s H vs Q E hr h => ?_)
  · obtain ⟨t, sc, k, m, rfl, _⟩ := h
    rfl
  · obtain ⟨t, sc, k, m, rfl, hk, hm, tp0, q⟩ := h
    refine ⟨_, ((pss_cons (ps_set (i := 3) sc__law_short.nd rfl (.inl rfl) (pe_call (ok__law_pick T) (hr.mono (by decide)) (by rfl) T.g__law_pick T.F__law_pick.kp T.b__law_pick .nil pass0 (pa_cons (pv 0) (pa_cons pe_int pa_nil))))
  (pss_cons (ps_set (i := 4) sc__law_short.nd rfl (.inl rfl) (pe_lst pa_nil))
  (pss_cons (ps_for PassesOwn.never rfl (pi_range1 (by rfl) T.m_range (pa_cons (pe_call (ok__law_pick T) (hr.mono (by decide)) (by rfl) T.g__law_pick T.F__law_pick.kp T.b__law_pick .nil pass0 (pa_cons (pv 0) (pa_cons (pe_op op_add (pv 2) pe_int) pa_nil))) pa_nil)) (pg_name (i := 5) sc__law_short.nd rfl (.inl rfl))
   (pss_cons (ps_set (i := 6) sc__law_short.nd rfl (.inl rfl) (pe_call (ok__law_pick T) (hr.mono (by decide)) (by rfl) T.g__law_pick T.F__law_pick.kp T.b__law_pick .nil pass0 (pa_cons (pv 0) (pa_cons (pe_op op_add (pv 1) pe_int) pa_nil))))
  (Evl.pss_cut (ps_if (PW.pt (pw_and (pt_cmpR op_eq (pv 3) pe_int (nomark _)) (pw_and1 (pt_cmpR op_eq (pe_call (ok__law_pick T) (hr.mono (by decide)) (by rfl) T.g__law_pick T.F__law_pick.kp T.b__law_pick .nil pass0 (pa_cons (pv 0) (pa_cons pe_int pa_nil))) pe_int (nomark _))))) (pss_one (ps_set (i := 6) sc__law_short.nd rfl (.inl rfl) pe_int)) pss_nil)
  (Evl.pss_cut (ps_if (PW.pt (pw_and (pt_cmpR op_eq (pv 3) pe_int (nomark _)) (pw_and1 (pt_cmpR op_eq (pe_call (ok__law_pick T) (hr.mono (by decide)) (by rfl) T.g__law_pick T.F__law_pick.kp T.b__law_pick .nil pass0 (pa_cons (pv 0) (pa_cons pe_int pa_nil))) pe_int (nomark _))))) (pss_one (ps_set (i := 6) sc__law_short.nd rfl (.inl rfl) (pv 1))) pss_nil)
  (pss_one (ps_expr (pe_bm PySem.F.plainAttrs_list PySem.F.slot_list_append PySem.F.type_list_append mt_append (pv 4) (pa_cons (pv 6) pa_nil))))))))
  (pss_one (ps_ret (pe_callTy call_tuple_of (by rfl) T.m_tuple (by decide +kernel) (pa_cons (pv 4) pa_nil)))))))), ?_⟩
    refine ⟨.ref t, rfl, t, sc, 3, rfl, ⟨by decide, by decide⟩, tp0, fun gr H1 hg0 hg3 mv1 tp1 => ?_⟩
    refine ⟨Nat.zero_le _, fun L nL => ?_⟩
    have hLt : L ≠ t := tp1.ne nL
    have hLs : L ≠ sc := tp1.ne2 nL
    have tpL := tp1.keep (same_upd (o := .lst []) nL)
    have nLH : H L = none := mv1.free hLt nL
    have mv0 : Moved t H (upd H1 L (.lst [])) := mv1.trans (Moved.same (same_upd nL))
    refine ⟨.ref t, rfl, .int m, rfl, _, _, rfl, rfl, t, sc, m + 1, rfl, ⟨by omega, by omega⟩, tpL, fun n H2 hn0 hn1 mv2 tp2 => ?_⟩
    refine ⟨n, rfl, by omega, by omega, for_range (lo := 0) (n := n.toNat)
      (fun i σ H' => ∃ y5 y6 cs, σ = [some (.ref t), some (.int k), some (.int m), some (.int gr), some (.ref L), y5, y6] ∧ H' L = some (.lst (cs.map V.int)) ∧ cs.length = i ∧ (∀ c ∈ cs, 0 ≤ c ∧ c ≤ k) ∧ (∀ b o, b ≠ t → b ≠ L → H b = some o → H' b = some o) ∧ Tape H' t sc)
      ⟨_, _, [], rfl, mv2 _ _ hLt upd_same, rfl, fun _ h => by simp at h, fun b o n1 n2 e => mv2 b o n1 (mv0 b o n1 e), tp2⟩ (fun i σ H' hi h => ?_) (fun σ H' h => ?_)⟩
    · obtain ⟨y5, y6, cs, rfl, eL, el, hc, kp, tp'⟩ := h
      refine ⟨.ref t, rfl, .int k, rfl, _, _, rfl, rfl, t, sc, k + 1, rfl, ⟨by omega, by omega⟩, tp', fun x H3 hx0 hx1 mv3 tp3 => ?_⟩
      refine ⟨fun σ' H4 => ∃ z y5, σ' = [some (.ref t), some (.int k), some (.int m), some (.int gr), some (.ref L), y5, some (.int z)] ∧ 0 ≤ z ∧ z ≤ k ∧ Moved t H3 H4 ∧ Tape H4 t sc, ?_, fun σ' H4 hm => ?_⟩
      · refine ⟨.int gr, rfl, rfl, _, rfl, ite2 (fun c1 => ?_) (fun c1 => ?_)⟩
        · refine ⟨.ref t, rfl, t, sc, 2, rfl, ⟨by decide, by decide⟩, tp3, fun x2 H4 _ _ mv4 tp4 => ?_⟩
          by_cases c2 : V.int x2 = V.int 0
          · refine ⟨rfl, true, congrArg V.bl (decide_eq_true c2), iteT ?_⟩
            exact ⟨0, _, rfl, by omega, by omega, mv4, tp4⟩
          · refine ⟨rfl, false, congrArg V.bl (decide_eq_false c2), iteF ?_⟩
            exact ⟨x, _, rfl, hx0, by omega, mv4, tp4⟩
        · exact ⟨x, _, rfl, hx0, by omega, Moved.refl, tp3⟩
      · obtain ⟨z, y5, rfl, hz0, hz1, mv4, tp4⟩ := hm
        refine ⟨fun σ' H5 => ∃ z y5, σ' = [some (.ref t), some (.int k), some (.int m), some (.int gr), some (.ref L), y5, some (.int z)] ∧ 0 ≤ z ∧ z ≤ k ∧ Moved t H3 H5 ∧ Tape H5 t sc, ?_, fun σ' H5 hm => ?_⟩
        · refine ⟨.int gr, rfl, rfl, _, rfl, ite2 (fun c1 => ?_) (fun c1 => ?_)⟩
          · refine ⟨.ref t, rfl, t, sc, 2, rfl, ⟨by decide, by decide⟩, tp4, fun x2 H5 _ _ mv5 tp5 => ?_⟩
            by_cases c2 : V.int x2 = V.int 0
            · refine ⟨rfl, true, congrArg V.bl (decide_eq_true c2), iteT ?_⟩
              exact ⟨.int k, rfl, k, _, rfl, by omega, Int.le_refl _, mv4.trans mv5, tp5⟩
            · refine ⟨rfl, false, congrArg V.bl (decide_eq_false c2), iteF ?_⟩
              exact ⟨z, _, rfl, hz0, hz1, mv4.trans mv5, tp5⟩
          · exact ⟨z, _, rfl, hz0, hz1, mv4, tp4⟩
        · obtain ⟨z, y5, rfl, hz0, hz1, mv5, tp5⟩ := hm
          have eL4 : H5 L = some (.lst (cs.map V.int)) := mv5 L _ hLt (mv3 L _ hLt eL)
          refine ⟨.ref L, rfl, .inl ⟨rfl, _, SqL.of eL4⟩, _, rfl, L, _, _, rfl, rfl, eL4, by rw [List.length_map]; exact small1000 (by omega), ?_⟩
          refine ⟨_, _, cs ++ [z], rfl, by rw [upd_same, List.map_append]; rfl, by rw [List.length_append, el]; rfl, all_snoc hc hz0 hz1, fun b o n1 n2 e => ?_, tp5.but hLt hLs⟩
          rw [upd_ne n2]
          exact mv5 b o n1 (mv3 b o n1 (kp b o n1 n2 e))
    · obtain ⟨y5, y6, cs, rfl, eL, el, hc, kp, tp'⟩ := h
      refine ⟨.ref L, rfl, L, _, rfl, .inl ⟨SqL.of eL, fun p np => ?_⟩⟩
      have hpt : p ≠ t := tp'.ne np
      have hpL : p ≠ L := fun e => by
        rw [e, eL] at np
        cases np
      have hHp : H p = none := by
        cases z : H p with
        | none => rfl
        | some o =>
          rw [kp p o hpt hpL z] at np
          cases np
      refine q p cs _ (by omega) hc hpt hHp (fun b o n1 e => ?_) (tp'.keep (same_upd np)) upd_same
      rw [upd_ne (ne_of_none e hHp)]
      exact kp b o n1 (ne_of_none e nLH) e
end

/-! ### all but lists stays -/
def Nl (H H' : Hp) : Prop := ∀ b o, (∀ ys, o ≠ HO.lst ys) → H b = some o → H' b = some o
theorem Nl.trans {H H1 H2 : Hp} (a : Nl H H1) (b : Nl H1 H2) : Nl H H2 := fun c o n h => b c o n (a c o n h)
theorem Nl.moved {t s : Addr} {H H' : Hp} (tp : Tape H t s) (m : Moved t H H') : Nl H H' := fun b o n e => m b o (fun z => by
  obtain ⟨_, _, _, _, _, _, h2, _⟩ := tp
  rw [z, h2] at e
  exact n _ (Option.some.inj e).symm) e
theorem Nl.same {H H' : Hp} (m : Same H H') : Nl H H' := fun b o _ e => m b o e
theorem Nl.put {H : Hp} {L : Addr} {ys : List V} {o : HO} (h : H L = some (.lst ys)) : Nl H (upd H L o) := fun b o' n e => by
  rw [upd_ne (fun z => by rw [z, h] at e; exact n _ (Option.some.inj e).symm)]
  exact e
theorem sT_nl {K : PySem.W.Frag} {H H' : Hp} {a : Addr} {xs : List V} (h : SqT K H a xs) (e : Nl H H') : SqT K H' a xs :=
  h.elim (fun h => .inl (h.elim (fun h => .inl (e _ _ (fun _ z => by cases z) h)) fun ⟨o, h⟩ => .inr ⟨o, e _ _ (fun _ z => by cases z) h⟩)) fun h => .inr h

/-! ### comers and bounds that are none, drawn -/
section
variable {P : Program} {w : World} {K : PySem.W.Frag} {mg : Str → Option Value} {base : Heap}
open RO9
/-- tuples stay -/
def TupS (H H' : Hp) : Prop := ∀ b xs, H b = some (.tup xs) → H' b = some (.tup xs)
def noB : List PyData := [.int 0, .int 61, .int (-1), .none, .bool true, .str "5", .tuple [.int 5], .int (10 ^ Int.toNat 20)]
def noC : List PyData := [.int 1, .int 5, .int 0, .int (-1), .none, .bool true, .str "2", .tuple [.int 2], .int (10 ^ Int.toNat 20)]
theorem noB_no : ∀ d ∈ noB, numD 1 60 d = false := by
  intro d hd
  simp only [noB, List.mem_cons, List.not_mem_nil, or_false] at hd
  rcases hd with rfl | rfl | rfl | rfl | rfl | rfl | rfl | rfl <;> decide +kernel
theorem noC_no : ∀ d ∈ noC, numD 2 4 d = false := by
  intro d hd
  simp only [noC, List.mem_cons, List.not_mem_nil, or_false] at hd
  rcases hd with rfl | rfl | rfl | rfl | rfl | rfl | rfl | rfl | rfl <;> decide +kernel
def spNo (ds : List PyData) (K : PySem.W.Frag) : Sp := fun vs H Q _ => ∃ (t s : Addr), vs = [.ref t] ∧ Tape H t s ∧ ∀ (v : V) (d : PyData) H', d ∈ ds → (∀ H'', TupS H' H'' → Od K H'' v d) → Moved t H H' → Tape H' t s → Q v H'
theorem ok__law_no_bound (T : Tx K mg) : FnOk P w K mg base CX0 2 T.a__law_no_bound T.d__law_no_bound ["tape"] (spNo noB K) := by
  refine T.F__law_no_bound.ok sc__law_no_bound (fun vs H Q E h => ?_) (fun cdv A outer s H vs Q E hr h => ?_)
  · obtain ⟨t, sc, rfl, _⟩ := h
    rfl
  · obtain ⟨t, sc, rfl, tp, q⟩ := h
    refine ⟨_, ((pss_one (ps_ret (pe_ix ix_list (pe_lst (pa_cons pe_int (pa_cons pe_int (pa_cons (pe_un un_neg pe_int) (pa_cons pe_non (pa_cons pe_bl (pa_cons pe_str (pa_cons (pe_tup (pa_cons pe_int pa_nil)) (pa_cons (pe_op op_pow pe_int pe_int) pa_nil))))))))) (pe_call (ok__law_pick T) (hr.mono (by decide)) (by rfl) T.g__law_pick T.F__law_pick.kp T.b__law_pick .nil pass0 (pa_cons (pv 0) (pa_cons pe_int pa_nil))) (fun _ _ => rfl))))), ?_⟩
    refine ⟨1, rfl, by show 1 ≤ sizeLine; decide, fun p np => ?_⟩
    have s1 := same_upd (o := .tup [V.int 5]) np
    have e1 : upd H p (.tup [V.int 5]) p = some (.tup [V.int 5]) := upd_same
    generalize upd H p (.tup [V.int 5]) = H1 at *
    refine ⟨10, 20, rfl, rfl, ⟨by decide, by decide, by decide⟩, by show 8 ≤ sizeLine; decide, fun W nW => ?_⟩
    have sW := same_upd (o := .lst [V.int 0, .int 61, .int (-1), .non, .bl true, .str "5", .ref p, .int (10 ^ Int.toNat 20)]) nW
    have eW : upd H1 W (.lst [V.int 0, .int 61, .int (-1), .non, .bl true, .str "5", .ref p, .int (10 ^ Int.toNat 20)]) W = some (.lst [V.int 0, .int 61, .int (-1), .non, .bl true, .str "5", .ref p, .int (10 ^ Int.toNat 20)]) := upd_same
    have tp1 := tp.keep s1
    have Wt : W ≠ t := tp1.ne nW
    have tp2 := tp1.keep sW
    show tCall _ _ _ _ _ (upd H1 W (.lst [V.int 0, .int 61, .int (-1), .non, .bl true, .str "5", .ref p, .int (10 ^ Int.toNat 20)])) _
    generalize upd H1 W (.lst [V.int 0, .int 61, .int (-1), .non, .bl true, .str "5", .ref p, .int (10 ^ Int.toNat 20)]) = H2 at *
    refine ⟨.ref t, rfl, t, sc, 8, rfl, ⟨by decide, by decide⟩, tp2, fun r H3 r0 r1 mv tp3 => ?_⟩
    have ep : H3 p = some (.tup [V.int 5]) := Nl.moved tp2 mv _ _ (fun _ z => by cases z) (sW _ _ e1)
    obtain ⟨v, d, hv, hd, od⟩ : ∃ v d, [V.int 0, .int 61, .int (-1), .non, .bl true, .str "5", .ref p, .int (10 ^ Int.toNat 20)][r.toNat]? = some v ∧ d ∈ noB ∧ ∀ H'', TupS H3 H'' → Od K H'' v d := by
      have z : r = 0 ∨ r = 1 ∨ r = 2 ∨ r = 3 ∨ r = 4 ∨ r = 5 ∨ r = 6 ∨ r = 7 := by omega
      rcases z with rfl | rfl | rfl | rfl | rfl | rfl | rfl | rfl
      · exact ⟨_, .int 0, rfl, by simp [noB], fun _ _ => .int _⟩
      · exact ⟨_, .int 61, rfl, by simp [noB], fun _ _ => .int _⟩
      · exact ⟨_, .int (-1), rfl, by simp [noB], fun _ _ => .int _⟩
      · exact ⟨_, .none, rfl, by simp [noB], fun _ _ => .non⟩
      · exact ⟨_, .bool true, rfl, by simp [noB], fun _ _ => .bl _⟩
      · exact ⟨_, .str "5", rfl, by simp [noB], fun _ _ => .str _⟩
      · exact ⟨_, .tuple [.int 5], rfl, by simp [noB], fun _ h => .tup (SqT.of (h _ _ ep)) (.cons (.int _) .nil)⟩
      · exact ⟨_, .int (10 ^ Int.toNat 20), rfl, by simp [noB], fun _ _ => .int _⟩
    exact ⟨W, _, r, v, rfl, rfl, SqL.of (mv W _ Wt eW), atI_of r0 hv, q v d H3 hd od ((Moved.same (s1.trans sW)).trans mv) tp3⟩
theorem ok__law_no_comers (T : Tx K mg) : FnOk P w K mg base CX0 2 T.a__law_no_comers T.d__law_no_comers ["tape"] (spNo noC K) := by
  refine T.F__law_no_comers.ok sc__law_no_comers (fun vs H Q E h => ?_) (fun cdv A outer s H vs Q E hr h => ?_)
  · obtain ⟨t, sc, rfl, _⟩ := h
    rfl
  · obtain ⟨t, sc, rfl, tp, q⟩ := h
    refine ⟨_, ((pss_one (ps_ret (pe_ix ix_list (pe_lst (pa_cons pe_int (pa_cons pe_int (pa_cons pe_int (pa_cons (pe_un un_neg pe_int) (pa_cons pe_non (pa_cons pe_bl (pa_cons pe_str (pa_cons (pe_tup (pa_cons pe_int pa_nil)) (pa_cons (pe_op op_pow pe_int pe_int) pa_nil)))))))))) (pe_call (ok__law_pick T) (hr.mono (by decide)) (by rfl) T.g__law_pick T.F__law_pick.kp T.b__law_pick .nil pass0 (pa_cons (pv 0) (pa_cons pe_int pa_nil))) (fun _ _ => rfl))))), ?_⟩
    refine ⟨1, rfl, by show 1 ≤ sizeLine; decide, fun p np => ?_⟩
    have s1 := same_upd (o := .tup [V.int 2]) np
    have e1 : upd H p (.tup [V.int 2]) p = some (.tup [V.int 2]) := upd_same
    generalize upd H p (.tup [V.int 2]) = H1 at *
    refine ⟨10, 20, rfl, rfl, ⟨by decide, by decide, by decide⟩, by show 9 ≤ sizeLine; decide, fun W nW => ?_⟩
    have sW := same_upd (o := .lst [V.int 1, .int 5, .int 0, .int (-1), .non, .bl true, .str "2", .ref p, .int (10 ^ Int.toNat 20)]) nW
    have eW : upd H1 W (.lst [V.int 1, .int 5, .int 0, .int (-1), .non, .bl true, .str "2", .ref p, .int (10 ^ Int.toNat 20)]) W = some (.lst [V.int 1, .int 5, .int 0, .int (-1), .non, .bl true, .str "2", .ref p, .int (10 ^ Int.toNat 20)]) := upd_same
    have tp1 := tp.keep s1
    have Wt : W ≠ t := tp1.ne nW
    have tp2 := tp1.keep sW
    show tCall _ _ _ _ _ (upd H1 W (.lst [V.int 1, .int 5, .int 0, .int (-1), .non, .bl true, .str "2", .ref p, .int (10 ^ Int.toNat 20)])) _
    generalize upd H1 W (.lst [V.int 1, .int 5, .int 0, .int (-1), .non, .bl true, .str "2", .ref p, .int (10 ^ Int.toNat 20)]) = H2 at *
    refine ⟨.ref t, rfl, t, sc, 9, rfl, ⟨by decide, by decide⟩, tp2, fun r H3 r0 r1 mv tp3 => ?_⟩
    have ep : H3 p = some (.tup [V.int 2]) := Nl.moved tp2 mv _ _ (fun _ z => by cases z) (sW _ _ e1)
    obtain ⟨v, d, hv, hd, od⟩ : ∃ v d, [V.int 1, .int 5, .int 0, .int (-1), .non, .bl true, .str "2", .ref p, .int (10 ^ Int.toNat 20)][r.toNat]? = some v ∧ d ∈ noC ∧ ∀ H'', TupS H3 H'' → Od K H'' v d := by
      have z : r = 0 ∨ r = 1 ∨ r = 2 ∨ r = 3 ∨ r = 4 ∨ r = 5 ∨ r = 6 ∨ r = 7 ∨ r = 8 := by omega
      rcases z with rfl | rfl | rfl | rfl | rfl | rfl | rfl | rfl | rfl
      · exact ⟨_, .int 1, rfl, by simp [noC], fun _ _ => .int _⟩
      · exact ⟨_, .int 5, rfl, by simp [noC], fun _ _ => .int _⟩
      · exact ⟨_, .int 0, rfl, by simp [noC], fun _ _ => .int _⟩
      · exact ⟨_, .int (-1), rfl, by simp [noC], fun _ _ => .int _⟩
      · exact ⟨_, .none, rfl, by simp [noC], fun _ _ => .non⟩
      · exact ⟨_, .bool true, rfl, by simp [noC], fun _ _ => .bl _⟩
      · exact ⟨_, .str "2", rfl, by simp [noC], fun _ _ => .str _⟩
      · exact ⟨_, .tuple [.int 2], rfl, by simp [noC], fun _ h => .tup (SqT.of (h _ _ ep)) (.cons (.int _) .nil)⟩
      · exact ⟨_, .int (10 ^ Int.toNat 20), rfl, by simp [noC], fun _ _ => .int _⟩
    exact ⟨W, _, r, v, rfl, rfl, SqL.of (mv W _ Wt eW), atI_of r0 hv, q v d H3 hd od ((Moved.same (s1.trans sW)).trans mv) tp3⟩
end

/-! ### the greatest common divisor by 200 turns -/
def eu : Nat → Nat × Nat → Nat × Nat
  | 0, s => s
  | n + 1, s => if (eu n s).2 > 0 then ((eu n s).2, (eu n s).1 % (eu n s).2) else eu n s
theorem eu_gcd (s : Nat × Nat) : ∀ n, Nat.gcd (eu n s).1 (eu n s).2 = Nat.gcd s.1 s.2
  | 0 => rfl
  | n + 1 => by
    have ih := eu_gcd s n
    unfold eu
    split
    · show Nat.gcd (eu n s).2 ((eu n s).1 % (eu n s).2) = _
      rw [← ih, Nat.gcd_comm (eu n s).2, ← Nat.gcd_rec, Nat.gcd_comm]
    · exact ih
theorem eu_step {s : Nat × Nat} {n : Nat} : (eu (n + 1) s).2 ≤ (eu n s).2 := by
  show (if (eu n s).2 > 0 then ((eu n s).2, (eu n s).1 % (eu n s).2) else eu n s).2 ≤ _
  split
  · rename_i h
    exact Nat.le_of_lt (Nat.mod_lt _ h)
  · exact Nat.le_refl _
theorem eu_half (s : Nat × Nat) (n : Nat) : (eu (n + 2) s).2 * 2 ≤ (eu n s).2 := by
  have e1 : eu (n + 1) s = if (eu n s).2 > 0 then ((eu n s).2, (eu n s).1 % (eu n s).2) else eu n s := rfl
  have e2 : eu (n + 2) s = if (eu (n + 1) s).2 > 0 then ((eu (n + 1) s).2, (eu (n + 1) s).1 % (eu (n + 1) s).2) else eu (n + 1) s := rfl
  by_cases h : (eu n s).2 > 0
  · rw [if_pos h] at e1
    have r := Nat.mod_lt (eu n s).1 h
    by_cases h2 : (eu (n + 1) s).2 > 0
    · rw [if_pos h2] at e2
      rw [e2]
      show (eu (n + 1) s).1 % (eu (n + 1) s).2 * 2 ≤ _
      have m := Nat.mod_lt (eu (n + 1) s).1 h2
      rw [e1] at h2 m ⊢
      have h2' : (eu n s).1 % (eu n s).2 > 0 := h2
      have m' : (eu n s).2 % ((eu n s).1 % (eu n s).2) < (eu n s).1 % (eu n s).2 := m
      show (eu n s).2 % ((eu n s).1 % (eu n s).2) * 2 ≤ (eu n s).2
      generalize (eu n s).1 % (eu n s).2 = c at *
      have d := Nat.div_add_mod (eu n s).2 c
      have d1 : 1 ≤ (eu n s).2 / c := Nat.div_pos (by omega) h2'
      have : c ≤ c * ((eu n s).2 / c) := Nat.le_mul_of_pos_right c d1
      omega
    · rw [if_neg h2] at e2
      rw [e2]
      omega
  · have z := eu_step (s := s) (n := n)
    have z2 := eu_step (s := s) (n := n + 1)
    have z2 : (eu (n + 2) s).2 ≤ (eu (n + 1) s).2 := z2
    omega
theorem eu_pow (s : Nat × Nat) : ∀ k : Nat, (eu (2 * k) s).2 * 2 ^ k ≤ s.2
  | 0 => by show s.2 * 1 ≤ s.2; omega
  | k + 1 => by
    have ih := eu_pow s k
    have h := eu_half s (2 * k)
    have e : 2 * (k + 1) = 2 * k + 2 := by omega
    rw [e, Nat.pow_succ]
    calc (eu (2 * k + 2) s).2 * (2 ^ k * 2) = ((eu (2 * k + 2) s).2 * 2) * 2 ^ k := by rw [Nat.mul_comm (2 ^ k) 2, Nat.mul_assoc]
      _ ≤ (eu (2 * k) s).2 * 2 ^ k := Nat.mul_le_mul_right _ h
      _ ≤ s.2 := ih
theorem eu_200 {s : Nat × Nat} (h : s.2 ≤ 1000) : (eu 200 s).1 = Nat.gcd s.1 s.2 := by
  have p := eu_pow s 100
  have z : (eu (2 * 100) s).2 = 0 := by
    rcases Nat.eq_zero_or_pos (eu (2 * 100) s).2 with z | z
    · exact z
    · have : 2 ^ 100 ≤ (eu (2 * 100) s).2 * 2 ^ 100 := Nat.le_mul_of_pos_left _ z
      have : (1001 : Nat) ≤ 2 ^ 100 := by decide
      omega
  have g := eu_gcd s 200
  have z : (eu 200 s).2 = 0 := z
  rw [z, Nat.gcd_zero_right] at g
  exact g
section
variable {P : Program} {w : World} {K : PySem.W.Frag} {mg : Str → Option Value} {base : Heap}
def spCommon (K : PySem.W.Frag) : Sp := fun vs H Q _ => ∃ (a b : Nat), vs = [.int (a : Int), .int (b : Int)] ∧ a ≤ 1000 ∧ b ≤ 1000 ∧ Q (.int ((Nat.gcd a b : Nat) : Int)) H
theorem ok__law_common (T : Tx K mg) : FnOk P w K mg base CX0 1 T.a__law_common T.d__law_common ["one", "other"] (spCommon K) := by
  refine T.F__law_common.ok sc__law_common (fun vs H Q E h => ?_) (fun cdv A outer s H vs Q E hr h => ?_)
  · obtain ⟨a, b, rfl, _⟩ := h
    rfl
  · obtain ⟨a, b, rfl, ha, hb, q⟩ := h
    refine ⟨_, ((pss_cons (ps_for PassesOwn.never rfl (pi_range1 (by rfl) T.m_range (pa_cons pe_int pa_nil)) (pg_name (i := 2) sc__law_common.nd rfl (.inl rfl))
   (pss_one (ps_if (pt_cmpR op_gt (pv 1) pe_int (nomark _)) (pss_one (ps_par (i := 0) (j := 1) (by rfl) sc__law_common.nd rfl rfl (by decide) (by rfl) (by rfl) (pa_cons (pv 1) (pa_cons (pe_op op_modN (pe_callTy call_int1 (by rfl) T.m_int (by decide +kernel) (pa_cons (pv 0) pa_nil)) (pv 1)) pa_nil)) (by rfl))) pss_nil)))
  (pss_one (ps_ret (pv 0))))), ?_⟩
    refine ⟨200, rfl, by decide, by decide, for_range (lo := 0) (n := (200 : Int).toNat)
      (fun n σ H' => ∃ y, σ = [some (.int ((eu n (a, b)).1 : Int)), some (.int ((eu n (a, b)).2 : Int)), y] ∧ H' = H)
      ⟨_, rfl, rfl⟩ (fun n σ H' hn h => ?_) (fun σ H' h => ?_)⟩
    · obtain ⟨y, rfl, rfl⟩ := h
      refine ⟨_, rfl, _, _, rfl, rfl, _, rfl, ite2 (fun c => ?_) (fun c => ?_)⟩
      · have c' : (eu n (a, b)).2 > 0 := by
          have := of_decide_eq_true c
          omega
        have e : eu (n + 1) (a, b) = ((eu n (a, b)).2, (eu n (a, b)).1 % (eu n (a, b)).2) := if_pos c'
        have em : ((eu n (a, b)).1 : Int).fmod ((eu n (a, b)).2 : Int) = (((eu n (a, b)).1 % (eu n (a, b)).2 : Nat) : Int) := by
          rw [Int.fmod_eq_emod_of_nonneg _ (by omega)]
          exact (Int.natCast_emod _ _).symm
        refine ⟨.int _, rfl, .int _, rfl, .inl ⟨_, rfl, .int _, rfl, _, _, rfl, rfl, by omega, _, _, rfl, some (.int (0 + (n : Int))), ?_, rfl⟩⟩
        rw [e]
        show [some (V.int ((eu n (a, b)).2 : Int)), some (V.int (((eu n (a, b)).1 : Int).fmod ((eu n (a, b)).2 : Int))), some (.int (0 + (n : Int)))] = _
        rw [em]
      · have c' : ¬ (eu n (a, b)).2 > 0 := fun z => c (decide_eq_true (by omega))
        have e : eu (n + 1) (a, b) = eu n (a, b) := if_neg c'
        exact ⟨_, by rw [e]; rfl, rfl⟩
    · obtain ⟨y, rfl, rfl⟩ := h
      refine ⟨_, rfl, ?_⟩
      rw [show (200 : Int).toNat = 200 by rfl, eu_200 (s := (a, b)) hb]
      exact q
end

/-! ### the law's own rounds against what is told -/
section
variable {P : Program} {w : World} {K : PySem.W.Frag} {mg : Str → Option Value} {base : Heap}
theorem eqV_int (a : Int) : eqV (.int a) (.int a) = true := by
  show (a == a) = true
  exact beq_self_eq_true a
theorem eqV_ints {a b : Int} (h : a ≠ b) : eqV (.int a) (.int b) = false := by
  show (a == b) = false
  exact beq_false_of_ne h
def grs (b : Int) (cs : List Int) (n : Nat) : List Int := (List.range n).map (Lg.gr b cs)
def spSettles (K : PySem.W.Frag) : Sp := fun vs H Q _ => ∃ (a : Addr) (cs : List Int) (k b : Int), vs = [.int k, .int b, .ref a] ∧ SqT K H a (cs.map V.int) ∧ Rt k cs ∧ 1 ≤ cs.length ∧ cs.length ≤ 60 ∧ 2 ≤ k ∧ k ≤ 4 ∧ 1 ≤ b ∧ b ≤ 60 ∧ ∀ H', Same H H' → Q (.bl true) H'
theorem ok__law_settles (T : Tx K mg) : FnOk P w K mg base CX0 9 T.a__law_settles T.d__law_settles ["comers", "bound", "comings"] (spSettles K) := by
  refine T.F__law_settles.ok sc__law_settles (fun vs H Q E h => ?_) (fun cdv A outer s H vs Q E hr h => ?_)
  · obtain ⟨a, cs, k, b, rfl, _⟩ := h
    rfl
  · obtain ⟨a, cs, k, b, rfl, hT, g, h1, h60, k2, k4, b1, b60, q⟩ := h
    refine ⟨_, ((pss_cons (ps_set (i := 3) sc__law_settles.nd rfl (.inr rfl) (pe_lst (pa_cons pe_int pa_nil)))
  (pss_cons (ps_for PassesOwn.never rfl (pi_range1 (by rfl) T.m_range (pa_cons pe_int pa_nil)) (pg_name (i := 4) sc__law_settles.nd rfl (.inl rfl))
   (pss_one (ps_expr (pe_bm PySem.F.plainAttrs_list PySem.F.slot_list_append PySem.F.type_list_append mt_append (pv 3) (pa_cons (pe_ix ix_tup (pe_call (ok__law_round T) (hr.mono (by decide)) (by rfl) T.g__law_round T.F__law_round.kp T.b__law_round .nil pass0 (pa_cons (pv 1) (pa_cons (pe_ix ix_list (pv 3) (pe_un un_neg pe_int) (fun _ _ => rfl)) (pa_cons (pv 2) pa_nil)))) pe_int (fun _ _ => rfl)) pa_nil)))))
  (pss_cons (ps_if (PW.pt (pw_or (pt_cmpR op_gt (pe_callB call_len_seq (by rfl) T.m_len PySem.boot_len (pa_cons (pe_lc (own := [("k", 12)]) (g := (gName 12)) rfl sc__law_settles.nd (pi_range1 (by rfl) T.m_range (pa_cons pe_int pa_nil)) (blkOk_by (own := [("k", 12)]) (N := ["comers", "bound", "comings", "rows", "turn", "rounds", "told", "away", "due", "part", "times", "first", "k"]) (sc := defScope s__law_settles) (by decide +kernel)) (fun _ _ _ _ _ => pg_name (i := 12) sc__law_settles.nd rfl (.inl rfl)) (fun _ _ _ _ _ => (pts_one (pt_cmpR op_gt (pe_ix (ixLK (K := K) (by rfl)) (pv 3) (pv 12) (fun _ _ => rfl)) (pe_ix (ixLK (K := K) (by rfl)) (pv 3) (pe_op op_add (pv 12) pe_int) (fun _ _ => rfl)) (nomark _)))) (fun _ _ _ _ _ => (pv 12))) pa_nil)) pe_int (nomark _)) (pw_or1 (pt_cmpR op_ne (pe_ix ix_list (pv 3) pe_int (fun _ _ => rfl)) (pe_ix ix_list (pv 3) pe_int (fun _ _ => rfl)) (nomark _))))) (pss_one (ps_ret pe_bl)) pss_nil)
  (pss_cons (ps_set (i := 5) sc__law_settles.nd rfl (.inl rfl) (pe_bm PySem.F.plainAttrs_list PySem.F.slot_list_index PySem.F.type_list_index mt_index (pv 3) (pa_cons (pe_ix ix_list (pv 3) pe_int (fun _ _ => rfl)) pa_nil)))
  (pss_cons (ps_set (i := 6) sc__law_settles.nd rfl (.inl rfl) (pe_call (ok_settled T) (hr.mono (by decide)) (by rfl) T.g_settled T.F_settled.kp T.b_settled .nil pass0 (pa_cons (pv 0) (pa_cons (pv 1) (pa_cons (pv 2) pa_nil)))))
  (pss_cons (ps_if (PW.pt (pw_or (pt_cmpR (op_neD hr.units) (pv 6) (pe_tup (pa_cons (pv 5) (pa_cons (pe_ix ix_list (pv 3) pe_int (fun _ _ => rfl)) pa_nil))) (nomark _)) (pw_or (pt_not (pt_val (pe_callB call_isi (by rfl) T.m_isinstance (by decide +kernel) (pa_cons (pv 6) (pa_cons (pe_bltn (v := .ty "tuple") (by rfl) T.m_tuple (by decide +kernel) rfl) pa_nil))))) (pw_or (pt_val (pe_callB call_isi (by rfl) T.m_isinstance (by decide +kernel) (pa_cons (pe_ix ix_tup (pv 6) pe_int (fun _ _ => rfl)) (pa_cons (pe_bltn (v := .ty "bool") (by rfl) T.m_bool (by decide +kernel) rfl) pa_nil)))) (pw_or1 (pt_val (pe_callB call_isi (by rfl) T.m_isinstance (by decide +kernel) (pa_cons (pe_ix ix_tup (pv 6) pe_int (fun _ _ => rfl)) (pa_cons (pe_bltn (v := .ty "bool") (by rfl) T.m_bool (by decide +kernel) rfl) pa_nil))))))))) (pss_one (ps_ret pe_bl)) pss_nil)
  (pss_cons (ps_set (i := 7) sc__law_settles.nd rfl (.inl rfl) (pe_ix ix_tup (pe_call (ok__law_round T) (hr.mono (by decide)) (by rfl) T.g__law_round T.F__law_round.kp T.b__law_round .nil pass0 (pa_cons (pv 1) (pa_cons (pe_ix ix_list (pv 3) pe_int (fun _ _ => rfl)) (pa_cons (pv 2) pa_nil)))) pe_int (fun _ _ => rfl)))
  (pss_cons (ps_set (i := 8) sc__law_settles.nd rfl (.inl rfl) (pe_tup (pa_cons pe_int (pa_cons pe_int pa_nil))))
  (Evl.pss_cut (ps_if (pt_cmpR op_gt (pe_callB (cr_sumT rfl) (by rfl) T.m_sum (by decide +kernel) (pa_cons (pv 2) pa_nil)) pe_int (nomark _)) (pss_cons (ps_set (i := 9) sc__law_settles.nd rfl (.inl rfl) (pe_call (ok__law_common T) (hr.mono (by decide)) (by rfl) T.g__law_common T.F__law_common.kp T.b__law_common .nil pass0 (pa_cons (pv 7) (pa_cons (pe_callB (cr_sumT rfl) (by rfl) T.m_sum (by decide +kernel) (pa_cons (pv 2) pa_nil)) pa_nil))))
  (pss_one (ps_set (i := 8) sc__law_settles.nd rfl (.inl rfl) (pe_tup (pa_cons (pe_op op_fdivW (pv 7) (pv 9)) (pa_cons (pe_op op_fdivW (pe_callB (cr_sumT rfl) (by rfl) T.m_sum (by decide +kernel) (pa_cons (pv 2) pa_nil)) (pv 9)) pa_nil)))))) pss_nil)
  (pss_cons (ps_if (pt_cmpR (op_neD hr.units) (pe_call (ok_lost_share T) (hr.mono (by decide)) (by rfl) T.g_lost_share T.F_lost_share.kp T.b_lost_share .nil pass0 (pa_cons (pv 0) (pa_cons (pv 1) (pa_cons (pv 2) pa_nil)))) (pv 8) (nomark _)) (pss_one (ps_ret pe_bl)) pss_nil)
  (pss_cons (ps_for PassesOwn.never rfl (pi_list (pe_lst (pa_cons (pv 5) (pa_cons (pe_op op_add (pv 5) pe_int) (pa_cons (pe_op op_sub (pe_op op_add (pv 5) (pe_op op_pow pe_int pe_int)) pe_int) pa_nil))))) (pg_name (i := 10) sc__law_settles.nd rfl (.inl rfl))
   (pss_cons (ps_set (i := 11) sc__law_settles.nd rfl (.inl rfl) (pe_call (ok_long_counts T) (hr.mono (by decide)) (by rfl) T.g_long_counts T.F_long_counts.kp T.b_long_counts .nil pass0 (pa_cons (pv 0) (pa_cons (pv 1) (pa_cons (pe_tup (pa_cons (pe_tup (pa_cons (pv 2) (pa_cons (pv 5) pa_nil))) pa_nil)) pa_nil)))))
  (pss_cons (ps_if (pt_cmpR op_ne (pe_call (ok_long_line T) (hr.mono (by decide)) (by rfl) T.g_long_line T.F_long_line.kp T.b_long_line .nil pass0 (pa_cons (pv 0) (pa_cons (pv 1) (pa_cons (pe_tup (pa_cons (pe_tup (pa_cons (pv 2) (pa_cons (pv 10) pa_nil))) pa_nil)) pa_nil)))) (pe_ix ix_list (pv 3) pe_int (fun _ _ => rfl)) (nomark _)) (pss_one (ps_ret pe_bl)) pss_nil)
  (pss_one (ps_if (pt_cmpR op_ne (pe_op op_sub (pe_ix ix_tup (pe_call (ok_long_counts T) (hr.mono (by decide)) (by rfl) T.g_long_counts T.F_long_counts.kp T.b_long_counts .nil pass0 (pa_cons (pv 0) (pa_cons (pv 1) (pa_cons (pe_tup (pa_cons (pe_tup (pa_cons (pv 2) (pa_cons (pv 10) pa_nil))) pa_nil)) pa_nil)))) pe_int (fun _ _ => rfl)) (pe_ix ix_tup (pv 11) pe_int (fun _ _ => rfl))) (pe_op op_mul (pv 7) (pe_op op_sub (pv 10) (pv 5))) (nomark _)) (pss_one (ps_ret pe_bl)) pss_nil)))))
  (pss_one (ps_ret pe_bl)))))))))))))), ?_⟩
    have c0 : ∀ c ∈ cs, 0 ≤ c := fun c hc => (g.2 c hc).1
    refine ⟨by show 1 ≤ sizeLine; decide, fun R nR => ?_⟩
    refine ⟨64, rfl, by decide, by decide, for_range (lo := 0) (n := (64 : Int).toNat)
      (fun i σ H' => ∃ (y4 : Option V), σ = [some (.int k), some (.int b), some (.ref a), some (.ref R), y4, none, none, none, none, none, none, none, none] ∧ (∀ x o, x ≠ R → H x = some o → H' x = some o) ∧ H' R = some (.lst ((grs b cs (i + 1)).map V.int)))
      ⟨_, rfl, fun x o n e => by rw [upd_ne n]; exact e, upd_same⟩ (fun i σ H' hi h => ?_) (fun σ H' h => ?_)⟩
    · obtain ⟨y4, rfl, kp, eR⟩ := h
      have hTi : SqT K H' a (cs.map V.int) := by
        rcases hT with (h | ⟨o, h⟩) | h
        · exact .inl (.inl (kp _ _ (ne_of_none h nR) h))
        · exact .inl (.inr ⟨o, kp _ _ (ne_of_none h nR) h⟩)
        · exact .inr h
      refine ⟨.ref R, rfl, .inl ⟨rfl, _, SqL.of eR⟩, .int b, rfl, .ref R, rfl, 1, rfl, R, _, _, .int (Lg.gr b cs i), rfl, rfl, SqL.of eR, ?_, ?_⟩
      · unfold grs
        rw [List.range_succ, List.map_append, List.map_append]
        exact atI_last _ _
      refine ⟨.ref a, rfl, a, cs, b, Lg.gr b cs i, k, rfl, hTi, g, k4, fun p H1 s1 np ep => ?_⟩
      refine ⟨p, _, 0, .int (Lg.gr b cs (i + 1)), rfl, rfl, SqT.of ep, atI_nat (j := 0) rfl, ?_⟩
      have eR1 := s1 _ _ eR
      refine ⟨R, _, _, rfl, rfl, eR1, ?_, _, rfl, fun x o n e => ?_, ?_⟩
      · unfold grs
        rw [List.length_map, List.length_map, List.length_range]
        exact small1000 (by omega)
      · rw [upd_ne n]
        exact s1 _ _ (kp x o n e)
      · rw [upd_same]
        unfold grs
        rw [List.range_succ (n := i + 1), List.map_append, List.map_append]
        rfl
    · obtain ⟨y4, rfl, kp, eR⟩ := h
      have e65 : (64 : Int).toNat + 1 = 65 := rfl
      rw [e65] at eR
      obtain ⟨r, hst⟩ := Lg.stl_ex (b := b) (by omega) c0
      have rb : (r : Int) ≤ b := Lg.stl_b (by omega) c0 hst.2
      have at_ : ∀ n : Nat, n < 65 → ((grs b cs 65).map V.int)[n]? = some (.int (Lg.gr b cs n)) := fun n hn => by
        unfold grs
        rw [List.getElem?_map, List.getElem?_map, List.getElem?_range hn]
        rfl
      have e64 : Lg.gr b cs 64 = Lg.gr b cs r := by
        have := Lg.stl_stay hst (64 - r)
        rw [show r + (64 - r) = 64 by omega] at this
        exact this
      have e63 : Lg.gr b cs 63 = Lg.gr b cs r := by
        have := Lg.stl_stay hst (63 - r)
        rw [show r + (63 - r) = 63 by omega] at this
        exact this
      have a64 := at_ 64 (by decide)
      rw [e64] at a64
      have a63 := at_ 63 (by decide)
      rw [e63] at a63
      have sR : ∀ {H1 : Hp}, Same H' H1 → SqL K H1 R ((grs b cs 65).map V.int) := fun sm => SqL.of (sm _ _ eR)
      refine ⟨64, rfl, by decide, by decide, fun D nD => lc_range (lo := 0) (n := (64 : Int).toNat)
        (fun i H1 => Same H' H1 ∧ H1 D = some (.lst []))
        ⟨same_upd nD, upd_same⟩ (fun i H1 hi p => ?_) (fun H1 p => ?_)⟩
      · obtain ⟨sm, eD⟩ := p
        have hi' : i < 64 := hi
        refine ⟨rfl, .ref R, rfl, .int _, rfl, R, _, _, .int (Lg.gr b cs i), rfl, rfl, sR sm, atI_of (by omega) (by rw [show ((0 : Int) + (i : Int)).toNat = i by omega]; exact at_ i (by omega)), ?_⟩
        refine ⟨.ref R, rfl, .int _, rfl, _, _, rfl, rfl, R, _, _, .int (Lg.gr b cs (i + 1)), rfl, rfl, sR sm, atI_of (by show (0 : Int) ≤ 0 + (i : Int) + 1; omega) (by rw [show ((0 : Int) + (i : Int) + 1).toNat = i + 1 by omega]; exact at_ (i + 1) (by omega)), ?_⟩
        have up := Lg.gr_up (b := b) (by omega) c0 i
        exact ⟨_, _, rfl, rfl, false, congrArg V.bl (decide_eq_false (by omega)), iteF ⟨sm, eD⟩⟩
      · obtain ⟨sm, eD⟩ := p
        refine ⟨D, [], rfl, .inl (SqL.of eD), _, _, rfl, rfl, false, rfl, iteF ?_⟩
        refine ⟨.ref R, rfl, R, _, _, .int _, rfl, rfl, sR sm, atI_nat (j := 63) a63, .ref R, rfl, R, _, _, .int _, rfl, rfl, sR sm, atI_nat (j := 64) a64, rfl, false, ne_no rfl, iteF ?_⟩
        have ff : ((grs b cs 65).map V.int).all flatV = true := by
          rw [List.all_eq_true]
          intro z hz
          obtain ⟨n, _, rfl⟩ := List.mem_map.mp hz
          rfl
        refine ⟨.ref R, rfl, .inl ⟨rfl, _, sR sm⟩, .ref R, rfl, R, _, _, .int _, rfl, rfl, sR sm, atI_nat (j := 64) a64, R, _, .int _, r, .int (Lg.gr b cs r), rfl, rfl, sR sm, rfl, ff, at_ r (by omega), eqV_int _, fun m z hm hz => ?_, ?_⟩
        · rw [at_ m (by omega)] at hz
          cases hz
          have lt := Lg.gr_lt (by omega) c0 hst (r - m - 1) m (by omega)
          exact eqV_ints (by omega)
        -- settled
        have hTi : ∀ {H2 : Hp}, Same H' H2 → SqT K H2 a (cs.map V.int) := fun sm => by
          rcases hT with (h | ⟨o, h⟩) | h
          · exact .inl (.inl (sm _ _ (kp _ _ (ne_of_none h nR) h)))
          · exact .inl (.inr ⟨o, sm _ _ (kp _ _ (ne_of_none h nR) h)⟩)
          · exact .inr h
        refine ⟨.int k, rfl, .int b, rfl, .ref a, rfl, a, cs, k, b, rfl, hTi sm, g, h1, h60, k2, k4, b1, b60, fun r' pt H2 hst' s2 ept => ?_⟩
        cases Lg.stl_one hst hst'
        have s2' := sm.trans s2
        refine ⟨.ref pt, rfl, .int r, rfl, .ref R, rfl, R, _, _, .int _, rfl, rfl, sR s2', atI_nat (j := 64) a64, by show 2 ≤ sizeLine; decide, fun p2 np2 => ?_⟩
        have s3 := same_upd (o := .tup [V.int (r : Int), .int (Lg.gr b cs r)]) np2
        refine ⟨My.dI [(r : Int), Lg.gr b cs r], My.dI [(r : Int), Lg.gr b cs r], dp_dI (SqT.of (s3 _ _ ept)), dp_dI (SqT.of upd_same), (Shp.dI _).ok (by decide), (Shp.dI _).ok (by decide), false, ne_same (Shp.dI _), iteF ?_⟩
        have s2t := s2'.trans s3
        have ept3 := s3 _ _ ept
        generalize upd H2 p2 (.tup [V.int (r : Int), .int (Lg.gr b cs r)]) = H3 at *
        refine ⟨.ref pt, rfl, .ref pt, .ty "tuple", _, _, true, rfl, .ty _, tyTup (SqT.of ept3), kit_ty (by decide +kernel), true, rfl, iteF ?_⟩
        refine ⟨.ref pt, rfl, pt, _, 0, .int (r : Int), rfl, rfl, SqT.of ept3, atI_nat (j := 0) rfl, .int (r : Int), .ty "bool", _, _, false, rfl, .ty _, .base (.int _), kit_ty (by decide +kernel), false, rfl, iteF ?_⟩
        refine ⟨.ref pt, rfl, pt, _, 1, .int (Lg.gr b cs r), rfl, rfl, SqT.of ept3, atI_nat (j := 1) rfl, .int (Lg.gr b cs r), .ty "bool", _, _, false, rfl, .ty _, .base (.int _), kit_ty (by decide +kernel), false, rfl, iteF ?_⟩
        -- away
        refine ⟨.int b, rfl, .ref R, rfl, R, _, _, .int _, rfl, rfl, sR s2t, atI_nat (j := 64) a64, .ref a, rfl, a, cs, b, Lg.gr b cs r, k, rfl, hTi s2t, g, k4, fun p4 H4 s4 np4 ep4 => ?_⟩
        refine ⟨p4, _, 2, .int (Lg.rd b cs (Lg.gr b cs r)).2.2, rfl, rfl, SqT.of ep4, atI_nat (j := 2) rfl, ?_⟩
        refine ⟨by show 2 ≤ sizeLine; decide, fun p5 np5 => ?_⟩
        have s5 := same_upd (o := .tup [V.int 0, .int 1]) np5
        have ep5 : upd H4 p5 (.tup [V.int 0, .int 1]) p5 = some (.tup [V.int 0, .int 1]) := upd_same
        have s5t := (s2t.trans s4).trans s5
        generalize upd H4 p5 (.tup [V.int 0, .int 1]) = H5 at *
        have rg := Lg.gr_rng (b := b) (cs := cs) (by omega) c0 r
        have ro := Lg.rd_ok rg.1 rg.2 c0
        have r0 := ro.l0
        have r2 := ro.o0
        have r3 := ro.a0
        have r4 := ro.sum
        have su := Lg.sum_le (cs := cs) fun c hc => by
          have := g.2 c hc
          omega
        obtain ⟨aw, haw⟩ : ∃ aw, aw = (Lg.rd b cs (Lg.gr b cs r)).2.2 := ⟨_, rfl⟩
        obtain ⟨l, hl⟩ : ∃ l, l = Lg.gr b cs r := ⟨_, rfl⟩
        rw [← haw] at r3 r4
        rw [← haw]
        refine ⟨fun σ' H6 => ∃ (pd : Addr) (y9 : Option V), σ' = [some (.int k), some (.int b), some (.ref a), some (.ref R), y4, some (.int (r : Int)), some (.ref pt), some (.int aw), some (.ref pd), y9, none, none, none] ∧ Same H5 H6 ∧ H6 pd = some (.tup [.int (share b cs l).1, .int (share b cs l).2]), ?_, fun σ' H6 hm => ?_⟩
        · refine ⟨.ref a, rfl, a, cs, rfl, hTi s5t, _, _, rfl, rfl, _, rfl, ite2 (fun c1 => ?_) (fun c1 => ?_)⟩
          · have c1' : cs.sum > 0 := of_decide_eq_true c1
            obtain ⟨an, han⟩ : ∃ an : Nat, aw = (an : Int) := ⟨aw.toNat, by omega⟩
            obtain ⟨sn, hsn⟩ : ∃ sn : Nat, cs.sum = (sn : Int) := ⟨cs.sum.toNat, by omega⟩
            have gp : 0 < Nat.gcd an sn := Nat.gcd_pos_of_pos_right _ (by omega)
            have gl : Nat.gcd an sn ≤ 1000 := Nat.le_trans (Nat.gcd_le_right _ (by omega)) (by omega)
            have wd : ∀ i : Int, CDivW i ((Nat.gcd an sn : Nat) : Int) := fun i => wide_div (by omega) (b := 60) (by omega) (by decide) (by decide)
            have e : share b cs l = (aw / ((Nat.gcd an sn : Nat) : Int), cs.sum / ((Nat.gcd an sn : Nat) : Int)) := by
              unfold share
              rw [if_pos c1', hl, ← haw, han, hsn]
              rfl
            rw [e]
            refine ⟨.int aw, rfl, .ref a, rfl, a, cs, rfl, hTi s5t, an, sn, by rw [← han, ← hsn]; rfl, by omega, by omega, ?_⟩
            refine ⟨.int aw, rfl, _, rfl, _, _, rfl, rfl, wd _, .ref a, rfl, a, cs, rfl, hTi s5t, _, rfl, _, _, rfl, rfl, wd _, by show 2 ≤ sizeLine; decide, fun pd npd => ?_⟩
            exact ⟨pd, _, rfl, same_upd npd, upd_same⟩
          · have c1' : ¬ cs.sum > 0 := fun z => c1 (decide_eq_true z)
            have e : share b cs l = (0, 1) := by
              unfold share
              rw [if_neg c1']
            rw [e]
            exact ⟨p5, _, rfl, fun _ _ z => z, ep5⟩
        · obtain ⟨pd, y9, rfl, s6, epd⟩ := hm
          have s6t := s5t.trans s6
          refine ⟨.int k, rfl, .int b, rfl, .ref a, rfl, a, cs, k, b, rfl, hTi s6t, g, h1, h60, k2, k4, b1, b60, fun r' ps H7 hst' s7 eps => ?_⟩
          cases Lg.stl_one hst hst'
          rw [← hl] at eps
          refine ⟨.ref pd, rfl, My.dI [(share b cs l).1, (share b cs l).2], My.dI [(share b cs l).1, (share b cs l).2], dp_dI (SqT.of eps), dp_dI (SqT.of (s7 _ _ epd)), (Shp.dI _).ok (by decide), (Shp.dI _).ok (by decide), false, ne_same (Shp.dI _), iteF ?_⟩
          have s7t := s6t.trans s7
          have tot1 : ∀ n : Nat, Lg.tot b [(cs, ((r + n : Nat) : Int))] = (l, ((r + n : Nat) : Int) * cs.sum, (Lg.it b cs (r + n) 0).2.1, (Lg.it b cs r 0).2.2 + (n : Int) * aw) := fun n => by
            have e1 : Lg.tot b [(cs, ((r + n : Nat) : Int))] = ((Lg.it b cs (r + n) 0).1, 0 + ((r + n : Nat) : Int) * cs.sum, 0 + (Lg.it b cs (r + n) 0).2.1, 0 + (Lg.it b cs (r + n) 0).2.2) := rfl
            rw [e1, Int.zero_add, Int.zero_add, Int.zero_add, Lg.it_stl hst n, hl, ← haw]
          refine ⟨.int (r : Int), rfl, .int (r : Int), rfl, _, _, rfl, rfl, .int (r : Int), rfl, 10, 30, rfl, rfl, ⟨by decide, by decide, by decide⟩, _, _, rfl, rfl, _, _, rfl, rfl, by show 3 ≤ sizeLine; decide, fun D2 nD2 => ?_⟩
          have sD := same_upd (o := .lst [V.int (r : Int), .int ((r : Int) + 1), .int ((r : Int) + 10 ^ Int.toNat 30 - 200)]) nD2
          have eD2 : upd H7 D2 (.lst [V.int (r : Int), .int ((r : Int) + 1), .int ((r : Int) + 10 ^ Int.toNat 30 - 200)]) D2 = some (.lst [V.int (r : Int), .int ((r : Int) + 1), .int ((r : Int) + 10 ^ Int.toNat 30 - 200)]) := upd_same
          have s8t := s7t.trans sD
          show ∃ a_1, _ = V.ref a_1 ∧ _
          generalize upd H7 D2 (.lst [V.int (r : Int), .int ((r : Int) + 1), .int ((r : Int) + 10 ^ Int.toNat 30 - 200)]) = H8 at *
          refine ⟨D2, rfl, ⟨_, SqL.of eD2⟩, for_list (K := K) (xs := [V.int (r : Int), .int ((r : Int) + 1), .int ((r : Int) + 10 ^ Int.toNat 30 - 200)])
            (fun i σ H' => ∃ (y10 y11 : Option V), σ = [some (.int k), some (.int b), some (.ref a), some (.ref R), y4, some (.int (r : Int)), some (.ref pt), some (.int aw), some (.ref pd), y9, y10, y11, none] ∧ Same H8 H')
            ⟨_, _, rfl, fun _ _ z => z⟩ (fun i σ H' _ h => ?_) (fun i x σ H' hx h => ?_) (fun σ H' h => ?_)⟩
          · obtain ⟨_, _, _, sm⟩ := h
            exact SqL.of (sm _ _ eD2)
          · obtain ⟨y10, y11, rfl, s9⟩ := h
            obtain ⟨n, rfl, hn⟩ : ∃ n : Nat, x = .int ((r + n : Nat) : Int) ∧ ((r + n : Nat) : Int) ≤ 10 ^ 30 := by
              have hi : i = 0 ∨ i = 1 ∨ i = 2 := by
                have := (List.getElem?_eq_some_iff.mp hx).1
                have : i < 3 := this
                omega
              rcases hi with rfl | rfl | rfl
              · exact ⟨0, (Option.some.inj hx).symm, by omega⟩
              · exact ⟨1, (Option.some.inj hx).symm, by omega⟩
              · refine ⟨10 ^ 30 - 200, ?_, by omega⟩
                rw [← Option.some.inj hx]
                exact congrArg V.int (by show (r : Int) + 10 ^ 30 - 200 = _; omega)
            have sa := s8t.trans s9
            have one : ∀ (H2 : Hp), Same H' H2 → ∀ (m : Nat) (p1 p2 : Addr), H2 p1 = none → (upd H2 p1 (.tup [V.ref a, .int ((r + m : Nat) : Int)])) p2 = none → Same H' (upd (upd H2 p1 (.tup [V.ref a, .int ((r + m : Nat) : Int)])) p2 (.tup [V.ref p1])) ∧
                SqT K (upd (upd H2 p1 (.tup [V.ref a, .int ((r + m : Nat) : Int)])) p2 (.tup [V.ref p1])) p2 ([p1].map V.ref) ∧ Lps K (upd (upd H2 p1 (.tup [V.ref a, .int ((r + m : Nat) : Int)])) p2 (.tup [V.ref p1])) [p1] [(cs, ((r + m : Nat) : Int))] := fun H2 s2 m p1 p2 n1 n2 => by
              have sq := (same_upd (o := .tup [V.ref a, .int ((r + m : Nat) : Int)]) n1).trans (same_upd (o := .tup [V.ref p1]) n2)
              exact ⟨s2.trans sq, SqT.of upd_same, .cons ⟨a, SqT.of (same_upd n2 _ _ upd_same), hTi ((sa.trans s2).trans sq)⟩ .nil⟩
            have right : ∀ m : Nat, ((r + m : Nat) : Int) ≤ 10 ^ 30 → Lg.Right k [(cs, ((r + m : Nat) : Int))] := fun m hm => ⟨(by show 1 ≤ 20; decide), fun y hy => by
              rw [List.mem_singleton.mp hy]
              exact ⟨h60, g.2, by show (0 : Int) ≤ ((r + m : Nat) : Int); omega, hm⟩⟩
            have r30 : ((r + 0 : Nat) : Int) ≤ 10 ^ 30 := by omega
            refine ⟨.int k, rfl, .int b, rfl, .ref a, rfl, .int (r : Int), rfl, by show 2 ≤ sizeLine; decide, fun p1 np1 => ⟨by show 1 ≤ sizeLine; decide, fun q1 nq1 => ?_⟩⟩
            obtain ⟨sA, eA, lA⟩ := one H' (fun _ _ z => z) 0 p1 q1 np1 nq1
            refine ⟨q1, [p1], [(cs, ((r + 0 : Nat) : Int))], k, b, rfl, eA, lA, right 0 r30, k2, k4, b1, b60, fun f HA sA' ef => ?_⟩
            rw [tot1 0] at ef
            have sA2 := sA.trans sA'
            refine ⟨.int k, rfl, .int b, rfl, .ref a, rfl, .int ((r + n : Nat) : Int), rfl, by show 2 ≤ sizeLine; decide, fun p3 np3 => ⟨by show 1 ≤ sizeLine; decide, fun q3 nq3 => ?_⟩⟩
            obtain ⟨sB, eB, lB⟩ := one HA sA2 n p3 q3 np3 nq3
            refine ⟨q3, [p3], [(cs, ((r + n : Nat) : Int))], k, b, rfl, eB, lB, right n hn, k2, k4, b1, b60, fun HB sB' => ?_⟩
            rw [tot1 n]
            have sB2 := sB.trans sB'
            refine ⟨.ref R, rfl, R, _, _, .int _, rfl, rfl, sR (sa.trans sB2), atI_nat (j := 64) a64, rfl, false, ne_no hl, iteF ?_⟩
            refine ⟨.int k, rfl, .int b, rfl, .ref a, rfl, .int ((r + n : Nat) : Int), rfl, by show 2 ≤ sizeLine; decide, fun p4 np4 => ⟨by show 1 ≤ sizeLine; decide, fun q4 nq4 => ?_⟩⟩
            obtain ⟨sC, eC, lC⟩ := one HB sB2 n p4 q4 np4 nq4
            refine ⟨q4, [p4], [(cs, ((r + n : Nat) : Int))], k, b, rfl, eC, lC, right n hn, k2, k4, b1, b60, fun f2 HC sC' ef2 => ?_⟩
            rw [tot1 n] at ef2
            have sq4 := (same_upd (o := .tup [V.ref a, .int ((r + n : Nat) : Int)]) np4).trans (same_upd (o := .tup [V.ref p4]) nq4)
            have sq3 := (same_upd (o := .tup [V.ref a, .int ((r + n : Nat) : Int)]) np3).trans (same_upd (o := .tup [V.ref p3]) nq3)
            have efC := sC' _ _ (sq4 _ _ (sB' _ _ (sq3 _ _ ef)))
            refine ⟨f2, _, 2, _, rfl, rfl, SqT.of ef2, atI_nat (j := 2) rfl, .ref f, rfl, f, _, 2, _, rfl, rfl, SqT.of efC, atI_nat (j := 2) rfl, _, _, rfl, rfl, ?_⟩
            refine ⟨.int aw, rfl, .int ((r + n : Nat) : Int), rfl, .int (r : Int), rfl, _, _, rfl, rfl, _, _, rfl, rfl, .inl ⟨by omega, by omega⟩, rfl, false, ne_no ?_, iteF ?_⟩
            · rw [Int.mul_comm aw, show ((r + n : Nat) : Int) - (r : Int) = (n : Int) by omega]
              show (Lg.it b cs r 0).2.2 + (n : Int) * aw - ((Lg.it b cs r 0).2.2 + ((0 : Nat) : Int) * aw) = (n : Int) * aw
              rw [show ((0 : Nat) : Int) * aw = 0 from Int.zero_mul _]
              generalize (n : Int) * aw = m
              omega
            · exact ⟨_, _, rfl, s9.trans (sC.trans sC')⟩
          · obtain ⟨y10, y11, rfl, s9⟩ := h
            exact q _ fun x o e => s9 _ _ (s8t _ _ (kp x o (ne_of_none e nR) e))
end

/-! ### the law of settled lines -/
open RO9
def limB : PyData → Bool
  | .tuple ds => decide (ds.length ≤ 1000)
  | _ => true
def lim2B : PyData → Bool
  | .tuple ds => ds.all limB
  | _ => true
def lim3B : PyData → Bool
  | .tuple ds => ds.all lim2B
  | _ => true
theorem limB_ok {d : PyData} (h : limB d = true) : Lim d := fun ds e => by
  subst e
  exact of_decide_eq_true h
theorem lim2B_ok {d : PyData} (h : lim2B d = true) : Lim2 d := fun ds e x hx => by
  subst e
  exact limB_ok (List.all_eq_true.mp h x hx)
theorem lim3B_ok {d : PyData} (h : lim3B d = true) : Lim3 d := fun ds e x hx => by
  subst e
  exact lim2B_ok (List.all_eq_true.mp h x hx)
theorem rep_od {K : PySem.W.Frag} {H : Hp} {v : V} {d : PyData} (h : Od K H v d) : ∀ n : Nat, OdAll K H (List.replicate n [v]).flatten (List.replicate n d)
  | 0 => .nil
  | n + 1 => .cons h (rep_od h n)
/-- what was new in H' behind H stays in H'' -/
def NewStays (H H' H'' : Hp) : Prop := ∀ b o, H b = none → H' b = some o → H'' b = some o
theorem none_back {H H' : Hp} {p : Addr} (s : Same H H') (n : H' p = none) : H p = none := by
  cases h : H p with
  | none => rfl
  | some o =>
    rw [s _ _ h] at n
    cases n
theorem TupS.moved {t s : Addr} {H H' : Hp} (tp : Tape H t s) (m : Moved t H H') : TupS H H' := fun b xs e => Nl.moved tp m _ _ (fun _ z => by cases z) e
theorem TupS.same {H H' : Hp} (m : Same H H') : TupS H H' := fun b xs e => m _ _ e
theorem TupS.trans {H H1 H2 : Hp} (a : TupS H H1) (b : TupS H1 H2) : TupS H H2 := fun c o h => b c o (a c o h)
theorem NewStays.moved {t s : Addr} {H0 H H' H'' : Hp} (tp : Tape H0 t s) (n : NewStays H0 H H') (m : Moved t H' H'') : NewStays H0 H H'' := fun b o hb e => m b o (tp.ne hb) (n b o hb e)
def wrD : List PyData := [PyData.none, .list [.int 1], .tuple [.int 5], .tuple [.int (-1)], .tuple [.bool true], .tuple [.int 0, .none], .str "11", .int 5, .tuple (List.replicate 61 (.int 1)), .dict [], .tuple []]
def lnD : List PyData := [PyData.none, .list [.tuple [.tuple [.int 1], .int 1]], .tuple [.tuple [.int 1], .int 1], .tuple [.tuple [.tuple [.int 1], .int (-1)]], .tuple [.tuple [.tuple [.int 1], .bool true]], .tuple [.tuple [.tuple [.int 1], .int (10 ^ Int.toNat 30 + 1)]], .tuple [.tuple [.tuple [.int 5], .int 1]], .tuple [.tuple [.list [.int 1], .int 1]], .tuple [.tuple [.tuple [.int 1], .int 1, .int 0]], .tuple [.tuple [.tuple (List.replicate 61 (.int 1)), .int 1]], .tuple (List.replicate 21 (.tuple [.tuple [.int 1], .int 1])), .tuple [.tuple [.tuple [.int 1], .none]], .int 5, .str "1", .tuple [.tuple []]]
theorem wrD_no : wrD.all (fun d => !roundN 2 d && (limB d && lim3B d)) = true := by decide +kernel
theorem lnD_no : lnD.all (fun d => !longD 2 d && (limB d && lim3B d)) = true := by decide +kernel
def gdD : List PyData := [.tuple (List.replicate 20 (.tuple [.tuple (List.replicate 60 (.int 1)), .int (10 ^ Int.toNat 30)])), .tuple (List.replicate 60 (.int 1))]
theorem of_ints2 {lo M : Int} (ns : List Int) (hM : ∀ n ∈ ns, lo ≤ n ∧ n ≤ M) {j : Nat} (h : j < ns.length) : ∃ v, (ns.map V.int)[j]? = some (.int v) ∧ lo ≤ v ∧ v ≤ M :=
  ⟨ns[j], by rw [List.getElem?_map, List.getElem?_eq_getElem h]; rfl, hM _ (List.getElem_mem h)⟩
theorem due0 {i : Int} {d1 d2 d3 : PyData} (h : numD 2 4 d1 = false) : dueW i d1 d2 d3 = some 0 := by
  have e : ∀ r, dueB d1 d2 r = some 0 := fun r => by
    unfold dueB
    rw [h]
    rfl
  unfold dueW dueL dueR
  split
  · exact e _
  · exact e _
theorem due1 {i : Int} {d2 d3 : PyData} (h : numD 1 60 d2 = false) : dueW i (.int 2) d2 d3 = some 1 := by
  have e : ∀ r, dueB (.int 2) d2 r = some 1 := fun r => by
    unfold dueB
    rw [h]
    rfl
  unfold dueW dueL dueR
  split
  · exact e _
  · exact e _
theorem due2 {i : Int} {d3 : PyData} (h : (i ≤ 1 ∧ longD 2 d3 = false) ∨ (¬ i ≤ 1 ∧ roundN 2 d3 = false)) : dueW i (.int 2) (.int 3) d3 = some 2 := by
  have e : ∀ r, dueB (.int 2) (.int 3) r = r := fun r => rfl
  unfold dueW dueL dueR
  rw [e, e]
  rcases h with ⟨h1, h2⟩ | ⟨h1, h2⟩
  · rw [if_pos h1]
    show (if longD 2 d3 = true then none else some 2) = _
    rw [h2]
    rfl
  · rw [if_neg h1]
    show (if roundN 2 d3 = true then none else some 2) = _
    rw [h2]
    rfl
section
variable {P : Program} {w : World} {K : PySem.W.Frag} {mg : Str → Option Value} {base : Heap}
def lawLevel : Nat := 10
def spLaw (K : PySem.W.Frag) : Sp := fun vs H Q _ => ∃ (a : Addr) (ns : List Int), vs = [.ref a] ∧ SqL K H a (ns.map V.int) ∧ ns.length ≤ 63 ∧ ∀ H', Q (.bl true) H'
theorem ok_law (T : Tx K mg) : FnOk P w K mg base CX0 10 T.a_law T.d_law ["script"] (spLaw K) := by
  refine T.F_law.ok sc_law (fun vs H Q E h => ?_) (fun cdv A outer s H vs Q E hr h => ?_)
  · obtain ⟨a, ns, rfl, _⟩ := h
    rfl
  · obtain ⟨a, ns0, rfl, hS, hlen, q⟩ := h
    refine ⟨_, ((pss_cons (ps_set (i := 1) sc_law.nd rfl (.inl rfl) (pe_call (ok__law_tape T) (hr.mono (by decide)) (by rfl) T.g__law_tape T.F__law_tape.kp T.b__law_tape .nil pass0 (pa_cons (pv 0) pa_nil)))
  (pss_cons (ps_for PassesOwn.never rfl (pi_range1 (by rfl) T.m_range (pa_cons pe_int pa_nil)) (pg_name (i := 2) sc_law.nd rfl (.inl rfl))
   (pss_cons (ps_set (i := 3) sc_law.nd rfl (.inl rfl) (pe_op op_add pe_int (pe_call (ok__law_pick T) (hr.mono (by decide)) (by rfl) T.g__law_pick T.F__law_pick.kp T.b__law_pick .nil pass0 (pa_cons (pv 1) (pa_cons pe_int pa_nil)))))
  (pss_cons (ps_set (i := 4) sc_law.nd rfl (.inl rfl) (pe_ix ix_list (pe_lst (pa_cons (pe_op op_add pe_int (pe_call (ok__law_pick T) (hr.mono (by decide)) (by rfl) T.g__law_pick T.F__law_pick.kp T.b__law_pick .nil pass0 (pa_cons (pv 1) (pa_cons pe_int pa_nil)))) (pa_cons (pe_op op_add pe_int (pe_call (ok__law_pick T) (hr.mono (by decide)) (by rfl) T.g__law_pick T.F__law_pick.kp T.b__law_pick .nil pass0 (pa_cons (pv 1) (pa_cons pe_int pa_nil)))) (pa_cons pe_int pa_nil)))) (pe_call (ok__law_pick T) (hr.mono (by decide)) (by rfl) T.g__law_pick T.F__law_pick.kp T.b__law_pick .nil pass0 (pa_cons (pv 1) (pa_cons pe_int pa_nil))) (fun _ _ => rfl)))
  (pss_cons (ps_set (i := 5) sc_law.nd rfl (.inl rfl) (pe_call (ok__law_short T) (hr.mono (by decide)) (by rfl) T.g__law_short T.F__law_short.kp T.b__law_short .nil pass0 (pa_cons (pv 1) (pa_cons (pv 3) (pa_cons (pe_ix ix_list (pe_lst (pa_cons pe_int (pa_cons pe_int (pa_cons pe_int pa_nil)))) (pe_call (ok__law_pick T) (hr.mono (by decide)) (by rfl) T.g__law_pick T.F__law_pick.kp T.b__law_pick .nil pass0 (pa_cons (pv 1) (pa_cons pe_int pa_nil))) (fun _ _ => rfl)) pa_nil)))))
  (Evl.pss_cut (ps_if (pt_cmpR (op_eqD hr.units) (pv 5) (pe_tup pa_nil) (nomark _)) (pss_one (ps_set (i := 5) sc_law.nd rfl (.inl rfl) (pe_tup (pa_cons (pe_call (ok__law_pick T) (hr.mono (by decide)) (by rfl) T.g__law_pick T.F__law_pick.kp T.b__law_pick .nil pass0 (pa_cons (pv 1) (pa_cons (pe_op op_add (pv 3) pe_int) pa_nil))) pa_nil)))) pss_nil)
  (pss_one (ps_if (pt_not (pt_val (pe_call (ok__law_settles T) (hr.mono (by decide)) (by rfl) T.g__law_settles T.F__law_settles.kp T.b__law_settles .nil pass0 (pa_cons (pv 3) (pa_cons (pv 4) (pa_cons (pv 5) pa_nil)))))) (pss_one (ps_ret pe_bl)) pss_nil)))))))
  (pss_cons (ps_set (i := 6) sc_law.nd rfl (.inl rfl) (pe_call (ok__law_no_comers T) (hr.mono (by decide)) (by rfl) T.g__law_no_comers T.F__law_no_comers.kp T.b__law_no_comers .nil pass0 (pa_cons (pv 1) pa_nil)))
  (pss_cons (ps_set (i := 7) sc_law.nd rfl (.inl rfl) (pe_call (ok__law_no_bound T) (hr.mono (by decide)) (by rfl) T.g__law_no_bound T.F__law_no_bound.kp T.b__law_no_bound .nil pass0 (pa_cons (pv 1) pa_nil)))
  (pss_cons (ps_set (i := 8) sc_law.nd rfl (.inl rfl) (pe_ix ix_list (pe_lst (pa_cons pe_non (pa_cons (pe_lst (pa_cons pe_int pa_nil)) (pa_cons (pe_tup (pa_cons pe_int pa_nil)) (pa_cons (pe_tup (pa_cons (pe_un un_neg pe_int) pa_nil)) (pa_cons (pe_tup (pa_cons pe_bl pa_nil)) (pa_cons (pe_tup (pa_cons pe_int (pa_cons pe_non pa_nil))) (pa_cons pe_str (pa_cons pe_int (pa_cons (pe_op RN6.op_repN (pe_tup (pa_cons pe_int pa_nil)) pe_int) (pa_cons pe_dnewK (pa_cons (pe_tup pa_nil) pa_nil)))))))))))) (pe_call (ok__law_pick T) (hr.mono (by decide)) (by rfl) T.g__law_pick T.F__law_pick.kp T.b__law_pick .nil pass0 (pa_cons (pv 1) (pa_cons pe_int pa_nil))) (fun _ _ => rfl)))
  (pss_cons (ps_set (i := 9) sc_law.nd rfl (.inl rfl) (pe_lst (pa_cons pe_non (pa_cons (pe_lst (pa_cons (pe_tup (pa_cons (pe_tup (pa_cons pe_int pa_nil)) (pa_cons pe_int pa_nil))) pa_nil)) (pa_cons (pe_tup (pa_cons (pe_tup (pa_cons pe_int pa_nil)) (pa_cons pe_int pa_nil))) (pa_cons (pe_tup (pa_cons (pe_tup (pa_cons (pe_tup (pa_cons pe_int pa_nil)) (pa_cons (pe_un un_neg pe_int) pa_nil))) pa_nil)) (pa_cons (pe_tup (pa_cons (pe_tup (pa_cons (pe_tup (pa_cons pe_int pa_nil)) (pa_cons pe_bl pa_nil))) pa_nil)) (pa_cons (pe_tup (pa_cons (pe_tup (pa_cons (pe_tup (pa_cons pe_int pa_nil)) (pa_cons (pe_op op_add (pe_op op_pow pe_int pe_int) pe_int) pa_nil))) pa_nil)) (pa_cons (pe_tup (pa_cons (pe_tup (pa_cons (pe_tup (pa_cons pe_int pa_nil)) (pa_cons pe_int pa_nil))) pa_nil)) (pa_cons (pe_tup (pa_cons (pe_tup (pa_cons (pe_lst (pa_cons pe_int pa_nil)) (pa_cons pe_int pa_nil))) pa_nil)) pa_nil))))))))))
  (pss_cons (ps_set (i := 9) sc_law.nd rfl (.inl rfl) (pe_op op_cat (pv 9) (pe_lst (pa_cons (pe_tup (pa_cons (pe_tup (pa_cons (pe_tup (pa_cons pe_int pa_nil)) (pa_cons pe_int (pa_cons pe_int pa_nil)))) pa_nil)) (pa_cons (pe_tup (pa_cons (pe_tup (pa_cons (pe_op RN6.op_repN (pe_tup (pa_cons pe_int pa_nil)) pe_int) (pa_cons pe_int pa_nil))) pa_nil)) (pa_cons (pe_op RN6.op_repN (pe_tup (pa_cons (pe_tup (pa_cons (pe_tup (pa_cons pe_int pa_nil)) (pa_cons pe_int pa_nil))) pa_nil)) pe_int) (pa_cons (pe_tup (pa_cons (pe_tup (pa_cons (pe_tup (pa_cons pe_int pa_nil)) (pa_cons pe_non pa_nil))) pa_nil)) (pa_cons pe_int (pa_cons pe_str (pa_cons (pe_tup (pa_cons (pe_tup pa_nil) pa_nil)) pa_nil))))))))))
  (pss_cons (ps_set (i := 9) sc_law.nd rfl (.inl rfl) (pe_ix ix_list (pv 9) (pe_call (ok__law_pick T) (hr.mono (by decide)) (by rfl) T.g__law_pick T.F__law_pick.kp T.b__law_pick .nil pass0 (pa_cons (pv 1) (pa_cons pe_int pa_nil))) (fun _ _ => rfl)))
  (pss_cons (ps_for PassesOwn.never rfl (pi_range1 (by rfl) T.m_range (pa_cons pe_int pa_nil)) (pg_name (i := 10) sc_law.nd rfl (.inl rfl))
   (pss_cons (ps_set (i := 11) sc_law.nd rfl (.inl rfl) (pe_ix ix_list (pe_lst (pa_cons (pv 9) (pa_cons (pv 8) pa_nil))) (pe_callTy call_int1 (by rfl) T.m_int (by decide +kernel) (pa_cons (pe_cmpR op_gt (pv 10) pe_int (nomark _)) pa_nil)) (fun _ _ => rfl)))
  (pss_cons (ps_set (i := 12) sc_law.nd rfl (.inl rfl) (pe_ix ix_list (pe_lst (pa_cons (pe_op RN6.op_repN (pe_tup (pa_cons (pe_tup (pa_cons (pe_op RN6.op_repN (pe_tup (pa_cons pe_int pa_nil)) pe_int) (pa_cons (pe_op op_pow pe_int pe_int) pa_nil))) pa_nil)) pe_int) (pa_cons (pe_op RN6.op_repN (pe_tup (pa_cons pe_int pa_nil)) pe_int) pa_nil))) (pe_callTy call_int1 (by rfl) T.m_int (by decide +kernel) (pa_cons (pe_cmpR op_gt (pv 10) pe_int (nomark _)) pa_nil)) (fun _ _ => rfl)))
  (pss_cons (ps_if (PW.pt (pw_or (pt_cmpR op_ne (pe_call (ok__law_word T) (hr.mono (by decide)) (by rfl) T.g__law_word T.F__law_word.kp T.b__law_word .nil pass0 (pa_cons (pv 10) (pa_cons (pv 6) (pa_cons (pv 7) (pa_cons (pv 11) pa_nil))))) pe_str (nomark _)) (pw_or1 (pt_cmpR op_ne (pe_call (ok__law_word T) (hr.mono (by decide)) (by rfl) T.g__law_word T.F__law_word.kp T.b__law_word .nil pass0 (pa_cons (pv 10) (pa_cons pe_int (pa_cons (pv 7) (pa_cons (pv 11) pa_nil))))) pe_str (nomark _))))) (pss_one (ps_ret pe_bl)) pss_nil)
  (pss_one (ps_if (PW.pt (pw_or (pt_cmpR op_ne (pe_call (ok__law_word T) (hr.mono (by decide)) (by rfl) T.g__law_word T.F__law_word.kp T.b__law_word .nil pass0 (pa_cons (pv 10) (pa_cons pe_int (pa_cons pe_int (pa_cons (pv 11) pa_nil))))) pe_str (nomark _)) (pw_or1 (pt_cmpR op_ne (pe_call (ok__law_word T) (hr.mono (by decide)) (by rfl) T.g__law_word T.F__law_word.kp T.b__law_word .nil pass0 (pa_cons (pv 10) (pa_cons pe_int (pa_cons pe_int (pa_cons (pv 12) pa_nil))))) pe_str (nomark _))))) (pss_one (ps_ret pe_bl)) pss_nil))))))
  (pss_one (ps_ret pe_bl)))))))))))), ?_⟩
    refine ⟨.ref a, rfl, a, ns0, rfl, hS, fun t sc H1 nt ns' sm tp => ?_⟩
    refine ⟨3, rfl, by decide, by decide, for_range (lo := 0) (n := (3 : Int).toNat)
      (fun i σ H' => ∃ (y2 y3 y4 y5 : Option V), σ = [some (.ref a), some (.ref t), y2, y3, y4, y5, none, none, none, none, none, none, none] ∧ Tape H' t sc)
      ⟨_, _, _, _, rfl, tp⟩ (fun i σ H' hi h => ?_) (fun σ H' h => ?_)⟩
    · obtain ⟨y2, y3, y4, y5, rfl, tpa⟩ := h
      refine ⟨.ref t, rfl, t, sc, 3, rfl, ⟨by decide, by decide⟩, tpa, fun d H2 hd0 hd1 mv2 tp2 => ?_⟩
      refine ⟨2, d, rfl, rfl, ?_⟩
      obtain ⟨k, hk⟩ : ∃ k : Int, k = 2 + d := ⟨_, rfl⟩
      have k2 : 2 ≤ k := by omega
      have k4 : k ≤ 4 := by omega
      show gName 3 (V.int (2 + d)) _ _ _
      rw [← hk]
      refine ⟨.ref t, rfl, t, sc, 4, rfl, ⟨by decide, by decide⟩, tp2, fun p0 H3 hp0 hp1 mv3 tp3 => ?_⟩
      refine ⟨1, p0, rfl, rfl, .ref t, rfl, t, sc, 12, rfl, ⟨by decide, by decide⟩, tp3, fun p1 H4 hq0 hq1 mv4 tp4 => ?_⟩
      refine ⟨1, p1, rfl, rfl, by show 3 ≤ sizeLine; decide, fun G nG => ?_⟩
      have sG := same_upd (o := .lst ([1 + p0, 1 + p1, 60].map V.int)) nG
      refine ⟨.ref t, rfl, t, sc, 3, rfl, ⟨by decide, by decide⟩, tp4.keep sG, fun r H6 hr0 hr1 mv6 tp6 => ?_⟩
      have eG := mv6 G _ (tp4.ne nG) (upd_same (H := H4) (o := .lst ([1 + p0, 1 + p1, 60].map V.int)))
      obtain ⟨b, hb, b1, b60⟩ := of_ints2 (lo := 1) (M := 60) [1 + p0, 1 + p1, 60] (fun n hn => by
        simp only [List.mem_cons, List.not_mem_nil, or_false] at hn
        omega) (j := r.toNat) (by show r.toNat < 3; omega)
      refine ⟨G, _, _, .int b, rfl, rfl, SqL.of eG, atI_of hr0 hb, ?_⟩
      refine ⟨.ref t, rfl, .int k, rfl, by show 3 ≤ sizeLine; decide, fun G2 nG2 => ?_⟩
      have sG2 := same_upd (o := .lst ([5, 30, 60].map V.int)) nG2
      refine ⟨.ref t, rfl, t, sc, 3, rfl, ⟨by decide, by decide⟩, tp6.keep sG2, fun r2 H7 r20 r21 mv7 tp7 => ?_⟩
      have eG2 := mv7 G2 _ (tp6.ne nG2) (upd_same (H := H6) (o := .lst ([5, 30, 60].map V.int)))
      obtain ⟨mo, hmo, mo1, mo60⟩ := of_ints2 (lo := 5) (M := 60) [5, 30, 60] (fun n hn => by
        simp only [List.mem_cons, List.not_mem_nil, or_false] at hn
        omega) (j := r2.toNat) (by show r2.toNat < 3; omega)
      refine ⟨G2, _, _, .int mo, rfl, rfl, SqL.of eG2, atI_of r20 hmo, ?_⟩
      refine ⟨t, sc, k, mo, rfl, ⟨by omega, by omega⟩, ⟨by omega, by omega⟩, tp7, fun ca cs H8 zc hc nca fca mv8 tp8 eca => ?_⟩
      refine ⟨fun σ' H9 => ∃ (ca : Addr) (cs : List Int), σ' = [some (.ref a), some (.ref t), some (.int (0 + (i : Int))), some (.int k), some (.int b), some (.ref ca), none, none, none, none, none, none, none] ∧ SqT K H9 ca (cs.map V.int) ∧ Rt k cs ∧ 1 ≤ cs.length ∧ cs.length ≤ 60 ∧ Tape H9 t sc, ?_, fun σ' H9 hm => ?_⟩
      · refine ⟨.ref ca, rfl, Nat.zero_le _, fun u nu => ?_⟩
        have su := same_upd (o := .tup []) nu
        refine ⟨My.dI cs, My.dI [], dp_dI (sT su (SqT.of eca)), dp_dI (SqT.of upd_same), (Shp.dI _).ok (by decide), (Shp.dI _).ok (by decide), ?_⟩
        rw [eqvI]
        refine ⟨_, rfl, ite2 (fun c1 => ?_) (fun c1 => ?_)⟩
        · refine ⟨.ref t, rfl, .int k, rfl, _, _, rfl, rfl, t, sc, k + 1, rfl, ⟨by omega, by omega⟩, tp8.keep su, fun z H10 z0 z1 mv10 tp10 => ⟨by show 1 ≤ sizeLine; decide, fun u2 nu2 => ?_⟩⟩
          exact ⟨u2, [z], rfl, SqT.of upd_same, ⟨by show 1 ≤ 400; decide, fun c hc => by rw [List.mem_singleton.mp hc]; omega⟩, by show 1 ≤ 1; decide, by show 1 ≤ 60; decide, tp10.keep (same_upd nu2)⟩
        · have c1' : cs ≠ [] := fun z => c1 (decide_eq_true z)
          exact ⟨ca, cs, rfl, sT su (SqT.of eca), ⟨by omega, hc⟩, List.length_pos_iff.mpr c1', by omega, tp8.keep su⟩
      · obtain ⟨ca, cs, rfl, hT, g, h1, h60, tp9⟩ := hm
        refine ⟨.int k, rfl, .int b, rfl, .ref ca, rfl, ca, cs, k, b, rfl, hT, g, h1, h60, k2, k4, b1, b60, fun H10 s10 => ⟨true, rfl, iteF ?_⟩⟩
        exact ⟨_, _, _, _, rfl, tp9.keep s10⟩
    · obtain ⟨y2, y3, y4, y5, rfl, tpl⟩ := h
      refine ⟨.ref t, rfl, t, sc, rfl, tpl, fun vo do_ Ho hdo odo mvo tpo => ?_⟩
      refine ⟨.ref t, rfl, t, sc, rfl, tpo, fun vn dn Hn hdn odn mvn tpn => ?_⟩
      refine ⟨by show 1 ≤ sizeLine; decide, fun wp1 nwp1 => ?_⟩
      have ws1 : Same Hn (upd Hn wp1 (.lst [V.int 1])) := same_upd nwp1
      have we1 : upd Hn wp1 (.lst [V.int 1]) wp1 = some (.lst [V.int 1]) := upd_same
      generalize upd Hn wp1 (.lst [V.int 1]) = wH1 at *
      refine ⟨by show 1 ≤ sizeLine; decide, fun wp2 nwp2 => ?_⟩
      have ws2 : Same wH1 (upd wH1 wp2 (.tup [V.int 5])) := same_upd nwp2
      have we2 : upd wH1 wp2 (.tup [V.int 5]) wp2 = some (.tup [V.int 5]) := upd_same
      generalize upd wH1 wp2 (.tup [V.int 5]) = wH2 at *
      refine ⟨1, rfl, by show 1 ≤ sizeLine; decide, fun wp3 nwp3 => ?_⟩
      have ws3 : Same wH2 (upd wH2 wp3 (.tup [V.int (-1)])) := same_upd nwp3
      have we3 : upd wH2 wp3 (.tup [V.int (-1)]) wp3 = some (.tup [V.int (-1)]) := upd_same
      generalize upd wH2 wp3 (.tup [V.int (-1)]) = wH3 at *
      refine ⟨by show 1 ≤ sizeLine; decide, fun wp4 nwp4 => ?_⟩
      have ws4 : Same wH3 (upd wH3 wp4 (.tup [V.bl true])) := same_upd nwp4
      have we4 : upd wH3 wp4 (.tup [V.bl true]) wp4 = some (.tup [V.bl true]) := upd_same
      generalize upd wH3 wp4 (.tup [V.bl true]) = wH4 at *
      refine ⟨by show 2 ≤ sizeLine; decide, fun wp5 nwp5 => ?_⟩
      have ws5 : Same wH4 (upd wH4 wp5 (.tup [V.int 0, .non])) := same_upd nwp5
      have we5 : upd wH4 wp5 (.tup [V.int 0, .non]) wp5 = some (.tup [V.int 0, .non]) := upd_same
      generalize upd wH4 wp5 (.tup [V.int 0, .non]) = wH5 at *
      refine ⟨by show 1 ≤ sizeLine; decide, fun wp6 nwp6 => ?_⟩
      have ws6 : Same wH5 (upd wH5 wp6 (.tup [V.int 1])) := same_upd nwp6
      have we6 : upd wH5 wp6 (.tup [V.int 1]) wp6 = some (.tup [V.int 1]) := upd_same
      generalize upd wH5 wp6 (.tup [V.int 1]) = wH6 at *
      refine ⟨wp6, 61, _, rfl, rfl, SqT.of we6, by decide, by decide, by show 1 ≤ 1000; decide, fun wp7 wH7 ws7' wh7 => ?_⟩
      have ws7 : Same wH6 wH7 := ws7'
      refine fun wp8 nwp8 => ?_
      have ws8 : Same wH7 (upd wH7 wp8 (.dK [])) := same_upd nwp8
      have we8 : upd wH7 wp8 (.dK []) wp8 = some (.dK []) := upd_same
      generalize upd wH7 wp8 (.dK []) = wH8 at *
      refine ⟨by show 0 ≤ sizeLine; decide, fun wp9 nwp9 => ?_⟩
      have ws9 : Same wH8 (upd wH8 wp9 (.tup [])) := same_upd nwp9
      have we9 : upd wH8 wp9 (.tup []) wp9 = some (.tup []) := upd_same
      generalize upd wH8 wp9 (.tup []) = wH9 at *
      refine ⟨by show 11 ≤ sizeLine; decide, fun wp10 nwp10 => ?_⟩
      have ws10 : Same wH9 (upd wH9 wp10 (.lst [V.non, .ref wp1, .ref wp2, .ref wp3, .ref wp4, .ref wp5, .str "11", .int 5, .ref wp7, .ref wp8, .ref wp9])) := same_upd nwp10
      have we10 : upd wH9 wp10 (.lst [V.non, .ref wp1, .ref wp2, .ref wp3, .ref wp4, .ref wp5, .str "11", .int 5, .ref wp7, .ref wp8, .ref wp9]) wp10 = some (.lst [V.non, .ref wp1, .ref wp2, .ref wp3, .ref wp4, .ref wp5, .str "11", .int 5, .ref wp7, .ref wp8, .ref wp9]) := upd_same
      generalize upd wH9 wp10 (.lst [V.non, .ref wp1, .ref wp2, .ref wp3, .ref wp4, .ref wp5, .str "11", .int 5, .ref wp7, .ref wp8, .ref wp9]) = wH10 at *
      have wc10 : Same wH10 wH10 := Same.refl _
      have wc9 := ws10.trans wc10
      have wc8 := ws9.trans wc9
      have wc7 := ws8.trans wc8
      have wc6 := ws7.trans wc7
      have wc5 := ws6.trans wc6
      have wc4 := ws5.trans wc5
      have wc3 := ws4.trans wc4
      have wc2 := ws3.trans wc3
      have wc1 := ws2.trans wc2
      have wc0 := ws1.trans wc1
      have wb1 : Hn wp1 = none := nwp1
      have wd1 : Same Hn wH1 := ws1
      have wb2 : Hn wp2 = none := none_back wd1 nwp2
      have wd2 : Same Hn wH2 := wd1.trans ws2
      have wb3 : Hn wp3 = none := none_back wd2 nwp3
      have wd3 : Same Hn wH3 := wd2.trans ws3
      have wb4 : Hn wp4 = none := none_back wd3 nwp4
      have wd4 : Same Hn wH4 := wd3.trans ws4
      have wb5 : Hn wp5 = none := none_back wd4 nwp5
      have wd5 : Same Hn wH5 := wd4.trans ws5
      have wb6 : Hn wp6 = none := none_back wd5 nwp6
      have wd6 : Same Hn wH6 := wd5.trans ws6
      have wd7 : Same Hn wH7 := wd6.trans ws7
      have wb8 : Hn wp8 = none := none_back wd7 nwp8
      have wd8 : Same Hn wH8 := wd7.trans ws8
      have wb9 : Hn wp9 = none := none_back wd8 nwp9
      have wd9 : Same Hn wH9 := wd8.trans ws9
      have wb10 : Hn wp10 = none := none_back wd9 nwp10
      have wd10 : Same Hn wH10 := wd9.trans ws10
      have tpW := tpn.keep wc0
      refine ⟨.ref t, rfl, t, sc, 11, rfl, ⟨by decide, by decide⟩, tpW, fun rw_ Hw rw0 rw1 mvw tpw => ?_⟩
      have wE1 := mvw _ _ (tpn.ne wb1) (wc1 _ _ we1)
      have wE2 := mvw _ _ (tpn.ne wb2) (wc2 _ _ we2)
      have wE3 := mvw _ _ (tpn.ne wb3) (wc3 _ _ we3)
      have wE4 := mvw _ _ (tpn.ne wb4) (wc4 _ _ we4)
      have wE5 := mvw _ _ (tpn.ne wb5) (wc5 _ _ we5)
      have wE6 := mvw _ _ (tpn.ne wb6) (wc6 _ _ we6)
      have wE7 := sT_nl (sT wc7 wh7) (Nl.moved tpW mvw)
      have wE8 := mvw _ _ (tpn.ne wb8) (wc8 _ _ we8)
      have wE9 := mvw _ _ (tpn.ne wb9) (wc9 _ _ we9)
      have wE10 := mvw _ _ (tpn.ne wb10) (wc10 _ _ we10)
      obtain ⟨vw, dw, hvw, hdw, odw⟩ : ∃ v d, ([V.non, .ref wp1, .ref wp2, .ref wp3, .ref wp4, .ref wp5, .str "11", .int 5, .ref wp7, .ref wp8, .ref wp9])[rw_.toNat]? = some v ∧ d ∈ wrD ∧ ∀ H'', Nl Hw H'' → NewStays Hn Hw H'' → Od K H'' v d := by
        have z : rw_ = 0 ∨ rw_ = 1 ∨ rw_ = 2 ∨ rw_ = 3 ∨ rw_ = 4 ∨ rw_ = 5 ∨ rw_ = 6 ∨ rw_ = 7 ∨ rw_ = 8 ∨ rw_ = 9 ∨ rw_ = 10 := by omega
        rcases z with rfl | rfl | rfl | rfl | rfl | rfl | rfl | rfl | rfl | rfl | rfl
        · exact ⟨_, .none, rfl, by simp [wrD], fun _ nl ns => .non⟩
        · exact ⟨_, .list [.int 1], rfl, by simp [wrD], fun _ nl ns => .lst (ns _ _ wb1 wE1) (.cons (.int _) .nil)⟩
        · exact ⟨_, .tuple [.int 5], rfl, by simp [wrD], fun _ nl ns => .tup (SqT.of (ns _ _ wb2 wE2)) (.cons (.int _) .nil)⟩
        · exact ⟨_, .tuple [.int (-1)], rfl, by simp [wrD], fun _ nl ns => .tup (SqT.of (ns _ _ wb3 wE3)) (.cons (.int _) .nil)⟩
        · exact ⟨_, .tuple [.bool true], rfl, by simp [wrD], fun _ nl ns => .tup (SqT.of (ns _ _ wb4 wE4)) (.cons (.bl _) .nil)⟩
        · exact ⟨_, .tuple [.int 0, .none], rfl, by simp [wrD], fun _ nl ns => .tup (SqT.of (ns _ _ wb5 wE5)) (.cons (.int _) (.cons (.non) .nil))⟩
        · exact ⟨_, .str "11", rfl, by simp [wrD], fun _ nl ns => .str _⟩
        · exact ⟨_, .int 5, rfl, by simp [wrD], fun _ nl ns => .int _⟩
        · exact ⟨_, .tuple (List.replicate 61 (.int 1)), rfl, by simp [wrD], fun _ nl ns => .tup (sT_nl wE7 nl) (rep_od (.int _) 61)⟩
        · exact ⟨_, .dict [], rfl, by simp [wrD], fun _ nl ns => .dct (ns _ _ wb8 wE8) .nil⟩
        · exact ⟨_, .tuple [], rfl, by simp [wrD], fun _ nl ns => .tup (SqT.of (ns _ _ wb9 wE9)) .nil⟩
      refine ⟨wp10, _, rw_, vw, rfl, rfl, SqL.of wE10, atI_of rw0 hvw, ?_⟩
      refine ⟨by show 1 ≤ sizeLine; decide, fun lp1 nlp1 => ?_⟩
      have ls1 : Same Hw (upd Hw lp1 (.tup [V.int 1])) := same_upd nlp1
      have le1 : upd Hw lp1 (.tup [V.int 1]) lp1 = some (.tup [V.int 1]) := upd_same
      generalize upd Hw lp1 (.tup [V.int 1]) = lH1 at *
      refine ⟨by show 2 ≤ sizeLine; decide, fun lp2 nlp2 => ?_⟩
      have ls2 : Same lH1 (upd lH1 lp2 (.tup [V.ref lp1, .int 1])) := same_upd nlp2
      have le2 : upd lH1 lp2 (.tup [V.ref lp1, .int 1]) lp2 = some (.tup [V.ref lp1, .int 1]) := upd_same
      generalize upd lH1 lp2 (.tup [V.ref lp1, .int 1]) = lH2 at *
      refine ⟨by show 1 ≤ sizeLine; decide, fun lp3 nlp3 => ?_⟩
      have ls3 : Same lH2 (upd lH2 lp3 (.lst [V.ref lp2])) := same_upd nlp3
      have le3 : upd lH2 lp3 (.lst [V.ref lp2]) lp3 = some (.lst [V.ref lp2]) := upd_same
      generalize upd lH2 lp3 (.lst [V.ref lp2]) = lH3 at *
      refine ⟨by show 1 ≤ sizeLine; decide, fun lp4 nlp4 => ?_⟩
      have ls4 : Same lH3 (upd lH3 lp4 (.tup [V.int 1])) := same_upd nlp4
      have le4 : upd lH3 lp4 (.tup [V.int 1]) lp4 = some (.tup [V.int 1]) := upd_same
      generalize upd lH3 lp4 (.tup [V.int 1]) = lH4 at *
      refine ⟨by show 2 ≤ sizeLine; decide, fun lp5 nlp5 => ?_⟩
      have ls5 : Same lH4 (upd lH4 lp5 (.tup [V.ref lp4, .int 1])) := same_upd nlp5
      have le5 : upd lH4 lp5 (.tup [V.ref lp4, .int 1]) lp5 = some (.tup [V.ref lp4, .int 1]) := upd_same
      generalize upd lH4 lp5 (.tup [V.ref lp4, .int 1]) = lH5 at *
      refine ⟨by show 1 ≤ sizeLine; decide, fun lp6 nlp6 => ?_⟩
      have ls6 : Same lH5 (upd lH5 lp6 (.tup [V.int 1])) := same_upd nlp6
      have le6 : upd lH5 lp6 (.tup [V.int 1]) lp6 = some (.tup [V.int 1]) := upd_same
      generalize upd lH5 lp6 (.tup [V.int 1]) = lH6 at *
      refine ⟨1, rfl, by show 2 ≤ sizeLine; decide, fun lp7 nlp7 => ?_⟩
      have ls7 : Same lH6 (upd lH6 lp7 (.tup [V.ref lp6, .int (-1)])) := same_upd nlp7
      have le7 : upd lH6 lp7 (.tup [V.ref lp6, .int (-1)]) lp7 = some (.tup [V.ref lp6, .int (-1)]) := upd_same
      generalize upd lH6 lp7 (.tup [V.ref lp6, .int (-1)]) = lH7 at *
      refine ⟨by show 1 ≤ sizeLine; decide, fun lp8 nlp8 => ?_⟩
      have ls8 : Same lH7 (upd lH7 lp8 (.tup [V.ref lp7])) := same_upd nlp8
      have le8 : upd lH7 lp8 (.tup [V.ref lp7]) lp8 = some (.tup [V.ref lp7]) := upd_same
      generalize upd lH7 lp8 (.tup [V.ref lp7]) = lH8 at *
      refine ⟨by show 1 ≤ sizeLine; decide, fun lp9 nlp9 => ?_⟩
      have ls9 : Same lH8 (upd lH8 lp9 (.tup [V.int 1])) := same_upd nlp9
      have le9 : upd lH8 lp9 (.tup [V.int 1]) lp9 = some (.tup [V.int 1]) := upd_same
      generalize upd lH8 lp9 (.tup [V.int 1]) = lH9 at *
      refine ⟨by show 2 ≤ sizeLine; decide, fun lp10 nlp10 => ?_⟩
      have ls10 : Same lH9 (upd lH9 lp10 (.tup [V.ref lp9, .bl true])) := same_upd nlp10
      have le10 : upd lH9 lp10 (.tup [V.ref lp9, .bl true]) lp10 = some (.tup [V.ref lp9, .bl true]) := upd_same
      generalize upd lH9 lp10 (.tup [V.ref lp9, .bl true]) = lH10 at *
      refine ⟨by show 1 ≤ sizeLine; decide, fun lp11 nlp11 => ?_⟩
      have ls11 : Same lH10 (upd lH10 lp11 (.tup [V.ref lp10])) := same_upd nlp11
      have le11 : upd lH10 lp11 (.tup [V.ref lp10]) lp11 = some (.tup [V.ref lp10]) := upd_same
      generalize upd lH10 lp11 (.tup [V.ref lp10]) = lH11 at *
      refine ⟨by show 1 ≤ sizeLine; decide, fun lp12 nlp12 => ?_⟩
      have ls12 : Same lH11 (upd lH11 lp12 (.tup [V.int 1])) := same_upd nlp12
      have le12 : upd lH11 lp12 (.tup [V.int 1]) lp12 = some (.tup [V.int 1]) := upd_same
      generalize upd lH11 lp12 (.tup [V.int 1]) = lH12 at *
      refine ⟨10, 30, rfl, rfl, ⟨by decide, by decide, by decide⟩, _, _, rfl, rfl, by show 2 ≤ sizeLine; decide, fun lp13 nlp13 => ?_⟩
      have ls13 : Same lH12 (upd lH12 lp13 (.tup [V.ref lp12, .int (10 ^ Int.toNat 30 + 1)])) := same_upd nlp13
      have le13 : upd lH12 lp13 (.tup [V.ref lp12, .int (10 ^ Int.toNat 30 + 1)]) lp13 = some (.tup [V.ref lp12, .int (10 ^ Int.toNat 30 + 1)]) := upd_same
      generalize upd lH12 lp13 (.tup [V.ref lp12, .int (10 ^ Int.toNat 30 + 1)]) = lH13 at *
      refine ⟨by show 1 ≤ sizeLine; decide, fun lp14 nlp14 => ?_⟩
      have ls14 : Same lH13 (upd lH13 lp14 (.tup [V.ref lp13])) := same_upd nlp14
      have le14 : upd lH13 lp14 (.tup [V.ref lp13]) lp14 = some (.tup [V.ref lp13]) := upd_same
      generalize upd lH13 lp14 (.tup [V.ref lp13]) = lH14 at *
      refine ⟨by show 1 ≤ sizeLine; decide, fun lp15 nlp15 => ?_⟩
      have ls15 : Same lH14 (upd lH14 lp15 (.tup [V.int 5])) := same_upd nlp15
      have le15 : upd lH14 lp15 (.tup [V.int 5]) lp15 = some (.tup [V.int 5]) := upd_same
      generalize upd lH14 lp15 (.tup [V.int 5]) = lH15 at *
      refine ⟨by show 2 ≤ sizeLine; decide, fun lp16 nlp16 => ?_⟩
      have ls16 : Same lH15 (upd lH15 lp16 (.tup [V.ref lp15, .int 1])) := same_upd nlp16
      have le16 : upd lH15 lp16 (.tup [V.ref lp15, .int 1]) lp16 = some (.tup [V.ref lp15, .int 1]) := upd_same
      generalize upd lH15 lp16 (.tup [V.ref lp15, .int 1]) = lH16 at *
      refine ⟨by show 1 ≤ sizeLine; decide, fun lp17 nlp17 => ?_⟩
      have ls17 : Same lH16 (upd lH16 lp17 (.tup [V.ref lp16])) := same_upd nlp17
      have le17 : upd lH16 lp17 (.tup [V.ref lp16]) lp17 = some (.tup [V.ref lp16]) := upd_same
      generalize upd lH16 lp17 (.tup [V.ref lp16]) = lH17 at *
      refine ⟨by show 1 ≤ sizeLine; decide, fun lp18 nlp18 => ?_⟩
      have ls18 : Same lH17 (upd lH17 lp18 (.lst [V.int 1])) := same_upd nlp18
      have le18 : upd lH17 lp18 (.lst [V.int 1]) lp18 = some (.lst [V.int 1]) := upd_same
      generalize upd lH17 lp18 (.lst [V.int 1]) = lH18 at *
      refine ⟨by show 2 ≤ sizeLine; decide, fun lp19 nlp19 => ?_⟩
      have ls19 : Same lH18 (upd lH18 lp19 (.tup [V.ref lp18, .int 1])) := same_upd nlp19
      have le19 : upd lH18 lp19 (.tup [V.ref lp18, .int 1]) lp19 = some (.tup [V.ref lp18, .int 1]) := upd_same
      generalize upd lH18 lp19 (.tup [V.ref lp18, .int 1]) = lH19 at *
      refine ⟨by show 1 ≤ sizeLine; decide, fun lp20 nlp20 => ?_⟩
      have ls20 : Same lH19 (upd lH19 lp20 (.tup [V.ref lp19])) := same_upd nlp20
      have le20 : upd lH19 lp20 (.tup [V.ref lp19]) lp20 = some (.tup [V.ref lp19]) := upd_same
      generalize upd lH19 lp20 (.tup [V.ref lp19]) = lH20 at *
      refine ⟨by show 8 ≤ sizeLine; decide, fun lp21 nlp21 => ?_⟩
      have ls21 : Same lH20 (upd lH20 lp21 (.lst [V.non, .ref lp3, .ref lp5, .ref lp8, .ref lp11, .ref lp14, .ref lp17, .ref lp20])) := same_upd nlp21
      have le21 : upd lH20 lp21 (.lst [V.non, .ref lp3, .ref lp5, .ref lp8, .ref lp11, .ref lp14, .ref lp17, .ref lp20]) lp21 = some (.lst [V.non, .ref lp3, .ref lp5, .ref lp8, .ref lp11, .ref lp14, .ref lp17, .ref lp20]) := upd_same
      generalize upd lH20 lp21 (.lst [V.non, .ref lp3, .ref lp5, .ref lp8, .ref lp11, .ref lp14, .ref lp17, .ref lp20]) = lH21 at *
      refine ⟨.ref lp21, rfl, by show 1 ≤ sizeLine; decide, fun lp22 nlp22 => ?_⟩
      have ls22 : Same lH21 (upd lH21 lp22 (.tup [V.int 1])) := same_upd nlp22
      have le22 : upd lH21 lp22 (.tup [V.int 1]) lp22 = some (.tup [V.int 1]) := upd_same
      generalize upd lH21 lp22 (.tup [V.int 1]) = lH22 at *
      refine ⟨by show 3 ≤ sizeLine; decide, fun lp23 nlp23 => ?_⟩
      have ls23 : Same lH22 (upd lH22 lp23 (.tup [V.ref lp22, .int 1, .int 0])) := same_upd nlp23
      have le23 : upd lH22 lp23 (.tup [V.ref lp22, .int 1, .int 0]) lp23 = some (.tup [V.ref lp22, .int 1, .int 0]) := upd_same
      generalize upd lH22 lp23 (.tup [V.ref lp22, .int 1, .int 0]) = lH23 at *
      refine ⟨by show 1 ≤ sizeLine; decide, fun lp24 nlp24 => ?_⟩
      have ls24 : Same lH23 (upd lH23 lp24 (.tup [V.ref lp23])) := same_upd nlp24
      have le24 : upd lH23 lp24 (.tup [V.ref lp23]) lp24 = some (.tup [V.ref lp23]) := upd_same
      generalize upd lH23 lp24 (.tup [V.ref lp23]) = lH24 at *
      refine ⟨by show 1 ≤ sizeLine; decide, fun lp25 nlp25 => ?_⟩
      have ls25 : Same lH24 (upd lH24 lp25 (.tup [V.int 1])) := same_upd nlp25
      have le25 : upd lH24 lp25 (.tup [V.int 1]) lp25 = some (.tup [V.int 1]) := upd_same
      generalize upd lH24 lp25 (.tup [V.int 1]) = lH25 at *
      refine ⟨lp25, 61, _, rfl, rfl, SqT.of le25, by decide, by decide, by show 1 ≤ 1000; decide, fun lp26 lH26 ls26' lh26 => ?_⟩
      have ls26 : Same lH25 lH26 := ls26'
      refine ⟨by show 2 ≤ sizeLine; decide, fun lp27 nlp27 => ?_⟩
      have ls27 : Same lH26 (upd lH26 lp27 (.tup [V.ref lp26, .int 1])) := same_upd nlp27
      have le27 : upd lH26 lp27 (.tup [V.ref lp26, .int 1]) lp27 = some (.tup [V.ref lp26, .int 1]) := upd_same
      generalize upd lH26 lp27 (.tup [V.ref lp26, .int 1]) = lH27 at *
      refine ⟨by show 1 ≤ sizeLine; decide, fun lp28 nlp28 => ?_⟩
      have ls28 : Same lH27 (upd lH27 lp28 (.tup [V.ref lp27])) := same_upd nlp28
      have le28 : upd lH27 lp28 (.tup [V.ref lp27]) lp28 = some (.tup [V.ref lp27]) := upd_same
      generalize upd lH27 lp28 (.tup [V.ref lp27]) = lH28 at *
      refine ⟨by show 1 ≤ sizeLine; decide, fun lp29 nlp29 => ?_⟩
      have ls29 : Same lH28 (upd lH28 lp29 (.tup [V.int 1])) := same_upd nlp29
      have le29 : upd lH28 lp29 (.tup [V.int 1]) lp29 = some (.tup [V.int 1]) := upd_same
      generalize upd lH28 lp29 (.tup [V.int 1]) = lH29 at *
      refine ⟨by show 2 ≤ sizeLine; decide, fun lp30 nlp30 => ?_⟩
      have ls30 : Same lH29 (upd lH29 lp30 (.tup [V.ref lp29, .int 1])) := same_upd nlp30
      have le30 : upd lH29 lp30 (.tup [V.ref lp29, .int 1]) lp30 = some (.tup [V.ref lp29, .int 1]) := upd_same
      generalize upd lH29 lp30 (.tup [V.ref lp29, .int 1]) = lH30 at *
      refine ⟨by show 1 ≤ sizeLine; decide, fun lp31 nlp31 => ?_⟩
      have ls31 : Same lH30 (upd lH30 lp31 (.tup [V.ref lp30])) := same_upd nlp31
      have le31 : upd lH30 lp31 (.tup [V.ref lp30]) lp31 = some (.tup [V.ref lp30]) := upd_same
      generalize upd lH30 lp31 (.tup [V.ref lp30]) = lH31 at *
      refine ⟨lp31, 21, _, rfl, rfl, SqT.of le31, by decide, by decide, by show 1 ≤ 1000; decide, fun lp32 lH32 ls32' lh32 => ?_⟩
      have ls32 : Same lH31 lH32 := ls32'
      refine ⟨by show 1 ≤ sizeLine; decide, fun lp33 nlp33 => ?_⟩
      have ls33 : Same lH32 (upd lH32 lp33 (.tup [V.int 1])) := same_upd nlp33
      have le33 : upd lH32 lp33 (.tup [V.int 1]) lp33 = some (.tup [V.int 1]) := upd_same
      generalize upd lH32 lp33 (.tup [V.int 1]) = lH33 at *
      refine ⟨by show 2 ≤ sizeLine; decide, fun lp34 nlp34 => ?_⟩
      have ls34 : Same lH33 (upd lH33 lp34 (.tup [V.ref lp33, .non])) := same_upd nlp34
      have le34 : upd lH33 lp34 (.tup [V.ref lp33, .non]) lp34 = some (.tup [V.ref lp33, .non]) := upd_same
      generalize upd lH33 lp34 (.tup [V.ref lp33, .non]) = lH34 at *
      refine ⟨by show 1 ≤ sizeLine; decide, fun lp35 nlp35 => ?_⟩
      have ls35 : Same lH34 (upd lH34 lp35 (.tup [V.ref lp34])) := same_upd nlp35
      have le35 : upd lH34 lp35 (.tup [V.ref lp34]) lp35 = some (.tup [V.ref lp34]) := upd_same
      generalize upd lH34 lp35 (.tup [V.ref lp34]) = lH35 at *
      refine ⟨by show 0 ≤ sizeLine; decide, fun lp36 nlp36 => ?_⟩
      have ls36 : Same lH35 (upd lH35 lp36 (.tup [])) := same_upd nlp36
      have le36 : upd lH35 lp36 (.tup []) lp36 = some (.tup []) := upd_same
      generalize upd lH35 lp36 (.tup []) = lH36 at *
      refine ⟨by show 1 ≤ sizeLine; decide, fun lp37 nlp37 => ?_⟩
      have ls37 : Same lH36 (upd lH36 lp37 (.tup [V.ref lp36])) := same_upd nlp37
      have le37 : upd lH36 lp37 (.tup [V.ref lp36]) lp37 = some (.tup [V.ref lp36]) := upd_same
      generalize upd lH36 lp37 (.tup [V.ref lp36]) = lH37 at *
      refine ⟨by show 7 ≤ sizeLine; decide, fun lp38 nlp38 => ?_⟩
      have ls38 : Same lH37 (upd lH37 lp38 (.lst [V.ref lp24, .ref lp28, .ref lp32, .ref lp35, .int 5, .str "1", .ref lp37])) := same_upd nlp38
      have le38 : upd lH37 lp38 (.lst [V.ref lp24, .ref lp28, .ref lp32, .ref lp35, .int 5, .str "1", .ref lp37]) lp38 = some (.lst [V.ref lp24, .ref lp28, .ref lp32, .ref lp35, .int 5, .str "1", .ref lp37]) := upd_same
      generalize upd lH37 lp38 (.lst [V.ref lp24, .ref lp28, .ref lp32, .ref lp35, .int 5, .str "1", .ref lp37]) = lH38 at *
      have lc38 : Same lH38 lH38 := Same.refl _
      have lc37 := ls38.trans lc38
      have lc36 := ls37.trans lc37
      have lc35 := ls36.trans lc36
      have lc34 := ls35.trans lc35
      have lc33 := ls34.trans lc34
      have lc32 := ls33.trans lc33
      have lc31 := ls32.trans lc32
      have lc30 := ls31.trans lc31
      have lc29 := ls30.trans lc30
      have lc28 := ls29.trans lc29
      have lc27 := ls28.trans lc28
      have lc26 := ls27.trans lc27
      have lc25 := ls26.trans lc26
      have lc24 := ls25.trans lc25
      have lc23 := ls24.trans lc24
      have lc22 := ls23.trans lc23
      have lc21 := ls22.trans lc22
      have lc20 := ls21.trans lc21
      have lc19 := ls20.trans lc20
      have lc18 := ls19.trans lc19
      have lc17 := ls18.trans lc18
      have lc16 := ls17.trans lc17
      have lc15 := ls16.trans lc16
      have lc14 := ls15.trans lc15
      have lc13 := ls14.trans lc14
      have lc12 := ls13.trans lc13
      have lc11 := ls12.trans lc12
      have lc10 := ls11.trans lc11
      have lc9 := ls10.trans lc10
      have lc8 := ls9.trans lc9
      have lc7 := ls8.trans lc8
      have lc6 := ls7.trans lc7
      have lc5 := ls6.trans lc6
      have lc4 := ls5.trans lc5
      have lc3 := ls4.trans lc4
      have lc2 := ls3.trans lc3
      have lc1 := ls2.trans lc2
      have lc0 := ls1.trans lc1
      have lb1 : Hw lp1 = none := nlp1
      have ld1 : Same Hw lH1 := ls1
      have lb2 : Hw lp2 = none := none_back ld1 nlp2
      have ld2 : Same Hw lH2 := ld1.trans ls2
      have lb3 : Hw lp3 = none := none_back ld2 nlp3
      have ld3 : Same Hw lH3 := ld2.trans ls3
      have lb4 : Hw lp4 = none := none_back ld3 nlp4
      have ld4 : Same Hw lH4 := ld3.trans ls4
      have lb5 : Hw lp5 = none := none_back ld4 nlp5
      have ld5 : Same Hw lH5 := ld4.trans ls5
      have lb6 : Hw lp6 = none := none_back ld5 nlp6
      have ld6 : Same Hw lH6 := ld5.trans ls6
      have lb7 : Hw lp7 = none := none_back ld6 nlp7
      have ld7 : Same Hw lH7 := ld6.trans ls7
      have lb8 : Hw lp8 = none := none_back ld7 nlp8
      have ld8 : Same Hw lH8 := ld7.trans ls8
      have lb9 : Hw lp9 = none := none_back ld8 nlp9
      have ld9 : Same Hw lH9 := ld8.trans ls9
      have lb10 : Hw lp10 = none := none_back ld9 nlp10
      have ld10 : Same Hw lH10 := ld9.trans ls10
      have lb11 : Hw lp11 = none := none_back ld10 nlp11
      have ld11 : Same Hw lH11 := ld10.trans ls11
      have lb12 : Hw lp12 = none := none_back ld11 nlp12
      have ld12 : Same Hw lH12 := ld11.trans ls12
      have lb13 : Hw lp13 = none := none_back ld12 nlp13
      have ld13 : Same Hw lH13 := ld12.trans ls13
      have lb14 : Hw lp14 = none := none_back ld13 nlp14
      have ld14 : Same Hw lH14 := ld13.trans ls14
      have lb15 : Hw lp15 = none := none_back ld14 nlp15
      have ld15 : Same Hw lH15 := ld14.trans ls15
      have lb16 : Hw lp16 = none := none_back ld15 nlp16
      have ld16 : Same Hw lH16 := ld15.trans ls16
      have lb17 : Hw lp17 = none := none_back ld16 nlp17
      have ld17 : Same Hw lH17 := ld16.trans ls17
      have lb18 : Hw lp18 = none := none_back ld17 nlp18
      have ld18 : Same Hw lH18 := ld17.trans ls18
      have lb19 : Hw lp19 = none := none_back ld18 nlp19
      have ld19 : Same Hw lH19 := ld18.trans ls19
      have lb20 : Hw lp20 = none := none_back ld19 nlp20
      have ld20 : Same Hw lH20 := ld19.trans ls20
      have lb21 : Hw lp21 = none := none_back ld20 nlp21
      have ld21 : Same Hw lH21 := ld20.trans ls21
      have lb22 : Hw lp22 = none := none_back ld21 nlp22
      have ld22 : Same Hw lH22 := ld21.trans ls22
      have lb23 : Hw lp23 = none := none_back ld22 nlp23
      have ld23 : Same Hw lH23 := ld22.trans ls23
      have lb24 : Hw lp24 = none := none_back ld23 nlp24
      have ld24 : Same Hw lH24 := ld23.trans ls24
      have lb25 : Hw lp25 = none := none_back ld24 nlp25
      have ld25 : Same Hw lH25 := ld24.trans ls25
      have ld26 : Same Hw lH26 := ld25.trans ls26
      have lb27 : Hw lp27 = none := none_back ld26 nlp27
      have ld27 : Same Hw lH27 := ld26.trans ls27
      have lb28 : Hw lp28 = none := none_back ld27 nlp28
      have ld28 : Same Hw lH28 := ld27.trans ls28
      have lb29 : Hw lp29 = none := none_back ld28 nlp29
      have ld29 : Same Hw lH29 := ld28.trans ls29
      have lb30 : Hw lp30 = none := none_back ld29 nlp30
      have ld30 : Same Hw lH30 := ld29.trans ls30
      have lb31 : Hw lp31 = none := none_back ld30 nlp31
      have ld31 : Same Hw lH31 := ld30.trans ls31
      have ld32 : Same Hw lH32 := ld31.trans ls32
      have lb33 : Hw lp33 = none := none_back ld32 nlp33
      have ld33 : Same Hw lH33 := ld32.trans ls33
      have lb34 : Hw lp34 = none := none_back ld33 nlp34
      have ld34 : Same Hw lH34 := ld33.trans ls34
      have lb35 : Hw lp35 = none := none_back ld34 nlp35
      have ld35 : Same Hw lH35 := ld34.trans ls35
      have lb36 : Hw lp36 = none := none_back ld35 nlp36
      have ld36 : Same Hw lH36 := ld35.trans ls36
      have lb37 : Hw lp37 = none := none_back ld36 nlp37
      have ld37 : Same Hw lH37 := ld36.trans ls37
      have lb38 : Hw lp38 = none := none_back ld37 nlp38
      have ld38 : Same Hw lH38 := ld37.trans ls38
      refine ⟨lp21, lp38, _, _, rfl, rfl, lc21 _ _ le21, le38, by show 8 + 7 ≤ sizeLine; decide, fun L nL => ?_⟩
      have sL := same_upd (o := .lst ([V.non, .ref lp3, .ref lp5, .ref lp8, .ref lp11, .ref lp14, .ref lp17, .ref lp20] ++ [V.ref lp24, .ref lp28, .ref lp32, .ref lp35, .int 5, .str "1", .ref lp37])) nL
      have eL : upd lH38 L (.lst ([V.non, .ref lp3, .ref lp5, .ref lp8, .ref lp11, .ref lp14, .ref lp17, .ref lp20] ++ [V.ref lp24, .ref lp28, .ref lp32, .ref lp35, .int 5, .str "1", .ref lp37])) L = some (.lst ([V.non, .ref lp3, .ref lp5, .ref lp8, .ref lp11, .ref lp14, .ref lp17, .ref lp20] ++ [V.ref lp24, .ref lp28, .ref lp32, .ref lp35, .int 5, .str "1", .ref lp37])) := upd_same
      show gName 9 _ _ (upd lH38 L (.lst ([V.non, .ref lp3, .ref lp5, .ref lp8, .ref lp11, .ref lp14, .ref lp17, .ref lp20] ++ [V.ref lp24, .ref lp28, .ref lp32, .ref lp35, .int 5, .str "1", .ref lp37]))) _
      generalize upd lH38 L (.lst ([V.non, .ref lp3, .ref lp5, .ref lp8, .ref lp11, .ref lp14, .ref lp17, .ref lp20] ++ [V.ref lp24, .ref lp28, .ref lp32, .ref lp35, .int 5, .str "1", .ref lp37])) = HL at *
      have nL0 : Hw L = none := none_back lc0 nL
      have tpL := (tpw.keep lc0).keep sL
      refine ⟨.ref L, rfl, .ref t, rfl, t, sc, 15, rfl, ⟨by decide, by decide⟩, tpL, fun rl_ Hl rl0 rl1 mvl tpe => ?_⟩
      have mvl2 : Moved t lH38 Hl := (Moved.same sL).trans mvl
      have lE1 := mvl2 _ _ (tpw.ne lb1) (lc1 _ _ le1)
      have lE2 := mvl2 _ _ (tpw.ne lb2) (lc2 _ _ le2)
      have lE3 := mvl2 _ _ (tpw.ne lb3) (lc3 _ _ le3)
      have lE4 := mvl2 _ _ (tpw.ne lb4) (lc4 _ _ le4)
      have lE5 := mvl2 _ _ (tpw.ne lb5) (lc5 _ _ le5)
      have lE6 := mvl2 _ _ (tpw.ne lb6) (lc6 _ _ le6)
      have lE7 := mvl2 _ _ (tpw.ne lb7) (lc7 _ _ le7)
      have lE8 := mvl2 _ _ (tpw.ne lb8) (lc8 _ _ le8)
      have lE9 := mvl2 _ _ (tpw.ne lb9) (lc9 _ _ le9)
      have lE10 := mvl2 _ _ (tpw.ne lb10) (lc10 _ _ le10)
      have lE11 := mvl2 _ _ (tpw.ne lb11) (lc11 _ _ le11)
      have lE12 := mvl2 _ _ (tpw.ne lb12) (lc12 _ _ le12)
      have lE13 := mvl2 _ _ (tpw.ne lb13) (lc13 _ _ le13)
      have lE14 := mvl2 _ _ (tpw.ne lb14) (lc14 _ _ le14)
      have lE15 := mvl2 _ _ (tpw.ne lb15) (lc15 _ _ le15)
      have lE16 := mvl2 _ _ (tpw.ne lb16) (lc16 _ _ le16)
      have lE17 := mvl2 _ _ (tpw.ne lb17) (lc17 _ _ le17)
      have lE18 := mvl2 _ _ (tpw.ne lb18) (lc18 _ _ le18)
      have lE19 := mvl2 _ _ (tpw.ne lb19) (lc19 _ _ le19)
      have lE20 := mvl2 _ _ (tpw.ne lb20) (lc20 _ _ le20)
      have lE21 := mvl2 _ _ (tpw.ne lb21) (lc21 _ _ le21)
      have lE22 := mvl2 _ _ (tpw.ne lb22) (lc22 _ _ le22)
      have lE23 := mvl2 _ _ (tpw.ne lb23) (lc23 _ _ le23)
      have lE24 := mvl2 _ _ (tpw.ne lb24) (lc24 _ _ le24)
      have lE25 := mvl2 _ _ (tpw.ne lb25) (lc25 _ _ le25)
      have lE26 := sT_nl (sT lc26 lh26) (Nl.moved (tpw.keep lc0) mvl2)
      have lE27 := mvl2 _ _ (tpw.ne lb27) (lc27 _ _ le27)
      have lE28 := mvl2 _ _ (tpw.ne lb28) (lc28 _ _ le28)
      have lE29 := mvl2 _ _ (tpw.ne lb29) (lc29 _ _ le29)
      have lE30 := mvl2 _ _ (tpw.ne lb30) (lc30 _ _ le30)
      have lE31 := mvl2 _ _ (tpw.ne lb31) (lc31 _ _ le31)
      have lE32 := sT_nl (sT lc32 lh32) (Nl.moved (tpw.keep lc0) mvl2)
      have lE33 := mvl2 _ _ (tpw.ne lb33) (lc33 _ _ le33)
      have lE34 := mvl2 _ _ (tpw.ne lb34) (lc34 _ _ le34)
      have lE35 := mvl2 _ _ (tpw.ne lb35) (lc35 _ _ le35)
      have lE36 := mvl2 _ _ (tpw.ne lb36) (lc36 _ _ le36)
      have lE37 := mvl2 _ _ (tpw.ne lb37) (lc37 _ _ le37)
      have lE38 := mvl2 _ _ (tpw.ne lb38) (lc38 _ _ le38)
      obtain ⟨vl, dl, hvl, hdl, odl⟩ : ∃ v d, ([V.non, .ref lp3, .ref lp5, .ref lp8, .ref lp11, .ref lp14, .ref lp17, .ref lp20] ++ [V.ref lp24, .ref lp28, .ref lp32, .ref lp35, .int 5, .str "1", .ref lp37])[rl_.toNat]? = some v ∧ d ∈ lnD ∧ ∀ H'', Nl Hl H'' → NewStays Hw Hl H'' → Od K H'' v d := by
        have z : rl_ = 0 ∨ rl_ = 1 ∨ rl_ = 2 ∨ rl_ = 3 ∨ rl_ = 4 ∨ rl_ = 5 ∨ rl_ = 6 ∨ rl_ = 7 ∨ rl_ = 8 ∨ rl_ = 9 ∨ rl_ = 10 ∨ rl_ = 11 ∨ rl_ = 12 ∨ rl_ = 13 ∨ rl_ = 14 := by omega
        rcases z with rfl | rfl | rfl | rfl | rfl | rfl | rfl | rfl | rfl | rfl | rfl | rfl | rfl | rfl | rfl
        · exact ⟨_, .none, rfl, by simp [lnD], fun _ nl ns => .non⟩
        · exact ⟨_, .list [.tuple [.tuple [.int 1], .int 1]], rfl, by simp [lnD], fun _ nl ns => .lst (ns _ _ lb3 lE3) (.cons (.tup (SqT.of (ns _ _ lb2 lE2)) (.cons (.tup (SqT.of (ns _ _ lb1 lE1)) (.cons (.int _) .nil)) (.cons (.int _) .nil))) .nil)⟩
        · exact ⟨_, .tuple [.tuple [.int 1], .int 1], rfl, by simp [lnD], fun _ nl ns => .tup (SqT.of (ns _ _ lb5 lE5)) (.cons (.tup (SqT.of (ns _ _ lb4 lE4)) (.cons (.int _) .nil)) (.cons (.int _) .nil))⟩
        · exact ⟨_, .tuple [.tuple [.tuple [.int 1], .int (-1)]], rfl, by simp [lnD], fun _ nl ns => .tup (SqT.of (ns _ _ lb8 lE8)) (.cons (.tup (SqT.of (ns _ _ lb7 lE7)) (.cons (.tup (SqT.of (ns _ _ lb6 lE6)) (.cons (.int _) .nil)) (.cons (.int _) .nil))) .nil)⟩
        · exact ⟨_, .tuple [.tuple [.tuple [.int 1], .bool true]], rfl, by simp [lnD], fun _ nl ns => .tup (SqT.of (ns _ _ lb11 lE11)) (.cons (.tup (SqT.of (ns _ _ lb10 lE10)) (.cons (.tup (SqT.of (ns _ _ lb9 lE9)) (.cons (.int _) .nil)) (.cons (.bl _) .nil))) .nil)⟩
        · exact ⟨_, .tuple [.tuple [.tuple [.int 1], .int (10 ^ Int.toNat 30 + 1)]], rfl, by simp [lnD], fun _ nl ns => .tup (SqT.of (ns _ _ lb14 lE14)) (.cons (.tup (SqT.of (ns _ _ lb13 lE13)) (.cons (.tup (SqT.of (ns _ _ lb12 lE12)) (.cons (.int _) .nil)) (.cons (.int _) .nil))) .nil)⟩
        · exact ⟨_, .tuple [.tuple [.tuple [.int 5], .int 1]], rfl, by simp [lnD], fun _ nl ns => .tup (SqT.of (ns _ _ lb17 lE17)) (.cons (.tup (SqT.of (ns _ _ lb16 lE16)) (.cons (.tup (SqT.of (ns _ _ lb15 lE15)) (.cons (.int _) .nil)) (.cons (.int _) .nil))) .nil)⟩
        · exact ⟨_, .tuple [.tuple [.list [.int 1], .int 1]], rfl, by simp [lnD], fun _ nl ns => .tup (SqT.of (ns _ _ lb20 lE20)) (.cons (.tup (SqT.of (ns _ _ lb19 lE19)) (.cons (.lst (ns _ _ lb18 lE18) (.cons (.int _) .nil)) (.cons (.int _) .nil))) .nil)⟩
        · exact ⟨_, .tuple [.tuple [.tuple [.int 1], .int 1, .int 0]], rfl, by simp [lnD], fun _ nl ns => .tup (SqT.of (ns _ _ lb24 lE24)) (.cons (.tup (SqT.of (ns _ _ lb23 lE23)) (.cons (.tup (SqT.of (ns _ _ lb22 lE22)) (.cons (.int _) .nil)) (.cons (.int _) (.cons (.int _) .nil)))) .nil)⟩
        · exact ⟨_, .tuple [.tuple [.tuple (List.replicate 61 (.int 1)), .int 1]], rfl, by simp [lnD], fun _ nl ns => .tup (SqT.of (ns _ _ lb28 lE28)) (.cons (.tup (SqT.of (ns _ _ lb27 lE27)) (.cons (.tup (sT_nl lE26 nl) (rep_od (.int _) 61)) (.cons (.int _) .nil))) .nil)⟩
        · exact ⟨_, .tuple (List.replicate 21 (.tuple [.tuple [.int 1], .int 1])), rfl, by simp [lnD], fun _ nl ns => .tup (sT_nl lE32 nl) (rep_od (.tup (SqT.of (ns _ _ lb30 lE30)) (.cons (.tup (SqT.of (ns _ _ lb29 lE29)) (.cons (.int _) .nil)) (.cons (.int _) .nil))) 21)⟩
        · exact ⟨_, .tuple [.tuple [.tuple [.int 1], .none]], rfl, by simp [lnD], fun _ nl ns => .tup (SqT.of (ns _ _ lb35 lE35)) (.cons (.tup (SqT.of (ns _ _ lb34 lE34)) (.cons (.tup (SqT.of (ns _ _ lb33 lE33)) (.cons (.int _) .nil)) (.cons (.non) .nil))) .nil)⟩
        · exact ⟨_, .int 5, rfl, by simp [lnD], fun _ nl ns => .int _⟩
        · exact ⟨_, .str "1", rfl, by simp [lnD], fun _ nl ns => .str _⟩
        · exact ⟨_, .tuple [.tuple []], rfl, by simp [lnD], fun _ nl ns => .tup (SqT.of (ns _ _ lb37 lE37)) (.cons (.tup (SqT.of (ns _ _ lb36 lE36)) .nil) .nil)⟩
      refine ⟨L, _, rl_, vl, rfl, rfl, SqL.of (mvl _ _ (tpw.ne nL0) eL), atI_of rl0 hvl, ?_⟩
      have nlwl : Nl Hw Hl := (Nl.same (lc0.trans sL)).trans (Nl.moved tpL mvl)
      have nlnw : Nl Hn Hw := (Nl.same wc0).trans (Nl.moved tpW mvw)
      have tsn : TupS Hn Hl := fun b xs e => nlwl _ _ (fun _ z => by cases z) (nlnw _ _ (fun _ z => by cases z) e)
      have Oo : Od K Hl vo do_ := odo _ ((TupS.moved tpo mvn).trans tsn)
      have On : Od K Hl vn dn := odn _ tsn
      have Ow : Od K Hl vw dw := odw _ nlwl ((NewStays.moved (tpn) (fun b o hb e => (lc0.trans sL) _ _ e) mvl))
      have Ol : Od K Hl vl dl := odl _ (fun b o _ e => e) (fun b o hb e => e)
      have no := noC_no _ hdo
      have nn := noB_no _ hdn
      have fw := List.all_eq_true.mp wrD_no _ hdw
      have fl := List.all_eq_true.mp lnD_no _ hdl
      rw [Bool.and_eq_true, Bool.and_eq_true] at fw fl
      obtain ⟨fw1, fw2, fw3⟩ := fw
      obtain ⟨fl1, fl2, fl3⟩ := fl
      clear odo odn odw odl
      refine ⟨4, rfl, by decide, by decide, for_range (lo := 0) (n := (4 : Int).toNat)
        (fun i σ H' => ∃ (y10 y11 y12 : Option V), σ = [some (.ref a), some (.ref t), y2, y3, y4, y5, some vo, some vn, some vw, some vl, y10, y11, y12] ∧ Same Hl H')
        ⟨_, _, _, rfl, fun _ _ z => z⟩ (fun i σ H' hi h => ?_) (fun σ H' h => ?_)⟩
      · obtain ⟨y10, y11, y12, rfl, sm⟩ := h
        have hi' : i < 4 := hi
        obtain ⟨vt, dt, hvt, Ot, lt1, lt3, ht⟩ : ∃ vt dt, [vl, vw][(if decide ((1 : Int) < 0 + (i : Int)) = true then (1 : Int) else 0).toNat]? = some vt ∧ Od K Hl vt dt ∧ Lim dt ∧ Lim3 dt ∧ (((0 : Int) + (i : Int) ≤ 1 ∧ longD 2 dt = false) ∨ (¬ (0 : Int) + (i : Int) ≤ 1 ∧ roundN 2 dt = false)) := by
          by_cases c : (1 : Int) < 0 + (i : Int)
          · rw [if_pos (decide_eq_true c)]
            exact ⟨vw, dw, rfl, Ow, limB_ok fw2, lim3B_ok fw3, .inr ⟨by omega, by simpa using fw1⟩⟩
          · rw [if_neg (fun z => c (of_decide_eq_true z))]
            exact ⟨vl, dl, rfl, Ol, limB_ok fl2, lim3B_ok fl3, .inl ⟨by omega, by simpa using fl1⟩⟩
        refine ⟨vl, rfl, vw, rfl, by show 2 ≤ sizeLine; decide, fun G nG => ?_⟩
        have sG := same_upd (o := .lst [vl, vw]) nG
        refine ⟨.int _, rfl, _, _, rfl, rfl, .inr ⟨_, rfl, G, _, _, vt, rfl, rfl, SqL.of upd_same, atI_of (by split <;> decide) hvt, ?_⟩⟩
        have s0G := sm.trans sG
        show tSeq _ _ _ _ (upd H' G (.lst [vl, vw]))
        generalize upd H' G (.lst [vl, vw]) = Hg at *
        refine ⟨by show 1 ≤ sizeLine; decide, fun gp1 ngp1 => ?_⟩
        have gs1 : Same Hg (upd Hg gp1 (.tup [V.int 1])) := same_upd ngp1
        have ge1 : upd Hg gp1 (.tup [V.int 1]) gp1 = some (.tup [V.int 1]) := upd_same
        generalize upd Hg gp1 (.tup [V.int 1]) = gH1 at *
        refine ⟨gp1, 60, _, rfl, rfl, SqT.of ge1, by decide, by decide, by show 1 ≤ 1000; decide, fun gp2 gH2 gs2' gh2 => ?_⟩
        have gs2 : Same gH1 gH2 := gs2'
        refine ⟨10, 30, rfl, rfl, ⟨by decide, by decide, by decide⟩, by show 2 ≤ sizeLine; decide, fun gp3 ngp3 => ?_⟩
        have gs3 : Same gH2 (upd gH2 gp3 (.tup [V.ref gp2, .int (10 ^ Int.toNat 30)])) := same_upd ngp3
        have ge3 : upd gH2 gp3 (.tup [V.ref gp2, .int (10 ^ Int.toNat 30)]) gp3 = some (.tup [V.ref gp2, .int (10 ^ Int.toNat 30)]) := upd_same
        generalize upd gH2 gp3 (.tup [V.ref gp2, .int (10 ^ Int.toNat 30)]) = gH3 at *
        refine ⟨by show 1 ≤ sizeLine; decide, fun gp4 ngp4 => ?_⟩
        have gs4 : Same gH3 (upd gH3 gp4 (.tup [V.ref gp3])) := same_upd ngp4
        have ge4 : upd gH3 gp4 (.tup [V.ref gp3]) gp4 = some (.tup [V.ref gp3]) := upd_same
        generalize upd gH3 gp4 (.tup [V.ref gp3]) = gH4 at *
        refine ⟨gp4, 20, _, rfl, rfl, SqT.of ge4, by decide, by decide, by show 1 ≤ 1000; decide, fun gp5 gH5 gs5' gh5 => ?_⟩
        have gs5 : Same gH4 gH5 := gs5'
        refine ⟨by show 1 ≤ sizeLine; decide, fun gp6 ngp6 => ?_⟩
        have gs6 : Same gH5 (upd gH5 gp6 (.tup [V.int 1])) := same_upd ngp6
        have ge6 : upd gH5 gp6 (.tup [V.int 1]) gp6 = some (.tup [V.int 1]) := upd_same
        generalize upd gH5 gp6 (.tup [V.int 1]) = gH6 at *
        refine ⟨gp6, 60, _, rfl, rfl, SqT.of ge6, by decide, by decide, by show 1 ≤ 1000; decide, fun gp7 gH7 gs7' gh7 => ?_⟩
        have gs7 : Same gH6 gH7 := gs7'
        refine ⟨by show 2 ≤ sizeLine; decide, fun gp8 ngp8 => ?_⟩
        have gs8 : Same gH7 (upd gH7 gp8 (.lst [V.ref gp5, .ref gp7])) := same_upd ngp8
        have ge8 : upd gH7 gp8 (.lst [V.ref gp5, .ref gp7]) gp8 = some (.lst [V.ref gp5, .ref gp7]) := upd_same
        generalize upd gH7 gp8 (.lst [V.ref gp5, .ref gp7]) = gH8 at *
        have gc8 : Same gH8 gH8 := Same.refl _
        have gc7 := gs8.trans gc8
        have gc6 := gs7.trans gc7
        have gc5 := gs6.trans gc6
        have gc4 := gs5.trans gc5
        have gc3 := gs4.trans gc4
        have gc2 := gs3.trans gc3
        have gc1 := gs2.trans gc2
        have gc0 := gs1.trans gc1
        have gb1 : Hg gp1 = none := ngp1
        have gd1 : Same Hg gH1 := gs1
        have gd2 : Same Hg gH2 := gd1.trans gs2
        have gb3 : Hg gp3 = none := none_back gd2 ngp3
        have gd3 : Same Hg gH3 := gd2.trans gs3
        have gb4 : Hg gp4 = none := none_back gd3 ngp4
        have gd4 : Same Hg gH4 := gd3.trans gs4
        have gd5 : Same Hg gH5 := gd4.trans gs5
        have gb6 : Hg gp6 = none := none_back gd5 ngp6
        have gd6 : Same Hg gH6 := gd5.trans gs6
        have gd7 : Same Hg gH7 := gd6.trans gs7
        have gb8 : Hg gp8 = none := none_back gd7 ngp8
        have gd8 : Same Hg gH8 := gd7.trans gs8
        obtain ⟨vg, dg, hvg, Og, lg1, lg3, hg⟩ : ∃ vg dg, ([V.ref gp5, .ref gp7])[(if decide ((1 : Int) < 0 + (i : Int)) = true then (1 : Int) else 0).toNat]? = some vg ∧ Od K gH8 vg dg ∧ Lim dg ∧ Lim3 dg ∧ dueW (0 + (i : Int)) (.int 4) (.int 60) dg = none := by
          have nl : Nl gH8 gH8 := fun _ _ _ z => z
          have ns : NewStays Hg gH8 gH8 := fun _ _ _ z => z
          have gE1 := gc1 _ _ ge1
          have gE2 := sT gc2 gh2
          have gE3 := gc3 _ _ ge3
          have gE4 := gc4 _ _ ge4
          have gE5 := sT gc5 gh5
          have gE6 := gc6 _ _ ge6
          have gE7 := sT gc7 gh7
          have gE8 := gc8 _ _ ge8
          by_cases c : (1 : Int) < 0 + (i : Int)
          · rw [if_pos (decide_eq_true c)]
            refine ⟨_, .tuple (List.replicate 60 (.int 1)), rfl, .tup (sT_nl gE7 nl) (rep_od (.int _) 60), limB_ok (by decide +kernel), lim3B_ok (by decide +kernel), ?_⟩
            unfold dueW
            rw [if_neg (by omega)]
            decide +kernel
          · rw [if_neg (fun z => c (of_decide_eq_true z))]
            refine ⟨_, .tuple (List.replicate 20 (.tuple [.tuple (List.replicate 60 (.int 1)), .int (10 ^ Int.toNat 30)])), rfl, .tup (sT_nl gE5 nl) (rep_od (.tup (SqT.of (ns _ _ gb3 gE3)) (.cons (.tup (sT_nl gE2 nl) (rep_od (.int _) 60)) (.cons (.int _) .nil))) 20), limB_ok (by decide +kernel), lim3B_ok (by decide +kernel), ?_⟩
            unfold dueW
            rw [if_pos (by omega)]
            decide +kernel
        have s1G := s0G.trans gc0
        refine ⟨.int _, rfl, _, _, rfl, rfl, .inr ⟨_, rfl, gp8, _, _, vg, rfl, rfl, SqL.of ge8, atI_of (by split <;> decide) hvg, ?_⟩⟩
        have bi : 0 ≤ (0 : Int) + (i : Int) ∧ (0 : Int) + (i : Int) ≤ 3 := by omega
        refine ⟨.int _, rfl, vo, rfl, vn, rfl, vt, rfl, _, vo, vn, vt, do_, dn, dt, rfl, bi, Oo.mono s1G, On.mono s1G, Ot.mono s1G, lt1, lt3, fun H2 s2 => ⟨rfl, false, ?_, iteF ?_⟩⟩
        · rw [due0 no]
          decide
        refine ⟨.int _, rfl, vn, rfl, vt, rfl, _, .int 2, vn, vt, .int 2, dn, dt, rfl, bi, .int _, On.mono (s1G.trans s2), Ot.mono (s1G.trans s2), lt1, lt3, fun H3 s3 => ⟨rfl, false, ?_, iteF ?_⟩⟩
        · rw [due1 nn]
          decide
        have s3t := (s1G.trans s2).trans s3
        refine ⟨.int _, rfl, vt, rfl, _, .int 2, .int 3, vt, .int 2, .int 3, dt, rfl, bi, .int _, .int _, Ot.mono s3t, lt1, lt3, fun H4 s4 => ⟨rfl, false, ?_, iteF ?_⟩⟩
        · rw [due2 ht]
          decide
        refine ⟨.int _, rfl, vg, rfl, _, .int 4, .int 60, vg, .int 4, .int 60, dg, rfl, bi, .int _, .int _, ((Og.mono s2).mono s3).mono s4, lg1, lg3, fun H5 s5 => ⟨rfl, false, ?_, iteF ?_⟩⟩
        · rw [hg]
          decide
        exact ⟨_, _, _, rfl, (s3t.trans s4).trans s5⟩
      · obtain ⟨y10, y11, y12, rfl, sm⟩ := h
        exact q _
end

/-! ### the end -/
theorem fin_mk {l : PySem.W.OpenLaw} {w : World} {K : PySem.W.Frag} {h : Heap} {mg : Str → Option Value} {fa f_law : Addr} (KX : K.In h) (G : h.Ns mainGlobals mg) (hmg : mg "law" = some (.ref fa)) {an : Option Addr} {kV dc pm cd ct : Value}
    (hT : ∃ T : Tx K mg, T.a_law = f_law ∧ T.d_law = PySem.W.fnOf "law" "law" (defArgs s_law) (defBody s_law) (defScope s_law) .none kV dc pm an cd ct) :
    ∃ fd : FuncData, (∀ (s : Shared) (v : Value), BindsTo s fd ⟨[v], []⟩ [("script", v)]) ∧ ∀ base : Heap, K.In base → base.Ns mainGlobals mg → FnOk l.prog w K mg base CX0 lawLevel fa fd ["script"] (spLaw K) := by
  obtain ⟨T, ea, ed⟩ := hT
  have e := hmg.symm.trans T.g_law
  cases e
  exact ⟨T.d_law, fun s v => by rw [ed]; exact .of_eq rfl, fun base _ _ => ok_law T⟩

theorem all_mk {w : World} {K : PySem.W.Frag} {h : Heap} {mg : Str → Option Value} (X : K.In h) (G : h.Ns mainGlobals mg)
    {f_is_integer : Addr} {od_is_integer an_is_integer : Option Addr} {sl_is_integer : Array (Option Value)} {oc_is_integer kV_is_integer dc_is_integer pm_is_integer cd_is_integer ct_is_integer : Value}
    {f_is_number : Addr} {od_is_number an_is_number : Option Addr} {sl_is_number : Array (Option Value)} {oc_is_number kV_is_number dc_is_number pm_is_number cd_is_number ct_is_number : Value}
    {f_are_numbers : Addr} {od_are_numbers an_are_numbers : Option Addr} {sl_are_numbers : Array (Option Value)} {oc_are_numbers kV_are_numbers dc_are_numbers pm_are_numbers cd_are_numbers ct_are_numbers : Value}
    {f_is_comings : Addr} {od_is_comings an_is_comings : Option Addr} {sl_is_comings : Array (Option Value)} {oc_is_comings kV_is_comings dc_is_comings pm_is_comings cd_is_comings ct_is_comings : Value}
    {f_check_comers : Addr} {od_check_comers an_check_comers : Option Addr} {sl_check_comers : Array (Option Value)} {oc_check_comers kV_check_comers dc_check_comers pm_check_comers cd_check_comers ct_check_comers : Value}
    {f_check_bound : Addr} {od_check_bound an_check_bound : Option Addr} {sl_check_bound : Array (Option Value)} {oc_check_bound kV_check_bound dc_check_bound pm_check_bound cd_check_bound ct_check_bound : Value}
    {f_follow_line : Addr} {od_follow_line an_follow_line : Option Addr} {sl_follow_line : Array (Option Value)} {oc_follow_line kV_follow_line dc_follow_line pm_follow_line cd_follow_line ct_follow_line : Value}
    {f_reduced : Addr} {od_reduced an_reduced : Option Addr} {sl_reduced : Array (Option Value)} {oc_reduced kV_reduced dc_reduced pm_reduced cd_reduced ct_reduced : Value}
    {f_is_round : Addr} {od_is_round an_is_round : Option Addr} {sl_is_round : Array (Option Value)} {oc_is_round kV_is_round dc_is_round pm_is_round cd_is_round ct_is_round : Value}
    {f_is_long_pair : Addr} {od_is_long_pair an_is_long_pair : Option Addr} {sl_is_long_pair : Array (Option Value)} {oc_is_long_pair kV_is_long_pair dc_is_long_pair pm_is_long_pair cd_is_long_pair ct_is_long_pair : Value}
    {f_check_long : Addr} {od_check_long an_check_long : Option Addr} {sl_check_long : Array (Option Value)} {oc_check_long kV_check_long dc_check_long pm_check_long cd_check_long ct_check_long : Value}
    {f_check_round : Addr} {od_check_round an_check_round : Option Addr} {sl_check_round : Array (Option Value)} {oc_check_round kV_check_round dc_check_round pm_check_round cd_check_round ct_check_round : Value}
    {f_follow_round : Addr} {od_follow_round an_follow_round : Option Addr} {sl_follow_round : Array (Option Value)} {oc_follow_round kV_follow_round dc_follow_round pm_follow_round cd_follow_round ct_follow_round : Value}
    {f_follow_long : Addr} {od_follow_long an_follow_long : Option Addr} {sl_follow_long : Array (Option Value)} {oc_follow_long kV_follow_long dc_follow_long pm_follow_long cd_follow_long ct_follow_long : Value}
    {f_long_line : Addr} {od_long_line an_long_line : Option Addr} {sl_long_line : Array (Option Value)} {oc_long_line kV_long_line dc_long_line pm_long_line cd_long_line ct_long_line : Value}
    {f_long_counts : Addr} {od_long_counts an_long_counts : Option Addr} {sl_long_counts : Array (Option Value)} {oc_long_counts kV_long_counts dc_long_counts pm_long_counts cd_long_counts ct_long_counts : Value}
    {f_settle : Addr} {od_settle an_settle : Option Addr} {sl_settle : Array (Option Value)} {oc_settle kV_settle dc_settle pm_settle cd_settle ct_settle : Value}
    {f_settled : Addr} {od_settled an_settled : Option Addr} {sl_settled : Array (Option Value)} {oc_settled kV_settled dc_settled pm_settled cd_settled ct_settled : Value}
    {f_lost_share : Addr} {od_lost_share an_lost_share : Option Addr} {sl_lost_share : Array (Option Value)} {oc_lost_share kV_lost_share dc_lost_share pm_lost_share cd_lost_share ct_lost_share : Value}
    {f__law_tape : Addr} {od__law_tape an__law_tape : Option Addr} {sl__law_tape : Array (Option Value)} {oc__law_tape kV__law_tape dc__law_tape pm__law_tape cd__law_tape ct__law_tape : Value}
    {f__law_pick : Addr} {od__law_pick an__law_pick : Option Addr} {sl__law_pick : Array (Option Value)} {oc__law_pick kV__law_pick dc__law_pick pm__law_pick cd__law_pick ct__law_pick : Value}
    {f__law_round : Addr} {od__law_round an__law_round : Option Addr} {sl__law_round : Array (Option Value)} {oc__law_round kV__law_round dc__law_round pm__law_round cd__law_round ct__law_round : Value}
    {f__law_short : Addr} {od__law_short an__law_short : Option Addr} {sl__law_short : Array (Option Value)} {oc__law_short kV__law_short dc__law_short pm__law_short cd__law_short ct__law_short : Value}
    {f__law_no_bound : Addr} {od__law_no_bound an__law_no_bound : Option Addr} {sl__law_no_bound : Array (Option Value)} {oc__law_no_bound kV__law_no_bound dc__law_no_bound pm__law_no_bound cd__law_no_bound ct__law_no_bound : Value}
    {f__law_no_comers : Addr} {od__law_no_comers an__law_no_comers : Option Addr} {sl__law_no_comers : Array (Option Value)} {oc__law_no_comers kV__law_no_comers dc__law_no_comers pm__law_no_comers cd__law_no_comers ct__law_no_comers : Value}
    {f__law_common : Addr} {od__law_common an__law_common : Option Addr} {sl__law_common : Array (Option Value)} {oc__law_common kV__law_common dc__law_common pm__law_common cd__law_common ct__law_common : Value}
    {f__law_word : Addr} {od__law_word an__law_word : Option Addr} {sl__law_word : Array (Option Value)} {oc__law_word kV__law_word dc__law_word pm__law_word cd__law_word ct__law_word : Value}
    {f__law_settles : Addr} {od__law_settles an__law_settles : Option Addr} {sl__law_settles : Array (Option Value)} {oc__law_settles kV__law_settles dc__law_settles pm__law_settles cd__law_settles ct__law_settles : Value}
    {f_law : Addr} {od_law an_law : Option Addr} {sl_law : Array (Option Value)} {oc_law kV_law dc_law pm_law cd_law ct_law : Value}
    {f_NoComers___init__ : Addr} {od_NoComers___init__ an_NoComers___init__ : Option Addr} {sl_NoComers___init__ : Array (Option Value)} {oc_NoComers___init__ kV_NoComers___init__ dc_NoComers___init__ pm_NoComers___init__ cd_NoComers___init__ ct_NoComers___init__ : Value}
    {f_NoBound___init__ : Addr} {od_NoBound___init__ an_NoBound___init__ : Option Addr} {sl_NoBound___init__ : Array (Option Value)} {oc_NoBound___init__ kV_NoBound___init__ dc_NoBound___init__ pm_NoBound___init__ cd_NoBound___init__ ct_NoBound___init__ : Value}
    {f_NoLong___init__ : Addr} {od_NoLong___init__ an_NoLong___init__ : Option Addr} {sl_NoLong___init__ : Array (Option Value)} {oc_NoLong___init__ kV_NoLong___init__ dc_NoLong___init__ pm_NoLong___init__ cd_NoLong___init__ ct_NoLong___init__ : Value}
    {t_MOST_BOUND : Tok}
    {t_MOST_COMERS : Tok}
    {t_MOST_PAIRS : Tok}
    {t_MOST_ROUND : Tok}
    {t_MOST_TICKS : Tok}
    {c_LoopError : Addr}
    {c_NoBound : Addr}
    {c_NoComers : Addr}
    {c_NoLong : Addr}
    (a_is_integer : PySem.W.nsIn K mainGlobals "is_integer" = some (some (.ref f_is_integer))) (l_is_integer : K.lookup f_is_integer = some ⟨oc_is_integer, od_is_integer, .func (PySem.W.fnOf "is_integer" "is_integer" (defArgs s_is_integer) (defBody s_is_integer) (defScope s_is_integer) .none kV_is_integer dc_is_integer pm_is_integer an_is_integer cd_is_integer ct_is_integer), sl_is_integer⟩) (c_is_integer : PySem.W.codeIn K cd_is_integer "is_integer" = true) (k_is_integer : PySem.W.keepIn K (.ref f_is_integer) = true)
    (a_is_number : PySem.W.nsIn K mainGlobals "is_number" = some (some (.ref f_is_number))) (l_is_number : K.lookup f_is_number = some ⟨oc_is_number, od_is_number, .func (PySem.W.fnOf "is_number" "is_number" (defArgs s_is_number) (defBody s_is_number) (defScope s_is_number) .none kV_is_number dc_is_number pm_is_number an_is_number cd_is_number ct_is_number), sl_is_number⟩) (c_is_number : PySem.W.codeIn K cd_is_number "is_number" = true) (k_is_number : PySem.W.keepIn K (.ref f_is_number) = true)
    (a_are_numbers : PySem.W.nsIn K mainGlobals "are_numbers" = some (some (.ref f_are_numbers))) (l_are_numbers : K.lookup f_are_numbers = some ⟨oc_are_numbers, od_are_numbers, .func (PySem.W.fnOf "are_numbers" "are_numbers" (defArgs s_are_numbers) (defBody s_are_numbers) (defScope s_are_numbers) .none kV_are_numbers dc_are_numbers pm_are_numbers an_are_numbers cd_are_numbers ct_are_numbers), sl_are_numbers⟩) (c_are_numbers : PySem.W.codeIn K cd_are_numbers "are_numbers" = true) (k_are_numbers : PySem.W.keepIn K (.ref f_are_numbers) = true)
    (a_is_comings : PySem.W.nsIn K mainGlobals "is_comings" = some (some (.ref f_is_comings))) (l_is_comings : K.lookup f_is_comings = some ⟨oc_is_comings, od_is_comings, .func (PySem.W.fnOf "is_comings" "is_comings" (defArgs s_is_comings) (defBody s_is_comings) (defScope s_is_comings) .none kV_is_comings dc_is_comings pm_is_comings an_is_comings cd_is_comings ct_is_comings), sl_is_comings⟩) (c_is_comings : PySem.W.codeIn K cd_is_comings "is_comings" = true) (k_is_comings : PySem.W.keepIn K (.ref f_is_comings) = true)
    (a_check_comers : PySem.W.nsIn K mainGlobals "check_comers" = some (some (.ref f_check_comers))) (l_check_comers : K.lookup f_check_comers = some ⟨oc_check_comers, od_check_comers, .func (PySem.W.fnOf "check_comers" "check_comers" (defArgs s_check_comers) (defBody s_check_comers) (defScope s_check_comers) .none kV_check_comers dc_check_comers pm_check_comers an_check_comers cd_check_comers ct_check_comers), sl_check_comers⟩) (c_check_comers : PySem.W.codeIn K cd_check_comers "check_comers" = true) (k_check_comers : PySem.W.keepIn K (.ref f_check_comers) = true)
    (a_check_bound : PySem.W.nsIn K mainGlobals "check_bound" = some (some (.ref f_check_bound))) (l_check_bound : K.lookup f_check_bound = some ⟨oc_check_bound, od_check_bound, .func (PySem.W.fnOf "check_bound" "check_bound" (defArgs s_check_bound) (defBody s_check_bound) (defScope s_check_bound) .none kV_check_bound dc_check_bound pm_check_bound an_check_bound cd_check_bound ct_check_bound), sl_check_bound⟩) (c_check_bound : PySem.W.codeIn K cd_check_bound "check_bound" = true) (k_check_bound : PySem.W.keepIn K (.ref f_check_bound) = true)
    (a_follow_line : PySem.W.nsIn K mainGlobals "follow_line" = some (some (.ref f_follow_line))) (l_follow_line : K.lookup f_follow_line = some ⟨oc_follow_line, od_follow_line, .func (PySem.W.fnOf "follow_line" "follow_line" (defArgs s_follow_line) (defBody s_follow_line) (defScope s_follow_line) .none kV_follow_line dc_follow_line pm_follow_line an_follow_line cd_follow_line ct_follow_line), sl_follow_line⟩) (c_follow_line : PySem.W.codeIn K cd_follow_line "follow_line" = true) (k_follow_line : PySem.W.keepIn K (.ref f_follow_line) = true)
    (a_reduced : PySem.W.nsIn K mainGlobals "reduced" = some (some (.ref f_reduced))) (l_reduced : K.lookup f_reduced = some ⟨oc_reduced, od_reduced, .func (PySem.W.fnOf "reduced" "reduced" (defArgs s_reduced) (defBody s_reduced) (defScope s_reduced) .none kV_reduced dc_reduced pm_reduced an_reduced cd_reduced ct_reduced), sl_reduced⟩) (c_reduced : PySem.W.codeIn K cd_reduced "reduced" = true) (k_reduced : PySem.W.keepIn K (.ref f_reduced) = true)
    (a_is_round : PySem.W.nsIn K mainGlobals "is_round" = some (some (.ref f_is_round))) (l_is_round : K.lookup f_is_round = some ⟨oc_is_round, od_is_round, .func (PySem.W.fnOf "is_round" "is_round" (defArgs s_is_round) (defBody s_is_round) (defScope s_is_round) .none kV_is_round dc_is_round pm_is_round an_is_round cd_is_round ct_is_round), sl_is_round⟩) (c_is_round : PySem.W.codeIn K cd_is_round "is_round" = true) (k_is_round : PySem.W.keepIn K (.ref f_is_round) = true)
    (a_is_long_pair : PySem.W.nsIn K mainGlobals "is_long_pair" = some (some (.ref f_is_long_pair))) (l_is_long_pair : K.lookup f_is_long_pair = some ⟨oc_is_long_pair, od_is_long_pair, .func (PySem.W.fnOf "is_long_pair" "is_long_pair" (defArgs s_is_long_pair) (defBody s_is_long_pair) (defScope s_is_long_pair) .none kV_is_long_pair dc_is_long_pair pm_is_long_pair an_is_long_pair cd_is_long_pair ct_is_long_pair), sl_is_long_pair⟩) (c_is_long_pair : PySem.W.codeIn K cd_is_long_pair "is_long_pair" = true) (k_is_long_pair : PySem.W.keepIn K (.ref f_is_long_pair) = true)
    (a_check_long : PySem.W.nsIn K mainGlobals "check_long" = some (some (.ref f_check_long))) (l_check_long : K.lookup f_check_long = some ⟨oc_check_long, od_check_long, .func (PySem.W.fnOf "check_long" "check_long" (defArgs s_check_long) (defBody s_check_long) (defScope s_check_long) .none kV_check_long dc_check_long pm_check_long an_check_long cd_check_long ct_check_long), sl_check_long⟩) (c_check_long : PySem.W.codeIn K cd_check_long "check_long" = true) (k_check_long : PySem.W.keepIn K (.ref f_check_long) = true)
    (a_check_round : PySem.W.nsIn K mainGlobals "check_round" = some (some (.ref f_check_round))) (l_check_round : K.lookup f_check_round = some ⟨oc_check_round, od_check_round, .func (PySem.W.fnOf "check_round" "check_round" (defArgs s_check_round) (defBody s_check_round) (defScope s_check_round) .none kV_check_round dc_check_round pm_check_round an_check_round cd_check_round ct_check_round), sl_check_round⟩) (c_check_round : PySem.W.codeIn K cd_check_round "check_round" = true) (k_check_round : PySem.W.keepIn K (.ref f_check_round) = true)
    (a_follow_round : PySem.W.nsIn K mainGlobals "follow_round" = some (some (.ref f_follow_round))) (l_follow_round : K.lookup f_follow_round = some ⟨oc_follow_round, od_follow_round, .func (PySem.W.fnOf "follow_round" "follow_round" (defArgs s_follow_round) (defBody s_follow_round) (defScope s_follow_round) .none kV_follow_round dc_follow_round pm_follow_round an_follow_round cd_follow_round ct_follow_round), sl_follow_round⟩) (c_follow_round : PySem.W.codeIn K cd_follow_round "follow_round" = true) (k_follow_round : PySem.W.keepIn K (.ref f_follow_round) = true)
    (a_follow_long : PySem.W.nsIn K mainGlobals "follow_long" = some (some (.ref f_follow_long))) (l_follow_long : K.lookup f_follow_long = some ⟨oc_follow_long, od_follow_long, .func (PySem.W.fnOf "follow_long" "follow_long" (defArgs s_follow_long) (defBody s_follow_long) (defScope s_follow_long) .none kV_follow_long dc_follow_long pm_follow_long an_follow_long cd_follow_long ct_follow_long), sl_follow_long⟩) (c_follow_long : PySem.W.codeIn K cd_follow_long "follow_long" = true) (k_follow_long : PySem.W.keepIn K (.ref f_follow_long) = true)
    (a_long_line : PySem.W.nsIn K mainGlobals "long_line" = some (some (.ref f_long_line))) (l_long_line : K.lookup f_long_line = some ⟨oc_long_line, od_long_line, .func (PySem.W.fnOf "long_line" "long_line" (defArgs s_long_line) (defBody s_long_line) (defScope s_long_line) .none kV_long_line dc_long_line pm_long_line an_long_line cd_long_line ct_long_line), sl_long_line⟩) (c_long_line : PySem.W.codeIn K cd_long_line "long_line" = true) (k_long_line : PySem.W.keepIn K (.ref f_long_line) = true)
    (a_long_counts : PySem.W.nsIn K mainGlobals "long_counts" = some (some (.ref f_long_counts))) (l_long_counts : K.lookup f_long_counts = some ⟨oc_long_counts, od_long_counts, .func (PySem.W.fnOf "long_counts" "long_counts" (defArgs s_long_counts) (defBody s_long_counts) (defScope s_long_counts) .none kV_long_counts dc_long_counts pm_long_counts an_long_counts cd_long_counts ct_long_counts), sl_long_counts⟩) (c_long_counts : PySem.W.codeIn K cd_long_counts "long_counts" = true) (k_long_counts : PySem.W.keepIn K (.ref f_long_counts) = true)
    (a_settle : PySem.W.nsIn K mainGlobals "settle" = some (some (.ref f_settle))) (l_settle : K.lookup f_settle = some ⟨oc_settle, od_settle, .func (PySem.W.fnOf "settle" "settle" (defArgs s_settle) (defBody s_settle) (defScope s_settle) .none kV_settle dc_settle pm_settle an_settle cd_settle ct_settle), sl_settle⟩) (c_settle : PySem.W.codeIn K cd_settle "settle" = true) (k_settle : PySem.W.keepIn K (.ref f_settle) = true)
    (a_settled : PySem.W.nsIn K mainGlobals "settled" = some (some (.ref f_settled))) (l_settled : K.lookup f_settled = some ⟨oc_settled, od_settled, .func (PySem.W.fnOf "settled" "settled" (defArgs s_settled) (defBody s_settled) (defScope s_settled) .none kV_settled dc_settled pm_settled an_settled cd_settled ct_settled), sl_settled⟩) (c_settled : PySem.W.codeIn K cd_settled "settled" = true) (k_settled : PySem.W.keepIn K (.ref f_settled) = true)
    (a_lost_share : PySem.W.nsIn K mainGlobals "lost_share" = some (some (.ref f_lost_share))) (l_lost_share : K.lookup f_lost_share = some ⟨oc_lost_share, od_lost_share, .func (PySem.W.fnOf "lost_share" "lost_share" (defArgs s_lost_share) (defBody s_lost_share) (defScope s_lost_share) .none kV_lost_share dc_lost_share pm_lost_share an_lost_share cd_lost_share ct_lost_share), sl_lost_share⟩) (c_lost_share : PySem.W.codeIn K cd_lost_share "lost_share" = true) (k_lost_share : PySem.W.keepIn K (.ref f_lost_share) = true)
    (a__law_tape : PySem.W.nsIn K mainGlobals "_law_tape" = some (some (.ref f__law_tape))) (l__law_tape : K.lookup f__law_tape = some ⟨oc__law_tape, od__law_tape, .func (PySem.W.fnOf "_law_tape" "_law_tape" (defArgs s__law_tape) (defBody s__law_tape) (defScope s__law_tape) .none kV__law_tape dc__law_tape pm__law_tape an__law_tape cd__law_tape ct__law_tape), sl__law_tape⟩) (c__law_tape : PySem.W.codeIn K cd__law_tape "_law_tape" = true) (k__law_tape : PySem.W.keepIn K (.ref f__law_tape) = true)
    (a__law_pick : PySem.W.nsIn K mainGlobals "_law_pick" = some (some (.ref f__law_pick))) (l__law_pick : K.lookup f__law_pick = some ⟨oc__law_pick, od__law_pick, .func (PySem.W.fnOf "_law_pick" "_law_pick" (defArgs s__law_pick) (defBody s__law_pick) (defScope s__law_pick) .none kV__law_pick dc__law_pick pm__law_pick an__law_pick cd__law_pick ct__law_pick), sl__law_pick⟩) (c__law_pick : PySem.W.codeIn K cd__law_pick "_law_pick" = true) (k__law_pick : PySem.W.keepIn K (.ref f__law_pick) = true)
    (a__law_round : PySem.W.nsIn K mainGlobals "_law_round" = some (some (.ref f__law_round))) (l__law_round : K.lookup f__law_round = some ⟨oc__law_round, od__law_round, .func (PySem.W.fnOf "_law_round" "_law_round" (defArgs s__law_round) (defBody s__law_round) (defScope s__law_round) .none kV__law_round dc__law_round pm__law_round an__law_round cd__law_round ct__law_round), sl__law_round⟩) (c__law_round : PySem.W.codeIn K cd__law_round "_law_round" = true) (k__law_round : PySem.W.keepIn K (.ref f__law_round) = true)
    (a__law_short : PySem.W.nsIn K mainGlobals "_law_short" = some (some (.ref f__law_short))) (l__law_short : K.lookup f__law_short = some ⟨oc__law_short, od__law_short, .func (PySem.W.fnOf "_law_short" "_law_short" (defArgs s__law_short) (defBody s__law_short) (defScope s__law_short) .none kV__law_short dc__law_short pm__law_short an__law_short cd__law_short ct__law_short), sl__law_short⟩) (c__law_short : PySem.W.codeIn K cd__law_short "_law_short" = true) (k__law_short : PySem.W.keepIn K (.ref f__law_short) = true)
    (a__law_no_bound : PySem.W.nsIn K mainGlobals "_law_no_bound" = some (some (.ref f__law_no_bound))) (l__law_no_bound : K.lookup f__law_no_bound = some ⟨oc__law_no_bound, od__law_no_bound, .func (PySem.W.fnOf "_law_no_bound" "_law_no_bound" (defArgs s__law_no_bound) (defBody s__law_no_bound) (defScope s__law_no_bound) .none kV__law_no_bound dc__law_no_bound pm__law_no_bound an__law_no_bound cd__law_no_bound ct__law_no_bound), sl__law_no_bound⟩) (c__law_no_bound : PySem.W.codeIn K cd__law_no_bound "_law_no_bound" = true) (k__law_no_bound : PySem.W.keepIn K (.ref f__law_no_bound) = true)
    (a__law_no_comers : PySem.W.nsIn K mainGlobals "_law_no_comers" = some (some (.ref f__law_no_comers))) (l__law_no_comers : K.lookup f__law_no_comers = some ⟨oc__law_no_comers, od__law_no_comers, .func (PySem.W.fnOf "_law_no_comers" "_law_no_comers" (defArgs s__law_no_comers) (defBody s__law_no_comers) (defScope s__law_no_comers) .none kV__law_no_comers dc__law_no_comers pm__law_no_comers an__law_no_comers cd__law_no_comers ct__law_no_comers), sl__law_no_comers⟩) (c__law_no_comers : PySem.W.codeIn K cd__law_no_comers "_law_no_comers" = true) (k__law_no_comers : PySem.W.keepIn K (.ref f__law_no_comers) = true)
    (a__law_common : PySem.W.nsIn K mainGlobals "_law_common" = some (some (.ref f__law_common))) (l__law_common : K.lookup f__law_common = some ⟨oc__law_common, od__law_common, .func (PySem.W.fnOf "_law_common" "_law_common" (defArgs s__law_common) (defBody s__law_common) (defScope s__law_common) .none kV__law_common dc__law_common pm__law_common an__law_common cd__law_common ct__law_common), sl__law_common⟩) (c__law_common : PySem.W.codeIn K cd__law_common "_law_common" = true) (k__law_common : PySem.W.keepIn K (.ref f__law_common) = true)
    (a__law_word : PySem.W.nsIn K mainGlobals "_law_word" = some (some (.ref f__law_word))) (l__law_word : K.lookup f__law_word = some ⟨oc__law_word, od__law_word, .func (PySem.W.fnOf "_law_word" "_law_word" (defArgs s__law_word) (defBody s__law_word) (defScope s__law_word) .none kV__law_word dc__law_word pm__law_word an__law_word cd__law_word ct__law_word), sl__law_word⟩) (c__law_word : PySem.W.codeIn K cd__law_word "_law_word" = true) (k__law_word : PySem.W.keepIn K (.ref f__law_word) = true)
    (a__law_settles : PySem.W.nsIn K mainGlobals "_law_settles" = some (some (.ref f__law_settles))) (l__law_settles : K.lookup f__law_settles = some ⟨oc__law_settles, od__law_settles, .func (PySem.W.fnOf "_law_settles" "_law_settles" (defArgs s__law_settles) (defBody s__law_settles) (defScope s__law_settles) .none kV__law_settles dc__law_settles pm__law_settles an__law_settles cd__law_settles ct__law_settles), sl__law_settles⟩) (c__law_settles : PySem.W.codeIn K cd__law_settles "_law_settles" = true) (k__law_settles : PySem.W.keepIn K (.ref f__law_settles) = true)
    (a_law : PySem.W.nsIn K mainGlobals "law" = some (some (.ref f_law))) (l_law : K.lookup f_law = some ⟨oc_law, od_law, .func (PySem.W.fnOf "law" "law" (defArgs s_law) (defBody s_law) (defScope s_law) .none kV_law dc_law pm_law an_law cd_law ct_law), sl_law⟩) (c_law : PySem.W.codeIn K cd_law "law" = true) (k_law : PySem.W.keepIn K (.ref f_law) = true)
    (a_NoComers___init__ : PySem.W.findIn K (.ref c_NoComers) "__init__" = some (some (.ref f_NoComers___init__))) (i_NoComers___init__ : PySem.W.isFn K (.ref f_NoComers___init__) = true) (l_NoComers___init__ : K.lookup f_NoComers___init__ = some ⟨oc_NoComers___init__, od_NoComers___init__, .func (PySem.W.fnOf "__init__" "NoComers.__init__" (defArgs s_NoComers___init__) (defBody s_NoComers___init__) (defScope s_NoComers___init__) .none kV_NoComers___init__ dc_NoComers___init__ pm_NoComers___init__ an_NoComers___init__ cd_NoComers___init__ ct_NoComers___init__), sl_NoComers___init__⟩) (c_NoComers___init__ : PySem.W.codeIn K cd_NoComers___init__ "NoComers.__init__" = true) (k_NoComers___init__ : PySem.W.keepIn K (.ref f_NoComers___init__) = true)
    (a_NoBound___init__ : PySem.W.findIn K (.ref c_NoBound) "__init__" = some (some (.ref f_NoBound___init__))) (i_NoBound___init__ : PySem.W.isFn K (.ref f_NoBound___init__) = true) (l_NoBound___init__ : K.lookup f_NoBound___init__ = some ⟨oc_NoBound___init__, od_NoBound___init__, .func (PySem.W.fnOf "__init__" "NoBound.__init__" (defArgs s_NoBound___init__) (defBody s_NoBound___init__) (defScope s_NoBound___init__) .none kV_NoBound___init__ dc_NoBound___init__ pm_NoBound___init__ an_NoBound___init__ cd_NoBound___init__ ct_NoBound___init__), sl_NoBound___init__⟩) (c_NoBound___init__ : PySem.W.codeIn K cd_NoBound___init__ "NoBound.__init__" = true) (k_NoBound___init__ : PySem.W.keepIn K (.ref f_NoBound___init__) = true)
    (a_NoLong___init__ : PySem.W.findIn K (.ref c_NoLong) "__init__" = some (some (.ref f_NoLong___init__))) (i_NoLong___init__ : PySem.W.isFn K (.ref f_NoLong___init__) = true) (l_NoLong___init__ : K.lookup f_NoLong___init__ = some ⟨oc_NoLong___init__, od_NoLong___init__, .func (PySem.W.fnOf "__init__" "NoLong.__init__" (defArgs s_NoLong___init__) (defBody s_NoLong___init__) (defScope s_NoLong___init__) .none kV_NoLong___init__ dc_NoLong___init__ pm_NoLong___init__ an_NoLong___init__ cd_NoLong___init__ ct_NoLong___init__), sl_NoLong___init__⟩) (c_NoLong___init__ : PySem.W.codeIn K cd_NoLong___init__ "NoLong.__init__" = true) (k_NoLong___init__ : PySem.W.keepIn K (.ref f_NoLong___init__) = true)
    (z_all : PySem.W.nsIn K mainGlobals "all" = some none)
    (z_bool : PySem.W.nsIn K mainGlobals "bool" = some none)
    (z_enumerate : PySem.W.nsIn K mainGlobals "enumerate" = some none)
    (z_int : PySem.W.nsIn K mainGlobals "int" = some none)
    (z_isinstance : PySem.W.nsIn K mainGlobals "isinstance" = some none)
    (z_len : PySem.W.nsIn K mainGlobals "len" = some none)
    (z_list : PySem.W.nsIn K mainGlobals "list" = some none)
    (z_range : PySem.W.nsIn K mainGlobals "range" = some none)
    (z_sum : PySem.W.nsIn K mainGlobals "sum" = some none)
    (z_tuple : PySem.W.nsIn K mainGlobals "tuple" = some none)
    (y_MOST_BOUND : PySem.W.nsIn K mainGlobals "MOST_BOUND" = some (some (.int 60 t_MOST_BOUND)))
    (y_MOST_COMERS : PySem.W.nsIn K mainGlobals "MOST_COMERS" = some (some (.int 4 t_MOST_COMERS)))
    (y_MOST_PAIRS : PySem.W.nsIn K mainGlobals "MOST_PAIRS" = some (some (.int 20 t_MOST_PAIRS)))
    (y_MOST_ROUND : PySem.W.nsIn K mainGlobals "MOST_ROUND" = some (some (.int 60 t_MOST_ROUND)))
    (y_MOST_TICKS : PySem.W.nsIn K mainGlobals "MOST_TICKS" = some (some (.int 400 t_MOST_TICKS)))
    (y_gcd : PySem.W.nsIn K mainGlobals "gcd" = some (some (.builtin "math.gcd")))
    (y_LoopError : PySem.W.nsIn K mainGlobals "LoopError" = some (some (.ref c_LoopError)))
    (y_NoBound : PySem.W.nsIn K mainGlobals "NoBound" = some (some (.ref c_NoBound)))
    (y_NoComers : PySem.W.nsIn K mainGlobals "NoComers" = some (some (.ref c_NoComers)))
    (y_NoLong : PySem.W.nsIn K mainGlobals "NoLong" = some (some (.ref c_NoLong)))
    {nm_NoComers q_NoComers : Str} {N_NoComers : Addr} {bs_NoComers : List Value} {sn_NoComers : List Str} {sub_NoComers : List Value} {ab_NoComers : Bool} {col_NoComers : Option Bool} {dd_NoComers : Option Addr} {m0_NoComers m1_NoComers m2_NoComers m3_NoComers m5_NoComers : Option Value} {le_NoComers : Addr}
    (xL_NoComers : K.lookup c_NoComers = some (excClassObj nm_NoComers q_NoComers c_NoComers N_NoComers bs_NoComers [.ref le_NoComers, .type "ValueError", .type "Exception", .type "BaseException", .type "object"] true sn_NoComers sub_NoComers ab_NoComers col_NoComers dd_NoComers m0_NoComers m1_NoComers m2_NoComers m3_NoComers m5_NoComers "ValueError.__new__"))
    (sa_NoComers : PySem.W.findIn K (.ref c_NoComers) "__setattr__" = some (some (.builtin "object.__setattr__"))) (tf_NoComers : PySem.W.typeIn K (.ref f_NoComers___init__) = some (.type "function")) (kC_NoComers : PySem.W.keepIn K (.ref c_NoComers) = true) (eC_NoComers : PySem.W.subIn K (.ref c_NoComers) (.type "BaseException") = some true) (tC_NoComers : PySem.W.typeIn K (.ref c_NoComers) = some (.type "type")) (iC_NoComers : PySem.W.isClsIn K c_NoComers = true) (sC_NoComers : PySem.W.subIn K (.ref c_NoComers) (.ref c_NoComers) = some true)
    {nm_NoBound q_NoBound : Str} {N_NoBound : Addr} {bs_NoBound : List Value} {sn_NoBound : List Str} {sub_NoBound : List Value} {ab_NoBound : Bool} {col_NoBound : Option Bool} {dd_NoBound : Option Addr} {m0_NoBound m1_NoBound m2_NoBound m3_NoBound m5_NoBound : Option Value} {le_NoBound : Addr}
    (xL_NoBound : K.lookup c_NoBound = some (excClassObj nm_NoBound q_NoBound c_NoBound N_NoBound bs_NoBound [.ref le_NoBound, .type "ValueError", .type "Exception", .type "BaseException", .type "object"] true sn_NoBound sub_NoBound ab_NoBound col_NoBound dd_NoBound m0_NoBound m1_NoBound m2_NoBound m3_NoBound m5_NoBound "ValueError.__new__"))
    (sa_NoBound : PySem.W.findIn K (.ref c_NoBound) "__setattr__" = some (some (.builtin "object.__setattr__"))) (tf_NoBound : PySem.W.typeIn K (.ref f_NoBound___init__) = some (.type "function")) (kC_NoBound : PySem.W.keepIn K (.ref c_NoBound) = true) (eC_NoBound : PySem.W.subIn K (.ref c_NoBound) (.type "BaseException") = some true) (tC_NoBound : PySem.W.typeIn K (.ref c_NoBound) = some (.type "type")) (iC_NoBound : PySem.W.isClsIn K c_NoBound = true) (sC_NoBound : PySem.W.subIn K (.ref c_NoBound) (.ref c_NoBound) = some true)
    {nm_NoLong q_NoLong : Str} {N_NoLong : Addr} {bs_NoLong : List Value} {sn_NoLong : List Str} {sub_NoLong : List Value} {ab_NoLong : Bool} {col_NoLong : Option Bool} {dd_NoLong : Option Addr} {m0_NoLong m1_NoLong m2_NoLong m3_NoLong m5_NoLong : Option Value} {le_NoLong : Addr}
    (xL_NoLong : K.lookup c_NoLong = some (excClassObj nm_NoLong q_NoLong c_NoLong N_NoLong bs_NoLong [.ref le_NoLong, .type "ValueError", .type "Exception", .type "BaseException", .type "object"] true sn_NoLong sub_NoLong ab_NoLong col_NoLong dd_NoLong m0_NoLong m1_NoLong m2_NoLong m3_NoLong m5_NoLong "ValueError.__new__"))
    (sa_NoLong : PySem.W.findIn K (.ref c_NoLong) "__setattr__" = some (some (.builtin "object.__setattr__"))) (tf_NoLong : PySem.W.typeIn K (.ref f_NoLong___init__) = some (.type "function")) (kC_NoLong : PySem.W.keepIn K (.ref c_NoLong) = true) (eC_NoLong : PySem.W.subIn K (.ref c_NoLong) (.type "BaseException") = some true) (tC_NoLong : PySem.W.typeIn K (.ref c_NoLong) = some (.type "type")) (iC_NoLong : PySem.W.isClsIn K c_NoLong = true) (sC_NoLong : PySem.W.subIn K (.ref c_NoLong) (.ref c_NoLong) = some true)
    (xg_NoComers : PySem.W.findIn K (.ref c_NoComers) "__getattribute__" = some (some (.builtin "BaseException.__getattribute__"))) (xk_NoComers : PySem.W.findIn K (.ref c_NoComers) "__getattr__" = some none) (xd_NoComers : PySem.W.hasDictIn K c_NoComers = true) (xa_NoComers : PySem.W.findIn K (.ref c_NoComers) "__class__" = some (some (.builtin "object.__class__"))) (xn_NoComers : PySem.W.specialIn K (.builtin "object.__class__") "__get__" = some (some (.builtin "getset_descriptor.__get__"))) (xt_NoComers : PySem.W.takesIn K (.builtin "object.__class__") = some true) (xm_NoComers : PySem.W.mroIn K c_NoComers (.type "object") = some true) (xs_NoComers : PySem.W.subIn K (.ref c_NoComers) (.type "BaseException") = some true)
    (xg_NoBound : PySem.W.findIn K (.ref c_NoBound) "__getattribute__" = some (some (.builtin "BaseException.__getattribute__"))) (xk_NoBound : PySem.W.findIn K (.ref c_NoBound) "__getattr__" = some none) (xd_NoBound : PySem.W.hasDictIn K c_NoBound = true) (xa_NoBound : PySem.W.findIn K (.ref c_NoBound) "__class__" = some (some (.builtin "object.__class__"))) (xn_NoBound : PySem.W.specialIn K (.builtin "object.__class__") "__get__" = some (some (.builtin "getset_descriptor.__get__"))) (xt_NoBound : PySem.W.takesIn K (.builtin "object.__class__") = some true) (xm_NoBound : PySem.W.mroIn K c_NoBound (.type "object") = some true) (xs_NoBound : PySem.W.subIn K (.ref c_NoBound) (.type "BaseException") = some true)
    (xg_NoLong : PySem.W.findIn K (.ref c_NoLong) "__getattribute__" = some (some (.builtin "BaseException.__getattribute__"))) (xk_NoLong : PySem.W.findIn K (.ref c_NoLong) "__getattr__" = some none) (xd_NoLong : PySem.W.hasDictIn K c_NoLong = true) (xa_NoLong : PySem.W.findIn K (.ref c_NoLong) "__class__" = some (some (.builtin "object.__class__"))) (xn_NoLong : PySem.W.specialIn K (.builtin "object.__class__") "__get__" = some (some (.builtin "getset_descriptor.__get__"))) (xt_NoLong : PySem.W.takesIn K (.builtin "object.__class__") = some true) (xm_NoLong : PySem.W.mroIn K c_NoLong (.type "object") = some true) (xs_NoLong : PySem.W.subIn K (.ref c_NoLong) (.type "BaseException") = some true)
    (xg_LoopError : PySem.W.findIn K (.ref c_LoopError) "__getattribute__" = some (some (.builtin "BaseException.__getattribute__"))) (xk_LoopError : PySem.W.findIn K (.ref c_LoopError) "__getattr__" = some none) (xd_LoopError : PySem.W.hasDictIn K c_LoopError = true) (xa_LoopError : PySem.W.findIn K (.ref c_LoopError) "__class__" = some (some (.builtin "object.__class__"))) (xn_LoopError : PySem.W.specialIn K (.builtin "object.__class__") "__get__" = some (some (.builtin "getset_descriptor.__get__"))) (xt_LoopError : PySem.W.takesIn K (.builtin "object.__class__") = some true) (xm_LoopError : PySem.W.mroIn K c_LoopError (.type "object") = some true) (xs_LoopError : PySem.W.subIn K (.ref c_LoopError) (.type "BaseException") = some true)
    (ks_NoComers_LoopError : PySem.W.subIn K (.ref c_NoComers) (.ref c_LoopError) = some true) (kc_NoComers_LoopError : PySem.W.isClsIn K c_LoopError = true) (ky_NoComers_LoopError : PySem.W.typeIn K (.ref c_LoopError) = some (.type "type"))
    (ks_NoBound_LoopError : PySem.W.subIn K (.ref c_NoBound) (.ref c_LoopError) = some true) (kc_NoBound_LoopError : PySem.W.isClsIn K c_LoopError = true) (ky_NoBound_LoopError : PySem.W.typeIn K (.ref c_LoopError) = some (.type "type"))
    (ks_NoLong_LoopError : PySem.W.subIn K (.ref c_NoLong) (.ref c_LoopError) = some true) (kc_NoLong_LoopError : PySem.W.isClsIn K c_LoopError = true) (ky_NoLong_LoopError : PySem.W.typeIn K (.ref c_LoopError) = some (.type "type"))
    (ks_NoComers_NoComers : PySem.W.subIn K (.ref c_NoComers) (.ref c_NoComers) = some true) (kc_NoComers_NoComers : PySem.W.isClsIn K c_NoComers = true) (ky_NoComers_NoComers : PySem.W.typeIn K (.ref c_NoComers) = some (.type "type"))
    (ks_NoComers_NoBound : PySem.W.subIn K (.ref c_NoComers) (.ref c_NoBound) = some false) (kc_NoComers_NoBound : PySem.W.isClsIn K c_NoBound = true) (ky_NoComers_NoBound : PySem.W.typeIn K (.ref c_NoBound) = some (.type "type"))
    (kn_NoComers_NoBound : (Value.ref c_NoComers == Value.ref c_NoBound) = false)
    (ks_NoComers_NoLong : PySem.W.subIn K (.ref c_NoComers) (.ref c_NoLong) = some false) (kc_NoComers_NoLong : PySem.W.isClsIn K c_NoLong = true) (ky_NoComers_NoLong : PySem.W.typeIn K (.ref c_NoLong) = some (.type "type"))
    (kn_NoComers_NoLong : (Value.ref c_NoComers == Value.ref c_NoLong) = false)
    (ks_NoBound_NoComers : PySem.W.subIn K (.ref c_NoBound) (.ref c_NoComers) = some false) (kc_NoBound_NoComers : PySem.W.isClsIn K c_NoComers = true) (ky_NoBound_NoComers : PySem.W.typeIn K (.ref c_NoComers) = some (.type "type"))
    (kn_NoBound_NoComers : (Value.ref c_NoBound == Value.ref c_NoComers) = false)
    (ks_NoBound_NoBound : PySem.W.subIn K (.ref c_NoBound) (.ref c_NoBound) = some true) (kc_NoBound_NoBound : PySem.W.isClsIn K c_NoBound = true) (ky_NoBound_NoBound : PySem.W.typeIn K (.ref c_NoBound) = some (.type "type"))
    (ks_NoBound_NoLong : PySem.W.subIn K (.ref c_NoBound) (.ref c_NoLong) = some false) (kc_NoBound_NoLong : PySem.W.isClsIn K c_NoLong = true) (ky_NoBound_NoLong : PySem.W.typeIn K (.ref c_NoLong) = some (.type "type"))
    (kn_NoBound_NoLong : (Value.ref c_NoBound == Value.ref c_NoLong) = false)
    (ks_NoLong_NoComers : PySem.W.subIn K (.ref c_NoLong) (.ref c_NoComers) = some false) (kc_NoLong_NoComers : PySem.W.isClsIn K c_NoComers = true) (ky_NoLong_NoComers : PySem.W.typeIn K (.ref c_NoComers) = some (.type "type"))
    (kn_NoLong_NoComers : (Value.ref c_NoLong == Value.ref c_NoComers) = false)
    (ks_NoLong_NoBound : PySem.W.subIn K (.ref c_NoLong) (.ref c_NoBound) = some false) (kc_NoLong_NoBound : PySem.W.isClsIn K c_NoBound = true) (ky_NoLong_NoBound : PySem.W.typeIn K (.ref c_NoBound) = some (.type "type"))
    (kn_NoLong_NoBound : (Value.ref c_NoLong == Value.ref c_NoBound) = false)
    (ks_NoLong_NoLong : PySem.W.subIn K (.ref c_NoLong) (.ref c_NoLong) = some true) (kc_NoLong_NoLong : PySem.W.isClsIn K c_NoLong = true) (ky_NoLong_NoLong : PySem.W.typeIn K (.ref c_NoLong) = some (.type "type"))
    : ∃ T : Tx K mg, T.a_law = f_law ∧ T.d_law = PySem.W.fnOf "law" "law" (defArgs s_law) (defBody s_law) (defScope s_law) .none kV_law dc_law pm_law an_law cd_law ct_law :=
  ⟨{ a_is_integer := f_is_integer, d_is_integer := _, F_is_integer := fun_mk (st := s_is_integer) l_is_integer c_is_integer k_is_integer, b_is_integer := (fun_mk (st := s_is_integer) l_is_integer c_is_integer k_is_integer).binds (ps := ["thing"]) (fun _ _ _ _ _ _ us hl => match us, hl with | [_], _ => rfl), g_is_integer := PySem.W.mg_of X G a_is_integer,
     a_is_number := f_is_number, d_is_number := _, F_is_number := fun_mk (st := s_is_number) l_is_number c_is_number k_is_number, b_is_number := (fun_mk (st := s_is_number) l_is_number c_is_number k_is_number).binds (ps := ["thing", "least", "most"]) (fun _ _ _ _ _ _ us hl => match us, hl with | [_, _, _], _ => rfl), g_is_number := PySem.W.mg_of X G a_is_number,
     a_are_numbers := f_are_numbers, d_are_numbers := _, F_are_numbers := fun_mk (st := s_are_numbers) l_are_numbers c_are_numbers k_are_numbers, b_are_numbers := (fun_mk (st := s_are_numbers) l_are_numbers c_are_numbers k_are_numbers).binds (ps := ["things", "least", "most"]) (fun _ _ _ _ _ _ us hl => match us, hl with | [_, _, _], _ => rfl), g_are_numbers := PySem.W.mg_of X G a_are_numbers,
     a_is_comings := f_is_comings, d_is_comings := _, F_is_comings := fun_mk (st := s_is_comings) l_is_comings c_is_comings k_is_comings, b_is_comings := (fun_mk (st := s_is_comings) l_is_comings c_is_comings k_is_comings).binds (ps := ["comers", "thing"]) (fun _ _ _ _ _ _ us hl => match us, hl with | [_, _], _ => rfl), g_is_comings := PySem.W.mg_of X G a_is_comings,
     a_check_comers := f_check_comers, d_check_comers := _, F_check_comers := fun_mk (st := s_check_comers) l_check_comers c_check_comers k_check_comers, b_check_comers := (fun_mk (st := s_check_comers) l_check_comers c_check_comers k_check_comers).binds (ps := ["thing"]) (fun _ _ _ _ _ _ us hl => match us, hl with | [_], _ => rfl), g_check_comers := PySem.W.mg_of X G a_check_comers,
     a_check_bound := f_check_bound, d_check_bound := _, F_check_bound := fun_mk (st := s_check_bound) l_check_bound c_check_bound k_check_bound, b_check_bound := (fun_mk (st := s_check_bound) l_check_bound c_check_bound k_check_bound).binds (ps := ["thing"]) (fun _ _ _ _ _ _ us hl => match us, hl with | [_], _ => rfl), g_check_bound := PySem.W.mg_of X G a_check_bound,
     a_follow_line := f_follow_line, d_follow_line := _, F_follow_line := fun_mk (st := s_follow_line) l_follow_line c_follow_line k_follow_line, b_follow_line := (fun_mk (st := s_follow_line) l_follow_line c_follow_line k_follow_line).binds (ps := ["bound", "line", "comings"]) (fun _ _ _ _ _ _ us hl => match us, hl with | [_, _, _], _ => rfl), g_follow_line := PySem.W.mg_of X G a_follow_line,
     a_reduced := f_reduced, d_reduced := _, F_reduced := fun_mk (st := s_reduced) l_reduced c_reduced k_reduced, b_reduced := (fun_mk (st := s_reduced) l_reduced c_reduced k_reduced).binds (ps := ["top", "bottom"]) (fun _ _ _ _ _ _ us hl => match us, hl with | [_, _], _ => rfl), g_reduced := PySem.W.mg_of X G a_reduced,
     a_is_round := f_is_round, d_is_round := _, F_is_round := fun_mk (st := s_is_round) l_is_round c_is_round k_is_round, b_is_round := (fun_mk (st := s_is_round) l_is_round c_is_round k_is_round).binds (ps := ["comers", "thing"]) (fun _ _ _ _ _ _ us hl => match us, hl with | [_, _], _ => rfl), g_is_round := PySem.W.mg_of X G a_is_round,
     a_is_long_pair := f_is_long_pair, d_is_long_pair := _, F_is_long_pair := fun_mk (st := s_is_long_pair) l_is_long_pair c_is_long_pair k_is_long_pair, b_is_long_pair := (fun_mk (st := s_is_long_pair) l_is_long_pair c_is_long_pair k_is_long_pair).binds (ps := ["comers", "thing"]) (fun _ _ _ _ _ _ us hl => match us, hl with | [_, _], _ => rfl), g_is_long_pair := PySem.W.mg_of X G a_is_long_pair,
     a_check_long := f_check_long, d_check_long := _, F_check_long := fun_mk (st := s_check_long) l_check_long c_check_long k_check_long, b_check_long := (fun_mk (st := s_check_long) l_check_long c_check_long k_check_long).binds (ps := ["comers", "bound", "long"]) (fun _ _ _ _ _ _ us hl => match us, hl with | [_, _, _], _ => rfl), g_check_long := PySem.W.mg_of X G a_check_long,
     a_check_round := f_check_round, d_check_round := _, F_check_round := fun_mk (st := s_check_round) l_check_round c_check_round k_check_round, b_check_round := (fun_mk (st := s_check_round) l_check_round c_check_round k_check_round).binds (ps := ["comers", "bound", "comings"]) (fun _ _ _ _ _ _ us hl => match us, hl with | [_, _, _], _ => rfl), g_check_round := PySem.W.mg_of X G a_check_round,
     a_follow_round := f_follow_round, d_follow_round := _, F_follow_round := fun_mk (st := s_follow_round) l_follow_round c_follow_round k_follow_round, b_follow_round := (fun_mk (st := s_follow_round) l_follow_round c_follow_round k_follow_round).binds (ps := ["bound", "line", "comings"]) (fun _ _ _ _ _ _ us hl => match us, hl with | [_, _, _], _ => rfl), g_follow_round := PySem.W.mg_of X G a_follow_round,
     a_follow_long := f_follow_long, d_follow_long := _, F_follow_long := fun_mk (st := s_follow_long) l_follow_long c_follow_long k_follow_long, b_follow_long := (fun_mk (st := s_follow_long) l_follow_long c_follow_long k_follow_long).binds (ps := ["bound", "long"]) (fun _ _ _ _ _ _ us hl => match us, hl with | [_, _], _ => rfl), g_follow_long := PySem.W.mg_of X G a_follow_long,
     a_long_line := f_long_line, d_long_line := _, F_long_line := fun_mk (st := s_long_line) l_long_line c_long_line k_long_line, b_long_line := (fun_mk (st := s_long_line) l_long_line c_long_line k_long_line).binds (ps := ["comers", "bound", "long"]) (fun _ _ _ _ _ _ us hl => match us, hl with | [_, _, _], _ => rfl), g_long_line := PySem.W.mg_of X G a_long_line,
     a_long_counts := f_long_counts, d_long_counts := _, F_long_counts := fun_mk (st := s_long_counts) l_long_counts c_long_counts k_long_counts, b_long_counts := (fun_mk (st := s_long_counts) l_long_counts c_long_counts k_long_counts).binds (ps := ["comers", "bound", "long"]) (fun _ _ _ _ _ _ us hl => match us, hl with | [_, _, _], _ => rfl), g_long_counts := PySem.W.mg_of X G a_long_counts,
     a_settle := f_settle, d_settle := _, F_settle := fun_mk (st := s_settle) l_settle c_settle k_settle, b_settle := (fun_mk (st := s_settle) l_settle c_settle k_settle).binds (ps := ["bound", "comings"]) (fun _ _ _ _ _ _ us hl => match us, hl with | [_, _], _ => rfl), g_settle := PySem.W.mg_of X G a_settle,
     a_settled := f_settled, d_settled := _, F_settled := fun_mk (st := s_settled) l_settled c_settled k_settled, b_settled := (fun_mk (st := s_settled) l_settled c_settled k_settled).binds (ps := ["comers", "bound", "comings"]) (fun _ _ _ _ _ _ us hl => match us, hl with | [_, _, _], _ => rfl), g_settled := PySem.W.mg_of X G a_settled,
     a_lost_share := f_lost_share, d_lost_share := _, F_lost_share := fun_mk (st := s_lost_share) l_lost_share c_lost_share k_lost_share, b_lost_share := (fun_mk (st := s_lost_share) l_lost_share c_lost_share k_lost_share).binds (ps := ["comers", "bound", "comings"]) (fun _ _ _ _ _ _ us hl => match us, hl with | [_, _, _], _ => rfl), g_lost_share := PySem.W.mg_of X G a_lost_share,
     a__law_tape := f__law_tape, d__law_tape := _, F__law_tape := fun_mk (st := s__law_tape) l__law_tape c__law_tape k__law_tape, b__law_tape := (fun_mk (st := s__law_tape) l__law_tape c__law_tape k__law_tape).binds (ps := ["script"]) (fun _ _ _ _ _ _ us hl => match us, hl with | [_], _ => rfl), g__law_tape := PySem.W.mg_of X G a__law_tape,
     a__law_pick := f__law_pick, d__law_pick := _, F__law_pick := fun_mk (st := s__law_pick) l__law_pick c__law_pick k__law_pick, b__law_pick := (fun_mk (st := s__law_pick) l__law_pick c__law_pick k__law_pick).binds (ps := ["tape", "size"]) (fun _ _ _ _ _ _ us hl => match us, hl with | [_, _], _ => rfl), g__law_pick := PySem.W.mg_of X G a__law_pick,
     a__law_round := f__law_round, d__law_round := _, F__law_round := fun_mk (st := s__law_round) l__law_round c__law_round k__law_round, b__law_round := (fun_mk (st := s__law_round) l__law_round c__law_round k__law_round).binds (ps := ["bound", "line", "comings"]) (fun _ _ _ _ _ _ us hl => match us, hl with | [_, _, _], _ => rfl), g__law_round := PySem.W.mg_of X G a__law_round,
     a__law_short := f__law_short, d__law_short := _, F__law_short := fun_mk (st := s__law_short) l__law_short c__law_short k__law_short, b__law_short := (fun_mk (st := s__law_short) l__law_short c__law_short k__law_short).binds (ps := ["tape", "comers", "most"]) (fun _ _ _ _ _ _ us hl => match us, hl with | [_, _, _], _ => rfl), g__law_short := PySem.W.mg_of X G a__law_short,
     a__law_no_bound := f__law_no_bound, d__law_no_bound := _, F__law_no_bound := fun_mk (st := s__law_no_bound) l__law_no_bound c__law_no_bound k__law_no_bound, b__law_no_bound := (fun_mk (st := s__law_no_bound) l__law_no_bound c__law_no_bound k__law_no_bound).binds (ps := ["tape"]) (fun _ _ _ _ _ _ us hl => match us, hl with | [_], _ => rfl), g__law_no_bound := PySem.W.mg_of X G a__law_no_bound,
     a__law_no_comers := f__law_no_comers, d__law_no_comers := _, F__law_no_comers := fun_mk (st := s__law_no_comers) l__law_no_comers c__law_no_comers k__law_no_comers, b__law_no_comers := (fun_mk (st := s__law_no_comers) l__law_no_comers c__law_no_comers k__law_no_comers).binds (ps := ["tape"]) (fun _ _ _ _ _ _ us hl => match us, hl with | [_], _ => rfl), g__law_no_comers := PySem.W.mg_of X G a__law_no_comers,
     a__law_common := f__law_common, d__law_common := _, F__law_common := fun_mk (st := s__law_common) l__law_common c__law_common k__law_common, b__law_common := (fun_mk (st := s__law_common) l__law_common c__law_common k__law_common).binds (ps := ["one", "other"]) (fun _ _ _ _ _ _ us hl => match us, hl with | [_, _], _ => rfl), g__law_common := PySem.W.mg_of X G a__law_common,
     a__law_word := f__law_word, d__law_word := _, F__law_word := fun_mk (st := s__law_word) l__law_word c__law_word k__law_word, b__law_word := (fun_mk (st := s__law_word) l__law_word c__law_word k__law_word).binds (ps := ["which", "comers", "bound", "thing"]) (fun _ _ _ _ _ _ us hl => match us, hl with | [_, _, _, _], _ => rfl), g__law_word := PySem.W.mg_of X G a__law_word,
     a__law_settles := f__law_settles, d__law_settles := _, F__law_settles := fun_mk (st := s__law_settles) l__law_settles c__law_settles k__law_settles, b__law_settles := (fun_mk (st := s__law_settles) l__law_settles c__law_settles k__law_settles).binds (ps := ["comers", "bound", "comings"]) (fun _ _ _ _ _ _ us hl => match us, hl with | [_, _, _], _ => rfl), g__law_settles := PySem.W.mg_of X G a__law_settles,
     a_law := f_law, d_law := _, F_law := fun_mk (st := s_law) l_law c_law k_law, b_law := (fun_mk (st := s_law) l_law c_law k_law).binds (ps := ["script"]) (fun _ _ _ _ _ _ us hl => match us, hl with | [_], _ => rfl), g_law := PySem.W.mg_of X G a_law,
     m_all := PySem.W.mg_none_of X G z_all,
     m_bool := PySem.W.mg_none_of X G z_bool,
     m_enumerate := PySem.W.mg_none_of X G z_enumerate,
     m_int := PySem.W.mg_none_of X G z_int,
     m_isinstance := PySem.W.mg_none_of X G z_isinstance,
     m_len := PySem.W.mg_none_of X G z_len,
     m_list := PySem.W.mg_none_of X G z_list,
     m_range := PySem.W.mg_none_of X G z_range,
     m_sum := PySem.W.mg_none_of X G z_sum,
     m_tuple := PySem.W.mg_none_of X G z_tuple,
     t_MOST_BOUND := t_MOST_BOUND, g_MOST_BOUND := PySem.W.mg_of X G y_MOST_BOUND,
     t_MOST_COMERS := t_MOST_COMERS, g_MOST_COMERS := PySem.W.mg_of X G y_MOST_COMERS,
     t_MOST_PAIRS := t_MOST_PAIRS, g_MOST_PAIRS := PySem.W.mg_of X G y_MOST_PAIRS,
     t_MOST_ROUND := t_MOST_ROUND, g_MOST_ROUND := PySem.W.mg_of X G y_MOST_ROUND,
     t_MOST_TICKS := t_MOST_TICKS, g_MOST_TICKS := PySem.W.mg_of X G y_MOST_TICKS,
     g_gcd := PySem.W.mg_of X G y_gcd,
     c_LoopError := c_LoopError, g_LoopError := PySem.W.mg_of X G y_LoopError,
     c_NoBound := c_NoBound, g_NoBound := PySem.W.mg_of X G y_NoBound,
     c_NoComers := c_NoComers, g_NoComers := PySem.W.mg_of X G y_NoComers,
     c_NoLong := c_NoLong, g_NoLong := PySem.W.mg_of X G y_NoLong,
     a_NoComers___init__ := f_NoComers___init__, d_NoComers___init__ := _, F_NoComers___init__ := fun_mk (st := s_NoComers___init__) l_NoComers___init__ c_NoComers___init__ k_NoComers___init__, b_NoComers___init__ := (fun_mk (st := s_NoComers___init__) l_NoComers___init__ c_NoComers___init__ k_NoComers___init__).binds (ps := ["self"]) (fun _ _ _ _ _ _ us hl => match us, hl with | [_], _ => rfl),
     x_NoComers := ⟨⟨nm_NoComers, q_NoComers, N_NoComers, bs_NoComers, _, sn_NoComers, sub_NoComers, ab_NoComers, col_NoComers, dd_NoComers, m0_NoComers, m1_NoComers, m2_NoComers, m3_NoComers, m5_NoComers, xL_NoComers, rfl⟩, sa_NoComers, eC_NoComers, tC_NoComers, kC_NoComers⟩, i_NoComers := a_NoComers___init__, ti_NoComers := tf_NoComers, e_NoComers := exm_self eC_NoComers iC_NoComers tC_NoComers sC_NoComers,
     a_NoBound___init__ := f_NoBound___init__, d_NoBound___init__ := _, F_NoBound___init__ := fun_mk (st := s_NoBound___init__) l_NoBound___init__ c_NoBound___init__ k_NoBound___init__, b_NoBound___init__ := (fun_mk (st := s_NoBound___init__) l_NoBound___init__ c_NoBound___init__ k_NoBound___init__).binds (ps := ["self"]) (fun _ _ _ _ _ _ us hl => match us, hl with | [_], _ => rfl),
     x_NoBound := ⟨⟨nm_NoBound, q_NoBound, N_NoBound, bs_NoBound, _, sn_NoBound, sub_NoBound, ab_NoBound, col_NoBound, dd_NoBound, m0_NoBound, m1_NoBound, m2_NoBound, m3_NoBound, m5_NoBound, xL_NoBound, rfl⟩, sa_NoBound, eC_NoBound, tC_NoBound, kC_NoBound⟩, i_NoBound := a_NoBound___init__, ti_NoBound := tf_NoBound, e_NoBound := exm_self eC_NoBound iC_NoBound tC_NoBound sC_NoBound,
     a_NoLong___init__ := f_NoLong___init__, d_NoLong___init__ := _, F_NoLong___init__ := fun_mk (st := s_NoLong___init__) l_NoLong___init__ c_NoLong___init__ k_NoLong___init__, b_NoLong___init__ := (fun_mk (st := s_NoLong___init__) l_NoLong___init__ c_NoLong___init__ k_NoLong___init__).binds (ps := ["self"]) (fun _ _ _ _ _ _ us hl => match us, hl with | [_], _ => rfl),
     x_NoLong := ⟨⟨nm_NoLong, q_NoLong, N_NoLong, bs_NoLong, _, sn_NoLong, sub_NoLong, ab_NoLong, col_NoLong, dd_NoLong, m0_NoLong, m1_NoLong, m2_NoLong, m3_NoLong, m5_NoLong, xL_NoLong, rfl⟩, sa_NoLong, eC_NoLong, tC_NoLong, kC_NoLong⟩, i_NoLong := a_NoLong___init__, ti_NoLong := tf_NoLong, e_NoLong := exm_self eC_NoLong iC_NoLong tC_NoLong sC_NoLong,
     ec_NoComers := ⟨xg_NoComers, xk_NoComers, xs_NoComers, xd_NoComers, xa_NoComers, xn_NoComers, xt_NoComers, xm_NoComers⟩,
     ec_NoBound := ⟨xg_NoBound, xk_NoBound, xs_NoBound, xd_NoBound, xa_NoBound, xn_NoBound, xt_NoBound, xm_NoBound⟩,
     ec_NoLong := ⟨xg_NoLong, xk_NoLong, xs_NoLong, xd_NoLong, xa_NoLong, xn_NoLong, xt_NoLong, xm_NoLong⟩,
     ec_LoopError := ⟨xg_LoopError, xk_LoopError, xs_LoopError, xd_LoopError, xa_LoopError, xn_LoopError, xt_LoopError, xm_LoopError⟩,
     kt_NoComers_LoopError := EX6.kit_own ks_NoComers_LoopError kc_NoComers_LoopError ky_NoComers_LoopError,
     kt_NoBound_LoopError := EX6.kit_own ks_NoBound_LoopError kc_NoBound_LoopError ky_NoBound_LoopError,
     kt_NoLong_LoopError := EX6.kit_own ks_NoLong_LoopError kc_NoLong_LoopError ky_NoLong_LoopError,
     kt_NoComers_NoComers := EX6.kit_own ks_NoComers_NoComers kc_NoComers_NoComers ky_NoComers_NoComers,
     kt_NoComers_NoBound := EX6.kit_ownN ks_NoComers_NoBound kc_NoComers_NoBound ky_NoComers_NoBound kn_NoComers_NoBound,
     kt_NoComers_NoLong := EX6.kit_ownN ks_NoComers_NoLong kc_NoComers_NoLong ky_NoComers_NoLong kn_NoComers_NoLong,
     kt_NoBound_NoComers := EX6.kit_ownN ks_NoBound_NoComers kc_NoBound_NoComers ky_NoBound_NoComers kn_NoBound_NoComers,
     kt_NoBound_NoBound := EX6.kit_own ks_NoBound_NoBound kc_NoBound_NoBound ky_NoBound_NoBound,
     kt_NoBound_NoLong := EX6.kit_ownN ks_NoBound_NoLong kc_NoBound_NoLong ky_NoBound_NoLong kn_NoBound_NoLong,
     kt_NoLong_NoComers := EX6.kit_ownN ks_NoLong_NoComers kc_NoLong_NoComers ky_NoLong_NoComers kn_NoLong_NoComers,
     kt_NoLong_NoBound := EX6.kit_ownN ks_NoLong_NoBound kc_NoLong_NoBound ky_NoLong_NoBound kn_NoLong_NoBound,
     kt_NoLong_NoLong := EX6.kit_own ks_NoLong_NoLong kc_NoLong_NoLong ky_NoLong_NoLong,
     xm_NoComers_LoopError := PySem.W.exm_ref xs_LoopError xd_LoopError ky_NoComers_LoopError ks_NoComers_LoopError,
     xm_NoBound_LoopError := PySem.W.exm_ref xs_LoopError xd_LoopError ky_NoBound_LoopError ks_NoBound_LoopError,
     xm_NoLong_LoopError := PySem.W.exm_ref xs_LoopError xd_LoopError ky_NoLong_LoopError ks_NoLong_LoopError }, rfl, rfl⟩
end My
open PySem PySem.W PyProof.Rows
set_option maxHeartbeats 0 in
theorem PySem.Challenge.cw_loopstore_k98_whole_settled_lines_holds : PySem.Challenge.rw_loopstore_k98_whole_settled_lines.Holds := by
  w_on; o_law; k_head; (case hw => w_witness2)
  k_fill
  refine L2.walk_of (l := PySem.Challenge.rw_loopstore_k98_whole_settled_lines) (n := 63) (k := My.lawLevel) (x := "script") (CX := fun _ => L2.CX0) (sp := fun w => My.spLaw _) rfl (by decide) rfl ⟨rfl, by decide, by decide⟩ (fun w h Y => PySem.W.kIn_of Y) ?F (fun _ _ a ns hl _ hS => ⟨a, ns, rfl, hS, hl, fun _ => rfl⟩) (fun _ _ _ _ _ h => h)
  case F =>
    intro w mg fa h KX G hmg
    refine' My.fin_mk KX G hmg (My.all_mk (w := w) KX G ?a_is_integer ?l_is_integer ?c_is_integer ?k_is_integer ?a_is_number ?l_is_number ?c_is_number ?k_is_number ?a_are_numbers ?l_are_numbers ?c_are_numbers ?k_are_numbers ?a_is_comings ?l_is_comings ?c_is_comings ?k_is_comings ?a_check_comers ?l_check_comers ?c_check_comers ?k_check_comers ?a_check_bound ?l_check_bound ?c_check_bound ?k_check_bound ?a_follow_line ?l_follow_line ?c_follow_line ?k_follow_line ?a_reduced ?l_reduced ?c_reduced ?k_reduced ?a_is_round ?l_is_round ?c_is_round ?k_is_round ?a_is_long_pair ?l_is_long_pair ?c_is_long_pair ?k_is_long_pair ?a_check_long ?l_check_long ?c_check_long ?k_check_long ?a_check_round ?l_check_round ?c_check_round ?k_check_round ?a_follow_round ?l_follow_round ?c_follow_round ?k_follow_round ?a_follow_long ?l_follow_long ?c_follow_long ?k_follow_long ?a_long_line ?l_long_line ?c_long_line ?k_long_line ?a_long_counts ?l_long_counts ?c_long_counts ?k_long_counts ?a_settle ?l_settle ?c_settle ?k_settle ?a_settled ?l_settled ?c_settled ?k_settled ?a_lost_share ?l_lost_share ?c_lost_share ?k_lost_share ?a__law_tape ?l__law_tape ?c__law_tape ?k__law_tape ?a__law_pick ?l__law_pick ?c__law_pick ?k__law_pick ?a__law_round ?l__law_round ?c__law_round ?k__law_round ?a__law_short ?l__law_short ?c__law_short ?k__law_short ?a__law_no_bound ?l__law_no_bound ?c__law_no_bound ?k__law_no_bound ?a__law_no_comers ?l__law_no_comers ?c__law_no_comers ?k__law_no_comers ?a__law_common ?l__law_common ?c__law_common ?k__law_common ?a__law_word ?l__law_word ?c__law_word ?k__law_word ?a__law_settles ?l__law_settles ?c__law_settles ?k__law_settles ?a_law ?l_law ?c_law ?k_law ?a_NoComers___init__ ?i_NoComers___init__ ?l_NoComers___init__ ?c_NoComers___init__ ?k_NoComers___init__ ?a_NoBound___init__ ?i_NoBound___init__ ?l_NoBound___init__ ?c_NoBound___init__ ?k_NoBound___init__ ?a_NoLong___init__ ?i_NoLong___init__ ?l_NoLong___init__ ?c_NoLong___init__ ?k_NoLong___init__ ?z_all ?z_bool ?z_enumerate ?z_int ?z_isinstance ?z_len ?z_list ?z_range ?z_sum ?z_tuple ?y_MOST_BOUND ?y_MOST_COMERS ?y_MOST_PAIRS ?y_MOST_ROUND ?y_MOST_TICKS ?y_gcd ?y_LoopError ?y_NoBound ?y_NoComers ?y_NoLong ?xL_NoComers ?sa_NoComers ?tf_NoComers ?kC_NoComers ?eC_NoComers ?tC_NoComers ?iC_NoComers ?sC_NoComers ?xL_NoBound ?sa_NoBound ?tf_NoBound ?kC_NoBound ?eC_NoBound ?tC_NoBound ?iC_NoBound ?sC_NoBound ?xL_NoLong ?sa_NoLong ?tf_NoLong ?kC_NoLong ?eC_NoLong ?tC_NoLong ?iC_NoLong ?sC_NoLong ?xg_NoComers ?xk_NoComers ?xd_NoComers ?xa_NoComers ?xn_NoComers ?xt_NoComers ?xm_NoComers ?xs_NoComers ?xg_NoBound ?xk_NoBound ?xd_NoBound ?xa_NoBound ?xn_NoBound ?xt_NoBound ?xm_NoBound ?xs_NoBound ?xg_NoLong ?xk_NoLong ?xd_NoLong ?xa_NoLong ?xn_NoLong ?xt_NoLong ?xm_NoLong ?xs_NoLong ?xg_LoopError ?xk_LoopError ?xd_LoopError ?xa_LoopError ?xn_LoopError ?xt_LoopError ?xm_LoopError ?xs_LoopError ?ks_NoComers_LoopError ?kc_NoComers_LoopError ?ky_NoComers_LoopError ?ks_NoBound_LoopError ?kc_NoBound_LoopError ?ky_NoBound_LoopError ?ks_NoLong_LoopError ?kc_NoLong_LoopError ?ky_NoLong_LoopError ?ks_NoComers_NoComers ?kc_NoComers_NoComers ?ky_NoComers_NoComers ?ks_NoComers_NoBound ?kc_NoComers_NoBound ?ky_NoComers_NoBound ?kn_NoComers_NoBound ?ks_NoComers_NoLong ?kc_NoComers_NoLong ?ky_NoComers_NoLong ?kn_NoComers_NoLong ?ks_NoBound_NoComers ?kc_NoBound_NoComers ?ky_NoBound_NoComers ?kn_NoBound_NoComers ?ks_NoBound_NoBound ?kc_NoBound_NoBound ?ky_NoBound_NoBound ?ks_NoBound_NoLong ?kc_NoBound_NoLong ?ky_NoBound_NoLong ?kn_NoBound_NoLong ?ks_NoLong_NoComers ?kc_NoLong_NoComers ?ky_NoLong_NoComers ?kn_NoLong_NoComers ?ks_NoLong_NoBound ?kc_NoLong_NoBound ?ky_NoLong_NoBound ?kn_NoLong_NoBound ?ks_NoLong_NoLong ?kc_NoLong_NoLong ?ky_NoLong_NoLong)
    (case y_LoopError => k_is); (case y_NoBound => k_is); (case y_NoComers => k_is); (case y_NoLong => k_is); (case a_is_integer => k_is); (case l_is_integer => k_is); (case c_is_integer => k_is); (case k_is_integer => k_is); (case a_is_number => k_is); (case l_is_number => k_is); (case c_is_number => k_is); (case k_is_number => k_is); (case a_are_numbers => k_is); (case l_are_numbers => k_is); (case c_are_numbers => k_is); (case k_are_numbers => k_is); (case a_is_comings => k_is); (case l_is_comings => k_is); (case c_is_comings => k_is); (case k_is_comings => k_is); (case a_check_comers => k_is); (case l_check_comers => k_is); (case c_check_comers => k_is); (case k_check_comers => k_is); (case a_check_bound => k_is); (case l_check_bound => k_is); (case c_check_bound => k_is); (case k_check_bound => k_is); (case a_follow_line => k_is); (case l_follow_line => k_is); (case c_follow_line => k_is); (case k_follow_line => k_is); (case a_reduced => k_is); (case l_reduced => k_is); (case c_reduced => k_is); (case k_reduced => k_is); (case a_is_round => k_is); (case l_is_round => k_is); (case c_is_round => k_is); (case k_is_round => k_is); (case a_is_long_pair => k_is); (case l_is_long_pair => k_is); (case c_is_long_pair => k_is); (case k_is_long_pair => k_is); (case a_check_long => k_is); (case l_check_long => k_is); (case c_check_long => k_is); (case k_check_long => k_is); (case a_check_round => k_is); (case l_check_round => k_is); (case c_check_round => k_is); (case k_check_round => k_is); (case a_follow_round => k_is); (case l_follow_round => k_is); (case c_follow_round => k_is); (case k_follow_round => k_is); (case a_follow_long => k_is); (case l_follow_long => k_is); (case c_follow_long => k_is); (case k_follow_long => k_is); (case a_long_line => k_is); (case l_long_line => k_is); (case c_long_line => k_is); (case k_long_line => k_is); (case a_long_counts => k_is); (case l_long_counts => k_is); (case c_long_counts => k_is); (case k_long_counts => k_is); (case a_settle => k_is); (case l_settle => k_is); (case c_settle => k_is); (case k_settle => k_is); (case a_settled => k_is); (case l_settled => k_is); (case c_settled => k_is); (case k_settled => k_is); (case a_lost_share => k_is); (case l_lost_share => k_is); (case c_lost_share => k_is); (case k_lost_share => k_is); (case a__law_tape => k_is); (case l__law_tape => k_is); (case c__law_tape => k_is); (case k__law_tape => k_is); (case a__law_pick => k_is); (case l__law_pick => k_is); (case c__law_pick => k_is); (case k__law_pick => k_is); (case a__law_round => k_is); (case l__law_round => k_is); (case c__law_round => k_is); (case k__law_round => k_is); (case a__law_short => k_is); (case l__law_short => k_is); (case c__law_short => k_is); (case k__law_short => k_is); (case a__law_no_bound => k_is); (case l__law_no_bound => k_is); (case c__law_no_bound => k_is); (case k__law_no_bound => k_is); (case a__law_no_comers => k_is); (case l__law_no_comers => k_is); (case c__law_no_comers => k_is); (case k__law_no_comers => k_is); (case a__law_common => k_is); (case l__law_common => k_is); (case c__law_common => k_is); (case k__law_common => k_is); (case a__law_word => k_is); (case l__law_word => k_is); (case c__law_word => k_is); (case k__law_word => k_is); (case a__law_settles => k_is); (case l__law_settles => k_is); (case c__law_settles => k_is); (case k__law_settles => k_is); (case a_law => k_is); (case l_law => k_is); (case c_law => k_is); (case k_law => k_is); (case a_NoComers___init__ => k_is); (case i_NoComers___init__ => k_is); (case l_NoComers___init__ => k_is); (case c_NoComers___init__ => k_is); (case k_NoComers___init__ => k_is); (case a_NoBound___init__ => k_is); (case i_NoBound___init__ => k_is); (case l_NoBound___init__ => k_is); (case c_NoBound___init__ => k_is); (case k_NoBound___init__ => k_is); (case a_NoLong___init__ => k_is); (case i_NoLong___init__ => k_is); (case l_NoLong___init__ => k_is); (case c_NoLong___init__ => k_is); (case k_NoLong___init__ => k_is); (case z_all => k_is); (case z_bool => k_is); (case z_enumerate => k_is); (case z_int => k_is); (case z_isinstance => k_is); (case z_len => k_is); (case z_list => k_is); (case z_range => k_is); (case z_sum => k_is); (case z_tuple => k_is); (case y_MOST_BOUND => k_is); (case y_MOST_COMERS => k_is); (case y_MOST_PAIRS => k_is); (case y_MOST_ROUND => k_is); (case y_MOST_TICKS => k_is); (case y_gcd => k_is); (case xL_NoComers => k_is); (case sa_NoComers => k_is); (case tf_NoComers => k_is); (case kC_NoComers => k_is); (case eC_NoComers => k_is); (case tC_NoComers => k_is); (case iC_NoComers => k_is); (case sC_NoComers => k_is); (case xL_NoBound => k_is); (case sa_NoBound => k_is); (case tf_NoBound => k_is); (case kC_NoBound => k_is); (case eC_NoBound => k_is); (case tC_NoBound => k_is); (case iC_NoBound => k_is); (case sC_NoBound => k_is); (case xL_NoLong => k_is); (case sa_NoLong => k_is); (case tf_NoLong => k_is); (case kC_NoLong => k_is); (case eC_NoLong => k_is); (case tC_NoLong => k_is); (case iC_NoLong => k_is); (case sC_NoLong => k_is); (case xg_NoComers => k_is); (case xk_NoComers => k_is); (case xd_NoComers => k_is); (case xa_NoComers => k_is); (case xn_NoComers => k_is); (case xt_NoComers => k_is); (case xm_NoComers => k_is); (case xs_NoComers => k_is); (case xg_NoBound => k_is); (case xk_NoBound => k_is); (case xd_NoBound => k_is); (case xa_NoBound => k_is); (case xn_NoBound => k_is); (case xt_NoBound => k_is); (case xm_NoBound => k_is); (case xs_NoBound => k_is); (case xg_NoLong => k_is); (case xk_NoLong => k_is); (case xd_NoLong => k_is); (case xa_NoLong => k_is); (case xn_NoLong => k_is); (case xt_NoLong => k_is); (case xm_NoLong => k_is); (case xs_NoLong => k_is); (case xg_LoopError => k_is); (case xk_LoopError => k_is); (case xd_LoopError => k_is); (case xa_LoopError => k_is); (case xn_LoopError => k_is); (case xt_LoopError => k_is); (case xm_LoopError => k_is); (case xs_LoopError => k_is); (case ks_NoComers_LoopError => k_is); (case kc_NoComers_LoopError => k_is); (case ky_NoComers_LoopError => k_is); (case ks_NoBound_LoopError => k_is); (case kc_NoBound_LoopError => k_is); (case ky_NoBound_LoopError => k_is); (case ks_NoLong_LoopError => k_is); (case kc_NoLong_LoopError => k_is); (case ky_NoLong_LoopError => k_is); (case ks_NoComers_NoComers => k_is); (case kc_NoComers_NoComers => k_is); (case ky_NoComers_NoComers => k_is); (case ks_NoComers_NoBound => k_is); (case kc_NoComers_NoBound => k_is); (case ky_NoComers_NoBound => k_is); (case kn_NoComers_NoBound => decide); (case ks_NoComers_NoLong => k_is); (case kc_NoComers_NoLong => k_is); (case ky_NoComers_NoLong => k_is); (case kn_NoComers_NoLong => decide); (case ks_NoBound_NoComers => k_is); (case kc_NoBound_NoComers => k_is); (case ky_NoBound_NoComers => k_is); (case kn_NoBound_NoComers => decide); (case ks_NoBound_NoBound => k_is); (case kc_NoBound_NoBound => k_is); (case ky_NoBound_NoBound => k_is); (case ks_NoBound_NoLong => k_is); (case kc_NoBound_NoLong => k_is); (case ky_NoBound_NoLong => k_is); (case kn_NoBound_NoLong => decide); (case ks_NoLong_NoComers => k_is); (case kc_NoLong_NoComers => k_is); (case ky_NoLong_NoComers => k_is); (case kn_NoLong_NoComers => decide); (case ks_NoLong_NoBound => k_is); (case kc_NoLong_NoBound => k_is); (case ky_NoLong_NoBound => k_is); (case kn_NoLong_NoBound => decide); (case ks_NoLong_NoLong => k_is); (case kc_NoLong_NoLong => k_is); (case ky_NoLong_NoLong => k_is)

