import PyProof.Rows.All
import Wide.All
import OpenK.AllK
import Wide.FinOn
import HandS.ForMost
import HandS.More
import HandS.TupMul
import HandS.TupAny
import HandS.IsInst
import HandS.Codes
import HandS.TupSets
import HandS.DictTup
import KE.SortData
import KE.KDictKeyed
import HandS.Strs
import HandS.ExcCtx
import HandS.Wide
import HandS.Deep
import HandS.DictComp
import HandS.SetBool
import HandS.SortInts
import HandS.TupLen
import HandS.Conv
import HandS.Text
import HandS.Zip
import HandS.Flow
import KE.GoesMore
import KE.GoesEnum
import HandS.SetFor
import HandS.Small
import HandS.Style
import HandS.SortKw
import HandS.CallLocal
import HandS.Exc
import HandS.ExcOwn
import HandS.WordsExc
import KE.KExcIs
import HandS.ExcField
import HandS.ExcInit
import KE.KExcSuper
import HandS.ExcValue
import PyProof.StrBlock2
import HandS.Hot
import HandS.ReplaceLit
import HandS.TupLe
import HandS.SetKeys
import HandS.Flt
import PyProof.Rows.StrAscii2
import HandS.Ends
import KE.RegKSuper
import PySem.Challenge.RW_norowstray_k03_rings_of_inclusions
set_option Elab.async false
set_option linter.all false
set_option maxRecDepth 100000
set_option backward.match.sparseCases false
set_option maxHeartbeats 4000000
/-! Rules of our own over the layer: sorted of a set of tuples of ints of either sign. -/
namespace NR
open PySem PySem.Spec PyProof.Rows L2

/-- what is a permutation of a map is a map of a permutation -/
theorem PermMap.lift {α β : Type} {f : α → β} : ∀ {vs us : List β}, vs.Perm us → ∀ {L : List α}, us = L.map f → ∃ L1 : List α, vs = L1.map f ∧ L1.Perm L := by
  intro vs us h
  induction h with
  | nil =>
    intro L e
    cases L with
    | nil => exact ⟨[], rfl, .nil⟩
    | cons x r => cases e
  | cons x _ ih =>
    intro L e
    cases L with
    | nil => cases e
    | cons y r =>
      injection e with e1 e2
      obtain ⟨L1, h1, h2⟩ := ih e2
      exact ⟨y :: L1, by rw [List.map_cons, ← h1, e1], h2.cons y⟩
  | swap x y l =>
    intro L e
    match L, e with
    | a :: b :: r, e =>
      injection e with e1 e2
      injection e2 with e2 e3
      exact ⟨b :: a :: r, by rw [List.map_cons, List.map_cons, ← e1, ← e2, ← e3], .swap a b r⟩
  | trans _ _ ih1 ih2 =>
    intro L e
    obtain ⟨L2, h1, h2⟩ := ih2 e
    obtain ⟨L3, h3, h4⟩ := ih1 h1
    exact ⟨L3, h3, h4.trans h2⟩
/-- a pair of an address and its tuple, as data -/
def encP (p : Addr × List Int) : PyData := .tuple (p.2.map .int)
theorem encP_le (p q : Addr × List Int) : PySem.W.dataLe false encP p q = decide (p.2 ≤ q.2) := by
  show (!PySem.W.dataLt (encP q) (encP p)) = _
  unfold encP
  rw [PySem.W.dataLt_tuple]
  show (!PySem.W.rowLt (q.2.map .int) (p.2.map .int)) = _
  rw [PySem.W.dataLt_ints]
  by_cases h : q.2 < p.2
  · rw [decide_eq_true h, decide_eq_false (fun r => List.not_lt.mpr r h)]
    rfl
  · rw [decide_eq_false h, decide_eq_true (List.not_lt.mp h)]
    rfl
theorem encP_depth (p : Addr × List Int) : (encP p).depth ≤ 1 := by
  unfold encP
  simp only [PyData.depth]
  rw [PySem.W.depth_ints]
  exact Nat.le_refl _
theorem list_lt_of_le {a b : List Int} (h : a ≤ b) (n : a ≠ b) : a < b := by
  rcases List.le_iff_lt_or_eq.mp h with z | z
  · exact z
  · exact absurd z n

section
variable {P : Program} {w : World} {A : Around} {E : Value → Shared → Prop} {s : Shared}
theorem reads_row {h : Heap} {k : List Int} {b : Addr} (x : L2.IsT P w h k b) : ∃ as, Reads h (.ref b) (.tuple (k.map .int)) as ∧ ∀ c, (∀ o, h.get? c = some o → o.cls = .type "list") → c ∉ as := by
  obtain ⟨o, items, n, ho, hc, hd, hi⟩ := x
  have go : ∀ (k : List Int) (vs : List Value), ItemsAre (intKind P w) k vs → ReadsAll h vs (k.map .int) [] := by
    intro k vs hi
    induction hi with
    | nil => exact .nil
    | @cons a v ks vs' hv _ ih =>
      obtain ⟨t, rfl⟩ := Value.isInt_shape hv
      exact .cons (.int a t) ih
  exact ⟨[], .tuple ho hc hd (go k _ hi), fun c _ hm => by cases hm⟩

/-- sorted of such a set, from the set's own table -/
theorem sorted_set_ints {a : Addr} {L : List (Addr × List Int)} {es : Array (Int × Value)} {ep : Nat} {t : SetTable} {Q : Value → Shared → Prop} (R : L2.SetTR P w s.heap a L es ep t) (hh : A.handled = none) (hu : A.units + 64 < cLine)
    (hne : ∀ p ∈ L, p.2 ≠ [])
    (hQ : ∀ s' p (out : Array Value) (c : Nat) (L' : List (Addr × List Int)), (∀ b o, s.heap.get? b = some o → s'.heap.get? b = some o) → s'.gens = s.gens → s'.os = s.os → s.heap.objs.size ≤ p →
      s'.heap.get? p = some (seqObj "list" out c) → out.toList = L'.map (fun q => Value.ref q.1) → L'.Perm L → L'.Pairwise (fun q r => q.2 < r.2) → Q (.ref p) s') :
    wpAny (model P w) A (call (.builtin "sorted") [.ref a]) Q E s := by
  have hob := R.ob
  have few := R.few
  have nL : L.Nodup := L2.nodup_of_map R.nd
  obtain ⟨o, ho, hex, hd⟩ := hob
  refine Calls.call_function_entry kind_sorted plain_sorted entry_sorted (args_sorted1 _) ?_; unfold Builtin.«sorted»
  refine wpAny_bind (m := checkCount "sorted" 1 1 _) (wpAny_pure ?_)
  refine wpAny_bind (L2.collect_set (A := A.in1) hh ⟨o, ho, hex.1, hd⟩ R.fits (by have z := R.size; unfold scanBound; omega) R.tab.ris R.led fun s1 vs keep hz hg hos pm => ?_)
  -- the values collected are the addresses of the set's rows
  have er : es.toList.map (·.2) = L.map fun q => Value.ref q.1 := by
    rw [R.rows]; unfold L2.rowsOf; rw [List.map_map]; rfl
  rw [er] at pm
  obtain ⟨L1, e1, p1⟩ : ∃ L1 : List (Addr × List Int), vs = L1.map (fun q => Value.ref q.1) ∧ L1.Perm L := PermMap.lift pm rfl
  subst e1
  have vl : (L1.map fun q => Value.ref q.1).length < 64 := by rw [List.length_map, p1.length_eq]; exact few
  refine wpAny_bind (wpAny_newList ?_ (by rw [sizeLine_eq]; omega))
  have atL : (s1.heap.push (seqObj "list" (L1.map fun q => Value.ref q.1).toArray 0)).get? s1.heap.objs.size = some (seqObj "list" (L1.map fun q => Value.ref q.1).toArray 0) := Heap.get?_push_size _ rfl
  have kp : ∀ b u, s1.heap.get? b = some u → (s1.heap.push (seqObj "list" (L1.map fun q => Value.ref q.1).toArray 0)).get? b = some u := fun b u e => Heap.get?_push_of_some _ e
  have rd : ∀ q ∈ L1, ∃ as, Reads (s1.heap.push (seqObj "list" (L1.map fun q => Value.ref q.1).toArray 0)) (.ref q.1) (encP q) as ∧ s1.heap.objs.size ∉ as := fun q hq => by
    obtain ⟨as, r1, r2⟩ := reads_row (P := P) (w := w) (L2.isT_keep (R.tup q (p1.mem_iff.mp hq)) fun b u e => kp b u (keep b u e))
    exact ⟨as, r1, r2 _ fun o e => by rw [atL] at e; cases e; rfl⟩
  have each : ∀ l : List (Addr × List Int), (∀ q ∈ l, q ∈ L1) → PySem.W.EachIs (fun v q => v = Value.ref q.1 ∧ q ∈ L1) (l.map fun q => Value.ref q.1) l := by
    intro l hl
    induction l with
    | nil => exact .nil
    | cons q r ih => exact .cons ⟨rfl, hl q (List.mem_cons_self ..)⟩ (ih fun x hx => hl x (List.mem_cons_of_mem _ hx))
  have e1 := each L1 fun _ h => h
  refine wpAny_bind (wpAny_holding (PySem.W.list_sort_data (s := { s1 with heap := s1.heap.push (seqObj "list" (L1.map fun q => Value.ref q.1).toArray 0) }) (enc := encP) atL e1 (e1.mono fun v q h => by rw [h.1]; exact rd q h.2)
    (PySem.W.AllAlike.of fun b b' => by unfold encP; simp only [PySem.W.alike]; exact PySem.W.alike_ints _ _) (.inl fun d hd => ?_) (by rw [List.length_map] at vl; rw [sizeLine_eq]; omega)
    (fun b _ => by have h1 := encP_depth b; have h2 : A.in1.units = A.units + 1 := rfl; omega) fun out ol eo => ?_))
  · obtain ⟨q, hq, rfl⟩ := List.mem_map.mp hd
    unfold encP
    cases z : q.2 with
    | nil => exact absurd z (hne q (p1.mem_iff.mp hq))
    | cons x r => exact ⟨_, _, rfl⟩
  · obtain ⟨c, hc⟩ := sortedHeap_at (vs := L1.map fun q => Value.ref q.1) (out := out.toArray) atL
    have eout : out = (L1.mergeSort (PySem.W.dataLe false encP)).map fun q => Value.ref q.1 := by
      have go : ∀ (us : List Value) (l : List (Addr × List Int)), PySem.W.EachIs (fun v q => v = Value.ref q.1 ∧ q ∈ L1) us l → us = l.map fun q => Value.ref q.1 := by
        intro us l h
        induction h with
        | nil => rfl
        | cons h _ ih => rw [List.map_cons, ← ih, h.1]
      exact go _ _ eo
    have pS : (L1.mergeSort (PySem.W.dataLe false encP)).Perm L1 := List.mergeSort_perm _ _
    have nS : ((L1.mergeSort (PySem.W.dataLe false encP)).map (·.2)).Nodup := ((pS.trans p1).map (·.2)).nodup_iff.mpr R.nd
    have ord : (L1.mergeSort (PySem.W.dataLe false encP)).Pairwise fun q r => q.2 < r.2 := by
      have z := PySem.W.sort_pairwise (le := PySem.W.dataLe false encP) (PySem.W.sortLe_total _ _ _) L1
      have n2 : (L1.mergeSort (PySem.W.dataLe false encP)).Pairwise fun q r => q.2 ≠ r.2 := List.pairwise_map.mp nS
      refine (z.and n2).imp fun {q r} h => ?_
      obtain ⟨h1, h2⟩ := h
      rw [encP_le] at h1
      exact list_lt_of_le (of_decide_eq_true h1) h2
    refine wpAny_pure ⟨_, rfl, hQ _ s1.heap.objs.size out.toArray c (L1.mergeSort (PySem.W.dataLe false encP)) (fun b u e => ?_) hg hos hz hc (by rw [List.toList_toArray]; exact eout) (pS.trans p1) ord⟩
    have k1 := keep b u e
    have lt := Heap.lt_size k1
    show (sortedHeap (s1.heap.push (seqObj "list" (L1.map fun q => Value.ref q.1).toArray 0)) s1.heap.objs.size (L1.map fun q => Value.ref q.1) out.toArray).get? b = some u
    rw [sortedHeap_old (Nat.ne_of_lt lt) (by rw [size_push']; exact Nat.lt_succ_of_lt lt)]
    exact kp b u k1
end

section
variable {X : Cx}
/-- sorted(set), tuples of ints of either sign, none of them empty -/
def rSrtI (K : PySem.W.Frag) (P : Program) (w : World) : List V → Hp → VK → Prop := fun vs H Q => ∃ (a : Addr) (L : List (Addr × List Int)), vs = [V.ref a] ∧ H a = some (SetTO P w a L) ∧ (∀ p ∈ L, SqT K H p.1 (p.2.map V.int)) ∧ (∀ p ∈ L, p.2 ≠ []) ∧
  ∀ (M : List (Addr × List Int)) (p : Addr), M.Perm L → M.Pairwise (fun q r => q.2 < r.2) → H p = none → Q (.ref p) (upd H p (.lst (M.map fun q => V.ref q.1)))
theorem cr_srtI (hc : X.calm = true) (hu : X.A.units + 64 < cLine) : CallR X (.builtin "sorted") (rSrtI X.K X.prog X.w) := by
  intro pins s σ H vs us Q I r h
  obtain ⟨a, L, rfl, ha, hk, hne, q⟩ := h
  have R0 : L2.SetT0 X.prog X.w s.heap a L := (I.hok a _ ha).1
  obtain ⟨es, ep, t, R⟩ := R0.full fun p hp => L2.Inv.isT I (hk p hp)
  rw [L2.Vals.ref1 r]
  refine sorted_set_ints R (I.ok.hd hc) hu hne fun s' p out c M kept gg oo new at' eo pm ord => ?_
  have few : M.length < 64 := by rw [pm.length_eq]; exact R.few
  have fits : (M.map fun q => V.ref q.1).length ≤ sizeLine := by rw [List.length_map, sizeLine_eq]; omega
  have nH : H p = none := I.hok.fresh new
  have vals : Vals (M.map fun q => V.ref q.1) out.toList := by rw [eo]; exact L2.vals_of_refs M
  cases s' with
  | mk hp' g' d' t' o' =>
    cases oo
    have J : L2.Inv X pins σ (upd H p (.lst (M.map fun q => V.ref q.1))) { s with heap := hp', gens := g', drawn := d', toks := t' } :=
      I.call (ch := []) (Un.laid kept new nH) (I.hok.laid kept new ⟨fits, out.toList, c, vals, at'⟩) (by have z : g' = s.gens := gg; rw [z]; exact I.bare) (fun _ z => nomatch z)
    exact ⟨.ref p, _, J, rfl, q M p pm ord nH⟩
end

/-! ### d.setdefault(k, x), the keys tuples -/
def tDSetT (td ty tx : TE) : TE := fun σ H Q => td σ H fun x H1 => ∃ a, x = .ref a ∧ IsD H1 a ∧ ty σ H1 fun y H2 => tx σ H2 fun z H3 => ∃ (kvs : List (List L2.Key × V)) (k : List L2.Key) (b : Addr), H3 a = some (.dT kvs) ∧ y = .ref b ∧ H3 b = some (.tup (k.map kV)) ∧ kvs.length < sizeLine ∧
  (∀ v, valV kvs k = some v → Q v H3) ∧ (valV kvs k = none → Q z (upd H3 a (.dT (putK kvs k z))))
section
variable {X : Cx} {o e f : Expr} {td ty tx : TE} {apos cpos : Pos}
theorem pe_dsett (hu : X.A.units + 1 < cLine) (ho : PE X o td) (he : PE X e ty) (hf : PE X f tx) (m : M2 X o "setdefault" apos e f cpos) : PE X (.Call (.Attribute o "setdefault" apos) [e, f] [] cpos) (tDSetT td ty tx) := by
  refine ⟨fun pins s σ H Q I h => ?_⟩
  refine wpAny_Call_method m.base m.few m.line PySem.F.plainAttrs_dict PySem.F.slot_dict_setdefault PySem.F.type_dict_setdefault (thn (ho.run pins s σ H _ I h) fun u s1 ⟨x, H1, I1, rx, a, ex, isd, q1⟩ => ?_)
  subst ex
  cases (show u = Value.ref a from rx)
  obtain ⟨t1, t2, _⟩ := isD_at I1 isd
  refine ⟨t1, t2, ?_⟩
  rw [m.trees]
  refine Calls.callWith_builtin rfl (Calls.evalArgs_plain (Calls.spliced_cons (thn (he.run pins s1 σ H1 _ I1 q1) fun iv s2 ⟨y, H2, I2, ry, q2⟩ => Calls.spliced_cons (thn (hf.run pins s2 σ H2 _ I2 q2) fun fv s3 ⟨z, H3, I3, rz, kvs, k, b, ea, ey, eb, hl, q3, q4⟩ => Calls.spliced_nil ?_))))
  subst ey
  cases (show iv = Value.ref b from ry)
  obtain ⟨zz, hd, xs, rel, dd⟩ := dt_of I3.hok ea
  have lxs : xs.length ≤ sizeLine := by rw [← Paired.length rel]; exact zz
  refine call_setdefault_heap (knd := tupleKind (mixKind X.prog X.w)) (k := k) (tupleKind_room_in1 hu) (key_of I3.hok eb) hd dd (fun p hp => ?_) (fun hn h' dd' same => ?_) lxs
  · have r := rel.val k
    rw [hp] at r
    cases ev : valV kvs k with
    | none => rw [ev] at r; exact (show False from r).elim
    | some v0 =>
      rw [ev] at r
      exact ⟨v0, H3, I3.tok _, r, q3 v0 ev⟩
  · have r := rel.val k
    rw [hn] at r
    cases ev : valV kvs k with
    | some v0 => rw [ev] at r; exact (show False from r).elim
    | none =>
      have l2 : (putK kvs k z).length ≤ sizeLine := by have := length_putK kvs k z; omega
      obtain ⟨q0, es, ep, g1, g2, g3, g4, _, g5⟩ := dd'
      have J := d_write (ob := .dT (putK kvs k z)) (t' := s3.toks + (tupleKind (mixKind X.prog X.w)).draws k) I3 (by rw [ea]; exact True.intro) same ⟨q0, g1⟩ ⟨l2, hd, _, (rel.put k eb rz).keeps (fun c ys ec => by
        rw [upd_ne (ne_of ec ea (fun z => nomatch z))]; exact ec), q0, es, ep, g1, g2, g3, g4, g5⟩
      exact ⟨z, _, J, rz, q4 ev⟩
end

/-! ### set(rows), rows a tuple of tuples of ints -/
abbrev freshSet (w : World) : Obj := { cls := .type "set", dict := none, data := .set #[] 0 (.fresh 0 0 (!w.params.followText "set-order")) }
abbrev hpSet (w : World) (h : Heap) : Heap := h.push (freshSet w)
section
variable {P : Program} {w : World} {A : Around} {E : Value → Shared → Prop} {s : Shared}
theorem get_none {h : Heap} {b : Addr} (hb : h.objs.size ≤ b) : h.get? b = none := by
  cases q : h.get? b with
  | none => rfl
  | some o => exact absurd (Nat.lt_of_lt_of_le (Heap.lt_size q) hb) (Nat.lt_irrefl _)
/-- the set is filled -/
def Filled (P : Program) (w : World) (s : Shared) (ks : List (Addr × List Int)) (r : Value) (s2 : Shared) : Prop := r = .none ∧ ∃ h' tk L es ep t, s2 = { s with heap := h', toks := tk } ∧ L2.SetTR P w h' s.heap.objs.size L es ep t ∧ L2.Got ks ks.length L ∧ ∀ b o, s.heap.get? b = some o → h'.get? b = some o
set_option maxHeartbeats 8000000 in
theorem call_set_rows {l : Addr} {items : Array Value} (ks : List (Addr × List Int)) {Q : Value → Shared → Prop} (hh : A.handled = none) (hl : s.heap.IsTuple l items) (hit : items.toList = ks.map fun p => Value.ref p.1)
    (hk : ∀ p ∈ ks, L2.IsT P w s.heap p.2 p.1) (hfew : ks.length < 64) (hu : A.units + 3 < cLine)
    (h : ∀ (h' : Heap) (tk : Nat) L es ep t, L2.SetTR P w h' s.heap.objs.size L es ep t → L2.Got ks ks.length L → (∀ b o, s.heap.get? b = some o → h'.get? b = some o) → Q (.ref s.heap.objs.size) { s with heap := h', toks := tk }) :
    wpAny (model P w) A (call (.type "set") [.ref l]) Q E s := by
  have isz : items.size = ks.length := by have q := congrArg List.length hit; rw [Array.length_toList, List.length_map] at q; exact q
  obtain ⟨c, tl, hmro⟩ := F.called_set.mro
  have a1 := F.called_set.made; have a2 := F.called_set.sub; have a3 := F.called_set.notType; have a4 := F.called_set.canCreate; have a5 := F.typeCall_set_1 (.ref l)
  refine wpAny_call (codeAny_of_tree ?_); show wpAny _ _ (callAny (.type "set") _) _ _ _
  refine wpAny_pure ⟨Code.quiet_builtin _ (by decide +kernel), codeAny_builtin F.entry_type_call ?_⟩; rw [Around.under_plain (weight_type_call_type "set" [.ref l] []) rfl]
  repeat (any_goals (first | assumption | wp_step))
  refine codeAny_mono (L2.code_set_led1 (.ref l) (E := E) (Q₁ := fun obj s₁ => obj = .ref s.heap.objs.size ∧ s₁ = { s with heap := hpSet w s.heap }) ⟨rfl, rfl⟩) fun r s₁ hr => ?_
  cases r with
  | error e => exact hr
  | ok fl =>
    cases fl with
    | ret obj =>
      obtain ⟨rfl, rfl⟩ := hr
      have atS : (hpSet w s.heap).get? s.heap.objs.size = some (freshSet w) := Heap.get?_push_size _ rfl
      have isS : Shared.TypeIs { s with heap := hpSet w s.heap } (.ref s.heap.objs.size) "set" := ⟨_, atS, rfl⟩
      have b1 := F.called_set.init.lookup; have b2 := F.called_set.init.bind (.ref s.heap.objs.size)
      repeat (any_goals (first | assumption | wp_step))
      refine codeAny_mono (codeAny_call_builtin (R := wants (Filled P w s ks) E) F.called_set.init.plain F.entry_set_init (check_set_init_1 isS ?_)) fun r₂ s₂ hr₂ => ?_
      · obtain ⟨ol, hol, hcl, nl, hdl⟩ := hl
        obtain ⟨ocls, odict, odata, oslots⟩ := ol
        simp only at hcl hdl
        subst hcl hdl
        have atl : (hpSet w s.heap).get? l = some { cls := .type "tuple", dict := odict, data := .seq items nl, slots := oslots } := Heap.get?_push_of_some _ hol
        have c1 := F.sub_tuple_set; have c2 := F.sub_tuple_frozenset
        have c3 : (Value.type "tuple" == Value.type "dict") = false := by decide
        have tl1 : (hpSet w s.heap).IsTuple l items := ⟨_, atl, rfl, nl, rfl⟩
        unfold Builtin.«set.__init__» noKeywords Builtin.Frozenset.updateFrom
        generalize hPI : pyIter = PI
        wp_walk
        subst hPI
        refine wpAny_pyIter_tuple tl1 ?_; refine wpAny_bind (wpAny_runValue ?_)
        have hlS : l < s.heap.objs.size := Heap.lt_size hol
        have hh3 : A.in1.in1.in1.handled = none := by simp [hh]
        have sz1 : (hpSet w s.heap).objs.size = s.heap.objs.size + 1 := Heap.size_push ..
        have nI : l ≠ (hpSet w s.heap).objs.size := by rw [sz1]; exact Nat.ne_of_lt (Nat.lt_succ_of_lt hlS)
        have nF : s.heap.objs.size ∉ [(hpSet w s.heap).objs.size, l] := by
          rw [sz1]; simp only [List.mem_cons, List.not_mem_nil, or_false, not_or]; exact ⟨Nat.ne_of_lt (Nat.lt_succ_self _), Nat.ne_of_gt hlS⟩
        have val : ∀ (i : Nat) (v : Value), items[i]? = some v → ∃ p, ks[i]? = some p ∧ v = .ref p.1 := fun i v hv => by
          have q : items.toList[i]? = some v := by rw [Array.getElem?_toList]; exact hv
          rw [hit, List.getElem?_map] at q
          cases hq : ks[i]? with
          | none => rw [hq] at q; cases q
          | some p => rw [hq] at q; exact ⟨p, rfl, (Option.some.inj q).symm⟩
        refine L2.set_update_tups ((Walks.tuple hh3 _ l nI items).toS) s.heap.objs.size nF ks isz hfew val s.heap hk (get_none (Nat.le_refl _)) (fun b hb => get_none (by rw [List.mem_singleton.mp hb, sz1]; exact Nat.le_succ _)) hu (items.size - 0) 0 _ (by omega) (Nat.zero_le _)
          ⟨⟨_, Heap.get?_push_size _ rfl, rfl, rfl⟩, (tl1.push _)⟩ (fun b o e => Heap.get?_push_of_some _ (Heap.get?_push_of_some _ e)) ⟨[], #[], 0, _, L2.setTR_fresh (Heap.get?_push_of_some _ atS), L2.Got.zero ks⟩ ?hR
        case hR =>
          intro s' L es ep t hm fin got kept
          obtain ⟨h', g2, d', tk', os'⟩ := s'
          cases (show g2 = s.gens from hm.gens); cases (show d' = s.drawn from hm.drawn); cases (show os' = s.os from hm.os)
          show wpAny _ _ _ _ _ _
          refine wpAny_pure ?_
          show wpAny _ _ (ret Value.none) _ _ _
          rw [isz] at got
          exact wpAny_pure ⟨rfl, h', tk', L, es, ep, t, rfl, fin, got, kept⟩
      · cases r₂ with
        | error e => exact hr₂
        | ok fl₂ =>
          cases fl₂ with
          | ret r =>
            obtain ⟨rfl, h', tk, L, es, ep, t, rfl, fin, got, kept⟩ := hr₂
            repeat (any_goals (first | assumption | wp_step))
            exact h _ _ _ _ _ _ fin got kept
          | _ => exact hr₂.elim
    | _ => exact hr.elim
end
section
variable {X : Cx}
/-- set(rows), a list or a tuple of tuples of ints -/
def rSetR (K : PySem.W.Frag) (P : Program) (w : World) : List V → Hp → VK → Prop := fun xs H Q => ∃ (l : Addr) (ks : List (Addr × List Int)), xs = [V.ref l] ∧ (SqL K H l (ks.map fun p => V.ref p.1) ∨ SqT K H l (ks.map fun p => V.ref p.1)) ∧ (∀ p ∈ ks, SqT K H p.1 (p.2.map V.int)) ∧ ks.length < 64 ∧
  ∀ a L, H a = none → (∀ p ∈ L, p ∈ ks) → (∀ p ∈ ks, p.2 ∈ L.map (·.2)) → Q (.ref a) (upd H a (SetTO P w a L))
theorem cr_setR (hc : X.calm = true) (hu : X.A.units + 64 < cLine) : CallR X (.type "set") (rSetR X.K X.prog X.w) := by
  intro pins s σ H xs us Q I r h
  obtain ⟨l, ks, rfl, hl | hl, hk, hf, q⟩ := h
  · exact L2.cr_setOfT hc hu pins s σ H _ us Q I r ⟨l, ks, rfl, hl, hk, hf, q⟩
  · rw [L2.Vals.ref1 r]
    obtain ⟨its, rv, pl, hz⟩ := I.tuple hl
    have nH : H s.heap.objs.size = none := I.hok.fresh (Nat.le_refl _)
    refine call_set_rows (P := X.prog) (w := X.w) ks (I.ok.hd hc) pl (by simpa using L2.refs_of_vals rv) (fun p hp => L2.Inv.isT I (hk p hp)) hf (by omega) fun h' tk L es ep t R g k => ?_
    refine ⟨.ref s.heap.objs.size, upd H s.heap.objs.size (SetTO X.prog X.w s.heap.objs.size L), I.laid (t' := tk) k (Nat.le_refl _) (L2.setTO_new R.t0), rfl, q _ L nH (fun p hp => List.mem_of_mem_take (g.sub p hp)) fun p hp => g.all p (by rw [List.take_length]; exact hp)⟩
end
end NR

/-! Tuples of which it is known that they have no dict of their own: they can be asked for a place. -/
namespace NR
open PySem PySem.Spec PyProof.Rows L2
def TupP (H : Hp) (a : Addr) (xs : List V) : Prop := ∃ o : Obj, H a = some (.frz o (.tup xs)) ∧ o.cls = .type "tuple" ∧ o.dict = none
theorem TupP.sq {K : PySem.W.Frag} {H : Hp} {a : Addr} {xs : List V} (h : TupP H a xs) : SqT K H a xs := let ⟨o, e, _⟩ := h; .inl (.inr ⟨o, e⟩)
section
variable {X : Cx}
/-- tuple(xs) of a list, the new one known to be plain -/
def rTupP (K : PySem.W.Frag) : List V → Hp → VK → Prop := fun xs H Q => ∃ (p : Addr) (ys : List V), xs = [.ref p] ∧ SqL K H p ys ∧ ∀ (l : Addr) (o : Obj), H l = none → o.cls = .type "tuple" → o.dict = none → Q (.ref l) (upd H l (.frz o (.tup ys)))
theorem call_tupP : CallR X (.type "tuple") (rTupP X.K) := by
  rintro pins s σ H xs us Q I r ⟨p, ys, rfl, hq, q⟩
  cases Vals.ref1 r
  obtain ⟨its, rv, pl, hz⟩ := I.list hq
  have room : its.toArray.size ≤ sizeLine := by rw [List.size_toArray, ← rv.length]; exact hz
  exact call_tuple_list pl.isList (fun h' kp => ⟨.ref h'.objs.size, upd H h'.objs.size (.frz { cls := .type "tuple", data := .seq its.toArray } (.tup ys)), (I.kept (t' := s.toks) kp).laid (t' := s.toks) (fun b o e => Heap.get?_push_of_some _ e) (Nat.le_refl _)
    ⟨Heap.get?_push_size _ rfl, hz, its, rv, IsTup.new _ _⟩, rfl, q _ _ ((I.kept (t' := s.toks) kp).hok.fresh (Nat.le_refl _)) rfl rfl⟩) (by have := line63; omega)
end
open MeetsSeq MeetsSeq2 MeetsSeq3 SeqRoads2
theorem flatV_ints (ns : List Int) : (ns.map V.int).all flatV = true := List.all_eq_true.mpr fun v hv => by
  obtain ⟨i, _, rfl⟩ := List.mem_map.mp hv
  rfl
/-- the first place of an int in a tuple of ints -/
def rPlace (K : PySem.W.Frag) : V → List V → Hp → VK → Prop := fun x xs H Q => ∃ (p : Addr) (ns : List Int) (z : Int) (j : Nat), x = .ref p ∧ xs = [.int z] ∧ SqT K H p (ns.map V.int) ∧ ns[j]? = some z ∧ (∀ m, m < j → ns[m]? ≠ some z) ∧ Q (.int (j : Nat)) H
theorem mt_place {X : Cx} : MtR X "tuple.index" (rPlace X.K) := by
  rintro pins s σ H x xs v us Q I rx rs ⟨p, ns, z, j, rfl, rfl, hq, hy, hno, q⟩
  cases rx
  obtain ⟨u, rfl, t, rfl⟩ := vals1 rs
  obtain ⟨its, r, ⟨⟨cls, dd, dt, sl⟩, ho, hc, n, hd⟩, hz⟩ := I.tuple hq
  simp only at hc hd
  subst hc hd
  have sz : its.toArray.size = ns.length := by rw [List.size_toArray, ← r.length, List.length_map]
  have hj : j < its.toArray.size := sz ▸ (List.getElem?_eq_some_iff.mp hy).1
  have here : ∀ (m : Nat) (hm : m < its.toArray.size), ∃ t', its.toArray[m] = Value.int (ns[m]'(sz ▸ hm)) t' := fun m hm => by
    obtain ⟨w, hw, t', hw'⟩ := r.get (i := m) (x := .int (ns[m]'(sz ▸ hm))) (by rw [List.getElem?_map, List.getElem?_eq_getElem (sz ▸ hm)]; rfl)
    refine ⟨t', ?_⟩
    rw [← hw', ← (List.getElem?_eq_some_iff.mp hw).2]
    simp
  refine call_meets PySem.F.slot_tuple_index ⟨_, ho, rfl⟩ PySem.F.entry_tuple_index (PySem.F.args_tuple_index_2 _ _) (TI.tuple_indexAt p _ n dd sl _ (eqU (.int z)) j hj ?_ ?_) ⟨ho, fun w hw => mem_eqAt (x := .int z) ⟨t, rfl⟩ rfl r (flatV_ints ns) w (by simpa using hw), ⟨.int (j : Nat), H, I.tok _, ⟨_, rfl⟩, q⟩⟩
  · obtain ⟨t', e⟩ := here j hj
    rw [e]
    rw [List.getElem?_eq_getElem (sz ▸ hj)] at hy
    cases hy
    show (ns[j]'(sz ▸ hj) == ns[j]'(sz ▸ hj)) = true
    exact beq_self_eq_true _
  · intro m hm hmj
    obtain ⟨t', e⟩ := here m hm
    rw [e]
    have := hno m hmj
    rw [List.getElem?_eq_getElem (sz ▸ hm)] at this
    show (ns[m]'(sz ▸ hm) == z) = false
    exact beq_eq_false_iff_ne.mpr fun e => this (by rw [e])

section
variable {X : Cx} {o e : Expr} {to te : TE} {name : Str} {apos cpos : Pos} {r : V → List V → Hp → VK → Prop}
/-- x.m(e) of a plain tuple -/
def tPM (r : V → List V → Hp → VK → Prop) (to te : TE) : TE := fun σ H Q => to σ H fun x H1 => (∃ a xs, x = .ref a ∧ TupP H1 a xs) ∧ te σ H1 fun y H2 => r x [y] H2 Q
theorem pe_tupM {id : String} (slot : Slot "tuple" name id) (hty : typeOf (.builtin id) = pure (.type "method_descriptor")) (hm : MtR X id r) (ho : PE X o to) (he : PE X e te) (m : M1 X o name apos e cpos) : PE X (.Call (.Attribute o name apos) [e] [] cpos) (tPM r to te) := by
  refine ⟨fun pins s σ H Q I h => wpAny_Call_method m.base m.few m.line PySem.F.plainAttrs_tuple slot hty (thn (ho.run pins s σ H _ I h) fun v s1 ⟨x, H1, I1, r1, ⟨a, xs, hx, ob, ha1, hc, hd⟩, q1⟩ => ?_)⟩
  subst hx
  cases (show v = Value.ref a from r1)
  have hget : s1.heap.get? a = some ob := (I1.hok a _ ha1).1
  refine ⟨⟨ob, hget, hc⟩, fun b e => by cases e; exact ⟨ob, hget, hd⟩, ?_⟩
  rw [m.trees]
  exact Calls.callWith_builtin rfl (Calls.evalArgs_plain (Calls.spliced_cons (thn (he.run pins s1 σ H1 _ I1 q1) fun w s2 ⟨y, H2, I2, ry, q2⟩ => Calls.spliced_nil (hm pins s2 σ H2 (.ref a) [y] (.ref a) [w] Q I2 rfl (.cons ry .nil) q2))))
end
end NR

/-! Values without a heap, and what of the heap they stand for. -/
namespace DL
open PySem PySem.Spec PyProof.Rows L2

inductive D where
  | non | bl (b : Bool) | int (i : Int) | str (x : Str)
  | tup (xs : List D) | lst (xs : List D) | scr (ns : List Int) | ptu (ns : List Int) | fn (f : Addr) | dK (kvs : List (Key × D)) | dT (kvs : List (List Key × D))
  | ml (xs : List D) | mK (kvs : List (Key × D)) | mT (kvs : List (List Key × D)) | mo (c : Addr) (fs : List (Str × D)) | xc (c : Addr) (fs : List (Str × D)) | er (c : Addr) (fs : List (Str × D))
abbrev Fp := Addr → Prop
def no : Fp := fun _ => False
def or2 (A B : Fp) : Fp := fun a => A a ∨ B a

mutual
/-- frozen: what never changes any more -/
inductive Fr (K : PySem.W.Frag) (H : Hp) (F : Fp) : V → D → Prop
  | non : Fr K H F .non .non
  | bl (b : Bool) : Fr K H F (.bl b) (.bl b)
  | int (i : Int) : Fr K H F (.int i) (.int i)
  | str (x : Str) : Fr K H F (.str x) (.str x)
  | tup {a : Addr} {vs : List V} {ds : List D} : F a → H a = some (.tup vs) → FrL K H F vs ds → Fr K H F (.ref a) (.tup ds)
  | lst {a : Addr} {vs : List V} {ds : List D} : F a → H a = some (.lst vs) → FrL K H F vs ds → Fr K H F (.ref a) (.lst ds)
  | scr {a : Addr} {ns : List Int} : F a → Rd H a (.lst (ns.map V.int)) → Fr K H F (.ref a) (.scr ns)
  | scrK {a : Addr} {ns : List Int} : (∀ H' : Hp, SqL K H' a (ns.map V.int)) → Fr K H F (.ref a) (.scr ns)
  | fn {a : Addr} : PySem.W.keepIn K (.ref a) = true → Fr K H F (.ref a) (.fn a)
  | er0 {a C : Addr} {oe : Obj} {u : HO} : F a → H a = some (.frz oe u) → L2N.Zn (.ref C) none oe → (∃ vs, oe.data = .fields vs) → Fr K H F (.ref a) (.er C [])
  | erD {a C dx : Addr} {oe : Obj} {u : HO} {kvs : List (Str × V)} {es : List (Str × D)} : F a → H a = some (.frz oe u) → L2N.Zn (.ref C) (some dx) oe → (∃ vs, oe.data = .fields vs) → F dx → H dx = some (.xd kvs) → kvs.map Prod.fst = es.map Prod.fst → FrL K H F (kvs.map Prod.snd) (es.map Prod.snd) → Fr K H F (.ref a) (.er C es)
  | ptu {a : Addr} {ns : List Int} : F a → NR.TupP H a (ns.map V.int) → Fr K H F (.ref a) (.ptu ns)
  | dK {a : Addr} {kvs : List (Key × V)} {es : List (Key × D)} : F a → H a = some (.dK kvs) → kvs.map Prod.fst = es.map Prod.fst → FrL K H F (kvs.map Prod.snd) (es.map Prod.snd) → Fr K H F (.ref a) (.dK es)
  | dT {a : Addr} {kvs : List (List Key × V)} {es : List (List Key × D)} : F a → H a = some (.dT kvs) → kvs.map Prod.fst = es.map Prod.fst → FrL K H F (kvs.map Prod.snd) (es.map Prod.snd) → Fr K H F (.ref a) (.dT es)
inductive FrL (K : PySem.W.Frag) (H : Hp) (F : Fp) : List V → List D → Prop
  | nil : FrL K H F [] []
  | cons {v : V} {vs : List V} {d : D} {ds : List D} : Fr K H F v d → FrL K H F vs ds → FrL K H F (v :: vs) (d :: ds)
end
theorem rd_keep {H H' : Hp} {a : Addr} {u : HO} (k : ∀ o, H a = some o → H' a = some o) (h : Rd H a u) : Rd H' a u := by
  rcases h with h | ⟨o, h⟩
  · exact .inl (k _ h)
  · exact .inr ⟨o, k _ h⟩
section
variable {K : PySem.W.Frag} {H H' : Hp} {F F' : Fp}
mutual
theorem Fr.keep (s : ∀ a, F a → F' a) (k : ∀ a o, F a → H a = some o → H' a = some o) : ∀ {v : V} {d : D}, Fr K H F v d → Fr K H' F' v d
  | _, _, .non => .non
  | _, _, .bl b => .bl b
  | _, _, .int i => .int i
  | _, _, .str x => .str x
  | _, _, .tup f h r => .tup (s _ f) (k _ _ f h) (FrL.keep s k r)
  | _, _, .lst f h r => .lst (s _ f) (k _ _ f h) (FrL.keep s k r)
  | _, _, .scr f h => .scr (s _ f) (rd_keep (fun o => k _ o f) h)
  | _, _, .scrK h => .scrK h
  | _, _, .fn h => .fn h
  | _, _, .er0 f h z d => .er0 (s _ f) (k _ _ f h) z d
  | _, _, .erD f h z d f2 h2 e r => .erD (s _ f) (k _ _ f h) z d (s _ f2) (k _ _ f2 h2) e (FrL.keep s k r)
  | _, _, .ptu f ⟨o, e, c, d⟩ => .ptu (s _ f) ⟨o, k _ _ f e, c, d⟩
  | _, _, .dK f h e r => .dK (s _ f) (k _ _ f h) e (FrL.keep s k r)
  | _, _, .dT f h e r => .dT (s _ f) (k _ _ f h) e (FrL.keep s k r)
theorem FrL.keep (s : ∀ a, F a → F' a) (k : ∀ a o, F a → H a = some o → H' a = some o) : ∀ {vs : List V} {ds : List D}, FrL K H F vs ds → FrL K H' F' vs ds
  | _, _, .nil => .nil
  | _, _, .cons h r => .cons (Fr.keep s k h) (FrL.keep s k r)
end
theorem FrL.length : ∀ {vs : List V} {ds : List D}, FrL K H F vs ds → vs.length = ds.length
  | _, _, .nil => rfl
  | _, _, .cons _ r => congrArg (· + 1) r.length
theorem FrL.append : ∀ {vs us : List V} {ds es : List D}, FrL K H F vs ds → FrL K H F us es → FrL K H F (vs ++ us) (ds ++ es)
  | _, _, _, _, .nil, q => q
  | _, _, _, _, .cons h r, q => .cons h (FrL.append r q)
theorem FrL.get : ∀ {vs : List V} {ds : List D} {i : Nat} {v : V}, FrL K H F vs ds → vs[i]? = some v → ∃ d, ds[i]? = some d ∧ Fr K H F v d
  | _, _, i, v, .nil, h => by simp at h
  | _, _, 0, v, .cons h r, e => ⟨_, rfl, by cases (Option.some.inj e); exact h⟩
  | _, _, i + 1, v, .cons h r, e => r.get (i := i) e
theorem FrL.get' : ∀ {vs : List V} {ds : List D} {i : Nat} {d : D}, FrL K H F vs ds → ds[i]? = some d → ∃ v, vs[i]? = some v ∧ Fr K H F v d
  | _, _, i, v, .nil, h => by simp at h
  | _, _, 0, v, .cons h r, e => ⟨_, rfl, by cases (Option.some.inj e); exact h⟩
  | _, _, i + 1, v, .cons h r, e => r.get' (i := i) e
theorem FrL.drop : ∀ {vs : List V} {ds : List D} (n : Nat), FrL K H F vs ds → FrL K H F (vs.drop n) (ds.drop n)
  | _, _, 0, r => r
  | _, _, _ + 1, .nil => .nil
  | _, _, n + 1, .cons _ r => FrL.drop n r
theorem FrL.take : ∀ {vs : List V} {ds : List D} (n : Nat), FrL K H F vs ds → FrL K H F (vs.take n) (ds.take n)
  | _, _, 0, _ => .nil
  | _, _, _ + 1, .nil => .nil
  | _, _, n + 1, .cons h r => .cons h (FrL.take n r)
theorem FrL.ints {l : List Int} : FrL K H F (l.map V.int) (l.map D.int) := by
  induction l with
  | nil => exact .nil
  | cons i r ih => exact .cons (.int i) ih
theorem FrL.ofInts : ∀ {vs : List V} {l : List Int}, FrL K H F vs (l.map D.int) → vs = l.map V.int
  | _, [], .nil => rfl
  | _, i :: r, .cons h q => by
    cases h
    rw [FrL.ofInts q]
    rfl
theorem FrL.ofStrs : ∀ {vs : List V} {l : List Str}, FrL K H F vs (l.map D.str) → vs = l.map V.str
  | _, [], .nil => rfl
  | _, i :: r, .cons h q => by
    cases h
    rw [FrL.ofStrs q]
    rfl
theorem FrL.ofBls : ∀ {vs : List V} {l : List Bool}, FrL K H F vs (l.map D.bl) → vs = l.map V.bl
  | _, [], .nil => rfl
  | _, i :: r, .cons h q => by
    cases h
    rw [FrL.ofBls q]
    rfl
end

mutual
/-- owned: what this def may change; the addresses that it stands at -/
inductive Ow (K : PySem.W.Frag) (H : Hp) (F : Fp) : V → D → Fp → Prop
  | fr {v : V} {d : D} : Fr K H F v d → Ow K H F v d no
  | ml {a : Addr} {vs : List V} {ds : List D} {A : Fp} : H a = some (.lst vs) → OwL K H F vs ds A → ¬ A a → Ow K H F (.ref a) (.ml ds) (or2 (fun x => x = a) A)
  | mK {a : Addr} {kvs : List (Key × V)} {es : List (Key × D)} {A : Fp} : H a = some (.dK kvs) → kvs.map Prod.fst = es.map Prod.fst → OwL K H F (kvs.map Prod.snd) (es.map Prod.snd) A → ¬ A a → Ow K H F (.ref a) (.mK es) (or2 (fun x => x = a) A)
  | mT {a : Addr} {kvs : List (List Key × V)} {es : List (List Key × D)} {A : Fp} : H a = some (.dT kvs) → kvs.map Prod.fst = es.map Prod.fst → OwL K H F (kvs.map Prod.snd) (es.map Prod.snd) A → ¬ A a → Ow K H F (.ref a) (.mT es) (or2 (fun x => x = a) A)
  | mo {a c dx : Addr} {kvs : List (Str × V)} {es : List (Str × D)} {A : Fp} : H a = some (.ins c dx kvs) → H dx = some (.own a) → dx ≠ a → kvs.map Prod.fst = es.map Prod.fst → OwL K H F (kvs.map Prod.snd) (es.map Prod.snd) A → ¬ A a → ¬ A dx → Ow K H F (.ref a) (.mo c es) (or2 (fun x => x = a ∨ x = dx) A)
inductive OwL (K : PySem.W.Frag) (H : Hp) (F : Fp) : List V → List D → Fp → Prop
  | nil : OwL K H F [] [] no
  | cons {v : V} {vs : List V} {d : D} {ds : List D} {A B : Fp} : Ow K H F v d A → OwL K H F vs ds B → (∀ a, A a → ¬ B a) → OwL K H F (v :: vs) (d :: ds) (or2 A B)
end
section
variable {K : PySem.W.Frag} {H H' : Hp} {F F' : Fp}
mutual
theorem Ow.keep (s : ∀ a, F a → F' a) : ∀ {v : V} {d : D} {A : Fp}, Ow K H F v d A → (∀ a o, F a ∨ A a → H a = some o → H' a = some o) → Ow K H' F' v d A
  | _, _, _, .fr h, k => .fr (h.keep s fun a o f => k a o (.inl f))
  | _, _, _, .ml h r n, k => .ml (k _ _ (.inr (.inl rfl)) h) (OwL.keep s r fun a o f => k a o (f.imp_right .inr)) n
  | _, _, _, .mK h e r n, k => .mK (k _ _ (.inr (.inl rfl)) h) e (OwL.keep s r fun a o f => k a o (f.imp_right .inr)) n
  | _, _, _, .mT h e r n, k => .mT (k _ _ (.inr (.inl rfl)) h) e (OwL.keep s r fun a o f => k a o (f.imp_right .inr)) n
  | _, _, _, .mo h hd nd e r n n2, k => .mo (k _ _ (.inr (.inl (.inl rfl))) h) (k _ _ (.inr (.inl (.inr rfl))) hd) nd e (OwL.keep s r fun a o f => k a o (f.imp_right .inr)) n n2
theorem OwL.keep (s : ∀ a, F a → F' a) : ∀ {vs : List V} {ds : List D} {A : Fp}, OwL K H F vs ds A → (∀ a o, F a ∨ A a → H a = some o → H' a = some o) → OwL K H' F' vs ds A
  | _, _, _, .nil, _ => .nil
  | _, _, _, .cons h r d, k => .cons (Ow.keep s h fun a o f => k a o (f.imp_right .inl)) (OwL.keep s r fun a o f => k a o (f.imp_right .inr)) d
end
theorem FrL.ow : ∀ {vs : List V} {ds : List D}, FrL K H F vs ds → ∃ A, OwL K H F vs ds A ∧ ∀ a, ¬ A a
  | _, _, .nil => ⟨_, .nil, fun _ h => h⟩
  | _, _, .cons h r => by
    obtain ⟨A, q, n⟩ := r.ow
    exact ⟨_, .cons (.fr h) q fun _ z => z.elim, fun a z => z.elim id (n a)⟩
mutual
theorem Ow.there : ∀ {v : V} {d : D} {A : Fp}, Ow K H F v d A → ∀ a, A a → ∃ o, H a = some o
  | _, _, _, .fr h, a, z => z.elim
  | _, _, _, .ml h r n, a, z => by
    rcases z with rfl | z
    · exact ⟨_, h⟩
    · exact OwL.there r a z
  | _, _, _, .mK h e r n, a, z => by
    rcases z with rfl | z
    · exact ⟨_, h⟩
    · exact OwL.there r a z
  | _, _, _, .mT h e r n, a, z => by
    rcases z with rfl | z
    · exact ⟨_, h⟩
    · exact OwL.there r a z
  | _, _, _, .mo h hd nd e r n n2, a, z => by
    rcases z with (rfl | rfl) | z
    · exact ⟨_, h⟩
    · exact ⟨_, hd⟩
    · exact OwL.there r a z
theorem OwL.there : ∀ {vs : List V} {ds : List D} {A : Fp}, OwL K H F vs ds A → ∀ a, A a → ∃ o, H a = some o
  | _, _, _, .nil, a, z => z.elim
  | _, _, _, .cons h r d, a, z => z.elim (Ow.there h a) (OwL.there r a)
end
end

/-- the heads of frozen values -/
def isFr : D → Bool
  | .ml _ | .mK _ | .mT _ | .mo .. | .xc .. => false
  | _ => true
theorem Ow.isFr {K : PySem.W.Frag} {H : Hp} {F : Fp} {v : V} {d : D} {A : Fp} (h : Ow K H F v d A) (e : isFr d = true) : Fr K H F v d := by
  cases h with
  | fr h => exact h
  | ml => cases e
  | mK => cases e
  | mT => cases e
  | mo => cases e
theorem Fr.not_ml {K : PySem.W.Frag} {H : Hp} {F : Fp} {v : V} {d : D} (h : Fr K H F v d) : DL.isFr d = true := by
  cases h <;> rfl

/-! ### freezing -/
mutual
def fz : D → D
  | .ml xs => .lst (fzL xs)
  | .mK kvs => .dK (fzK kvs)
  | .mT kvs => .dT (fzT kvs)
  | d => d
def fzL : List D → List D
  | [] => []
  | d :: ds => fz d :: fzL ds
def fzK : List (Key × D) → List (Key × D)
  | [] => []
  | (k, d) :: ds => (k, fz d) :: fzK ds
def fzT : List (List Key × D) → List (List Key × D)
  | [] => []
  | (k, d) :: ds => (k, fz d) :: fzT ds
end
theorem fzL_map : ∀ xs : List D, fzL xs = xs.map fz
  | [] => rfl
  | d :: ds => by rw [fzL, fzL_map ds]; rfl
theorem fzK_fst : ∀ xs : List (Key × D), (fzK xs).map Prod.fst = xs.map Prod.fst
  | [] => rfl
  | (k, d) :: ds => by rw [fzK, List.map_cons, fzK_fst ds]; rfl
theorem fzK_snd : ∀ xs : List (Key × D), (fzK xs).map Prod.snd = fzL (xs.map Prod.snd)
  | [] => rfl
  | (k, d) :: ds => by rw [fzK, List.map_cons, fzK_snd ds]; rfl
theorem fzT_fst : ∀ xs : List (List Key × D), (fzT xs).map Prod.fst = xs.map Prod.fst
  | [] => rfl
  | (k, d) :: ds => by rw [fzT, List.map_cons, fzT_fst ds]; rfl
theorem fzT_snd : ∀ xs : List (List Key × D), (fzT xs).map Prod.snd = fzL (xs.map Prod.snd)
  | [] => rfl
  | (k, d) :: ds => by rw [fzT, List.map_cons, fzT_snd ds]; rfl
/-! no instance within -/
mutual
def noMo : D → Bool
  | .mo .. | .xc .. => false
  | .ml xs => noMoL xs
  | .mK kvs => noMoK kvs
  | .mT kvs => noMoT kvs
  | _ => true
def noMoL : List D → Bool
  | [] => true
  | d :: ds => noMo d && noMoL ds
def noMoK : List (Key × D) → Bool
  | [] => true
  | (_, d) :: ds => noMo d && noMoK ds
def noMoT : List (List Key × D) → Bool
  | [] => true
  | (_, d) :: ds => noMo d && noMoT ds
end
theorem noMoK_L : ∀ xs : List (Key × D), noMoK xs = noMoL (xs.map Prod.snd)
  | [] => rfl
  | (k, d) :: ds => by rw [noMoK, noMoK_L ds]; rfl
theorem noMoT_L : ∀ xs : List (List Key × D), noMoT xs = noMoL (xs.map Prod.snd)
  | [] => rfl
  | (k, d) :: ds => by rw [noMoT, noMoT_L ds]; rfl
section
variable {K : PySem.W.Frag} {H : Hp} {F F' : Fp}
theorem fz_fr {v : V} {d : D} (h : Fr K H F v d) : fz d = d := by cases h <;> rfl
mutual
theorem Ow.fz (s : ∀ a, F a → F' a) : ∀ {v : V} {d : D} {A : Fp}, Ow K H F v d A → noMo d = true → (∀ a, A a → F' a) → Fr K H F' v (DL.fz d)
  | _, _, _, .fr h, _, k => by
    rw [fz_fr h]
    exact h.keep s fun _ _ _ e => e
  | _, _, _, .ml h r n, m, k => by
    simp only [DL.fz]
    exact .lst (k _ (.inl rfl)) h (OwL.fz s r (by simpa only [noMo] using m) fun a z => k a (.inr z))
  | _, _, _, .mK h e r n, m, k => by
    simp only [DL.fz]
    exact .dK (k _ (.inl rfl)) h (by rw [fzK_fst]; exact e) (by rw [fzK_snd]; exact OwL.fz s r (by rw [← noMoK_L]; simpa only [noMo] using m) fun a z => k a (.inr z))
  | _, _, _, .mT h e r n, m, k => by
    simp only [DL.fz]
    exact .dT (k _ (.inl rfl)) h (by rw [fzT_fst]; exact e) (by rw [fzT_snd]; exact OwL.fz s r (by rw [← noMoT_L]; simpa only [noMo] using m) fun a z => k a (.inr z))
  | _, _, _, .mo .., m, _ => by simp only [noMo] at m; cases m
theorem OwL.fz (s : ∀ a, F a → F' a) : ∀ {vs : List V} {ds : List D} {A : Fp}, OwL K H F vs ds A → noMoL ds = true → (∀ a, A a → F' a) → FrL K H F' vs (fzL ds)
  | _, _, _, .nil, _, _ => .nil
  | _, _, _, .cons h r d, m, k => by
    simp only [noMoL, Bool.and_eq_true] at m
    exact .cons (Ow.fz s h m.1 fun a z => k a (.inl z)) (OwL.fz s r m.2 fun a z => k a (.inr z))
end
end
end DL

/-! Slots, what may change, readings without a heap. -/
namespace DL
open PySem PySem.Spec PyProof.Rows L2

abbrev Ls := List (Option D)
inductive LocA (K : PySem.W.Frag) (H : Hp) (F : Fp) : List (Option V) → Ls → Fp → Prop
  | nil : LocA K H F [] [] no
  | un {s : Option V} {σ : List (Option V)} {L : Ls} {A : Fp} : LocA K H F σ L A → LocA K H F (s :: σ) (none :: L) A
  | df {v : V} {d : D} {σ : List (Option V)} {L : Ls} {A B : Fp} : Ow K H F v d A → LocA K H F σ L B → (∀ a, A a → ¬ B a) → LocA K H F (some v :: σ) (some d :: L) (or2 A B)
section
variable {K : PySem.W.Frag} {H H' : Hp} {F F' : Fp}
theorem LocA.keep (s : ∀ a, F a → F' a) : ∀ {σ : List (Option V)} {L : Ls} {A : Fp}, LocA K H F σ L A → (∀ a o, F a ∨ A a → H a = some o → H' a = some o) → LocA K H' F' σ L A
  | _, _, _, .nil, _ => .nil
  | _, _, _, .un r, k => .un (LocA.keep s r k)
  | _, _, _, .df h r d, k => .df (h.keep s fun a o f => k a o (f.imp_right .inl)) (LocA.keep s r fun a o f => k a o (f.imp_right .inr)) d
theorem LocA.length : ∀ {σ : List (Option V)} {L : Ls} {A : Fp}, LocA K H F σ L A → σ.length = L.length
  | _, _, _, .nil => rfl
  | _, _, _, .un r => congrArg (· + 1) r.length
  | _, _, _, .df h r d => congrArg (· + 1) r.length
theorem LocA.there : ∀ {σ : List (Option V)} {L : Ls} {A : Fp}, LocA K H F σ L A → ∀ a, A a → ∃ o, H a = some o
  | _, _, _, .nil, a, z => z.elim
  | _, _, _, .un r, a, z => r.there a z
  | _, _, _, .df h r d, a, z => z.elim (h.there a) (r.there a)
theorem LocA.congr {σ : List (Option V)} {L : Ls} {A B : Fp} (h : LocA K H F σ L A) (e : ∀ a, A a ↔ B a) : LocA K H F σ L B := by
  have : A = B := funext fun a => propext (e a)
  rw [← this]
  exact h
/-- a slot is taken out -/
theorem LocA.out : ∀ {σ : List (Option V)} {L : Ls} {A : Fp} {i : Nat} {d : D}, LocA K H F σ L A → L[i]? = some (some d) →
    ∃ v B C, σ[i]? = some (some v) ∧ Ow K H F v d B ∧ LocA K H F σ (L.set i none) C ∧ (∀ a, A a ↔ B a ∨ C a) ∧ ∀ a, B a → ¬ C a
  | _, _, _, i, d, .nil, e => by simp at e
  | _, _, _, 0, d, .un r, e => by simp at e
  | _, _, _, 0, d, .df h r dj, e => by
    have : _ = d := Option.some.inj (Option.some.inj e)
    subst this
    exact ⟨_, _, _, rfl, h, .un r, fun _ => Iff.rfl, dj⟩
  | _, _, _, i + 1, d, .un r, e => by
    obtain ⟨v, B, C, h1, h2, h3, h4, h5⟩ := r.out (i := i) (by simpa using e)
    exact ⟨v, B, C, by simpa using h1, h2, .un h3, h4, h5⟩
  | _, _, _, i + 1, d, .df (A := A) h r dj, e => by
    obtain ⟨v, B, C, h1, h2, h3, h4, h5⟩ := r.out (i := i) (by simpa using e)
    refine ⟨v, B, or2 A C, by simpa using h1, h2, .df h h3 fun a z y => dj a z ((h4 a).mpr (.inr y)), fun a => ?_, fun a z y => ?_⟩
    · constructor
      · rintro (y | y)
        · exact .inr (.inl y)
        · exact ((h4 a).mp y).imp_right .inr
      · rintro (y | y | y)
        · exact .inr ((h4 a).mpr (.inl y))
        · exact .inl y
        · exact .inr ((h4 a).mpr (.inr y))
    · rcases y with y | y
      · exact dj a y ((h4 a).mpr (.inl z))
      · exact h5 a z y
/-- .. and put in -/
theorem LocA.put : ∀ {σ : List (Option V)} {L : Ls} {C B : Fp} {i : Nat} {v : V} {d : D}, LocA K H F σ L C → L[i]? = some none → σ[i]? = some (some v) → Ow K H F v d B → (∀ a, B a → ¬ C a) →
    LocA K H F σ (L.set i (some d)) (or2 B C)
  | _, _, _, _, i, v, d, .nil, e, _, _, _ => by simp at e
  | _, _, _, _, 0, v, d, .un r, _, e, h, dj => by
    have : _ = some v := Option.some.inj e
    subst this
    exact .df h r dj
  | _, _, _, _, 0, v, d, .df _ _ _, e, _, _, _ => by simp at e
  | _, _, _, _, i + 1, v, d, .un r, e, e', h, dj => .un (r.put (i := i) (by simpa using e) (by simpa using e') h dj)
  | _, _, _, B, i + 1, v, d, .df (A := A) (B := C) h0 r d0, e, e', h, dj => by
    have q := r.put (i := i) (by simpa using e) (by simpa using e') h (fun a z y => dj a z (.inr y))
    refine LocA.congr (.df h0 q fun a z y => ?_) fun a => ?_
    · rcases y with y | y
      · exact dj a y (.inl z)
      · exact d0 a z y
    · constructor
      · rintro (y | y | y)
        · exact .inr (.inl y)
        · exact .inl y
        · exact .inr (.inr y)
      · rintro (y | y | y)
        · exact .inr (.inl y)
        · exact .inl y
        · exact .inr (.inr y)
/-- a slot is forgotten -/
theorem LocA.drop {σ : List (Option V)} {L : Ls} {A : Fp} {i : Nat} (h : LocA K H F σ L A) : ∃ C, LocA K H F σ (L.set i none) C ∧ ∀ a, C a → A a := by
  cases e : L[i]? with
  | none => exact ⟨A, by rw [List.set_eq_of_length_le (List.getElem?_eq_none_iff.mp e)]; exact h, fun _ z => z⟩
  | some o =>
    cases o with
    | none => exact ⟨A, by
        have : L.set i none = L := by
          apply List.ext_getElem?
          intro j
          rw [List.getElem?_set]
          split
          · next e' => subst e'; rw [e]; split <;> simp_all
          · rfl
        rw [this]; exact h, fun _ z => z⟩
    | some d =>
      obtain ⟨v, B, C, h1, h2, h3, h4, h5⟩ := h.out e
      exact ⟨C, h3, fun a z => (h4 a).mpr (.inr z)⟩
/-- a slot that is not looked at may hold anything -/
theorem LocA.any : ∀ {σ : List (Option V)} {L : Ls} {A : Fp} {i : Nat} {s : Option V}, LocA K H F σ L A → (L[i]? = some none ∨ L.length ≤ i) → LocA K H F (σ.set i s) L A
  | _, _, _, i, s, .nil, _ => .nil
  | _, _, _, 0, s, .un r, _ => .un r
  | _, _, _, 0, s, .df h r d, e => by simp at e
  | _, _, _, i + 1, s, .un r, e => .un (r.any (i := i) (by simpa using e))
  | _, _, _, i + 1, s, .df h r d, e => .df h (r.any (i := i) (by simpa using e)) d
/-- a slot gets a new value -/
theorem LocA.set {σ : List (Option V)} {L : Ls} {A B : Fp} {i : Nat} {v : V} {d : D} (h : LocA K H F σ L A) (hi : i < L.length) (ho : Ow K H F v d B) (dj : ∀ a, B a → ¬ A a) :
    ∃ A', LocA K H F (σ.set i (some v)) (L.set i (some d)) A' ∧ ∀ a, A' a → B a ∨ A a := by
  obtain ⟨C, hC, sub⟩ := h.drop (i := i)
  have e : (L.set i none)[i]? = some none := by rw [List.getElem?_set_self hi]
  have hs : i < σ.length := by rw [h.length]; exact hi
  have q := LocA.put (hC.any (s := some v) (.inl e)) e (by rw [List.getElem?_set_self hs]) ho fun a z y => dj a z (sub a y)
  rw [List.set_set] at q
  exact ⟨_, q, fun a z => z.imp_right (sub a)⟩
/-- a frozen slot is read -/
theorem LocA.get {σ : List (Option V)} {L : Ls} {A : Fp} {i : Nat} {d : D} (h : LocA K H F σ L A) (e : L[i]? = some (some d)) : ∃ v B, σ[i]? = some (some v) ∧ Ow K H F v d B ∧ ∀ a, B a → A a := by
  obtain ⟨v, B, C, h1, h2, h3, h4, h5⟩ := h.out e
  exact ⟨v, B, h1, h2, fun a z => (h4 a).mpr (.inl z)⟩
end

/-- the frozen stand there; the owned stand there and are not frozen -/
structure Sane (H : Hp) (F A : Fp) : Prop where
  f : ∀ a, F a → ∃ o, H a = some o
  a : ∀ a, A a → ¬ F a ∧ ∃ o, H a = some o
theorem Sane.new {H : Hp} {F A : Fp} {p : Addr} (h : Sane H F A) (n : H p = none) : ¬ F p ∧ ¬ A p := by
  refine ⟨fun z => ?_, fun z => ?_⟩
  · obtain ⟨o, e⟩ := h.f p z
    rw [n] at e
    cases e
  · obtain ⟨_, o, e⟩ := h.a p z
    rw [n] at e
    cases e
/-- what stands where one is -/
structure Lo (K : PySem.W.Frag) (H : Hp) (F : Fp) (pn : List (Nat × V)) (σ : List (Option V)) (L : Ls) (A : Fp) : Prop where
  loc : LocA K H F σ L A
  ok : Sane H F A
  pin : ∀ p ∈ pn, σ[p.1]? = some (some p.2)
/-- one goes on: only what stands at A may change -/
structure Ext (A : Fp) (H : Hp) (F : Fp) (A' : Fp) (H' : Hp) (F' : Fp) : Prop where
  sub : ∀ a, F a → F' a
  new : ∀ a, F' a → F a ∨ H a = none ∨ A a
  keep : ∀ a o, H a = some o → ¬ A a → H' a = some o
  own : ∀ a, A' a → A a ∨ H a = none
theorem Ext.refl {A : Fp} {H : Hp} {F : Fp} : Ext A H F A H F := ⟨fun _ h => h, fun _ h => .inl h, fun _ _ h _ => h, fun _ h => .inl h⟩
theorem Ext.trans {A A1 A2 : Fp} {H H1 H2 : Hp} {F F1 F2 : Fp} (x : Ext A H F A1 H1 F1) (y : Ext A1 H1 F1 A2 H2 F2) : Ext A H F A2 H2 F2 := by
  have bk : ∀ a, H1 a = none → ¬ A a → H a = none := fun a n na => by
    cases e : H a with
    | none => rfl
    | some o => rw [x.keep a o e na] at n; cases n
  refine ⟨fun a h => y.sub a (x.sub a h), fun a h => ?_, fun a o e n => ?_, fun a h => ?_⟩
  · by_cases na : A a
    · exact .inr (.inr na)
    · rcases y.new a h with h | h | h
      · exact x.new a h
      · exact .inr (.inl (bk a h na))
      · exact ((x.own a h).resolve_left na) |> fun z => .inr (.inl z)
  · refine y.keep a o (x.keep a o e n) fun z => ?_
    rcases x.own a z with z | z
    · exact n z
    · rw [z] at e; cases e
  · by_cases na : A a
    · exact .inl na
    · rcases y.own a h with h | h
      · exact x.own a h
      · exact .inr (bk a h na)
theorem Ext.less {A A1 A2 : Fp} {H H1 : Hp} {F F1 : Fp} (x : Ext A H F A1 H1 F1) (h : ∀ a, A2 a → A1 a) : Ext A H F A2 H1 F1 := ⟨x.sub, x.new, x.keep, fun a z => x.own a (h a z)⟩
/-- what is frozen stays -/
theorem Fr.ext {K : PySem.W.Frag} {A A' : Fp} {H H' : Hp} {F F' : Fp} {v : V} {d : D} (h : Fr K H F v d) (s : Sane H F A) (x : Ext A H F A' H' F') : Fr K H' F' v d :=
  h.keep x.sub fun a o f e => x.keep a o e fun z => (s.a a z).1 f
theorem FrL.ext {K : PySem.W.Frag} {A A' : Fp} {H H' : Hp} {F F' : Fp} {v : List V} {d : List D} (h : FrL K H F v d) (s : Sane H F A) (x : Ext A H F A' H' F') : FrL K H' F' v d :=
  h.keep x.sub fun a o f e => x.keep a o e fun z => (s.a a z).1 f
/-- what is owned elsewhere stays -/
theorem Ow.ext {K : PySem.W.Frag} {A A' B : Fp} {H H' : Hp} {F F' : Fp} {v : V} {d : D} (h : Ow K H F v d B) (s : Sane H F A) (x : Ext A H F A' H' F') (dj : ∀ a, B a → ¬ A a) : Ow K H' F' v d B :=
  h.keep x.sub fun a o f e => x.keep a o e fun z => f.elim (fun f => (s.a a z).1 f) fun b => dj a b z

/-! ### readings -/
abbrev FE := Ls → (D → Ls → Prop) → Prop
abbrev FT := Ls → (Bool → Ls → Prop) → Prop
abbrev FA := Ls → (List D → Ls → Prop) → Prop
structure DEnds where
  nx : Ls → Prop
  rt : D → Ls → Prop
  bk : Ls → Prop := fun _ => False
  ct : Ls → Prop := fun _ => False
abbrev FS := DEnds → Ls → Prop

section
variable (K : PySem.W.Frag) (pn : List (Nat × V))
def Post (σ : L2.St) (H : Hp) (F A : Fp) (R : D → Ls → Prop) (Q : VK) : Prop := ∀ d L' v F' A' H', R d L' → Ext A H F A' H' F' → Lo K H' F' pn σ L' A' → Fr K H' F' v d → Q v H'
def PostN (σ : L2.St) (H : Hp) (F A : Fp) (R : D → Ls → Prop) (Q : VK) : Prop := ∀ d L' v F' A' B H', R d L' → Ext A H F (or2 A' B) H' F' → Lo K H' F' pn σ L' A' → Ow K H' F' v d B → Sane H' F' B → (∀ a, B a → ¬ A' a) → Q v H'
def PostT (σ : L2.St) (H : Hp) (F A : Fp) (R : Bool → Ls → Prop) (Q : Bool → Hp → Prop) : Prop := ∀ b L' F' A' H', R b L' → Ext A H F A' H' F' → Lo K H' F' pn σ L' A' → Q b H'
def PostA (σ : L2.St) (H : Hp) (F A : Fp) (R : List D → Ls → Prop) (Q : List V → Hp → Prop) : Prop := ∀ ds L' vs F' A' H', R ds L' → Ext A H F A' H' F' → Lo K H' F' pn σ L' A' → FrL K H' F' vs ds → Q vs H'
structure PostS (H : Hp) (F A : Fp) (D : DEnds) (E : Ends) : Prop where
  nx : ∀ σ' L' F' A' H', D.nx L' → Ext A H F A' H' F' → Lo K H' F' pn σ' L' A' → E.nx σ' H'
  bk : ∀ σ' L' F' A' H', D.bk L' → Ext A H F A' H' F' → Lo K H' F' pn σ' L' A' → E.bk σ' H'
  ct : ∀ σ' L' F' A' H', D.ct L' → Ext A H F A' H' F' → Lo K H' F' pn σ' L' A' → E.ct σ' H'
  rt : ∀ d σ' L' v F' A' B H', D.rt d L' → Ext A H F (or2 A' B) H' F' → Lo K H' F' pn σ' L' A' → Ow K H' F' v d B → Sane H' F' B → (∀ a, B a → ¬ A' a) → E.rt v H'
def low (f : FE) : TE := fun σ H Q => ∃ F A L R, Lo K H F pn σ L A ∧ f L R ∧ Post K pn σ H F A R Q
def lowN (f : FE) : TE := fun σ H Q => ∃ F A L R, Lo K H F pn σ L A ∧ f L R ∧ PostN K pn σ H F A R Q
def lowT (f : FT) : TT := fun σ H Q => ∃ F A L R, Lo K H F pn σ L A ∧ f L R ∧ PostT K pn σ H F A R Q
def lowA (f : FA) : TA := fun σ H Q => ∃ F A L R, Lo K H F pn σ L A ∧ f L R ∧ PostA K pn σ H F A R Q
def lowS (g : FS) : TS := fun E σ H => ∃ F A L D, Lo K H F pn σ L A ∧ g D L ∧ PostS K pn H F A D E
end
section
variable {K : PySem.W.Frag} {pn : List (Nat × V)} {σ : L2.St} {H H1 : Hp} {F A F1 A1 : Fp}
theorem Post.on {R : D → Ls → Prop} {Q : VK} (p : Post K pn σ H F A R Q) (x : Ext A H F A1 H1 F1) : Post K pn σ H1 F1 A1 R Q := fun d L' v F' A' H' r y l f => p d L' v F' A' H' r (x.trans y) l f
theorem PostN.on {R : D → Ls → Prop} {Q : VK} (p : PostN K pn σ H F A R Q) (x : Ext A H F A1 H1 F1) : PostN K pn σ H1 F1 A1 R Q := fun d L' v F' A' B H' r y l f s n => p d L' v F' A' B H' r (x.trans y) l f s n
theorem PostT.on {R : Bool → Ls → Prop} {Q : Bool → Hp → Prop} (p : PostT K pn σ H F A R Q) (x : Ext A H F A1 H1 F1) : PostT K pn σ H1 F1 A1 R Q := fun d L' F' A' H' r y l => p d L' F' A' H' r (x.trans y) l
theorem PostA.on {R : List D → Ls → Prop} {Q : List V → Hp → Prop} (p : PostA K pn σ H F A R Q) (x : Ext A H F A1 H1 F1) : PostA K pn σ H1 F1 A1 R Q := fun d L' v F' A' H' r y l f => p d L' v F' A' H' r (x.trans y) l f
theorem PostS.on {D : DEnds} {E : Ends} (p : PostS K pn H F A D E) (x : Ext A H F A1 H1 F1) : PostS K pn H1 F1 A1 D E :=
  ⟨fun σ' L' F' A' H' r y l => p.nx σ' L' F' A' H' r (x.trans y) l, fun σ' L' F' A' H' r y l => p.bk σ' L' F' A' H' r (x.trans y) l, fun σ' L' F' A' H' r y l => p.ct σ' L' F' A' H' r (x.trans y) l,
    fun d σ' L' v F' A' B H' r y l f s n => p.rt d σ' L' v F' A' B H' r (x.trans y) l f s n⟩
end
abbrev DE (X : Cx) (pn : List (Nat × V)) (e : Expr) (f : FE) : Prop := PE X e (low X.K pn f)
abbrev DN (X : Cx) (pn : List (Nat × V)) (e : Expr) (f : FE) : Prop := PE X e (lowN X.K pn f)
abbrev DT (X : Cx) (pn : List (Nat × V)) (e : Expr) (f : FT) : Prop := PT X e (lowT X.K pn f)
abbrev DA (X : Cx) (pn : List (Nat × V)) (es : List Expr) (f : FA) : Prop := PA X es (lowA X.K pn f)
abbrev DS (X : Cx) (pn : List (Nat × V)) (st : Stmt) (g : FS) : Prop := PS X st (lowS X.K pn g)
abbrev DSs (X : Cx) (pn : List (Nat × V)) (st : List Stmt) (g : FS) : Prop := PSs X st (lowS X.K pn g)
theorem pe_weak {X : Cx} {e : Expr} {t t' : TE} (h : PE X e t) (w : ∀ σ H Q, t' σ H Q → t σ H Q) : PE X e t' := ⟨fun pins s σ H Q I q => h.run pins s σ H Q I (w σ H Q q)⟩
theorem pt_weak {X : Cx} {e : Expr} {t t' : TT} (h : PT X e t) (w : ∀ σ H Q, t' σ H Q → t σ H Q) : PT X e t' := ⟨fun pins s σ H Q I q => h.run pins s σ H Q I (w σ H Q q)⟩
theorem pw_weak {X : Cx} {e : Expr} {t t' : TT} (h : PW X e t) (w : ∀ σ H Q, t' σ H Q → t σ H Q) : PW X e t' := ⟨fun wh pins s σ H Q I q => h.run wh pins s σ H Q I (w σ H Q q)⟩
theorem pa_weak {X : Cx} {e : List Expr} {t t' : TA} (h : PA X e t) (w : ∀ σ H Q, t' σ H Q → t σ H Q) : PA X e t' := ⟨fun pos pins s σ H Q I q => h.run pos pins s σ H Q I (w σ H Q q)⟩
theorem ps_weak {X : Cx} {e : Stmt} {t t' : TS} (h : PS X e t) (w : ∀ E σ H, t' E σ H → t E σ H) : PS X e t' := ⟨fun pins s σ H E I q => h.run pins s σ H E I (w E σ H q)⟩
theorem pss_weak {X : Cx} {e : List Stmt} {t t' : TS} (h : PSs X e t) (w : ∀ E σ H, t' E σ H → t E σ H) : PSs X e t' := ⟨fun pins s σ H E I q => h.run pins s σ H E I (w E σ H q)⟩
end DL

namespace NK
open PySem PySem.Spec PyProof.Rows L2
/-! ### order of rows -/
theorem lexLt_eq : ∀ xs ys : List Int, HT.lexLt xs ys = decide (xs < ys)
  | [], [] => by simp [HT.lexLt]
  | [], y :: ys => by simp [HT.lexLt]
  | x :: xs, [] => by simp [HT.lexLt]
  | x :: xs, y :: ys => by
    rw [HT.lexLt_cons]
    by_cases h : x = y
    · rw [if_pos h, lexLt_eq xs ys]
      simp [h, List.cons_lt_cons_iff]
    · rw [if_neg h]
      simp [h, List.cons_lt_cons_iff]
theorem row_le_total (a b : List Int) : a ≤ b ∨ b ≤ a := List.le_total a b
theorem row_le_trans {a b c : List Int} (h : a ≤ b) (k : b ≤ c) : a ≤ c := List.le_trans h k
theorem row_le_antisymm {a b : List Int} (h : a ≤ b) (k : b ≤ a) : a = b := List.le_antisymm h k
theorem row_le_refl (a : List Int) : a ≤ a := List.le_refl a
theorem row_not_lt {a b : List Int} : ¬ a < b ↔ b ≤ a := List.not_lt
theorem row_lt_le {a b : List Int} (h : a < b) : a ≤ b := List.le_of_lt h
theorem row_lt_irrefl (a : List Int) : ¬ a < a := List.lt_irrefl a
theorem row_le_lt {a b : List Int} (h : a ≤ b) : ¬ b < a := List.not_lt.mpr h
/-! ### least breaches of functional dependencies -/
def prj (l : List Int) (a : List Int) : List Int := l.map fun c => a.getD c.toNat 0
def Bad (l r a b : List Int) : Prop := prj l a = prj l b ∧ prj r a ≠ prj r b
instance (l r a b : List Int) : Decidable (Bad l r a b) := inferInstanceAs (Decidable (_ ∧ _))
theorem Bad.symm {l r a b : List Int} (h : Bad l r a b) : Bad l r b a := ⟨h.1.symm, fun e => h.2 e.symm⟩
def Br (l r : List Int) (T : List (List Int)) : Option (List Int × List Int) → Prop
  | none => ∀ a ∈ T, ∀ b ∈ T, ¬ Bad l r a b
  | some (a, b) => a ∈ T ∧ b ∈ T ∧ Bad l r a b ∧ (∀ a' ∈ T, ∀ b' ∈ T, Bad l r a' b' → a ≤ a') ∧ ∀ b' ∈ T, Bad l r a b' → b ≤ b'
theorem Br.one {l r : List Int} {T : List (List Int)} {o o' : Option (List Int × List Int)} (h : Br l r T o) (h' : Br l r T o') : o = o' := by
  match o, o', h, h' with
  | none, none, _, _ => rfl
  | none, some (a, b), h, ⟨ha, hb, hB, _⟩ => exact absurd hB (h a ha b hb)
  | some (a, b), none, ⟨ha, hb, hB, _⟩, h => exact absurd hB (h a ha b hb)
  | some (a, b), some (a', b'), ⟨ha, hb, hB, m1, m2⟩, ⟨ha', hb', hB', m1', m2'⟩ =>
    have e : a = a' := row_le_antisymm (m1 a' ha' b' hb' hB') (m1' a ha b hb hB)
    subst e
    have e2 : b = b' := row_le_antisymm (m2 b' hb' hB') (m2' b hb hB)
    rw [e2]
/-- the first row with the same left -/
def Fst (l : List Int) (T : List (List Int)) (x f : List Int) : Prop := f ∈ T ∧ prj l f = prj l x ∧ ∀ a ∈ T, prj l a = prj l x → f ≤ a
theorem Br.keepL {l r : List Int} {T : List (List Int)} {x f : List Int} {o : Option (List Int × List Int)} (h : Br l r T o) (hx : ∀ a ∈ T, a ≤ x) (hf : Fst l (T ++ [x]) x f) (e : prj r f = prj r x) : Br l r (T ++ [x]) o := by
  have key : ∀ a ∈ T, Bad l r a x → Bad l r f a ∧ f ∈ T := fun a ha hB => by
    have h1 : Bad l r f a := ⟨by rw [hf.2.1, hB.1], fun z => hB.2 (by rw [← z, e])⟩
    refine ⟨h1, ?_⟩
    rcases List.mem_append.mp hf.1 with z | z
    · exact z
    · rw [List.mem_singleton.mp z] at h1 hf
      have h2 : x ≤ a := hf.2.2 a (List.mem_append_left _ ha) hB.1
      have h3 : a = x := row_le_antisymm (hx a ha) h2
      exact absurd (by rw [h3]) hB.2
  match o, h with
  | none, h =>
    intro a ha b hb hB
    rcases List.mem_append.mp ha with ha | ha <;> rcases List.mem_append.mp hb with hb | hb
    · exact h a ha b hb hB
    · rw [List.mem_singleton.mp hb] at hB
      obtain ⟨k1, k2⟩ := key a ha hB
      exact h f k2 a ha k1
    · rw [List.mem_singleton.mp ha] at hB
      obtain ⟨k1, k2⟩ := key b hb hB.symm
      exact h f k2 b hb k1
    · rw [List.mem_singleton.mp ha, List.mem_singleton.mp hb] at hB
      exact hB.2 rfl
  | some (a0, b0), ⟨ha, hb, hB, m1, m2⟩ =>
    refine ⟨List.mem_append_left _ ha, List.mem_append_left _ hb, hB, fun a' ha' b' hb' hB' => ?_, fun b' hb' hB' => ?_⟩
    · rcases List.mem_append.mp ha' with ha' | ha'
      · rcases List.mem_append.mp hb' with hb' | hb'
        · exact m1 a' ha' b' hb' hB'
        · rw [List.mem_singleton.mp hb'] at hB'
          obtain ⟨k1, k2⟩ := key a' ha' hB'
          exact row_le_trans (m1 f k2 a' ha' k1) (hf.2.2 a' (List.mem_append_left _ ha') hB'.1)
      · rw [List.mem_singleton.mp ha']
        exact hx a0 ha
    · rcases List.mem_append.mp hb' with hb' | hb'
      · exact m2 b' hb' hB'
      · rw [List.mem_singleton.mp hb']
        exact hx b0 hb
theorem Br.newL {l r : List Int} {T : List (List Int)} {x f : List Int} {o : Option (List Int × List Int)} (h : Br l r T o) (hx : ∀ a ∈ T, a ≤ x) (hf : Fst l (T ++ [x]) x f) (e : prj r f ≠ prj r x) (hlt : ∀ a b, o = some (a, b) → f < a) : Br l r (T ++ [x]) (some (f, x)) := by
  have fT : f ∈ T := by
    rcases List.mem_append.mp hf.1 with z | z
    · exact z
    · exact absurd (by rw [List.mem_singleton.mp z]) e
  refine ⟨hf.1, List.mem_append_right _ (List.mem_singleton.mpr rfl), ⟨hf.2.1, e⟩, fun a' ha' b' hb' hB' => ?_, fun b' hb' hB' => ?_⟩
  · rcases List.mem_append.mp ha' with ha' | ha'
    · rcases List.mem_append.mp hb' with hb' | hb'
      · match o, h with
        | none, h => exact absurd hB' (h a' ha' b' hb')
        | some (a, b), ⟨_, _, _, m1, _⟩ => exact row_le_trans (row_lt_le (hlt a b rfl)) (m1 a' ha' b' hb' hB')
      · rw [List.mem_singleton.mp hb'] at hB'
        exact hf.2.2 a' (List.mem_append_left _ ha') hB'.1
    · rw [List.mem_singleton.mp ha']
      exact hx f fT
  · rcases List.mem_append.mp hb' with hb' | hb'
    · match o, h with
      | none, h => exact absurd hB' (h f fT b' hb')
      | some (a, b), ⟨_, _, _, m1, _⟩ => exact absurd (hlt a b rfl) (row_le_lt (m1 f fT b' hb' hB'))
    · rw [List.mem_singleton.mp hb']
      exact row_le_refl x
theorem Br.oldL {l r : List Int} {T : List (List Int)} {x f a b : List Int} (h : Br l r T (some (a, b))) (hx : ∀ a ∈ T, a ≤ x) (hf : Fst l (T ++ [x]) x f) (hlt : ¬ f < a) : Br l r (T ++ [x]) (some (a, b)) := by
  obtain ⟨ha, hb, hB, m1, m2⟩ := h
  refine ⟨List.mem_append_left _ ha, List.mem_append_left _ hb, hB, fun a' ha' b' hb' hB' => ?_, fun b' hb' hB' => ?_⟩
  · rcases List.mem_append.mp ha' with ha' | ha'
    · rcases List.mem_append.mp hb' with hb' | hb'
      · exact m1 a' ha' b' hb' hB'
      · rw [List.mem_singleton.mp hb'] at hB'
        exact row_le_trans (row_not_lt.mp hlt) (hf.2.2 a' (List.mem_append_left _ ha') hB'.1)
    · rw [List.mem_singleton.mp ha']
      exact hx a ha
  · rcases List.mem_append.mp hb' with hb' | hb'
    · exact m2 b' hb' hB'
    · rw [List.mem_singleton.mp hb']
      exact hx b hb
/-- the law's own search: rows up to i without a breach, and then one -/
theorem Br.found {l r : List Int} {T : List (List Int)} (asc : T.Pairwise (· < ·)) {i j : Nat} {a b : List Int} (hi : T[i]? = some a) (hj : T[j]? = some b) (h1 : ∀ a' ∈ T.take i, ∀ b' ∈ T, ¬ Bad l r a' b') (h2 : ∀ b' ∈ T.take j, ¬ Bad l r a b') (hB : Bad l r a b) : Br l r T (some (a, b)) := by
  have split : ∀ {i : Nat} {a a' : List Int}, T[i]? = some a → a' ∈ T → a' ∈ T.take i ∨ a ≤ a' := by
    intro i a a' hi ha'
    obtain ⟨k, hk, rfl⟩ := List.getElem_of_mem ha'
    obtain ⟨hi', rfl⟩ := List.getElem?_eq_some_iff.mp hi
    by_cases z : k < i
    · refine .inl ?_
      have : (T.take i)[k]? = some T[k] := by rw [List.getElem?_take, if_pos z, List.getElem?_eq_getElem hk]
      exact List.mem_of_getElem? this
    · refine .inr ?_
      rcases Nat.lt_or_eq_of_le (Nat.not_lt.mp z) with y | y
      · exact row_lt_le (List.pairwise_iff_getElem.mp asc i k hi' hk y)
      · subst y
        exact row_le_refl _
  refine ⟨List.mem_of_getElem? hi, List.mem_of_getElem? hj, hB, fun a' ha' b' hb' hB' => ?_, fun b' hb' hB' => ?_⟩
  · rcases split hi ha' with z | z
    · exact absurd hB' (h1 a' z b' hb')
    · exact z
  · rcases split hj hb' with z | z
    · exact absurd hB' (h2 b' z)
    · exact z
end NK

/-! Expressions without a heap: names, constants, operations on frozen values. -/
namespace DL
open PySem PySem.Spec PyProof.Rows L2

/-- nothing changes, new things may come -/
structure Grow (H : Hp) (F : Fp) (H' : Hp) (F' : Fp) : Prop where
  sub : ∀ a, F a → F' a
  new : ∀ a, F' a → F a ∨ H a = none
  keep : ∀ a o, H a = some o → H' a = some o
  ok : (∀ a, F a → ∃ o, H a = some o) → ∀ a, F' a → ∃ o, H' a = some o
theorem Grow.refl {H : Hp} {F : Fp} : Grow H F H F := ⟨fun _ h => h, fun _ h => .inl h, fun _ _ h => h, fun h => h⟩
theorem Grow.trans {H H1 H2 : Hp} {F F1 F2 : Fp} (x : Grow H F H1 F1) (y : Grow H1 F1 H2 F2) : Grow H F H2 F2 := by
  refine ⟨fun a h => y.sub a (x.sub a h), fun a h => ?_, fun a o h => y.keep a o (x.keep a o h), fun h => y.ok (x.ok h)⟩
  rcases y.new a h with h | h
  · exact x.new a h
  · right
    cases e : H a with
    | none => rfl
    | some o => rw [x.keep a o e] at h; cases h
theorem Grow.ext {A : Fp} {H H' : Hp} {F F' : Fp} (g : Grow H F H' F') : Ext A H F A H' F' := ⟨g.sub, fun a h => (g.new a h).imp_right .inl, fun a o h _ => g.keep a o h, fun _ h => .inl h⟩
theorem Grow.sane {A : Fp} {H H' : Hp} {F F' : Fp} (g : Grow H F H' F') (s : Sane H F A) : Sane H' F' A :=
by
  refine ⟨g.ok s.f, fun a h => ?_⟩
  obtain ⟨nf, o, e⟩ := s.a a h
  refine ⟨fun f => ?_, o, g.keep a o e⟩
  rcases g.new a f with f | n
  · exact nf f
  · rw [n] at e; cases e
theorem Grow.lo {K : PySem.W.Frag} {pn : List (Nat × V)} {σ : List (Option V)} {L : Ls} {A : Fp} {H H' : Hp} {F F' : Fp} (g : Grow H F H' F') (l : Lo K H F pn σ L A) : Lo K H' F' pn σ L A :=
  ⟨l.loc.keep g.sub fun a o _ => g.keep a o, g.sane l.ok, l.pin⟩
theorem Fr.grow {K : PySem.W.Frag} {H H' : Hp} {F F' : Fp} {v : V} {d : D} (h : Fr K H F v d) (g : Grow H F H' F') : Fr K H' F' v d := h.keep g.sub fun a o _ => g.keep a o
theorem FrL.grow {K : PySem.W.Frag} {H H' : Hp} {F F' : Fp} {v : List V} {d : List D} (h : FrL K H F v d) (g : Grow H F H' F') : FrL K H' F' v d := h.keep g.sub fun a o _ => g.keep a o
/-- a new object, frozen at once -/
theorem grow_new {H : Hp} {F : Fp} {p : Addr} {o : HO} (n : H p = none) : Grow H F (upd H p o) (or2 F (fun x => x = p)) := by
  refine ⟨fun _ h => .inl h, fun a h => h.imp_right fun e => by rw [e]; exact n, fun a u e => by rw [upd_ne (ne_of_none e n)]; exact e, fun h a z => ?_⟩
  rcases z with z | z
  · obtain ⟨u, e⟩ := h a z
    exact ⟨u, by rw [upd_ne (ne_of_none e n)]; exact e⟩
  · rw [z]; exact ⟨o, upd_same⟩
theorem new_tup {K : PySem.W.Frag} {H : Hp} {F : Fp} {p : Addr} {vs : List V} {ds : List D} (n : H p = none) (h : FrL K H F vs ds) : Fr K (upd H p (.tup vs)) (or2 F (fun x => x = p)) (.ref p) (.tup ds) :=
  .tup (.inr rfl) upd_same (h.grow (grow_new n))
theorem new_lst {K : PySem.W.Frag} {H : Hp} {F : Fp} {p : Addr} {vs : List V} {ds : List D} (n : H p = none) (h : FrL K H F vs ds) : Fr K (upd H p (.lst vs)) (or2 F (fun x => x = p)) (.ref p) (.lst ds) :=
  .lst (.inr rfl) upd_same (h.grow (grow_new n))

/-! ### what an operation on frozen values gives -/
def OkV (K : PySem.W.Frag) (H : Hp) (F : Fp) (k : D → Prop) (Q : VK) : Prop := ∀ d z F' H', k d → Grow H F H' F' → Fr K H' F' z d → Q z H'
def Up2 (K : PySem.W.Frag) (r : R2) (g : D → D → (D → Prop) → Prop) : Prop := ∀ H F v u x y k Q, Fr K H F v x → Fr K H F u y → g x y k → OkV K H F k Q → r v u H Q
def Up1 (K : PySem.W.Frag) (r : V → Hp → VK → Prop) (g : D → (D → Prop) → Prop) : Prop := ∀ H F v x k Q, Fr K H F v x → g x k → OkV K H F k Q → r v H Q
def UpA (K : PySem.W.Frag) (r : List V → Hp → VK → Prop) (g : List D → (D → Prop) → Prop) : Prop := ∀ H F vs ds k Q, FrL K H F vs ds → g ds k → OkV K H F k Q → r vs H Q
theorem OkV.same {K : PySem.W.Frag} {H : Hp} {F : Fp} {k : D → Prop} {Q : VK} (o : OkV K H F k Q) {d : D} {z : V} (h : k d) (f : Fr K H F z d) : Q z H := o d z F H h .refl f
theorem OkV.tup {K : PySem.W.Frag} {H : Hp} {F : Fp} {k : D → Prop} {Q : VK} (o : OkV K H F k Q) {ds : List D} {vs : List V} {p : Addr} (h : k (.tup ds)) (n : H p = none) (f : FrL K H F vs ds) : Q (.ref p) (upd H p (.tup vs)) := o _ _ _ _ h (grow_new n) (new_tup n f)
theorem OkV.lst {K : PySem.W.Frag} {H : Hp} {F : Fp} {k : D → Prop} {Q : VK} (o : OkV K H F k Q) {ds : List D} {vs : List V} {p : Addr} (h : k (.lst ds)) (n : H p = none) (f : FrL K H F vs ds) : Q (.ref p) (upd H p (.lst vs)) := o _ _ _ _ h (grow_new n) (new_lst n f)

def dBin (g : D → D → (D → Prop) → Prop) (fa fb : FE) : FE := fun L Q => fa L fun x L1 => fb L1 fun y L2 => g x y fun z => Q z L2
def dUn (g : D → (D → Prop) → Prop) (fa : FE) : FE := fun L Q => fa L fun x L1 => g x fun z => Q z L1
def dAp (g : List D → (D → Prop) → Prop) (fa : FA) : FE := fun L Q => fa L fun x L1 => g x fun z => Q z L1
def dC (d : D) : FE := fun L Q => Q d L
def dVar (i : Nat) : FE := fun L Q => match L[i]? with
  | some (some d) => bif isFr d then Q d L else False
  | _ => False
def dNilA : FA := fun L Q => Q [] L
def dConsA (f : FE) (g : FA) : FA := fun L Q => f L fun x L1 => g L1 fun xs L2 => Q (x :: xs) L2
/-- a bool as a test -/
def dTst (f : FE) : FT := fun L Q => f L fun x L1 => match x with
  | .bl b => Q b L1
  | _ => False
section
variable {X : Cx} {pn : List (Nat × V)} {a b e : Expr} {es : List Expr} {fa fb f : FE} {ga : FA} {pos : Pos}
theorem d_c {v : V} {d : D} (h : PE X e (tC v)) (f : ∀ H F, Fr X.K H F v d) : DE X pn e (dC d) := pe_weak h fun σ H Q q => by
  obtain ⟨F, A, L, R, lo, r, p⟩ := q
  exact p d L v F A H r .refl lo (f H F)
theorem d_int {i : Int} {j} : DE X pn (.Constant (.int i) j pos) (dC (.int i)) := d_c pe_int fun _ _ => .int i
theorem d_bl {i : Bool} {j} : DE X pn (.Constant (.bool i) j pos) (dC (.bl i)) := d_c pe_bl fun _ _ => .bl i
theorem d_str {i : Str} {j} : DE X pn (.Constant (.str i) j pos) (dC (.str i)) := d_c pe_str fun _ _ => .str i
theorem d_non {j} : DE X pn (.Constant .none j pos) (dC .non) := d_c pe_non fun _ _ => .non
theorem dv (i : Nat) {x : Str} (hN : X.N[i]? = some x := by rfl) (hv : Vis X.env.scope x := by first | exact Or.inl rfl | exact Or.inr (Or.inl rfl) | exact Or.inr (Or.inr rfl)) (hd : (x == ("__debug__" : Str)) = false := by decide)
    (hcd : (x == ("__classdict__" : Str)) = false := by decide) : DE X pn (.Name x pos) (dVar i) := pe_weak (pe_var hN hv hd hcd) fun σ H Q q => by
  obtain ⟨F, A, L, R, lo, r, p⟩ := q
  unfold dVar at r
  split at r
  · next d e =>
    obtain ⟨v, B, h1, h2, h3⟩ := lo.loc.get e
    cases hd : isFr d with
    | false => rw [hd] at r; exact r.elim
    | true =>
      rw [hd] at r
      exact ⟨v, h1, p d L v F A H r .refl lo (h2.isFr hd)⟩
  · exact r.elim
/-- two values, then r -/
theorem low_bin {K : PySem.W.Frag} {r : R2} {g : D → D → (D → Prop) → Prop} (up : Up2 K r g) {σ : L2.St} {H : Hp} {Q : VK} (q : low K pn (dBin g fa fb) σ H Q) : low K pn fa σ H fun x H1 => low K pn fb σ H1 fun y H2 => r x y H2 Q := by
  obtain ⟨F, A, L, R, lo, h, p⟩ := q
  refine ⟨F, A, L, _, lo, h, fun x L1 v F1 A1 H1 h1 e1 lo1 f1 => ⟨F1, A1, L1, _, lo1, h1, fun y L2 u F2 A2 H2 h2 e2 lo2 f2 => ?_⟩⟩
  exact up H2 F2 v u x y _ Q (f1.ext lo1.ok e2) f2 h2 fun d z F' H' k gr f => p d L2 z F' A2 H' k ((e1.trans e2).trans gr.ext) (gr.lo lo2) f
theorem d_op {op : Operator} {r : R2} {g : D → D → (D → Prop) → Prop} (ho : OpR X (binaryOp op) r) (up : Up2 X.K r g) (ha : DE X pn a fa) (hb : DE X pn b fb) : DE X pn (.BinOp a op b pos) (dBin g fa fb) :=
  pe_weak (pe_op ho ha hb) fun σ H Q q => low_bin up q
theorem d_cmp {op : CmpOp} {r : R2} {g : D → D → (D → Prop) → Prop} (ho : OpR X (compareOp op) r) (up : Up2 X.K r g) (hm : behindInMarks op b = false) (ha : DE X pn a fa) (hb : DE X pn b fb) : DE X pn (.Compare a [op] [b] pos) (dBin g fa fb) :=
  pe_weak (pe_cmpR ho ha hb hm) fun σ H Q q => low_bin up q
theorem low_tst {K : PySem.W.Frag} {σ : L2.St} {H : Hp} {Q : Bool → Hp → Prop} (q : lowT K pn (dTst f) σ H Q) : low K pn f σ H fun v H1 => ∃ c, v = .bl c ∧ Q c H1 := by
  obtain ⟨F, A, L, R, lo, h, p⟩ := q
  refine ⟨F, A, L, _, lo, h, fun x L1 v F1 A1 H1 h1 e1 lo1 f1 => ?_⟩
  cases f1 with
  | bl b => exact ⟨b, rfl, p b L1 F1 A1 H1 h1 e1 lo1⟩
  | _ => exact h1.elim
theorem d_cmpT {op : CmpOp} {r : R2} {g : D → D → (D → Prop) → Prop} (ho : OpR X (compareOp op) r) (up : Up2 X.K r g) (hm : behindInMarks op b = false) (ha : DE X pn a fa) (hb : DE X pn b fb) : DT X pn (.Compare a [op] [b] pos) (dTst (dBin g fa fb)) :=
  pt_weak (pt_cmpR ho (pe_weak (t' := low X.K pn fa) ha fun _ _ _ h => h) hb hm) fun σ H Q q => by
    have := low_tst q
    exact low_bin (fun H F v u x y k Q hv hu hg ok => up H F v u x y k Q hv hu hg ok) this
/-- any bool, as a test -/
theorem d_tst (h : DE X pn e f) (he : ∀ whole, isTrue e X.env whole = (do let v ← whole; standAt e.pos; holding [v] (truthy v)) := by intro _; rfl) : DT X pn e (dTst f) :=
  pt_weak (pt_val h he) fun σ H Q q => low_tst q
theorem d_un {op : UnaryOp} {r : V → Hp → VK → Prop} {g : D → (D → Prop) → Prop} (ho : UnR X (unaryOp op) r) (up : Up1 X.K r g) (ha : DE X pn a fa) : DE X pn (.UnaryOp op a pos) (dUn g fa) :=
  pe_weak (pe_un ho ha) fun σ H Q q => by
    obtain ⟨F, A, L, R, lo, h, p⟩ := q
    exact ⟨F, A, L, _, lo, h, fun x L1 v F1 A1 H1 h1 e1 lo1 f1 => up H1 F1 v x _ Q f1 h1 fun d z F' H' k gr f => p d L1 z F' A1 H' k (e1.trans gr.ext) (gr.lo lo1) f⟩
theorem d_nilA : DA X pn [] dNilA := pa_weak pa_nil fun σ H Q q => by
  obtain ⟨F, A, L, R, lo, r, p⟩ := q
  exact p [] L [] F A H r .refl lo .nil
theorem d_consA (ha : DE X pn e f) (hr : DA X pn es ga) (hs : starEach (e :: es) X.env = (false, eval e X.env) :: starEach es X.env := by rfl) : DA X pn (e :: es) (dConsA f ga) :=
  pa_weak (pa_cons ha hr hs) fun σ H Q q => by
    obtain ⟨F, A, L, R, lo, h, p⟩ := q
    refine ⟨F, A, L, _, lo, h, fun x L1 v F1 A1 H1 h1 e1 lo1 f1 => ⟨F1, A1, L1, _, lo1, h1, fun ys L2 us F2 A2 H2 h2 e2 lo2 f2 => ?_⟩⟩
    exact p (x :: ys) L2 (v :: us) F2 A2 H2 h2 (e1.trans e2) lo2 (.cons (f1.ext lo1.ok e2) f2)
theorem low_ap {K : PySem.W.Frag} {r : List V → Hp → VK → Prop} {g : List D → (D → Prop) → Prop} (up : UpA K r g) {σ : L2.St} {H : Hp} {Q : VK} (q : low K pn (dAp g ga) σ H Q) : lowA K pn ga σ H fun vs H1 => r vs H1 Q := by
  obtain ⟨F, A, L, R, lo, h, p⟩ := q
  exact ⟨F, A, L, _, lo, h, fun xs L1 vs F1 A1 H1 h1 e1 lo1 f1 => up H1 F1 vs xs _ Q f1 h1 fun d z F' H' k gr f => p d L1 z F' A1 H' k (e1.trans gr.ext) (gr.lo lo1) f⟩
theorem d_callB {x : Str} {id : String} {r : List V → Hp → VK → Prop} {g : List D → (D → Prop) → Prop} {p : Pos} (hc : CallR X (.builtin id) r) (up : UpA X.K r g) (hg : Gl X x) (hm : X.mg x = none) (hv : bootBuiltins x = some (.builtin id)) (ha : DA X pn (e :: es) ga) (hn : x ≠ "__name__" := by decide) (hdb : (x == ("__debug__" : Str)) = false := by decide)
    (he : starEach (e :: es) X.env = (false, eval e X.env) :: starEach es X.env := by rfl) (hpl : (backTo pos (starEach es X.env)).any (·.1) = false := by rfl) : DE X pn (.Call (.Name x p) (e :: es) [] pos) (dAp g ga) :=
  pe_weak (pe_callB hc hg hm hv ha hn hdb he hpl) fun σ H Q q => low_ap up q
theorem d_callTy {x : Str} {T : String} {r : List V → Hp → VK → Prop} {g : List D → (D → Prop) → Prop} {p : Pos} (hc : CallR X (.type T) r) (up : UpA X.K r g) (hg : Gl X x) (hm : X.mg x = none) (hv : bootBuiltins x = some (.type T)) (ha : DA X pn (e :: es) ga) (hn : x ≠ "__name__" := by decide) (hdb : (x == ("__debug__" : Str)) = false := by decide)
    (he : starEach (e :: es) X.env = (false, eval e X.env) :: starEach es X.env := by rfl) (hpl : (backTo pos (starEach es X.env)).any (·.1) = false := by rfl) : DE X pn (.Call (.Name x p) (e :: es) [] pos) (dAp g ga) :=
  pe_weak (pe_callTy hc hg hm hv ha hn hdb he hpl) fun σ H Q q => low_ap up q
/-- a tuple, a list (frozen) -/
def gTupD : List D → (D → Prop) → Prop := fun ds k => ds.length ≤ sizeLine ∧ k (.tup ds)
def gLstD : List D → (D → Prop) → Prop := fun ds k => ds.length ≤ sizeLine ∧ k (.lst ds)
theorem d_tup {x1} (h : DA X pn es ga) : DE X pn (.Tuple es x1 pos) (dAp gTupD ga) := pe_weak (pe_tup h) fun σ H Q q =>
  low_ap (r := fun vs H Q => vs.length ≤ sizeLine ∧ ∀ p, H p = none → Q (.ref p) (upd H p (.tup vs))) (fun H F vs ds k Q f g ok => ⟨by rw [f.length]; exact g.1, fun p n => ok.tup g.2 n f⟩) q
theorem d_lst (h : DA X pn es ga) : DE X pn (.List es pos) (dAp gLstD ga) := pe_weak (pe_lst h) fun σ H Q q =>
  low_ap (r := fun vs H Q => vs.length ≤ sizeLine ∧ ∀ p, H p = none → Q (.ref p) (upd H p (.lst vs))) (fun H F vs ds k Q f g ok => ⟨by rw [f.length]; exact g.1, fun p n => ok.lst g.2 n f⟩) q
end
end DL

/-! {k: v for x in t}, the keys tuples of ints and texts -/
namespace NR
open PySem PySem.Spec PyProof.Rows L2
section
variable {X : Cx}
/-- a pair put into a dict whose keys are tuples -/
theorem put_rows {pins : List (Addr × Obj)} {σ : L2.St} {H : Hp} {s : Shared} {E : Value → Shared → Prop} {D b : Addr} {kvs : List (List L2.Key × V)} {k : List L2.Key} {y v : V} {u r : Value} {Q : Unit → Shared → Prop} (hu : X.A.units + 1 < cLine)
    (I : Inv X pins σ H s) (eD : H D = some (.dT kvs)) (room : kvs.length < sizeLine) (ey : y = .ref b) (eb : H b = some (.tup (k.map kV))) (ry : RelV y u) (rv : RelV v r) (h : ∀ s', Inv X pins σ (upd H D (.dT (putK kvs k v))) s' → Q () s') :
    wpAny (model X.prog X.w) X.A (dictSet D u r) Q E s := by
  subst ey
  cases (show u = Value.ref b from ry)
  obtain ⟨le, nsys, xs, rel, dh⟩ := dt_of I.hok eD
  have lx : xs.length ≤ sizeLine := by rw [← Paired.length rel]; exact le
  have lp := length_putK kvs k v
  refine wpAny_dictSet_heap (knd := tupleKind (mixKind X.prog X.w)) (k := k) (hsz := lx) (show X.A.units < cLine from Nat.lt_of_succ_lt hu) (key_of I.hok eb) dh fun h1 dh1 only => h _ ?_
  obtain ⟨o, es, ep, d1, d2, d3, d4, _, d5⟩ := dh1
  exact d_write I (by rw [eD]; exact True.intro) only ⟨o, d1⟩ ⟨by omega, nsys, _, (rel.put k eb rv).keeps fun c ys ec => by
    rw [upd_ne (ne_of ec eD (fun z => nomatch z))]
    exact ec, o, es, ep, d1, d2, d3, d4, d5⟩
/-- one pair more -/
def Pairs (D : Addr) (Nx : Hp → Prop) (y z : V) (H : Hp) : Prop := ∃ kvs k b, y = .ref b ∧ H D = some (.dT kvs) ∧ H b = some (.tup (k.map kV)) ∧ kvs.length < sizeLine ∧ Nx (upd H D (.dT (putK kvs k z)))
/-- a turn of such a comprehension -/
def Turn (g : TG) (tt : TT) (tk tv : TE) (vs : List Nat) (σ : L2.St) (D : Addr) (Nx : Hp → Prop) (x : V) (H : Hp) : Prop := g x (wipe σ vs) H fun σ2 H2 => wipe σ2 vs = wipe σ vs ∧ tt σ2 H2 fun b H3 =>
  if b = true then tk σ2 H3 fun y H4 => tv σ2 H4 fun z H5 => Pairs D Nx y z H5 else Nx H3
def tDcT (wi : TI) (g : TG) (tt : TT) (tk tv : TE) (vs : List Nat) : TE := fun σ H Q => wi σ H fun J H1 => ∀ D, H1 D = none → ∃ W : Nat → Nat → Hp → Prop, (∃ m, W 0 m (upd H1 D (.dT []))) ∧ ∀ i m H, W i m H →
  (J.stop i H ∧ Q (.ref D) H) ∨ (J.go i H ∧ ∃ Nx : Hp → Prop, (∀ H', Nx H' → ∃ m', m' < m ∧ W (i + 1) m' H') ∧ ∀ x H', J.yld i H x H' → Turn g tt tk tv vs σ D Nx x H')
theorem dcT_core {pins : List (Addr × Obj)} {s : Shared} {σ : L2.St} {H : Hp} {Q : VK} {use : Option (Value → Sem Unit)} {Qf : Value → Shared → Prop} {kx vx tg iter : Expr} {ifs : List Expr} {scope : Scope} {own : List (Str × Nat)} {pos pos' : Pos} {wi : TI} {g : TG} {tt : TT} {tk tv : TE} (I : Inv X pins σ H s)
    (hc : X.calm = true) (hN : X.N.Nodup) (hu : X.A.units + 1 < cLine) (hi : PI X tg iter wi) (ok : BlkOk X.N X.env.scope scope own)
    (hg : ∀ (s : Shared) (H : Hp) (C : Addr) (cl : List (Str × Addr)) (fp : List Addr), PG (X.blk s H scope (compEnvC scope cl C X.env) fp) tg g) (ht : ∀ (s : Shared) (H : Hp) (C : Addr) (cl : List (Str × Addr)) (fp : List Addr), PTs (X.blk s H scope (compEnvC scope cl C X.env) fp) ifs tt)
    (hk : ∀ (s : Shared) (H : Hp) (C : Addr) (cl : List (Str × Addr)) (fp : List Addr), PE (X.blk s H scope (compEnvC scope cl C X.env) fp) kx tk)
    (he : ∀ (s : Shared) (H : Hp) (C : Addr) (cl : List (Str × Addr)) (fp : List Addr), PE (X.blk s H scope (compEnvC scope cl C X.env) fp) vx tv) (hs : ∀ x, foldedSetIterable iter X.env x = pure x)
    (h : tDcT wi g tt tk tv (own.map (·.2)) σ H Q)
    (fin : ∀ D C s' m H', Inv X pins σ H' s' → Q (.ref D) H' → s'.heap.Ns C m → FpOk X pins H' C → compPost (model X.prog X.w) X.A X.xe use Qf (.ref D) C (.ok .next) s') :
    wpAny (model X.prog X.w) X.A (comprehension (.DictComp kx vx [⟨tg, iter, ifs, 0⟩] scope pos) scope X.env pos' newDict false (eval iter X.env) use) Qf X.xe s := by
  have clo : ∀ y ∈ scope.names, y.2 = .free → ∃ c, X.env.cells.lookup y.1 = some c := fun y hy e =>
    (ok.free y hy e).elim (fun q => I.ok.has _ (.inl q)) (fun q => I.ok.has _ (.inr q))
  refine wpAny_comprehension_free (use := use) rfl hs (closure_ok clo) ok.kind (fun y hy e => by rw [ok.uniq y hy, e]) (thn (hi.run pins s σ H _ I h) fun _ s1 first => thn first fun _ s2 got => ?_)
  obtain ⟨it, fp, tn, J, H2, e, I2, T, at0, foot, q⟩ := got
  subst e
  -- the new dict
  refine wpAny_newObj_type (newEnv_comp ?_)
  generalize eD : s2.heap.objs.size = D
  have nD : H2 D = none := I2.hok.fresh (Nat.le_of_eq eD)
  obtain ⟨W, ⟨m0, start⟩, turn⟩ := q D nD
  generalize e3 : ({ s2 with heap := s2.heap.push { cls := .type "dict", data := .dict #[] } } : Shared) = s3
  have hp3 : s3.heap = s2.heap.push { cls := .type "dict", data := .dict #[] } := by rw [← e3]
  have I3 : Inv X pins σ (upd H2 D (.dT [])) s3 := by
    subst e3 eD
    exact I2.laid (t' := s2.toks) (fun b o z => Heap.get?_push_of_some _ z) (Nat.le_refl _) (dt_empty s2.heap I2.big)
  have foot3 : ∀ b ∈ fp, FpOk X pins (upd H2 D (.dT [])) b ∧ b < s3.heap.objs.size := fun b hb => by
    obtain ⟨o, z, _⟩ := T.obj _ _ at0 b hb
    have lt := Heap.lt_size z
    have ne : b ≠ D := by rw [← eD]; exact Nat.ne_of_lt lt
    exact ⟨⟨by rw [upd_ne ne]; exact (foot b hb).1, (foot b hb).2⟩, by rw [hp3, Heap.size_push]; exact Nat.lt_succ_of_lt lt⟩
  have at3 : tn 0 s3.heap := T.keep _ _ _ at0 fun b _ o z => by rw [hp3]; exact Heap.get?_push_of_some _ z
  -- the block
  have I4 : Inv (X.blk s3 (upd H2 D (.dT [])) scope (compEnvC scope (cellsFrom (s3.heap.objs.size + 1) scope.names (cloFrom X.env.cells scope.names [])) s3.heap.objs.size X.env) fp) [] (wipe σ (own.map (·.2))) (upd H2 D (.dT [])) { s3 with heap := pushCells (s3.heap.push { cls := .type "dict", data := .dict #[] }) scope.names } := block_start I3 ok hN foot3
  have G := hg s3 (upd H2 D (.dT [])) s3.heap.objs.size (cellsFrom (s3.heap.objs.size + 1) scope.names (cloFrom X.env.cells scope.names [])) fp
  have Tt := ht s3 (upd H2 D (.dT [])) s3.heap.objs.size (cellsFrom (s3.heap.objs.size + 1) scope.names (cloFrom X.env.cells scope.names [])) fp
  have Kx := hk s3 (upd H2 D (.dT [])) s3.heap.objs.size (cellsFrom (s3.heap.objs.size + 1) scope.names (cloFrom X.env.cells scope.names [])) fp
  have Vx := he s3 (upd H2 D (.dT [])) s3.heap.objs.size (cellsFrom (s3.heap.objs.size + 1) scope.names (cloFrom X.env.cells scope.names [])) fp
  have none0 : ∀ b ∈ fp, (upd H2 D (.dT [])) b = none := fun b hb => (foot3 b hb).1.1
  have at4 : tn 0 (pushCells (s3.heap.push { cls := .type "dict", data := .dict #[] }) scope.names) := T.keep _ _ _ at3 fun b _ o z => pushCells_keeps _ _ _ _ (Heap.get?_push_of_some _ z)
  have locs : (compEnvC scope (cellsFrom (s3.heap.objs.size + 1) scope.names (cloFrom X.env.cells scope.names [])) s3.heap.objs.size X.env).locals = s3.heap.objs.size := rfl
  show codeAny _ _ (.compStart (.DictComp kx vx [⟨tg, iter, ifs, 0⟩] scope pos) 0 (.ref it) (.ref D) (compEnvC scope (cellsFrom (s3.heap.objs.size + 1) scope.names (cloFrom X.env.cells scope.names [])) s3.heap.objs.size X.env)) (compPost (model X.prog X.w) X.A X.xe use Qf (.ref D) s3.heap.objs.size) { s3 with heap := pushCells (s3.heap.push { cls := .type "dict", data := .dict #[] }) scope.names }
  generalize eC : compEnvC scope (cellsFrom (s3.heap.objs.size + 1) scope.names (cloFrom X.env.cells scope.names [])) s3.heap.objs.size X.env = ce at I4 G Tt Kx Vx locs ⊢
  have still : ∀ {σ' : L2.St} {H' : Hp} {s' : Shared}, Inv (X.blk s3 (upd H2 D (.dT [])) scope ce fp) [] σ' H' s' → (∀ b ∈ fp, H' b = none) → ∀ b ∈ fp, FpOk (X.blk s3 (upd H2 D (.dT [])) scope ce fp) [] H' b :=
    fun I' n b hb => ⟨n b hb, (I'.ok.exf b hb).1, I'.ok.exfs b hb, .inl hb, fun x c z => (I'.ok.exf b hb).2 x c z, fun p hp => absurd (show p ∈ ([] : List (Addr × Obj)) ++ [] from hp) (by simp)⟩
  have run : codeAny (model X.prog X.w) X.A (.compLoop (.DictComp kx vx [⟨tg, iter, ifs, 0⟩] scope pos) 0 (.ref it) (.ref D) ce) (compPost (model X.prog X.w) X.A X.xe use Qf (.ref D) s3.heap.objs.size)
      { s3 with heap := pushCells (s3.heap.push { cls := .type "dict", data := .dict #[] }) scope.names } := by
    refine compLoop_anyD (fun n s' => ∃ i H', Inv (X.blk s3 (upd H2 D (.dT [])) scope ce fp) [] (wipe σ (own.map (·.2))) H' s' ∧ tn i s'.heap ∧ (∀ b ∈ fp, H' b = none) ∧ W i n H') (fun n s5 hyp => ?_) m0 ⟨0, _, I4, at4, none0, start⟩
    obtain ⟨i, H5, I5, at5, n5, w5⟩ := hyp
    rcases turn i n H5 w5 with ⟨stop, done⟩ | ⟨go, Nx, less, step⟩
    · refine thnF (T.done (X.blk s3 (upd H2 D (.dT [])) scope ce fp) rfl rfl rfl hc i [] s5 _ H5 (fun _ _ => False) I5 (still I5 n5) at5 stop) fun r s6 last => ?_
      obtain ⟨er, I6⟩ := last
      subst er
      have I7 : Inv X pins σ H5 s6 := I3.call' (ch := fp) I6.os I6.base I6.hok I6.bare fun b hb =>
        let ⟨_, q1, _, q2, q3, q4⟩ := (foot3 b hb).1
        ⟨q2, q1, q3, q4⟩
      have nC : H5 s3.heap.objs.size = none := locs ▸ (show H5 ce.locals = none from I6.free)
      obtain ⟨m, ns, _⟩ := I6.loc
      have ns : s6.heap.Ns s3.heap.objs.size m := locs ▸ (show s6.heap.Ns ce.locals m from ns)
      exact fin D s3.heap.objs.size s6 m H5 I7 done ns (I3.fpOk (Nat.le_refl _) nC)
    · refine thnF (T.item (X.blk s3 (upd H2 D (.dT [])) scope ce fp) rfl rfl rfl hc i [] s5 _ H5 (fun _ _ => False) I5 (still I5 n5) at5 go) fun r s6 item => ?_
      obtain ⟨u, er, h6⟩ := item
      subst er
      refine thnF h6 fun _ s7 ⟨x, H7, I7, r7, y7, at7, n7⟩ => ?_
      -- what the turn leaves
      have next : ∀ {σ8 : L2.St} {H' : Hp} {s' : Shared}, wipe σ8 (own.map (·.2)) = wipe σ (own.map (·.2)) → Inv (X.blk s3 (upd H2 D (.dT [])) scope ce fp) ([] ++ pinsAt fp s7.heap) σ8 H' s' → Nx H' →
          ∃ m, m < n ∧ ∃ i H', Inv (X.blk s3 (upd H2 D (.dT [])) scope ce fp) [] (wipe σ (own.map (·.2))) H' s' ∧ tn i s'.heap ∧ (∀ b ∈ fp, H' b = none) ∧ W i m H' := by
        intro σ8 H' s' hw I' nx
        obtain ⟨m1, lt, w1⟩ := less H' nx
        have pinned : ∀ b ∈ fp, ∀ o, s7.heap.get? b = some o → s'.heap.get? b = some o ∧ H' b = none := fun b hb o z =>
          let q := I'.pin (b, o) (List.mem_append_right _ (List.mem_append_right _ (mem_pinsAt hb z)))
          ⟨q.1, q.2.1⟩
        refine ⟨m1, lt, i + 1, H', (I'.unpinned (pins := [])).weak (by rw [← wipe_length σ8 (own.map (·.2)), hw]) (fun j v z => (wipe_some (show (wipe σ8 (own.map (·.2)))[j]? = some (some v) by rw [hw]; exact z)).1), T.keep _ _ _ at7 fun b hb o z => (pinned b hb o z).1, fun b hb => ?_, w1⟩
        obtain ⟨o, z, _⟩ := T.obj _ _ at7 b hb
        exact (pinned b hb o z).2
      refine thnF (G.run _ s7 _ H7 x u _ (I7.pinned (still I7 n7) (T.obj _ _ at7)) r7 (step x H7 y7)) fun _ s8 ⟨σ8, H8, I8, hw8, q8⟩ => ?_
      refine thnF (Tt.run _ s8 σ8 H8 _ I8 q8) fun b s9 ⟨H9, I9, q9⟩ => ?_
      cases b with
      | false => exact next hw8 I9 q9
      | true =>
        refine thnF (Kx.run _ s9 σ8 H9 _ I9 q9) fun _ s10 ⟨y, H10, I10, ry, q10⟩ => thnF (Vx.run _ s10 σ8 H10 _ I10 q10) fun _ s11 ⟨z, H11, I11, rz, kvs, k, b, ey, eD11, eb11, room, nx⟩ => ?_
        exact put_rows (X := X.blk s3 (upd H2 D (.dT [])) scope ce fp) hu I11 eD11 room ey eb11 ry rz fun s12 I12 => next hw8 I12 nx
  exact codeAny_compStart_dict run (T.self X.A 0 _ _ _ at4 run)
theorem pe_dcT {kx vx tg iter : Expr} {ifs : List Expr} {scope : Scope} {own : List (Str × Nat)} {pos : Pos} {wi : TI} {g : TG} {tt : TT} {tk tv : TE} (hc : X.calm = true) (hN : X.N.Nodup) (hu : X.A.units + 1 < cLine) (hi : PI X tg iter wi) (ok : BlkOk X.N X.env.scope scope own)
    (hg : ∀ (s : Shared) (H : Hp) (C : Addr) (cl : List (Str × Addr)) (fp : List Addr), PG (X.blk s H scope (compEnvC scope cl C X.env) fp) tg g) (ht : ∀ (s : Shared) (H : Hp) (C : Addr) (cl : List (Str × Addr)) (fp : List Addr), PTs (X.blk s H scope (compEnvC scope cl C X.env) fp) ifs tt)
    (hk : ∀ (s : Shared) (H : Hp) (C : Addr) (cl : List (Str × Addr)) (fp : List Addr), PE (X.blk s H scope (compEnvC scope cl C X.env) fp) kx tk)
    (he : ∀ (s : Shared) (H : Hp) (C : Addr) (cl : List (Str × Addr)) (fp : List Addr), PE (X.blk s H scope (compEnvC scope cl C X.env) fp) vx tv) (hs : ∀ x, foldedSetIterable iter X.env x = pure x := by intro _; rfl) :
    PE X (.DictComp kx vx [⟨tg, iter, ifs, 0⟩] scope pos) (tDcT wi g tt tk tv (own.map (·.2))) := by
  refine ⟨fun pins s σ H Q I h => ?_⟩
  rw [arm_eval_DictComp]
  refine dcT_core I hc hN hu hi ok hg ht hk he hs h fun D C s' m H' I' q ns f => ⟨m, ns, fun h9 sb => ?_⟩
  obtain ⟨f0, f1, _, f3, f4, f5⟩ := f
  exact ⟨.ref D, H', I'.turned (t' := s'.toks) (fun b o hb z => (sb.2 b hb).trans z) f0 f1 f3 f4 f5, rfl, q⟩
/-- the value goes straight to a local name -/
theorem sw_dict {kx vx : Expr} {gs : List Comprehension} {scope : Scope} {pos py : Pos} {y : Str} {l : Nat} {env : Env} (hk : env.scope.kind = .function) (hy : env.scope.names.lookup y = some .local) (hl : (py.line == pos.line) = true)
    (ha : (scope.names.any fun (n, k) => n == y && (k == .local || k == .cell)) = false) : swapsWith (.DictComp kx vx gs scope pos) (some (.Name y py)) l env = pure true := by
  have e1 : env.kindOf y = some .local := hy
  have e2 : env.blockKind = .function := by unfold Env.blockKind; rw [hk]; rfl
  unfold swapsWith
  simp only [e2, e1, ha, Expr.pos, hl]
  rfl
theorem ps_setDcT {i : Nat} {y : Str} {py : Pos} {kx vx tg iter : Expr} {ifs : List Expr} {scope : Scope} {own : List (Str × Nat)} {pos spos : Pos} {wi : TI} {g : TG} {tt : TT} {tk tv : TE} (hc : X.calm = true) (hN : X.N.Nodup) (hu : X.A.units + 1 < cLine) (hy : X.N[i]? = some y) (hyl : X.env.scope.names.lookup y = some .local)
    (hsw : swapsWith (.DictComp kx vx [⟨tg, iter, ifs, 0⟩] scope pos) (some (.Name y py)) spos.line X.env = pure true) (hi : PI X tg iter wi) (ok : BlkOk X.N X.env.scope scope own)
    (hg : ∀ (s : Shared) (H : Hp) (C : Addr) (cl : List (Str × Addr)) (fp : List Addr), PG (X.blk s H scope (compEnvC scope cl C X.env) fp) tg g) (ht : ∀ (s : Shared) (H : Hp) (C : Addr) (cl : List (Str × Addr)) (fp : List Addr), PTs (X.blk s H scope (compEnvC scope cl C X.env) fp) ifs tt)
    (hk : ∀ (s : Shared) (H : Hp) (C : Addr) (cl : List (Str × Addr)) (fp : List Addr), PE (X.blk s H scope (compEnvC scope cl C X.env) fp) kx tk)
    (he : ∀ (s : Shared) (H : Hp) (C : Addr) (cl : List (Str × Addr)) (fp : List Addr), PE (X.blk s H scope (compEnvC scope cl C X.env) fp) vx tv) (hs : ∀ x, foldedSetIterable iter X.env x = pure x := by intro _; rfl) :
    PS X (.Assign [.Name y py] (.DictComp kx vx [⟨tg, iter, ifs, 0⟩] scope pos) spos) (tAsg (tDcT wi g tt tk tv (own.map (·.2))) (gName i)) := by
  refine ⟨fun pins s σ H D I h => ?_⟩
  rw [exec_Assign_Name_used _ _ _ _ hsw]
  refine wpAny_bind (wpAny_standAt (wpAny_bind ?_))
  show wpAny _ X.A (do let _ ← comprehension (.DictComp kx vx [⟨tg, iter, ifs, 0⟩] scope pos) scope X.env (firstIterPos [⟨tg, iter, ifs, 0⟩] pos) newDict false (eval iter X.env) (some (assign (.Name y py) X.env))) _ _ s
  have h0 : tDcT wi g tt tk tv (own.map (·.2)) σ H (fun x H1 => gName i x σ H1 D.nx) := h
  refine wpAny_bind (thn (dcT_core (Qf := fun _ s' => SP X pins D .next s') I hc hN hu hi ok hg ht hk he hs h0 fun L C s' m H' I' q ns f => ?_) fun _ s' done => wpAny_pure (wpAny_pure done))
  show wpAny _ _ (assign (.Name y py) X.env (.ref L)) _ _ _
  refine wpAny_assign_Name (store_ok2 (v := V.ref L) I' hN hy (.inl hyl) rfl (fun s2 I2 one => ?_) (.inr hyl))
  obtain ⟨a, sb, place⟩ := one
  obtain ⟨f0, f1, _, f3, f4, f5⟩ := f
  have ne : C ≠ a := place.elim (fun z => by rw [z]; exact f1) (fun z e => f4 y a z e.symm)
  exact ⟨m, ns.sameBut sb ne, fun h3 sb3 => ⟨_, H', I2.turned (t' := s2.toks) (fun b o hb z => (sb3.2 b hb).trans z) f0 f1 f3 f4 f5, q⟩⟩
/-- .. over a tuple that stays as it is -/
theorem dcT_tup {K : PySem.W.Frag} {a : Addr} {xs : List V} {g : TG} {tt : TT} {tk tv : TE} {vs : List Nat} {σ : L2.St} {H1 : Hp} {D : Addr} {Qd : Hp → Prop} (Pv : Nat → Hp → Prop) (h0 : Pv 0 (upd H1 D (.dT []))) (hl : ∀ i H, i ≤ xs.length → Pv i H → SqT K H a xs)
    (hs : ∀ i x H, xs[i]? = some x → Pv i H → Turn g tt tk tv vs σ D (Pv (i + 1)) x H) (hd : ∀ H, Pv xs.length H → Qd H) :
    ∃ W : Nat → Nat → Hp → Prop, (∃ m, W 0 m (upd H1 D (.dT []))) ∧ ∀ i m H, W i m H →
      ((Itt K a).stop i H ∧ Qd H) ∨ ((Itt K a).go i H ∧ ∃ Nx : Hp → Prop, (∀ H', Nx H' → ∃ m', m' < m ∧ W (i + 1) m' H') ∧ ∀ x H', (Itt K a).yld i H x H' → Turn g tt tk tv vs σ D Nx x H') := by
  refine ⟨fun i m H => i + m = xs.length ∧ Pv i H, ⟨xs.length, Nat.zero_add _, h0⟩, fun i m H ⟨sum, p⟩ => ?_⟩
  have there := hl i H (by omega) p
  rcases Nat.eq_zero_or_pos m with rfl | pos
  · have e : i = xs.length := by omega
    subst e
    exact .inl ⟨⟨xs, there, Nat.le_refl _⟩, hd H p⟩
  · have lt : i < xs.length := by omega
    refine .inr ⟨⟨xs, xs[i], there, by simp [lt]⟩, Pv (i + 1), fun H' p' => ⟨m - 1, by omega, by omega, p'⟩, fun x H' y => ?_⟩
    obtain ⟨rfl, y⟩ := y
    exact hs i x _ (y xs there) p
end
end NR

/-! {e for x in t}, tuples of ints; sorted of tuples of ints, empty ones too -/
namespace NR
open PySem PySem.Spec PyProof.Rows L2 PpSet
section
variable {P : Program} {w : World} {A : Around} {E : Value → Shared → Prop} {s : Shared}
/-- s.add(row) -/
theorem call_add_row {a x : Addr} {k : List Int} {L : List (Addr × List Int)} {es : Array (Int × Value)} {ep : Nat} {t : SetTable} {Q : Value → Shared → Prop} (R : L2.SetTR P w s.heap a L es ep t) (hx : L2.IsT P w s.heap k x) (hu : A.units + 1 < cLine) (few : L.length + 1 < 64)
    (hQ : ∀ h' tk L' es' ep' t', Heap.SameBut a s.heap h' → L2.SetTR P w h' a L' es' ep' t' → (k ∈ L.map (·.2) → L' = L) → (k ∉ L.map (·.2) → L'.Perm ((x, k) :: L)) → Q .none { s with heap := h', toks := tk }) :
    wpAny (model P w) A (call (.builtin "set.add") [.ref a, .ref x]) Q E s := by
  have isS : s.TypeIs (.ref a) "set" := let ⟨o, ho, hex, _⟩ := R.ob; ⟨o, ho, hex.1⟩
  refine wpAny_call_entry F.slot_set_add isS F.entry_set_add ?_ (F.args_set_add_2 _ _)
  unfold Builtin.«set.add» Builtin.Frozenset.oneOther
  simp only [List.isEmpty_nil, bind_assoc]
  unfold Builtin.Frozenset.addrOf setAdd
  refine wpAny_bind (wpAny_pure ?_)
  try dsimp only
  refine wpAny_bind (wpAny_pure ?_)
  try dsimp only
  refine wpAny_bind ?_
  refine wpAny_holding ?_
  refine wpAny_bind (wpAny_pyHash_tuple (knd := intKind P w) (show A.in1.units < cLine from hu) hx ?_)
  refine L2.add_at (s := { s with toks := s.toks + (k.length + 1) }) R hx (show A.in1.units < cLine from hu) few fun b h' L' es' ep' t' sb R' same more => ?_
  show wpAny _ _ (ret Value.none) _ _ _
  exact wpAny_pure ⟨_, rfl, hQ h' _ L' es' ep' t' sb R' same more⟩
end
section
variable {X : Cx}
/-- a row put into a set of rows -/
theorem add_row {pins : List (Addr × Obj)} {σ : L2.St} {H : Hp} {s : Shared} {E : Value → Shared → Prop} {D b : Addr} {L : List (Addr × List Int)} {k : List Int} {y : V} {u : Value} {Q : Value → Shared → Prop} (hu : X.A.units + 1 < cLine)
    (I : Inv X pins σ H s) (eD : H D = some (SetTO X.prog X.w D L)) (hL : ∀ p ∈ L, SqT X.K H p.1 (p.2.map V.int)) (room : L.length + 1 < 64) (ey : y = .ref b) (eb : H b = some (.tup (k.map V.int))) (ry : RelV y u)
    (h : ∀ s' L', (k ∈ L.map (·.2) → L' = L) → (k ∉ L.map (·.2) → L'.Perm ((b, k) :: L)) → Inv X pins σ (upd H D (SetTO X.prog X.w D L')) s' → Q .none s') :
    wpAny (model X.prog X.w) X.A (call (.builtin "set.add") [.ref D, u]) Q E s := by
  subst ey
  cases (show u = Value.ref b from ry)
  have R0 : L2.SetT0 X.prog X.w s.heap D L := (I.hok D _ eD).1
  obtain ⟨es, ep, t, R⟩ := R0.full fun p hp => L2.Inv.isT I (hL p hp)
  refine call_add_row R (L2.Inv.isT I (SqT.of eb)) hu room fun h1 tk L' es' ep' t' only R' same more => ?_
  have there : ∃ o, h1.get? D = some o := let ⟨o, ho, _⟩ := R'.ob; ⟨o, ho⟩
  exact h _ L' same more (I.write (e := D) (t' := tk) (by rw [eD]; trivial) (.inl rfl) (fun c o hc z => (only.2 c hc).trans z) there (L2.setTO_new R'.t0))
/-- a turn of such a comprehension -/
def AddsS (P : Program) (w : World) (K : PySem.W.Frag) (D : Addr) (Nx : Hp → Prop) (y : V) (H : Hp) : Prop := ∃ (L : List (Addr × List Int)) (k : List Int) (b : Addr), y = .ref b ∧ H D = some (SetTO P w D L) ∧ (∀ p ∈ L, SqT K H p.1 (p.2.map V.int)) ∧ H b = some (.tup (k.map V.int)) ∧ L.length + 1 < 64 ∧
  ∀ L', (k ∈ L.map (·.2) → L' = L) → (k ∉ L.map (·.2) → L'.Perm ((b, k) :: L)) → Nx (upd H D (SetTO P w D L'))
def TurnS (P : Program) (w : World) (K : PySem.W.Frag) (g : TG) (tt : TT) (te : TE) (vs : List Nat) (σ : L2.St) (D : Addr) (Nx : Hp → Prop) (x : V) (H : Hp) : Prop := g x (wipe σ vs) H fun σ2 H2 => wipe σ2 vs = wipe σ vs ∧ tt σ2 H2 fun b H3 =>
  if b = true then te σ2 H3 fun y H4 => AddsS P w K D Nx y H4 else Nx H3
def tScT (P : Program) (w : World) (K : PySem.W.Frag) (wi : TI) (g : TG) (tt : TT) (te : TE) (vs : List Nat) : TE := fun σ H Q => wi σ H fun J H1 => ∀ D, H1 D = none → ∃ W : Nat → Nat → Hp → Prop, (∃ m, W 0 m (upd H1 D (SetTO P w D []))) ∧ ∀ i m H, W i m H →
  (J.stop i H ∧ Q (.ref D) H) ∨ (J.go i H ∧ ∃ Nx : Hp → Prop, (∀ H', Nx H' → ∃ m', m' < m ∧ W (i + 1) m' H') ∧ ∀ x H', J.yld i H x H' → TurnS P w K g tt te vs σ D Nx x H')
theorem scT_core {pins : List (Addr × Obj)} {s : Shared} {σ : L2.St} {H : Hp} {Q : VK} {use : Option (Value → Sem Unit)} {Qf : Value → Shared → Prop} {elt tg iter : Expr} {ifs : List Expr} {scope : Scope} {own : List (Str × Nat)} {pos pos' : Pos} {wi : TI} {g : TG} {tt : TT} {te : TE} (I : Inv X pins σ H s)
    (hc : X.calm = true) (hN : X.N.Nodup) (hu : X.A.units + 1 < cLine) (hi : PI X tg iter wi) (ok : BlkOk X.N X.env.scope scope own)
    (hg : ∀ (s : Shared) (H : Hp) (C : Addr) (cl : List (Str × Addr)) (fp : List Addr), PG (X.blk s H scope (compEnvC scope cl C X.env) fp) tg g) (ht : ∀ (s : Shared) (H : Hp) (C : Addr) (cl : List (Str × Addr)) (fp : List Addr), PTs (X.blk s H scope (compEnvC scope cl C X.env) fp) ifs tt)
    (he : ∀ (s : Shared) (H : Hp) (C : Addr) (cl : List (Str × Addr)) (fp : List Addr), PE (X.blk s H scope (compEnvC scope cl C X.env) fp) elt te) (hs : ∀ x, foldedSetIterable iter X.env x = pure x)
    (h : tScT X.prog X.w X.K wi g tt te (own.map (·.2)) σ H Q)
    (fin : ∀ D C s' m H', Inv X pins σ H' s' → Q (.ref D) H' → s'.heap.Ns C m → FpOk X pins H' C → compPost (model X.prog X.w) X.A X.xe use Qf (.ref D) C (.ok .next) s') :
    wpAny (model X.prog X.w) X.A (comprehension (.SetComp elt [⟨tg, iter, ifs, 0⟩] scope pos) scope X.env pos' (newSet (.type "set")) false (eval iter X.env) use) Qf X.xe s := by
  have clo : ∀ y ∈ scope.names, y.2 = .free → ∃ c, X.env.cells.lookup y.1 = some c := fun y hy e =>
    (ok.free y hy e).elim (fun q => I.ok.has _ (.inl q)) (fun q => I.ok.has _ (.inr q))
  refine wpAny_comprehension_free (use := use) rfl hs (closure_ok clo) ok.kind (fun y hy e => by rw [ok.uniq y hy, e]) (thn (hi.run pins s σ H _ I h) fun _ s1 first => thn first fun _ s2 got => ?_)
  obtain ⟨it, fp, tn, J, H2, e, I2, T, at0, foot, q⟩ := got
  subst e
  -- the new dict
  refine newSet_ok (newEnv_comp ?_)
  generalize eD : s2.heap.objs.size = D
  have nD : H2 D = none := I2.hok.fresh (Nat.le_of_eq eD)
  obtain ⟨W, ⟨m0, start⟩, turn⟩ := q D nD
  generalize e3 : ({ s2 with heap := s2.heap.push (freshSet X.w) } : Shared) = s3
  have hp3 : s3.heap = s2.heap.push (freshSet X.w) := by rw [← e3]
  have I3 : Inv X pins σ (upd H2 D (SetTO X.prog X.w D [])) s3 := by
    subst e3 eD
    exact I2.laid (t' := s2.toks) (fun b o z => Heap.get?_push_of_some _ z) (Nat.le_refl _) (L2.setTO_new (L2.setTR_fresh (P := X.prog) (w := X.w) (Heap.get?_push_size _ rfl)).t0)
  have foot3 : ∀ b ∈ fp, FpOk X pins (upd H2 D (SetTO X.prog X.w D [])) b ∧ b < s3.heap.objs.size := fun b hb => by
    obtain ⟨o, z, _⟩ := T.obj _ _ at0 b hb
    have lt := Heap.lt_size z
    have ne : b ≠ D := by rw [← eD]; exact Nat.ne_of_lt lt
    exact ⟨⟨by rw [upd_ne ne]; exact (foot b hb).1, (foot b hb).2⟩, by rw [hp3, Heap.size_push]; exact Nat.lt_succ_of_lt lt⟩
  have at3 : tn 0 s3.heap := T.keep _ _ _ at0 fun b _ o z => by rw [hp3]; exact Heap.get?_push_of_some _ z
  -- the block
  have I4 : Inv (X.blk s3 (upd H2 D (SetTO X.prog X.w D [])) scope (compEnvC scope (cellsFrom (s3.heap.objs.size + 1) scope.names (cloFrom X.env.cells scope.names [])) s3.heap.objs.size X.env) fp) [] (wipe σ (own.map (·.2))) (upd H2 D (SetTO X.prog X.w D [])) { s3 with heap := pushCells (s3.heap.push { cls := .type "dict", data := .dict #[] }) scope.names } := block_start I3 ok hN foot3
  have G := hg s3 (upd H2 D (SetTO X.prog X.w D [])) s3.heap.objs.size (cellsFrom (s3.heap.objs.size + 1) scope.names (cloFrom X.env.cells scope.names [])) fp
  have Tt := ht s3 (upd H2 D (SetTO X.prog X.w D [])) s3.heap.objs.size (cellsFrom (s3.heap.objs.size + 1) scope.names (cloFrom X.env.cells scope.names [])) fp
  have Vx := he s3 (upd H2 D (SetTO X.prog X.w D [])) s3.heap.objs.size (cellsFrom (s3.heap.objs.size + 1) scope.names (cloFrom X.env.cells scope.names [])) fp
  have none0 : ∀ b ∈ fp, (upd H2 D (SetTO X.prog X.w D [])) b = none := fun b hb => (foot3 b hb).1.1
  have at4 : tn 0 (pushCells (s3.heap.push { cls := .type "dict", data := .dict #[] }) scope.names) := T.keep _ _ _ at3 fun b _ o z => pushCells_keeps _ _ _ _ (Heap.get?_push_of_some _ z)
  have locs : (compEnvC scope (cellsFrom (s3.heap.objs.size + 1) scope.names (cloFrom X.env.cells scope.names [])) s3.heap.objs.size X.env).locals = s3.heap.objs.size := rfl
  show codeAny _ _ (.compStart (.SetComp elt [⟨tg, iter, ifs, 0⟩] scope pos) 0 (.ref it) (.ref D) (compEnvC scope (cellsFrom (s3.heap.objs.size + 1) scope.names (cloFrom X.env.cells scope.names [])) s3.heap.objs.size X.env)) (compPost (model X.prog X.w) X.A X.xe use Qf (.ref D) s3.heap.objs.size) { s3 with heap := pushCells (s3.heap.push { cls := .type "dict", data := .dict #[] }) scope.names }
  generalize eC : compEnvC scope (cellsFrom (s3.heap.objs.size + 1) scope.names (cloFrom X.env.cells scope.names [])) s3.heap.objs.size X.env = ce at I4 G Tt Vx locs ⊢
  have still : ∀ {σ' : L2.St} {H' : Hp} {s' : Shared}, Inv (X.blk s3 (upd H2 D (SetTO X.prog X.w D [])) scope ce fp) [] σ' H' s' → (∀ b ∈ fp, H' b = none) → ∀ b ∈ fp, FpOk (X.blk s3 (upd H2 D (SetTO X.prog X.w D [])) scope ce fp) [] H' b :=
    fun I' n b hb => ⟨n b hb, (I'.ok.exf b hb).1, I'.ok.exfs b hb, .inl hb, fun x c z => (I'.ok.exf b hb).2 x c z, fun p hp => absurd (show p ∈ ([] : List (Addr × Obj)) ++ [] from hp) (by simp)⟩
  have run : codeAny (model X.prog X.w) X.A (.compLoop (.SetComp elt [⟨tg, iter, ifs, 0⟩] scope pos) 0 (.ref it) (.ref D) ce) (compPost (model X.prog X.w) X.A X.xe use Qf (.ref D) s3.heap.objs.size)
      { s3 with heap := pushCells (s3.heap.push { cls := .type "dict", data := .dict #[] }) scope.names } := by
    refine compLoopS_any (fun n s' => ∃ i H', Inv (X.blk s3 (upd H2 D (SetTO X.prog X.w D [])) scope ce fp) [] (wipe σ (own.map (·.2))) H' s' ∧ tn i s'.heap ∧ (∀ b ∈ fp, H' b = none) ∧ W i n H') (fun n s5 hyp => ?_) m0 ⟨0, _, I4, at4, none0, start⟩
    obtain ⟨i, H5, I5, at5, n5, w5⟩ := hyp
    rcases turn i n H5 w5 with ⟨stop, done⟩ | ⟨go, Nx, less, step⟩
    · refine thnF (T.done (X.blk s3 (upd H2 D (SetTO X.prog X.w D [])) scope ce fp) rfl rfl rfl hc i [] s5 _ H5 (fun _ _ => False) I5 (still I5 n5) at5 stop) fun r s6 last => ?_
      obtain ⟨er, I6⟩ := last
      subst er
      have I7 : Inv X pins σ H5 s6 := I3.call' (ch := fp) I6.os I6.base I6.hok I6.bare fun b hb =>
        let ⟨_, q1, _, q2, q3, q4⟩ := (foot3 b hb).1
        ⟨q2, q1, q3, q4⟩
      have nC : H5 s3.heap.objs.size = none := locs ▸ (show H5 ce.locals = none from I6.free)
      obtain ⟨m, ns, _⟩ := I6.loc
      have ns : s6.heap.Ns s3.heap.objs.size m := locs ▸ (show s6.heap.Ns ce.locals m from ns)
      exact fin D s3.heap.objs.size s6 m H5 I7 done ns (I3.fpOk (Nat.le_refl _) nC)
    · refine thnF (T.item (X.blk s3 (upd H2 D (SetTO X.prog X.w D [])) scope ce fp) rfl rfl rfl hc i [] s5 _ H5 (fun _ _ => False) I5 (still I5 n5) at5 go) fun r s6 item => ?_
      obtain ⟨u, er, h6⟩ := item
      subst er
      refine thnF h6 fun _ s7 ⟨x, H7, I7, r7, y7, at7, n7⟩ => ?_
      -- what the turn leaves
      have next : ∀ {σ8 : L2.St} {H' : Hp} {s' : Shared}, wipe σ8 (own.map (·.2)) = wipe σ (own.map (·.2)) → Inv (X.blk s3 (upd H2 D (SetTO X.prog X.w D [])) scope ce fp) ([] ++ pinsAt fp s7.heap) σ8 H' s' → Nx H' →
          ∃ m, m < n ∧ ∃ i H', Inv (X.blk s3 (upd H2 D (SetTO X.prog X.w D [])) scope ce fp) [] (wipe σ (own.map (·.2))) H' s' ∧ tn i s'.heap ∧ (∀ b ∈ fp, H' b = none) ∧ W i m H' := by
        intro σ8 H' s' hw I' nx
        obtain ⟨m1, lt, w1⟩ := less H' nx
        have pinned : ∀ b ∈ fp, ∀ o, s7.heap.get? b = some o → s'.heap.get? b = some o ∧ H' b = none := fun b hb o z =>
          let q := I'.pin (b, o) (List.mem_append_right _ (List.mem_append_right _ (mem_pinsAt hb z)))
          ⟨q.1, q.2.1⟩
        refine ⟨m1, lt, i + 1, H', (I'.unpinned (pins := [])).weak (by rw [← wipe_length σ8 (own.map (·.2)), hw]) (fun j v z => (wipe_some (show (wipe σ8 (own.map (·.2)))[j]? = some (some v) by rw [hw]; exact z)).1), T.keep _ _ _ at7 fun b hb o z => (pinned b hb o z).1, fun b hb => ?_, w1⟩
        obtain ⟨o, z, _⟩ := T.obj _ _ at7 b hb
        exact (pinned b hb o z).2
      refine thnF (G.run _ s7 _ H7 x u _ (I7.pinned (still I7 n7) (T.obj _ _ at7)) r7 (step x H7 y7)) fun _ s8 ⟨σ8, H8, I8, hw8, q8⟩ => ?_
      refine thnF (Tt.run _ s8 σ8 H8 _ I8 q8) fun b s9 ⟨H9, I9, q9⟩ => ?_
      cases b with
      | false => exact next hw8 I9 q9
      | true =>
        refine thnF (Vx.run _ s9 σ8 H9 _ I9 q9) fun _ s10 ⟨y, H10, I10, ry, L, k, b, ey, eD10, hL, eb10, room, nx⟩ => ?_
        exact add_row (X := X.blk s3 (upd H2 D (SetTO X.prog X.w D [])) scope ce fp) hu I10 eD10 hL room ey eb10 ry fun s11 L' h1 h2 I11 => next hw8 I11 (nx L' h1 h2)
  exact codeAny_compStart_set run (T.self X.A 0 _ _ _ at4 run)
theorem pe_scT {elt tg iter : Expr} {ifs : List Expr} {scope : Scope} {own : List (Str × Nat)} {pos : Pos} {wi : TI} {g : TG} {tt : TT} {te : TE} (hc : X.calm = true) (hN : X.N.Nodup) (hu : X.A.units + 1 < cLine) (hi : PI X tg iter wi) (ok : BlkOk X.N X.env.scope scope own)
    (hg : ∀ (s : Shared) (H : Hp) (C : Addr) (cl : List (Str × Addr)) (fp : List Addr), PG (X.blk s H scope (compEnvC scope cl C X.env) fp) tg g) (ht : ∀ (s : Shared) (H : Hp) (C : Addr) (cl : List (Str × Addr)) (fp : List Addr), PTs (X.blk s H scope (compEnvC scope cl C X.env) fp) ifs tt)
    (he : ∀ (s : Shared) (H : Hp) (C : Addr) (cl : List (Str × Addr)) (fp : List Addr), PE (X.blk s H scope (compEnvC scope cl C X.env) fp) elt te) (hs : ∀ x, foldedSetIterable iter X.env x = pure x := by intro _; rfl) :
    PE X (.SetComp elt [⟨tg, iter, ifs, 0⟩] scope pos) (tScT X.prog X.w X.K wi g tt te (own.map (·.2))) := by
  refine ⟨fun pins s σ H Q I h => ?_⟩
  rw [eval_SetComp]
  refine scT_core I hc hN hu hi ok hg ht he hs h fun D C s' m H' I' q ns f => ⟨m, ns, fun h9 sb => ?_⟩
  obtain ⟨f0, f1, _, f3, f4, f5⟩ := f
  exact ⟨.ref D, H', I'.turned (t' := s'.toks) (fun b o hb z => (sb.2 b hb).trans z) f0 f1 f3 f4 f5, rfl, q⟩
end
end NR

namespace NR
open PySem PySem.Spec PyProof.Rows L2
/-- a set comprehension over a tuple that stays as it is -/
theorem scT_tup {P : Program} {w : World} {K : PySem.W.Frag} {a : Addr} {xs : List V} {g : TG} {tt : TT} {te : TE} {vs : List Nat} {σ : L2.St} {H1 : Hp} {D : Addr} {Qd : Hp → Prop} (Pv : Nat → Hp → Prop) (h0 : Pv 0 (upd H1 D (SetTO P w D []))) (hl : ∀ i H, i ≤ xs.length → Pv i H → SqT K H a xs)
    (hs : ∀ i x H, xs[i]? = some x → Pv i H → TurnS P w K g tt te vs σ D (Pv (i + 1)) x H) (hd : ∀ H, Pv xs.length H → Qd H) :
    ∃ W : Nat → Nat → Hp → Prop, (∃ m, W 0 m (upd H1 D (SetTO P w D []))) ∧ ∀ i m H, W i m H →
      ((Itt K a).stop i H ∧ Qd H) ∨ ((Itt K a).go i H ∧ ∃ Nx : Hp → Prop, (∀ H', Nx H' → ∃ m', m' < m ∧ W (i + 1) m' H') ∧ ∀ x H', (Itt K a).yld i H x H' → TurnS P w K g tt te vs σ D Nx x H') := by
  refine ⟨fun i m H => i + m = xs.length ∧ Pv i H, ⟨xs.length, Nat.zero_add _, h0⟩, fun i m H ⟨sum, p⟩ => ?_⟩
  have there := hl i H (by omega) p
  rcases Nat.eq_zero_or_pos m with rfl | pos
  · have e : i = xs.length := by omega
    subst e
    exact .inl ⟨⟨xs, there, Nat.le_refl _⟩, hd H p⟩
  · have lt : i < xs.length := by omega
    refine .inr ⟨⟨xs, xs[i], there, by simp [lt]⟩, Pv (i + 1), fun H' p' => ⟨m - 1, by omega, by omega, p'⟩, fun x H' y => ?_⟩
    obtain ⟨rfl, y⟩ := y
    exact hs i x _ (y xs there) p
section
variable {P : Program} {w : World} {A : Around} {E : Value → Shared → Prop} {s : Shared}
/-- one value, or none, is sorted already -/
theorem sorts_short {vs : List Value} {ds : List PyData} (e : PySem.W.EachIs (fun v d => ∃ as, Reads s.heap v d as) vs ds) (hal : PySem.W.AllAlike ds) (short : vs.length ≤ 1) (hn : ∀ d, d ∈ ds → d ≠ .none) (hu : ∀ d, d ∈ ds → A.units + d.depth < cLine) :
    PySem.W.SortsAt P w A s (PySem.W.dataKind s.heap ds) vs := by
  refine ⟨fun v hv => ?_, general', fun E x y a b Q ha hb hq => ?_, fun two => absurd two (by omega)⟩
  · obtain ⟨d, hd, as, r⟩ := e.left v hv
    exact ⟨_, PySem.W.dataKind_some hal hd r⟩
  · obtain ⟨d, as, hd, ra, rfl⟩ := PySem.W.dataKind_inv ha
    obtain ⟨d', as', hd', rb, rfl⟩ := PySem.W.dataKind_inv hb
    exact PySem.W.oneLt_alike (f := false) (fun h => nomatch h) ra rb (hal d hd d' hd') (hn d hd) (Nat.lt_of_le_of_lt (Nat.add_le_add_left (Nat.min_le_left _ _) _) (hu d hd)) hq
theorem sorts_any {vs : List Value} {ds : List PyData} (e : PySem.W.EachIs (fun v d => ∃ as, Reads s.heap v d as) vs ds) (hal : PySem.W.AllAlike ds) (hk : PySem.W.Sortable ds ∨ (vs.length ≤ 1 ∧ ∀ d, d ∈ ds → d ≠ .none)) (hu : ∀ d, d ∈ ds → A.units + d.depth < cLine) :
    PySem.W.SortsAt P w A s (PySem.W.dataKind s.heap ds) vs := hk.elim (fun h => .data e hal h hu) fun h => sorts_short e hal h.1 h.2 hu
theorem list_sort_any {β : Type} {R : Value → β → Prop} {enc : β → PyData} {vs : List Value} {bs : List β} {a : Addr} {n : Nat} {Q : Value → Shared → Prop} (ho : s.heap.get? a = some (seqObj "list" vs.toArray n)) (e : PySem.W.EachIs R vs bs)
    (er : PySem.W.EachIs (fun v b => ∃ as, Reads s.heap v (enc b) as ∧ a ∉ as) vs bs) (hal : PySem.W.AllAlike (bs.map enc)) (hk : PySem.W.Sortable (bs.map enc) ∨ (bs.length ≤ 1 ∧ ∀ d, d ∈ bs.map enc → d ≠ .none)) (hL : bs.length ≤ sizeLine)
    (hu : ∀ b, b ∈ bs → A.units + 1 + (enc b).depth < cLine) (h : ∀ out, out.length = bs.length → PySem.W.EachIs R out (bs.mergeSort (PySem.W.dataLe false enc)) → Q .none { s with heap := sortedHeap s.heap a vs (List.toArray out) }) :
    wpAny (model P w) A (call (.builtin "list.sort") [.ref a]) Q E s := by
  have er' : PySem.W.EachIs (fun v b => ∃ as, Reads (PySem.W.sortingHeap s.heap a vs) v (enc b) as) vs bs :=
    PySem.W.each_keepBut (h' := PySem.W.sortingHeap s.heap a vs) (fun _ _ hb q => PySem.W.sortingHeap_old hb q) (fun o q => by rw [ho] at q; rw [← Option.some.inj q]) hal er
  refine wpAny_call_entry slot_list_sort ⟨_, ho, rfl⟩ entry_list_sort (PySem.W.list_sort_vals (κ := PySem.W.dataKind (PySem.W.sortingHeap s.heap a vs) (bs.map enc)) ho
    (sorts_any (s := { s with heap := PySem.W.sortingHeap s.heap a vs }) (PySem.W.each_map (R := fun v d => ∃ as, Reads (PySem.W.sortingHeap s.heap a vs) v d as) enc er') hal (by rw [e.length]; exact hk) (PySem.W.bound_map hu)) (by rw [e.length]; exact hL) ⟨.none, rfl, ?_⟩) (args_list_sort _)
  exact h _ (by rw [PySem.W.sortVals_length false rfl]; exact e.length) (PySem.W.sortVals_data false e er' hal)
/-- sorted of such a set, from the set's own table -/
theorem sorted_set_any {a : Addr} {L : List (Addr × List Int)} {es : Array (Int × Value)} {ep : Nat} {t : SetTable} {Q : Value → Shared → Prop} (R : L2.SetTR P w s.heap a L es ep t) (hh : A.handled = none) (hu : A.units + 64 < cLine)
    (hne : (∀ p ∈ L, p.2 ≠ []) ∨ L.length ≤ 1)
    (hQ : ∀ s' p (out : Array Value) (c : Nat) (L' : List (Addr × List Int)), (∀ b o, s.heap.get? b = some o → s'.heap.get? b = some o) → s'.gens = s.gens → s'.os = s.os → s.heap.objs.size ≤ p →
      s'.heap.get? p = some (seqObj "list" out c) → out.toList = L'.map (fun q => Value.ref q.1) → L'.Perm L → L'.Pairwise (fun q r => q.2 < r.2) → Q (.ref p) s') :
    wpAny (model P w) A (call (.builtin "sorted") [.ref a]) Q E s := by
  have hob := R.ob
  have few := R.few
  have nL : L.Nodup := L2.nodup_of_map R.nd
  obtain ⟨o, ho, hex, hd⟩ := hob
  refine Calls.call_function_entry kind_sorted plain_sorted entry_sorted (args_sorted1 _) ?_; unfold Builtin.«sorted»
  refine wpAny_bind (m := checkCount "sorted" 1 1 _) (wpAny_pure ?_)
  refine wpAny_bind (L2.collect_set (A := A.in1) hh ⟨o, ho, hex.1, hd⟩ R.fits (by have z := R.size; unfold scanBound; omega) R.tab.ris R.led fun s1 vs keep hz hg hos pm => ?_)
  -- the values collected are the addresses of the set's rows
  have er : es.toList.map (·.2) = L.map fun q => Value.ref q.1 := by
    rw [R.rows]; unfold L2.rowsOf; rw [List.map_map]; rfl
  rw [er] at pm
  obtain ⟨L1, e1, p1⟩ : ∃ L1 : List (Addr × List Int), vs = L1.map (fun q => Value.ref q.1) ∧ L1.Perm L := PermMap.lift pm rfl
  subst e1
  have vl : (L1.map fun q => Value.ref q.1).length < 64 := by rw [List.length_map, p1.length_eq]; exact few
  refine wpAny_bind (wpAny_newList ?_ (by rw [sizeLine_eq]; omega))
  have atL : (s1.heap.push (seqObj "list" (L1.map fun q => Value.ref q.1).toArray 0)).get? s1.heap.objs.size = some (seqObj "list" (L1.map fun q => Value.ref q.1).toArray 0) := Heap.get?_push_size _ rfl
  have kp : ∀ b u, s1.heap.get? b = some u → (s1.heap.push (seqObj "list" (L1.map fun q => Value.ref q.1).toArray 0)).get? b = some u := fun b u e => Heap.get?_push_of_some _ e
  have rd : ∀ q ∈ L1, ∃ as, Reads (s1.heap.push (seqObj "list" (L1.map fun q => Value.ref q.1).toArray 0)) (.ref q.1) (encP q) as ∧ s1.heap.objs.size ∉ as := fun q hq => by
    obtain ⟨as, r1, r2⟩ := reads_row (P := P) (w := w) (L2.isT_keep (R.tup q (p1.mem_iff.mp hq)) fun b u e => kp b u (keep b u e))
    exact ⟨as, r1, r2 _ fun o e => by rw [atL] at e; cases e; rfl⟩
  have each : ∀ l : List (Addr × List Int), (∀ q ∈ l, q ∈ L1) → PySem.W.EachIs (fun v q => v = Value.ref q.1 ∧ q ∈ L1) (l.map fun q => Value.ref q.1) l := by
    intro l hl
    induction l with
    | nil => exact .nil
    | cons q r ih => exact .cons ⟨rfl, hl q (List.mem_cons_self ..)⟩ (ih fun x hx => hl x (List.mem_cons_of_mem _ hx))
  have e1 := each L1 fun _ h => h
  refine wpAny_bind (wpAny_holding (list_sort_any (s := { s1 with heap := s1.heap.push (seqObj "list" (L1.map fun q => Value.ref q.1).toArray 0) }) (enc := encP) atL e1 (e1.mono fun v q h => by rw [h.1]; exact rd q h.2)
    (PySem.W.AllAlike.of fun b b' => by unfold encP; simp only [PySem.W.alike]; exact PySem.W.alike_ints _ _) (hne.elim (fun hne => .inl (.inl fun d hd => ?_)) fun short => .inr ⟨by rw [p1.length_eq]; exact short, fun d hd => ?_⟩) (by rw [List.length_map] at vl; rw [sizeLine_eq]; omega)
    (fun b _ => by have h1 := encP_depth b; have h2 : A.in1.units = A.units + 1 := rfl; omega) fun out ol eo => ?_))
  · obtain ⟨q, hq, rfl⟩ := List.mem_map.mp hd
    unfold encP
    cases z : q.2 with
    | nil => exact absurd z (hne q (p1.mem_iff.mp hq))
    | cons x r => exact ⟨_, _, rfl⟩
  · obtain ⟨q, hq, rfl⟩ := List.mem_map.mp hd
    unfold encP
    exact fun e => by cases e
  · obtain ⟨c, hc⟩ := sortedHeap_at (vs := L1.map fun q => Value.ref q.1) (out := out.toArray) atL
    have eout : out = (L1.mergeSort (PySem.W.dataLe false encP)).map fun q => Value.ref q.1 := by
      have go : ∀ (us : List Value) (l : List (Addr × List Int)), PySem.W.EachIs (fun v q => v = Value.ref q.1 ∧ q ∈ L1) us l → us = l.map fun q => Value.ref q.1 := by
        intro us l h
        induction h with
        | nil => rfl
        | cons h _ ih => rw [List.map_cons, ← ih, h.1]
      exact go _ _ eo
    have pS : (L1.mergeSort (PySem.W.dataLe false encP)).Perm L1 := List.mergeSort_perm _ _
    have nS : ((L1.mergeSort (PySem.W.dataLe false encP)).map (·.2)).Nodup := ((pS.trans p1).map (·.2)).nodup_iff.mpr R.nd
    have ord : (L1.mergeSort (PySem.W.dataLe false encP)).Pairwise fun q r => q.2 < r.2 := by
      have z := PySem.W.sort_pairwise (le := PySem.W.dataLe false encP) (PySem.W.sortLe_total _ _ _) L1
      have n2 : (L1.mergeSort (PySem.W.dataLe false encP)).Pairwise fun q r => q.2 ≠ r.2 := List.pairwise_map.mp nS
      refine (z.and n2).imp fun {q r} h => ?_
      obtain ⟨h1, h2⟩ := h
      rw [encP_le] at h1
      exact list_lt_of_le (of_decide_eq_true h1) h2
    refine wpAny_pure ⟨_, rfl, hQ _ s1.heap.objs.size out.toArray c (L1.mergeSort (PySem.W.dataLe false encP)) (fun b u e => ?_) hg hos hz hc (by rw [List.toList_toArray]; exact eout) (pS.trans p1) ord⟩
    have k1 := keep b u e
    have lt := Heap.lt_size k1
    show (sortedHeap (s1.heap.push (seqObj "list" (L1.map fun q => Value.ref q.1).toArray 0)) s1.heap.objs.size (L1.map fun q => Value.ref q.1) out.toArray).get? b = some u
    rw [sortedHeap_old (Nat.ne_of_lt lt) (by rw [size_push']; exact Nat.lt_succ_of_lt lt)]
    exact kp b u k1
end

section
variable {X : Cx}
/-- sorted(set), tuples of ints of either sign, none of them empty, or one alone -/
def rSrtA (K : PySem.W.Frag) (P : Program) (w : World) : List V → Hp → VK → Prop := fun vs H Q => ∃ (a : Addr) (L : List (Addr × List Int)), vs = [V.ref a] ∧ H a = some (SetTO P w a L) ∧ (∀ p ∈ L, SqT K H p.1 (p.2.map V.int)) ∧ ((∀ p ∈ L, p.2 ≠ []) ∨ L.length ≤ 1) ∧
  ∀ (M : List (Addr × List Int)) (p : Addr), M.Perm L → M.Pairwise (fun q r => q.2 < r.2) → H p = none → Q (.ref p) (upd H p (.lst (M.map fun q => V.ref q.1)))
theorem cr_srtA (hc : X.calm = true) (hu : X.A.units + 64 < cLine) : CallR X (.builtin "sorted") (rSrtA X.K X.prog X.w) := by
  intro pins s σ H vs us Q I r h
  obtain ⟨a, L, rfl, ha, hk, hne, q⟩ := h
  have R0 : L2.SetT0 X.prog X.w s.heap a L := (I.hok a _ ha).1
  obtain ⟨es, ep, t, R⟩ := R0.full fun p hp => L2.Inv.isT I (hk p hp)
  rw [L2.Vals.ref1 r]
  refine sorted_set_any R (I.ok.hd hc) hu hne fun s' p out c M kept gg oo new at' eo pm ord => ?_
  have few : M.length < 64 := by rw [pm.length_eq]; exact R.few
  have fits : (M.map fun q => V.ref q.1).length ≤ sizeLine := by rw [List.length_map, sizeLine_eq]; omega
  have nH : H p = none := I.hok.fresh new
  have vals : Vals (M.map fun q => V.ref q.1) out.toList := by rw [eo]; exact L2.vals_of_refs M
  cases s' with
  | mk hp' g' d' t' o' =>
    cases oo
    have J : L2.Inv X pins σ (upd H p (.lst (M.map fun q => V.ref q.1))) { s with heap := hp', gens := g', drawn := d', toks := t' } :=
      I.call (ch := []) (Un.laid kept new nH) (I.hok.laid kept new ⟨fits, out.toList, c, vals, at'⟩) (by have z : g' = s.gens := gg; rw [z]; exact I.bare) (fun _ z => nomatch z)
    exact ⟨.ref p, _, J, rfl, q M p pm ord nH⟩
end

end NR

/-! sorted of a list of tuples of ints -/
namespace NR
open PySem PySem.Spec PyProof.Rows L2
section
variable {P : Program} {w : World} {A : Around} {E : Value → Shared → Prop} {s : Shared}
theorem each_refs (ks : List (Addr × List Int)) : ∀ l : List (Addr × List Int), (∀ q ∈ l, q ∈ ks) → PySem.W.EachIs (fun v q => v = Value.ref q.1 ∧ q ∈ ks) (l.map fun q => Value.ref q.1) l := by
  intro l hl
  induction l with
  | nil => exact .nil
  | cons q r ih => exact .cons ⟨rfl, hl q (List.mem_cons_self ..)⟩ (ih fun x hx => hl x (List.mem_cons_of_mem _ hx))
theorem call_sorted_rows {l : Addr} (ks : List (Addr × List Int)) {Q : Value → Shared → Prop} (hl : s.heap.IsList l (ks.map fun p => Value.ref p.1).toArray) (hk : ∀ p ∈ ks, L2.IsT P w s.heap p.2 p.1) (nd : (ks.map (·.2)).Nodup) (hne : (∀ p ∈ ks, p.2 ≠ []) ∨ ks.length ≤ 1)
    (few : ks.length < 64) (hu : A.units + 64 < cLine)
    (hQ : ∀ (h' : Heap) (out : Array Value) (c : Nat) (M : List (Addr × List Int)), (∀ b o, s.heap.get? b = some o → h'.get? b = some o) → h'.get? (s.heap.objs.size + 1) = some (seqObj "list" out c) → out.toList = M.map (fun q => Value.ref q.1) → M.Perm ks → M.Pairwise (fun q r => q.2 < r.2) →
      Q (.ref (s.heap.objs.size + 1)) { s with heap := h' }) : wpAny (model P w) A (call (.builtin "sorted") [.ref l]) Q E s := by
  have e1 := each_refs ks ks fun _ h => h
  generalize hvs : (ks.map fun p => Value.ref p.1) = vs at hl e1
  have vl : vs.length = ks.length := by rw [← hvs, List.length_map]
  have er : PySem.W.EachIs (fun v q => ∃ as, Reads (PySem.W.sortingHeap (PySem.W.copyHeap s.heap vs) (s.heap.objs.size + 1) vs) v (encP q) as) vs ks := e1.mono fun v q h => by
    rw [h.1]
    obtain ⟨as, r1, _⟩ := reads_row (P := P) (w := w) (L2.isT_keep (hk q h.2) fun b u e => PySem.W.sorting_copy_old (vs := vs) e)
    exact ⟨as, r1⟩
  have hal : PySem.W.AllAlike (ks.map encP) := PySem.W.AllAlike.of fun b b' => by unfold encP; simp only [PySem.W.alike]; exact PySem.W.alike_ints _ _
  have dep : ∀ d, d ∈ ks.map encP → A.in1.in1.units + d.depth < cLine := fun d hd => by
    obtain ⟨q, _, rfl⟩ := List.mem_map.mp hd
    have h1 := encP_depth q
    have h2 : A.in1.in1.units = A.units + 1 + 1 := rfl
    omega
  have hz : vs.length ≤ sizeLine := by rw [vl, sizeLine_eq]; omega
  refine PySem.W.sorted_vals hl (sorts_any (s := { s with heap := PySem.W.sortingHeap (PySem.W.copyHeap s.heap vs) (s.heap.objs.size + 1) vs }) (PySem.W.each_map (R := fun v d => ∃ as, Reads (PySem.W.sortingHeap (PySem.W.copyHeap s.heap vs) (s.heap.objs.size + 1) vs) v d as) encP er) hal
    (hne.elim (fun hne => .inl (.inl fun d hd => ?_)) fun short => .inr ⟨by rw [vl]; exact short, fun d hd => ?_⟩) dep) hz ?_
  · obtain ⟨q, hq, rfl⟩ := List.mem_map.mp hd
    unfold encP
    cases z : q.2 with
    | nil => exact absurd z (hne q hq)
    | cons x r => exact ⟨_, _, rfl⟩
  · obtain ⟨q, hq, rfl⟩ := List.mem_map.mp hd
    unfold encP
    exact fun e => by cases e
  · have eo := PySem.W.sortVals_data false e1 er hal
    obtain ⟨c, hc⟩ := sortedAll_at s.heap vs (PySem.W.sortVals (PySem.W.dataKind (PySem.W.sortingHeap (PySem.W.copyHeap s.heap vs) (s.heap.objs.size + 1) vs) (ks.map encP)) false vs vs).toArray
    generalize PySem.W.sortVals (PySem.W.dataKind (PySem.W.sortingHeap (PySem.W.copyHeap s.heap vs) (s.heap.objs.size + 1) vs) (ks.map encP)) false vs vs = out at eo hc
    have eout : out = (ks.mergeSort (PySem.W.dataLe false encP)).map fun q => Value.ref q.1 := by
      have go : ∀ (us : List Value) (l : List (Addr × List Int)), PySem.W.EachIs (fun v q => v = Value.ref q.1 ∧ q ∈ ks) us l → us = l.map fun q => Value.ref q.1 := by
        intro us l h
        induction h with
        | nil => rfl
        | cons h _ ih => rw [List.map_cons, ← ih, h.1]
      exact go _ _ eo
    have pS : (ks.mergeSort (PySem.W.dataLe false encP)).Perm ks := List.mergeSort_perm _ _
    have nS : ((ks.mergeSort (PySem.W.dataLe false encP)).map (·.2)).Nodup := (pS.map (·.2)).nodup_iff.mpr nd
    have ord : (ks.mergeSort (PySem.W.dataLe false encP)).Pairwise fun q r => q.2 < r.2 := by
      have z := PySem.W.sort_pairwise (le := PySem.W.dataLe false encP) (PySem.W.sortLe_total _ _ _) ks
      have n2 : (ks.mergeSort (PySem.W.dataLe false encP)).Pairwise fun q r => q.2 ≠ r.2 := List.pairwise_map.mp nS
      refine (z.and n2).imp fun {q r} h => ?_
      obtain ⟨h1, h2⟩ := h
      rw [encP_le] at h1
      exact list_lt_of_le (of_decide_eq_true h1) h2
    exact hQ _ out.toArray c _ (fun b o e => sortedAll_old e) hc (by rw [List.toList_toArray]; exact eout) pS ord
end
section
variable {X : Cx}
/-- sorted(list), tuples of ints, no two alike -/
def rSrtL (K : PySem.W.Frag) : List V → Hp → VK → Prop := fun vs H Q => ∃ (a : Addr) (ks : List (Addr × List Int)), vs = [V.ref a] ∧ SqL K H a (ks.map fun p => V.ref p.1) ∧ (∀ p ∈ ks, SqT K H p.1 (p.2.map V.int)) ∧ (ks.map (·.2)).Nodup ∧ ((∀ p ∈ ks, p.2 ≠ []) ∨ ks.length ≤ 1) ∧ ks.length < 64 ∧
  ∀ (M : List (Addr × List Int)) (p : Addr), M.Perm ks → M.Pairwise (fun q r => q.2 < r.2) → H p = none → Q (.ref p) (upd H p (.lst (M.map fun q => V.ref q.1)))
theorem cr_srtL (hu : X.A.units + 64 < cLine) : CallR X (.builtin "sorted") (rSrtL X.K) := by
  intro pins s σ H vs us Q I r h
  obtain ⟨a, ks, rfl, ha, hk, nd, hne, few, q⟩ := h
  obtain ⟨its, rv, hl, _⟩ := I.list ha
  rw [L2.Vals.ref1 r]
  have ei : its = ks.map fun p => Value.ref p.1 := L2.refs_of_vals rv
  subst ei
  refine call_sorted_rows (P := X.prog) (w := X.w) ks hl.isList (fun p hp => L2.Inv.isT I (hk p hp)) nd hne few hu fun h' out c M kept at' eo pm ord => ?_
  have fits : (M.map fun q => V.ref q.1).length ≤ sizeLine := by rw [List.length_map, pm.length_eq, sizeLine_eq]; omega
  have vals : Vals (M.map fun q => V.ref q.1) out.toList := by rw [eo]; exact L2.vals_of_refs M
  exact ⟨.ref _, upd H (s.heap.objs.size + 1) (.lst (M.map fun q => V.ref q.1)), I.laid (t' := s.toks) kept (Nat.le_succ _) ⟨fits, out.toList, c, vals, at'⟩, rfl, q M _ pm ord (I.hok.fresh (Nat.le_succ _))⟩
end
end NR

/-! t * 0, t * 1 -/
namespace NR
open PySem PySem.Spec PyProof.Rows L2
theorem tuple_mul1 (l : Addr) (items : Array Value) (n : Nat) (dd : Option Addr) (sl : Array (Option Value)) (u : Tok) :
    Meets (Builtin.«tuple.__mul__» ⟨[.ref l, .int 1 u], []⟩) (fun _ R s => s.heap.get? l = some { cls := .type "tuple", dict := dd, data := .seq items n, slots := sl } ∧ R (.ok (.ret (Value.ref l))) s) :=
  .of_wp fun prog w A R s h => by
    obtain ⟨hp, g, d, tk, os⟩ := s
    obtain ⟨hl, h⟩ := h
    have f1 := AutoSeq1.idx_int
    have c1 : (items.isEmpty || (1 : Int) == 1) = true := by rw [Bool.or_eq_true]; exact .inr rfl
    wp_walk using wpAny_loadPart' hl
    repeat (first
      | (refine wpAny_ite_false (decide_eq_false (by decide)) ?_; wp_walk using wpAny_loadPart' hl)
      | (refine wpAny_ite_true (decide_eq_true c1) ?_; wp_walk using wpAny_loadPart' hl))
    exact ⟨_, rfl, h⟩
theorem tuple_mul0 (l : Addr) (items : Array Value) (n : Nat) (dd : Option Addr) (sl : Array (Option Value)) (u : Tok) (hi : items.isEmpty = false) :
    Meets (Builtin.«tuple.__mul__» ⟨[.ref l, .int 0 u], []⟩) (fun _ R s => s.heap.get? l = some { cls := .type "tuple", dict := dd, data := .seq items n, slots := sl } ∧
      R (.ok (.ret (Value.ref s.heap.objs.size))) { s with heap := s.heap.push { cls := Value.type "tuple", data := Data.seq #[] }, toks := s.toks }) :=
  .of_wp fun prog w A R s h => by
    obtain ⟨hp, g, d, tk, os⟩ := s
    obtain ⟨hl, h⟩ := h
    have f1 := AutoSeq1.idx_int
    have c1 : (items.isEmpty || (0 : Int) == 1) = false := by rw [hi]; rfl
    have c2 : (decide ((0 : Int) ≤ 0) || items.isEmpty) = true := rfl
    wp_walk using wpAny_loadPart' hl
    repeat (first
      | (refine wpAny_ite_false (decide_eq_false (by decide)) ?_; wp_walk using wpAny_loadPart' hl)
      | (refine wpAny_ite_false (decide_eq_false (by rw [c1]; exact Bool.false_ne_true)) ?_; wp_walk using wpAny_loadPart' hl)
      | (refine wpAny_ite_true (decide_eq_true c2) ?_; wp_walk using wpAny_loadPart' hl))
    exact ⟨_, rfl, h⟩
def rRep01 (K : PySem.W.Frag) : R2 := fun x y H Q => ∃ l k xs, x = .ref l ∧ y = .int k ∧ SqT K H l xs ∧ xs ≠ [] ∧ ((k = 1 ∧ Q (.ref l) H) ∨ (k = 0 ∧ ∀ p, H p = none → Q (.ref p) (upd H p (.tup []))))
theorem op_rep01 {X : Cx} : OpR X (binaryOp .Mult) (rRep01 X.K) := by
  intro pins s σ H x y v u Q I rx ry h
  obtain ⟨l, k, xs, rfl, rfl, hT, hne, q⟩ := h
  cases rx
  obtain ⟨t, rfl⟩ := ry
  obtain ⟨its, r, ⟨⟨cls, dd, data, sl⟩, ho, hc, n, hd⟩, hs⟩ := I.tuple hT
  simp only at hc hd
  subst hc hd
  have hi : its.toArray.isEmpty = false := by
    cases its with
    | nil =>
      have := r.length
      exact absurd (List.eq_nil_of_length_eq_zero this) hne
    | cons a b => rfl
  rcases q with ⟨rfl, q⟩ | ⟨rfl, q⟩
  · exact wpAny_binaryOp_repeat_ref (T := "tuple") (U := "int") (by decide) ⟨_, ho, rfl⟩ (fun s' => typeIs_int s' 1 t) noFill_tuple_mul F.fills_int_mul F.slot_int_rmul repeat_tuple F.slot_int_index.lookup
      (call_meets F.slot_int_rmul (typeIs_int s 1 t) F.entry_int_rmul (F.args_int_rmul_2 _ _) (int_rmul_tuple 1 t l its.toArray n dd sl)
        ⟨ho, rfl, ⟨_, ho, rfl⟩, call_meets F.slot_tuple_mul ⟨_, ho, rfl⟩ F.entry_tuple_mul (F.args_tuple_mul_2 _ _) (tuple_mul1 l its.toArray n dd sl t) ⟨ho, .ref l, H, I, rfl, q⟩⟩)
  · refine wpAny_binaryOp_repeat_ref (T := "tuple") (U := "int") (by decide) ⟨_, ho, rfl⟩ (fun s' => typeIs_int s' 0 t) noFill_tuple_mul F.fills_int_mul F.slot_int_rmul repeat_tuple F.slot_int_index.lookup
      (call_meets F.slot_int_rmul (typeIs_int s 0 t) F.entry_int_rmul (F.args_int_rmul_2 _ _) (int_rmul_tuple 0 t l its.toArray n dd sl)
        ⟨ho, rfl, ⟨_, ho, rfl⟩, call_meets F.slot_tuple_mul ⟨_, ho, rfl⟩ F.entry_tuple_mul (F.args_tuple_mul_2 _ _) (tuple_mul0 l its.toArray n dd sl t hi) ⟨ho, ?_⟩⟩)
    exact ⟨.ref s.heap.objs.size, _, I.laid (t' := s.toks) (o := .tup []) (fun b ob q => Heap.get?_push_of_some _ q) (Nat.le_refl _) ⟨Nat.zero_le _, [], .nil, IsTup.new _ _⟩, rfl, q _ (I.hok.fresh (Nat.le_refl _))⟩
end NR

/-! Operations on frozen values, one by one. -/
namespace DL
open PySem PySem.Spec PyProof.Rows L2

/-! ### readings joined -/
section
variable {X : Cx}
theorem opr_or {f : Value → Value → Sem Value} {r1 r2 : R2} (h1 : OpR X f r1) (h2 : OpR X f r2) : OpR X f (fun x y H Q => r1 x y H Q ∨ r2 x y H Q) :=
  fun pins s σ H x y v u Q I rx ry h => h.elim (h1 pins s σ H x y v u Q I rx ry) (h2 pins s σ H x y v u Q I rx ry)
theorem callr_or {f : Value} {r1 r2 : List V → Hp → VK → Prop} (h1 : CallR X f r1) (h2 : CallR X f r2) : CallR X f (fun xs H Q => r1 xs H Q ∨ r2 xs H Q) :=
  fun pins s σ H xs us Q I rx h => h.elim (h1 pins s σ H xs us Q I rx) (h2 pins s σ H xs us Q I rx)
end

/-! ### data -/
def intsOf : List D → Option (List Int)
  | [] => some []
  | .int i :: r => (intsOf r).map (i :: ·)
  | _ => none
def strsOf : List D → Option (List Str)
  | [] => some []
  | .str i :: r => (strsOf r).map (i :: ·)
  | _ => none
def blsOf : List D → Option (List Bool)
  | [] => some []
  | .bl i :: r => (blsOf r).map (i :: ·)
  | _ => none
theorem intsOf_map : ∀ l : List Int, intsOf (l.map D.int) = some l
  | [] => rfl
  | i :: r => by rw [List.map_cons, intsOf, intsOf_map r]; rfl
theorem strsOf_map : ∀ l : List Str, strsOf (l.map D.str) = some l
  | [] => rfl
  | i :: r => by rw [List.map_cons, strsOf, strsOf_map r]; rfl
theorem blsOf_map : ∀ l : List Bool, blsOf (l.map D.bl) = some l
  | [] => rfl
  | i :: r => by rw [List.map_cons, blsOf, blsOf_map r]; rfl
theorem intsOf_eq : ∀ {ds : List D} {l : List Int}, intsOf ds = some l → ds = l.map D.int
  | [], l, h => by cases h; rfl
  | .int i :: r, l, h => by
    rw [intsOf, Option.map_eq_some_iff] at h
    obtain ⟨m, h, rfl⟩ := h
    rw [intsOf_eq h]; rfl
  | .non :: r, l, h | .bl _ :: r, l, h | .str _ :: r, l, h | .tup _ :: r, l, h | .lst _ :: r, l, h | .scr _ :: r, l, h | .ptu _ :: r, l, h | .fn _ :: r, l, h | .dK _ :: r, l, h | .dT _ :: r, l, h | .ml _ :: r, l, h | .mK _ :: r, l, h | .mT _ :: r, l, h | .mo _ _ :: r, l, h | .xc _ _ :: r, l, h | .er _ _ :: r, l, h => by simp [intsOf] at h
theorem strsOf_eq : ∀ {ds : List D} {l : List Str}, strsOf ds = some l → ds = l.map D.str
  | [], l, h => by cases h; rfl
  | .str i :: r, l, h => by
    rw [strsOf, Option.map_eq_some_iff] at h
    obtain ⟨m, h, rfl⟩ := h
    rw [strsOf_eq h]; rfl
  | .non :: r, l, h | .bl _ :: r, l, h | .int _ :: r, l, h | .tup _ :: r, l, h | .lst _ :: r, l, h | .scr _ :: r, l, h | .ptu _ :: r, l, h | .fn _ :: r, l, h | .dK _ :: r, l, h | .dT _ :: r, l, h | .ml _ :: r, l, h | .mK _ :: r, l, h | .mT _ :: r, l, h | .mo _ _ :: r, l, h | .xc _ _ :: r, l, h | .er _ _ :: r, l, h => by simp [strsOf] at h
theorem blsOf_eq : ∀ {ds : List D} {l : List Bool}, blsOf ds = some l → ds = l.map D.bl
  | [], l, h => by cases h; rfl
  | .bl i :: r, l, h => by
    rw [blsOf, Option.map_eq_some_iff] at h
    obtain ⟨m, h, rfl⟩ := h
    rw [blsOf_eq h]; rfl
  | .non :: r, l, h | .str _ :: r, l, h | .int _ :: r, l, h | .tup _ :: r, l, h | .lst _ :: r, l, h | .scr _ :: r, l, h | .ptu _ :: r, l, h | .fn _ :: r, l, h | .dK _ :: r, l, h | .dT _ :: r, l, h | .ml _ :: r, l, h | .mK _ :: r, l, h | .mT _ :: r, l, h | .mo _ _ :: r, l, h | .xc _ _ :: r, l, h | .er _ _ :: r, l, h => by simp [blsOf] at h
mutual
def py : D → PyData
  | .non => .none
  | .bl b => .bool b
  | .int i => .int i
  | .str x => .str x
  | .tup xs => .tuple (pyL xs)
  | .lst xs => .list (pyL xs)
  | _ => .none
def pyL : List D → List PyData
  | [] => []
  | d :: r => py d :: pyL r
end
mutual
def isPy : D → Bool
  | .non | .bl _ | .int _ | .str _ => true
  | .tup xs => isPyL xs
  | .lst xs => isPyL xs
  | _ => false
def isPyL : List D → Bool
  | [] => true
  | d :: r => isPy d && isPyL r
end
theorem pyL_map : ∀ l : List D, pyL l = l.map py
  | [] => rfl
  | d :: r => by rw [pyL, pyL_map r]; rfl
mutual
theorem Fr.dp {K : PySem.W.Frag} {H : Hp} {F : Fp} : ∀ {v : V} {d : D}, Fr K H F v d → isPy d = true → Dp K H v (py d)
  | _, _, .non, _ => .non
  | _, _, .bl b, _ => .bl b
  | _, _, .int i, _ => .int i
  | _, _, .str x, _ => .str x
  | _, _, .tup f h r, e => by
    simp only [py]
    exact .tup (SqT.of h) (FrL.dp r (by simpa only [isPy] using e))
  | _, _, .lst f h r, e => by
    simp only [py]
    exact .lst (SqL.of h) (FrL.dp r (by simpa only [isPy] using e))
  | _, _, .scr .., e | _, _, .scrK .., e | _, _, .ptu .., e | _, _, .fn .., e | _, _, .er0 .., e | _, _, .erD .., e | _, _, .dK .., e | _, _, .dT .., e => by simp only [isPy] at e; cases e
theorem FrL.dp {K : PySem.W.Frag} {H : Hp} {F : Fp} : ∀ {v : List V} {d : List D}, FrL K H F v d → isPyL d = true → DpAll K H v (pyL d)
  | _, _, .nil, _ => .nil
  | _, _, .cons h r, e => by
    simp only [isPyL, Bool.and_eq_true] at e
    exact .cons (Fr.dp h e.1) (FrL.dp r e.2)
end
/-- == of two values -/
def deq (x y : D) : Bool := PyData.eqv (py x) (py y)
/-- such as may be compared -/
def sh (x : D) : Bool := isPy x && SeqAt.shaped (py x)
theorem sh_and {x : D} (h : sh x = true) : isPy x = true ∧ SeqAt.shaped (py x) = true := by
  unfold sh at h
  exact (Bool.and_eq_true_iff.mp h)

/-! ### arithmetic -/
def gAdd : D → D → (D → Prop) → Prop := fun x y k => match x, y with
  | .int i, .int j => k (.int (i + j))
  | .str a, .str b => a.length + b.length ≤ sizeLine ∧ k (.str (a ++ b))
  | .tup a, .tup b => a.length + b.length ≤ sizeLine ∧ k (.tup (a ++ b))
  | .lst a, .lst b => a.length + b.length ≤ sizeLine ∧ k (.lst (a ++ b))
  | _, _ => False
def rAddAll (K : PySem.W.Frag) : R2 := fun x y H Q => rI0 (fun i j => .int (i + j)) x y H Q ∨ (∃ i j, x = .str i ∧ y = .str j ∧ i.length + j.length ≤ sizeLine ∧ Q (.str (i ++ j)) H) ∨ rCatA K x y H Q ∨ rCat x y H Q
theorem op_addAll {X : Cx} : OpR X (binaryOp .Add) (rAddAll X.K) := opr_or op_add (opr_or op_add_str (opr_or op_catA op_cat))
theorem up_add {K : PySem.W.Frag} : Up2 K (rAddAll K) gAdd := by
  intro H F v u x y k Q hv hu g ok
  cases hv with
  | int i =>
    cases hu with
    | int j => exact .inl ⟨i, j, rfl, rfl, ok.same g (.int _)⟩
    | _ => exact g.elim
  | str a =>
    cases hu with
    | str b => exact .inr (.inl ⟨a, b, rfl, rfl, g.1, ok.same g.2 (.str _)⟩)
    | _ => exact g.elim
  | tup f h r =>
    cases hu with
    | tup f' h' r' =>
      refine .inr (.inr (.inl ⟨_, _, _, _, rfl, rfl, SqT.of h, SqT.of h', by rw [r.length, r'.length]; exact g.1, fun e => ?_, fun _ e => ?_, fun _ _ p n => ok.tup g.2 n (r.append r')⟩))
      · subst e
        cases r
        exact ok.same g.2 (.tup f' h' r')
      · subst e
        cases r'
        have z : k (.tup (_ ++ [])) := g.2
        rw [List.append_nil] at z
        exact ok.same z (.tup f h r)
    | _ => exact g.elim
  | lst f h r =>
    cases hu with
    | lst f' h' r' => exact .inr (.inr (.inr ⟨_, _, _, _, rfl, rfl, h, h', by rw [r.length, r'.length]; exact g.1, fun p n => ok.lst g.2 n (r.append r')⟩))
    | _ => exact g.elim
  | _ => cases hu <;> exact g.elim
def gInt2 (C : Int → Int → Prop) (f : Int → Int → D) : D → D → (D → Prop) → Prop := fun x y k => match x, y with
  | .int i, .int j => C i j ∧ k (f i j)
  | _, _ => False
def gInt0 (f : Int → Int → D) : D → D → (D → Prop) → Prop := fun x y k => match x, y with
  | .int i, .int j => k (f i j)
  | _, _ => False
theorem up_int2 {K : PySem.W.Frag} {C : Int → Int → Prop} {f : Int → Int → Int} : Up2 K (rI C fun i j => .int (f i j)) (gInt2 C fun i j => .int (f i j)) := by
  intro H F v u x y k Q hv hu g ok
  cases hv with
  | int i =>
    cases hu with
    | int j => exact ⟨i, j, rfl, rfl, g.1, ok.same g.2 (.int _)⟩
    | _ => exact g.elim
  | _ => cases hu <;> exact g.elim
theorem up_int0 {K : PySem.W.Frag} {f : Int → Int → Int} : Up2 K (rI0 fun i j => .int (f i j)) (gInt0 fun i j => .int (f i j)) := by
  intro H F v u x y k Q hv hu g ok
  cases hv with
  | int i =>
    cases hu with
    | int j => exact ⟨i, j, rfl, rfl, ok.same g (.int _)⟩
    | _ => exact g.elim
  | _ => cases hu <;> exact g.elim
def gSub := gInt0 fun i j => .int (i - j)
def gMod := gInt2 (fun _ j => 0 < j) fun i j => .int (i % j)
def gFdiv := gInt2 CDiv fun i j => .int (i / j)
def gPow := gInt2 CPow fun i j => .int (i ^ j.toNat)
def gMul : D → D → (D → Prop) → Prop := fun x y k => match x, y with
  | .int i, .int j => (CMul i j ∨ CMulW i j) ∧ k (.int (i * j))
  | .lst a, .int n => -(2 ^ 63) ≤ n ∧ n < 2 ^ 63 ∧ a.length * n.toNat ≤ sizeLine ∧ k (.lst (List.replicate n.toNat a).flatten)
  | .tup a, .int n => a ≠ [] ∧ 0 ≤ n ∧ n ≤ 1000 ∧ a.length ≤ 1000 ∧ k (.tup (List.replicate n.toNat a).flatten)
  | _, _ => False
def rMulAll (K : PySem.W.Frag) : R2 := fun x y H Q => rI CMul (fun i j => .int (i * j)) x y H Q ∨ rI CMulW (fun i j => .int (i * j)) x y H Q ∨ rRep x y H Q ∨ rRepT K x y H Q ∨ NR.rRep01 K x y H Q
theorem op_mulAll {X : Cx} : OpR X (binaryOp .Mult) (rMulAll X.K) := opr_or op_mul (opr_or op_mulW (opr_or op_rep (opr_or op_repT NR.op_rep01)))
theorem FrL.rep {K : PySem.W.Frag} {H : Hp} {F : Fp} {vs : List V} {ds : List D} (h : FrL K H F vs ds) : ∀ n : Nat, FrL K H F (List.replicate n vs).flatten (List.replicate n ds).flatten
  | 0 => .nil
  | n + 1 => by
    rw [List.replicate_succ, List.replicate_succ, List.flatten_cons, List.flatten_cons]
    exact h.append (h.rep n)
theorem up_mul {K : PySem.W.Frag} : Up2 K (rMulAll K) gMul := by
  intro H F v u x y k Q hv hu g ok
  cases hv with
  | int i =>
    cases hu with
    | int j =>
      rcases g with ⟨c | c, g⟩
      · exact .inl ⟨i, j, rfl, rfl, c, ok.same g (.int _)⟩
      · exact .inr (.inl ⟨i, j, rfl, rfl, c, ok.same g (.int _)⟩)
    | _ => exact g.elim
  | lst f h r =>
    cases hu with
    | int n => exact .inr (.inr (.inl ⟨_, n, _, rfl, rfl, h, g.1, g.2.1, by rw [r.length]; exact g.2.2.1, fun p np => ok.lst g.2.2.2 np (r.rep _)⟩))
    | _ => exact g.elim
  | tup f h r =>
    cases hu with
    | int n =>
      obtain ⟨g1, g2, g3, g4, g5⟩ := g
      have hne : ∀ {vs : List V} {ds : List D}, FrL K H F vs ds → ds ≠ [] → vs ≠ [] := fun q z e => by subst e; cases q; exact z rfl
      by_cases h2 : 2 ≤ n
      · exact .inr (.inr (.inr (.inl ⟨_, n, _, rfl, rfl, SqT.of h, hne r g1, h2, g3, by rw [r.length]; exact g4, fun p np => ok.tup g5 np (r.rep _)⟩)))
      · refine .inr (.inr (.inr (.inr ⟨_, n, _, rfl, rfl, SqT.of h, hne r g1, ?_⟩)))
        by_cases h1 : n = 1
        · subst h1
          refine .inl ⟨rfl, ok.same ?_ (.tup f h r)⟩
          simpa using g5
        · have h0 : n = 0 := by omega
          subst h0
          refine .inr ⟨rfl, fun p np => ok.tup ?_ np .nil⟩
          simpa using g5
    | _ => exact g.elim
  | _ => cases hu <;> exact g.elim
def gNeg : D → (D → Prop) → Prop := fun x k => match x with
  | .int i => k (.int (-i))
  | _ => False
theorem up_neg {K : PySem.W.Frag} : Up1 K (rU fun i => .int (-i)) gNeg := by
  intro H F v x k Q hv g ok
  cases hv with
  | int i => exact ⟨i, rfl, ok.same g (.int _)⟩
  | _ => exact g.elim

/-! ### order -/
def gCmp (f : Int → Int → Bool) : D → D → (D → Prop) → Prop := gInt0 fun i j => .bl (f i j)
theorem up_cmp {K : PySem.W.Frag} {f : Int → Int → Bool} : Up2 K (rI0 fun i j => .bl (f i j)) (gCmp f) := by
  intro H F v u x y k Q hv hu g ok
  cases hv with
  | int i =>
    cases hu with
    | int j => exact ⟨i, j, rfl, rfl, ok.same g (.bl _)⟩
    | _ => exact g.elim
  | _ => cases hu <;> exact g.elim
/-- < of ints, of tuples of ints -/
def gLt : D → D → (D → Prop) → Prop := fun x y k => match x, y with
  | .int i, .int j => k (.bl (decide (i < j)))
  | .tup a, .tup b => match intsOf a, intsOf b with
    | some l, some m => k (.bl (decide (l < m)))
    | _, _ => False
  | _, _ => False
theorem up_lt {K : PySem.W.Frag} : Up2 K (fun x y H Q => rI0 (fun i j => .bl (decide (i < j))) x y H Q ∨ rLtT K x y H Q) gLt := by
  intro H F v u x y k Q hv hu g ok
  cases hv with
  | int i =>
    cases hu with
    | int j => exact .inl ⟨i, j, rfl, rfl, ok.same g (.bl _)⟩
    | _ => exact g.elim
  | tup f h r =>
    cases hu with
    | tup f' h' r' =>
      unfold gLt at g
      simp only at g
      split at g
      · next l m e1 e2 =>
        have e1 := intsOf_eq e1
        have e2 := intsOf_eq e2
        subst e1 e2
        have z1 := r.ofInts
        have z2 := r'.ofInts
        subst z1 z2
        exact .inr ⟨_, _, l, m, rfl, rfl, SqT.of h, SqT.of h', by rw [NK.lexLt_eq]; exact ok.same g (.bl _)⟩
      · exact g.elim
    | _ => exact g.elim
  | _ => cases hu <;> exact g.elim
theorem op_ltAll {X : Cx} (hu : X.A.units < cLine) : OpR X (compareOp .Lt) (fun x y H Q => rI0 (fun i j => .bl (decide (i < j))) x y H Q ∨ rLtT X.K x y H Q) := opr_or op_lt (op_ltT hu)

/-! ### equality -/
def gEqB (neg : Bool) : D → D → (D → Prop) → Prop := fun x y k => match x, y with
  | .int i, .int j => k (.bl (if neg then !decide (i = j) else decide (i = j)))
  | .str i, .str j => k (.bl (if neg then !decide (i = j) else decide (i = j)))
  | .bl i, .bl j => k (.bl (if neg then !decide (i = j) else decide (i = j)))
  | x, y => sh x = true ∧ sh y = true ∧ k (.bl (if neg then !deq x y else deq x y))
abbrev gEq := gEqB false
abbrev gNe := gEqB true
theorem up_eq {K : PySem.W.Frag} : Up2 K (fun x y H Q => rEq x y H Q ∨ rEqD K x y H Q) gEq := by
  intro H F v u x y k Q hv hu g ok
  have deep : sh x = true ∧ sh y = true ∧ k (.bl (deq x y)) → rEq v u H Q ∨ rEqD K v u H Q := fun ⟨a, b, c⟩ =>
    .inr ⟨py x, py y, hv.dp (sh_and a).1, hu.dp (sh_and b).1, (sh_and a).2, (sh_and b).2, ok.same c (.bl _)⟩
  cases hv with
  | int i =>
    cases hu with
    | int j => exact .inl ⟨rfl, by have e : decide (V.int i = V.int j) = decide (i = j) := by simp
                                   rw [e]; exact ok.same g (.bl _)⟩
    | _ => exact deep g
  | str i =>
    cases hu with
    | str j => exact .inl ⟨rfl, by have e : decide (V.str i = V.str j) = decide (i = j) := by simp
                                   rw [e]; exact ok.same g (.bl _)⟩
    | _ => exact deep g
  | bl i =>
    cases hu with
    | bl j => exact .inl ⟨rfl, by have e : decide (V.bl i = V.bl j) = decide (i = j) := by simp
                                  rw [e]; exact ok.same g (.bl _)⟩
    | _ => exact deep g
  | _ => exact deep (by cases hu <;> exact g)
theorem up_ne {K : PySem.W.Frag} : Up2 K (fun x y H Q => rNe x y H Q ∨ rNeD K x y H Q) gNe := by
  intro H F v u x y k Q hv hu g ok
  have deep : sh x = true ∧ sh y = true ∧ k (.bl (!deq x y)) → rNe v u H Q ∨ rNeD K v u H Q := fun ⟨a, b, c⟩ =>
    .inr ⟨py x, py y, hv.dp (sh_and a).1, hu.dp (sh_and b).1, (sh_and a).2, (sh_and b).2, ok.same c (.bl _)⟩
  cases hv with
  | int i =>
    cases hu with
    | int j => exact .inl ⟨rfl, by have e : decide (V.int i = V.int j) = decide (i = j) := by simp
                                   rw [e]; exact ok.same g (.bl _)⟩
    | _ => exact deep g
  | str i =>
    cases hu with
    | str j => exact .inl ⟨rfl, by have e : decide (V.str i = V.str j) = decide (i = j) := by simp
                                   rw [e]; exact ok.same g (.bl _)⟩
    | _ => exact deep g
  | bl i =>
    cases hu with
    | bl j => exact .inl ⟨rfl, by have e : decide (V.bl i = V.bl j) = decide (i = j) := by simp
                                  rw [e]; exact ok.same g (.bl _)⟩
    | _ => exact deep g
  | _ => exact deep (by cases hu <;> exact g)
theorem op_eqAll {X : Cx} (hu : X.A.units + 64 < cLine) : OpR X (compareOp .Eq) (fun x y H Q => rEq x y H Q ∨ rEqD X.K x y H Q) := opr_or op_eq (op_eqD hu)
theorem op_neAll {X : Cx} (hu : X.A.units + 64 < cLine) : OpR X (compareOp .NotEq) (fun x y H Q => rNe x y H Q ∨ rNeD X.K x y H Q) := opr_or op_ne (op_neD hu)
/-- is None -/
def gIsN (neg : Bool) : D → D → (D → Prop) → Prop := fun x y k => match y with
  | .non => match x with
    | .non => k (.bl (!neg))
    | _ => k (.bl neg)
  | _ => False
theorem fr_non {K : PySem.W.Frag} {H : Hp} {F : Fp} {v : V} {x : D} (h : Fr K H F v x) : (v = .non ∧ x = .non) ∨ (decide (v = .non) = false ∧ x ≠ .non) := by
  cases h with
  | non => exact .inl ⟨rfl, rfl⟩
  | _ => exact .inr ⟨by simp, by simp⟩
theorem up_isN {K : PySem.W.Frag} : Up2 K (fun x y H Q => y = .non ∧ Q (.bl (decide (x = .non))) H) (gIsN false) := by
  intro H F v u x y k Q hv hu g ok
  cases hu with
  | non =>
    refine ⟨rfl, ?_⟩
    rcases fr_non hv with ⟨rfl, rfl⟩ | ⟨e, n⟩
    · exact ok.same g (.bl _)
    · rw [e]
      refine ok.same (d := .bl false) ?_ (.bl _)
      cases x <;> first | exact absurd rfl n | exact g
  | _ => exact g.elim
theorem up_notN {K : PySem.W.Frag} : Up2 K (fun x y H Q => y = .non ∧ Q (.bl (!decide (x = .non))) H) (gIsN true) := by
  intro H F v u x y k Q hv hu g ok
  cases hu with
  | non =>
    refine ⟨rfl, ?_⟩
    rcases fr_non hv with ⟨rfl, rfl⟩ | ⟨e, n⟩
    · exact ok.same g (.bl _)
    · rw [e]
      refine ok.same (d := .bl true) ?_ (.bl _)
      cases x <;> first | exact absurd rfl n | exact g
  | _ => exact g.elim
end DL

/-! in, len, int, tuple, list, subscripts, slices. -/
namespace DL
open PySem PySem.Spec PyProof.Rows L2

/-! ### in -/
section
variable {X : Cx}
def rInU (K : PySem.W.Frag) (neg : Bool) : R2 := fun x y H Q => ∃ d ds, Dp K H x d ∧ Dp K H y (.tuple ds) ∧ SeqAt.shaped d = true ∧ SeqAt.shaped (.tuple ds) = true ∧ Q (.bl (if neg then !ds.any fun z => PyData.eqv z d else ds.any fun z => PyData.eqv z d)) H
theorem op_inU (hu : X.A.units + 65 < cLine) : OpR X (compareOp .In) (rInU X.K false) := by
  intro pins s σ H x y v u Q I rx ry h
  obtain ⟨d, ds, hd, he, sd, se, q⟩ := h
  obtain ⟨as, r1⟩ := Dp.reads I d x v hd rx
  obtain ⟨bs, r2⟩ := Dp.reads I (.tuple ds) y u he ry
  exact SeqAt.in_tuple_reads r2 r1 (SeqAt.canLay_of_shaped se) (SeqAt.canLay_of_shaped sd) (room_in_shaped sd hu) ⟨.bl _, H, I, rfl, q⟩
theorem op_notInU (hu : X.A.units + 65 < cLine) : OpR X (compareOp .NotIn) (rInU X.K true) := by
  intro pins s σ H x y v u Q I rx ry h
  obtain ⟨d, ds, hd, he, sd, se, q⟩ := h
  obtain ⟨as, r1⟩ := Dp.reads I d x v hd rx
  obtain ⟨bs, r2⟩ := Dp.reads I (.tuple ds) y u he ry
  exact SeqAt.notIn_tuple_reads r2 r1 (SeqAt.canLay_of_shaped se) (SeqAt.canLay_of_shaped sd) (room_in_shaped sd hu) ⟨.bl _, H, I, rfl, q⟩
def rInDc (neg : Bool) : R2 := fun y x H Q => ∃ a o, x = .ref a ∧ DGet H a y o ∧ Q (.bl (if neg then !o.isSome else o.isSome)) H
theorem op_inDc (hu : X.A.units + 1 < cLine) : OpR X (compareOp .In) (rInDc false) := by
  intro pins s σ H y x v u Q I ry rx h
  obtain ⟨a, o, rfl, g, q⟩ := h
  obtain rfl : u = Value.ref a := rx
  exact d_in hu I g ry fun s3 I3 => ⟨.bl _, H, I3, rfl, q⟩
theorem op_notInDc (hu : X.A.units + 1 < cLine) : OpR X (compareOp .NotIn) (rInDc true) := by
  intro pins s σ H y x v u Q I ry rx h
  obtain ⟨a, o, rfl, g, q⟩ := h
  obtain rfl : u = Value.ref a := rx
  exact d_notIn hu I g ry fun s3 I3 => ⟨.bl _, H, I3, rfl, q⟩
end
def flat : D → Bool
  | .non | .bl _ | .int _ | .str _ => true
  | _ => false
theorem flat_V {K : PySem.W.Frag} {H : Hp} {F : Fp} {v : V} {d : D} (h : Fr K H F v d) (f : flat d = true) : flatV v = true := by
  cases h <;> first | rfl | exact absurd f Bool.false_ne_true
theorem flat_all {K : PySem.W.Frag} {H : Hp} {F : Fp} : ∀ {vs : List V} {ds : List D}, FrL K H F vs ds → ds.all flat = true → vs.all flatV = true
  | _, _, .nil, _ => rfl
  | _, _, .cons h r, e => by
    rw [List.all_cons, Bool.and_eq_true] at e ⊢
    exact ⟨flat_V h e.1, flat_all r e.2⟩
theorem flat_eq {K : PySem.W.Frag} {H : Hp} {F : Fp} {v u : V} {d e : D} (h : Fr K H F v d) (k : Fr K H F u e) (f : flat d = true) (g : flat e = true) : eqV v u = deq d e := by
  cases h <;> first | (exact absurd f Bool.false_ne_true) | (cases k <;> first | (exact absurd g Bool.false_ne_true) | (simp only [eqV, deq, py, PyData.eqv]))
theorem flat_in {K : PySem.W.Frag} {H : Hp} {F : Fp} {u : V} {e : D} (k : Fr K H F u e) (g : flat e = true) : ∀ {vs : List V} {ds : List D}, FrL K H F vs ds → ds.all flat = true → inV u vs = ds.any fun z => deq z e
  | _, _, .nil, _ => rfl
  | _, _, .cons h r, f => by
    rw [List.all_cons, Bool.and_eq_true] at f
    have ih := flat_in k g r f.2
    unfold inV at ih ⊢
    rw [List.any_cons, List.any_cons, ih, flat_eq h k f.1 g]
def keyOf : D → Option Key
  | .int i => some (.inl i)
  | .str x => some (.inr x)
  | _ => none
def keysOf : List D → Option (List Key)
  | [] => some []
  | d :: r => match keyOf d, keysOf r with
    | some k, some ks => some (k :: ks)
    | _, _ => none
theorem keyOf_V {K : PySem.W.Frag} {H : Hp} {F : Fp} {v : V} {d : D} {k : Key} (h : Fr K H F v d) (e : keyOf d = some k) : v = kV k := by
  cases h with
  | int i => cases e; rfl
  | str i => cases e; rfl
  | _ => cases e
theorem keysOf_V {K : PySem.W.Frag} {H : Hp} {F : Fp} : ∀ {vs : List V} {ds : List D} {ks : List Key}, FrL K H F vs ds → keysOf ds = some ks → vs = ks.map kV
  | _, _, ks, .nil, e => by cases e; rfl
  | _, _, ks, .cons h r, e => by
    rw [keysOf] at e
    split at e
    · next k ks e1 e2 =>
      cases e
      rw [keyOf_V h e1, keysOf_V r e2]
      rfl
    · cases e
theorem keysOf_ints : ∀ l : List Int, keysOf (l.map D.int) = some (l.map Sum.inl)
  | [] => rfl
  | i :: r => by rw [List.map_cons, keysOf, keysOf_ints r]; rfl
/-- a dict's value -/
def dget {κ : Type} [DecidableEq κ] (kvs : List (κ × D)) (k : κ) : Option D := (kvs.find? fun kv => decide (kv.1 = k)).map (·.2)
def RelOD (K : PySem.W.Frag) (H : Hp) (F : Fp) : Option V → Option D → Prop
  | some v, some d => Fr K H F v d
  | none, none => True
  | _, _ => False
theorem dget_rel {κ : Type} [DecidableEq κ] {K : PySem.W.Frag} {H : Hp} {F : Fp} (k : κ) : ∀ {kvs : List (κ × V)} {es : List (κ × D)}, kvs.map Prod.fst = es.map Prod.fst → FrL K H F (kvs.map Prod.snd) (es.map Prod.snd) → RelOD K H F (valV kvs k) (dget es k)
  | [], [], _, _ => trivial
  | [], _ :: _, e, _ => by simp at e
  | _ :: _, [], e, _ => by simp at e
  | (k1, v) :: kvs, (k2, d) :: es, e, r => by
    simp only [List.map_cons, List.cons.injEq] at e
    obtain ⟨rfl, e⟩ := e
    cases r with
    | cons h r =>
      by_cases hk : k1 = k
      · subst hk
        rw [valV_pos rfl]
        have : dget ((k1, d) :: es) k1 = some d := by simp [dget, List.find?_cons]
        rw [this]
        exact h
      · rw [valV_neg hk]
        have : dget ((k1, d) :: es) k = dget es k := by simp [dget, List.find?_cons, hk]
        rw [this]
        exact dget_rel k e r
theorem relOD_some {K : PySem.W.Frag} {H : Hp} {F : Fp} {o : Option V} {p : Option D} (h : RelOD K H F o p) : o.isSome = p.isSome := by
  cases o <;> cases p <;> first | rfl | exact h.elim
/-- a dict asked -/
def gAsk (x y : D) (k : Option D → Prop) : Prop := match y with
  | .dK kvs => match keyOf x with
    | some key => k (dget kvs key)
    | none => False
  | .dT kvs => match x with
    | .tup ds => match keysOf ds with
      | some ks => k (dget kvs ks)
      | none => False
    | _ => False
  | _ => False
theorem ask_get {K : PySem.W.Frag} {H : Hp} {F : Fp} {v u : V} {x y : D} {k : Option D → Prop} (hv : Fr K H F v x) (hu : Fr K H F u y) (g : gAsk x y k) : ∃ a o p, u = .ref a ∧ IsD H a ∧ DGet H a v o ∧ RelOD K H F o p ∧ k p := by
  cases hu with
  | dK f h e r =>
    unfold gAsk at g
    simp only at g
    split at g
    · next key ek =>
      rw [keyOf_V hv ek]
      exact ⟨_, _, _, rfl, .inl ⟨_, .inl h⟩, DGet.k h, dget_rel key e r, g⟩
    · exact g.elim
  | dT f h e r =>
    cases hv with
    | tup f' h' r' =>
      unfold gAsk at g
      simp only at g
      split at g
      · next ks ek =>
        have := keysOf_V r' ek
        subst this
        exact ⟨_, _, _, rfl, .inr ⟨_, .inl h⟩, DGet.t h h', dget_rel ks e r, g⟩
      · exact g.elim
    | _ => exact g.elim
  | _ => exact g.elim
theorem flat_intsD (l : List Int) : (l.map D.int).all flat = true := List.all_eq_true.mpr fun v hv => by
  obtain ⟨i, _, rfl⟩ := List.mem_map.mp hv
  rfl
def gInB (neg : Bool) : D → D → (D → Prop) → Prop := fun x y k => match y with
  | .lst ds => ((flat x = true ∧ ds.all flat = true) ∨ (sh x = true ∧ sh (.lst ds) = true)) ∧ k (.bl (if neg then !ds.any fun z => deq z x else ds.any fun z => deq z x))
  | .tup ds => ((flat x = true ∧ ds.all flat = true) ∨ (sh x = true ∧ sh (.tup ds) = true)) ∧ k (.bl (if neg then !ds.any fun z => deq z x else ds.any fun z => deq z x))
  | .ptu ns => flat x = true ∧ k (.bl (if neg then !(ns.map D.int).any fun z => deq z x else (ns.map D.int).any fun z => deq z x))
  | y => gAsk x y fun o => k (.bl (if neg then !o.isSome else o.isSome))
abbrev gIn := gInB false
abbrev gNotIn := gInB true
theorem any_py (ds : List D) (x : D) : ((pyL ds).any fun z => PyData.eqv z (py x)) = ds.any fun z => deq z x := by
  rw [pyL_map, List.any_map]
  rfl
theorem up_in {K : PySem.W.Frag} : Up2 K (fun x y H Q => rIn K false x y H Q ∨ rInD K x y H Q ∨ rInU K false x y H Q ∨ rInDc false x y H Q) gIn := by
  intro H F v u x y k Q hv hu g ok
  have ask : gAsk x y (fun o => k (.bl o.isSome)) → rInDc false v u H Q := fun g => by
    obtain ⟨a, o, p, rfl, _, d, r, g⟩ := ask_get hv hu g
    exact ⟨a, o, rfl, d, by rw [relOD_some r]; exact ok.same g (.bl _)⟩
  cases hu with
  | lst f h r =>
    obtain ⟨c, g⟩ := g
    rcases c with ⟨c1, c2⟩ | ⟨c1, c2⟩
    · exact .inl ⟨_, _, rfl, .inl (SqL.of h), flat_V hv c1, flat_all r c2, by rw [flat_in hv c1 r c2]; exact ok.same g (.bl _)⟩
    · have c3 := sh_and c2
      have c4 := sh_and c1
      refine .inr (.inl ⟨py x, pyL _, hv.dp c4.1, ?_, c4.2, by simpa only [py] using c3.2, by rw [any_py]; exact ok.same g (.bl _)⟩)
      have := (Fr.lst f h r).dp c3.1
      simpa only [py] using this
  | ptu f h =>
    obtain ⟨c, g⟩ := g
    exact .inl ⟨_, _, rfl, .inr h.sq, flat_V hv c, flat_all (K := K) (H := H) (F := F) FrL.ints (flat_intsD _), by rw [flat_in hv c (FrL.ints (K := K) (H := H) (F := F)) (flat_intsD _)]; exact ok.same g (.bl _)⟩
  | tup f h r =>
    obtain ⟨c, g⟩ := g
    rcases c with ⟨c1, c2⟩ | ⟨c1, c2⟩
    · exact .inl ⟨_, _, rfl, .inr (SqT.of h), flat_V hv c1, flat_all r c2, by rw [flat_in hv c1 r c2]; exact ok.same g (.bl _)⟩
    · have c3 := sh_and c2
      have c4 := sh_and c1
      refine .inr (.inr (.inl ⟨py x, pyL _, hv.dp c4.1, ?_, c4.2, by simpa only [py] using c3.2, by rw [any_py]; exact ok.same g (.bl _)⟩))
      have := (Fr.tup f h r).dp c3.1
      simpa only [py] using this
  | _ => exact .inr (.inr (.inr (ask g)))
theorem up_notIn {K : PySem.W.Frag} : Up2 K (fun x y H Q => rIn K true x y H Q ∨ rNotInD K x y H Q ∨ rInU K true x y H Q ∨ rInDc true x y H Q) gNotIn := by
  intro H F v u x y k Q hv hu g ok
  have ask : gAsk x y (fun o => k (.bl (!o.isSome))) → rInDc true v u H Q := fun g => by
    obtain ⟨a, o, p, rfl, _, d, r, g⟩ := ask_get hv hu g
    exact ⟨a, o, rfl, d, by rw [relOD_some r]; exact ok.same g (.bl _)⟩
  cases hu with
  | lst f h r =>
    obtain ⟨c, g⟩ := g
    rcases c with ⟨c1, c2⟩ | ⟨c1, c2⟩
    · exact .inl ⟨_, _, rfl, .inl (SqL.of h), flat_V hv c1, flat_all r c2, by rw [flat_in hv c1 r c2]; exact ok.same g (.bl _)⟩
    · have c3 := sh_and c2
      have c4 := sh_and c1
      refine .inr (.inl ⟨py x, pyL _, hv.dp c4.1, ?_, c4.2, by simpa only [py] using c3.2, by rw [any_py]; exact ok.same g (.bl _)⟩)
      have := (Fr.lst f h r).dp c3.1
      simpa only [py] using this
  | ptu f h =>
    obtain ⟨c, g⟩ := g
    exact .inl ⟨_, _, rfl, .inr h.sq, flat_V hv c, flat_all (K := K) (H := H) (F := F) FrL.ints (flat_intsD _), by rw [flat_in hv c (FrL.ints (K := K) (H := H) (F := F)) (flat_intsD _)]; exact ok.same g (.bl _)⟩
  | tup f h r =>
    obtain ⟨c, g⟩ := g
    rcases c with ⟨c1, c2⟩ | ⟨c1, c2⟩
    · exact .inl ⟨_, _, rfl, .inr (SqT.of h), flat_V hv c1, flat_all r c2, by rw [flat_in hv c1 r c2]; exact ok.same g (.bl _)⟩
    · have c3 := sh_and c2
      have c4 := sh_and c1
      refine .inr (.inr (.inl ⟨py x, pyL _, hv.dp c4.1, ?_, c4.2, by simpa only [py] using c3.2, by rw [any_py]; exact ok.same g (.bl _)⟩))
      have := (Fr.tup f h r).dp c3.1
      simpa only [py] using this
  | _ => exact .inr (.inr (.inr (ask g)))
section
variable {X : Cx}
theorem op_inAll (hu : X.A.units + 65 < cLine) : OpR X (compareOp .In) (fun x y H Q => rIn X.K false x y H Q ∨ rInD X.K x y H Q ∨ rInU X.K false x y H Q ∨ rInDc false x y H Q) := opr_or op_in_seq (opr_or (op_inD hu) (opr_or (op_inU hu) (op_inDc (by omega))))
theorem op_notInAll (hu : X.A.units + 65 < cLine) : OpR X (compareOp .NotIn) (fun x y H Q => rIn X.K true x y H Q ∨ rNotInD X.K x y H Q ∨ rInU X.K true x y H Q ∨ rInDc true x y H Q) := opr_or op_notIn_seq (opr_or (op_notInD hu) (opr_or (op_notInU hu) (op_notInDc (by omega))))
end

/-! ### calls of built-in functions -/
def gLen : List D → (D → Prop) → Prop := fun ds k => match ds with
  | [.lst xs] => k (.int xs.length)
  | [.tup xs] => k (.int xs.length)
  | [.scr xs] => k (.int xs.length)
  | [.ptu xs] => k (.int xs.length)
  | [.str x] => x.length ≤ sizeLine ∧ k (.int x.length)
  | [.dT kvs] => k (.int kvs.length)
  | _ => False
theorem FrL.one {K : PySem.W.Frag} {H : Hp} {F : Fp} {vs : List V} {d : D} (h : FrL K H F vs [d]) : ∃ v, vs = [v] ∧ Fr K H F v d := by
  cases h with
  | cons h r => cases r; exact ⟨_, rfl, h⟩
theorem FrL.two {K : PySem.W.Frag} {H : Hp} {F : Fp} {vs : List V} {d e : D} (h : FrL K H F vs [d, e]) : ∃ v u, vs = [v, u] ∧ Fr K H F v d ∧ Fr K H F u e := by
  cases h with
  | cons h r =>
    obtain ⟨u, rfl, q⟩ := r.one
    exact ⟨_, _, rfl, h, q⟩
theorem Fr.scrSeq {K : PySem.W.Frag} {H : Hp} {F : Fp} {v : V} {ns : List Int} (h : Fr K H F v (.scr ns)) : ∃ a, v = .ref a ∧ SqL K H a (ns.map V.int) := by
  cases h with
  | scr f h => exact ⟨_, rfl, .inl h⟩
  | scrK h => exact ⟨_, rfl, h H⟩
def rLenA (K : PySem.W.Frag) : List V → Hp → VK → Prop := fun xs H Q => (∃ x n, xs = [x] ∧ LenV K x H n ∧ Q (.int n) H) ∨ rLenT xs H Q
theorem call_lenA {X : Cx} : CallR X (.builtin "len") (rLenA X.K) := callr_or call_len call_len_dT
theorem up_len {K : PySem.W.Frag} : UpA K (rLenA K) gLen := by
  intro H F vs ds k Q hv g ok
  match ds, g with
  | [.lst xs], g =>
    obtain ⟨v, rfl, h⟩ := hv.one
    cases h with
    | lst f h r => exact .inl ⟨_, _, rfl, .inl ⟨_, SqL.of h, r.length.symm⟩, ok.same g (.int _)⟩
  | [.tup xs], g =>
    obtain ⟨v, rfl, h⟩ := hv.one
    cases h with
    | tup f h r => exact .inl ⟨_, _, rfl, .inr ⟨_, SqT.of h, r.length.symm⟩, ok.same g (.int _)⟩
  | [.scr xs], g =>
    obtain ⟨v, rfl, h⟩ := hv.one
    obtain ⟨a, rfl, hq⟩ := h.scrSeq
    exact .inl ⟨_, _, rfl, .inl ⟨_, hq, rfl⟩, by rw [List.length_map]; exact ok.same g (.int _)⟩
  | [.ptu xs], g =>
    obtain ⟨v, rfl, h⟩ := hv.one
    cases h with
    | ptu f h => exact .inl ⟨_, _, rfl, .inr ⟨_, h.sq, rfl⟩, by rw [List.length_map]; exact ok.same g (.int _)⟩
  | [.str x], g =>
    obtain ⟨v, rfl, h⟩ := hv.one
    cases h
    exact .inl ⟨_, _, rfl, ⟨g.1, rfl⟩, ok.same g.2 (.int _)⟩
  | [.dT kvs], g =>
    obtain ⟨v, rfl, h⟩ := hv.one
    cases h with
    | dT f h e r =>
      refine .inr ⟨_, _, rfl, h, ?_⟩
      have : ∀ {l : List (List Key × V)} {m : List (List Key × D)}, l.map Prod.fst = m.map Prod.fst → l.length = m.length := fun e => by simpa using congrArg List.length e
      rw [this e]
      exact ok.same g (.int _)
def gIntF : List D → (D → Prop) → Prop := fun ds k => match ds with
  | [.int i] => k (.int i)
  | [.bl b] => k (.int (if b then 1 else 0))
  | _ => False
theorem up_intF {K : PySem.W.Frag} : UpA K (fun xs H Q => (∃ i, xs = [.int i] ∧ Q (.int i) H) ∨ ∃ k, xs = [.bl k] ∧ Q (.int (if k then 1 else 0)) H) gIntF := by
  intro H F vs ds k Q hv g ok
  match ds, g with
  | [.int i], g =>
    obtain ⟨v, rfl, h⟩ := hv.one
    cases h
    exact .inl ⟨i, rfl, ok.same g (.int _)⟩
  | [.bl i], g =>
    obtain ⟨v, rfl, h⟩ := hv.one
    cases h
    exact .inr ⟨i, rfl, ok.same g (.int _)⟩
def gTupF : List D → (D → Prop) → Prop := fun ds k => match ds with
  | [.lst xs] => k (.tup xs)
  | [.tup xs] => k (.tup xs)
  | [.ptu ns] => k (.ptu ns)
  | _ => False
theorem up_tupF {K : PySem.W.Frag} : UpA K (fun xs H Q => ∃ p ys, xs = [.ref p] ∧ ((SqL K H p ys ∧ ∀ l, H l = none → Q (.ref l) (upd H l (.tup ys))) ∨ (SqT K H p ys ∧ Q (.ref p) H))) gTupF := by
  intro H F vs ds k Q hv g ok
  match ds, g with
  | [.lst xs], g =>
    obtain ⟨v, rfl, h⟩ := hv.one
    cases h with
    | lst f h r => exact ⟨_, _, rfl, .inl ⟨SqL.of h, fun l n => ok.tup g n r⟩⟩
  | [.tup xs], g =>
    obtain ⟨v, rfl, h⟩ := hv.one
    cases h with
    | tup f h r => exact ⟨_, _, rfl, .inr ⟨SqT.of h, ok.same g (.tup f h r)⟩⟩
  | [.ptu xs], g =>
    obtain ⟨v, rfl, h⟩ := hv.one
    cases h with
    | ptu f h => exact ⟨_, _, rfl, .inr ⟨h.sq, ok.same g (.ptu f h)⟩⟩
def gLstF : List D → (D → Prop) → Prop := fun ds k => match ds with
  | [.lst xs] => k (.lst xs)
  | [.tup xs] => k (.lst xs)
  | [.scr ns] => k (.lst (ns.map .int))
  | [.ptu ns] => k (.lst (ns.map .int))
  | _ => False
theorem up_lstF {K : PySem.W.Frag} : UpA K (fun xs H Q => ∃ p ys, xs = [.ref p] ∧ (SqL K H p ys ∨ SqT K H p ys) ∧ ∀ l, H l = none → Q (.ref l) (upd H l (.lst ys))) gLstF := by
  intro H F vs ds k Q hv g ok
  match ds, g with
  | [.lst xs], g =>
    obtain ⟨v, rfl, h⟩ := hv.one
    cases h with
    | lst f h r => exact ⟨_, _, rfl, .inl (SqL.of h), fun l n => ok.lst g n r⟩
  | [.tup xs], g =>
    obtain ⟨v, rfl, h⟩ := hv.one
    cases h with
    | tup f h r => exact ⟨_, _, rfl, .inr (SqT.of h), fun l n => ok.lst g n r⟩
  | [.scr ns], g =>
    obtain ⟨v, rfl, h⟩ := hv.one
    obtain ⟨a, rfl, hq⟩ := h.scrSeq
    exact ⟨_, _, rfl, .inl hq, fun l n => ok.lst g n .ints⟩
  | [.ptu ns], g =>
    obtain ⟨v, rfl, h⟩ := hv.one
    cases h with
    | ptu f h => exact ⟨_, _, rfl, .inr h.sq, fun l n => ok.lst g n .ints⟩
def gInts1 (f : Int → D) : List D → (D → Prop) → Prop := fun ds k => match ds with
  | [.int i] => k (f i)
  | _ => False
def gInts2 (f : Int → Int → D) : List D → (D → Prop) → Prop := fun ds k => match ds with
  | [.int i, .int j] => k (f i j)
  | _ => False
theorem up_abs {K : PySem.W.Frag} : UpA K (fun xs H Q => ∃ i, xs = [.int i] ∧ Q (.int (if i < 0 then -i else i)) H) (gInts1 fun i => .int (if i < 0 then -i else i)) := by
  intro H F vs ds k Q hv g ok
  match ds, g with
  | [.int i], g =>
    obtain ⟨v, rfl, h⟩ := hv.one
    cases h
    exact ⟨i, rfl, ok.same g (.int _)⟩
theorem up_ints2 {K : PySem.W.Frag} {f : Int → Int → Int} : UpA K (fun xs H Q => ∃ i j, xs = [.int i, .int j] ∧ Q (.int (f i j)) H) (gInts2 fun i j => .int (f i j)) := by
  intro H F vs ds k Q hv g ok
  match ds, g with
  | [.int i, .int j], g =>
    obtain ⟨v, u, rfl, h, h'⟩ := hv.two
    cases h
    cases h'
    exact ⟨i, j, rfl, ok.same g (.int _)⟩
def gStrF : List D → (D → Prop) → Prop := fun ds k => match ds with
  | [.int i] => i.natAbs.log2 < 1920 ∧ k (.str (toString i))
  | _ => False
theorem up_strF {K : PySem.W.Frag} : UpA K (fun xs H Q => ∃ i, xs = [.int i] ∧ i.natAbs.log2 < 1920 ∧ Q (.str (toString i)) H) gStrF := by
  intro H F vs ds k Q hv g ok
  match ds, g with
  | [.int i], g =>
    obtain ⟨v, rfl, h⟩ := hv.one
    cases h
    exact ⟨i, rfl, g.1, ok.same g.2 (.str _)⟩
def gBls (f : List Bool → Bool) : List D → (D → Prop) → Prop := fun ds k => match ds with
  | [.lst xs] => match blsOf xs with
    | some bs => k (.bl (f bs))
    | none => False
  | _ => False
theorem up_bls {K : PySem.W.Frag} {f : List Bool → Bool} : UpA K (fun vs H Q => ∃ (a : Addr) (bs : List Bool), vs = [V.ref a] ∧ SqL K H a (bs.map V.bl) ∧ Q (.bl (f bs)) H) (gBls f) := by
  intro H F vs ds k Q hv g ok
  match ds, g with
  | [.lst xs], g =>
    obtain ⟨v, rfl, h⟩ := hv.one
    cases h with
    | lst f h r =>
      unfold gBls at g
      simp only at g
      split at g
      · next bs e =>
        have := blsOf_eq e
        subst this
        have := r.ofBls
        subst this
        exact ⟨_, bs, rfl, SqL.of h, ok.same g (.bl _)⟩
      · exact g.elim
/-- sorted of a list of ints: any arrangement by the order (there is one) -/
def gSortI : List D → (D → Prop) → Prop := fun ds k => match ds with
  | [.lst xs] => match intsOf xs with
    | some ns => ∀ ns' : List Int, ns'.Perm ns → ns'.Pairwise (· ≤ ·) → k (.lst (ns'.map .int))
    | none => False
  | _ => False
theorem up_sortI {K : PySem.W.Frag} : UpA K (rSortedI K) gSortI := by
  intro H F vs ds k Q hv g ok
  match ds, g with
  | [.lst xs], g =>
    obtain ⟨v, rfl, h⟩ := hv.one
    cases h with
    | lst f h r =>
      unfold gSortI at g
      simp only at g
      split at g
      · next ns e =>
        have := intsOf_eq e
        subst this
        have := r.ofInts
        subst this
        exact ⟨_, ns, rfl, SqL.of h, fun ns' p hp hs n => ok.lst (g ns' hp hs) n .ints⟩
      · exact g.elim
def gIntsL (f : List Int → (Int → Prop) → Prop) : List D → (D → Prop) → Prop := fun ds k => match ds with
  | [.lst xs] => match intsOf xs with
    | some ns => f ns fun i => k (.int i)
    | none => False
  | _ => False
theorem up_sum {K : PySem.W.Frag} : UpA K (rSum K) (gIntsL fun ns k => k ns.sum) := by
  intro H F vs ds k Q hv g ok
  match ds, g with
  | [.lst xs], g =>
    obtain ⟨v, rfl, h⟩ := hv.one
    cases h with
    | lst f h r =>
      unfold gIntsL at g
      simp only at g
      split at g
      · next ns e =>
        have := intsOf_eq e
        subst this
        have := r.ofInts
        subst this
        exact ⟨_, ns, rfl, SqL.of h, ok.same g (.int _)⟩
      · exact g.elim
def gMaxL := gIntsL fun ns k => 0 < ns.length ∧ ∀ m, m ∈ ns → (∀ y, y ∈ ns → y ≤ m) → k m
def gMinL := gIntsL fun ns k => 0 < ns.length ∧ ∀ m, m ∈ ns → (∀ y, y ∈ ns → m ≤ y) → k m
theorem up_maxL {K : PySem.W.Frag} : UpA K (rMax K) gMaxL := by
  intro H F vs ds k Q hv g ok
  match ds, g with
  | [.lst xs], g =>
    obtain ⟨v, rfl, h⟩ := hv.one
    cases h with
    | lst f h r =>
      unfold gMaxL gIntsL at g
      simp only at g
      split at g
      · next ns e =>
        have := intsOf_eq e
        subst this
        have := r.ofInts
        subst this
        exact ⟨_, ns, rfl, SqL.of h, g.1, fun m hm hy => ok.same (g.2 m hm hy) (.int _)⟩
      · exact g.elim
theorem up_minL {K : PySem.W.Frag} : UpA K (rMin K) gMinL := by
  intro H F vs ds k Q hv g ok
  match ds, g with
  | [.lst xs], g =>
    obtain ⟨v, rfl, h⟩ := hv.one
    cases h with
    | lst f h r =>
      unfold gMinL gIntsL at g
      simp only at g
      split at g
      · next ns e =>
        have := intsOf_eq e
        subst this
        have := r.ofInts
        subst this
        exact ⟨_, ns, rfl, SqL.of h, g.1, fun m hm hy => ok.same (g.2 m hm hy) (.int _)⟩
      · exact g.elim

/-! ### subscripts, slices -/
def gIx : D → D → (D → Prop) → Prop := fun x y k => match x with
  | .lst xs => match y with
    | .int i => match atI xs i with
      | some d => k d
      | none => False
    | _ => False
  | .tup xs => match y with
    | .int i => match atI xs i with
      | some d => k d
      | none => False
    | _ => False
  | .ptu ns => match y with
    | .int i => match atI ns i with
      | some d => k (.int d)
      | none => False
    | _ => False
  | .scr ns => match y with
    | .int i => match atI ns i with
      | some d => k (.int d)
      | none => False
    | _ => False
  | _ => False
theorem atI_rel {K : PySem.W.Frag} {H : Hp} {F : Fp} {vs : List V} {ds : List D} {i : Int} {d : D} (h : FrL K H F vs ds) (e : atI ds i = some d) : ∃ v, atI vs i = some v ∧ Fr K H F v d := by
  unfold atI at e ⊢
  rw [h.length]
  cases q : ixN ds.length i with
  | none => rw [q] at e; cases e
  | some j =>
    rw [q] at e
    exact h.get' (show ds[j]? = some d from e)
theorem atI_map {α β : Type} (f : α → β) (l : List α) (i : Int) : atI (l.map f) i = (atI l i).map f := by
  unfold atI
  rw [List.length_map]
  cases ixN l.length i with
  | none => rfl
  | some j => simp
theorem up_ix {K : PySem.W.Frag} : Up2 K (rIx K) gIx := by
  intro H F v u x y k Q hv hu g ok
  cases hv with
  | lst f h r =>
    cases hu with
    | int i =>
      unfold gIx at g
      simp only at g
      split at g
      · next d e =>
        obtain ⟨z, ez, hz⟩ := atI_rel r e
        exact .inl ⟨_, _, _, z, rfl, rfl, SqL.of h, ez, ok.same g hz⟩
      · exact g.elim
    | _ => exact g.elim
  | tup f h r =>
    cases hu with
    | int i =>
      unfold gIx at g
      simp only at g
      split at g
      · next d e =>
        obtain ⟨z, ez, hz⟩ := atI_rel r e
        exact .inr (.inl ⟨_, _, _, z, rfl, rfl, SqT.of h, ez, ok.same g hz⟩)
      · exact g.elim
    | _ => exact g.elim
  | scr f h =>
    cases hu with
    | int i =>
      unfold gIx at g
      simp only at g
      split at g
      · next d e => exact .inl ⟨_, _, _, .int d, rfl, rfl, .inl h, by rw [atI_map, e]; rfl, ok.same g (.int _)⟩
      · exact g.elim
    | _ => exact g.elim
  | ptu f h =>
    cases hu with
    | int i =>
      unfold gIx at g
      simp only at g
      split at g
      · next d e => exact .inr (.inl ⟨_, _, _, .int d, rfl, rfl, h.sq, by rw [atI_map, e]; rfl, ok.same g (.int _)⟩)
      · exact g.elim
    | _ => exact g.elim
  | scrK h =>
    cases hu with
    | int i =>
      unfold gIx at g
      simp only at g
      split at g
      · next d e => exact .inl ⟨_, _, _, .int d, rfl, rfl, h H, by rw [atI_map, e]; rfl, ok.same g (.int _)⟩
      · exact g.elim
    | _ => exact g.elim
  | _ => exact g.elim
section
variable {X : Cx} {pn : List (Nat × V)} {a b e : Expr} {es : List Expr} {fa fb f : FE} {ga : FA} {pos : Pos}
theorem d_ix (ha : DE X pn a fa) (hb : DE X pn b fb) (hs : PlainIx b := by exact fun _ _ => rfl) : DE X pn (.Subscript a b pos) (dBin gIx fa fb) :=
  pe_weak (pe_ix ix_seq ha hb hs) fun σ H Q q => low_bin up_ix q
/-- d[k] of a frozen dict -/
def gDix : D → D → (D → Prop) → Prop := fun y x k => gAsk x y fun o => match o with
  | some d => k d
  | none => False
theorem d_dix (hu : X.A.units + 1 < cLine) (ha : DE X pn a fa) (hb : DE X pn b fb) (hs : NoSl b) : DE X pn (.Subscript a b pos) (dBin gDix fa fb) :=
  pe_weak (pe_dget hu ha hb hs) fun σ H Q q => low_bin (r := fun x y H2 Q => ∃ a v, x = .ref a ∧ DGet H2 a y (some v) ∧ Q v H2) (by
    intro H F v u x y k Q hv hu g ok
    obtain ⟨a, o, p, rfl, _, d, r, g⟩ := ask_get hu hv g
    cases p with
    | none => exact g.elim
    | some z =>
      cases o with
      | none => exact r.elim
      | some w => exact ⟨a, w, rfl, d, ok.same g r⟩) q
def cutD {α : Type} (xs : List α) (lo hi : Option Int) : List α := (xs.drop (HT.sIx xs.length 0 lo)).take (HT.sIx xs.length xs.length hi - HT.sIx xs.length 0 lo)
abbrev FO := Ls → (Option Int → Ls → Prop) → Prop
def dNoP : FO := fun L Q => Q none L
def dPart (f : FE) : FO := fun L Q => f L fun x L1 => match x with
  | .int i => Q (some i) L1
  | _ => False
def lowO (K : PySem.W.Frag) (pn : List (Nat × V)) (f : FO) : TO := fun σ H Q => ∃ F A L R, Lo K H F pn σ L A ∧ f L R ∧ ∀ o L' F' A' H', R o L' → Ext A H F A' H' F' → Lo K H' F' pn σ L' A' → Q o H'
theorem po_weak {X : Cx} {o : Option Expr} {t t' : TO} (h : PO X o t) (w : ∀ σ H Q, t' σ H Q → t σ H Q) : PO X o t' := by
  exact ⟨fun pins s σ H Q I q => h.run pins s σ H Q I (w σ H Q q)⟩
theorem d_noP : PO X none (lowO X.K pn dNoP) := po_weak po_none fun σ H Q q => by
  obtain ⟨F, A, L, R, lo, h, p⟩ := q
  exact p none L F A H h .refl lo
theorem d_part (h : DE X pn e f) : PO X (some e) (lowO X.K pn (dPart f)) := po_weak (po_some h) fun σ H Q q => by
  obtain ⟨F, A, L, R, lo, h, p⟩ := q
  refine ⟨F, A, L, _, lo, h, fun x L1 v F1 A1 H1 h1 e1 lo1 f1 => ?_⟩
  cases f1 with
  | int i => exact ⟨i, rfl, p (some i) L1 F1 A1 H1 h1 e1 lo1⟩
  | _ => exact h1.elim
def gSl : D → Option Int → Option Int → (D → Prop) → Prop := fun x lo hi k => match x with
  | .lst xs => k (.lst (cutD xs lo hi))
  | .tup xs => k (.tup (cutD xs lo hi))
  | .str z => z.length ≤ sizeLine ∧ k (.str (cutS z lo hi))
  | _ => False
def dSl (f : FE) (l h : FO) : FE := fun L Q => f L fun x L1 => l L1 fun lo L2 => h L2 fun hi L3 => gSl x lo hi fun z => Q z L3
theorem FrL.cut {K : PySem.W.Frag} {H : Hp} {F : Fp} {vs : List V} {ds : List D} (h : FrL K H F vs ds) (lo hi : Option Int) : FrL K H F (cutV vs lo hi) (cutD ds lo hi) := by
  unfold cutV cutD
  rw [h.length]
  exact (h.drop _).take _
theorem slr_or {r1 r2 : V → Option Int → Option Int → Hp → VK → Prop} (h1 : SlR X r1) (h2 : SlR X r2) : SlR X (fun x l u H Q => r1 x l u H Q ∨ r2 x l u H Q) := by
  intro pins s σ H x v vl vu lo hi sl Q I rx hs pl pu h
  exact h.elim (h1 pins s σ H x v vl vu lo hi sl Q I rx hs pl pu) (h2 pins s σ H x v vl vu lo hi sl Q I rx hs pl pu)
theorem cut_whole {α : Type} (xs : List α) (lo hi : Option Int) (h : HT.sIx xs.length 0 lo = 0 ∧ HT.sIx xs.length xs.length hi = xs.length) : cutD xs lo hi = xs := by
  unfold cutD
  rw [h.1, h.2, List.drop_zero, Nat.sub_zero, List.take_length]
theorem d_slice {lo hi : Option Expr} {fl fh : FO} {p2 : Pos} (ha : DE X pn a fa) (hl : PO X lo (lowO X.K pn fl)) (hh : PO X hi (lowO X.K pn fh)) : DE X pn (.Subscript a (.Slice lo hi none p2) pos) (dSl fa fl fh) :=
  pe_weak (pe_slice (slr_or (slr_or sl_list sl_tupA) sl_str) ha hl hh) fun σ H Q q => by
    obtain ⟨F, A, L, R, lo, h, p⟩ := q
    refine ⟨F, A, L, _, lo, h, fun x L1 v F1 A1 H1 h1 e1 lo1 f1 => ⟨F1, A1, L1, _, lo1, h1, fun l L2 F2 A2 H2 h2 e2 lo2 => ⟨F2, A2, L2, _, lo2, h2, fun u L3 F3 A3 H3 h3 e3 lo3 => ?_⟩⟩⟩
    have f3 := (f1.ext lo1.ok e2).ext lo2.ok e3
    have ok : OkV X.K H3 F3 (fun z => R z L3) Q := fun d z F' H' k gr f => p d L3 z F' A3 H' k (((e1.trans e2).trans e3).trans gr.ext) (gr.lo lo3) f
    cases f3 with
    | lst f h r => exact .inl (.inl ⟨_, _, rfl, SqL.of h, fun p n => ok.lst h3 n (r.cut _ _)⟩)
    | str z => exact .inr ⟨z, rfl, h3.1, ok.same h3.2 (.str _)⟩
    | tup f h r =>
      refine .inl (.inr ⟨_, _, rfl, SqT.of h, fun w => ?_, fun _ p n => ok.tup h3 n (r.cut _ _)⟩)
      have h3' : R (.tup (cutD _ l u)) L3 := h3
      rw [cut_whole _ _ _ (by rw [← r.length]; exact w)] at h3'
      exact ok.same (d := .tup _) h3' (.tup f h r)
    | _ => exact h3.elim
end
end DL

/-! Tests, statements, loops, comprehensions. -/
namespace DL
open PySem PySem.Spec PyProof.Rows L2

/-! ### tests -/
def dAnd (f g : FT) : FT := fun L Q => f L fun b L1 => bif b then g L1 Q else Q false L1
def dOr (f g : FT) : FT := fun L Q => f L fun b L1 => bif b then Q true L1 else g L1 Q
def dNot (f : FT) : FT := fun L Q => f L fun b L1 => Q (!b) L1
def dIfE (c : FT) (f g : FE) : FE := fun L Q => c L fun b L1 => bif b then f L1 Q else g L1 Q
/-- and, or, not of bools as values -/
def dAndV (f g : FE) : FE := fun L Q => f L fun x L1 => match x with
  | .bl b => bif b then g L1 Q else Q (.bl false) L1
  | _ => False
def dOrV (f g : FE) : FE := fun L Q => f L fun x L1 => match x with
  | .bl b => bif b then Q (.bl true) L1 else g L1 Q
  | _ => False
def dNotV (f : FE) : FE := fun L Q => f L fun x L1 => match x with
  | .bl b => Q (.bl (!b)) L1
  | _ => False
def truD (x : D) (k : Bool → Prop) : Prop := match x with
  | .non => k false
  | .bl b => k b
  | .int i => k (i != 0)
  | .str y => y.length ≤ sizeLine ∧ k ((y.length : Int) != 0)
  | .lst xs => k (!xs.isEmpty)
  | .tup xs => k (!xs.isEmpty)
  | .dK kvs => k (!kvs.isEmpty)
  | _ => False
def dTru (f : FE) : FT := fun L Q => f L fun x L1 => truD x fun b => Q b L1
section
variable {X : Cx} {pn : List (Nat × V)} {a b c e : Expr} {es rest : List Expr} {fa fb f : FE} {ft gt : FT} {pos : Pos}
theorem d_and1 (h : DT X pn a ft) : PW X (.BoolOp .And [a] pos) (lowT X.K pn ft) := pw_and1 h
theorem d_or1 (h : DT X pn a ft) : PW X (.BoolOp .Or [a] pos) (lowT X.K pn ft) := pw_or1 h
theorem d_and (ha : DT X pn a ft) (hb : PW X (.BoolOp .And (b :: rest) pos) (lowT X.K pn gt)) : PW X (.BoolOp .And (a :: b :: rest) pos) (lowT X.K pn (dAnd ft gt)) := pw_weak (pw_and ha hb) fun σ H Q q => by
  obtain ⟨F, A, L, R, lo, h, p⟩ := q
  refine ⟨F, A, L, _, lo, h, fun x L1 F1 A1 H1 h1 e1 lo1 => ?_⟩
  cases x with
  | true => exact iteT ⟨F1, A1, L1, R, lo1, h1, p.on e1⟩
  | false => exact iteF (p false L1 F1 A1 H1 h1 e1 lo1)
theorem d_or (ha : DT X pn a ft) (hb : PW X (.BoolOp .Or (b :: rest) pos) (lowT X.K pn gt)) : PW X (.BoolOp .Or (a :: b :: rest) pos) (lowT X.K pn (dOr ft gt)) := pw_weak (pw_or ha hb) fun σ H Q q => by
  obtain ⟨F, A, L, R, lo, h, p⟩ := q
  refine ⟨F, A, L, _, lo, h, fun x L1 F1 A1 H1 h1 e1 lo1 => ?_⟩
  cases x with
  | true => exact iteT (p true L1 F1 A1 H1 h1 e1 lo1)
  | false => exact iteF ⟨F1, A1, L1, R, lo1, h1, p.on e1⟩
theorem d_not (ha : DT X pn a ft) : DT X pn (.UnaryOp .Not a pos) (dNot ft) := pt_weak (pt_not ha) fun σ H Q q => by
  obtain ⟨F, A, L, R, lo, h, p⟩ := q
  exact ⟨F, A, L, _, lo, h, fun x L1 F1 A1 H1 h1 e1 lo1 => p (!x) L1 F1 A1 H1 h1 e1 lo1⟩
theorem d_tru (ha : DE X pn a fa) (he : ∀ whole, isTrue a X.env whole = (do let v ← whole; standAt a.pos; holding [v] (truthy v)) := by intro _; rfl) : DT X pn a (dTru fa) := pt_weak (pt_truth ha he) fun σ H Q q => by
  obtain ⟨F, A, L, R, lo, h, p⟩ := q
  refine ⟨F, A, L, _, lo, h, fun x L1 v F1 A1 H1 h1 e1 lo1 f1 => ?_⟩
  cases f1 with
  | non => exact ⟨false, rfl, p _ L1 F1 A1 H1 h1 e1 lo1⟩
  | bl b => exact ⟨b, rfl, p _ L1 F1 A1 H1 h1 e1 lo1⟩
  | int b => exact ⟨_, rfl, p _ L1 F1 A1 H1 h1 e1 lo1⟩
  | str b => exact ⟨_, ⟨h1.1, rfl⟩, p _ L1 F1 A1 H1 h1.2 e1 lo1⟩
  | lst f h r =>
    refine ⟨_, .inl ⟨_, SqL.of h, rfl⟩, ?_⟩
    have : ∀ {vs : List V} {ds : List D}, FrL X.K H1 F1 vs ds → vs.isEmpty = ds.isEmpty := fun r => by cases r <;> rfl
    rw [this r]
    exact p _ L1 F1 A1 H1 h1 e1 lo1
  | tup f h r =>
    refine ⟨_, .inr (.inl ⟨_, SqT.of h, rfl⟩), ?_⟩
    have : ∀ {vs : List V} {ds : List D}, FrL X.K H1 F1 vs ds → vs.isEmpty = ds.isEmpty := fun r => by cases r <;> rfl
    rw [this r]
    exact p _ L1 F1 A1 H1 h1 e1 lo1
  | dK f h e r =>
    refine ⟨_, .inr (.inr ⟨_, h, rfl⟩), ?_⟩
    have : ∀ {vs : List (Key × V)} {ds : List (Key × D)}, vs.map Prod.fst = ds.map Prod.fst → vs.isEmpty = ds.isEmpty := fun {vs ds} e => by cases vs <;> cases ds <;> first | rfl | simp at e
    rw [this e]
    exact p _ L1 F1 A1 H1 h1 e1 lo1
  | _ => exact h1.elim
theorem d_ifE (hc : DT X pn c ft) (ha : DE X pn a fa) (hb : DE X pn b fb) : DE X pn (.IfExp c a b pos) (dIfE ft fa fb) := pe_weak (pe_ifExp hc ha hb) fun σ H Q q => by
  obtain ⟨F, A, L, R, lo, h, p⟩ := q
  refine ⟨F, A, L, _, lo, h, fun x L1 F1 A1 H1 h1 e1 lo1 => ?_⟩
  cases x with
  | true => exact iteT ⟨F1, A1, L1, R, lo1, h1, p.on e1⟩
  | false => exact iteF ⟨F1, A1, L1, R, lo1, h1, p.on e1⟩
theorem d_oneV {op} (h : DE X pn a fa) : DE X pn (.BoolOp op [a] pos) fa := pe_one h
theorem d_andV (ha : DE X pn a fa) (hb : DE X pn (.BoolOp .And (b :: rest) pos) fb) : DE X pn (.BoolOp .And (a :: b :: rest) pos) (dAndV fa fb) := pe_weak (pe_and ha hb) fun σ H Q q => by
  obtain ⟨F, A, L, R, lo, h, p⟩ := q
  refine ⟨F, A, L, _, lo, h, fun x L1 v F1 A1 H1 h1 e1 lo1 f1 => ?_⟩
  cases f1 with
  | bl b =>
    refine ⟨b, rfl, ?_⟩
    cases b with
    | true => exact iteT ⟨F1, A1, L1, R, lo1, h1, p.on e1⟩
    | false => exact iteF (p _ L1 _ F1 A1 H1 h1 e1 lo1 (.bl _))
  | _ => exact h1.elim
theorem d_orV (ha : DE X pn a fa) (hb : DE X pn (.BoolOp .Or (b :: rest) pos) fb) : DE X pn (.BoolOp .Or (a :: b :: rest) pos) (dOrV fa fb) := pe_weak (pe_or ha hb) fun σ H Q q => by
  obtain ⟨F, A, L, R, lo, h, p⟩ := q
  refine ⟨F, A, L, _, lo, h, fun x L1 v F1 A1 H1 h1 e1 lo1 f1 => ?_⟩
  cases f1 with
  | bl b =>
    refine ⟨b, rfl, ?_⟩
    cases b with
    | true => exact iteT (p _ L1 _ F1 A1 H1 h1 e1 lo1 (.bl _))
    | false => exact iteF ⟨F1, A1, L1, R, lo1, h1, p.on e1⟩
  | _ => exact h1.elim
theorem d_notV (ha : DE X pn a fa) : DE X pn (.UnaryOp .Not a pos) (dNotV fa) := pe_weak (pe_not ha) fun σ H Q q => by
  obtain ⟨F, A, L, R, lo, h, p⟩ := q
  refine ⟨F, A, L, _, lo, h, fun x L1 v F1 A1 H1 h1 e1 lo1 f1 => ?_⟩
  cases f1 with
  | bl b => exact ⟨b, rfl, p _ L1 _ F1 A1 H1 h1 e1 lo1 (.bl _)⟩
  | _ => exact h1.elim
end

/-! ### statements -/
def dNil : FS := fun E L => E.nx L
def dSeq (g h : FS) : FS := fun E L => g { E with nx := h E } L
def dIf (c : FT) (g h : FS) : FS := fun E L => c L fun b L1 => bif b then g E L1 else h E L1
def dRet (f : FE) : FS := fun E L => f L E.rt
def dRetN : FS := fun E L => E.rt .non L
def dExp (f : FE) : FS := fun E L => f L fun _ L1 => E.nx L1
def dBrk : FS := fun E L => E.bk L
def dCnt : FS := fun E L => E.ct L
def dSet (i : Nat) (f : FE) : FS := fun E L => f L fun d L1 => E.nx (L1.set i (some d))
/-- a slot's owned value is frozen -/
def dFz (i : Nat) (g : FS) : FS := fun E L => match L[i]? with
  | some (some d) => noMo d = true ∧ g E (L.set i (some (fz d)))
  | _ => False
section
variable {X : Cx} {pn : List (Nat × V)} {a b c e : Expr} {st : Stmt} {sts ss : List Stmt} {fa fb f : FE} {ft gt : FT} {g h : FS} {pos : Pos}
theorem sane_no {H : Hp} {F : Fp} (h : ∀ a, F a → ∃ o, H a = some o) : Sane H F no := ⟨h, fun _ z => z.elim⟩
theorem Ext.or_no {A A' : Fp} {H H' : Hp} {F F' : Fp} (x : Ext A H F A' H' F') : Ext A H F (or2 A' no) H' F' := x.less fun a z => z.elim id fun z => z.elim
theorem d_nil : DSs X pn [] dNil := pss_weak pss_nil fun E σ H q => by
  obtain ⟨F, A, L, D, lo, h, p⟩ := q
  exact p.nx σ L F A H h .refl lo
theorem d_seq (h1 : DS X pn st g) (h2 : DSs X pn sts h) : DSs X pn (st :: sts) (dSeq g h) := pss_weak (pss_cons h1 h2) fun E σ H q => by
  obtain ⟨F, A, L, D, lo, hg, p⟩ := q
  exact ⟨F, A, L, _, lo, hg, ⟨fun σ' L' F' A' H' r x l => ⟨F', A', L', D, l, r, p.on x⟩, p.bk, p.ct, p.rt⟩⟩
theorem d_one (h1 : DS X pn st g) : DSs X pn [st] g := pss_weak (pss_one h1) fun E σ H q => q
theorem d_if (hc : DT X pn c ft) (h1 : DSs X pn sts g) (h2 : DSs X pn ss h) : DS X pn (.If c sts ss pos) (dIf ft g h) := ps_weak (ps_if hc h1 h2) fun E σ H q => by
  obtain ⟨F, A, L, D, lo, hg, p⟩ := q
  refine ⟨F, A, L, _, lo, hg, fun x L1 F1 A1 H1 h1 e1 lo1 => ?_⟩
  cases x with
  | true => exact iteT ⟨F1, A1, L1, D, lo1, h1, p.on e1⟩
  | false => exact iteF ⟨F1, A1, L1, D, lo1, h1, p.on e1⟩
theorem d_ret (he : DE X pn e f) : DS X pn (.Return (some e) pos) (dRet f) := ps_weak (ps_ret he) fun E σ H q => by
  obtain ⟨F, A, L, D, lo, hg, p⟩ := q
  exact ⟨F, A, L, _, lo, hg, fun x L1 v F1 A1 H1 h1 e1 lo1 f1 => p.rt x σ L1 v F1 A1 no H1 h1 e1.or_no lo1 (.fr f1) (sane_no lo1.ok.f) fun _ z => z.elim⟩
/-- .. what is returned is owned -/
theorem d_retM (he : DN X pn e f) : DS X pn (.Return (some e) pos) (dRet f) := ps_weak (ps_ret he) fun E σ H q => by
  obtain ⟨F, A, L, D, lo, hg, p⟩ := q
  exact ⟨F, A, L, _, lo, hg, fun x L1 v F1 A1 B H1 h1 e1 lo1 f1 s n => p.rt x σ L1 v F1 A1 B H1 h1 e1 lo1 f1 s n⟩
theorem d_retN : DS X pn (.Return none pos) dRetN := ps_weak ps_retN fun E σ H q => by
  obtain ⟨F, A, L, D, lo, hg, p⟩ := q
  exact p.rt .non σ L .non F A no H hg Ext.refl.or_no lo (.fr .non) (sane_no lo.ok.f) fun _ z => z.elim
theorem d_exp (he : DE X pn e f) (hs : swapsWith e none pos.line X.env = pure false := by rfl) : DS X pn (.Expr e pos) (dExp f) := ps_weak (ps_expr he hs) fun E σ H q => by
  obtain ⟨F, A, L, D, lo, hg, p⟩ := q
  exact ⟨F, A, L, _, lo, hg, fun x L1 v F1 A1 H1 h1 e1 lo1 f1 => p.nx σ L1 F1 A1 H1 h1 e1 lo1⟩
theorem d_doc {x j pos'} : DS X pn (.Expr (.Constant (.str x) j pos) pos') dNil := ps_weak ps_doc fun E σ H q => by
  obtain ⟨F, A, L, D, lo, h, p⟩ := q
  exact p.nx σ L F A H h .refl lo
theorem d_pass : DS X pn (.Pass pos) dNil := ps_weak ps_pass fun E σ H q => by
  obtain ⟨F, A, L, D, lo, h, p⟩ := q
  exact p.nx σ L F A H h .refl lo
theorem d_brk : DS X pn (.Break pos) dBrk := ps_weak ps_break fun E σ H q => by
  obtain ⟨F, A, L, D, lo, h, p⟩ := q
  exact p.bk σ L F A H h .refl lo
theorem d_cnt : DS X pn (.Continue pos) dCnt := ps_weak ps_continue fun E σ H q => by
  obtain ⟨F, A, L, D, lo, h, p⟩ := q
  exact p.ct σ L F A H h .refl lo
/-- the state behind a store to a slot -/
theorem Lo.set {K : PySem.W.Frag} {H : Hp} {F : Fp} {σ : List (Option V)} {L : Ls} {A B : Fp} {i : Nat} {v : V} {d : D} (lo : Lo K H F pn σ L A) (ho : Ow K H F v d B) (s : Sane H F B) (dj : ∀ a, B a → ¬ A a) (hp : (pn.any fun p => p.1 == i) = false) :
    ∃ A', Lo K H F pn (σ.set i (some v)) (L.set i (some d)) A' ∧ ∀ a, A' a → B a ∨ A a := by
  have pin : ∀ p ∈ pn, (σ.set i (some v))[p.1]? = some (some p.2) := fun p h => by
    have : p.1 ≠ i := fun e => by
      have := List.any_eq_false.mp hp p h
      simp [e] at this
    rw [List.getElem?_set_ne (Ne.symm this)]
    exact lo.pin p h
  by_cases hi : i < L.length
  · obtain ⟨A', h1, h2⟩ := lo.loc.set hi ho dj
    exact ⟨A', ⟨h1, ⟨lo.ok.f, fun a z => (h2 a z).elim (s.a a) (lo.ok.a a)⟩, pin⟩, h2⟩
  · have hl := lo.loc.length
    have e0 : L.set i (some d) = L := List.set_eq_of_length_le (by omega)
    have e : σ.set i (some v) = σ := List.set_eq_of_length_le (by omega)
    rw [e, e0]
    exact ⟨A, lo, fun a z => .inr z⟩
theorem d_set {i : Nat} {x : Str} {pos' : Pos} (hN : X.N.Nodup) (hi : X.N[i]? = some x) (hx : Loc X.env.scope x) (hp : (pn.any fun p => p.1 == i) = false) (he : DE X pn e f) (hs : swapsWith e (some (.Name x pos')) pos.line X.env = pure false := by rfl) (hf : X.fn x = true ∨ X.env.scope.names.lookup x = some .local := by first | exact .inl rfl | exact .inr rfl | assumption) :
    DS X pn (.Assign [.Name x pos'] e pos) (dSet i f) := ps_weak (ps_set hN hi hx he hs hf) fun E σ H q => by
  obtain ⟨F, A, L, D, lo, hg, p⟩ := q
  refine ⟨F, A, L, _, lo, hg, fun x L1 v F1 A1 H1 h1 e1 lo1 f1 => ?_⟩
  obtain ⟨A', l, s⟩ := lo1.set (.fr f1) (sane_no lo1.ok.f) (fun _ z => z.elim) hp
  exact p.nx _ _ F1 A' H1 h1 (e1.less fun a z => (s a z).elim (fun z => z.elim) id) l
/-- name = what is new and owned -/
theorem d_setM {i : Nat} {x : Str} {pos' : Pos} (hN : X.N.Nodup) (hi : X.N[i]? = some x) (hx : Loc X.env.scope x) (hp : (pn.any fun p => p.1 == i) = false) (he : DN X pn e f) (hs : swapsWith e (some (.Name x pos')) pos.line X.env = pure false := by rfl) (hf : X.fn x = true ∨ X.env.scope.names.lookup x = some .local := by first | exact .inl rfl | exact .inr rfl | assumption) :
    DS X pn (.Assign [.Name x pos'] e pos) (dSet i f) := ps_weak (ps_set hN hi hx he hs hf) fun E σ H q => by
  obtain ⟨F, A, L, D, lo, hg, p⟩ := q
  refine ⟨F, A, L, _, lo, hg, fun x L1 v F1 A1 B H1 h1 e1 lo1 f1 sB n => ?_⟩
  obtain ⟨A', l, s⟩ := lo1.set f1 sB n hp
  exact p.nx _ _ F1 A' H1 h1 (e1.less fun a z => (s a z).symm) l
/-- frozen from here on -/
theorem lo_fz {K : PySem.W.Frag} {H : Hp} {F : Fp} {σ : List (Option V)} {L : Ls} {A : Fp} {i : Nat} {d : D} (lo : Lo K H F pn σ L A) (e : L[i]? = some (some d)) (m : noMo d = true) : ∃ F' A', Lo K H F' pn σ (L.set i (some (fz d))) A' ∧ Ext A H F A' H F' := by
  obtain ⟨v, B, C, h1, h2, h3, h4, h5⟩ := lo.loc.out e
  have sub : ∀ a, F a → or2 F B a := fun _ z => .inl z
  have hl : i < L.length := by
    obtain ⟨z, _⟩ := List.getElem?_eq_some_iff.mp e
    exact z
  have q := LocA.put (d := fz d) (B := no) (h3.keep sub fun _ _ _ e => e) (by rw [List.getElem?_set_self hl]) h1 (.fr (h2.fz sub m fun _ z => .inr z)) fun _ z => z.elim
  rw [List.set_set] at q
  refine ⟨or2 F B, _, ⟨q, ⟨fun a z => z.elim (lo.ok.f a) fun z => (lo.ok.a a ((h4 a).mpr (.inl z))).2, fun a z => ?_⟩, lo.pin⟩, ⟨sub, fun a z => z.imp_right fun z => .inr ((h4 a).mpr (.inl z)), fun a o h _ => h, fun a z => .inl ((h4 a).mpr (.inr (z.resolve_left fun z => z)))⟩⟩
  have z := z.resolve_left fun z => z
  obtain ⟨nf, t⟩ := lo.ok.a a ((h4 a).mpr (.inr z))
  exact ⟨fun y => y.elim nf fun y => h5 a y z, t⟩
theorem d_fz {i : Nat} (h : DSs X pn sts g) : DSs X pn sts (dFz i g) := pss_weak h fun E σ H q => by
  obtain ⟨F, A, L, D, lo, hg, p⟩ := q
  unfold dFz at hg
  split at hg
  · next d e =>
    obtain ⟨F', A', l, x⟩ := lo_fz lo e hg.1
    exact ⟨F', A', _, D, l, hg.2, p.on x⟩
  · exact hg.elim
end

/-! ### targets -/
abbrev FG := D → Ls → (Ls → Prop) → Prop
def lowG (K : PySem.W.Frag) (pn : List (Nat × V)) (js : List Nat) (f : FG) : TG := fun v σ H Q => ∃ F A L d R, Lo K H F pn σ L A ∧ Fr K H F v d ∧ f d L R ∧
  ∀ σ' L' F' A' H', R L' → Ext A H F A' H' F' → Lo K H' F' pn σ' L' A' → (∀ j, j ∉ js → σ'[j]? = σ[j]?) → σ'.length = σ.length → Q σ' H'
def tName (i : Nat) : FG := fun d L Q => Q (L.set i (some d))
abbrev FGs := List D → Ls → (Ls → Prop) → Prop
def lowGs (K : PySem.W.Frag) (pn : List (Nat × V)) (js : List Nat) (f : FGs) : TGs := fun vs σ H Q => ∃ F A L ds R, Lo K H F pn σ L A ∧ FrL K H F vs ds ∧ f ds L R ∧
  ∀ σ' L' F' A' H', R L' → Ext A H F A' H' F' → Lo K H' F' pn σ' L' A' → (∀ j, j ∉ js → σ'[j]? = σ[j]?) → σ'.length = σ.length → Q σ' H'
def tNils : FGs := fun ds L Q => match ds with
  | [] => Q L
  | _ => False
def tConss (f : FG) (g : FGs) : FGs := fun ds L Q => match ds with
  | d :: ds => f d L fun L1 => g ds L1 Q
  | _ => False
def tTupl (n : Nat) (f : FGs) : FG := fun d L Q => match d with
  | .tup ds => ds.length = n ∧ f ds L Q
  | _ => False
section
variable {X : Cx} {pn : List (Nat × V)} {e : Expr} {es : List Expr} {f : FG} {g : FGs} {js ks : List Nat} {pos : Pos}
theorem pg_weak {e : Expr} {t t' : TG} (h : PG X e t) (w : ∀ v σ H Q, t' v σ H Q → t v σ H Q) : PG X e t' := ⟨fun pins s σ H v u Q I r q => h.run pins s σ H v u Q I r (w v σ H Q q)⟩
theorem pgs_weak {e : List Expr} {t t' : TGs} (h : PGs X e t) (w : ∀ v σ H Q, t' v σ H Q → t v σ H Q) : PGs X e t' := ⟨fun pins s σ H v u Q I r q => h.run pins s σ H v u Q I r (w v σ H Q q)⟩
theorem g_name {i : Nat} {x : Str} (hN : X.N.Nodup) (hi : X.N[i]? = some x) (hx : Loc X.env.scope x) (hp : (pn.any fun p => p.1 == i) = false) (hf : X.fn x = true ∨ X.env.scope.names.lookup x = some .local := by first | exact .inl rfl | exact .inr rfl | assumption) : PG X (.Name x pos) (lowG X.K pn [i] (tName i)) := pg_weak (pg_name hN hi hx hf) fun v σ H Q q => by
  obtain ⟨F, A, L, d, R, lo, fr, h, p⟩ := q
  obtain ⟨A', l, s⟩ := lo.set (.fr fr) (sane_no lo.ok.f) (fun _ z => z.elim) hp
  refine p _ _ F A' H h (Ext.refl.less fun a z => (s a z).elim (fun z => z.elim) id) l (fun j hj => ?_) (by rw [List.length_set])
  rw [List.getElem?_set_ne (by simpa [eq_comm] using hj)]
theorem g_nils : PGs X [] (lowGs X.K pn [] tNils) := pgs_weak pgs_nil fun v σ H Q q => by
  obtain ⟨F, A, L, d, R, lo, fr, h, p⟩ := q
  cases fr with
  | nil => exact ⟨rfl, p σ L F A H h .refl lo (fun _ _ => rfl) rfl⟩
  | cons => exact h.elim
theorem g_conss (h1 : PG X e (lowG X.K pn js f)) (h2 : PGs X es (lowGs X.K pn ks g)) (hs : (assignEach (e :: es) X.env).map (·.2) = assign e X.env :: (assignEach es X.env).map (·.2) := by rfl) : PGs X (e :: es) (lowGs X.K pn (js ++ ks) (tConss f g)) := pgs_weak (pgs_cons h1 h2 hs) fun v σ H Q q => by
  obtain ⟨F, A, L, d, R, lo, fr, h, p⟩ := q
  cases fr with
  | nil => exact h.elim
  | cons f1 fr =>
    refine ⟨_, _, rfl, F, A, L, _, _, lo, f1, h, fun σ1 L1 F1 A1 H1 h1 e1 lo1 u1 n1 => ⟨F1, A1, L1, _, R, lo1, fr.ext lo.ok e1, h1, fun σ2 L2 F2 A2 H2 h2 e2 lo2 u2 n2 => ?_⟩⟩
    refine p σ2 L2 F2 A2 H2 h2 (e1.trans e2) lo2 (fun j hj => ?_) (n2.trans n1)
    rw [List.mem_append, not_or] at hj
    rw [u2 j hj.2, u1 j hj.1]
theorem g_tup {k : Nat} {n : Nat} (hc : X.calm = true) (h : PGs X es (lowGs X.K pn js g)) (hn : (assignEach es X.env).length = n := by rfl) (hst : (assignEach es X.env).findIdx? (·.1) = none := by rfl) : PG X (.Tuple es k pos) (lowG X.K pn js (tTupl n g)) := pg_weak (pg_tup hc h hn hst) fun v σ H Q q => by
  obtain ⟨F, A, L, d, R, lo, fr, h, p⟩ := q
  cases fr with
  | tup f1 h1 r1 => exact ⟨_, _, rfl, SqT.of h1, by rw [r1.length]; exact h.1, F, A, L, _, R, lo, r1, h.2, p⟩
  | _ => exact h.elim
/-- a, b = a frozen tuple -/
def dAsg (f : FE) (t : FG) : FS := fun E L => f L fun d L1 => t d L1 E.nx
theorem d_asg {tg : Expr} {fe : FE} (he : DE X pn e fe) (hg : PG X tg (lowG X.K pn js f)) (hs : swapsWithSole [tg] e pos.line X.env = pure false := by rfl) (hw : swappedStores [tg] e X.env = pure none := by rfl)
    (h1 : (assignEach [tg] X.env).map (·.2) = [assign tg X.env] := by rfl) : DS X pn (.Assign [tg] e pos) (dAsg fe f) := ps_weak (ps_asg he hg hs hw h1) fun E σ H q => by
  obtain ⟨F, A, L, D, lo, hg, p⟩ := q
  exact ⟨F, A, L, _, lo, hg, fun x L1 v F1 A1 H1 h1 e1 lo1 f1 => ⟨F1, A1, L1, x, _, lo1, f1, h1, fun σ' L' F' A' H' r y l _ _ => p.nx σ' L' F' A' H' r (e1.trans y) l⟩⟩
end

/-! ### what is walked -/
structure Later (F : Fp) (H : Hp) (F2 : Fp) (H2 : Hp) : Prop where
  sub : ∀ a, F a → F2 a
  keep : ∀ a o, F a → H a = some o → H2 a = some o
theorem Later.of {A A' : Fp} {H H' : Hp} {F F' : Fp} (s : Sane H F A) (x : Ext A H F A' H' F') : Later F H F' H' := ⟨x.sub, fun a o f e => x.keep a o e fun z => (s.a a z).1 f⟩
theorem Later.trans {F F1 F2 : Fp} {H H1 H2 : Hp} (a : Later F H F1 H1) (b : Later F1 H1 F2 H2) : Later F H F2 H2 := ⟨fun x f => b.sub x (a.sub x f), fun x o f e => b.keep x o (a.sub x f) (a.keep x o f e)⟩
structure WalkD (K : PySem.W.Frag) (H : Hp) (F : Fp) (J : It) (ds : List D) : Prop where
  stop : ∀ H2 F2, Later F H F2 H2 → J.stop ds.length H2
  go : ∀ i H2 F2, Later F H F2 H2 → i < ds.length → J.go i H2
  yld : ∀ i H2 F2 x H3 d, Later F H F2 H2 → J.yld i H2 x H3 → ds[i]? = some d → ∃ F3, Grow H2 F2 H3 F3 ∧ Fr K H3 F3 x d
abbrev FI := Ls → (List D → Ls → Prop) → Prop
def lowI (K : PySem.W.Frag) (pn : List (Nat × V)) (f : FI) : TI := fun σ H R => ∃ F A L RR, Lo K H F pn σ L A ∧ f L RR ∧ ∀ ds L' F' A' H' J, RR ds L' → Ext A H F A' H' F' → Lo K H' F' pn σ L' A' → WalkD K H' F' J ds → R J H'
theorem pi_weak {X : Cx} {tg e : Expr} {t t' : TI} (h : PI X tg e t) (w : ∀ σ H R, t' σ H R → t σ H R) : PI X tg e t' := ⟨fun pins s σ H R I q => h.run pins s σ H R I (w σ H R q)⟩
abbrev DI (X : Cx) (pn : List (Nat × V)) (tg e : Expr) (f : FI) : Prop := PI X tg e (lowI X.K pn f)
theorem walk_list {K : PySem.W.Frag} {H : Hp} {F : Fp} {a : Addr} {vs : List V} {ds : List D} (k : ∀ H2 F2, Later F H F2 H2 → SqL K H2 a vs) (r : FrL K H F vs ds) : WalkD K H F (Itl K a) ds := by
  refine ⟨fun H2 F2 l => ⟨vs, k H2 F2 l, by rw [r.length]; exact Nat.le_refl _⟩, fun i H2 F2 l hi => ⟨vs, vs[i]'(by rw [r.length]; exact hi), k H2 F2 l, by simp⟩, fun i H2 F2 x H3 d l y e => ?_⟩
  obtain ⟨rfl, y⟩ := y
  have e1 := y vs (k _ F2 l)
  obtain ⟨d', e2, fr⟩ := r.get e1
  rw [e] at e2
  cases e2
  exact ⟨F2, .refl, fr.keep l.sub l.keep⟩
theorem walk_tup {K : PySem.W.Frag} {H : Hp} {F : Fp} {a : Addr} {vs : List V} {ds : List D} (k : ∀ H2 F2, Later F H F2 H2 → SqT K H2 a vs) (r : FrL K H F vs ds) : WalkD K H F (Itt K a) ds := by
  refine ⟨fun H2 F2 l => ⟨vs, k H2 F2 l, by rw [r.length]; exact Nat.le_refl _⟩, fun i H2 F2 l hi => ⟨vs, vs[i]'(by rw [r.length]; exact hi), k H2 F2 l, by simp⟩, fun i H2 F2 x H3 d l y e => ?_⟩
  obtain ⟨rfl, y⟩ := y
  have e1 := y vs (k _ F2 l)
  obtain ⟨d', e2, fr⟩ := r.get e1
  rw [e] at e2
  cases e2
  exact ⟨F2, .refl, fr.keep l.sub l.keep⟩
theorem walk_range {K : PySem.W.Frag} {H : Hp} {F : Fp} {lo : Int} {n : Nat} : WalkD K H F (Itr lo n) ((List.range n).map fun i => .int (lo + (i : Nat))) := by
  refine ⟨fun H2 F2 l => by simp [Itr], fun i H2 F2 l hi => by simpa [Itr] using hi, fun i H2 F2 x H3 d l y e => ?_⟩
  obtain ⟨rfl, rfl⟩ := y
  rw [List.getElem?_map] at e
  cases q : (List.range n)[i]? with
  | none => rw [q] at e; cases e
  | some j =>
    rw [q] at e
    obtain ⟨h1, h2⟩ := List.getElem?_eq_some_iff.mp q
    rw [List.getElem_range] at h2
    subst h2
    cases e
    exact ⟨F2, .refl, .int _⟩
section
variable {X : Cx} {pn : List (Nat × V)} {tg e e2 : Expr} {es : List Expr} {fe : FE} {ga : FA} {p pos : Pos}
/-- a list or a tuple -/
def iSeq (f : FE) : FI := fun L Q => f L fun x L1 => match x with
  | .lst ds => Q ds L1
  | .tup ds => Q ds L1
  | .scr ns => Q (ns.map .int) L1
  | .ptu ns => Q (ns.map .int) L1
  | _ => False
theorem i_seq (he : DE X pn e fe) : DI X pn tg e (iSeq fe) := by
  refine ⟨fun pins s σ H R I h => ?_⟩
  obtain ⟨F, A, L, RR, lo, h, p⟩ := h
  let Q : VK := fun v H1 => ∃ a J, v = .ref a ∧ ((J = Itl X.K a ∧ ∃ xs, SqL X.K H1 a xs) ∨ (J = Itt X.K a ∧ ∃ xs, SqT X.K H1 a xs)) ∧ R J H1
  have q : low X.K pn fe σ H Q := by
    refine ⟨F, A, L, _, lo, h, fun x L1 v F1 A1 H1 h1 e1 lo1 f1 => ?_⟩
    cases f1 with
    | lst f h r => exact ⟨_, _, rfl, .inl ⟨rfl, _, SqL.of h⟩, p _ L1 F1 A1 H1 _ h1 e1 lo1 (walk_list (fun H2 F2 l => SqL.of (l.keep _ _ f h)) r)⟩
    | tup f h r => exact ⟨_, _, rfl, .inr ⟨rfl, _, SqT.of h⟩, p _ L1 F1 A1 H1 _ h1 e1 lo1 (walk_tup (fun H2 F2 l => SqT.of (l.keep _ _ f h)) r)⟩
    | ptu f h => exact ⟨_, _, rfl, .inr ⟨rfl, _, h.sq⟩, p _ L1 F1 A1 H1 _ h1 e1 lo1 (walk_tup (fun H2 F2 l => (let ⟨o, e, c, d⟩ := h; NR.TupP.sq ⟨o, l.keep _ _ f e, c, d⟩)) .ints)⟩
    | scr f h => exact ⟨_, _, rfl, .inl ⟨rfl, _, .inl h⟩, p _ L1 F1 A1 H1 _ h1 e1 lo1 (walk_list (fun H2 F2 l => .inl (rd_keep (fun o => l.keep _ o f) h)) .ints)⟩
    | scrK h => exact ⟨_, _, rfl, .inl ⟨rfl, _, h H1⟩, p _ L1 F1 A1 H1 _ h1 e1 lo1 (walk_list (fun H2 F2 l => h H2) .ints)⟩
    | _ => exact h1.elim
  refine thn (he.run pins s σ H _ I q) fun v s1 ⟨x, H1, I1, r1, a, J, ex, hJ, q1⟩ => ?_
  subst ex
  cases r1
  rcases hJ with ⟨rfl, xs, hq⟩ | ⟨rfl, xs, hq⟩
  · obtain ⟨its, rv, p, hz⟩ := I1.list hq
    refine wpAny_pyIter_list p.isList ?_
    refine ⟨s1.heap.objs.size, [s1.heap.objs.size], _, _, H1, rfl, I1.kept (t' := s1.toks) fun b o e => Heap.get?_push_of_some _ e, turn_list a _, ⟨_, Heap.get?_push_size _ rfl, rfl, rfl⟩, fun b hb => ?_, q1⟩
    have e : b = s1.heap.objs.size := by simpa using hb
    subst e
    exact I1.fpOk (Nat.le_refl _) (I1.hok.fresh (Nat.le_refl _))
  · obtain ⟨its, rv, p, hz⟩ := I1.tuple hq
    refine wpAny_pyIter_tuple (show s1.heap.IsTuple a its.toArray from p) ?_
    refine ⟨s1.heap.objs.size, [s1.heap.objs.size], _, _, H1, rfl, I1.kept (t' := s1.toks) fun b o e => Heap.get?_push_of_some _ e, turn_tuple a _, ⟨_, Heap.get?_push_size _ rfl, rfl, rfl⟩, fun b hb => ?_, q1⟩
    have e : b = s1.heap.objs.size := by simpa using hb
    subst e
    exact I1.fpOk (Nat.le_refl _) (I1.hok.fresh (Nat.le_refl _))
/-- range(n), range(a, b) -/
def rng (lo hi : Int) : List D := (List.range (hi - lo).toNat).map fun i => .int (lo + (i : Nat))
def iRange1 (f : FA) : FI := fun L Q => f L fun xs L1 => match xs with
  | [.int j] => -(2 ^ 62) ≤ j ∧ j < 2 ^ 62 ∧ Q (rng 0 j) L1
  | _ => False
def iRange2 (f : FA) : FI := fun L Q => f L fun xs L1 => match xs with
  | [.int i, .int j] => (-(2 ^ 62) ≤ i ∧ i < 2 ^ 62 ∧ -(2 ^ 62) ≤ j ∧ j < 2 ^ 62) ∧ Q (rng i j) L1
  | _ => False
theorem i_range1 (hg : Gl X "range") (hm : X.mg "range" = none) (ha : DA X pn [e] ga) (hs : starEach [e] X.env = [(false, eval e X.env)] := by rfl) : DI X pn tg (.Call (.Name "range" p) [e] [] pos) (iRange1 ga) :=
  pi_weak (pi_range1 hg hm (pa_weak ha fun _ _ _ h => h) hs) fun σ H R q => by
    obtain ⟨F, A, L, RR, lo, h, p⟩ := q
    refine ⟨F, A, L, _, lo, h, fun x L1 v F1 A1 H1 h1 e1 lo1 f1 => ?_⟩
    match x, h1, f1 with
    | [.int j], h1, f1 =>
      obtain ⟨v, rfl, fv⟩ := f1.one
      cases fv
      have w := p _ L1 F1 A1 H1 (Itr 0 j.toNat) h1.2.2 e1 lo1 (by unfold rng; rw [Int.sub_zero]; exact walk_range)
      exact ⟨j, rfl, h1.1, h1.2.1, w⟩
theorem i_range2 (hg : Gl X "range") (hm : X.mg "range" = none) (ha : DA X pn [e, e2] ga) (hs : starEach [e, e2] X.env = [(false, eval e X.env), (false, eval e2 X.env)] := by rfl) (hs2 : starEach [e2] X.env = [(false, eval e2 X.env)] := by rfl) : DI X pn tg (.Call (.Name "range" p) [e, e2] [] pos) (iRange2 ga) :=
  pi_weak (pi_range2 hg hm (pa_weak ha fun _ _ _ h => h) hs hs2) fun σ H R q => by
    obtain ⟨F, A, L, RR, lo, h, p⟩ := q
    refine ⟨F, A, L, _, lo, h, fun x L1 v F1 A1 H1 h1 e1 lo1 f1 => ?_⟩
    match x, h1, f1 with
    | [.int i, .int j], h1, f1 =>
      obtain ⟨v, u, rfl, f1, f2⟩ := f1.two
      cases f1
      cases f2
      have w := p _ L1 F1 A1 H1 (Itr i (j - i).toNat) h1.2 e1 lo1 walk_range
      exact ⟨i, j, rfl, h1.1, w⟩
end
end DL

/-! Loops and comprehensions. -/
namespace DL
open PySem PySem.Spec PyProof.Rows L2

def wipeD (L : Ls) : List Nat → Ls
  | [] => L
  | v :: vs => (wipeD L vs).set v none
theorem LocA.wipes {K : PySem.W.Frag} {H : Hp} {F A : Fp} {σ : List (Option V)} {L : Ls} (h : LocA K H F σ L A) : ∀ vs : List Nat, ∃ C, LocA K H F σ (wipeD L vs) C ∧ ∀ a, C a → A a
  | [] => ⟨A, h, fun _ z => z⟩
  | v :: vs => by
    obtain ⟨C, h1, s1⟩ := LocA.wipes h vs
    obtain ⟨B, h2, s2⟩ := h1.drop (i := v)
    exact ⟨B, h2, fun a z => s1 a (s2 a z)⟩
theorem Lo.wipes {K : PySem.W.Frag} {pn : List (Nat × V)} {H : Hp} {F A : Fp} {σ : List (Option V)} {L : Ls} (lo : Lo K H F pn σ L A) (vs : List Nat) : ∃ C, Lo K H F pn σ (wipeD L vs) C ∧ Ext A H F C H F := by
  obtain ⟨C, h1, s⟩ := lo.loc.wipes vs
  exact ⟨C, ⟨h1, ⟨lo.ok.f, fun a z => lo.ok.a a (s a z)⟩, lo.pin⟩, Ext.refl.less s⟩
/-- a loop by its word: P i where i turns are done; the slots js are the loop's own, forgotten at each turn -/
def dFor (js : List Nat) (fi : FI) (t : FG) (b : FS) : FS := fun E L => fi L fun ds L1 => ∃ P : Nat → Ls → Prop, P 0 (wipeD L1 js) ∧
  (∀ i d L, ds[i]? = some d → P i L → t d L fun L2 => b { nx := fun L3 => P (i + 1) (wipeD L3 js), ct := fun L3 => P (i + 1) (wipeD L3 js), bk := fun L3 => E.nx (wipeD L3 js), rt := E.rt } L2) ∧ ∀ L, P ds.length L → E.nx L
def dWhile (js : List Nat) (c : FT) (b : FS) : FS := fun E L => ∃ W : Nat → Ls → Prop, (∃ m, W m (wipeD L js)) ∧ ∀ m L, W m L → c L fun t L1 =>
  bif t then b { nx := fun L2 => ∃ m', m' < m ∧ W m' (wipeD L2 js), ct := fun L2 => ∃ m', m' < m ∧ W m' (wipeD L2 js), bk := fun L2 => E.nx (wipeD L2 js), rt := E.rt } L1 else E.nx L1
section
variable {X : Cx} {pn : List (Nat × V)} {tg e iter : Expr} {body : List Stmt} {fi : FI} {t : FG} {b : FS} {ft : FT} {js : List Nat} {pos : Pos}
theorem d_for (ws : List Nat) (hp : PassesOwn (model X.prog X.w) X.A X.env X.xe) (hc : X.calm = true) (hi : DI X pn tg iter fi) (hg : PG X tg (lowG X.K pn js t)) (hb : DSs X pn body b)
    (hs : ∀ x, foldedSetIterable iter X.env x = pure x := by intro _; rfl) : DS X pn (.For tg iter body [] pos) (dFor ws fi t b) := ps_weak (ps_for hp hc hi hg hb hs) fun E σ H q => by
  obtain ⟨F, A, L, D, lo, hg, p⟩ := q
  refine ⟨F, A, L, _, lo, hg, fun ds L1 F1 A1 H1 J h1 e1 lo1 w => ?_⟩
  obtain ⟨P, h0, step, fin⟩ := h1
  obtain ⟨A0, lo0, x0⟩ := lo1.wipes ws
  refine ⟨fun i m σ' H' => m = ds.length - i ∧ i ≤ ds.length ∧ ∃ F' A' L', Lo X.K H' F' pn σ' L' A' ∧ Ext A1 H1 F1 A' H' F' ∧ P i L', ⟨_, rfl, Nat.zero_le _, F1, A0, _, lo0, x0, h0⟩, ?_⟩
  rintro i m σ2 H2 ⟨rfl, hi, F2, A2, L2, lo2, e2, h2⟩
  have lt := Later.of lo1.ok e2
  by_cases hlt : i < ds.length
  · refine .inr ⟨w.go i H2 F2 lt hlt, fun σ' H' => (i + 1) ≤ ds.length ∧ ∃ F' A' L', Lo X.K H' F' pn σ' L' A' ∧ Ext A1 H1 F1 A' H' F' ∧ P (i + 1) L', fun σ' H' z => ⟨_, by omega, rfl, z.1, z.2⟩, fun x H3 y => ?_⟩
    have ed : ds[i]? = some ds[i] := List.getElem?_eq_getElem hlt
    obtain ⟨F3, gr, fr⟩ := w.yld i H2 F2 x H3 _ lt y ed
    refine ⟨F3, A2, L2, _, _, gr.lo lo2, fr, step i _ L2 ed h2, fun σ4 L4 F4 A4 H4 h4 e4 lo4 _ _ => ⟨F4, A4, L4, _, lo4, h4, ?_⟩⟩
    have e14 : Ext A1 H1 F1 A4 H4 F4 := (e2.trans gr.ext).trans e4
    have again : ∀ σ' L' F' A' H', P (i + 1) (wipeD L' ws) → Ext A4 H4 F4 A' H' F' → Lo X.K H' F' pn σ' L' A' → (i + 1) ≤ ds.length ∧ ∃ F' A' L', Lo X.K H' F' pn σ' L' A' ∧ Ext A1 H1 F1 A' H' F' ∧ P (i + 1) L' := fun σ' L' F' A' H' r x l => by
      obtain ⟨C, lw, xw⟩ := l.wipes ws
      exact ⟨hlt, F', C, _, lw, (e14.trans x).trans xw, r⟩
    refine ⟨again, fun σ' L' F' A' H' r x l => ?_, again, fun d σ' L' v F' A' B H' r x l f s n => p.rt d σ' L' v F' A' B H' r ((e1.trans e14).trans x) l f s n⟩
    obtain ⟨C, lw, xw⟩ := l.wipes ws
    exact p.nx σ' _ F' C H' r (((e1.trans e14).trans x).trans xw) lw
  · have e : i = ds.length := by omega
    subst e
    exact .inl ⟨w.stop H2 F2 lt, p.nx σ2 L2 F2 A2 H2 (fin L2 h2) (e1.trans e2) lo2⟩
theorem d_while (ws : List Nat) (hp : PassesOwn (model X.prog X.w) X.A X.env X.xe) (hc : DT X pn e ft) (hb : DSs X pn body b) : DS X pn (.While e body [] pos) (dWhile ws ft b) := ps_weak (ps_while hp hc hb) fun E σ H q => by
  obtain ⟨F, A, L, D, lo, ⟨W, ⟨m0, w0⟩, turn⟩, p⟩ := q
  obtain ⟨A0, lo0, x0⟩ := lo.wipes ws
  refine ⟨fun m σ' H' => ∃ F' A' L', Lo X.K H' F' pn σ' L' A' ∧ Ext A H F A' H' F' ∧ W m L', ⟨m0, F, A0, _, lo0, x0, w0⟩, ?_⟩
  rintro m σ2 H2 ⟨F2, A2, L2, lo2, e2, w2⟩
  refine ⟨F2, A2, L2, _, lo2, turn m L2 w2, fun x L3 F3 A3 H3 h3 e3 lo3 => ?_⟩
  have e13 := e2.trans e3
  cases x with
  | true =>
    have again : ∀ σ' L' F' A' H', (∃ m', m' < m ∧ W m' (wipeD L' ws)) → Ext A3 H3 F3 A' H' F' → Lo X.K H' F' pn σ' L' A' → ∃ m', m' < m ∧ ∃ F' A' L', Lo X.K H' F' pn σ' L' A' ∧ Ext A H F A' H' F' ∧ W m' L' := fun σ' L' F' A' H' ⟨m', hm, r⟩ x l => by
      obtain ⟨C, lw, xw⟩ := l.wipes ws
      exact ⟨m', hm, F', C, _, lw, (e13.trans x).trans xw, r⟩
    refine iteT ⟨fun σ' H' => ∃ m', m' < m ∧ ∃ F' A' L', Lo X.K H' F' pn σ' L' A' ∧ Ext A H F A' H' F' ∧ W m' L', fun σ' H' z => z, F3, A3, L3, _, lo3, h3, ?_⟩
    refine ⟨again, fun σ' L' F' A' H' r x l => ?_, again, fun d σ' L' v F' A' B H' r x l f s n => p.rt d σ' L' v F' A' B H' r (e13.trans x) l f s n⟩
    obtain ⟨C, lw, xw⟩ := l.wipes ws
    exact p.nx σ' _ F' C H' r ((e13.trans x).trans xw) lw
  | false => exact iteF (p.nx σ2 L3 F3 A3 H3 h3 e13 lo3)
end

/-! ### comprehensions -/
/-- the slots as they were, where they are frozen -/
def backD (L0 : Ls) (L : Ls) : List Nat → Ls
  | [] => L
  | v :: vs => (backD L0 L vs).set v (match L0[v]? with
    | some (some d) => bif isFr d then some d else none
    | _ => none)
/-- a comprehension by its word: P i acc where i turns are done and acc is made -/
def LcW (vs : List Nat) (t : FG) (c : FT) (f : FE) (ds : List D) (P : Nat → List D → Ls → Prop) : Prop := ∀ i d acc L, ds[i]? = some d → P i acc L → t d L fun L2 => c L2 fun b L3 => bif b then f L3 fun x L4 => P (i + 1) (acc ++ [x]) (wipeD L4 vs) else P (i + 1) acc (wipeD L3 vs)
def dLc (vs : List Nat) (fi : FI) (t : FG) (c : FT) (f : FE) (mk : List D → D) : FE := fun L Q => fi L fun ds L1 => ds.length ≤ sizeLine ∧ ∃ P : Nat → List D → Ls → Prop, P 0 [] (wipeD L1 vs) ∧ LcW vs t c f ds P ∧ ∀ acc L2, P ds.length acc L2 → Q (mk acc) (backD L1 L2 vs)
def dYes : FT := fun L Q => Q true L
section
variable {K : PySem.W.Frag} {pn : List (Nat × V)} {H : Hp} {F A : Fp}
theorem wipeD_length (L : Ls) : ∀ vs : List Nat, (wipeD L vs).length = L.length
  | [] => rfl
  | v :: vs => by rw [wipeD, List.length_set, wipeD_length L vs]
/-- slots are forgotten -/
theorem LocA.wipe {σ : List (Option V)} {L : Ls} (h : LocA K H F σ L A) : ∀ vs : List Nat, ∃ C, LocA K H F (wipe σ vs) (wipeD L vs) C ∧ ∀ a, C a → A a
  | [] => ⟨A, h, fun _ z => z⟩
  | v :: vs => by
    obtain ⟨C, h1, s1⟩ := LocA.wipe h vs
    obtain ⟨B, h2, s2⟩ := h1.drop (i := v)
    refine ⟨B, ?_, fun a z => s1 a (s2 a z)⟩
    unfold L2.wipe wipeD
    by_cases hv : v < (wipeD L vs).length
    · exact h2.any (.inl (by rw [List.getElem?_set_self hv]))
    · exact h2.any (.inr (by rw [List.length_set]; omega))
theorem Lo.wipe {σ : List (Option V)} {L : Ls} (lo : Lo K H F pn σ L A) (vs : List Nat) (hp : vs.all (fun v => !pn.any fun p => p.1 == v) = true) : ∃ C, Lo K H F pn (wipe σ vs) (wipeD L vs) C ∧ ∀ a, C a → A a := by
  obtain ⟨C, h1, s⟩ := lo.loc.wipe vs
  refine ⟨C, ⟨h1, ⟨lo.ok.f, fun a z => lo.ok.a a (s a z)⟩, fun p hpn => ?_⟩, s⟩
  have : ∀ vs : List Nat, vs.all (fun v => !pn.any fun p => p.1 == v) = true → (L2.wipe σ vs)[p.1]? = some (some p.2) := by
    intro vs
    induction vs with
    | nil => intro _; exact lo.pin p hpn
    | cons v vs ih =>
      intro h
      rw [List.all_cons, Bool.and_eq_true] at h
      have hn : p.1 ≠ v := fun e => by
        have z : (pn.any fun p => p.1 == v) = true := List.any_eq_true.mpr ⟨p, hpn, by simp [e]⟩
        rw [z] at h
        exact absurd h.1 (by decide)
      unfold L2.wipe
      rw [List.getElem?_set_ne (Ne.symm hn)]
      exact ih h.2
  exact this vs hp
/-- .. again, over slots that are wiped already -/
theorem wipe_idem {σ2 σ : L2.St} {vs : List Nat} (h : ∀ j, j ∉ vs → σ2[j]? = σ[j]?) (hl : σ2.length = σ.length) : wipe σ2 vs = wipe σ vs := by
  apply List.ext_getElem?
  intro j
  by_cases hj : j ∈ vs
  · have : ∀ (σ : L2.St) (vs : List Nat), j ∈ vs → (wipe σ vs)[j]? = if j < σ.length then some none else none := by
      intro σ vs
      induction vs with
      | nil => intro h; cases h
      | cons v vs ih =>
        intro h
        unfold wipe
        rw [List.getElem?_set]
        by_cases e : v = j
        · rw [if_pos e, e, wipe_length]
        · rw [if_neg e]
          exact ih ((List.mem_cons.mp h).resolve_left (Ne.symm e))
    rw [this σ2 vs hj, this σ vs hj, hl]
  · have : ∀ (σ : L2.St) (vs : List Nat), j ∉ vs → (wipe σ vs)[j]? = σ[j]? := by
      intro σ vs
      induction vs with
      | nil => intro _; rfl
      | cons v vs ih =>
        intro h
        unfold wipe
        rw [List.getElem?_set_ne (fun e => h (by rw [e]; exact List.mem_cons_self ..))]
        exact ih fun z => h (List.mem_cons_of_mem _ z)
    rw [this σ2 vs hj, this σ vs hj, h j hj]
theorem wipe_twice (σ : L2.St) (vs : List Nat) : wipe (wipe σ vs) vs = wipe σ vs := wipe_idem (fun j hj => by
    induction vs with
    | nil => rfl
    | cons v vs ih =>
      unfold wipe
      rw [List.getElem?_set_ne (fun e => hj (by rw [e]; exact List.mem_cons_self ..))]
      exact ih fun z => hj (List.mem_cons_of_mem _ z)) (wipe_length σ vs)
/-- and put back -/
theorem LocA.back {H0 : Hp} {F0 A0 : Fp} {σ : List (Option V)} {L0 : Ls} (h0 : LocA K H0 F0 σ L0 A0) (lt : Later F0 H0 F H) : ∀ {vs : List Nat} {L : Ls}, LocA K H F (L2.wipe σ vs) L A → (∀ v ∈ vs, L[v]? = some none ∨ L.length ≤ v) →
    ∃ C, LocA K H F σ (backD L0 L vs) C ∧ ∀ a, C a → A a := by
  -- every slot of vs may hold what it held
  have any : ∀ {vs : List Nat} {L : Ls}, LocA K H F (L2.wipe σ vs) L A → (∀ v ∈ vs, L[v]? = some none ∨ L.length ≤ v) → LocA K H F σ L A := by
    intro vs
    induction vs with
    | nil => intro L h _; exact h
    | cons v vs ih =>
      intro L h hn
      unfold L2.wipe at h
      refine ih ?_ fun u hu => hn u (List.mem_cons_of_mem _ hu)
      have q := h.any (i := v) (s := (L2.wipe σ vs)[v]?.getD none) (hn v (List.mem_cons_self ..))
      rw [List.set_set] at q
      have e : (L2.wipe σ vs).set v ((L2.wipe σ vs)[v]?.getD none) = L2.wipe σ vs := by
        apply List.ext_getElem?
        intro j
        rw [List.getElem?_set]
        split
        · next e =>
          subst e
          split
          · next hl => rw [List.getElem?_eq_getElem hl]; rfl
          · next hl => rw [List.getElem?_eq_none (by omega)]
        · rfl
      rw [e] at q
      exact q
  intro vs L h hn
  have h1 := any h hn
  have go : ∀ us : List Nat, ∃ C, LocA K H F σ (backD L0 L us) C ∧ ∀ a, C a → A a := by
    intro us
    induction us with
    | nil => exact ⟨A, h1, fun _ z => z⟩
    | cons v us ih =>
      obtain ⟨C, hC, s⟩ := ih
      obtain ⟨B, hB, s2⟩ := hC.drop (i := v)
      unfold backD
      split
      · next d e =>
        cases hd : isFr d with
        | false => exact ⟨B, hB, fun a z => s a (s2 a z)⟩
        | true =>
          obtain ⟨w, B0, e1, o1, _⟩ := h0.get e
          have fr := (o1.isFr hd).keep lt.sub lt.keep
          by_cases hv : v < (backD L0 L us).length
          · have q := LocA.put hB (by rw [List.getElem?_set_self hv]) e1 (.fr fr) fun _ z => z.elim
            rw [List.set_set] at q
            exact ⟨_, q, fun a z => s a (s2 a (z.resolve_left fun z => z))⟩
          · refine ⟨B, ?_, fun a z => s a (s2 a z)⟩
            have : (backD L0 L us).set v (some d) = (backD L0 L us).set v none := by rw [List.set_eq_of_length_le (by omega), List.set_eq_of_length_le (by omega)]
            show LocA K H F σ ((backD L0 L us).set v (some d)) B
            rw [this]
            exact hB
      · exact ⟨B, hB, fun a z => s a (s2 a z)⟩
  exact go vs
theorem wipeD_none {L : Ls} : ∀ {vs : List Nat} {v : Nat}, v ∈ vs → (wipeD L vs)[v]? = some none ∨ (wipeD L vs).length ≤ v
  | [], v, h => by cases h
  | u :: vs, v, h => by
    unfold wipeD
    by_cases hl : v < ((wipeD L vs).set u none).length
    · left
      rw [List.length_set] at hl
      rw [List.getElem?_set]
      by_cases e : u = v
      · rw [if_pos e, e, if_pos hl]
      · rw [if_neg e]
        exact (wipeD_none ((List.mem_cons.mp h).resolve_left (Ne.symm e))).resolve_right (by omega)
    · right; omega
/-- the list of a comprehension, as it is filled -/
structure LcAt (K : PySem.W.Frag) (pn : List (Nat × V)) (σ : L2.St) (H : Hp) (F A : Fp) (L : Ls) (p : Addr) (acc : List D) : Prop where
  lo : Lo K H F pn σ L A
  at_ : ∃ vacc, H p = some (.lst vacc) ∧ FrL K H F vacc acc
  nf : ¬ F p
  na : ¬ A p
/-- a comprehension's reading -/
theorem low_lc {vs : List Nat} {fi : FI} {t : FG} {c : FT} {f : FE} {js : List Nat} {σ : L2.St} {H : Hp} {Q : VK} {mk : List D → D} (hj : ∀ j ∈ js, j ∈ vs) (hp : vs.all (fun v => !pn.any fun p => p.1 == v) = true)
    (q : ∃ F A L R, Lo K H F pn σ L A ∧ dLc vs fi t c f mk L R ∧ ∀ acc L' v F' A' p H', R (mk acc) L' → Ext A H F (or2 A' (fun x => x = p)) H' F' → Lo K H' F' pn σ L' A' → (∃ vacc, H' p = some (.lst vacc) ∧ FrL K H' F' vacc acc) → ¬ F' p → ¬ A' p → v = .ref p → Q v H') :
    tLc (lowI K pn fi) (lowG K pn js t) (lowT K pn c) (low K pn f) vs σ H Q := by
  obtain ⟨F, A, L, R, lo, h, post⟩ := q
  refine ⟨F, A, L, _, lo, h, fun ds L1 F1 A1 H1 J h1 e1 lo1 w p np => ?_⟩
  obtain ⟨hlen, W, h0, step, fin⟩ := h1
  obtain ⟨C1, low1, s1⟩ := lo1.wipe vs hp
  obtain ⟨nF, nA⟩ := lo1.ok.new np
  have k1 : ∀ a o, H1 a = some o → upd H1 p (.lst []) a = some o := fun a o e => by rw [upd_ne (ne_of_none e np)]; exact e
  have lo1' : Lo K (upd H1 p (.lst [])) F1 pn (wipe σ vs) (wipeD L1 vs) C1 := ⟨low1.loc.keep (fun _ z => z) fun a o _ => k1 a o, ⟨fun a z => by obtain ⟨o, e⟩ := low1.ok.f a z; exact ⟨o, k1 a o e⟩, fun a z => by obtain ⟨nf, o, e⟩ := low1.ok.a a z; exact ⟨nf, o, k1 a o e⟩⟩, low1.pin⟩
  refine ⟨fun i m H' => m = ds.length - i ∧ i ≤ ds.length ∧ ∃ F' A' L' acc, LcAt K pn (wipe σ vs) H' F' A' L' p acc ∧ acc.length ≤ i ∧ Ext A1 H1 F1 (or2 A' (fun x => x = p)) H' F' ∧ (∀ v ∈ vs, L'[v]? = some none ∨ L'.length ≤ v) ∧ W i acc L',
    ⟨_, rfl, Nat.zero_le _, F1, C1, wipeD L1 vs, [], ⟨lo1', ⟨[], upd_same, .nil⟩, nF, fun z => nA (s1 p z)⟩, Nat.le_refl _, ⟨fun _ z => z, fun _ z => .inl z, fun a o e _ => k1 a o e, fun a z => z.elim (fun z => .inl (s1 a z)) fun z => .inr (by rw [z]; exact np)⟩, fun v hv => wipeD_none hv, h0⟩, ?_⟩
  rintro i m H2 ⟨rfl, hi, F2, A2, L2, acc, ⟨lo2, ⟨vacc, eacc, facc⟩, nf2, na2⟩, hacc, e2, hw2, h2⟩
  have lt : Later F1 H1 F2 H2 := Later.of lo1.ok e2
  by_cases hlt : i < ds.length
  · refine .inr ⟨w.go i H2 F2 lt hlt, fun H' => (i + 1) ≤ ds.length ∧ ∃ F' A' L' acc, LcAt K pn (wipe σ vs) H' F' A' L' p acc ∧ acc.length ≤ i + 1 ∧ Ext A1 H1 F1 (or2 A' (fun x => x = p)) H' F' ∧ (∀ v ∈ vs, L'[v]? = some none ∨ L'.length ≤ v) ∧ W (i + 1) acc L',
      fun H' z => ⟨_, by omega, rfl, z.1, z.2⟩, fun x H3 y => ?_⟩
    have ed : ds[i]? = some ds[i] := List.getElem?_eq_getElem hlt
    obtain ⟨F3, gr, fr⟩ := w.yld i H2 F2 x H3 _ lt y ed
    have nf3 : ¬ F3 p := fun z => (gr.new p z).elim nf2 fun n => by rw [n] at eacc; cases eacc
    refine ⟨F3, A2, L2, _, _, gr.lo lo2, fr, step i _ acc L2 ed h2, fun σ4 L4 F4 A4 H4 h4 e4 lo4 u4 n4 => ?_⟩
    have keepP : ∀ {F A F' A' : Fp} {H H' : Hp}, Ext A H F A' H' F' → ¬ F p → ¬ A p → (∃ o, H p = some o) → ¬ F' p ∧ ¬ A' p := fun x nf na ⟨o, e⟩ => by
      refine ⟨fun z => ?_, fun z => ?_⟩
      · rcases x.new p z with z | z | z
        · exact nf z
        · rw [e] at z; cases z
        · exact na z
      · rcases x.own p z with z | z
        · exact na z
        · rw [e] at z; cases z
    have ep3 : H3 p = some (.lst vacc) := gr.keep _ _ eacc
    have ep4 : H4 p = some (.lst vacc) := e4.keep _ _ ep3 na2
    obtain ⟨nf4, na4⟩ := keepP e4 nf3 na2 ⟨_, ep3⟩
    have f3 := (facc.grow gr).ext (gr.lo lo2).ok e4
    have wipe4 : wipe σ4 vs = wipe (wipe σ vs) vs := wipe_idem (fun j hj' => u4 j fun z => hj' (hj j z)) n4
    have wipe5 := wipe4.trans (wipe_twice σ vs)
    refine ⟨wipe5, F4, A4, L4, _, lo4, h4, fun b L5 F5 A5 H5 h5 e5 lo5 => ?_⟩
    have ep5 : H5 p = some (.lst vacc) := e5.keep _ _ ep4 na4
    obtain ⟨nf5, na5⟩ := keepP e5 nf4 na4 ⟨_, ep4⟩
    have f5 := f3.ext lo4.ok e5
    have up : ∀ {A A' : Fp} {H H' : Hp} {F F' : Fp}, Ext A H F A' H' F' → Ext (or2 A fun x => x = p) H F (or2 A' fun x => x = p) H' F' := fun x =>
      ⟨x.sub, fun a z => (x.new a z).imp_right fun z => z.imp_right .inl, fun a o e n => x.keep a o e fun z => n (.inl z), fun a z => z.elim (fun z => (x.own a z).imp_left .inl) fun z => .inl (.inr z)⟩
    have e15 : Ext A1 H1 F1 (or2 A5 fun x => x = p) H5 F5 := ((e2.trans gr.ext).trans (up e4)).trans (up e5)
    cases b with
    | true =>
      refine iteT ⟨F5, A5, L5, _, lo5, h5, fun y L6 v6 F6 A6 H6 h6 e6 lo6 fy => ?_⟩
      have ep6 : H6 p = some (.lst vacc) := e6.keep _ _ ep5 na5
      obtain ⟨nf6, na6⟩ := keepP e6 nf5 na5 ⟨_, ep5⟩
      have f6 := f5.ext lo5.ok e6
      refine ⟨vacc, ep6, ?_, hlt, F6, ?_⟩
      · rw [f6.length]; omega
      · obtain ⟨C6, lo6w, s6⟩ := lo6.wipe vs hp
        rw [wipe5] at lo6w
        have k6 : ∀ a o, F6 a ∨ C6 a → H6 a = some o → upd H6 p (.lst (vacc ++ [v6])) a = some o := fun a o z e => by
          rw [upd_ne fun e' => ?_]
          · exact e
          · subst e'
            exact z.elim nf6 fun z => na6 (s6 _ z)
        refine ⟨C6, wipeD L6 vs, acc ++ [y], ⟨⟨lo6w.loc.keep (fun _ z => z) k6, ⟨fun a z => ?_, fun a z => ?_⟩, lo6w.pin⟩, ⟨_, upd_same, ?_⟩, nf6, fun z => na6 (s6 _ z)⟩, by rw [List.length_append]; exact Nat.succ_le_succ hacc, ?_, fun v hv => wipeD_none hv, h6⟩
        · obtain ⟨o, e⟩ := lo6w.ok.f a z
          exact ⟨o, k6 a o (.inl z) e⟩
        · obtain ⟨nf, o, e⟩ := lo6w.ok.a a z
          exact ⟨nf, o, k6 a o (.inr z) e⟩
        · exact (f6.append (.cons fy .nil)).keep (fun _ z => z) fun a o z e => k6 a o (.inl z) e
        · refine e15.trans ((up e6).trans ⟨fun _ z => z, fun _ z => .inl z, fun a o e n => ?_, fun a z => .inl (z.imp_left (s6 a))⟩)
          rw [upd_ne fun z => n (.inr z)]
          exact e
    | false =>
      obtain ⟨C5, lo5w, s5⟩ := lo5.wipe vs hp
      rw [wipe5] at lo5w
      exact iteF ⟨hlt, F5, C5, wipeD L5 vs, acc, ⟨lo5w, ⟨vacc, ep5, f5⟩, nf5, fun z => na5 (s5 _ z)⟩, by omega, e15.less fun a z => z.imp_left (s5 a), fun v hv => wipeD_none hv, h5⟩
  · have e : i = ds.length := by omega
    subst e
    obtain ⟨C, hC, sC⟩ := lo1.loc.back lt lo2.loc hw2
    refine .inl ⟨w.stop H2 F2 lt, post acc _ _ F2 C p H2 (fin acc L2 h2) (e1.trans (e2.less fun a z => z.imp_left (sC a))) ⟨hC, ⟨lo2.ok.f, fun a z => lo2.ok.a a (sC a z)⟩, lo1.pin⟩ ⟨vacc, eacc, facc⟩ nf2 (fun z => na2 (sC p z)) rfl⟩
end
end DL

/-! Comprehensions as expressions, defs and their calls. -/
namespace DL
open PySem PySem.Spec PyProof.Rows L2

section
variable {X : Cx} {pn : List (Nat × V)} {elt tg iter e : Expr} {es ifs : List Expr} {scope : Scope} {own : List (Str × Nat)} {pos : Pos} {fi : FI} {t : FG} {c : FT} {f : FE} {js : List Nat}
abbrev lcOwn (own : List (Str × Nat)) : List Nat := own.map (·.2)
abbrev Blk (X : Cx) (scope : Scope) (P : Cx → Prop) : Prop := ∀ (s : Shared) (H : Hp) (C : Addr) (cl : List (Str × Addr)) (fp : List Addr), P (X.blk s H scope (compEnvC scope cl C X.env) fp)
theorem d_yes : PTs X [] (lowT X.K pn dYes) := ⟨fun pins s σ H Q I h => by
  obtain ⟨F, A, L, R, lo, h, p⟩ := h
  exact pts_nil.run pins s σ H Q I (p true L F A H h .refl lo)⟩
theorem d_one' {ec : Expr} (h : DT X pn ec c) : PTs X [ec] (lowT X.K pn c) := pts_one h
theorem low_lcF {K : PySem.W.Frag} {vs : List Nat} {σ : L2.St} {H : Hp} {Q : VK} (hj : ∀ j ∈ js, j ∈ vs) (hp : vs.all (fun v => !pn.any fun p => p.1 == v) = true) (q : low K pn (dLc vs fi t c f .lst) σ H Q) :
    tLc (lowI K pn fi) (lowG K pn js t) (lowT K pn c) (low K pn f) vs σ H Q := by
  obtain ⟨F, A, L, R, lo, h, p⟩ := q
  refine low_lc (mk := .lst) hj hp ⟨F, A, L, R, lo, h, fun acc L' v F' A' q H' r x l ⟨vacc, e, fa⟩ nf na ev => ?_⟩
  subst ev
  have sub : ∀ a, F' a → or2 F' (fun x => x = q) a := fun _ z => .inl z
  have lo2 : Lo K H' (or2 F' fun x => x = q) pn σ L' A' := ⟨l.loc.keep sub fun a o _ e => e, ⟨fun a z => z.elim (l.ok.f a) fun z => by rw [z]; exact ⟨_, e⟩, fun a z => ⟨fun y => y.elim (l.ok.a a z).1 fun y => na (by rw [← y]; exact z), (l.ok.a a z).2⟩⟩, l.pin⟩
  refine p _ L' _ (or2 F' fun x => x = q) A' H' r ⟨fun a z => .inl (x.sub a z), fun a z => ?_, x.keep, fun a z => x.own a (.inl z)⟩ lo2 (.lst (.inr rfl) e (fa.keep sub fun a o _ e => e))
  rcases z with z | z
  · exact x.new a z
  · rcases x.own a (.inr z) with z | z
    · exact .inr (.inr z)
    · exact .inr (.inl z)
theorem low_lcM {K : PySem.W.Frag} {vs : List Nat} {σ : L2.St} {H : Hp} {Q : VK} (hj : ∀ j ∈ js, j ∈ vs) (hp : vs.all (fun v => !pn.any fun p => p.1 == v) = true) (q : lowN K pn (dLc vs fi t c f .ml) σ H Q) :
    tLc (lowI K pn fi) (lowG K pn js t) (lowT K pn c) (low K pn f) vs σ H Q := by
  obtain ⟨F, A, L, R, lo, h, p⟩ := q
  refine low_lc (mk := .ml) hj hp ⟨F, A, L, R, lo, h, fun acc L' v F' A' q H' r x l ⟨vacc, e, fa⟩ nf na ev => ?_⟩
  subst ev
  obtain ⟨C, oc, nc⟩ := fa.ow
  have ow : Ow K H' F' (.ref q) (.ml acc) (or2 (fun x => x = q) C) := .ml e oc (nc q)
  have sub : ∀ a, or2 (fun x => x = q) C a → a = q := fun a z => z.elim id fun z => (nc a z).elim
  refine p _ L' _ F' A' _ H' r (x.less fun a z => z.imp_right (sub a)) l ow ⟨l.ok.f, fun a z => ?_⟩ fun a z => ?_
  · have := sub a z
    subst this
    exact ⟨nf, _, e⟩
  · have := sub a z
    subst this
    exact na
theorem d_lc (hc : X.calm = true) (hN : X.N.Nodup) (hi : DI X pn tg iter fi) (ok : BlkOk X.N X.env.scope scope own) (hj : ∀ j ∈ js, j ∈ lcOwn own) (hp : (lcOwn own).all (fun v => !pn.any fun p => p.1 == v) = true)
    (hg : Blk X scope fun Y => PG Y tg (lowG Y.K pn js t)) (ht : Blk X scope fun Y => PTs Y ifs (lowT Y.K pn c)) (he : Blk X scope fun Y => DE Y pn elt f) (hs : ∀ x, foldedSetIterable iter X.env x = pure x := by intro _; rfl) :
    DE X pn (.ListComp elt [⟨tg, iter, ifs, 0⟩] scope pos) (dLc (lcOwn own) fi t c f .lst) := pe_weak (pe_lc hc hN hi ok hg ht he hs) fun σ H Q q => low_lcF hj hp q
theorem d_lcM (hc : X.calm = true) (hN : X.N.Nodup) (hi : DI X pn tg iter fi) (ok : BlkOk X.N X.env.scope scope own) (hj : ∀ j ∈ js, j ∈ lcOwn own) (hp : (lcOwn own).all (fun v => !pn.any fun p => p.1 == v) = true)
    (hg : Blk X scope fun Y => PG Y tg (lowG Y.K pn js t)) (ht : Blk X scope fun Y => PTs Y ifs (lowT Y.K pn c)) (he : Blk X scope fun Y => DE Y pn elt f) (hs : ∀ x, foldedSetIterable iter X.env x = pure x := by intro _; rfl) :
    DN X pn (.ListComp elt [⟨tg, iter, ifs, 0⟩] scope pos) (dLc (lcOwn own) fi t c f .ml) := pe_weak (pe_lc hc hN hi ok hg ht he hs) fun σ H Q q => low_lcM hj hp q
theorem d_setLc {i : Nat} {y : Str} {py spos : Pos} (hc : X.calm = true) (hN : X.N.Nodup) (hy : X.N[i]? = some y) (hyl : X.env.scope.names.lookup y = some .local) (hpi : (pn.any fun p => p.1 == i) = false)
    (hsw : swapsWith (.ListComp elt [⟨tg, iter, ifs, 0⟩] scope pos) (some (.Name y py)) spos.line X.env = pure true) (hi : DI X pn tg iter fi) (ok : BlkOk X.N X.env.scope scope own) (hj : ∀ j ∈ js, j ∈ lcOwn own) (hp : (lcOwn own).all (fun v => !pn.any fun p => p.1 == v) = true)
    (hg : Blk X scope fun Y => PG Y tg (lowG Y.K pn js t)) (ht : Blk X scope fun Y => PTs Y ifs (lowT Y.K pn c)) (he : Blk X scope fun Y => DE Y pn elt f) (hs : ∀ x, foldedSetIterable iter X.env x = pure x := by intro _; rfl) :
    DS X pn (.Assign [.Name y py] (.ListComp elt [⟨tg, iter, ifs, 0⟩] scope pos) spos) (dSet i (dLc (lcOwn own) fi t c f .lst)) := ps_weak (ps_setLc hc hN hy hyl hsw hi ok hg ht he hs) fun E σ H q => by
  obtain ⟨F, A, L, D, lo, hg, p⟩ := q
  refine low_lcF hj hp ⟨F, A, L, _, lo, hg, fun x L1 v F1 A1 H1 h1 e1 lo1 f1 => ?_⟩
  obtain ⟨A', l, s⟩ := lo1.set (.fr f1) (sane_no lo1.ok.f) (fun _ z => z.elim) hpi
  exact p.nx _ _ F1 A' H1 h1 (e1.less fun a z => (s a z).elim (fun z => z.elim) id) l
theorem d_setLcM {i : Nat} {y : Str} {py spos : Pos} (hc : X.calm = true) (hN : X.N.Nodup) (hy : X.N[i]? = some y) (hyl : X.env.scope.names.lookup y = some .local) (hpi : (pn.any fun p => p.1 == i) = false)
    (hsw : swapsWith (.ListComp elt [⟨tg, iter, ifs, 0⟩] scope pos) (some (.Name y py)) spos.line X.env = pure true) (hi : DI X pn tg iter fi) (ok : BlkOk X.N X.env.scope scope own) (hj : ∀ j ∈ js, j ∈ lcOwn own) (hp : (lcOwn own).all (fun v => !pn.any fun p => p.1 == v) = true)
    (hg : Blk X scope fun Y => PG Y tg (lowG Y.K pn js t)) (ht : Blk X scope fun Y => PTs Y ifs (lowT Y.K pn c)) (he : Blk X scope fun Y => DE Y pn elt f) (hs : ∀ x, foldedSetIterable iter X.env x = pure x := by intro _; rfl) :
    DS X pn (.Assign [.Name y py] (.ListComp elt [⟨tg, iter, ifs, 0⟩] scope pos) spos) (dSet i (dLc (lcOwn own) fi t c f .ml)) := ps_weak (ps_setLc hc hN hy hyl hsw hi ok hg ht he hs) fun E σ H q => by
  obtain ⟨F, A, L, D, lo, hg, p⟩ := q
  refine low_lcM hj hp ⟨F, A, L, _, lo, hg, fun x L1 v F1 A1 B H1 h1 e1 lo1 f1 sB n => ?_⟩
  obtain ⟨A', l, s⟩ := lo1.set f1 sB n hpi
  exact p.nx _ _ F1 A' H1 h1 (e1.less fun a z => (s a z).symm) l
end

/-! ### what is new, frozen at once -/
def dFzE (f : FE) : FE := fun L Q => f L fun d L1 => noMo d = true ∧ Q (fz d) L1
theorem d_fzE {X : Cx} {pn : List (Nat × V)} {e : Expr} {f : FE} (h : DN X pn e f) : DE X pn e (dFzE f) := pe_weak h fun σ H Q q => by
  obtain ⟨F, A, L, R, lo, h, p⟩ := q
  refine ⟨F, A, L, _, lo, h, fun d L' v F' A' B H' ⟨m, r⟩ x l o s n => ?_⟩
  have sub : ∀ a, F' a → or2 F' B a := fun _ z => .inl z
  refine p _ L' v (or2 F' B) A' H' r ⟨fun a z => .inl (x.sub a z), fun a z => ?_, x.keep, fun a z => x.own a (.inl z)⟩ ⟨l.loc.keep sub fun a o _ e => e, ⟨fun a z => z.elim (l.ok.f a) fun z => (s.a a z).2, fun a z => ⟨fun y => y.elim (l.ok.a a z).1 fun y => n a y z, (l.ok.a a z).2⟩⟩, l.pin⟩ (o.fz sub m fun _ z => .inr z)
  rcases z with z | z
  · exact x.new a z
  · rcases x.own a (.inr z) with z | z
    · exact .inr (.inr z)
    · exact .inr (.inl z)
/-- what is frozen counts as new and owned, at nothing -/
theorem d_deN {X : Cx} {pn : List (Nat × V)} {e : Expr} {f : FE} (h : DE X pn e f) : DN X pn e f := pe_weak h fun σ H Q q => by
  obtain ⟨F, A, L, R, lo, h, p⟩ := q
  exact ⟨F, A, L, R, lo, h, fun d L' v F' A' H' r x l fr => p d L' v F' A' no H' r x.or_no l (.fr fr) (sane_no l.ok.f) fun _ z => z.elim⟩

/-! ### a def's promise -/
abbrev SpD := List D → (D → List D → Prop) → Prop
def lowF (K : PySem.W.Frag) (sp : SpD) : Sp := fun vs H Q _ => ∃ F A ds R, LocA K H F (vs.map some) (ds.map some) A ∧ Sane H F A ∧ sp ds R ∧
  ∀ d ds' v F' A' B H', R d ds' → Ext A H F (or2 A' B) H' F' → LocA K H' F' (vs.map some) (ds'.map some) A' → Ow K H' F' v d B → Sane H' F' (or2 A' B) → (∀ a, B a → ¬ A' a) → Q v H'
/-- the parameters as they are left: those of io as they stand, the others as they came -/
def outsK (io : List Nat) (L : Ls) : Nat → List D → (List D → Prop) → Prop
  | _, [], k => k []
  | j, d :: ds, k => bif io.contains j then (match L[j]? with
      | some (some d') => outsK io L (j + 1) ds fun r => k (d' :: r)
      | _ => False) else outsK io L (j + 1) ds fun r => k (d :: r)
def frs (io : List Nat) : Nat → List D → Bool
  | _, [] => true
  | j, d :: ds => (io.contains j || isFr d) && frs io (j + 1) ds
theorem LocA.split {K : PySem.W.Frag} {H : Hp} {F : Fp} {σ : List (Option V)} {L : Ls} {A : Fp} (h : LocA K H F σ L A) {j : Nat} {d : D} (e : L[j]? = some (some d)) : ∃ v B, σ[j]? = some (some v) ∧ Ow K H F v d B ∧ (∀ a, B a → A a) ∧ ∃ C, LocA K H F σ (L.set j none) C ∧ (∀ a, C a → A a) ∧ ∀ a, B a → ¬ C a := by
  obtain ⟨v, B, C, h1, h2, h3, h4, h5⟩ := h.out e
  exact ⟨v, B, h1, h2, fun a z => (h4 a).mpr (.inl z), C, h3, fun a z => (h4 a).mpr (.inr z), h5⟩
theorem outs_loc {K : PySem.W.Frag} {H0 : Hp} {F0 A0 : Fp} {H : Hp} {F : Fp} {io : List Nat} (lt : Later F0 H0 F H) : ∀ {vs : List V} {ds : List D} {j : Nat} {σ : List (Option V)} {L L0 : Ls} {A : Fp} {k : List D → Prop}, LocA K H0 F0 (vs.map some) (ds.map some) A0 → frs io j ds = true →
    LocA K H F σ L A → (∀ i, j ≤ i → ∀ d, L[i]? = some d → L0[i]? = some d) → (∀ i, j ≤ i → L0[i]? = L[i]?) → (∀ i v, vs[i]? = some v → io.contains (j + i) = true → σ[j + i]? = some (some v)) → outsK io L0 j ds k →
    ∃ ds' A', k ds' ∧ LocA K H F (vs.map some) (ds'.map some) A' ∧ ∀ a, A' a → A a
  | [], [], j, σ, L, L0, A, k, _, _, _, _, _, _, q => ⟨[], no, q, .nil, fun _ z => z.elim⟩
  | [], _ :: _, _, _, _, _, _, _, h0, _, _, _, _, _, _ => by have := h0.length; simp at this
  | _ :: _, [], _, _, _, _, _, _, h0, _, _, _, _, _, _ => by have := h0.length; simp at this
  | v :: vs, d :: ds, j, σ, L, L0, A, k, h0, fr, h, e1, e2, pin, q => by
    simp only [frs, Bool.and_eq_true] at fr
    obtain ⟨A1, h0'⟩ : ∃ A1, LocA K H0 F0 (vs.map some) (ds.map some) A1 := by
      cases h0 with
      | df _ r _ => exact ⟨_, r⟩
    have pin' : ∀ i w, vs[i]? = some w → io.contains (j + 1 + i) = true → σ[j + 1 + i]? = some (some w) := fun i w ei ci => by
      have := pin (i + 1) w (by simpa using ei) (by rw [show j + (i + 1) = j + 1 + i by omega]; exact ci)
      rw [show j + (i + 1) = j + 1 + i by omega] at this
      exact this
    unfold outsK at q
    cases hio : io.contains j with
    | false =>
      rw [hio] at q
      obtain ⟨ds', A', q', l, s⟩ := outs_loc lt h0' fr.2 h (fun i hi => e1 i (by omega)) (fun i hi => e2 i (by omega)) pin' (show outsK io L0 (j + 1) ds _ from q)
      have hf : isFr d = true := by rw [hio] at fr; simpa using fr.1
      cases h0 with
      | df ho _ _ => exact ⟨d :: ds', or2 no A', q', .df (.fr ((ho.isFr hf).keep lt.sub lt.keep)) l fun _ z => z.elim, fun a z => z.elim (fun z => z.elim) (s a)⟩
    | true =>
      rw [hio] at q
      have q : (match L0[j]? with
        | some (some d') => outsK io L0 (j + 1) ds fun r => k (d' :: r)
        | _ => False) := q
      split at q
      · next d' e =>
        rw [e2 j (Nat.le_refl _)] at e
        obtain ⟨w, B, h1, h2, sB, C, h3, sC, dj⟩ := h.split e
        have ew : σ[j]? = some (some v) := by
          have := pin 0 v rfl (by rw [Nat.add_zero]; exact hio)
          rw [Nat.add_zero] at this
          exact this
        rw [ew] at h1
        cases h1
        obtain ⟨ds', A', q', l, s⟩ := outs_loc lt h0' fr.2 h3 (fun i hi d he => by
            rw [List.getElem?_set_ne (by omega)] at he
            exact e1 i (by omega) d he) (fun i hi => by rw [List.getElem?_set_ne (by omega)]; exact e2 i (by omega)) pin' q
        exact ⟨d' :: ds', or2 B A', q', .df h2 l fun a z y => dj a z (s a y), fun a z => z.elim (sB a) fun z => sC a (s a z)⟩
      · exact q.elim
theorem LocA.nones {K : PySem.W.Frag} {H : Hp} {F : Fp} : ∀ {σ : List (Option V)} {L : Ls} {A : Fp} (n : Nat), LocA K H F σ L A → LocA K H F (σ ++ List.replicate n none) (L ++ List.replicate n none) A
  | _, _, _, 0, .nil => .nil
  | _, _, _, n + 1, .nil => .un (LocA.nones n .nil)
  | _, _, _, n, .un r => .un (LocA.nones n r)
  | _, _, _, n, .df h r d => .df h (LocA.nones n r) d
section
variable {P : Program} {w : World} {K : PySem.W.Frag} {mg : Str → Option Value} {base : Heap}
/-- THE RULE for a def -/
theorem ok_of {x qual : Str} {st : Stmt} {f : Addr} {fd : FuncData} {N ps : List Str} {k : Nat} {sp : SpD} {g : FS} (F : Fun K x qual st f fd) (S : FnScope N ps (defScope st)) (io : List Nat) (hio : io.all (fun j => decide (j < ps.length)) = true)
    (hb : ∀ (cdv : Value) (A : Around) (outer : List Env) (s : Shared) (H : Hp) (pn : List (Nat × V)) (E : XK), Room k (A.deeper (envOfC qual (defScope st) s.heap.objs.size f cdv)) → (∀ i, io.contains i = false → (pn.any fun p => p.1 == i) = false) →
      DSs (cxOf CX0 P w K mg base N qual (defScope st) f cdv A outer s H E).nox pn (defBody st) g)
    (hs : ∀ ds R, sp ds R → ds.length = ps.length ∧ frs io 0 ds = true ∧ g { nx := fun L => outsK io L 0 ds fun ds' => R .non ds', rt := fun d L => outsK io L 0 ds fun ds' => R d ds' } (ds.map some ++ List.replicate (N.length - ps.length) none)) :
    FnOk P w K mg base CX0 (k + 1) f fd ps (lowF K sp) := by
  refine F.ok S (fun vs H Q E h => ?_) (fun cdv A outer s H vs Q E hr h => ?_)
  · obtain ⟨F, A, ds, R, l, _, h, _⟩ := h
    have := l.length
    simp only [List.length_map] at this
    rw [this]
    exact (hs ds R h).1
  · obtain ⟨F, A0, ds, R, l, sn, h, post⟩ := h
    obtain ⟨hlen, hfr, hg⟩ := hs ds R h
    have hvl : vs.length = ds.length := by simpa using l.length
    have hiolt : ∀ j ∈ io, j < vs.length := fun j hj => by
      have := of_decide_eq_true (List.all_eq_true.mp hio j hj)
      omega
    refine ⟨_, hb cdv A outer s H (io.map fun j => (j, vs.getD j .non)) E hr (fun i hi => ?_), ?_⟩
    · rw [List.any_eq_false]
      intro p hp
      obtain ⟨j, hj, rfl⟩ := List.mem_map.mp hp
      intro e
      have e : j = i := by simpa using e
      subst e
      have : io.contains j = true := by simpa using hj
      rw [this] at hi
      cases hi
    · have e0 : L2.start N vs = vs.map some ++ List.replicate (N.length - ps.length) none := by unfold L2.start; rw [hvl, hlen]
      rw [e0]
      have pinned : ∀ {σ' : List (Option V)}, (∀ p ∈ (io.map fun j => (j, vs.getD j .non)), σ'[p.1]? = some (some p.2)) → ∀ i v, vs[i]? = some v → io.contains (0 + i) = true → σ'[0 + i]? = some (some v) := fun {σ'} hp i v e c => by
        rw [Nat.zero_add] at c ⊢
        have hm : i ∈ io := by simpa using c
        have := hp (i, vs.getD i .non) (List.mem_map.mpr ⟨i, hm, rfl⟩)
        rw [this, List.getD_eq_getElem?_getD, e]
        rfl
      refine ⟨F, A0, _, _, ⟨l.nones _, sn, fun p hp => ?_⟩, hg, ⟨fun σ' L' F' A' H' r x lo => ?_, fun _ _ _ _ _ r => r.elim, fun _ _ _ _ _ r => r.elim, fun d σ' L' v F' A' B H' r x lo o s n => ?_⟩⟩
      · obtain ⟨j, hj, rfl⟩ := List.mem_map.mp hp
        have hlt := hiolt j hj
        show (vs.map some ++ List.replicate _ none)[j]? = some (some (vs.getD j .non))
        rw [List.getElem?_append_left (by simpa using hlt), List.getElem?_map, List.getElem?_eq_getElem hlt, List.getD_eq_getElem?_getD, List.getElem?_eq_getElem hlt]
        rfl
      · obtain ⟨ds', A2, q, l2, s2⟩ := outs_loc (Later.of sn x) l hfr lo.loc (fun i _ d e => e) (fun _ _ => rfl) (pinned lo.pin) r
        exact post .non ds' .non F' A2 no H' q (x.less fun a z => z.elim (s2 a) fun z => z.elim) l2 (.fr .non) ⟨lo.ok.f, fun a z => z.elim (fun z => lo.ok.a a (s2 a z)) fun z => z.elim⟩ fun _ z => z.elim
      · obtain ⟨ds', A2, q, l2, s2⟩ := outs_loc (Later.of sn x) l hfr lo.loc (fun i _ d e => e) (fun _ _ => rfl) (pinned lo.pin) r
        exact post d ds' v F' A2 B H' q (x.less fun a z => z.imp_left (s2 a)) l2 o ⟨lo.ok.f, fun a z => z.elim (fun z => lo.ok.a a (s2 a z)) (s.a a)⟩ fun a z y => n a z (s2 a y)
end

/-! ### calls -/
inductive AV where
  | v (d : D) | s (j : Nat)
inductive Arg where
  | e (f : FE) | io (j : Nat)
abbrev FR := Ls → (List AV → Ls → Prop) → Prop
def dArgN : FR := fun L Q => Q [] L
def dArgE (f : FE) (g : FR) : FR := fun L Q => f L fun d L1 => g L1 fun as L2 => Q (.v d :: as) L2
def dArgS (j : Nat) (g : FR) : FR := fun L Q => g L fun as L2 => Q (.s j :: as) L2
def takeA : List AV → Ls → (List D → Ls → Prop) → Prop
  | [], L, Q => Q [] L
  | .v d :: as, L, Q => takeA as L fun ds L' => Q (d :: ds) L'
  | .s j :: as, L, Q => match L[j]? with
    | some (some d) => takeA as (L.set j none) fun ds L' => Q (d :: ds) L'
    | _ => False
def putA : List AV → List D → Ls → Ls
  | .s j :: as, d :: ds, L => (putA as ds L).set j (some d)
  | .v _ :: as, _ :: ds, L => putA as ds L
  | _, _, L => L
def dCall (sp : SpD) (args : FR) : FE := fun L Q => args L fun as L1 => takeA as L1 fun ds L2 => sp ds fun d ds' => Q d (putA as ds' L2)
inductive AVs (K : PySem.W.Frag) (H : Hp) (F : Fp) (σ : List (Option V)) : List V → List AV → Prop
  | nil : AVs K H F σ [] []
  | v {v : V} {d : D} {vs : List V} {as : List AV} : Fr K H F v d → AVs K H F σ vs as → AVs K H F σ (v :: vs) (.v d :: as)
  | s {v : V} {j : Nat} {vs : List V} {as : List AV} : σ[j]? = some (some v) → AVs K H F σ vs as → AVs K H F σ (v :: vs) (.s j :: as)
theorem AVs.ext {K : PySem.W.Frag} {H H' : Hp} {F F' A A' : Fp} {σ : List (Option V)} (sn : Sane H F A) (x : Ext A H F A' H' F') : ∀ {vs : List V} {as : List AV}, AVs K H F σ vs as → AVs K H' F' σ vs as
  | _, _, .nil => .nil
  | _, _, .v f r => .v (f.ext sn x) (r.ext sn x)
  | _, _, .s e r => .s e (r.ext sn x)
def lowR (K : PySem.W.Frag) (pn : List (Nat × V)) (f : FR) : TA := fun σ H Q => ∃ F A L R, Lo K H F pn σ L A ∧ f L R ∧ ∀ as L' vs F' A' H', R as L' → Ext A H F A' H' F' → Lo K H' F' pn σ L' A' → AVs K H' F' σ vs as → Q vs H'
abbrev DR (X : Cx) (pn : List (Nat × V)) (es : List Expr) (f : FR) : Prop := PA X es (lowR X.K pn f)
section
variable {X : Cx} {pn : List (Nat × V)} {e : Expr} {es : List Expr} {f : FE} {g : FR} {pos : Pos}
theorem r_nil : DR X pn [] dArgN := pa_weak pa_nil fun σ H Q q => by
  obtain ⟨F, A, L, R, lo, r, p⟩ := q
  exact p [] L [] F A H r .refl lo .nil
theorem r_e (ha : DE X pn e f) (hr : DR X pn es g) (hs : starEach (e :: es) X.env = (false, eval e X.env) :: starEach es X.env := by rfl) : DR X pn (e :: es) (dArgE f g) := pa_weak (pa_cons ha hr hs) fun σ H Q q => by
  obtain ⟨F, A, L, R, lo, h, p⟩ := q
  exact ⟨F, A, L, _, lo, h, fun x L1 v F1 A1 H1 h1 e1 lo1 f1 => ⟨F1, A1, L1, _, lo1, h1, fun ys L2 us F2 A2 H2 h2 e2 lo2 f2 => p _ L2 (v :: us) F2 A2 H2 h2 (e1.trans e2) lo2 (.v (f1.ext lo1.ok e2) f2)⟩⟩
/-- a slot's owned value, handed on -/
theorem r_s (j : Nat) {x : Str} {ps : Pos} (hr : DR X pn es g) (hN : X.N[j]? = some x := by rfl) (hv : Vis X.env.scope x := by first | exact Or.inl rfl | exact Or.inr (Or.inl rfl) | exact Or.inr (Or.inr rfl)) (hd : (x == ("__debug__" : Str)) = false := by decide)
    (hcd : (x == ("__classdict__" : Str)) = false := by decide) (hs : starEach (.Name x ps :: es) X.env = (false, eval (.Name x ps) X.env) :: starEach es X.env := by rfl) : DR X pn (.Name x ps :: es) (fun L Q => match L[j]? with
      | some (some _) => dArgS j g L Q
      | _ => False) := pa_weak (pa_cons (pe_var hN hv hd hcd) hr hs) fun σ H Q q => by
  obtain ⟨F, A, L, R, lo, h, p⟩ := q
  split at h
  · next d e =>
    obtain ⟨v, B, h1, h2, h3⟩ := lo.loc.get e
    exact ⟨v, h1, F, A, L, _, lo, h, fun ys L2 us F2 A2 H2 h2 e2 lo2 f2 => p _ L2 (v :: us) F2 A2 H2 h2 e2 lo2 (.s h1 f2)⟩
  · exact h.elim
end
/-- the arguments taken out, and put back -/
theorem take_put {K : PySem.W.Frag} {H : Hp} {F : Fp} {σ : List (Option V)} : ∀ {vs : List V} {as : List AV} {L : Ls} {A : Fp} {Q : List D → Ls → Prop}, AVs K H F σ vs as → LocA K H F σ L A → takeA as L Q →
    ∃ ds L2 Aa Ac, Q ds L2 ∧ LocA K H F (vs.map some) (ds.map some) Aa ∧ LocA K H F σ L2 Ac ∧ (∀ a, A a ↔ Aa a ∨ Ac a) ∧ (∀ a, Aa a → ¬ Ac a) ∧
      ∀ (H' : Hp) (F' : Fp) (ds' : List D) (A' C' : Fp), Later F H F' H' → LocA K H' F' (vs.map some) (ds'.map some) A' → LocA K H' F' σ L2 C' → (∀ a, A' a → ¬ C' a) → ∃ A'', LocA K H' F' σ (putA as ds' L2) A'' ∧ ∀ a, A'' a → A' a ∨ C' a
  | [], [], L, A, Q, .nil, l, q => ⟨[], L, no, A, q, .nil, l, fun a => ⟨.inr, fun z => z.elim (fun z => z.elim) id⟩, fun _ z => z.elim, fun H' F' ds' A' C' lt la lc dj => ⟨C', lc, fun _ z => .inr z⟩⟩
  | v :: vs, .v d :: as, L, A, Q, .v fr r, l, q => by
    obtain ⟨ds, L2, Aa, Ac, q', la, lc, eq, dj, put⟩ := take_put r l q
    refine ⟨d :: ds, L2, or2 no Aa, Ac, q', .df (.fr fr) la (fun _ z => z.elim), lc, fun a => ?_, fun a z => z.elim (fun z => z.elim) (dj a), fun H' F' ds' A' C' lt la lc dj => ?_⟩
    · rw [eq a]
      exact ⟨fun z => z.imp_left .inr, fun z => z.imp_left fun z => z.resolve_left fun z => z⟩
    · cases ds' with
      | nil => cases la
      | cons d' ds' =>
        cases la with
        | df h r dj' =>
          obtain ⟨A'', l'', s⟩ := put H' F' ds' _ C' lt r lc fun a z => dj a (.inr z)
          exact ⟨A'', l'', fun a z => (s a z).imp_left .inr⟩
  | v :: vs, .s j :: as, L, A, Q, .s e r, l, q => by
    unfold takeA at q
    split at q
    · next d ed =>
      obtain ⟨v', B, C, h1, h2, h3, h4, h5⟩ := l.out ed
      rw [e] at h1
      cases h1
      obtain ⟨ds, L2, Aa, Ac, q', la, lc, eq, dj, put⟩ := take_put r h3 q
      refine ⟨d :: ds, L2, or2 B Aa, Ac, q', .df h2 la (fun a z y => h5 a z ((eq a).mpr (.inl y))), lc, fun a => ?_, fun a z y => ?_, fun H' F' ds' A' C' lt la lc dj => ?_⟩
      · rw [h4 a, eq a]
        exact ⟨fun z => z.elim (fun z => .inl (.inl z)) fun z => z.imp_left .inr, fun z => z.elim (fun z => z.imp_right .inl) fun z => .inr (.inr z)⟩
      · rcases z with z | z
        · exact h5 a z ((eq a).mpr (.inr y))
        · exact dj a z y
      · cases ds' with
        | nil => cases la
        | cons d' ds' =>
          cases la with
          | df h r dj' =>
            obtain ⟨A'', l'', s⟩ := put H' F' ds' _ C' lt r lc fun a z => dj a (.inr z)
            show ∃ A'', LocA K H' F' σ ((putA as ds' L2).set j (some d')) A'' ∧ _
            by_cases hj : j < (putA as ds' L2).length
            · obtain ⟨C2, d2, s2⟩ := l''.drop (i := j)
              have p2 := LocA.put d2 (by rw [List.getElem?_set_self hj]) e h fun a z y => by
                rcases s a (s2 a y) with w | w
                · exact dj' a z w
                · exact dj a (.inl z) w
              rw [List.set_set] at p2
              refine ⟨_, p2, fun a z => ?_⟩
              rcases z with z | z
              · exact .inl (.inl z)
              · exact (s a (s2 a z)).imp_left .inr
            · rw [List.set_eq_of_length_le (by omega)]
              exact ⟨A'', l'', fun a z => (s a z).imp_left .inr⟩
    · exact q.elim
section
variable {X : Cx} {pn : List (Nat × V)} {e : Expr} {es : List Expr} {g : FR} {pos p : Pos} {sp : SpD} {f : Addr} {fd : FuncData} {ps : List Str} {x : Str} {k : Nat} {CX : CXT} {E : XK}
theorem low_call {K : PySem.W.Frag} {σ : L2.St} {H : Hp} {Q : VK} (q : lowN K pn (dCall sp g) σ H Q) : lowR K pn g σ H fun vs H1 => lowF K sp (vs ++ []) H1 Q E := by
  obtain ⟨F, A, L, R, lo, h, post⟩ := q
  refine ⟨F, A, L, _, lo, h, fun as L1 vs F1 A1 H1 h1 e1 lo1 av => ?_⟩
  show lowF K sp (vs ++ []) H1 Q E
  rw [List.append_nil]
  obtain ⟨ds, L2, Aa, Ac, q', la, lc, eq, dj, put⟩ := take_put av lo1.loc h1
  have sa : Sane H1 F1 Aa := ⟨lo1.ok.f, fun a z => lo1.ok.a a ((eq a).mpr (.inl z))⟩
  refine ⟨F1, Aa, ds, _, la, sa, q', fun d ds' v F' A' B H' r x l' o s n => ?_⟩
  have acOut : ∀ a, Ac a → ¬ or2 A' B a := fun a z y => by
    rcases x.own a y with y | y
    · exact dj a y z
    · obtain ⟨_, ob, e⟩ := lo1.ok.a a ((eq a).mpr (.inr z))
      rw [y] at e
      cases e
  have acF : ∀ a, Ac a → ¬ F' a := fun a z y => by
    obtain ⟨nf, ob, e⟩ := lo1.ok.a a ((eq a).mpr (.inr z))
    rcases x.new a y with y | y | y
    · exact nf y
    · rw [y] at e; cases e
    · exact dj a y z
  have kc : ∀ a ob, F1 a ∨ Ac a → H1 a = some ob → H' a = some ob := fun a ob z e => x.keep a ob e fun y => z.elim (fun z => (sa.a a y).1 z) fun z => dj a y z
  have lc' := lc.keep x.sub kc
  obtain ⟨A'', l'', s''⟩ := put H' F' ds' A' Ac ⟨x.sub, fun a ob z e => kc a ob (.inl z) e⟩ l' lc' fun a z y => acOut a y (.inl z)
  refine post d _ v F' A'' B H' r (e1.trans ⟨x.sub, fun a z => (x.new a z).imp_right fun z => z.imp_right fun z => (eq a).mpr (.inl z), fun a ob e n => x.keep a ob e fun z => n ((eq a).mpr (.inl z)), fun a z => ?_⟩) ⟨l'', ⟨s.f, fun a z => ?_⟩, lo1.pin⟩ o ⟨s.f, fun a z => s.a a (.inr z)⟩ fun a z y => ?_
  · rcases z with z | z
    · rcases s'' a z with z | z
      · exact (x.own a (.inl z)).imp_left fun z => (eq a).mpr (.inl z)
      · exact .inl ((eq a).mpr (.inr z))
    · exact (x.own a (.inr z)).imp_left fun z => (eq a).mpr (.inl z)
  · rcases s'' a z with z | z
    · exact s.a a (.inl z)
    · refine ⟨acF a z, ?_⟩
      obtain ⟨_, ob, e⟩ := lo1.ok.a a ((eq a).mpr (.inr z))
      exact ⟨ob, kc a ob (.inr z) e⟩
  · rcases s'' a y with y | y
    · exact n a z y
    · exact acOut a y (.inr z)
theorem d_call (F : FnOk X.prog X.w X.K X.mg X.base CX k f fd ps (lowF X.K sp)) (hr : Room k X.A) (hg : Gl X x) (hm : X.mg x = some (.ref f)) (hk : PySem.W.keepIn X.K (.ref f) = true) (hb : Binds X.K fd ps []) (hx : Passes CX X E)
    (ha : DR X pn (e :: es) g) (hdb : (x == ("__debug__" : Str)) = false := by decide) (he : starEach (e :: es) X.env = (false, eval e X.env) :: starEach es X.env := by rfl) (hpl : (backTo pos (starEach es X.env)).any (·.1) = false := by rfl) :
    DN X pn (.Call (.Name x p) (e :: es) [] pos) (dCall sp g) := pe_weak (pe_call (dvs := []) F hr hg hm hk hb .nil hx ha hdb he hpl) fun σ H Q q => low_call q
end
end DL

/-! Owned values: read, moved, changed. -/
namespace DL
open PySem PySem.Spec PyProof.Rows L2

/-! ### expressions that change nothing, all frozen for their time -/
def isTupO : HO → Bool
  | .tup _ => true
  | .frz _ (.tup _) => true
  | _ => false
mutual
/-- no list, no dict within -/
def noL : D → Bool
  | .non | .bl _ | .int _ | .str _ => true
  | .tup xs => noLL xs
  | .ptu _ => true
  | _ => false
def noLL : List D → Bool
  | [] => true
  | d :: r => noL d && noLL r
end
def fzAll (L : Ls) : Ls := L.map fun o => o.map fz
def noMos (L : Ls) : Bool := L.all fun o => match o with
  | some d => noMo d
  | none => true
section
variable {K : PySem.W.Frag} {H : Hp} {F F' : Fp}
theorem LocA.fzAll (s : ∀ a, F a → F' a) : ∀ {σ : List (Option V)} {L : Ls} {A : Fp}, LocA K H F σ L A → noMos L = true → (∀ a, A a → F' a) → ∃ A', LocA K H F' σ (DL.fzAll L) A' ∧ ∀ a, ¬ A' a
  | _, _, _, .nil, _, _ => ⟨no, .nil, fun _ z => z⟩
  | _, _, _, .un r, m, k => by
    obtain ⟨A', l, n⟩ := r.fzAll s (by simpa [noMos] using m) k
    exact ⟨A', .un l, n⟩
  | _, _, _, .df (d := d0) (L := L0) h r d, m, k => by
    have m' : noMo d0 = true ∧ noMos L0 = true := by simpa [noMos] using m
    obtain ⟨A', l, n⟩ := r.fzAll s m'.2 fun a z => k a (.inr z)
    exact ⟨or2 no A', .df (.fr (h.fz s m'.1 fun a z => k a (.inl z))) l (fun _ z => z.elim), fun a z => z.elim (fun z => z) (n a)⟩
mutual
theorem Fr.noL (k : ∀ a o, F a → isTupO o = true → H a = some o → F' a) : ∀ {v : V} {d : D}, Fr K H F v d → DL.noL d = true → Fr K H F' v d
  | _, _, .non, _ => .non
  | _, _, .bl b, _ => .bl b
  | _, _, .int i, _ => .int i
  | _, _, .str x, _ => .str x
  | _, _, .tup f h r, e => .tup (k _ _ f rfl h) h (FrL.noL k r (by simpa only [DL.noL] using e))
  | _, _, .ptu f ⟨o, h, hc, hd⟩, _ => .ptu (k _ _ f rfl h) ⟨o, h, hc, hd⟩
  | _, _, .fn .., e | _, _, .er0 .., e | _, _, .erD .., e | _, _, .lst .., e | _, _, .scr .., e | _, _, .scrK .., e | _, _, .dK .., e | _, _, .dT .., e => by simp only [DL.noL] at e; cases e
theorem FrL.noL (k : ∀ a o, F a → isTupO o = true → H a = some o → F' a) : ∀ {v : List V} {d : List D}, FrL K H F v d → noLL d = true → FrL K H F' v d
  | _, _, .nil, _ => .nil
  | _, _, .cons h r, e => by
    simp only [noLL, Bool.and_eq_true] at e
    exact .cons (Fr.noL k h e.1) (FrL.noL k r e.2)
end
mutual
theorem Ow.notTup : ∀ {v : V} {d : D} {A : Fp}, Ow K H F v d A → ∀ a vs, A a → H a = some vs → isTupO vs = false
  | _, _, _, .fr h, a, vs, z => z.elim
  | _, _, _, .ml h r n, a, vs, z => by
    rcases z with rfl | z
    · rw [h]; exact fun e => by cases e; rfl
    · exact OwL.notTup r a vs z
  | _, _, _, .mK h e r n, a, vs, z => by
    rcases z with rfl | z
    · rw [h]; exact fun e => by cases e; rfl
    · exact OwL.notTup r a vs z
  | _, _, _, .mT h e r n, a, vs, z => by
    rcases z with rfl | z
    · rw [h]; exact fun e => by cases e; rfl
    · exact OwL.notTup r a vs z
  | _, _, _, .mo h hd nd e r n n2, a, vs, z => by
    rcases z with (rfl | rfl) | z
    · rw [h]; exact fun e => by cases e; rfl
    · rw [hd]; exact fun e => by cases e; rfl
    · exact OwL.notTup r a vs z
theorem OwL.notTup : ∀ {vs : List V} {ds : List D} {A : Fp}, OwL K H F vs ds A → ∀ a us, A a → H a = some us → isTupO us = false
  | _, _, _, .nil, a, vs, z => z.elim
  | _, _, _, .cons h r d, a, vs, z => z.elim (Ow.notTup h a vs) (OwL.notTup r a vs)
end
theorem LocA.notTup : ∀ {σ : List (Option V)} {L : Ls} {A : Fp}, LocA K H F σ L A → ∀ a vs, A a → H a = some vs → isTupO vs = false
  | _, _, _, .nil, a, vs, z => z.elim
  | _, _, _, .un r, a, vs, z => r.notTup a vs z
  | _, _, _, .df h r d, a, vs, z => z.elim (h.notTup a vs) (r.notTup a vs)
end
/-- the state frozen, and what it was put back -/
theorem lo_pure {K : PySem.W.Frag} {pn : List (Nat × V)} {H : Hp} {F A : Fp} {σ : L2.St} {L : Ls} (lo : Lo K H F pn σ L A) (m : noMos L = true) : ∃ A1, Lo K H (or2 F A) pn σ (fzAll L) A1 ∧ (∀ a, ¬ A1 a) ∧
    ∀ {F' A' : Fp} {H' : Hp}, Ext A1 H (or2 F A) A' H' F' → Ext A H F A H' (fun a => F' a ∧ ¬ A a) ∧ ((∀ a, F' a → ∃ o, H' a = some o) → Lo K H' (fun a => F' a ∧ ¬ A a) pn σ L A) ∧ ∀ {v : V} {d : D}, Fr K H' F' v d → noL d = true → Fr K H' (fun a => F' a ∧ ¬ A a) v d := by
  obtain ⟨A1, l, n⟩ := lo.loc.fzAll (F' := or2 F A) (fun _ z => .inl z) m fun _ z => .inr z
  refine ⟨A1, ⟨l, ⟨fun a z => z.elim (lo.ok.f a) fun z => (lo.ok.a a z).2, fun a z => (n a z).elim⟩, lo.pin⟩, n, fun {F' A' H'} x => ?_⟩
  have keep : ∀ a o, H a = some o → H' a = some o := fun a o e => x.keep a o e (n a)
  have sub : ∀ a, F a → F' a ∧ ¬ A a := fun a z => ⟨x.sub a (.inl z), fun y => (lo.ok.a a y).1 z⟩
  refine ⟨⟨sub, fun a z => ?_, fun a o e _ => keep a o e, fun _ z => .inl z⟩, fun ex => ⟨lo.loc.keep sub fun a o _ e => keep a o e, ⟨fun a z => ex a z.1, fun a z => ⟨fun y => y.2 z, ?_⟩⟩, lo.pin⟩, fun {v d} f e => f.noL (fun a vs z ht h => ⟨z, fun y => ?_⟩) e⟩
  · rcases x.new a z.1 with (y | y) | y | y
    · exact .inl y
    · exact (z.2 y).elim
    · exact .inr (.inl y)
    · exact (n a y).elim
  · obtain ⟨_, o, e⟩ := lo.ok.a a z
    exact ⟨o, keep a o e⟩
  · obtain ⟨_, o, e⟩ := lo.ok.a a y
    have := keep a o e
    rw [h] at this
    cases this
    have tt := lo.loc.notTup a vs y e
    rw [ht] at tt
    cases tt
def dPure (f : FE) : FE := fun L Q => noMos L = true ∧ f (fzAll L) fun x _ => noL x = true ∧ Q x L
def dPureT (f : FT) : FT := fun L Q => noMos L = true ∧ f (fzAll L) fun x _ => Q x L
section
variable {X : Cx} {pn : List (Nat × V)} {e : Expr} {f : FE} {ft : FT} {pos : Pos}
theorem d_pure (h : DE X pn e f) : DE X pn e (dPure f) := pe_weak h fun σ H Q q => by
  obtain ⟨F, A, L, R, lo, ⟨m, h⟩, p⟩ := q
  obtain ⟨A1, lo1, n1, back⟩ := lo_pure lo m
  refine ⟨_, A1, _, _, lo1, h, fun x L' v F' A' H' ⟨hx, r⟩ ex l fr => ?_⟩
  obtain ⟨b1, b2, b3⟩ := back ex
  exact p x L v _ A H' r b1 (b2 l.ok.f) (b3 fr hx)
theorem d_pureT (h : DT X pn e ft) : DT X pn e (dPureT ft) := pt_weak h fun σ H Q q => by
  obtain ⟨F, A, L, R, lo, ⟨m, h⟩, p⟩ := q
  obtain ⟨A1, lo1, n1, back⟩ := lo_pure lo m
  refine ⟨_, A1, _, _, lo1, h, fun x L' F' A' H' r ex l => ?_⟩
  obtain ⟨b1, b2, b3⟩ := back ex
  exact p x L _ A H' r b1 (b2 l.ok.f)

/-! ### moved -/
def dMv (j : Nat) : FE := fun L Q => match L[j]? with
  | some (some d) => Q d (L.set j none)
  | _ => False
theorem dn_var (j : Nat) {x : Str} (hN : X.N[j]? = some x := by rfl) (hv : Vis X.env.scope x := by first | exact Or.inl rfl | exact Or.inr (Or.inl rfl) | exact Or.inr (Or.inr rfl)) (hd : (x == ("__debug__" : Str)) = false := by decide)
    (hcd : (x == ("__classdict__" : Str)) = false := by decide) : DN X pn (.Name x pos) (dMv j) := pe_weak (pe_var hN hv hd hcd) fun σ H Q q => by
  obtain ⟨F, A, L, R, lo, r, p⟩ := q
  unfold dMv at r
  split at r
  · next d e =>
    obtain ⟨v, B, C, h1, h2, h3, h4, h5⟩ := lo.loc.out e
    have sb : ∀ a, or2 C B a → A a := fun a z => (h4 a).mpr z.symm
    exact ⟨v, h1, p d _ v F C B H r (Ext.refl.less sb) ⟨h3, ⟨lo.ok.f, fun a z => lo.ok.a a (sb a (.inl z))⟩, lo.pin⟩ h2 ⟨lo.ok.f, fun a z => lo.ok.a a (sb a (.inr z))⟩ fun a z y => h5 a z y⟩
  · exact r.elim
end

/-! ### a slot's object is changed -/
theorem slot_put {K : PySem.W.Frag} {pn : List (Nat × V)} {H : Hp} {F A : Fp} {σ : L2.St} {L : Ls} {j : Nat} {d : D} (lo : Lo K H F pn σ L A) (e : L[j]? = some (some d)) : ∃ v B, σ[j]? = some (some v) ∧ Ow K H F v d B ∧ (∀ a, B a → A a) ∧
    ∀ {a : Addr} {o' : HO} {d' : D} {B' Xt : Fp}, B a → Ow K (upd H a o') F v d' B' → (∀ x, B' x → B x ∨ Xt x) → (∀ x, Xt x → ¬ A x) → (∀ x, Xt x → ¬ F x ∧ ∃ o, H x = some o) →
      ∃ A', Lo K (upd H a o') F pn σ (L.set j (some d')) A' ∧ Ext (or2 A Xt) H F A' (upd H a o') F := by
  obtain ⟨v, B, C, h1, h2, h3, h4, h5⟩ := lo.loc.out e
  refine ⟨v, B, h1, h2, fun a z => (h4 a).mpr (.inl z), fun {a o' d' B' Xt} ba ow sub dj sx => ?_⟩
  have ha := (h4 a).mpr (.inl ba)
  have kp : ∀ x o, x ≠ a → H x = some o → upd H a o' x = some o := fun x o n e => by rw [upd_ne n]; exact e
  have ex : ∀ x, (∃ o, H x = some o) → ∃ o, upd H a o' x = some o := fun x ⟨o, e⟩ => by
    by_cases n : x = a
    · subst n; exact ⟨_, upd_same⟩
    · exact ⟨o, kp x o n e⟩
  have hl : j < L.length := by
    obtain ⟨z, _⟩ := List.getElem?_eq_some_iff.mp e
    exact z
  have c' := h3.keep (F' := F) (H' := upd H a o') (fun _ z => z) fun x o z e => kp x o (fun n => by
    subst n
    exact z.elim (fun z => (lo.ok.a _ ha).1 z) fun z => h5 _ ba z) e
  have p := LocA.put c' (by rw [List.getElem?_set_self hl]) h1 ow fun x z y => by
    rcases sub x z with w | w
    · exact h5 x w y
    · exact dj x w ((h4 x).mpr (.inr y))
  rw [List.set_set] at p
  have own : ∀ x, or2 B' C x → A x ∨ Xt x := fun x z => by
    rcases z with z | z
    · exact (sub x z).imp_left fun z => (h4 x).mpr (.inl z)
    · exact .inl ((h4 x).mpr (.inr z))
  refine ⟨_, ⟨p, ⟨fun x z => ex x (lo.ok.f x z), fun x z => ?_⟩, lo.pin⟩, ⟨fun _ z => z, fun _ z => .inl z, fun x o e n => kp x o (fun n' => n (by rw [n']; exact .inl ha)) e, fun x z => .inl (own x z)⟩⟩
  rcases own x z with w | w
  · exact ⟨(lo.ok.a x w).1, ex x (lo.ok.a x w).2⟩
  · exact ⟨(sx x w).1, ex x (sx x w).2⟩
theorem OwL.append {K : PySem.W.Frag} {H : Hp} {F : Fp} : ∀ {vs us : List V} {ds es : List D} {A B : Fp}, OwL K H F vs ds A → OwL K H F us es B → (∀ a, A a → ¬ B a) → ∃ C, OwL K H F (vs ++ us) (ds ++ es) C ∧ ∀ a, C a ↔ A a ∨ B a
  | _, _, _, _, _, B, .nil, q, _ => ⟨B, q, fun a => ⟨.inr, fun z => z.elim (fun z => z.elim) id⟩⟩
  | _, _, _, _, _, B, .cons (A := A1) h r d, q, dj => by
    obtain ⟨C, l, e⟩ := r.append q fun a z => dj a (.inr z)
    refine ⟨or2 A1 C, .cons h l fun a z y => ?_, fun a => ?_⟩
    · rcases (e a).mp y with y | y
      · exact d a z y
      · exact dj a (.inl z) y
    · constructor
      · rintro (z | z)
        · exact .inl (.inl z)
        · exact ((e a).mp z).imp_left .inr
      · rintro ((z | z) | z)
        · exact .inl z
        · exact .inr ((e a).mpr (.inl z))
        · exact .inr ((e a).mpr (.inr z))
theorem OwL.frL {K : PySem.W.Frag} {H : Hp} {F : Fp} : ∀ {vs : List V} {ds : List D} {A : Fp}, OwL K H F vs ds A → ds.all isFr = true → FrL K H F vs ds
  | _, _, _, .nil, _ => .nil
  | _, _, _, .cons h r d, e => by
    rw [List.all_cons, Bool.and_eq_true] at e
    exact .cons (h.isFr e.1) (r.frL e.2)
theorem FrL.owU {K : PySem.W.Frag} {H H' : Hp} {F : Fp} {a : Addr} {o : HO} {vs : List V} {ds : List D} (r : FrL K H F vs ds) (n : ¬ F a) : FrL K (upd H a o) F vs ds := r.keep (fun _ z => z) fun x u f e => by
  rw [upd_ne fun z => n (by rw [← z]; exact f)]
  exact e
/-- a list of frozen items, changed in a slot -/
theorem slot_list {K : PySem.W.Frag} {pn : List (Nat × V)} {H : Hp} {F A : Fp} {σ : L2.St} {L : Ls} {j : Nat} {ds : List D} (lo : Lo K H F pn σ L A) (e : L[j]? = some (some (.ml ds))) (hf : ds.all isFr = true) : ∃ a vs, σ[j]? = some (some (.ref a)) ∧ H a = some (.lst vs) ∧ FrL K H F vs ds ∧
    ∀ {vs' : List V} {ds' : List D}, FrL K H F vs' ds' → ∃ A', Lo K (upd H a (.lst vs')) F pn σ (L.set j (some (.ml ds'))) A' ∧ Ext A H F A' (upd H a (.lst vs')) F := by
  obtain ⟨v, B, h1, h2, sb, put⟩ := slot_put lo e
  cases h2 with
  | fr h => cases h
  | ml h r n =>
    refine ⟨_, _, h1, h, r.frL hf, fun {vs' ds'} r' => ?_⟩
    have na := (lo.ok.a _ (sb _ (.inl rfl))).1
    obtain ⟨C, oc, nc⟩ := (r'.owU (H' := H) (o := .lst vs') na).ow
    obtain ⟨A', l, x⟩ := put (d' := .ml ds') (Xt := no) (.inl rfl) (.ml upd_same oc (nc _)) (fun x z => .inl (.inl (z.resolve_right (nc x)))) (fun _ z => z.elim) fun _ z => z.elim
    exact ⟨A', l, ⟨x.sub, x.new |> fun f a z => (f a z).imp_right fun z => z.imp_right fun z => z.elim id fun z => z.elim, fun a o e n => x.keep a o e fun z => z.elim n fun z => z, fun a z => (x.own a z).imp_left fun z => z.elim id fun z => z.elim⟩⟩
/-! #### lists -/
def isMl (L : Ls) (j : Nat) : Bool := match L[j]? with
  | some (some (.ml _)) => true
  | _ => false
theorem isMl_at {K : PySem.W.Frag} {pn : List (Nat × V)} {H : Hp} {F A : Fp} {σ : L2.St} {L : Ls} {j : Nat} (lo : Lo K H F pn σ L A) (h : isMl L j = true) : ∃ a vs, σ[j]? = some (some (.ref a)) ∧ H a = some (.lst vs) := by
  unfold isMl at h
  split at h
  · next ds e =>
    obtain ⟨v, B, C, h1, h2, _⟩ := lo.loc.out e
    cases h2 with
    | fr h => cases h
    | ml h r n => exact ⟨_, _, h1, h⟩
  · cases h
/-- a list's method with arguments, on a slot: g takes the items and the arguments to what is returned and the items behind it -/
def dLM (j : Nat) (g : List D → List D → (D → List D → Prop) → Prop) (fa : FA) : FE := fun L Q => isMl L j = true ∧ fa L fun as L1 => match L1[j]? with
  | some (some (.ml xs)) => xs.all isFr = true ∧ g xs as fun d ys => Q d (L1.set j (some (.ml ys)))
  | _ => False
def UpM (K : PySem.W.Frag) (r : V → List V → Hp → VK → Prop) (g : List D → List D → (D → List D → Prop) → Prop) : Prop := ∀ H F a vs ds us es k Q, H a = some (.lst vs) → FrL K H F vs ds → FrL K H F us es → g ds es k →
  (∀ v' vs' d' ds', k d' ds' → FrL K H F vs' ds' → Fr K H F v' d' → Q v' (upd H a (.lst vs'))) → r (.ref a) us H Q
section
variable {X : Cx} {pn : List (Nat × V)} {e : Expr} {es : List Expr} {f : FE} {fa : FA} {pos cpos apos : Pos}
theorem low_lm {j : Nat} {r : V → List V → Hp → VK → Prop} {g : List D → List D → (D → List D → Prop) → Prop} {σ : L2.St} {H : Hp} {Q : VK} {K : PySem.W.Frag} (up : UpM K r g) (q : low K pn (dLM j g fa) σ H Q) :
    ∃ v, σ[j]? = some (some v) ∧ tyV K "list" v H ∧ lowA K pn fa σ H fun xs H2 => r v xs H2 Q := by
  obtain ⟨F, A, L, R, lo, ⟨hm, h⟩, p⟩ := q
  obtain ⟨a, vs, h1, h2⟩ := isMl_at lo hm
  refine ⟨_, h1, .inl ⟨rfl, _, SqL.of h2⟩, F, A, L, _, lo, h, fun as L1 us F1 A1 H1 g1 x1 lo1 fr => ?_⟩
  split at g1
  · next ds e =>
    obtain ⟨hf, g1⟩ := g1
    obtain ⟨a', vs', k1, k2, k3, put⟩ := slot_list lo1 e hf
    rw [h1] at k1
    cases k1
    refine up H1 F1 a vs' ds us as _ Q k2 k3 fr g1 fun v'' vs'' d'' ds'' k fr' fv => ?_
    obtain ⟨A', l, x⟩ := put fr'
    exact p d'' _ v'' F1 A' _ k (x1.trans x) l (fv.keep (fun _ z => z) fun y o z e' => by
      rw [upd_ne fun w => ?_]
      · exact e'
      · subst w
        obtain ⟨v0, B0, C0, m1, m2, m3, m4, m5⟩ := lo1.loc.out e
        rw [h1] at m1
        cases m1
        cases m2 with
        | fr h => cases h
        | ml h r n => exact (lo1.ok.a _ ((m4 _).mpr (.inl (.inl rfl)))).1 z)
  · exact g1.elim
def gApp : List D → List D → (D → List D → Prop) → Prop := fun xs as k => match as with
  | [d] => xs.length < sizeLine ∧ k .non (xs ++ [d])
  | _ => False
theorem up_app {K : PySem.W.Frag} : UpM K rAppend gApp := by
  intro H F a vs ds us es k Q h r ru g q
  match es, g, ru with
  | [d], g, ru =>
    obtain ⟨u, rfl, fu⟩ := ru.one
    exact ⟨a, vs, u, rfl, rfl, h, by rw [r.length]; exact g.1, q _ _ _ _ g.2 (r.append (.cons fu .nil)) .non⟩
def gPop : List D → List D → (D → List D → Prop) → Prop := fun xs as k => match as with
  | [] => match xs[xs.length - 1]? with
    | some d => k d xs.dropLast
    | none => False
  | _ => False
theorem FrL.dropLast {K : PySem.W.Frag} {H : Hp} {F : Fp} {vs : List V} {ds : List D} (h : FrL K H F vs ds) : FrL K H F vs.dropLast ds.dropLast := by
  rw [List.dropLast_eq_take, List.dropLast_eq_take, h.length]
  exact h.take _
theorem up_pop {K : PySem.W.Frag} : UpM K rPop gPop := by
  intro H F a vs ds us es k Q h r ru g q
  match es, g, ru with
  | [], g, ru =>
    cases ru
    unfold gPop at g
    simp only at g
    split at g
    · next d e =>
      obtain ⟨v, ev, fv⟩ := r.get' e
      exact ⟨a, vs, v, rfl, rfl, h, by rw [r.length]; exact ev, q _ _ _ _ g r.dropLast fv⟩
    · exact g.elim
def gRev : List D → List D → (D → List D → Prop) → Prop := fun xs as k => match as with
  | [] => k .non xs.reverse
  | _ => False
theorem FrL.reverse {K : PySem.W.Frag} {H : Hp} {F : Fp} : ∀ {vs : List V} {ds : List D}, FrL K H F vs ds → FrL K H F vs.reverse ds.reverse
  | _, _, .nil => .nil
  | _, _, .cons h r => by
    rw [List.reverse_cons, List.reverse_cons]
    exact r.reverse.append (.cons h .nil)
theorem up_rev {K : PySem.W.Frag} : UpM K rReverse gRev := by
  intro H F a vs ds us es k Q h r ru g q
  match es, g, ru with
  | [], g, ru =>
    cases ru
    exact ⟨a, vs, rfl, rfl, h, q _ _ _ _ g r.reverse .non⟩
def gIns : List D → List D → (D → List D → Prop) → Prop := fun xs as k => match as with
  | [.int i, d] => xs.length < sizeLine ∧ 0 ≤ i ∧ i < 2 ^ 63 ∧ k .non (xs.take i.toNat ++ [d] ++ xs.drop i.toNat)
  | _ => False
def rIns : V → List V → Hp → VK → Prop := fun x vs H Q => ∃ (l : Addr) (xs : List V) (i : Int) (y : V), x = .ref l ∧ vs = [.int i, y] ∧ H l = some (.lst xs) ∧ xs.length < sizeLine ∧ 0 ≤ i ∧ i < 2 ^ 63 ∧
    Q .non (upd H l (.lst (xs.take i.toNat ++ [y] ++ xs.drop i.toNat)))
theorem up_ins {K : PySem.W.Frag} : UpM K rIns gIns := by
  intro H F a vs ds us es k Q h r ru g q
  match es, g, ru with
  | [.int i, d], g, ru =>
    obtain ⟨v, u, rfl, fv, fu⟩ := ru.two
    cases fv
    exact ⟨a, vs, i, u, rfl, rfl, h, by rw [r.length]; exact g.1, g.2.1, g.2.2.1, q _ _ _ _ g.2.2.2 (((r.take _).append (.cons fu .nil)).append (r.drop _)) .non⟩
def gExt : List D → List D → (D → List D → Prop) → Prop := fun xs as k => match as with
  | [.lst ys] => xs.length + ys.length ≤ sizeLine ∧ k .non (xs ++ ys)
  | _ => False
theorem up_ext {K : PySem.W.Frag} : UpM K rExtend gExt := by
  intro H F a vs ds us es k Q h r ru g q
  match es, g, ru with
  | [.lst ys], g, ru =>
    obtain ⟨u, rfl, fu⟩ := ru.one
    cases fu with
    | lst f' h' r' => exact ⟨a, _, vs, _, rfl, rfl, h, h', by rw [r.length, r'.length]; exact g.1, q _ _ _ _ g.2 (r.append r') .non⟩
/-- x.m(e, ..) of the list in slot j -/
theorem d_lm (j : Nat) {x name : Str} {id : String} {px : Pos} {r : V → List V → Hp → VK → Prop} {g : List D → List D → (D → List D → Prop) → Prop} (pa : PlainAttrs "list") (slot : Slot "list" name id) (hty : typeOf (.builtin id) = pure (.type "method_descriptor")) (hm : MtR X id r) (up : UpM X.K r g)
    (ha : DA X pn (e :: es) fa) (hN : X.N[j]? = some x := by rfl) (hv : Vis X.env.scope x := by first | exact Or.inl rfl | exact Or.inr (Or.inl rfl) | exact Or.inr (Or.inr rfl)) (hd : (x == ("__debug__" : Str)) = false := by decide)
    (hcd : (x == ("__classdict__" : Str)) = false := by decide)
    (hbase : attributeBase (.Name x px) name X.env (eval (.Name x px) X.env) = eval (.Name x px) X.env := by rfl)
    (hfew : ((backTo cpos (starEach (e :: es) X.env)).all (fun x => !x.1) && (backToKw cpos (keywordEach [] X.env)).all (fun x => x.1.isSome)
      && decide ((e :: es).length + ([] : List Keyword).length + (if ([] : List Keyword).isEmpty then 0 else 1) < 30)) = true := by rfl)
    (hline : (apos.endLine == cpos.line) = true := by rfl) (hs : starEach (e :: es) X.env = (false, eval e X.env) :: starEach es X.env := by rfl) (hplain : (backTo cpos (starEach es X.env)).any (·.1) = false := by rfl) :
    DE X pn (.Call (.Attribute (.Name x px) name apos) (e :: es) [] cpos) (dLM j g fa) := pe_weak (pe_bm pa slot hty hm (pe_var hN hv hd hcd) ha hbase hfew hline hs hplain) fun σ H Q q => low_lm up q
/-- x.m() -/
theorem d_lm0 (j : Nat) {x name : Str} {id : String} {px : Pos} {r : V → List V → Hp → VK → Prop} {g : List D → List D → (D → List D → Prop) → Prop} (pa : PlainAttrs "list") (slot : Slot "list" name id) (hty : typeOf (.builtin id) = pure (.type "method_descriptor")) (hm : MtR X id r) (up : UpM X.K r g)
    (hN : X.N[j]? = some x := by rfl) (hv : Vis X.env.scope x := by first | exact Or.inl rfl | exact Or.inr (Or.inl rfl) | exact Or.inr (Or.inr rfl)) (hd : (x == ("__debug__" : Str)) = false := by decide)
    (hcd : (x == ("__classdict__" : Str)) = false := by decide)
    (hbase : attributeBase (.Name x px) name X.env (eval (.Name x px) X.env) = eval (.Name x px) X.env := by rfl) (hline : (apos.endLine == cpos.line) = true := by rfl) :
    DE X pn (.Call (.Attribute (.Name x px) name apos) [] [] cpos) (dLM j g dNilA) := pe_weak (pe_bm0 pa slot hty hm (pe_var hN hv hd hcd) hbase hline) fun σ H Q q => by
  obtain ⟨v, h1, h2, F, A, L, R, lo, h, p⟩ := low_lm up q
  exact ⟨v, h1, h2, p [] L [] F A H h .refl lo .nil⟩
/-- x[i] = e in a list -/
def dSetIx (j : Nat) (fi fv : FE) : FS := fun E L => isMl L j = true ∧ fv L fun d L1 => isMl L1 j = true ∧ fi L1 fun y L2 => match y with
  | .int i => match L2[j]? with
    | some (some (.ml xs)) => xs.all isFr = true ∧ match ixN xs.length i with
      | some n => E.nx (L2.set j (some (.ml (xs.set n d))))
      | none => False
    | _ => False
  | _ => False
theorem FrL.set {K : PySem.W.Frag} {H : Hp} {F : Fp} {v : V} {d : D} (hd : Fr K H F v d) : ∀ {vs : List V} {ds : List D} (n : Nat), FrL K H F vs ds → FrL K H F (vs.set n v) (ds.set n d)
  | _, _, _, .nil => .nil
  | _, _, 0, .cons h r => .cons hd r
  | _, _, n + 1, .cons h r => .cons h (r.set hd n)
theorem d_setIx (j : Nat) {x : Str} {i value : Expr} {fi fv : FE} {px ps : Pos} (hi : DE X pn i fi) (hv' : DE X pn value fv) (hN : X.N[j]? = some x := by rfl) (hv : Vis X.env.scope x := by first | exact Or.inl rfl | exact Or.inr (Or.inl rfl) | exact Or.inr (Or.inr rfl)) (hd : (x == ("__debug__" : Str)) = false := by decide)
    (hcd : (x == ("__classdict__" : Str)) = false := by decide)
    (ha : ∀ v, assign (.Subscript (.Name x px) i ps) X.env v = (do
      let ov ← holding [v] (eval (.Name x px) X.env)
      let iv ← holding [v, ov] (eval i X.env)
      standAt ps
      holding [v, ov, iv] (setItem ov iv v)
      release [v, ov, iv] []) := by intro _; rfl)
    (hs : swapsWithSole [.Subscript (.Name x px) i ps] value pos.line X.env = pure false := by rfl) (hw : swappedStores [.Subscript (.Name x px) i ps] value X.env = pure none := by rfl)
    (h1 : (assignEach [.Subscript (.Name x px) i ps] X.env).map (·.2) = [assign (.Subscript (.Name x px) i ps) X.env] := by rfl) : DS X pn (.Assign [.Subscript (.Name x px) i ps] value pos) (dSetIx j fi fv) :=
  ps_weak (ps_asg hv' (pg_sub (pe_var hN hv hd hcd) hi set_list ha) hs hw h1) fun E σ H q => by
  obtain ⟨F, A, L, D, lo, ⟨_, h⟩, p⟩ := q
  refine ⟨F, A, L, _, lo, h, fun d L1 v F1 A1 H1 ⟨m1, g1⟩ x1 lo1 fr => ?_⟩
  obtain ⟨a, vs, k1, k2⟩ := isMl_at lo1 m1
  refine ⟨_, k1, F1, A1, L1, _, lo1, g1, fun y L2 u F2 A2 H2 g2 x2 lo2 fu => ?_⟩
  cases fu with
  | int n =>
    simp only at g2
    split at g2
    · next xs e =>
      obtain ⟨hf, g2⟩ := g2
      split at g2
      · next m em =>
        obtain ⟨a', vs', m1, m2, m3, put⟩ := slot_list lo2 e hf
        rw [k1] at m1
        cases m1
        obtain ⟨A', l, x⟩ := put (m3.set (fr.ext lo1.ok x2) m)
        exact ⟨_, _, n, m, rfl, rfl, m2, by rw [m3.length]; exact em, p.nx _ _ F2 A' _ g2 ((x1.trans x2).trans x) l⟩
      · exact g2.elim
    · exact g2.elim
  | _ => exact g2.elim
/-! #### new owned objects -/
def dNewL : FE := fun L Q => Q (.ml []) L
def dNewK : FE := fun L Q => Q (.mK []) L
def dNewT : FE := fun L Q => Q (.mT []) L
theorem newOwn {K : PySem.W.Frag} {H : Hp} {F A : Fp} {σ : L2.St} {L : Ls} {R : D → Ls → Prop} {Q : VK} {p : Addr} {o : HO} {d : D} {B : Fp} (lo : Lo K H F pn σ L A) (np : H p = none) (ow : Ow K (upd H p o) F (.ref p) d B) (hb : ∀ a, B a → a = p) (h : R d L) (post : PostN K pn σ H F A R Q) : Q (.ref p) (upd H p o) := by
  obtain ⟨nF, nA⟩ := lo.ok.new np
  have k : ∀ a u, H a = some u → upd H p o a = some u := fun a u e => by rw [upd_ne (ne_of_none e np)]; exact e
  refine post d L _ F A B _ h ⟨fun _ z => z, fun _ z => .inl z, fun a u e _ => k a u e, fun a z => z.imp_right fun z => by rw [hb a z]; exact np⟩ ⟨lo.loc.keep (fun _ z => z) fun a u _ => k a u, ⟨fun a z => ?_, fun a z => ?_⟩, lo.pin⟩ ow ⟨fun a z => ?_, fun a z => ?_⟩ fun a z y => nA (by rw [← hb a z]; exact y)
  · obtain ⟨u, e⟩ := lo.ok.f a z
    exact ⟨u, k a u e⟩
  · obtain ⟨nf, u, e⟩ := lo.ok.a a z
    exact ⟨nf, u, k a u e⟩
  · obtain ⟨u, e⟩ := lo.ok.f a z
    exact ⟨u, k a u e⟩
  · rw [hb a z]; exact ⟨nF, _, upd_same⟩
theorem d_newL : DN X pn (.List [] pos) dNewL := pe_weak (pe_lst pa_nil) fun σ H Q q => by
  obtain ⟨F, A, L, R, lo, h, p⟩ := q
  exact ⟨Nat.zero_le _, fun a n => newOwn lo n (.ml upd_same .nil fun z => z) (fun b z => z.elim id fun z => z.elim) h p⟩
theorem d_newK : DN X pn (.Dict [] [] pos) dNewK := pe_weak pe_dnewK fun σ H Q q => by
  obtain ⟨F, A, L, R, lo, h, p⟩ := q
  exact fun a n => newOwn lo n (.mK (kvs := []) upd_same rfl .nil fun z => z) (fun b z => z.elim id fun z => z.elim) h p
theorem d_newT : DN X pn (.Dict [] [] pos) dNewT := pe_weak pe_dnewT fun σ H Q q => by
  obtain ⟨F, A, L, R, lo, h, p⟩ := q
  exact fun a n => newOwn lo n (.mT (kvs := []) upd_same rfl .nil fun z => z) (fun b z => z.elim id fun z => z.elim) h p
/-- list(e), [a, b]: new and owned -/
def dThaw (f : FE) : FE := fun L Q => f L fun x L1 => match x with
  | .lst xs => Q (.ml xs) L1
  | _ => False
theorem d_lstM (h : DA X pn es fa) : DN X pn (.List es pos) (dThaw (dAp gLstD fa)) := pe_weak (pe_lst h) fun σ H Q q => by
  obtain ⟨F, A, L, R, lo, h, p⟩ := q
  refine ⟨F, A, L, _, lo, h, fun ds L1 vs F1 A1 H1 ⟨g1, g2⟩ x1 lo1 fr => ⟨by rw [fr.length]; exact g1, fun a n => ?_⟩⟩
  obtain ⟨nF, nA⟩ := lo1.ok.new n
  obtain ⟨C, oc, nc⟩ := (fr.owU (H' := H1) (o := .lst vs) nF).ow
  exact newOwn lo1 n (.ml upd_same oc (nc _)) (fun b z => z.elim id fun z => (nc b z).elim) g2 (p.on x1)
theorem d_listM {x : Str} {p' : Pos} (hg : Gl X x) (hm : X.mg x = none) (hv : bootBuiltins x = some (.type "list")) (ha : DA X pn (e :: es) fa) (hn : x ≠ "__name__" := by decide) (hdb : (x == ("__debug__" : Str)) = false := by decide)
    (he : starEach (e :: es) X.env = (false, eval e X.env) :: starEach es X.env := by rfl) (hpl : (backTo pos (starEach es X.env)).any (·.1) = false := by rfl) : DN X pn (.Call (.Name x p') (e :: es) [] pos) (dThaw (dAp gLstF fa)) :=
  pe_weak (pe_callTy call_list_of hg hm hv ha hn hdb he hpl) fun σ H Q q => by
  obtain ⟨F, A, L, R, lo, h, p⟩ := q
  refine ⟨F, A, L, _, lo, h, fun ds L1 vs F1 A1 H1 g x1 lo1 fr => ?_⟩
  have fin : ∀ {b : Addr} {ys : List V} {es : List D}, FrL X.K H1 F1 ys es → R (.ml es) L1 → H1 b = none → Q (.ref b) (upd H1 b (.lst ys)) := fun {b ys es} fy r n => by
    obtain ⟨nF, nA⟩ := lo1.ok.new n
    obtain ⟨C, oc, nc⟩ := (fy.owU (H' := H1) (o := .lst ys) nF).ow
    exact newOwn lo1 n (.ml upd_same oc (nc _)) (fun b z => z.elim id fun z => (nc b z).elim) r (p.on x1)
  match ds, g, fr with
  | [.lst xs], g, fr =>
    obtain ⟨v, rfl, f1⟩ := fr.one
    cases f1 with
    | lst f h r => exact ⟨_, _, rfl, .inl (SqL.of h), fun l n => fin r g n⟩
  | [.tup xs], g, fr =>
    obtain ⟨v, rfl, f1⟩ := fr.one
    cases f1 with
    | tup f h r => exact ⟨_, _, rfl, .inr (SqT.of h), fun l n => fin r g n⟩
  | [.scr ns], g, fr =>
    obtain ⟨v, rfl, f1⟩ := fr.one
    obtain ⟨a, rfl, hq⟩ := f1.scrSeq
    exact ⟨_, _, rfl, .inl hq, fun l n => fin .ints g n⟩
  | [.ptu ns], g, fr =>
    obtain ⟨v, rfl, f1⟩ := fr.one
    cases f1 with
    | ptu f h => exact ⟨_, _, rfl, .inr h.sq, fun l n => fin .ints g n⟩
  | [], g, _ => exact False.elim g
  | a :: _ :: _, g, _ => cases a <;> exact False.elim g
  | [.non], g, _ | [.bl _], g, _ | [.int _], g, _ | [.str _], g, _ | [.fn _], g, _ | [.dK _], g, _ | [.dT _], g, _ | [.ml _], g, _ | [.mK _], g, _ | [.mT _], g, _ | [.mo _ _], g, _ | [.xc _ _], g, _ | [.er _ _], g, _ => exact False.elim g
end
end DL

/-! Short words. -/
namespace DL
open PySem PySem.Spec PyProof.Rows L2
/-- a def of the text where it stands, and how it is called -/
structure Df (K : PySem.W.Frag) (mg : Str → Option Value) (x : Str) (st : Stmt) (ps : List Str) (f : Addr) (fd : FuncData) : Prop where
  F : Fun K x x st f fd
  b : Binds K fd ps []
  g : mg x = some (.ref f)
theorem u0 {k : Nat} {A : Around} (h : Room k A) : A.units < cLine := by have := h.un; omega
theorem u1 {k : Nat} {A : Around} (h : Room k A) : A.units + 1 < cLine := by have := h.un; omega
theorem u64 {k : Nat} {A : Around} (h : Room k A) : A.units + 64 < cLine := by have := h.un; omega
theorem u65 {k : Nat} {A : Around} (h : Room k A) : A.units + 65 < cLine := by have := h.un; omega
theorem hp1 {pn : List (Nat × V)} {i : Nat} {x : Str} (h : (pn.any fun p => p.1 == i) = false) : (lcOwn [(x, i)]).all (fun v => !pn.any fun p => p.1 == v) = true := by
  show (!(pn.any fun p => p.1 == i) && true) = true
  rw [h]; rfl
theorem hp2 {pn : List (Nat × V)} {i j : Nat} {x y : Str} (h : (pn.any fun p => p.1 == i) = false) (h' : (pn.any fun p => p.1 == j) = false) : (lcOwn [(x, i), (y, j)]).all (fun v => !pn.any fun p => p.1 == v) = true := by
  show (!(pn.any fun p => p.1 == i) && (!(pn.any fun p => p.1 == j) && true)) = true
  rw [h, h']; rfl
/-! ### ints -/
theorem fzL_ints (l : List Int) : fzL (l.map D.int) = l.map D.int := by
  induction l with
  | nil => rfl
  | cons i r ih => rw [List.map_cons, fzL, ih]; rfl
theorem noMoL_ints (l : List Int) : noMoL (l.map D.int) = true := by
  induction l with
  | nil => rfl
  | cons i r ih => rw [List.map_cons, noMoL, ih]; rfl
theorem allFr_ints (l : List Int) : (l.map D.int).all isFr = true := by
  induction l with
  | nil => rfl
  | cons i r ih => rw [List.map_cons, List.all_cons, ih]; rfl
theorem noLL_ints (l : List Int) : noLL (l.map D.int) = true := by
  induction l with
  | nil => rfl
  | cons i r ih => rw [List.map_cons, noLL, ih]; rfl
theorem fz_mlI (l : List Int) : fz (.ml (l.map D.int)) = .lst (l.map D.int) := by simp only [fz, fzL_ints]
theorem noMo_mlI (l : List Int) : noMo (.ml (l.map D.int)) = true := by simp only [noMo, noMoL_ints]
abbrev mlI (l : List Int) : D := .ml (l.map .int)
abbrev lstI (l : List Int) : D := .lst (l.map .int)
abbrev tupI (l : List Int) : D := .tup (l.map .int)
end DL
namespace DL
open PySem PySem.Spec PyProof.Rows L2
theorem cond2 {c : Bool} {A B : Prop} (h1 : c = true → A) (h2 : c = false → B) : bif c then A else B := by
  cases c with
  | true => exact h1 rfl
  | false => exact h2 rfl
theorem dec2 {c A B : Prop} [Decidable c] (h1 : c → A) (h2 : ¬ c → B) : bif decide c then A else B := cond2 (fun h => h1 (of_decide_eq_true h)) fun h => h2 (of_decide_eq_false h)
end DL
namespace DL
open PySem PySem.Spec PyProof.Rows L2
theorem rng_get {lo hi : Int} {i : Nat} {d : D} (h : (rng lo hi)[i]? = some d) : d = .int (lo + (i : Nat)) ∧ lo + (i : Nat) < hi := by
  unfold rng at h
  rw [List.getElem?_map, Option.map_eq_some_iff] at h
  obtain ⟨j, h, rfl⟩ := h
  obtain ⟨h1, h2⟩ := List.getElem?_eq_some_iff.mp h
  rw [List.getElem_range] at h2
  rw [List.length_range] at h1
  subst h2
  exact ⟨rfl, by omega⟩
theorem rng_length (lo hi : Int) : (rng lo hi).length = (hi - lo).toNat := by unfold rng; rw [List.length_map, List.length_range]
/-- the ints from lo below hi -/
def upto (lo hi : Int) : List Int := (List.range (hi - lo).toNat).map fun i => lo + (i : Nat)
theorem rng_upto (lo hi : Int) : rng lo hi = (upto lo hi).map D.int := by unfold rng upto; rw [List.map_map]; rfl
theorem mem_upto {lo hi i : Int} : i ∈ upto lo hi ↔ lo ≤ i ∧ i < hi := by
  unfold upto
  simp only [List.mem_map, List.mem_range]
  constructor
  · rintro ⟨j, h, rfl⟩
    omega
  · intro h
    exact ⟨(i - lo).toNat, by omega, by omega⟩
theorem upto_length (lo hi : Int) : (upto lo hi).length = (hi - lo).toNat := by unfold upto; rw [List.length_map, List.length_range]
theorem upto_get {lo hi : Int} {i : Nat} (h : i < (hi - lo).toNat) : (upto lo hi)[i]? = some (lo + (i : Nat)) := by
  unfold upto
  rw [List.getElem?_map, List.getElem?_range h]
  rfl
theorem small_le {n : Nat} (h : n ≤ 100000) : n ≤ sizeLine := Nat.le_trans h (by decide)
theorem small_lt {n : Nat} (h : n < 100000) : n < sizeLine := Nat.lt_of_lt_of_le h (by decide)
theorem atI_nat' {α : Type} {xs : List α} {i : Int} {j : Nat} {x : α} (e : i = (j : Nat)) (h : xs[j]? = some x) : atI xs i = some x := by subst e; exact atI_nat h
theorem atI_mem {α : Type} {xs : List α} {i : Int} (h0 : 0 ≤ i) (h1 : i < xs.length) : ∃ x, x ∈ xs ∧ atI xs i = some x ∧ xs[i.toNat]? = some x := by
  have h2 : i.toNat < xs.length := by omega
  exact ⟨xs[i.toNat], List.getElem_mem h2, atI_nat' (j := i.toNat) (by omega) (List.getElem?_eq_getElem h2), List.getElem?_eq_getElem h2⟩
end DL

/-! enumerate of a tuple. -/
namespace NR
open PySem PySem.Spec PyProof.Rows L2
/-- the enumerate object over the iterator that stands at i -/
abbrev enumObj (i : Addr) : Obj := { cls := .type "enumerate", data := .fields #[.none, .bool false, .ref i, rawInt 0, .none, .none] }
theorem enum_new {v : Value} {o : Obj} {G : Heap → Prop} (B : Begins v o G) : Meets (Builtin.«enumerate.__new__» ⟨[.type "enumerate", v], []⟩) fun _ R s =>
    G s.heap ∧ R (.ok (.ret (.ref (s.heap.push o).objs.size))) { s with heap := (s.heap.push o).push (enumObj s.heap.objs.size) } :=
  .of_wp fun prog w A R s hs => by
    obtain ⟨hp, gs, dr, tk, os⟩ := s
    obtain ⟨g, hs⟩ := hs
    have sub := sub_enumerate
    have it : ∀ {A' : Around} {E Q : Value → Shared → Prop}, Q (.ref hp.objs.size) ⟨hp.push o, gs, dr, tk, os⟩ → wpAny (model prog w) A' (pyIter v) Q E ⟨hp, gs, dr, tk, os⟩ := fun q => B.iter _ _ _ _ _ _ g q
    wp_walk using it
    refine wpAny_stack_any fun st => wpAny_pure ?_
    split
    · rename_i cl _ _ _ _ _
      cases (cl == Value.type "enumerate") <;> (wp_walk using it; exact ⟨_, rfl, hs⟩)
    · wp_walk using it; exact ⟨_, rfl, hs⟩
section
variable {P : Program} {w : World} {A : Around} {E : Value → Shared → Prop} {s : Shared}
theorem call_enum1 {v : Value} {o : Obj} {G : Heap → Prop} {Q : Value → Shared → Prop} (B : Begins v o G) (g : G s.heap)
    (q : ∀ h', IsEnum h' (s.heap.objs.size + 1) s.heap.objs.size 0 .none → h'.get? s.heap.objs.size = some o → (∀ b u, s.heap.get? b = some u → h'.get? b = some u) → Q (.ref (s.heap.objs.size + 1)) { s with heap := h' }) :
    wpAny (model P w) A (call (.type "enumerate") [v]) Q E s := by
  refine callType_new F.called_enumerate (by decide) (F.typeCall_enumerate_1 _) (F.newCall_enumerate_1 _) (fun obj => F.args_object_init_2 obj _) F.entry_enumerate_new (enum_new B) ⟨g, ?_⟩
  have sz : (s.heap.push o).objs.size = s.heap.objs.size + 1 := Heap.size_push ..
  show _ ∧ _
  rw [sz]
  have at1 : ((s.heap.push o).push (enumObj s.heap.objs.size)).get? (s.heap.objs.size + 1) = some (enumObj s.heap.objs.size) := by
    have z := Heap.get?_push_size (s.heap.push o) (o := enumObj s.heap.objs.size) rfl
    rw [sz] at z
    exact z
  exact ⟨⟨_, at1, rfl⟩, q _ at1 (Heap.get?_push_of_some _ (Heap.get?_push_size _ B.free)) fun b u e => Heap.get?_push_of_some _ (Heap.get?_push_of_some _ e)⟩
end
section
variable {P : Program} {w : World} {A : Around} {E : Value → Shared → Prop} {s : Shared}
theorem next_enum_endT {e it a : Addr} {i : Nat} {c : Int} {items : Array Value} {old : Value} {Q : Option Value → Shared → Prop} (hh : A.handled = none) (he : IsEnum s.heap e it c old) (hit : s.heap.IsTupleIter it a i) (ha : s.heap.IsTuple a items) (hx : items[i]? = none)
    (q : ∀ h', Heap.ExtBut it s.heap h' → Q none { s with heap := h' }) : wpAny (model P w) A (pyNext (.ref e)) Q E s := by
  have ty : s.TypeIs (.ref e) "enumerate" := ⟨_, he, rfl⟩
  have hh1 : A.in1.handled = none := by simp [hh]
  unfold pyNext
  refine wpAny_bind (wpAny_attempt (wpAny_callSpecial?_slot (name := Str.ofString "__next__") ty F.slot_enumerate_next (wpAny_call_entry F.slot_enumerate_next ty F.entry_enumerate_next ?_ (F.args_enumerate_next_1 _)))); show wpAny _ _ (field (.ref e) 2 >>= _) _ _ _
  refine wpAny_bind (wpAny_field he rfl (x := .ref it) rfl (wpAny_bind (wpAny_nextOf_tuple_end hh1 hit ha hx fun h' x ex hx' => ?_)))
  obtain ⟨o, ho, hc⟩ := hx'
  exact wpAny_bind (wpAny_isInstance (T := "StopIteration") (b := true) ⟨o, ho, hc⟩ isSubtype_stop (wpAny_pure (q _ ex)))
end
/-- the turns over a tuple -/
def IteT (K : PySem.W.Frag) (a : Addr) : It :=
  ⟨fun i H => ∃ (xs : List V) (x : V), SqT K H a xs ∧ xs[i]? = some x, fun i H v H' => ∃ T x, v = .ref T ∧ H T = none ∧ H' = upd H T (.tup [.int (i : Nat), x]) ∧ ∀ xs, SqT K H a xs → xs[i]? = some x, fun i H => ∃ xs : List V, SqT K H a xs ∧ xs.length ≤ i⟩
theorem turn_enumT {P : Program} {w : World} {K : PySem.W.Frag} {elts : List Expr} {kk : Nat} {tpos : Pos} (a e it : Addr) (ne : e ≠ it) (nea : e ≠ a) (nia : a ≠ it) :
    L2.Turn P w K (.Tuple elts kk tpos) (IteT K a) [e, it] e (fun i h => (∃ old, IsEnum h e it ((i : Nat) : Int) old) ∧ h.IsTupleIter it a i) where
  mem := by simp
  obj := fun i h st b hb => by
    obtain ⟨⟨old, he⟩, o, ho, hc, hd⟩ := st
    rcases (show b = e ∨ b = it by simpa using hb) with z | z
    · rw [z]; exact ⟨_, he, fun v q => nomatch q⟩
    · rw [z]; exact ⟨o, ho, fun v q => by rw [hd] at q; cases q⟩
  keep := fun i h h' st k => by
    obtain ⟨⟨old, he⟩, hi⟩ := st
    exact ⟨⟨old, k e (by simp) _ he⟩, hi.at fun o q => k it (by simp) o q⟩
  item := by
    intro X hP hw hK hc i pins s σ H E I hf st hg
    subst hP hw hK
    obtain ⟨⟨old, he⟩, hit⟩ := st
    obtain ⟨xs, x, hq, hx⟩ := hg
    obtain ⟨its, rv, p, hz⟩ := I.tuple hq
    obtain ⟨u, hu, ru⟩ := rv.get hx
    have lt : i < its.toArray.size := by
      have := (List.getElem?_eq_some_iff.mp hu).1
      simpa using this
    have le : e < s.heap.objs.size := Heap.lt_size he
    have li : it < s.heap.objs.size := by obtain ⟨_, q, _⟩ := hit; exact Heap.lt_size q
    have D := Draws.tuple (prog := X.prog) (w := X.w) (A := X.A.in1) (by have := I.ok.hd hc; simp [this]) it a nia its.toArray
    refine wpAny_pyNext_enum_itemD D he ⟨hit, p⟩ lt ne (by simp only [List.mem_cons, List.not_mem_nil, or_false, not_or]; exact ⟨ne, nea⟩) fun y h1 tk hy ho hst hT hsz hk => ?_
    have ey : y = u := by
      have : its.toArray[i]? = some u := by simpa using hu
      rw [this] at hy
      exact (Option.some.inj hy).symm
    subst ey
    refine ⟨_, rfl, wpAny_letOwnedTupleGo_enum (s := { s with heap := h1, toks := tk + 1 }) ho fun h2 he2 sb => ?_⟩
    have hT2 : h2.get? s.heap.objs.size = some { cls := .type "tuple", data := .seq #[.int i tk, y] } := (sb.2 _ (Nat.ne_of_gt le)).trans hT
    have new : ObjOk X.prog X.w (upd H s.heap.objs.size (.tup [.int (i : Nat), x])) h2 s.heap.objs.size (.tup [.int (i : Nat), x]) :=
      ⟨by show 2 ≤ sizeLine; decide, [.int i tk, y], .cons ⟨_, rfl⟩ (.cons ru .nil), ⟨_, hT2, rfl, _, rfl⟩⟩
    have I1 : Inv X pins σ (upd H s.heap.objs.size (.tup [.int (i : Nat), x])) { s with heap := h2, toks := tk + 1 } :=
      I.turnedNew (ch := [e, it]) (fun b ob hb q => (sb.2 b (fun z => hb (by simp [z]))).trans (hk b ob (fun z => hb (by simp [z])) (fun z => hb (by simp [z])) q)) hf (Nat.le_refl _) new
    refine ⟨.ref s.heap.objs.size, _, I1, rfl, ⟨_, x, rfl, I.hok.fresh (Nat.le_refl _), rfl, fun ys hy => by rw [I.tuple_inj hy hq]; exact hx⟩, ⟨⟨y, ?_⟩, hst.1.at fun o q => (sb.2 it (Ne.symm ne)).trans q⟩, fun b hb => ?_⟩
    · have e1 : ((i + 1 : Nat) : Int) = (i : Int) + 1 := by omega
      rw [e1]; exact he2
    · have hb2 : b < s.heap.objs.size := by
        rcases (show b = e ∨ b = it by simpa using hb) with z | z
        · rw [z]; exact le
        · rw [z]; exact li
      rw [upd_ne (Nat.ne_of_lt hb2)]
      exact (hf b hb).1
  done := by
    intro X hP hw hK hc i pins s σ H E I hf st hg
    subst hP hw hK
    obtain ⟨⟨old, he⟩, hit⟩ := st
    obtain ⟨xs, hq, hx⟩ := hg
    obtain ⟨its, rv, p, hz⟩ := I.tuple hq
    obtain ⟨f0, f1, f2, f3, f4, f5⟩ := hf it (by simp)
    have lv := rv.length
    refine next_enum_endT (I.ok.hd hc) he hit p (by simp; omega) fun h' eb => ⟨rfl, I.turned (t' := s.toks) (fun b o hb q => eb b o hb q) f0 f1 f3 f4 f5⟩
  self := fun A i s Q E st h => by
    obtain ⟨⟨_, he⟩, _⟩ := st
    exact wpAny_pyIter_enum he h
end NR

/-! set of a list or a tuple of ints. -/
namespace NR
open PySem PySem.Spec PyProof.Rows L2
section
variable {P : Program} {w : World} {A : Around} {E : Value → Shared → Prop} {s : Shared}
def FilledI (w : World) (s : Shared) (ns : List Int) (r : Value) (s2 : Shared) : Prop := r = .none ∧ ∃ h' tk c, s2 = { s with heap := h', toks := tk } ∧ L2.SetR w h' s.heap.objs.size (fun j => decide (j ∈ ns)) c ∧ c ≤ ns.length ∧ ∀ b o, s.heap.get? b = some o → h'.get? b = some o
set_option maxHeartbeats 8000000 in
theorem call_set_intsL {l : Addr} {items : Array Value} (ns : List Int) {Q : Value → Shared → Prop} (hh : A.handled = none) (hl : s.heap.IsList l items) (hit : IntsAre items.toList ns) (hfew : ns.length + 1 < scanBound)
    (h : ∀ (h' : Heap) (tk c : Nat), L2.SetR w h' s.heap.objs.size (fun j => decide (j ∈ ns)) c → c ≤ ns.length → (∀ b o, s.heap.get? b = some o → h'.get? b = some o) → Q (.ref s.heap.objs.size) { s with heap := h', toks := tk }) :
    wpAny (model P w) A (call (.type "set") [.ref l]) Q E s := by
  have isz : items.size = ns.length := by have q := IntsAre.length hit; rw [Array.length_toList] at q; exact q
  obtain ⟨c, tl, hmro⟩ := F.called_set.mro
  have a1 := F.called_set.made; have a2 := F.called_set.sub; have a3 := F.called_set.notType; have a4 := F.called_set.canCreate; have a5 := F.typeCall_set_1 (.ref l)
  refine wpAny_call (codeAny_of_tree ?_); show wpAny _ _ (callAny (.type "set") _) _ _ _
  refine wpAny_pure ⟨Code.quiet_builtin _ (by decide +kernel), codeAny_builtin F.entry_type_call ?_⟩; rw [Around.under_plain (weight_type_call_type "set" [.ref l] []) rfl]
  repeat (any_goals (first | assumption | wp_step))
  refine codeAny_mono (L2.code_set_led1 (.ref l) (E := E) (Q₁ := fun obj s₁ => obj = .ref s.heap.objs.size ∧ s₁ = { s with heap := hpSet w s.heap }) ⟨rfl, rfl⟩) fun r s₁ hr => ?_
  cases r with
  | error e => exact hr
  | ok fl =>
    cases fl with
    | ret obj =>
      obtain ⟨rfl, rfl⟩ := hr
      have atS : (hpSet w s.heap).get? s.heap.objs.size = some (freshSet w) := Heap.get?_push_size _ rfl
      have isS : Shared.TypeIs { s with heap := hpSet w s.heap } (.ref s.heap.objs.size) "set" := ⟨_, atS, rfl⟩
      have b1 := F.called_set.init.lookup; have b2 := F.called_set.init.bind (.ref s.heap.objs.size)
      repeat (any_goals (first | assumption | wp_step))
      refine codeAny_mono (codeAny_call_builtin (R := wants (FilledI w s ns) E) F.called_set.init.plain F.entry_set_init (check_set_init_1 isS ?_)) fun r₂ s₂ hr₂ => ?_
      · obtain ⟨ol, hol, hcl, nl, hdl⟩ := hl
        obtain ⟨ocls, odict, odata, oslots⟩ := ol
        simp only at hcl hdl
        subst hcl hdl
        have atl : (hpSet w s.heap).get? l = some { cls := .type "list", dict := odict, data := .seq items nl, slots := oslots } := Heap.get?_push_of_some _ hol
        have c1 := F.sub_list_set; have c2 := F.sub_list_frozenset
        have c3 : (Value.type "list" == Value.type "dict") = false := by decide
        have tl1 : (hpSet w s.heap).IsList l items := ⟨_, atl, rfl, nl, rfl⟩
        unfold Builtin.«set.__init__» noKeywords Builtin.Frozenset.updateFrom
        generalize hPI : pyIter = PI
        wp_walk
        subst hPI
        refine wpAny_pyIter_list tl1 ?_; refine wpAny_bind (wpAny_runValue ?_)
        have hlS : l < s.heap.objs.size := Heap.lt_size hol
        have hh3 : A.in1.in1.in1.handled = none := by simp [hh]
        have sz1 : (hpSet w s.heap).objs.size = s.heap.objs.size + 1 := Heap.size_push ..
        have nI : l ≠ (hpSet w s.heap).objs.size := by rw [sz1]; exact Nat.ne_of_lt (Nat.lt_succ_of_lt hlS)
        have nF : s.heap.objs.size ∉ [(hpSet w s.heap).objs.size, l] := by
          rw [sz1]; simp only [List.mem_cons, List.not_mem_nil, or_false, not_or]; exact ⟨Nat.ne_of_lt (Nat.lt_succ_self _), Nat.ne_of_gt hlS⟩
        have val : ∀ (i : Nat) (v : Value), items[i]? = some v → ∃ k t, ns[i]? = some k ∧ v = .int k t := fun i v hv => by
          have hi : i < ns.length := by rw [← isz]; exact (Array.getElem?_eq_some_iff.mp hv).1
          obtain ⟨t, e⟩ := PyProof.Rows.IntsAre.int_at hit i v (by rw [Array.getElem?_toList]; exact hv)
          have e2 : ns.getD i 0 = ns[i] := by simp [hi]
          exact ⟨ns[i], t, List.getElem?_eq_getElem hi, by rw [e, e2]⟩
        refine L2.set_update_ints ((Walks.list hh3 _ l nI items).toS) s.heap.objs.size nF ns isz hfew val (items.size - 0) 0 _ (by omega) (Nat.zero_le _)
          ⟨⟨_, Heap.get?_push_size _ rfl, rfl, rfl⟩, (tl1.push _)⟩ ⟨0, Nat.le_refl 0, L2.setR_new_at (Heap.get?_push_of_some _ atS)⟩ ?hR
        case hR =>
          intro s' c' hm le fin
          obtain ⟨h', g2, d', tk', os'⟩ := s'
          cases (show g2 = s.gens from hm.gens); cases (show d' = s.drawn from hm.drawn); cases (show os' = s.os from hm.os)
          show wpAny _ _ _ _ _ _
          refine wpAny_pure ?_
          show wpAny _ _ (ret Value.none) _ _ _
          rw [isz] at le
          refine wpAny_pure ⟨rfl, h', tk', c', rfl, fin, le, fun b o e => ?_⟩
          have hb := Heap.lt_size e
          refine hm.heap b o ?_ (Heap.get?_push_of_some _ (Heap.get?_push_of_some _ e))
          simp only [List.mem_cons, List.not_mem_nil, or_false, not_or]
          exact ⟨Nat.ne_of_lt hb, by rw [sz1]; exact Nat.ne_of_lt (Nat.lt_succ_of_lt hb)⟩
      · cases r₂ with
        | error e => exact hr₂
        | ok fl₂ =>
          cases fl₂ with
          | ret r =>
            obtain ⟨rfl, h', tk, c, rfl, fin, le, kept⟩ := hr₂
            repeat (any_goals (first | assumption | wp_step))
            exact h _ _ _ fin le kept
          | _ => exact hr₂.elim
    | _ => exact hr.elim
end
section
variable {X : Cx}
/-- set(ints), a list or a tuple -/
def rSetI (K : PySem.W.Frag) (w : World) : List V → Hp → VK → Prop := fun xs H Q => ∃ (l : Addr) (ns : List Int), xs = [V.ref l] ∧ (SqL K H l (ns.map V.int) ∨ SqT K H l (ns.map V.int)) ∧ ns.length < 4000 ∧
  ∀ a c, H a = none → c ≤ ns.length → Q (.ref a) (upd H a (L2.SetO w a (fun j => decide (j ∈ ns)) c))
theorem cr_setI (hc : X.calm = true) : CallR X (.type "set") (rSetI X.K X.w) := by
  intro pins s σ H xs us Q I r h
  obtain ⟨l, ns, rfl, hl, hf, q⟩ := h
  rw [L2.Vals.ref1 r]
  have nH : H s.heap.objs.size = none := I.hok.fresh (Nat.le_refl _)
  have few : ns.length + 1 < scanBound := by unfold scanBound; omega
  have fin : ∀ (h' : Heap) (tk c : Nat), L2.SetR X.w h' s.heap.objs.size (fun j => decide (j ∈ ns)) c → c ≤ ns.length → (∀ b o, s.heap.get? b = some o → h'.get? b = some o) → EP X pins σ Q (.ref s.heap.objs.size) { s with heap := h', toks := tk } := fun h' tk c R le k =>
    ⟨.ref s.heap.objs.size, upd H s.heap.objs.size (L2.SetO X.w s.heap.objs.size (fun j => decide (j ∈ ns)) c), I.laid (t' := tk) k (Nat.le_refl _) (L2.setO_new R), rfl, q _ c nH le⟩
  rcases hl with hl | hl
  · obtain ⟨its, rv, pl, hz⟩ := I.list hl
    exact call_set_intsL ns (I.ok.hd hc) pl.isList (by simpa using L2.intsAre_of rv) few fin
  · obtain ⟨its, rv, pl, hz⟩ := I.tuple hl
    exact L2.call_set_tupI ns (I.ok.hd hc) pl (by simpa using L2.intsAre_of rv) few fin
end
end NR

/-! enumerate, zip, sorted sets, ranges as values. -/
namespace DL
open PySem PySem.Spec PyProof.Rows L2
section
variable {X : Cx} {pn : List (Nat × V)} {e e2 : Expr} {es : List Expr} {fe fe2 : FE} {ga : FA} {p p2 pos q : Pos}
/-! ### enumerate -/
def enumD (ds : List D) : List D := ds.mapIdx fun i d => .tup [.int (i : Nat), d]
theorem enumD_get {ds : List D} {i : Nat} {d : D} (h : (enumD ds)[i]? = some d) : ∃ x, ds[i]? = some x ∧ d = .tup [.int (i : Nat), x] := by
  unfold enumD at h
  rw [List.getElem?_mapIdx, Option.map_eq_some_iff] at h
  obtain ⟨x, h, rfl⟩ := h
  exact ⟨x, h, rfl⟩
theorem enumD_length (ds : List D) : (enumD ds).length = ds.length := by unfold enumD; rw [List.length_mapIdx]
def iEnumD (f : FE) : FI := fun L Q => f L fun x L1 => match x with
  | .lst ds => Q (enumD ds) L1
  | .tup ds => Q (enumD ds) L1
  | .ptu ns => Q (enumD (ns.map .int)) L1
  | _ => False
theorem pair_new {K : PySem.W.Frag} {H2 : Hp} {F2 : Fp} {T : Addr} {x : V} {d : D} {i : Nat} (n : H2 T = none) (fr : Fr K H2 F2 x d) : ∃ F3, Grow H2 F2 (upd H2 T (.tup [.int (i : Nat), x])) F3 ∧ Fr K (upd H2 T (.tup [.int (i : Nat), x])) F3 (.ref T) (.tup [.int (i : Nat), d]) :=
  ⟨_, grow_new n, new_tup n (.cons (.int _) (.cons fr .nil))⟩
theorem walk_enum {K : PySem.W.Frag} {H : Hp} {F : Fp} {a : Addr} {vs : List V} {ds : List D} (k : ∀ H2 F2, Later F H F2 H2 → SqL K H2 a vs) (r : FrL K H F vs ds) : WalkD K H F (Ite K a) (enumD ds) := by
  refine ⟨fun H2 F2 l => ⟨vs, k H2 F2 l, by rw [enumD_length, r.length]; exact Nat.le_refl _⟩, fun i H2 F2 l hi => ⟨vs, vs[i]'(by rw [enumD_length] at hi; rw [r.length]; exact hi), k H2 F2 l, by simp⟩, fun i H2 F2 x H3 d l y e => ?_⟩
  obtain ⟨T, x0, rfl, n, rfl, y⟩ := y
  obtain ⟨d0, e0, rfl⟩ := enumD_get e
  obtain ⟨d1, e1, fr⟩ := r.get (y vs (k _ F2 l))
  rw [e0] at e1
  cases e1
  exact pair_new n (fr.keep l.sub l.keep)
theorem walk_enumT {K : PySem.W.Frag} {H : Hp} {F : Fp} {a : Addr} {vs : List V} {ds : List D} (k : ∀ H2 F2, Later F H F2 H2 → SqT K H2 a vs) (r : FrL K H F vs ds) : WalkD K H F (NR.IteT K a) (enumD ds) := by
  refine ⟨fun H2 F2 l => ⟨vs, k H2 F2 l, by rw [enumD_length, r.length]; exact Nat.le_refl _⟩, fun i H2 F2 l hi => ⟨vs, vs[i]'(by rw [enumD_length] at hi; rw [r.length]; exact hi), k H2 F2 l, by simp⟩, fun i H2 F2 x H3 d l y e => ?_⟩
  obtain ⟨T, x0, rfl, n, rfl, y⟩ := y
  obtain ⟨d0, e0, rfl⟩ := enumD_get e
  obtain ⟨d1, e1, fr⟩ := r.get (y vs (k _ F2 l))
  rw [e0] at e1
  cases e1
  exact pair_new n (fr.keep l.sub l.keep)
theorem i_enum {tpos : Pos} {elts : List Expr} {kk : Nat} (hg : Gl X "enumerate") (hm : X.mg "enumerate" = none) (he : DE X pn e fe) (hs : starEach [e] X.env = [(false, eval e X.env)] := by rfl)
    (hs1 : starEach [e] X.env = (false, eval e X.env) :: starEach [] X.env := by rfl) : DI X pn (.Tuple elts kk tpos) (.Call (.Name "enumerate" p) [e] [] pos) (iEnumD fe) := by
  refine ⟨fun pins s σ H R I h => ?_⟩
  obtain ⟨F, A, L, RR, lo, h, post⟩ := h
  let Q : VK := fun v H1 => ∃ a J, v = .ref a ∧ ((J = Ite X.K a ∧ ∃ xs, SqL X.K H1 a xs) ∨ (J = NR.IteT X.K a ∧ ∃ xs, SqT X.K H1 a xs)) ∧ R J H1
  have hq : low X.K pn fe σ H Q := by
    refine ⟨F, A, L, _, lo, h, fun x L1 v F1 A1 H1 h1 e1 lo1 f1 => ?_⟩
    cases f1 with
    | lst f h r => exact ⟨_, _, rfl, .inl ⟨rfl, _, SqL.of h⟩, post _ L1 F1 A1 H1 _ h1 e1 lo1 (walk_enum (fun H2 F2 l => SqL.of (l.keep _ _ f h)) r)⟩
    | tup f h r => exact ⟨_, _, rfl, .inr ⟨rfl, _, SqT.of h⟩, post _ L1 F1 A1 H1 _ h1 e1 lo1 (walk_enumT (fun H2 F2 l => SqT.of (l.keep _ _ f h)) r)⟩
    | ptu f h => exact ⟨_, _, rfl, .inr ⟨rfl, _, h.sq⟩, post _ L1 F1 A1 H1 _ h1 e1 lo1 (walk_enumT (fun H2 F2 l => (let ⟨o, e, c, d⟩ := h; NR.TupP.sq ⟨o, l.keep _ _ f e, c, d⟩)) .ints)⟩
    | _ => exact h1.elim
  refine Call_ (ld_blt I hg hm boot_enumerate (PyProof.Rows.callWith_type1 (PyProof.Rows.args_cons (thn (he.run pins s σ H _ I hq) fun v s1 ⟨x, H1, I1, r1, a, J, ex, hJ, q1⟩ => PyProof.Rows.args_nil ?_) hs1) hs rfl))
  subst ex
  cases r1
  rcases hJ with ⟨rfl, xs, hq⟩ | ⟨rfl, xs, hq⟩
  · obtain ⟨its, rv, p', hz⟩ := I1.list hq
    refine call_enumerate_list p'.isList fun h' he hit hsz hk => wpAny_pyIter_enum he ?_
    refine ⟨s1.heap.objs.size + 1, [s1.heap.objs.size + 1, s1.heap.objs.size], _, _, H1, rfl, I1.kept (t' := s1.toks) hk, turn_enum a (s1.heap.objs.size + 1) s1.heap.objs.size, ⟨⟨.none, he⟩, hit, Nat.succ_ne_self _⟩, fun b hb => ?_, q1⟩
    have hle : s1.heap.objs.size ≤ b := by
      rcases (show b = s1.heap.objs.size + 1 ∨ b = s1.heap.objs.size by simpa using hb) with z | z
      · rw [z]; exact Nat.le_add_right _ _
      · rw [z]; exact Nat.le_refl _
    exact I1.fpOk hle (I1.hok.fresh hle)
  · obtain ⟨its, rv, p', hz⟩ := I1.tuple hq
    have hlt : a < s1.heap.objs.size := by obtain ⟨o, ho, _⟩ := id p'; exact Heap.lt_size ho
    refine NR.call_enum1 (begins_tuple a its.toArray) p' fun h' he hit hk => wpAny_pyIter_enum he ?_
    refine ⟨s1.heap.objs.size + 1, [s1.heap.objs.size + 1, s1.heap.objs.size], _, _, H1, rfl, I1.kept (t' := s1.toks) hk, NR.turn_enumT a (s1.heap.objs.size + 1) s1.heap.objs.size (Nat.succ_ne_self _) (Nat.ne_of_gt (Nat.lt_succ_of_lt hlt)) (Nat.ne_of_lt hlt), ⟨⟨.none, he⟩, ⟨_, hit, rfl, rfl⟩⟩, fun b hb => ?_, q1⟩
    have hle : s1.heap.objs.size ≤ b := by
      rcases (show b = s1.heap.objs.size + 1 ∨ b = s1.heap.objs.size by simpa using hb) with z | z
      · rw [z]; exact Nat.le_add_right _ _
      · rw [z]; exact Nat.le_refl _
    exact I1.fpOk hle (I1.hok.fresh hle)
/-! ### zip of two lists, of two tuples -/
def zipD (xs ys : List D) : List D := List.zipWith (fun x y => .tup [x, y]) xs ys
def iZipD (f g : FE) : FI := fun L Q => f L fun x L1 => g L1 fun y L2 => match x, y with
  | .lst a, .lst b => Q (zipD a b) L2
  | .tup a, .tup b => Q (zipD a b) L2
  | _, _ => False
theorem walk_zip {K : PySem.W.Frag} {H : Hp} {F : Fp} {J : It} {ds es : List D} {vs us : List V} {T1 T2 : Hp → Prop} (r : FrL K H F vs ds) (r' : FrL K H F us es)
    (go : ∀ i H2 F2, Later F H F2 H2 → ∀ x y, vs[i]? = some x → us[i]? = some y → J.go i H2)
    (stop : ∀ i H2 F2, Later F H F2 H2 → (vs.length ≤ i ∨ us.length ≤ i) → J.stop i H2)
    (yld : ∀ i H2 F2 v H3, Later F H F2 H2 → J.yld i H2 v H3 → ∃ T x y, v = .ref T ∧ H2 T = none ∧ H3 = upd H2 T (.tup [x, y]) ∧ vs[i]? = some x ∧ us[i]? = some y) : WalkD K H F J (zipD ds es) := by
  have hl : (zipD ds es).length = min vs.length us.length := by unfold zipD; rw [List.length_zipWith, r.length, r'.length]
  refine ⟨fun H2 F2 l => stop _ H2 F2 l (by rw [hl]; omega), fun i H2 F2 l hi => ?_, fun i H2 F2 x H3 d l y e => ?_⟩
  · rw [hl] at hi
    have h1 : i < vs.length := by omega
    have h2 : i < us.length := by omega
    exact go i H2 F2 l _ _ (List.getElem?_eq_getElem h1) (List.getElem?_eq_getElem h2)
  · obtain ⟨T, x0, y0, rfl, n, rfl, e1, e2⟩ := yld i H2 F2 x H3 l y
    obtain ⟨d1, k1, f1⟩ := r.get e1
    obtain ⟨d2, k2, f2⟩ := r'.get e2
    have : d = .tup [d1, d2] := by
      unfold zipD at e
      rw [List.getElem?_zipWith, k1, k2] at e
      exact (Option.some.inj e).symm
    subst this
    exact ⟨_, grow_new n, new_tup n (.cons (f1.keep l.sub l.keep) (.cons (f2.keep l.sub l.keep) .nil))⟩
theorem i_zip {tpos : Pos} {elts : List Expr} {kk : Nat} (hg : Gl X "zip") (hm : X.mg "zip" = none) (he : DE X pn e fe) (he2 : DE X pn e2 fe2)
    (hs : starEach [e, e2] X.env = (false, eval e X.env) :: starEach [e2] X.env := by rfl) (hs2 : starEach [e2] X.env = (false, eval e2 X.env) :: starEach [] X.env := by rfl) (hpl : (backTo pos (starEach [e2] X.env)).any (·.1) = false := by rfl) :
    DI X pn (.Tuple elts kk tpos) (.Call (.Name "zip" p) [e, e2] [] pos) (iZipD fe fe2) :=
  pi_weak (RZ.pi_zipA hg hm (pa_cons he (pa_cons he2 pa_nil hs2) hs) hs hpl) fun σ H R q => by
  obtain ⟨F, A, L, RR, lo, h, post⟩ := q
  refine ⟨F, A, L, _, lo, h, fun x L1 v F1 A1 H1 h1 e1 lo1 f1 => ⟨F1, A1, L1, _, lo1, h1, fun y L2 u F2 A2 H2 h2 e2 lo2 f2 => ?_⟩⟩
  have g1 := f1.ext lo1.ok e2
  cases g1 with
  | lst f h r =>
    cases f2 with
    | lst f' h' r' =>
      refine ⟨_, _, _, _, rfl, .inl ⟨SqL.of h, SqL.of h', post _ L2 F2 A2 H2 _ h2 (e1.trans e2) lo2 (walk_zip (T1 := fun _ => True) (T2 := fun _ => True) r r' (fun i H3 F3 l x y ex ey => ⟨_, _, x, y, SqL.of (l.keep _ _ f h), SqL.of (l.keep _ _ f' h'), ex, ey⟩) (fun i H3 F3 l z => ⟨_, _, SqL.of (l.keep _ _ f h), SqL.of (l.keep _ _ f' h'), z⟩) fun i H3 F3 v H4 l y => ?_)⟩⟩
      obtain ⟨T, x, z, rfl, n, rfl, k1, k2⟩ := y
      exact ⟨T, x, z, rfl, n, rfl, k1 _ (SqL.of (l.keep _ _ f h)), k2 _ (SqL.of (l.keep _ _ f' h'))⟩
    | _ => exact h2.elim
  | tup f h r =>
    cases f2 with
    | tup f' h' r' =>
      refine ⟨_, _, _, _, rfl, .inr ⟨SqT.of h, SqT.of h', post _ L2 F2 A2 H2 _ h2 (e1.trans e2) lo2 (walk_zip (T1 := fun _ => True) (T2 := fun _ => True) r r' (fun i H3 F3 l x y ex ey => ⟨_, _, x, y, SqT.of (l.keep _ _ f h), SqT.of (l.keep _ _ f' h'), ex, ey⟩) (fun i H3 F3 l z => ⟨_, _, SqT.of (l.keep _ _ f h), SqT.of (l.keep _ _ f' h'), z⟩) fun i H3 F3 v H4 l y => ?_)⟩⟩
      obtain ⟨T, x, z, rfl, n, rfl, k1, k2⟩ := y
      exact ⟨T, x, z, rfl, n, rfl, k1 _ (SqT.of (l.keep _ _ f h)), k2 _ (SqT.of (l.keep _ _ f' h'))⟩
    | _ => exact h2.elim
  | _ => cases f2 <;> exact h2.elim
/-! ### ranges as values -/
def dRgT (f : FE) : FE := fun L Q => f L fun x L1 => match x with
  | .int n => RgOk 0 n ∧ Q (.tup (rng 0 n)) L1
  | _ => False
def dRgL (f : FE) : FE := fun L Q => f L fun x L1 => match x with
  | .int n => RgOk 0 n ∧ Q (.lst (rng 0 n)) L1
  | _ => False
theorem frL_rng {K : PySem.W.Frag} {H : Hp} {F : Fp} {a b : Int} : FrL K H F (rgV a b) (rng a b) := by
  unfold rgV rng
  induction (List.range (b - a).toNat) with
  | nil => exact .nil
  | cons i r ih => exact .cons (.int _) ih
theorem d_tupRg (hg : Gl X "tuple") (hm2 : X.mg "range" = none) (hm : X.mg "tuple" = none) (he : DE X pn e fe) (hc : X.calm = true := by rfl) (hg2 : Gl X "range" := by rfl) (na : starEach [e] X.env = (false, eval e X.env) :: starEach [] X.env := by rfl)
    (nb : starEach [.Call (.Name "range" p) [e] [] q] X.env = (false, eval (.Call (.Name "range" p) [e] [] q) X.env) :: starEach [] X.env := by rfl) : DE X pn (.Call (.Name "tuple" p2) [.Call (.Name "range" p) [e] [] q] [] pos) (dRgT fe) :=
  pe_weak (pe_tupRg hc hg hm (prg_1 hg2 hm2 he na) nb) fun σ H Q q => by
  obtain ⟨F, A, L, R, lo, h, post⟩ := q
  refine ⟨F, A, L, _, lo, h, fun x L1 v F1 A1 H1 h1 e1 lo1 f1 => ?_⟩
  cases f1 with
  | int n =>
    obtain ⟨ok, h1⟩ := h1
    exact ⟨n, rfl, ok, fun a na => post _ L1 _ _ A1 _ h1 (e1.trans (grow_new na).ext) ((grow_new na).lo lo1) (new_tup na frL_rng)⟩
  | _ => exact h1.elim
theorem d_lstRg (hg : Gl X "list") (hm2 : X.mg "range" = none) (hm : X.mg "list" = none) (he : DE X pn e fe) (hc : X.calm = true := by rfl) (hg2 : Gl X "range" := by rfl) (na : starEach [e] X.env = (false, eval e X.env) :: starEach [] X.env := by rfl)
    (nb : starEach [.Call (.Name "range" p) [e] [] q] X.env = (false, eval (.Call (.Name "range" p) [e] [] q) X.env) :: starEach [] X.env := by rfl) : DE X pn (.Call (.Name "list" p2) [.Call (.Name "range" p) [e] [] q] [] pos) (dRgL fe) :=
  pe_weak (pe_listRg hc hg hm (prg_1 hg2 hm2 he na) nb) fun σ H Q q => by
  obtain ⟨F, A, L, R, lo, h, post⟩ := q
  refine ⟨F, A, L, _, lo, h, fun x L1 v F1 A1 H1 h1 e1 lo1 f1 => ?_⟩
  cases f1 with
  | int n =>
    obtain ⟨ok, h1⟩ := h1
    exact ⟨n, rfl, ok, fun a na => post _ L1 _ _ A1 _ h1 (e1.trans (grow_new na).ext) ((grow_new na).lo lo1) (new_lst na frL_rng)⟩
  | _ => exact h1.elim
/-! ### sorted(set(..)), len(set(..)) -/
def rowsOf : List D → Option (List (List Int))
  | [] => some []
  | .tup xs :: r => match intsOf xs, rowsOf r with
    | some l, some R => some (l :: R)
    | _, _ => none
  | _ => none
abbrev rowsL (R : List (List Int)) : List D := R.map fun l => .tup (l.map .int)
theorem rowsOf_map : ∀ R : List (List Int), rowsOf (rowsL R) = some R
  | [] => rfl
  | l :: R => by
    have ih := rowsOf_map R
    unfold rowsL at ih ⊢
    rw [List.map_cons, rowsOf, intsOf_map, ih]
theorem rowsOf_eq : ∀ {ds : List D} {R : List (List Int)}, rowsOf ds = some R → ds = rowsL R
  | [], R, h => by cases h; rfl
  | .tup xs :: r, R, h => by
    rw [rowsOf] at h
    split at h
    · next l R' e1 e2 =>
      cases h
      rw [intsOf_eq e1, rowsOf_eq e2]
      rfl
    · cases h
  | .non :: r, l, h | .bl _ :: r, l, h | .str _ :: r, l, h | .int _ :: r, l, h | .lst _ :: r, l, h | .scr _ :: r, l, h | .ptu _ :: r, l, h | .fn _ :: r, l, h | .dK _ :: r, l, h | .dT _ :: r, l, h | .ml _ :: r, l, h | .mK _ :: r, l, h | .mT _ :: r, l, h | .mo _ _ :: r, l, h | .xc _ _ :: r, l, h | .er _ _ :: r, l, h => by simp [rowsOf] at h
theorem FrL.rows {K : PySem.W.Frag} {H : Hp} {F : Fp} : ∀ {vs : List V} {R : List (List Int)}, FrL K H F vs (rowsL R) → ∃ ks : List (Addr × List Int), vs = ks.map (fun p => V.ref p.1) ∧ R = ks.map (·.2) ∧ ∀ p ∈ ks, F p.1 ∧ H p.1 = some (.tup (p.2.map V.int))
  | _, [], .nil => ⟨[], rfl, rfl, fun _ h => by cases h⟩
  | _, l :: R, .cons h r => by
    obtain ⟨ks, e1, e2, e3⟩ := FrL.rows (R := R) r
    cases h with
    | tup f h0 r0 =>
      have := r0.ofInts
      subst this
      refine ⟨(_, l) :: ks, by rw [List.map_cons, ← e1], by rw [List.map_cons, ← e2], fun p hp => ?_⟩
      rcases List.mem_cons.mp hp with rfl | hp
      · exact ⟨f, h0⟩
      · exact e3 p hp
theorem frL_rows {K : PySem.W.Frag} {H : Hp} {F : Fp} : ∀ {ks : List (Addr × List Int)}, (∀ p ∈ ks, F p.1 ∧ H p.1 = some (.tup (p.2.map V.int))) → FrL K H F (ks.map fun p => V.ref p.1) (rowsL (ks.map (·.2)))
  | [], _ => .nil
  | p :: ks, h => .cons (.tup (h p (List.mem_cons_self ..)).1 (h p (List.mem_cons_self ..)).2 .ints) (frL_rows fun q hq => h q (List.mem_cons_of_mem _ hq))
/-- what a set is made of -/
def seqOf (x : D) : Option (List D) := match x with
  | .lst xs => some xs
  | .tup xs => some xs
  | _ => none
def gSrtSet (x : D) (k : D → Prop) : Prop := match seqOf x with
  | some xs => xs.length < 64 ∧ ((∃ ns, intsOf xs = some ns ∧ ∀ ms : List Int, ms.Pairwise (· < ·) → (∀ i, i ∈ ms ↔ i ∈ ns) → k (.lst (ms.map .int))) ∨
      (∃ R, rowsOf xs = some R ∧ (∀ r ∈ R, r ≠ []) ∧ ∀ M : List (List Int), M.Pairwise (· < ·) → (∀ r, r ∈ M ↔ r ∈ R) → k (.lst (rowsL M))))
  | none => False
theorem low_srtSet {K : PySem.W.Frag} {P : Program} {w : World} {σ : L2.St} {H : Hp} {Q : VK} (q : low K pn (dUn gSrtSet fe) σ H Q) :
    low K pn fe σ H fun v H1 => (fun vs H Q => NR.rSetI K w vs H Q ∨ NR.rSetR K P w vs H Q) [v] H1 fun u H2 => (fun vs H Q => rSortedSet w vs H Q ∨ NR.rSrtA K P w vs H Q) [u] H2 Q := by
  obtain ⟨F, A, L, R, lo, h, post⟩ := q
  refine ⟨F, A, L, _, lo, h, fun x L1 v F1 A1 H1 h1 e1 lo1 f1 => ?_⟩
  have seq : ∃ xs vs a, seqOf x = some xs ∧ v = .ref a ∧ FrL K H1 F1 vs xs ∧ (SqL K H1 a vs ∨ SqT K H1 a vs) := by
    cases f1 with
    | lst f h r => exact ⟨_, _, _, rfl, rfl, r, .inl (SqL.of h)⟩
    | tup f h r => exact ⟨_, _, _, rfl, rfl, r, .inr (SqT.of h)⟩
    | _ => exact h1.elim
  obtain ⟨xs, vs, a, e, rfl, r, sq⟩ := seq
  unfold gSrtSet at h1
  rw [e] at h1
  obtain ⟨hl, h1⟩ := h1
  have fin : ∀ {b c : Addr} {o : HO} {vs : List V} {ds : List D}, R (.lst ds) L1 → H1 b = none → upd H1 b o c = none → FrL K H1 F1 vs ds → Q (.ref c) (upd (upd H1 b o) c (.lst vs)) := fun {b c o vs ds} hr nb nc fr => by
    have g1 := grow_new (F := F1) (o := o) nb
    have g2 := g1.trans (grow_new (o := .lst vs) nc)
    exact post _ L1 _ _ A1 _ hr (e1.trans g2.ext) (g2.lo lo1) (new_lst nc (fr.grow g1))
  rcases h1 with ⟨ns, en, hk⟩ | ⟨Rr, en, ne, hk⟩
  · have := intsOf_eq en
    subst this
    have := r.ofInts
    subst this
    rw [List.length_map] at hl
    refine .inl ⟨a, ns, rfl, sq, by omega, fun b c nb hc => .inl ⟨b, _, c, rfl, upd_same, by omega, fun ms d hs hm hlen nd => fin (hk ms hs fun i => by rw [hm]; simp) nb nd .ints⟩⟩
  · have := rowsOf_eq en
    subst this
    obtain ⟨ks, rfl, rfl, ht⟩ := r.rows
    rw [List.length_map, List.length_map] at hl
    refine .inr ⟨a, ks, rfl, sq, fun p hp => SqT.of (ht p hp).2, hl, fun b M nb hsub hall => .inr ⟨b, M, rfl, upd_same, fun p hp => SqT.of (by rw [upd_ne (ne_of_none (ht p (hsub p hp)).2 nb)]; exact (ht p (hsub p hp)).2), ?_, fun N c hN hs nc => ?_⟩⟩
    · exact .inl fun p hp => ne _ (List.mem_map.mpr ⟨p, hsub p hp, rfl⟩)
    · refine fin (hk (N.map (·.2)) ?_ fun r => ?_) nb nc (frL_rows fun p hp => ht p (hsub p (hN.mem_iff.mp hp)))
      · rw [List.pairwise_map]; exact hs
      · constructor
        · intro h
          obtain ⟨p, hp, rfl⟩ := List.mem_map.mp h
          exact List.mem_map.mpr ⟨p, hsub p (hN.mem_iff.mp hp), rfl⟩
        · intro h
          obtain ⟨p, hp, rfl⟩ := List.mem_map.mp h
          obtain ⟨q, hq, e⟩ := List.mem_map.mp (hall p hp)
          exact List.mem_map.mpr ⟨q, hN.mem_iff.mpr hq, e⟩
theorem d_srtSet (hc : X.calm = true) (hu : X.A.units + 64 < cLine) (hg : Gl X "sorted") (hm : X.mg "sorted" = none) (hm2 : X.mg "set" = none) (he : DE X pn e fe) (hg2 : Gl X "set" := by rfl)
    (h1 : starEach [.Call (.Name "set" p) [e] [] q] X.env = (false, eval (.Call (.Name "set" p) [e] [] q) X.env) :: starEach [] X.env := by rfl) (h2 : (backTo pos (starEach [] X.env)).any (·.1) = false := by rfl)
    (h3 : starEach [e] X.env = (false, eval e X.env) :: starEach [] X.env := by rfl) (h4 : (backTo q (starEach [] X.env)).any (·.1) = false := by rfl) : DE X pn (.Call (.Name "sorted" p2) [.Call (.Name "set" p) [e] [] q] [] pos) (dUn gSrtSet fe) :=
  pe_weak (pe_callB (callr_or (cr_sortedSet hc) (NR.cr_srtA hc hu)) hg hm boot_sorted (pa_cons (pe_callTy (callr_or (NR.cr_setI hc) (NR.cr_setR hc hu)) hg2 hm2 (by decide +kernel) (pa_cons he pa_nil h3) (by decide) (by decide) h3 h4) pa_nil h1) (by decide) (by decide) h1 h2) fun σ H Q q => low_srtSet q
end
end DL

/-! Lists of owned lists. -/
namespace DL
open PySem PySem.Spec PyProof.Rows L2
/-- an owned item in its list: its own place, changed -/
theorem OwL.focus {K : PySem.W.Frag} {H : Hp} {F : Fp} : ∀ {vs : List V} {ds : List D} {A : Fp} {n : Nat} {d : D}, OwL K H F vs ds A → ds[n]? = some d → ∃ v B, vs[n]? = some v ∧ Ow K H F v d B ∧ (∀ a, B a → A a) ∧
    ∀ {H' : Hp} {d' : D} {B' : Fp}, Ow K H' F v d' B' → (∀ a o, F a ∨ (A a ∧ ¬ B a) → H a = some o → H' a = some o) → (∀ a, B' a → B a ∨ ¬ A a) → ∃ A', OwL K H' F vs (ds.set n d') A' ∧ ∀ a, A' a ↔ B' a ∨ (A a ∧ ¬ B a)
  | _, _, _, n, d, .nil, e => by simp at e
  | _, _, _, 0, d, .cons (A := A1) (B := A2) h r dj, e => by
    have : _ = d := Option.some.inj e
    subst this
    refine ⟨_, A1, rfl, h, fun a z => .inl z, fun {H' d' B'} o k s => ?_⟩
    refine ⟨or2 B' A2, .cons o (r.keep (fun _ z => z) fun a ob z e => k a ob (z.imp_right fun z => ⟨.inr z, fun y => dj a y z⟩) e) fun a z y => ?_, fun a => ?_⟩
    · rcases s a z with w | w
      · exact dj a w y
      · exact w (.inr y)
    · constructor
      · rintro (z | z)
        · exact .inl z
        · exact .inr ⟨.inr z, fun y => dj a y z⟩
      · rintro (z | ⟨z | z, nz⟩)
        · exact .inl z
        · exact (nz z).elim
        · exact .inr z
  | _, _, _, n + 1, d, .cons (A := A1) (B := A2) h r dj, e => by
    obtain ⟨v, B, e1, o1, s1, put⟩ := r.focus (n := n) (d := d) (by simpa using e)
    refine ⟨v, B, by simpa using e1, o1, fun a z => .inr (s1 a z), fun {H' d' B'} o k s => ?_⟩
    obtain ⟨A', l, eq⟩ := put o (fun a ob z e => k a ob (z.imp_right fun z => ⟨.inr z.1, z.2⟩) e) fun a z => by
      rcases s a z with w | w
      · exact .inl w
      · exact .inr fun y => w (.inr y)
    refine ⟨or2 A1 A', .cons (h.keep (fun _ z => z) fun a ob z e => k a ob (z.imp_right fun z => ⟨.inl z, fun y => dj a z (s1 a y)⟩) e) l fun a z y => ?_, fun a => ?_⟩
    · rcases (eq a).mp y with y | y
      · rcases s a y with w | w
        · exact dj a z (s1 a w)
        · exact w (.inl z)
      · exact dj a z y.1
    · constructor
      · rintro (z | z)
        · exact .inr ⟨.inl z, fun y => dj a z (s1 a y)⟩
        · exact ((eq a).mp z).imp_right fun z => ⟨.inr z.1, z.2⟩
      · rintro (z | ⟨z | z, nz⟩)
        · exact .inr ((eq a).mpr (.inl z))
        · exact .inl z
        · exact .inr ((eq a).mpr (.inr ⟨z, nz⟩))
/-- x[i].append(e), x a list of owned lists -/
def dAppIx (j : Nat) (fi fv : FE) : FE := fun L Q => isMl L j = true ∧ fi L fun y L1 => match y with
  | .int i => match L1[j]? with
    | some (some (.ml xs)) => match ixN xs.length i with
      | some n => match xs[n]? with
        | some (.ml ys) => ys.all isFr = true ∧ noMos L1 = true ∧ fv (fzAll L1) fun d _ => noL d = true ∧ ys.length < sizeLine ∧ Q .non (L1.set j (some (.ml (xs.set n (.ml (ys ++ [d]))))))
        | _ => False
      | none => False
    | _ => False
  | _ => False
section
variable {X : Cx} {pn : List (Nat × V)} {e i : Expr} {es : List Expr} {fi fv : FE} {pos cpos apos : Pos}
theorem low_appIx {K : PySem.W.Frag} {j : Nat} {σ : L2.St} {H : Hp} {Q : VK} (q : low K pn (dAppIx j fi fv) σ H Q) :
    ∃ v, σ[j]? = some (some v) ∧ low K pn fi σ H fun y H1 => rIx K v y H1 fun x H2 => tyV K "list" x H2 ∧ low K pn fv σ H2 fun u H3 => rAppend x [u] H3 Q := by
  obtain ⟨F, A, L, R, lo, ⟨hm, h⟩, p⟩ := q
  obtain ⟨a, vs, h1, h2⟩ := isMl_at lo hm
  refine ⟨_, h1, F, A, L, _, lo, h, fun y L1 u F1 A1 H1 g1 x1 lo1 fu => ?_⟩
  cases fu with
  | int i =>
    simp only at g1
    split at g1
    · next xs ex =>
      split at g1
      · next n en =>
        split at g1
        · next ys ey =>
          obtain ⟨hf, hmo, g1⟩ := g1
          obtain ⟨v, B, k1, k2, sb, put⟩ := slot_put lo1 ex
          rw [h1] at k1
          cases k1
          cases k2 with
          | fr z => cases z
          | ml ha r na =>
            rename_i vs1 B1
            obtain ⟨w, B2, e2, o2, s2, put2⟩ := r.focus ey
            cases o2 with
            | fr z => cases z
            | ml hb rb nb =>
              rename_i b us B3
              have len : vs1.length = xs.length := by
                have : ∀ {vs : List V} {ds : List D} {A : Fp}, OwL K H1 F1 vs ds A → vs.length = ds.length := by
                  intro vs ds A h
                  induction vs generalizing ds A with
                  | nil => cases h; rfl
                  | cons v vs ih => cases h with
                    | cons _ r _ => exact congrArg (· + 1) (ih r)
                exact this r
              have eat : atI vs1 i = some (.ref b) := by
                unfold atI
                rw [len, en]
                exact e2
              refine .inl ⟨a, vs1, i, .ref b, rfl, rfl, SqL.of ha, eat, .inl ⟨rfl, us, SqL.of hb⟩, ?_⟩
              obtain ⟨A2, lo2, n2, back⟩ := lo_pure lo1 hmo
              refine ⟨_, A2, _, _, lo2, g1, fun d L' u F' A' H' ⟨hd, hs, r'⟩ x l fr => ?_⟩
              obtain ⟨b1, b2, b3⟩ := back x
              have lo3 := b2 l.ok.f
              have fd := b3 fr hd
              -- the slot again, as it stands now
              obtain ⟨v, B', k1, k2, sb', put'⟩ := slot_put lo3 ex
              rw [h1] at k1
              cases k1
              have keep : ∀ a o, H1 a = some o → H' a = some o := fun a o e => x.keep a o e (n2 a)
              cases k2 with
              | fr z => cases z
              | ml ha' r'' na' =>
                rename_i vs2 B1'
                have ev : vs2 = vs1 := by
                  have := keep _ _ ha
                  rw [ha'] at this
                  cases this
                  rfl
                subst ev
                obtain ⟨w', B2', e2', o2', s2', put2'⟩ := r''.focus ey
                rw [e2] at e2'
                cases e2'
                cases o2' with
                | fr z => cases z
                | ml hb' rb' nb' =>
                  rename_i us' B3'
                  have eu : us' = us := by
                    have := keep _ _ hb
                    rw [hb'] at this
                    cases this
                    rfl
                  subst eu
                  have fb := rb'.frL hf
                  refine ⟨b, _, u, rfl, rfl, hb', by rw [fb.length]; exact hs, ?_⟩
                  have bB : B1' b := s2' b (.inl rfl)
                  have nF : ¬ (F' b ∧ ¬ A1 b) := fun z => z.2 (sb' b (.inr bB))
                  have ab : a ≠ b := fun z => na' (by rw [z]; exact bB)
                  obtain ⟨C, oc, nc⟩ := ((fb.append (.cons fd .nil)).owU (H' := H') (o := .lst (us' ++ [u])) nF).ow
                  have inner : Ow K (upd H' b (.lst (us' ++ [u]))) _ (.ref b) (.ml (ys ++ [d])) _ := .ml upd_same oc (nc _)
                  obtain ⟨A', oA, eqA⟩ := put2' inner (fun c ob z e => by
                    rw [upd_ne fun w => ?_]
                    · exact e
                    · subst w
                      exact z.elim nF fun z => z.2 (.inl rfl)) fun c z => .inl (z.imp_right fun z => (nc c z).elim)
                  have nA' : ¬ A' a := fun z => by
                    rcases (eqA a).mp z with w | w
                    · exact w.elim (fun w => ab w) (nc a)
                    · exact na' w.1
                  obtain ⟨A'', l'', x''⟩ := put' (a := b) (o' := .lst (us' ++ [u])) (Xt := no) (.inr bB) (.ml (by rw [upd_ne ab]; exact ha') oA nA') (fun c z => by
                    rcases z with z | z
                    · exact .inl (.inl z)
                    · rcases (eqA c).mp z with w | w
                      · exact .inl (w.elim (fun w => by rw [w]; exact .inr bB) fun w => (nc c w).elim)
                      · exact .inl (.inr w.1)) (fun _ z => z.elim) fun _ z => z.elim
                  have x3 : Ext A1 H' _ A'' (upd H' b (.lst (us' ++ [u]))) _ := ⟨x''.sub, fun a z => (x''.new a z).imp_right fun z => z.imp_right fun z => z.elim id fun z => z.elim, fun a o e n => x''.keep a o e fun z => z.elim n fun z => z, fun a z => (x''.own a z).imp_left fun z => z.elim id fun z => z.elim⟩
                  exact p .non _ .non _ A'' _ r' ((x1.trans b1).trans x3) l'' .non
        · exact g1.elim
      · exact g1.elim
    · exact g1.elim
  | _ => exact g1.elim
theorem d_appIx (j : Nat) {x : Str} {px ps : Pos} (hi : DE X pn i fi) (ha : DE X pn e fv) (hN : X.N[j]? = some x := by rfl) (hv : Vis X.env.scope x := by first | exact Or.inl rfl | exact Or.inr (Or.inl rfl) | exact Or.inr (Or.inr rfl)) (hd : (x == ("__debug__" : Str)) = false := by decide)
    (hcd : (x == ("__classdict__" : Str)) = false := by decide) (hpl : PlainIx i := by exact fun _ _ => rfl)
    (hbase : attributeBase (.Subscript (.Name x px) i ps) "append" X.env (eval (.Subscript (.Name x px) i ps) X.env) = eval (.Subscript (.Name x px) i ps) X.env := by rfl)
    (hfew : ((backTo cpos (starEach [e] X.env)).all (fun x => !x.1) && (backToKw cpos (keywordEach [] X.env)).all (fun x => x.1.isSome)
      && decide (([e] : List Expr).length + ([] : List Keyword).length + (if ([] : List Keyword).isEmpty then 0 else 1) < 30)) = true := by rfl)
    (hline : (apos.endLine == cpos.line) = true := by rfl) (hs : starEach [e] X.env = (false, eval e X.env) :: starEach [] X.env := by rfl) (hplain : (backTo cpos (starEach [] X.env)).any (·.1) = false := by rfl) :
    DE X pn (.Call (.Attribute (.Subscript (.Name x px) i ps) "append" apos) [e] [] cpos) (dAppIx j fi fv) := pe_weak (pe_bm PySem.F.plainAttrs_list PySem.F.slot_list_append PySem.F.type_list_append mt_append (pe_ix ix_seq (pe_var hN hv hd hcd) hi hpl) (pa_cons ha pa_nil hs) hbase hfew hline hs hplain) fun σ H Q q => low_appIx q
end
end DL

/-! A comprehension of new owned items. -/
namespace DL
open PySem PySem.Spec PyProof.Rows L2
section
variable {K : PySem.W.Frag} {pn : List (Nat × V)}
/-- what is collected: owned, apart from all else -/
structure Coll (K : PySem.W.Frag) (H : Hp) (F A : Fp) (p : Addr) (acc : List D) (B : Fp) : Prop where
  at_ : ∃ vacc, H p = some (.lst vacc) ∧ OwL K H F vacc acc B
  np : ¬ B p
  nf : ¬ F p
  na : ¬ A p
  nB : ∀ a, B a → ¬ A a ∧ ¬ F a
theorem Coll.there {H : Hp} {F A B : Fp} {p : Addr} {acc : List D} (c : Coll K H F A p acc B) : ∀ a, B a ∨ a = p → ∃ o, H a = some o := fun a z => by
  obtain ⟨vacc, e, o⟩ := c.at_
  rcases z with z | z
  · exact o.there a z
  · rw [z]; exact ⟨_, e⟩
theorem Coll.ext {H H' : Hp} {F F' A A' B : Fp} {p : Addr} {acc : List D} (c : Coll K H F A p acc B) (s : Sane H F A) (x : Ext A H F A' H' F') : Coll K H' F' A' p acc B := by
  have nA : ∀ a, B a ∨ a = p → ¬ A a := fun a z => z.elim (fun z => (c.nB a z).1) fun z => by rw [z]; exact c.na
  have nF : ∀ a, B a ∨ a = p → ¬ F a := fun a z => z.elim (fun z => (c.nB a z).2) fun z => by rw [z]; exact c.nf
  have nF' : ∀ a, B a ∨ a = p → ¬ F' a := fun a z y => by
    rcases x.new a y with y | y | y
    · exact nF a z y
    · obtain ⟨o, e⟩ := c.there a z
      rw [y] at e; cases e
    · exact nA a z y
  have nA' : ∀ a, B a ∨ a = p → ¬ A' a := fun a z y => by
    rcases x.own a y with y | y
    · exact nA a z y
    · obtain ⟨o, e⟩ := c.there a z
      rw [y] at e; cases e
  obtain ⟨vacc, e, o⟩ := c.at_
  refine ⟨⟨vacc, x.keep _ _ e c.na, o.keep x.sub fun a ob z e => x.keep a ob e (z.elim (fun z y => (s.a a y).1 z) fun z => (c.nB a z).1)⟩, c.np, nF' p (.inr rfl), nA' p (.inr rfl), fun a z => ⟨nA' a (.inl z), nF' a (.inl z)⟩⟩
theorem low_lcO {vs : List Nat} {fi : FI} {t : FG} {c : FT} {f : FE} {js : List Nat} {σ : L2.St} {H : Hp} {Q : VK} (hj : ∀ j ∈ js, j ∈ vs) (hp : vs.all (fun v => !pn.any fun p => p.1 == v) = true) (q : lowN K pn (dLc vs fi t c f .ml) σ H Q) :
    tLc (lowI K pn fi) (lowG K pn js t) (lowT K pn c) (lowN K pn f) vs σ H Q := by
  obtain ⟨F, A, L, R, lo, h, post⟩ := q
  refine ⟨F, A, L, _, lo, h, fun ds L1 F1 A1 H1 J h1 e1 lo1 w p np => ?_⟩
  obtain ⟨hlen, W, h0, step, fin⟩ := h1
  obtain ⟨C1, low1, s1⟩ := lo1.wipe vs hp
  obtain ⟨nF, nA⟩ := lo1.ok.new np
  have k1 : ∀ a o, H1 a = some o → upd H1 p (.lst []) a = some o := fun a o e => by rw [upd_ne (ne_of_none e np)]; exact e
  have lo1' : Lo K (upd H1 p (.lst [])) F1 pn (wipe σ vs) (wipeD L1 vs) C1 := ⟨low1.loc.keep (fun _ z => z) fun a o _ => k1 a o, ⟨fun a z => by obtain ⟨o, e⟩ := low1.ok.f a z; exact ⟨o, k1 a o e⟩, fun a z => by obtain ⟨nf, o, e⟩ := low1.ok.a a z; exact ⟨nf, o, k1 a o e⟩⟩, low1.pin⟩
  refine ⟨fun i m H' => m = ds.length - i ∧ i ≤ ds.length ∧ ∃ F' A' L' acc B, Lo K H' F' pn (wipe σ vs) L' A' ∧ Coll K H' F' A' p acc B ∧ acc.length ≤ i ∧ Ext A1 H1 F1 (or2 A' (or2 B fun x => x = p)) H' F' ∧ (∀ v ∈ vs, L'[v]? = some none ∨ L'.length ≤ v) ∧ W i acc L',
    ⟨_, rfl, Nat.zero_le _, F1, C1, wipeD L1 vs, [], no, lo1', ⟨⟨[], upd_same, .nil⟩, fun z => z, nF, fun z => nA (s1 p z), fun _ z => z.elim⟩, Nat.le_refl _, ⟨fun _ z => z, fun _ z => .inl z, fun a o e _ => k1 a o e, fun a z => z.elim (fun z => .inl (s1 a z)) fun z => z.elim (fun z => z.elim) fun z => .inr (by rw [z]; exact np)⟩, fun v hv => wipeD_none hv, h0⟩, ?_⟩
  rintro i m H2 ⟨rfl, hi, F2, A2, L2, acc, B, lo2, cl, hacc, e2, hw2, h2⟩
  have lt : Later F1 H1 F2 H2 := Later.of lo1.ok e2
  have up : ∀ {A A' : Fp} {H H' : Hp} {F F' X : Fp}, Ext A H F A' H' F' → Ext (or2 A X) H F (or2 A' X) H' F' := fun x =>
    ⟨x.sub, fun a z => (x.new a z).imp_right fun z => z.imp_right .inl, fun a o e n => x.keep a o e fun z => n (.inl z), fun a z => z.elim (fun z => (x.own a z).imp_left .inl) fun z => .inl (.inr z)⟩
  by_cases hlt : i < ds.length
  · refine .inr ⟨w.go i H2 F2 lt hlt, fun H' => (i + 1) ≤ ds.length ∧ ∃ F' A' L' acc B, Lo K H' F' pn (wipe σ vs) L' A' ∧ Coll K H' F' A' p acc B ∧ acc.length ≤ i + 1 ∧ Ext A1 H1 F1 (or2 A' (or2 B fun x => x = p)) H' F' ∧ (∀ v ∈ vs, L'[v]? = some none ∨ L'.length ≤ v) ∧ W (i + 1) acc L',
      fun H' z => ⟨_, by omega, rfl, z.1, z.2⟩, fun x H3 y => ?_⟩
    have ed : ds[i]? = some ds[i] := List.getElem?_eq_getElem hlt
    obtain ⟨F3, gr, fr⟩ := w.yld i H2 F2 x H3 _ lt y ed
    have cl3 := cl.ext lo2.ok (gr.ext (A := A2))
    refine ⟨F3, A2, L2, _, _, gr.lo lo2, fr, step i _ acc L2 ed h2, fun σ4 L4 F4 A4 H4 h4 e4 lo4 u4 n4 => ?_⟩
    have cl4 := cl3.ext (gr.lo lo2).ok e4
    have wipe5 : wipe σ4 vs = wipe σ vs := (wipe_idem (fun j hj' => u4 j fun z => hj' (hj j z)) n4).trans (wipe_twice σ vs)
    refine ⟨wipe5, F4, A4, L4, _, lo4, h4, fun b L5 F5 A5 H5 h5 e5 lo5 => ?_⟩
    have cl5 := cl4.ext lo4.ok e5
    have e15 : Ext A1 H1 F1 (or2 A5 (or2 B fun x => x = p)) H5 F5 := ((e2.trans gr.ext).trans (up e4)).trans (up e5)
    cases b with
    | true =>
      refine iteT ⟨F5, A5, L5, _, lo5, h5, fun y L6 v6 F6 A6 By H6 h6 e6 lo6 oy sy ny => ?_⟩
      -- the new item lies apart from what was collected
      have cl6 : Coll K H6 F6 (or2 A6 By) p acc B := cl5.ext lo5.ok e6
      obtain ⟨vacc, ep6, o6⟩ := cl6.at_
      have olen : vacc.length = acc.length := by
        have : ∀ {H : Hp} {F : Fp} {vs : List V} {ds : List D} {A : Fp}, OwL K H F vs ds A → vs.length = ds.length := by
          intro H F vs ds A h
          induction vs generalizing ds A with
          | nil => cases h; rfl
          | cons v vs ih => cases h with
            | cons _ r _ => exact congrArg (· + 1) (ih r)
        exact this o6
      refine ⟨vacc, ep6, by rw [olen]; omega, hlt, F6, ?_⟩
      obtain ⟨C6, lo6w, s6⟩ := lo6.wipe vs hp
      rw [wipe5] at lo6w
      have nBy : ¬ By p := fun z => cl6.na (.inr z)
      have k6 : ∀ a o, a ≠ p → H6 a = some o → upd H6 p (.lst (vacc ++ [v6])) a = some o := fun a o n e => by rw [upd_ne n]; exact e
      obtain ⟨Bn, on, eqn⟩ := (o6.keep (H' := upd H6 p (.lst (vacc ++ [v6]))) (fun _ z => z) fun a ob z e => k6 a ob (fun w => by
          subst w
          exact z.elim cl6.nf cl6.np) e).append (.cons (oy.keep (H' := upd H6 p (.lst (vacc ++ [v6]))) (fun _ z => z) fun a ob z e => k6 a ob (fun w => by
          subst w
          exact z.elim cl6.nf nBy) e) .nil fun _ _ z => z) fun a z y => y.elim (fun y => (cl6.nB a z).1 (.inr y)) fun y => y
      have subn : ∀ a, Bn a → B a ∨ By a := fun a z => (eqn a).mp z |>.imp_right fun z => z.resolve_right fun z => z
      refine ⟨C6, wipeD L6 vs, acc ++ [y], Bn, ⟨lo6w.loc.keep (fun _ z => z) fun a o z e => k6 a o (fun w => by
          subst w
          exact z.elim cl6.nf fun z => cl6.na (.inl (s6 _ z))) e, ⟨fun a z => ?_, fun a z => ?_⟩, lo6w.pin⟩, ⟨⟨_, upd_same, on⟩, fun z => (subn p z).elim cl6.np nBy, cl6.nf, fun z => cl6.na (.inl (s6 _ z)), fun a z => ?_⟩, by rw [List.length_append]; exact Nat.succ_le_succ hacc, ?_, fun v hv => wipeD_none hv, h6⟩
      · obtain ⟨o, e⟩ := lo6w.ok.f a z
        exact ⟨o, k6 a o (fun w => cl6.nf (by rw [← w]; exact z)) e⟩
      · obtain ⟨nf, o, e⟩ := lo6w.ok.a a z
        exact ⟨nf, o, k6 a o (fun w => cl6.na (by rw [← w]; exact .inl (s6 _ z))) e⟩
      · rcases subn a z with y | y
        · exact ⟨fun u => (cl6.nB a y).1 (.inl (s6 a u)), (cl6.nB a y).2⟩
        · exact ⟨fun u => ny a y (s6 a u), (sy.a a y).1⟩
      · have e16 : Ext A1 H1 F1 (or2 (or2 A6 By) (or2 B fun x => x = p)) H6 F6 := e15.trans (up e6)
        refine e16.trans ⟨fun _ z => z, fun _ z => .inl z, fun a o e n => k6 a o (fun w => n (.inr (.inr w))) e, fun a z => .inl ?_⟩
        rcases z with z | z | z
        · exact .inl (.inl (s6 a z))
        · rcases subn a z with y | y
          · exact .inr (.inl y)
          · exact .inl (.inr y)
        · exact .inr (.inr z)
    | false =>
      obtain ⟨C5, lo5w, s5⟩ := lo5.wipe vs hp
      rw [wipe5] at lo5w
      exact iteF ⟨hlt, F5, C5, wipeD L5 vs, acc, B, lo5w, ⟨cl5.at_, cl5.np, cl5.nf, fun z => cl5.na (s5 _ z), fun a z => ⟨fun y => (cl5.nB a z).1 (s5 a y), (cl5.nB a z).2⟩⟩, by omega, e15.less fun a z => z.imp_left (s5 a), fun v hv => wipeD_none hv, h5⟩
  · have e : i = ds.length := by omega
    subst e
    obtain ⟨C, hC, sC⟩ := lo1.loc.back lt lo2.loc hw2
    obtain ⟨vacc, ep, o⟩ := cl.at_
    refine .inl ⟨w.stop H2 F2 lt, post (.ml acc) _ _ F2 C _ H2 (fin acc L2 h2) (e1.trans (e2.less fun a z => ?_)) ⟨hC, ⟨lo2.ok.f, fun a z => lo2.ok.a a (sC a z)⟩, lo1.pin⟩ (.ml ep o cl.np) ⟨lo2.ok.f, fun a z => ?_⟩ fun a z y => ?_⟩
    · rcases z with z | z | z
      · exact .inl (sC a z)
      · exact .inr (.inr z)
      · exact .inr (.inl z)
    · rcases z with z | z
      · rw [show a = p from z]; exact ⟨cl.nf, _, ep⟩
      · exact ⟨(cl.nB a z).2, o.there a z⟩
    · rcases z with z | z
      · exact cl.na (sC p (by rw [← show a = p from z]; exact y))
      · exact (cl.nB a z).1 (sC a y)
end
section
variable {X : Cx} {pn : List (Nat × V)} {elt tg iter : Expr} {ifs : List Expr} {scope : Scope} {own : List (Str × Nat)} {pos : Pos} {fi : FI} {t : FG} {c : FT} {f : FE} {js : List Nat}
theorem d_lcO (hc : X.calm = true) (hN : X.N.Nodup) (hi : DI X pn tg iter fi) (ok : BlkOk X.N X.env.scope scope own) (hj : ∀ j ∈ js, j ∈ lcOwn own) (hp : (lcOwn own).all (fun v => !pn.any fun p => p.1 == v) = true)
    (hg : Blk X scope fun Y => PG Y tg (lowG Y.K pn js t)) (ht : Blk X scope fun Y => PTs Y ifs (lowT Y.K pn c)) (he : Blk X scope fun Y => DN Y pn elt f) (hs : ∀ x, foldedSetIterable iter X.env x = pure x := by intro _; rfl) :
    DN X pn (.ListComp elt [⟨tg, iter, ifs, 0⟩] scope pos) (dLc (lcOwn own) fi t c f .ml) := pe_weak (pe_lc hc hN hi ok hg ht he hs) fun σ H Q q => low_lcO hj hp q
theorem d_setLcO {i : Nat} {y : Str} {py spos : Pos} (hc : X.calm = true) (hN : X.N.Nodup) (hy : X.N[i]? = some y) (hyl : X.env.scope.names.lookup y = some .local) (hpi : (pn.any fun p => p.1 == i) = false)
    (hsw : swapsWith (.ListComp elt [⟨tg, iter, ifs, 0⟩] scope pos) (some (.Name y py)) spos.line X.env = pure true) (hi : DI X pn tg iter fi) (ok : BlkOk X.N X.env.scope scope own) (hj : ∀ j ∈ js, j ∈ lcOwn own) (hp : (lcOwn own).all (fun v => !pn.any fun p => p.1 == v) = true)
    (hg : Blk X scope fun Y => PG Y tg (lowG Y.K pn js t)) (ht : Blk X scope fun Y => PTs Y ifs (lowT Y.K pn c)) (he : Blk X scope fun Y => DN Y pn elt f) (hs : ∀ x, foldedSetIterable iter X.env x = pure x := by intro _; rfl) :
    DS X pn (.Assign [.Name y py] (.ListComp elt [⟨tg, iter, ifs, 0⟩] scope pos) spos) (dSet i (dLc (lcOwn own) fi t c f .ml)) := ps_weak (ps_setLc hc hN hy hyl hsw hi ok hg ht he hs) fun E σ H q => by
  obtain ⟨F, A, L, D, lo, hg, p⟩ := q
  refine low_lcO hj hp ⟨F, A, L, _, lo, hg, fun x L1 v F1 A1 B H1 h1 e1 lo1 f1 sB n => ?_⟩
  obtain ⟨A', l, s⟩ := lo1.set f1 sB n hpi
  exact p.nx _ _ F1 A' H1 h1 (e1.less fun a z => (s a z).symm) l
end
end DL

/-! isinstance of built-in types. -/
namespace DL
open PySem PySem.Spec PyProof.Rows L2
inductive Ty where | bool | int | str | tup | lst
def Ty.nm : Ty → String | .bool => "bool" | .int => "int" | .str => "str" | .tup => "tuple" | .lst => "list"
def isiT (T : Ty) (x : D) : Option Bool := match x with
  | .non => some false
  | .bl _ => some (match T with | .bool | .int => true | _ => false)
  | .int _ => some (match T with | .int => true | _ => false)
  | .str _ => some (match T with | .str => true | _ => false)
  | .tup _ => some (match T with | .tup => true | _ => false)
  | .lst _ => some (match T with | .lst => true | _ => false)
  | _ => none
def gIsi (T : Ty) (x : D) (k : D → Prop) : Prop := match isiT T x with
  | some b => k (.bl b)
  | none => False
section
variable {X : Cx} {pn : List (Nat × V)} {e : Expr} {fe : FE} {p p2 pos : Pos}
theorem isi_fr {K : PySem.W.Frag} {H : Hp} {F : Fp} {v : V} {x : D} {T : Ty} {b : Bool} (h : Fr K H F v x) (e : isiT T x = some b) : ∃ t, TyX K H v t ∧ PySem.W.kitOne K t (.type T.nm) = some b := by
  cases h with
  | non => cases e; exact ⟨_, .base .non, by cases T <;> exact kit_ty (by decide +kernel)⟩
  | bl c => refine ⟨_, .base (.bl c), ?_⟩; cases T <;> cases e <;> exact kit_ty (by decide +kernel)
  | int c => refine ⟨_, .base (.int c), ?_⟩; cases T <;> cases e <;> exact kit_ty (by decide +kernel)
  | str c => refine ⟨_, .base (.str c), ?_⟩; cases T <;> cases e <;> exact kit_ty (by decide +kernel)
  | tup f h r => refine ⟨_, .base (.tup h), ?_⟩; cases T <;> cases e <;> exact kit_ty (by decide +kernel)
  | lst f h r => refine ⟨_, .base (.lst h), ?_⟩; cases T <;> cases e <;> exact kit_ty (by decide +kernel)
  | _ => cases e
theorem d_isi (T : Ty) {x : Str} (hg : Gl X "isinstance") (hm : X.mg "isinstance" = none) (hg2 : Gl X x) (hm2 : X.mg x = none) (hv : bootBuiltins x = some (.type T.nm)) (he : DE X pn e fe) (hn : x ≠ "__name__" := by decide) (hdb : (x == ("__debug__" : Str)) = false := by decide)
    (hs : starEach [e, .Name x p2] X.env = (false, eval e X.env) :: starEach [.Name x p2] X.env := by rfl) (hs2 : starEach [.Name x p2] X.env = (false, eval (.Name x p2) X.env) :: starEach [] X.env := by rfl) (hpl : (backTo pos (starEach [.Name x p2] X.env)).any (·.1) = false := by rfl) :
    DE X pn (.Call (.Name "isinstance" p) [e, .Name x p2] [] pos) (dUn (gIsi T) fe) := pe_weak (pe_callB call_isi hg hm boot_isinstance (pa_cons he (pa_cons (pe_bltn (v := .ty T.nm) hg2 hm2 hv rfl hn hdb) pa_nil hs2) hs) (by decide) (by decide) hs hpl) fun σ H Q q => by
  obtain ⟨F, A, L, R, lo, h, post⟩ := q
  refine ⟨F, A, L, _, lo, h, fun x L1 v F1 A1 H1 h1 e1 lo1 f1 => ?_⟩
  unfold gIsi at h1
  split at h1
  · next b eb =>
    obtain ⟨t, h2, h3⟩ := isi_fr f1 eb
    exact ⟨v, .ty T.nm, t, .type T.nm, b, rfl, .ty _, h2, h3, post _ L1 _ F1 A1 H1 h1 e1 lo1 (.bl _)⟩
  · exact h1.elim
end
end DL

/-! The readings that lemmas are said of: not to be unfolded by accident. -/
namespace DL
open PySem PySem.Spec PyProof.Rows L2
@[irreducible] def gIxI : D → D → (D → Prop) → Prop := gIx
theorem gIx_I : gIx = gIxI := by unfold gIxI; rfl
@[irreducible] def gInBI (b : Bool) : D → D → (D → Prop) → Prop := gInB b
theorem gInB_I (b : Bool) : gInB b = gInBI b := by unfold gInBI; rfl
theorem gIn_I : gIn = gInBI false := by unfold gInBI; rfl
theorem gNotIn_I : gNotIn = gInBI true := by unfold gInBI; rfl
@[irreducible] def gSrtSetI : D → (D → Prop) → Prop := gSrtSet
theorem gSrtSet_I : gSrtSet = gSrtSetI := by unfold gSrtSetI; rfl
@[irreducible] def dAppIxI : Nat → FE → FE → FE := dAppIx
theorem dAppIx_I : dAppIx = dAppIxI := by unfold dAppIxI; rfl
@[irreducible] def dSetIxI : Nat → FE → FE → FS := dSetIx
theorem dSetIx_I : dSetIx = dSetIxI := by unfold dSetIxI; rfl
@[irreducible] def dSeqI : FS → FS → FS := dSeq
theorem dSeq_I : dSeq = dSeqI := by unfold dSeqI; rfl
@[irreducible] def dRetI : FE → FS := dRet
theorem dRet_I : dRet = dRetI := by unfold dRetI; rfl
end DL

/-! Lemmas on values for the defs of the laws. -/
namespace DL
open PySem PySem.Spec PyProof.Rows L2
theorem atI_getD {α : Type} {xs : List α} {i : Int} (d : α) (h0 : 0 ≤ i) (h1 : i < xs.length) : atI xs i = some (xs.getD i.toNat d) := by
  obtain ⟨x, _, h, e⟩ := atI_mem h0 h1
  rw [h, List.getD_eq_getElem?_getD, e]; rfl
/-- a list asked at a place within -/
theorem ix_lst {xs : List D} {i : Int} {k : D → Prop} (h0 : 0 ≤ i) (h1 : i < xs.length) (h : ∀ x ∈ xs, k x) : gIxI (.lst xs) (.int i) k := by
  obtain ⟨x, hx, e, _⟩ := atI_mem h0 h1
  rw [← gIx_I]
  show (match atI xs i with | some d => k d | none => False)
  rw [e]
  exact h x hx
theorem ix_lst' {xs : List D} {i : Int} {k : D → Prop} (h0 : 0 ≤ i) (h1 : i < xs.length) (h : ∀ x, xs[i.toNat]? = some x → k x) : gIxI (.lst xs) (.int i) k := by
  obtain ⟨x, hx, e, e2⟩ := atI_mem h0 h1
  rw [← gIx_I]
  show (match atI xs i with | some d => k d | none => False)
  rw [e]
  exact h x e2
theorem ix_tup' {xs : List D} {i : Int} {k : D → Prop} (h0 : 0 ≤ i) (h1 : i < xs.length) (h : ∀ x, xs[i.toNat]? = some x → k x) : gIxI (.tup xs) (.int i) k := by
  obtain ⟨x, hx, e, e2⟩ := atI_mem h0 h1
  rw [← gIx_I]
  show (match atI xs i with | some d => k d | none => False)
  rw [e]
  exact h x e2
theorem ix_lstI {xs : List Int} {i : Int} {k : D → Prop} (h0 : 0 ≤ i) (h1 : i < xs.length) (h : k (.int (xs.getD i.toNat 0))) : gIxI (.lst (xs.map .int)) (.int i) k := by
  refine ix_lst' h0 (by rw [List.length_map]; exact h1) fun x e => ?_
  rw [List.getElem?_map, List.getElem?_eq_getElem (by omega)] at e
  rw [List.getD_eq_getElem?_getD, List.getElem?_eq_getElem (by omega)] at h
  exact Option.some.inj e ▸ h
theorem ix_tupI {xs : List Int} {i : Int} {k : D → Prop} (h0 : 0 ≤ i) (h1 : i < xs.length) (h : k (.int (xs.getD i.toNat 0))) : gIxI (.tup (xs.map .int)) (.int i) k := by
  refine ix_tup' h0 (by rw [List.length_map]; exact h1) fun x e => ?_
  rw [List.getElem?_map, List.getElem?_eq_getElem (by omega)] at e
  rw [List.getD_eq_getElem?_getD, List.getElem?_eq_getElem (by omega)] at h
  exact Option.some.inj e ▸ h
theorem getD_mem {α : Type} {xs : List α} {i : Int} {d : α} (h0 : 0 ≤ i) (h1 : i < xs.length) : xs.getD i.toNat d ∈ xs := by
  rw [List.getD_eq_getElem?_getD, List.getElem?_eq_getElem (by omega)]
  exact List.getElem_mem _
/-! ### equality and membership of data -/
theorem deq_int (i j : Int) : deq (.int i) (.int j) = decide (i = j) := by
  show (i == j) = _
  exact Bool.beq_eq_decide_eq i j
theorem any_ints (l : List Int) (i : Int) : ((l.map D.int).any fun z => deq z (.int i)) = decide (i ∈ l) := by
  induction l with
  | nil => simp
  | cons j r ih =>
    rw [List.map_cons, List.any_cons, ih, deq_int]
    by_cases h : j = i
    · subst h; simp
    · have : ¬ i = j := fun e => h e.symm
      simp [h, this]
theorem flat_ints (l : List Int) : (l.map D.int).all flat = true := by
  induction l with
  | nil => rfl
  | cons i r ih => rw [List.map_cons, List.all_cons, ih]; rfl
/-- i in a tuple, a list of ints -/
theorem in_tupI {neg : Bool} {l : List Int} {i : Int} {k : D → Prop} (h : k (.bl (if neg then !decide (i ∈ l) else decide (i ∈ l)))) : gInBI neg (.int i) (.tup (l.map .int)) k := by
  rw [← gInB_I]
  refine ⟨.inl ⟨rfl, flat_ints l⟩, ?_⟩
  rw [any_ints]
  exact h
theorem in_lstI {neg : Bool} {l : List Int} {i : Int} {k : D → Prop} (h : k (.bl (if neg then !decide (i ∈ l) else decide (i ∈ l)))) : gInBI neg (.int i) (.lst (l.map .int)) k := by
  rw [← gInB_I]
  refine ⟨.inl ⟨rfl, flat_ints l⟩, ?_⟩
  rw [any_ints]
  exact h
/-! ### sorted sets -/
theorem asc_unique {α : Type} [LT α] (irr : ∀ a : α, ¬ a < a) (asym : ∀ a b : α, a < b → ¬ b < a) : ∀ {l m : List α}, l.Pairwise (· < ·) → m.Pairwise (· < ·) → (∀ x, x ∈ l ↔ x ∈ m) → l = m
  | [], [], _, _, _ => rfl
  | [], x :: m, _, _, h => absurd ((h x).mpr (List.mem_cons_self ..)) (by simp)
  | x :: l, [], _, _, h => absurd ((h x).mp (List.mem_cons_self ..)) (by simp)
  | x :: l, y :: m, h1, h2, h => by
    obtain ⟨a1, a2⟩ := List.pairwise_cons.mp h1
    obtain ⟨b1, b2⟩ := List.pairwise_cons.mp h2
    have e : x = y := by
      rcases List.mem_cons.mp ((h x).mp (List.mem_cons_self ..)) with e | hx
      · exact e
      · rcases List.mem_cons.mp ((h y).mpr (List.mem_cons_self ..)) with e | hy
        · exact e.symm
        · exact absurd (a1 y hy) (asym _ _ (b1 x hx))
    subst e
    rw [asc_unique irr asym a2 b2 fun z => ?_]
    constructor
    · intro hz
      rcases List.mem_cons.mp ((h z).mp (List.mem_cons_of_mem _ hz)) with e | hz'
      · subst e
        exact absurd (a1 _ hz) (irr _)
      · exact hz'
    · intro hz
      rcases List.mem_cons.mp ((h z).mpr (List.mem_cons_of_mem _ hz)) with e | hz'
      · subst e
        exact absurd (b1 _ hz) (irr _)
      · exact hz'
theorem asc_ints {l m : List Int} (h1 : l.Pairwise (· < ·)) (h2 : m.Pairwise (· < ·)) (h : ∀ x, x ∈ l ↔ x ∈ m) : l = m := asc_unique (fun a => by omega) (fun a b => by omega) h1 h2 h
theorem asc_rows {l m : List (List Int)} (h1 : l.Pairwise (· < ·)) (h2 : m.Pairwise (· < ·)) (h : ∀ x, x ∈ l ↔ x ∈ m) : l = m :=
  asc_unique (fun a => NK.row_lt_irrefl a) (fun a b h => NK.row_le_lt (NK.row_lt_le h)) h1 h2 h
theorem upto_asc (lo hi : Int) : (upto lo hi).Pairwise (· < ·) := by
  unfold upto
  rw [List.pairwise_map]
  exact (List.pairwise_lt_range).imp fun h => by omega
theorem srt_ints {xs : List D} {ns : List Int} {k : D → Prop} {x : D} (e : seqOf x = some xs) (e2 : xs = ns.map .int) (hl : ns.length < 64) (h : ∀ ms : List Int, ms.Pairwise (· < ·) → (∀ i, i ∈ ms ↔ i ∈ ns) → k (.lst (ms.map .int))) : gSrtSetI x k := by
  rw [← gSrtSet_I]
  unfold gSrtSet
  rw [e]
  subst e2
  exact ⟨by rw [List.length_map]; exact hl, .inl ⟨ns, intsOf_map ns, h⟩⟩
theorem srt_rows {xs : List D} {R : List (List Int)} {k : D → Prop} {x : D} (e : seqOf x = some xs) (e2 : xs = rowsL R) (hl : R.length < 64) (hne : ∀ r ∈ R, r ≠ []) (h : ∀ M : List (List Int), M.Pairwise (· < ·) → (∀ r, r ∈ M ↔ r ∈ R) → k (.lst (rowsL M))) : gSrtSetI x k := by
  rw [← gSrtSet_I]
  unfold gSrtSet
  rw [e]
  subst e2
  exact ⟨by rw [List.length_map]; exact hl, .inr ⟨R, rowsOf_map R, hne, h⟩⟩
/-! ### columns -/
def Cols (w : Int) (xs : List Int) : Prop := xs.Pairwise (· < ·) ∧ ∀ x ∈ xs, 0 ≤ x ∧ x < w
theorem Cols.nil {w : Int} : Cols w [] := ⟨.nil, fun x hx => (by cases hx)⟩
theorem Cols.upto {w : Int} : Cols w (DL.upto 0 w) := ⟨upto_asc 0 w, fun x hx => mem_upto.mp hx⟩
theorem asc_len {xs : List Int} {lo hi : Int} (h : xs.Pairwise (· < ·)) (hx : ∀ x ∈ xs, lo ≤ x ∧ x < hi) : xs.length ≤ (hi - lo).toNat := by
  induction xs generalizing lo with
  | nil => exact Nat.zero_le _
  | cons x r ih =>
    obtain ⟨a, b⟩ := List.pairwise_cons.mp h
    have h0 := hx x (List.mem_cons_self ..)
    have := ih (lo := x + 1) b fun y hy => ⟨by have := a y hy; omega, (hx y (List.mem_cons_of_mem _ hy)).2⟩
    rw [List.length_cons]
    omega
theorem Cols.len {w : Int} {xs : List Int} (h : Cols w xs) : xs.length ≤ w.toNat := by have := asc_len h.1 h.2; simpa using this
/-- a filter of a range -/
theorem filter_cols {w : Int} (p : Int → Bool) : Cols w ((upto 0 w).filter p) := ⟨(upto_asc 0 w).filter _, fun x hx => mem_upto.mp (List.mem_filter.mp hx).1⟩
/-- a comprehension over a range with a test that draws nothing -/
theorem upto_take {lo hi : Int} {i : Nat} (h : i < (hi - lo).toNat) : (upto lo hi).take (i + 1) = (upto lo hi).take i ++ [lo + (i : Nat)] := by
  rw [List.take_succ, upto_get h]; rfl
end DL

namespace DL
open PySem PySem.Spec PyProof.Rows L2
theorem seq_key0 {g h : FS} {E} {L : Ls} (Q : Ls → Prop) (hk : ∀ L, Q L → h E L) (hg : (∀ L, Q L → h E L) → g { E with nx := h E } L) : dSeq g h E L := hg hk
theorem seq_key {g h : FS} {E} {L : Ls} (Q : Ls → Prop) (hk : ∀ L, Q L → h E L) (hg : (∀ L, Q L → h E L) → g { E with nx := h E } L) : dSeqI g h E L := by
  rw [← dSeq_I]; exact hg hk
theorem take_map_succ {ns : List Int} {i : Nat} {d : D} (h : (ns.map D.int)[i]? = some d) : ∃ n, d = .int n ∧ ns[i]? = some n ∧ (ns.take (i + 1)).map D.int = (ns.take i).map D.int ++ [.int n] := by
  rw [List.getElem?_map, Option.map_eq_some_iff] at h
  obtain ⟨n, h, rfl⟩ := h
  refine ⟨n, rfl, h, ?_⟩
  rw [List.take_succ, h, List.map_append]; rfl
theorem noMos_nil : noMos [] = true := rfl
theorem noMos_cons {o : Option D} {L : Ls} (h1 : (match o with | some d => noMo d | none => true) = true) (h : noMos L = true) : noMos (o :: L) = true := by
  unfold noMos at h ⊢
  rw [List.all_cons, h, Bool.and_true]
  exact h1
theorem noMos_none {L : Ls} (h : noMos L = true) : noMos (none :: L) = true := noMos_cons rfl h
theorem noMos_ml {l : List Int} {L : Ls} (h : noMos L = true) : noMos (some (.ml (l.map .int)) :: L) = true := noMos_cons (noMo_mlI l) h
theorem noMos_mlA {l : List Int} {i : Int} {L : Ls} (h : noMos L = true) : noMos (some (.ml (l.map .int ++ [.int i])) :: L) = true := by
  have := noMos_ml (l := l ++ [i]) h
  rw [List.map_append] at this
  exact this
theorem noMos_fr {d : D} {L : Ls} (h1 : noMo d = true) (h : noMos L = true) : noMos (some d :: L) = true := noMos_cons h1 h
/-- rows under way -/
theorem noMoL_mls : ∀ ps : List (List Int), noMoL (ps.map fun p => D.ml (p.map .int)) = true
  | [] => rfl
  | p :: r => by rw [List.map_cons, noMoL, noMoL_mls r]; simp [noMo, noMoL_ints]
theorem noMoL_rows : ∀ ps : List (List Int), noMoL (rowsL ps) = true
  | [] => rfl
  | p :: r => by
    show (noMo (.tup (p.map .int)) && noMoL (rowsL r)) = true
    rw [noMoL_rows r]; rfl
theorem noMos_mls {ps : List (List Int)} {L : Ls} (h : noMos L = true) : noMos (some (.ml (ps.map fun p => D.ml (p.map .int))) :: L) = true := noMos_cons (by show noMo _ = true; unfold noMo; exact noMoL_mls ps) h
theorem noMos_rows {ps : List (List Int)} {L : Ls} (h : noMos L = true) : noMos (some (.ml (rowsL ps)) :: L) = true := noMos_cons (by show noMo _ = true; unfold noMo; exact noMoL_rows ps) h
theorem fzL_mls : ∀ ps : List (List Int), fzL (ps.map fun p => D.ml (p.map .int)) = ps.map fun p => D.lst (p.map .int)
  | [] => rfl
  | p :: r => by rw [List.map_cons, fzL, fzL_mls r]; simp [fz, fzL_ints]
theorem fzL_rows : ∀ ps : List (List Int), fzL (rowsL ps) = rowsL ps
  | [] => rfl
  | p :: r => by
    show fz (.tup (p.map .int)) :: fzL (rowsL r) = _
    rw [fzL_rows r]; rfl
theorem frL_rowsB : ∀ ps : List (List Int), (rowsL ps).all isFr = true
  | [] => rfl
  | p :: r => by
    show (isFr (.tup (p.map .int)) && (rowsL r).all isFr) = true
    rw [frL_rowsB r]; rfl

end DL
namespace DL
open PySem PySem.Spec PyProof.Rows L2
section
variable {X : Cx} {pn : List (Nat × V)} {pos cpos : Pos}
/-- list(x) of an owned list of frozen items -/
def dCopy (j : Nat) : FE := fun L Q => match L[j]? with
  | some (some (.ml xs)) => xs.all isFr = true ∧ Q (.ml xs) L
  | _ => False
theorem d_copyL (j : Nat) {x y : Str} {p' q' : Pos} (hg : Gl X x) (hm : X.mg x = none) (hv : bootBuiltins x = some (.type "list")) (hN : X.N[j]? = some y := by rfl) (hvs : Vis X.env.scope y := by first | exact Or.inl rfl | exact Or.inr (Or.inl rfl) | exact Or.inr (Or.inr rfl)) (hd : (y == ("__debug__" : Str)) = false := by decide)
    (hcd : (y == ("__classdict__" : Str)) = false := by decide) (hn : x ≠ "__name__" := by decide) (hdb : (x == ("__debug__" : Str)) = false := by decide)
    (he : starEach [.Name y q'] X.env = (false, eval (.Name y q') X.env) :: starEach [] X.env := by rfl) (hpl : (backTo pos (starEach [] X.env)).any (·.1) = false := by rfl) : DN X pn (.Call (.Name x p') [.Name y q'] [] pos) (dCopy j) :=
  pe_weak (pe_callTy call_list_of hg hm hv (pa_cons (pe_var hN hvs hd hcd) pa_nil) hn hdb he hpl) fun σ H Q q => by
  obtain ⟨F, A, L, R, lo, h, p⟩ := q
  unfold dCopy at h
  split at h
  · next ds e =>
    obtain ⟨hf, h⟩ := h
    obtain ⟨a, vs, k1, k2, k3, put⟩ := slot_list lo e hf
    refine ⟨.ref a, k1, _, _, rfl, .inl (SqL.of k2), fun l n => ?_⟩
    obtain ⟨nF, nA⟩ := lo.ok.new n
    obtain ⟨C, oc, nc⟩ := (k3.owU (H' := H) (o := .lst vs) nF).ow
    exact newOwn lo n (.ml upd_same oc (nc _)) (fun b z => z.elim id fun z => (nc b z).elim) h p
  · exact h.elim
end
end DL
namespace DL
open PySem PySem.Spec PyProof.Rows L2
theorem ixT {xs : List D} {i : Int} {d : D} {k : D → Prop} (e : atI xs i = some d) (h : k d) : gIxI (.tup xs) (.int i) k := by
  rw [← gIx_I]
  show (match atI xs i with | some d => k d | none => False)
  rw [e]; exact h
theorem ixL {xs : List D} {i : Int} {d : D} {k : D → Prop} (e : atI xs i = some d) (h : k d) : gIxI (.lst xs) (.int i) k := by
  rw [← gIx_I]
  show (match atI xs i with | some d => k d | none => False)
  rw [e]; exact h
theorem ix_fzI {xs : List Int} {i : Int} {k : D → Prop} (h0 : 0 ≤ i) (h1 : i < xs.length) (h : k (.int (xs.getD i.toNat 0))) : gIxI (.lst (fzL (xs.map .int))) (.int i) k := by
  rw [fzL_ints]; exact ix_lstI h0 h1 h
theorem ixN_ok {n : Nat} {i : Int} (h0 : 0 ≤ i) (h1 : i < n) : ixN n i = some i.toNat := by
  unfold ixN
  rw [if_pos h0, if_pos (by omega)]
theorem cmul_r {i j : Int} (h : -(2 ^ 64) < j ∧ j < 2 ^ 64) : CMul i j ∨ CMulW i j := .inl (.inr h)
theorem cmul_l {i j : Int} (h : -(2 ^ 64) < i ∧ i < 2 ^ 64) : CMul i j ∨ CMulW i j := .inl (.inl h)
end DL
namespace DL
open PySem PySem.Spec PyProof.Rows L2
theorem noLL_rows : ∀ ps : List (List Int), noLL (rowsL ps) = true
  | [] => rfl
  | p :: r => by
    show (noL (.tup (p.map .int)) && noLL (rowsL r)) = true
    rw [noLL_rows r, Bool.and_true]
    show noLL _ = true
    exact noLL_ints p
/-- rows of columns, the column c just put to the first k -/
def PInv (w c : Int) (k : Nat) (ps : List (List Int)) : Prop := ∀ (j : Nat) (p : List Int), ps[j]? = some p → p.Pairwise (· < ·) ∧ ∀ x ∈ p, 0 ≤ x ∧ x < w ∧ (x < c ∨ (x = c ∧ j < k))
theorem PInv.skip {w c : Int} {k : Nat} {ps : List (List Int)} (h : PInv w c k ps) : PInv w c (k + 1) ps := fun j p e => ⟨(h j p e).1, fun x hx => by have := (h j p e).2 x hx; omega⟩
theorem PInv.app {w c : Int} {k : Nat} {ps : List (List Int)} {p : List Int} (h : PInv w c k ps) (e : ps[k]? = some p) (h0 : 0 ≤ c) (h1 : c < w) : PInv w c (k + 1) (ps.set k (p ++ [c])) := by
  intro j q eq
  rw [List.getElem?_set] at eq
  by_cases hj : k = j
  · subst hj
    rw [if_pos rfl] at eq
    split at eq
    · have := Option.some.inj eq
      subst this
      obtain ⟨a, b⟩ := h k p e
      refine ⟨List.pairwise_append.mpr ⟨a, List.pairwise_singleton _ _, fun x hx y hy => ?_⟩, fun x hx => ?_⟩
      · rw [List.mem_singleton] at hy
        have := b x hx; omega
      · rcases List.mem_append.mp hx with hx | hx
        · have := b x hx; omega
        · rw [List.mem_singleton] at hx; omega
    · cases eq
  · rw [if_neg hj] at eq
    exact PInv.skip h j q eq
theorem PInv.start {w c : Int} {ps : List (List Int)} (h : ∀ p ∈ ps, p.Pairwise (· < ·) ∧ ∀ x ∈ p, 0 ≤ x ∧ x < w ∧ x < c) : PInv w c 0 ps := fun j p e => ⟨(h p (List.mem_of_getElem? e)).1, fun x hx => by have := (h p (List.mem_of_getElem? e)).2 x hx; omega⟩
theorem PInv.done {w c : Int} {k : Nat} {ps : List (List Int)} (h : PInv w c k ps) : ∀ p ∈ ps, p.Pairwise (· < ·) ∧ ∀ x ∈ p, 0 ≤ x ∧ x < w ∧ x < c + 1 := fun p hp => by
  obtain ⟨j, hj, rfl⟩ := List.getElem_of_mem hp
  exact ⟨(h j _ (List.getElem?_eq_getElem hj)).1, fun x hx => by have := (h j _ (List.getElem?_eq_getElem hj)).2 x hx; omega⟩
end DL
namespace DL
open PySem PySem.Spec PyProof.Rows L2
theorem appIx_ok {j : Nat} {fi fv : FE} {L L1 : Ls} {Q : D → Ls → Prop} {i : Int} {xs ys : List D} {n : Nat} (hm : isMl L j = true) (hi : ∀ k : D → Ls → Prop, k (.int i) L1 → fi L k) (e1 : L1[j]? = some (some (.ml xs))) (e2 : ixN xs.length i = some n) (e3 : xs[n]? = some (.ml ys))
    (h : ys.all isFr = true ∧ noMos L1 = true ∧ fv (fzAll L1) fun d _ => noL d = true ∧ ys.length < sizeLine ∧ Q .non (L1.set j (some (.ml (xs.set n (.ml (ys ++ [d]))))))) : dAppIxI j fi fv L Q := by
  rw [← dAppIx_I]
  refine ⟨hm, hi _ ?_⟩
  simp only [e1, e2, e3]
  exact h
theorem setIx_ok {j : Nat} {fi fv : FE} {E} {L L1 L2 : Ls} {d : D} {i : Int} {xs : List D} {n : Nat} (hm : isMl L j = true) (hv : ∀ k : D → Ls → Prop, k d L1 → fv L k) (hm1 : isMl L1 j = true) (hi : ∀ k : D → Ls → Prop, k (.int i) L2 → fi L1 k) (e1 : L2[j]? = some (some (.ml xs))) (hf : xs.all isFr = true) (e2 : ixN xs.length i = some n)
    (h : E.nx (L2.set j (some (.ml (xs.set n d))))) : dSetIxI j fi fv E L := by
  rw [← dSetIx_I]
  refine ⟨hm, hv _ ⟨hm1, hi _ ?_⟩⟩
  simp only [e1, e2]
  exact ⟨hf, h⟩
end DL
namespace DL

end DL
namespace DL
open PySem PySem.Spec PyProof.Rows L2
theorem cutD_ints (xs : List Int) (lo hi : Option Int) : ∃ a : List Int, cutD (fzL (xs.map .int)) lo hi = a.map .int := by
  rw [fzL_ints]
  unfold cutD
  simp only [← List.map_drop, ← List.map_take]
  exact ⟨_, rfl⟩
end DL
namespace DL
open PySem PySem.Spec PyProof.Rows L2
/-- a statement, the state written out -/
theorem st {g h : FS} {E} {L : Ls} (L' : Ls) (e : L = L') (k : g { E with nx := h E } L') : dSeqI g h E L := by
  subst e; rw [← dSeq_I]; exact k
theorem st0 {g h : FS} {E} {L : Ls} (k : g { E with nx := h E } L) : dSeqI g h E L := by
  rw [← dSeq_I]; exact k
theorem stR {f : FE} {E : DEnds} {L : Ls} (L' : Ls) (e : L = L') (k : f L' E.rt) : dRetI f E L := by
  subst e; rw [← dRet_I]; exact k
end DL
namespace DL
open PySem PySem.Spec PyProof.Rows L2
theorem upto_stepD {f : Int → Int} {lo hi : Int} {i : Nat} (h : lo + (i : Int) < hi) : (((upto lo hi).take (i + 1)).map f).map D.int = (((upto lo hi).take i).map f).map D.int ++ [.int (f (lo + (i : Int)))] := by
  rw [upto_take (by omega), List.map_append, List.map_append]; rfl
theorem upto_fst {p : Int → Bool} {lo hi : Int} {i : Nat} (h : lo + (i : Int) < hi) (hp : p (lo + (i : Int)) = true) : (((upto lo hi).take (i + 1)).filter p).map D.int = (((upto lo hi).take i).filter p).map D.int ++ [.int (lo + (i : Int))] := by
  rw [upto_take (by omega), List.filter_append, List.filter_cons_of_pos hp, List.map_append]; rfl
theorem upto_fsf {p : Int → Bool} {lo hi : Int} {i : Nat} (h : lo + (i : Int) < hi) (hp : p (lo + (i : Int)) = false) : (((upto lo hi).take (i + 1)).filter p).map D.int = (((upto lo hi).take i).filter p).map D.int := by
  rw [upto_take (by omega), List.filter_append, List.filter_cons_of_neg (by rw [hp]; exact Bool.false_ne_true)]; simp
theorem upto_all (lo hi : Int) : (upto lo hi).take (rng lo hi).length = upto lo hi := List.take_of_length_le (by rw [upto_length, rng_length]; omega)
theorem upto_none (lo hi : Int) : (upto lo hi).take 0 = [] := rfl
end DL
namespace DL
open PySem PySem.Spec PyProof.Rows L2
theorem in_tupA {neg : Bool} {l m : List Int} {i : Int} {k : D → Prop} (h : k (.bl (if neg then !decide (i ∈ l ++ m) else decide (i ∈ l ++ m)))) : gInBI neg (.int i) (.tup (l.map .int ++ m.map .int)) k := by
  rw [← List.map_append]; exact in_tupI h
end DL
namespace DL
open PySem PySem.Spec PyProof.Rows L2
theorem set_st {i : Nat} {f : FE} {E : DEnds} {L : Ls} (k : f L fun d L1 => E.nx (L1.set i (some d))) : dSet i f E L := k
end DL
namespace DL
open PySem PySem.Spec PyProof.Rows L2
theorem take_step {α : Type} {xs : List α} {i : Nat} {x : α} (h : xs[i]? = some x) : xs.take (i + 1) = xs.take i ++ [x] := by rw [List.take_succ, h]; rfl
theorem rows_get {ps : List (List Int)} {i : Nat} {d : D} (h : (rowsL ps)[i]? = some d) : ∃ p, ps[i]? = some p ∧ d = .tup (p.map .int) := by
  rw [List.getElem?_map, Option.map_eq_some_iff] at h
  obtain ⟨p, h, rfl⟩ := h
  exact ⟨p, h, rfl⟩
theorem rowsL_app (a b : List (List Int)) : rowsL (a ++ b) = rowsL a ++ rowsL b := List.map_append
theorem rowsL_len (a : List (List Int)) : (rowsL a).length = a.length := List.length_map ..
end DL
namespace DL
open PySem PySem.Spec PyProof.Rows L2
theorem noMoL_tabs : ∀ ts : List (List (List Int)), noMoL (ts.map fun M => D.tup (rowsL M)) = true
  | [] => rfl
  | p :: r => by rw [List.map_cons, noMoL, noMoL_tabs r]; rfl
theorem noMos_tabs {ts : List (List (List Int))} {L : Ls} (h : noMos L = true) : noMos (some (.ml (ts.map fun M => D.tup (rowsL M))) :: L) = true := noMos_cons (by show noMo _ = true; unfold noMo; exact noMoL_tabs ts) h
theorem fzL_tabs : ∀ ts : List (List (List Int)), fzL (ts.map fun M => D.tup (rowsL M)) = ts.map fun M => D.tup (rowsL M)
  | [] => rfl
  | p :: r => by
    rw [List.map_cons, fzL, fzL_tabs r]; rfl
theorem noLL_tabs : ∀ ts : List (List (List Int)), noLL (ts.map fun M => D.tup (rowsL M)) = true
  | [] => rfl
  | p :: r => by
    show (noL (.tup (rowsL p)) && noLL (r.map fun M => D.tup (rowsL M))) = true
    rw [noLL_tabs r, Bool.and_true]
    exact noLL_rows p
theorem frL_tabs : ∀ ts : List (List (List Int)), (ts.map fun M => D.tup (rowsL M)).all isFr = true
  | [] => rfl
  | p :: r => by
    show (isFr (.tup (rowsL p)) && (r.map fun M => D.tup (rowsL M)).all isFr) = true
    rw [frL_tabs r]; rfl

end DL

/-! Comparisons in a chain. -/
namespace DL
open PySem PySem.Spec PyProof.Rows L2
def dChain (g g' : D → D → (D → Prop) → Prop) (fa fb fc : FE) : FE := fun L Q => fa L fun x L1 => fb L1 fun y L2 => g x y fun z => match z with
  | .bl b => bif b then fc L2 fun w L3 => g' y w fun z' => Q z' L3 else Q (.bl false) L2
  | _ => False
section
variable {X : Cx} {pn : List (Nat × V)} {a b c : Expr} {fa fb fc : FE} {pos : Pos}
theorem low_chain {K : PySem.W.Frag} {r r' : R2} {g g' : D → D → (D → Prop) → Prop} (up : Up2 K r g) (up' : Up2 K r' g') {σ : L2.St} {H : Hp} {Q : VK} (q : low K pn (dChain g g' fa fb fc) σ H Q) : tChain r r' (low K pn fa) (low K pn fb) (low K pn fc) σ H Q := by
  obtain ⟨F, A, L, R, lo, h, p⟩ := q
  refine ⟨F, A, L, _, lo, h, fun x L1 v F1 A1 H1 h1 e1 lo1 f1 => ⟨F1, A1, L1, _, lo1, h1, fun y L2 u F2 A2 H2 h2 e2 lo2 f2 => ?_⟩⟩
  refine up H2 F2 v u x y _ _ (f1.ext lo1.ok e2) f2 h2 fun d z F' H' k gr f => ?_
  cases f with
  | bl b =>
    refine ⟨b, rfl, ?_⟩
    cases b with
    | false =>
      rw [if_neg Bool.false_ne_true]
      exact p (.bl false) L2 _ F' A2 H' k ((e1.trans e2).trans gr.ext) (gr.lo lo2) (.bl false)
    | true =>
      rw [if_pos rfl]
      exact ⟨F', A2, L2, _, gr.lo lo2, k, fun w L3 vw F3 A3 H3 h3 e3 lo3 f3 => up' H3 F3 u vw y w _ Q (f2.ext lo2.ok (gr.ext.trans e3)) f3 h3 fun d' z' F4 H4 k' gr' f' =>
        p d' L3 z' F4 A3 H4 k' ((((e1.trans e2).trans gr.ext).trans e3).trans gr'.ext) (gr'.lo lo3) f'⟩
  | _ => exact k.elim
theorem d_chain {op op' : CmpOp} {r r' : R2} {g g' : D → D → (D → Prop) → Prop} (ho : OpR X (compareOp op) r) (up : Up2 X.K r g) (ho' : OpR X (compareOp op') r') (up' : Up2 X.K r' g') (ha : DE X pn a fa) (hb : DE X pn b fb) (hc : DE X pn c fc)
    (hm : lastMarks [op, op'] [b, c] = false := by with_unfolding_all rfl) : DE X pn (.Compare a [op, op'] [b, c] pos) (dChain g g' fa fb fc) :=
  pe_weak (pe_chain ho ho' ha hb hc hm) fun σ H Q q => low_chain up up' q
theorem d_chainT {op op' : CmpOp} {r r' : R2} {g g' : D → D → (D → Prop) → Prop} (ho : OpR X (compareOp op) r) (up : Up2 X.K r g) (ho' : OpR X (compareOp op') r') (up' : Up2 X.K r' g') (ha : DE X pn a fa) (hb : DE X pn b fb) (hc : DE X pn c fc)
    (hm : lastMarks [op, op'] [b, c] = false := by with_unfolding_all rfl) : DT X pn (.Compare a [op, op'] [b, c] pos) (dTst (dChain g g' fa fb fc)) :=
  pt_weak (pt_chain ho ho' ha hb hc hm) fun σ H Q q => low_chain up up' (low_tst q)
end
end DL
namespace DL
open PySem PySem.Spec PyProof.Rows L2
/-! ### plain tuples of ints -/
theorem FrL.ints_eq {K : PySem.W.Frag} {H : Hp} {F : Fp} : ∀ {vs : List V} {ns : List Int}, FrL K H F vs (ns.map D.int) → vs = ns.map V.int
  | _, [], .nil => rfl
  | _, n :: r, .cons h t => by
    cases h
    rw [List.map_cons, ← FrL.ints_eq t]
def gTupP : List D → (D → Prop) → Prop := fun ds k => match ds with
  | [.lst xs] => match intsOf xs with
    | some ns => k (.ptu ns)
    | none => False
  | [.ptu ns] => k (.ptu ns)
  | _ => False
theorem up_tupP {K : PySem.W.Frag} : UpA K (fun xs H Q => NR.rTupP K xs H Q ∨ ∃ p ys, xs = [.ref p] ∧ SqT K H p ys ∧ Q (.ref p) H) gTupP := by
  intro H F vs ds k Q hv g ok
  match ds, g with
  | [.lst xs], g =>
    obtain ⟨v, rfl, h⟩ := hv.one
    unfold gTupP at g
    simp only at g
    split at g
    · next ns e =>
      cases intsOf_eq e
      cases h with
      | lst f h r =>
        have e2 := r.ints_eq
        subst e2
        exact .inl ⟨_, _, rfl, SqL.of h, fun l o n hc hd => ok _ _ _ _ g (grow_new n) (.ptu (.inr rfl) ⟨o, upd_same, hc, hd⟩)⟩
    · exact g.elim
  | [.ptu ns], g =>
    obtain ⟨v, rfl, h⟩ := hv.one
    cases h with
    | ptu f h => exact .inr ⟨_, _, rfl, h.sq, ok.same g (.ptu f h)⟩
def gPlace (x : D) (as : List D) (k : D → Prop) : Prop := match x, as with
  | .ptu ns, [.int z] => ∃ j : Nat, ns[j]? = some z ∧ (∀ m, m < j → ns[m]? ≠ some z) ∧ k (.int j)
  | _, _ => False
def isPtu : D → Bool | .ptu _ => true | _ => false
def dPlace (fe fi : FE) : FE := fun L Q => fe L fun x L1 => isPtu x = true ∧ fi L1 fun y L2 => gPlace x [y] fun z => Q z L2
section
variable {X : Cx} {pn : List (Nat × V)} {o e : Expr} {fe fi : FE} {apos cpos : Pos} {name : Str}
theorem call_tupPs : CallR X (.type "tuple") (fun xs H Q => NR.rTupP X.K xs H Q ∨ ∃ p ys, xs = [.ref p] ∧ SqT X.K H p ys ∧ Q (.ref p) H) := by
  intro pins s σ H xs us Q I r h
  rcases h with h | ⟨p, ys, rfl, hq, q⟩
  · exact NR.call_tupP pins s σ H xs us Q I r h
  · exact call_tuple_of pins s σ H _ us Q I r ⟨p, ys, rfl, .inr ⟨hq, q⟩⟩
theorem d_place (slot : Slot "tuple" name "tuple.index") (hty : typeOf (.builtin "tuple.index") = pure (.type "method_descriptor")) (ho : DE X pn o fe) (he : DE X pn e fi) (m : M1 X o name apos e cpos := by exact ⟨rfl, rfl, rfl, rfl⟩) : DE X pn (.Call (.Attribute o name apos) [e] [] cpos) (dPlace fe fi) :=
  pe_weak (NR.pe_tupM slot hty NR.mt_place ho he m) fun σ H Q q => by
  obtain ⟨F, A, L, R, lo, h, p⟩ := q
  refine ⟨F, A, L, _, lo, h, fun x L1 v F1 A1 H1 ⟨ht, h1⟩ e1 lo1 f1 => ?_⟩
  cases f1 with
  | ptu f hv =>
    refine ⟨⟨_, _, rfl, hv⟩, F1, A1, L1, _, lo1, h1, fun y L2 u F2 A2 H2 g e2 lo2 fu => ?_⟩
    match y, g, fu with
    | .int z, ⟨j, g1, g2, g3⟩, fu =>
      cases fu
      have hv2 := (Fr.ptu (K := X.K) f hv).ext lo1.ok e2
      cases hv2 with
      | ptu f2 h2 => exact ⟨_, _, _, j, rfl, rfl, h2.sq, g1, g2, p _ L2 _ F2 A2 H2 g3 (e1.trans e2) lo2 (.int _)⟩
  | _ => cases ht
end
end DL

/-! Words put together. -/
namespace DL
open PySem PySem.Spec PyProof.Rows L2
theorem FrL.strs_eq {K : PySem.W.Frag} {H : Hp} {F : Fp} : ∀ {vs : List V} {ns : List Str}, FrL K H F vs (ns.map D.str) → vs = ns.map V.str
  | _, [], .nil => rfl
  | _, n :: r, .cons h t => by
    cases h
    rw [List.map_cons, ← FrL.strs_eq t]
def isStrD : D → Bool | .str _ => true | _ => false
def gJoin (x y : D) (k : D → Prop) : Prop := match x, seqOf y with
  | .str a, some ds => match strsOf ds with
    | some ys => (ys.map (·.length)).sum + ys.length * a.length ≤ 16777216 ∧ k (.str (Txt.join a ys))
    | none => False
  | _, _ => False
def dJoin (fo fe : FE) : FE := fun L Q => fo L fun x L1 => isStrD x = true ∧ fe L1 fun y L2 => gJoin x y fun z => Q z L2
section
variable {X : Cx} {pn : List (Nat × V)} {o e : Expr} {fo fe : FE} {apos pos : Pos}
theorem d_join (ho : DE X pn o fo) (he : DE X pn e fe) (hs : starEach [e] X.env = [(false, eval e X.env)] := by rfl) (hbase : attributeBase o "join" X.env (eval o X.env) = eval o X.env := by rfl) (hline : (apos.endLine == pos.line) = true := by rfl) :
    DE X pn (.Call (.Attribute o "join" apos) [e] [] pos) (dJoin fo fe) :=
  pe_weak (pe_m1 PySem.F.slot_str_join PySem.F.type_str_join mt_join ho he hs hbase hline) fun σ H Q q => by
  obtain ⟨F, A, L, R, lo, h, p⟩ := q
  refine ⟨F, A, L, _, lo, h, fun x L1 v F1 A1 H1 ⟨ht, h1⟩ e1 lo1 f1 => ?_⟩
  cases f1 with
  | str a =>
    refine ⟨⟨a, rfl⟩, F1, A1, L1, _, lo1, h1, fun y L2 u F2 A2 H2 g e2 lo2 fu => ?_⟩
    unfold gJoin at g
    simp only at g
    cases fu with
    | lst f hv fr =>
      simp only [seqOf] at g
      split at g
      · next ys ey =>
        cases strsOf_eq ey
        have := fr.strs_eq
        subst this
        exact ⟨a, _, ys, rfl, rfl, .inl (SqL.of hv), g.1, p _ L2 _ F2 A2 H2 g.2 (e1.trans e2) lo2 (.str _)⟩
      · exact g.elim
    | tup f hv fr =>
      simp only [seqOf] at g
      split at g
      · next ys ey =>
        cases strsOf_eq ey
        have := fr.strs_eq
        subst this
        exact ⟨a, _, ys, rfl, rfl, .inr (SqT.of hv), g.1, p _ L2 _ F2 A2 H2 g.2 (e1.trans e2) lo2 (.str _)⟩
      · exact g.elim
    | _ => exact g.elim
  | _ => cases ht
end
end DL

/-! Dicts of one's own. -/
namespace DL
open PySem PySem.Spec PyProof.Rows L2
section
variable {κ : Type} [DecidableEq κ]
/-- in its place, or behind the others -/
def putD (es : List (κ × D)) (k : κ) (d : D) : List (κ × D) := if (es.any fun e => decide (e.1 = k)) = true then es.map (fun e => if e.1 = k then (e.1, d) else e) else es ++ [(k, d)]
theorem any_fst {α β : Type} {l : List (κ × α)} {m : List (κ × β)} {k : κ} (h : l.map Prod.fst = m.map Prod.fst) : (l.any fun e => decide (e.1 = k)) = m.any fun e => decide (e.1 = k) := by
  have a : ∀ {γ : Type} (l : List (κ × γ)), (l.any fun e => decide (e.1 = k)) = (l.map Prod.fst).any fun x => decide (x = k) := fun l => by rw [List.any_map]; rfl
  rw [a, a, h]
theorem map_put {K : PySem.W.Frag} {H : Hp} {F : Fp} {v : V} {d : D} {k : κ} (f : Fr K H F v d) : ∀ {kvs : List (κ × V)} {es : List (κ × D)}, kvs.map Prod.fst = es.map Prod.fst → FrL K H F (kvs.map Prod.snd) (es.map Prod.snd) →
    (kvs.map fun e => if e.1 = k then (e.1, v) else e).map Prod.fst = (es.map fun e => if e.1 = k then (e.1, d) else e).map Prod.fst ∧ FrL K H F ((kvs.map fun e => if e.1 = k then (e.1, v) else e).map Prod.snd) ((es.map fun e => if e.1 = k then (e.1, d) else e).map Prod.snd)
  | [], [], _, _ => ⟨rfl, .nil⟩
  | [], _ :: _, h, _ => by simp at h
  | _ :: _, [], h, _ => by simp at h
  | (a, x) :: kvs, (b, y) :: es, h, r => by
    simp only [List.map_cons, List.cons.injEq] at h
    obtain ⟨e, h⟩ := h
    subst e
    cases r with
    | cons r1 r2 =>
      obtain ⟨i1, i2⟩ := map_put f h r2
      by_cases c : a = k
      · simp only [List.map_cons, if_pos c]
        exact ⟨congrArg _ i1, .cons f i2⟩
      · simp only [List.map_cons, if_neg c]
        exact ⟨congrArg _ i1, .cons r1 i2⟩
theorem put_rel {K : PySem.W.Frag} {H : Hp} {F : Fp} {v : V} {d : D} {k : κ} {kvs : List (κ × V)} {es : List (κ × D)} (f : Fr K H F v d) (h : kvs.map Prod.fst = es.map Prod.fst) (r : FrL K H F (kvs.map Prod.snd) (es.map Prod.snd)) :
    (putK kvs k v).map Prod.fst = (putD es k d).map Prod.fst ∧ FrL K H F ((putK kvs k v).map Prod.snd) ((putD es k d).map Prod.snd) := by
  unfold putK putD
  rw [any_fst h]
  by_cases c : (es.any fun e => decide (e.1 = k)) = true
  · rw [if_pos c, if_pos c]
    exact map_put f h r
  · rw [if_neg c, if_neg c]
    simp only [List.map_append, List.map_cons, List.map_nil]
    exact ⟨by rw [h], r.append (.cons f .nil)⟩
end
section
variable {K : PySem.W.Frag} {pn : List (Nat × V)} {H : Hp} {F A : Fp} {σ : L2.St} {L : Ls} {j : Nat}
theorem slot_dK {es : List (Key × D)} (lo : Lo K H F pn σ L A) (e : L[j]? = some (some (.mK es))) (hf : (es.map Prod.snd).all isFr = true) : ∃ a kvs, σ[j]? = some (some (.ref a)) ∧ H a = some (.dK kvs) ∧ kvs.map Prod.fst = es.map Prod.fst ∧ FrL K H F (kvs.map Prod.snd) (es.map Prod.snd) ∧
    ∀ {kvs' : List (Key × V)} {es' : List (Key × D)}, kvs'.map Prod.fst = es'.map Prod.fst → FrL K H F (kvs'.map Prod.snd) (es'.map Prod.snd) → ∃ A', Lo K (upd H a (.dK kvs')) F pn σ (L.set j (some (.mK es'))) A' ∧ Ext A H F A' (upd H a (.dK kvs')) F := by
  obtain ⟨v, B, h1, h2, sb, put⟩ := slot_put lo e
  cases h2 with
  | fr h => cases h
  | mK h hk r n =>
    refine ⟨_, _, h1, h, hk, r.frL hf, fun {kvs' es'} hk' r' => ?_⟩
    have na := (lo.ok.a _ (sb _ (.inl rfl))).1
    obtain ⟨C, oc, nc⟩ := (r'.owU (H' := H) (o := .dK kvs') na).ow
    obtain ⟨A', l, x⟩ := put (d' := .mK es') (Xt := no) (.inl rfl) (.mK upd_same hk' oc (nc _)) (fun x z => .inl (.inl (z.resolve_right (nc x)))) (fun _ z => z.elim) fun _ z => z.elim
    exact ⟨A', l, ⟨x.sub, x.new |> fun f a z => (f a z).imp_right fun z => z.imp_right fun z => z.elim id fun z => z.elim, fun a o e n => x.keep a o e fun z => z.elim n fun z => z, fun a z => (x.own a z).imp_left fun z => z.elim id fun z => z.elim⟩⟩
theorem slot_dT {es : List (List Key × D)} (lo : Lo K H F pn σ L A) (e : L[j]? = some (some (.mT es))) (hf : (es.map Prod.snd).all isFr = true) : ∃ a kvs, σ[j]? = some (some (.ref a)) ∧ H a = some (.dT kvs) ∧ kvs.map Prod.fst = es.map Prod.fst ∧ FrL K H F (kvs.map Prod.snd) (es.map Prod.snd) ∧
    ∀ {kvs' : List (List Key × V)} {es' : List (List Key × D)}, kvs'.map Prod.fst = es'.map Prod.fst → FrL K H F (kvs'.map Prod.snd) (es'.map Prod.snd) → ∃ A', Lo K (upd H a (.dT kvs')) F pn σ (L.set j (some (.mT es'))) A' ∧ Ext A H F A' (upd H a (.dT kvs')) F := by
  obtain ⟨v, B, h1, h2, sb, put⟩ := slot_put lo e
  cases h2 with
  | fr h => cases h
  | mT h hk r n =>
    refine ⟨_, _, h1, h, hk, r.frL hf, fun {kvs' es'} hk' r' => ?_⟩
    have na := (lo.ok.a _ (sb _ (.inl rfl))).1
    obtain ⟨C, oc, nc⟩ := (r'.owU (H' := H) (o := .dT kvs') na).ow
    obtain ⟨A', l, x⟩ := put (d' := .mT es') (Xt := no) (.inl rfl) (.mT upd_same hk' oc (nc _)) (fun x z => .inl (.inl (z.resolve_right (nc x)))) (fun _ z => z.elim) fun _ z => z.elim
    exact ⟨A', l, ⟨x.sub, x.new |> fun f a z => (f a z).imp_right fun z => z.imp_right fun z => z.elim id fun z => z.elim, fun a o e n => x.keep a o e fun z => z.elim n fun z => z, fun a z => (x.own a z).imp_left fun z => z.elim id fun z => z.elim⟩⟩
end
/-- what is put to a dict of one's own -/
def gPut (x y d : D) (k : D → Prop) : Prop := match x with
  | .mK es => (es.map Prod.snd).all isFr = true ∧ es.length < sizeLine ∧ match keyOf y with
    | some key => k (.mK (putD es key d))
    | none => False
  | .mT es => (es.map Prod.snd).all isFr = true ∧ es.length < sizeLine ∧ match y with
    | .tup ds => match keysOf ds with
      | some ks => k (.mT (putD es ks d))
      | none => False
    | _ => False
  | _ => False
def isMd (L : Ls) (j : Nat) : Bool := match L[j]? with
  | some (some (.mK _)) => true
  | some (some (.mT _)) => true
  | _ => false
def dPut (j : Nat) (fi fv : FE) : FS := fun E L => fv L fun d L1 => isMd L1 j = true ∧ fi L1 fun y L2 => match L2[j]? with
  | some (some x) => gPut x y d fun x' => E.nx (L2.set j (some x'))
  | _ => False
theorem len_fst {κ α β : Type} {l : List (κ × α)} {m : List (κ × β)} (h : l.map Prod.fst = m.map Prod.fst) : l.length = m.length := by simpa using congrArg List.length h
theorem isMd_at {K : PySem.W.Frag} {pn : List (Nat × V)} {H : Hp} {F A : Fp} {σ : L2.St} {L : Ls} {j : Nat} (lo : Lo K H F pn σ L A) (h : isMd L j = true) : ∃ a, σ[j]? = some (some (.ref a)) := by
  unfold isMd at h
  split at h
  · next ds e =>
    obtain ⟨v, B, C, h1, h2, _⟩ := lo.loc.out e
    cases h2 with
    | fr h => cases h
    | mK => exact ⟨_, h1⟩
  · next ds e =>
    obtain ⟨v, B, C, h1, h2, _⟩ := lo.loc.out e
    cases h2 with
    | fr h => cases h
    | mT => exact ⟨_, h1⟩
  · cases h
section
variable {X : Cx} {pn : List (Nat × V)} {pos : Pos}
theorem d_put (j : Nat) (hu : X.A.units + 1 < cLine) {x : Str} {i value : Expr} {fi fv : FE} {px ps : Pos} (hi : DE X pn i fi) (hv' : DE X pn value fv) (hN : X.N[j]? = some x := by rfl) (hv : Vis X.env.scope x := by first | exact Or.inl rfl | exact Or.inr (Or.inl rfl) | exact Or.inr (Or.inr rfl)) (hd : (x == ("__debug__" : Str)) = false := by decide)
    (hcd : (x == ("__classdict__" : Str)) = false := by decide)
    (ha : ∀ v, assign (.Subscript (.Name x px) i ps) X.env v = (do
      let ov ← holding [v] (eval (.Name x px) X.env)
      let iv ← holding [v, ov] (eval i X.env)
      standAt ps
      holding [v, ov, iv] (setItem ov iv v)
      release [v, ov, iv] []) := by intro _; rfl)
    (hs : swapsWithSole [.Subscript (.Name x px) i ps] value pos.line X.env = pure false := by rfl) (hw : swappedStores [.Subscript (.Name x px) i ps] value X.env = pure none := by rfl)
    (h1 : (assignEach [.Subscript (.Name x px) i ps] X.env).map (·.2) = [assign (.Subscript (.Name x px) i ps) X.env] := by rfl) : DS X pn (.Assign [.Subscript (.Name x px) i ps] value pos) (dPut j fi fv) :=
  ps_weak (ps_asg hv' (pg_sub (pe_var hN hv hd hcd) hi (set_dict hu) ha) hs hw h1) fun E σ H q => by
  obtain ⟨F, A, L, D0, lo, h, p⟩ := q
  refine ⟨F, A, L, _, lo, h, fun d L1 v F1 A1 H1 ⟨m1, g1⟩ x1 lo1 fr => ?_⟩
  obtain ⟨a, k1⟩ := isMd_at lo1 m1
  refine ⟨_, k1, F1, A1, L1, _, lo1, g1, fun y L2 u F2 A2 H2 g2 x2 lo2 fu => ?_⟩
  have fd := fr.ext lo1.ok x2
  split at g2
  · next x e =>
    unfold gPut at g2
    split at g2
    · next es =>
      obtain ⟨hf, hl, g2⟩ := g2
      split at g2
      · next key ek =>
        obtain ⟨a', kvs, s1, s2, s3, s4, put⟩ := slot_dK lo2 e hf
        rw [k1] at s1
        cases s1
        obtain ⟨p1, p2⟩ := put_rel (k := key) fd s3 s4
        obtain ⟨A', l, xx⟩ := put p1 p2
        rw [keyOf_V fu ek]
        exact ⟨_, _, rfl, DPut.k s2 (by rw [len_fst s3]; exact hl), p.nx σ _ F2 A' _ g2 ((x1.trans x2).trans xx) l⟩
      · exact g2.elim
    · next es =>
      obtain ⟨hf, hl, g2⟩ := g2
      split at g2
      · next ds =>
        split at g2
        · next ks ek =>
          obtain ⟨a', kvs, s1, s2, s3, s4, put⟩ := slot_dT lo2 e hf
          rw [k1] at s1
          cases s1
          obtain ⟨p1, p2⟩ := put_rel (k := ks) fd s3 s4
          obtain ⟨A', l, xx⟩ := put p1 p2
          cases fu with
          | tup f' h' r' =>
            have := keysOf_V r' ek
            subst this
            exact ⟨_, _, rfl, DPut.t s2 h' (by rw [len_fst s3]; exact hl), p.nx σ _ F2 A' _ g2 ((x1.trans x2).trans xx) l⟩
        · exact g2.elim
      · exact g2.elim
    · exact g2.elim
  · exact g2.elim
end
end DL

/-! setdefault of a dict of one's own whose keys are tuples. -/
namespace DL
open PySem PySem.Spec PyProof.Rows L2
theorem isMd_isD {K : PySem.W.Frag} {pn : List (Nat × V)} {H : Hp} {F A : Fp} {σ : L2.St} {L : Ls} {j : Nat} (lo : Lo K H F pn σ L A) (h : isMd L j = true) : ∃ a, σ[j]? = some (some (.ref a)) ∧ IsD H a := by
  unfold isMd at h
  split at h
  · next ds e =>
    obtain ⟨v, B, C, h1, h2, _⟩ := lo.loc.out e
    cases h2 with
    | fr h => cases h
    | mK h => exact ⟨_, h1, .inl ⟨_, .inl h⟩⟩
  · next ds e =>
    obtain ⟨v, B, C, h1, h2, _⟩ := lo.loc.out e
    cases h2 with
    | fr h => cases h
    | mT h => exact ⟨_, h1, .inr ⟨_, .inl h⟩⟩
  · cases h
def gSetDef (x y d : D) (k : D → D → Prop) : Prop := match x with
  | .mT es => (es.map Prod.snd).all isFr = true ∧ es.length < sizeLine ∧ match y with
    | .tup ds => match keysOf ds with
      | some ks => match dget es ks with
        | some d0 => k d0 (.mT es)
        | none => k d (.mT (putD es ks d))
      | none => False
    | _ => False
  | _ => False
def dSetDef (j : Nat) (fy fd : FE) : FE := fun L Q => isMd L j = true ∧ fy L fun y L1 => fd L1 fun d L2 => match L2[j]? with
  | some (some x) => gSetDef x y d fun r x' => Q r (L2.set j (some x'))
  | _ => False
section
variable {X : Cx} {pn : List (Nat × V)} {e f : Expr} {fy fd : FE} {apos cpos px : Pos}
theorem d_setdef (j : Nat) (hu : X.A.units + 1 < cLine) {x : Str} (he : DE X pn e fy) (hf : DE X pn f fd) (hN : X.N[j]? = some x := by rfl) (hv : Vis X.env.scope x := by first | exact Or.inl rfl | exact Or.inr (Or.inl rfl) | exact Or.inr (Or.inr rfl)) (hd : (x == ("__debug__" : Str)) = false := by decide)
    (hcd : (x == ("__classdict__" : Str)) = false := by decide) (m : M2 X (.Name x px) "setdefault" apos e f cpos := by exact ⟨rfl, rfl, rfl, rfl⟩) : DE X pn (.Call (.Attribute (.Name x px) "setdefault" apos) [e, f] [] cpos) (dSetDef j fy fd) :=
  pe_weak (NR.pe_dsett hu (pe_var hN hv hd hcd) he hf m) fun σ H Q q => by
  obtain ⟨F, A, L, R, lo, ⟨hm, h⟩, p⟩ := q
  obtain ⟨a, k1, isd⟩ := isMd_isD lo hm
  refine ⟨_, k1, a, rfl, isd, F, A, L, _, lo, h, fun y L1 u F1 A1 H1 h1 e1 lo1 fu => ⟨F1, A1, L1, _, lo1, h1, fun d L2 v F2 A2 H2 g e2 lo2 fv => ?_⟩⟩
  have fu2 := fu.ext lo1.ok e2
  split at g
  · next x ex =>
    unfold gSetDef at g
    split at g
    · next es =>
      obtain ⟨hfr, hl, g⟩ := g
      split at g
      · next ds =>
        split at g
        · next ks ek =>
          obtain ⟨a', kvs, s1, s2, s3, s4, put⟩ := slot_dT lo2 ex hfr
          rw [k1] at s1
          cases s1
          cases fu2 with
          | tup f' h' r' =>
            have := keysOf_V r' ek
            subst this
            have rel := dget_rel ks s3 s4
            refine ⟨kvs, ks, _, s2, rfl, h', by rw [len_fst s3]; exact hl, fun v0 ev => ?_, fun ev => ?_⟩
            · rw [ev] at rel
              split at g
              · next d0 ed =>
                rw [ed] at rel
                have eL : L2.set j (some (.mT es)) = L2 := by
                  apply List.ext_getElem?
                  intro i
                  rw [List.getElem?_set]
                  by_cases c : j = i
                  · subst c
                    rw [if_pos rfl, if_pos (List.getElem?_eq_some_iff.mp ex).1, ex]
                  · rw [if_neg c]
                rw [eL] at g
                exact p d0 L2 v0 F2 A2 H2 g (e1.trans e2) lo2 rel
              · next ed => rw [ed] at rel; exact rel.elim
            · rw [ev] at rel
              split at g
              · next d0 ed => rw [ed] at rel; exact rel.elim
              · next ed =>
                obtain ⟨p1, p2⟩ := put_rel (k := ks) fv s3 s4
                obtain ⟨A', l, xx⟩ := put p1 p2
                exact p d _ v F2 A' _ g ((e1.trans e2).trans xx) l (fv.ext lo2.ok xx)
        · exact g.elim
      · exact g.elim
    · exact g.elim
  · exact g.elim
end
end DL

/-! Dict comprehensions whose keys are tuples. -/
namespace DL
open PySem PySem.Spec PyProof.Rows L2
def DcW (vs : List Nat) (t : FG) (c : FT) (fk fv : FE) (ds : List D) (P : Nat → List (List Key × D) → Ls → Prop) : Prop := ∀ i d acc L, ds[i]? = some d → P i acc L → t d L fun L2 => c L2 fun b L3 => bif b then fk L3 fun y L4 => fv L4 fun z L5 => (match y with
  | .tup ys => match keysOf ys with
    | some ks => P (i + 1) (putD acc ks z) (wipeD L5 vs)
    | none => False
  | _ => False) else P (i + 1) acc (wipeD L3 vs)
def dDc (vs : List Nat) (fi : FI) (t : FG) (c : FT) (fk fv : FE) (mk : List (List Key × D) → D) : FE := fun L Q => fi L fun ds L1 => ds.length ≤ sizeLine ∧ ∃ P : Nat → List (List Key × D) → Ls → Prop, P 0 [] (wipeD L1 vs) ∧ DcW vs t c fk fv ds P ∧ ∀ acc L2, P ds.length acc L2 → Q (mk acc) (backD L1 L2 vs)
structure DcAt (K : PySem.W.Frag) (pn : List (Nat × V)) (σ : L2.St) (H : Hp) (F A : Fp) (L : Ls) (p : Addr) (acc : List (List Key × D)) : Prop where
  lo : Lo K H F pn σ L A
  at_ : ∃ vacc, H p = some (.dT vacc) ∧ vacc.map Prod.fst = acc.map Prod.fst ∧ FrL K H F (vacc.map Prod.snd) (acc.map Prod.snd)
  nf : ¬ F p
  na : ¬ A p
section
variable {K : PySem.W.Frag} {pn : List (Nat × V)} {H : Hp} {F A : Fp}
/-- a dict comprehension's reading -/
theorem low_dc {vs : List Nat} {fi : FI} {t : FG} {c : FT} {fk fv : FE} {js : List Nat} {σ : L2.St} {H : Hp} {Q : VK} {mk : List (List Key × D) → D} (hj : ∀ j ∈ js, j ∈ vs) (hp : vs.all (fun v => !pn.any fun p => p.1 == v) = true)
    (q : ∃ F A L R, Lo K H F pn σ L A ∧ dDc vs fi t c fk fv mk L R ∧ ∀ acc L' v F' A' p H', R (mk acc) L' → Ext A H F (or2 A' (fun x => x = p)) H' F' → Lo K H' F' pn σ L' A' → (∃ vacc, H' p = some (.dT vacc) ∧ vacc.map Prod.fst = acc.map Prod.fst ∧ FrL K H' F' (vacc.map Prod.snd) (acc.map Prod.snd)) → ¬ F' p → ¬ A' p → v = .ref p → Q v H') :
    NR.tDcT (lowI K pn fi) (lowG K pn js t) (lowT K pn c) (low K pn fk) (low K pn fv) vs σ H Q := by
  obtain ⟨F, A, L, R, lo, h, post⟩ := q
  refine ⟨F, A, L, _, lo, h, fun ds L1 F1 A1 H1 J h1 e1 lo1 w p np => ?_⟩
  obtain ⟨hlen, W, h0, step, fin⟩ := h1
  obtain ⟨C1, low1, s1⟩ := lo1.wipe vs hp
  obtain ⟨nF, nA⟩ := lo1.ok.new np
  have k1 : ∀ a o, H1 a = some o → upd H1 p (.dT []) a = some o := fun a o e => by rw [upd_ne (ne_of_none e np)]; exact e
  have lo1' : Lo K (upd H1 p (.dT [])) F1 pn (wipe σ vs) (wipeD L1 vs) C1 := ⟨low1.loc.keep (fun _ z => z) fun a o _ => k1 a o, ⟨fun a z => by obtain ⟨o, e⟩ := low1.ok.f a z; exact ⟨o, k1 a o e⟩, fun a z => by obtain ⟨nf, o, e⟩ := low1.ok.a a z; exact ⟨nf, o, k1 a o e⟩⟩, low1.pin⟩
  refine ⟨fun i m H' => m = ds.length - i ∧ i ≤ ds.length ∧ ∃ F' A' L' acc, DcAt K pn (wipe σ vs) H' F' A' L' p acc ∧ acc.length ≤ i ∧ Ext A1 H1 F1 (or2 A' (fun x => x = p)) H' F' ∧ (∀ v ∈ vs, L'[v]? = some none ∨ L'.length ≤ v) ∧ W i acc L',
    ⟨_, rfl, Nat.zero_le _, F1, C1, wipeD L1 vs, [], ⟨lo1', ⟨[], upd_same, rfl, .nil⟩, nF, fun z => nA (s1 p z)⟩, Nat.le_refl _, ⟨fun _ z => z, fun _ z => .inl z, fun a o e _ => k1 a o e, fun a z => z.elim (fun z => .inl (s1 a z)) fun z => .inr (by rw [z]; exact np)⟩, fun v hv => wipeD_none hv, h0⟩, ?_⟩
  rintro i m H2 ⟨rfl, hi, F2, A2, L2, acc, ⟨lo2, ⟨vacc, eacc, kacc, facc⟩, nf2, na2⟩, hacc, e2, hw2, h2⟩
  have lt : Later F1 H1 F2 H2 := Later.of lo1.ok e2
  by_cases hlt : i < ds.length
  · refine .inr ⟨w.go i H2 F2 lt hlt, fun H' => (i + 1) ≤ ds.length ∧ ∃ F' A' L' acc, DcAt K pn (wipe σ vs) H' F' A' L' p acc ∧ acc.length ≤ i + 1 ∧ Ext A1 H1 F1 (or2 A' (fun x => x = p)) H' F' ∧ (∀ v ∈ vs, L'[v]? = some none ∨ L'.length ≤ v) ∧ W (i + 1) acc L',
      fun H' z => ⟨_, by omega, rfl, z.1, z.2⟩, fun x H3 y => ?_⟩
    have ed : ds[i]? = some ds[i] := List.getElem?_eq_getElem hlt
    obtain ⟨F3, gr, fr⟩ := w.yld i H2 F2 x H3 _ lt y ed
    have nf3 : ¬ F3 p := fun z => (gr.new p z).elim nf2 fun n => by rw [n] at eacc; cases eacc
    refine ⟨F3, A2, L2, _, _, gr.lo lo2, fr, step i _ acc L2 ed h2, fun σ4 L4 F4 A4 H4 h4 e4 lo4 u4 n4 => ?_⟩
    have keepP : ∀ {F A F' A' : Fp} {H H' : Hp}, Ext A H F A' H' F' → ¬ F p → ¬ A p → (∃ o, H p = some o) → ¬ F' p ∧ ¬ A' p := fun x nf na ⟨o, e⟩ => by
      refine ⟨fun z => ?_, fun z => ?_⟩
      · rcases x.new p z with z | z | z
        · exact nf z
        · rw [e] at z; cases z
        · exact na z
      · rcases x.own p z with z | z
        · exact na z
        · rw [e] at z; cases z
    have ep3 : H3 p = some (.dT vacc) := gr.keep _ _ eacc
    have ep4 : H4 p = some (.dT vacc) := e4.keep _ _ ep3 na2
    obtain ⟨nf4, na4⟩ := keepP e4 nf3 na2 ⟨_, ep3⟩
    have f3 := (facc.grow gr).ext (gr.lo lo2).ok e4
    have wipe4 : wipe σ4 vs = wipe (wipe σ vs) vs := wipe_idem (fun j hj' => u4 j fun z => hj' (hj j z)) n4
    have wipe5 := wipe4.trans (wipe_twice σ vs)
    refine ⟨wipe5, F4, A4, L4, _, lo4, h4, fun b L5 F5 A5 H5 h5 e5 lo5 => ?_⟩
    have ep5 : H5 p = some (.dT vacc) := e5.keep _ _ ep4 na4
    obtain ⟨nf5, na5⟩ := keepP e5 nf4 na4 ⟨_, ep4⟩
    have f5 := f3.ext lo4.ok e5
    have up : ∀ {A A' : Fp} {H H' : Hp} {F F' : Fp}, Ext A H F A' H' F' → Ext (or2 A fun x => x = p) H F (or2 A' fun x => x = p) H' F' := fun x =>
      ⟨x.sub, fun a z => (x.new a z).imp_right fun z => z.imp_right .inl, fun a o e n => x.keep a o e fun z => n (.inl z), fun a z => z.elim (fun z => (x.own a z).imp_left .inl) fun z => .inl (.inr z)⟩
    have e15 : Ext A1 H1 F1 (or2 A5 fun x => x = p) H5 F5 := ((e2.trans gr.ext).trans (up e4)).trans (up e5)
    cases b with
    | true =>
      refine iteT ⟨F5, A5, L5, _, lo5, h5, fun y L6 v6 F6 A6 H6 h6 e6 lo6 fy => ⟨F6, A6, L6, _, lo6, h6, fun z L7 v7 F7 A7 H7 h7 e7 lo7 fz7 => ?_⟩⟩
      have ep6 : H6 p = some (.dT vacc) := e6.keep _ _ ep5 na5
      obtain ⟨nf6, na6⟩ := keepP e6 nf5 na5 ⟨_, ep5⟩
      have f6 := f5.ext lo5.ok e6
      have ep7 : H7 p = some (.dT vacc) := e7.keep _ _ ep6 na6
      obtain ⟨nf7, na7⟩ := keepP e7 nf6 na6 ⟨_, ep6⟩
      have f7 := f6.ext lo6.ok e7
      have fy7 := fy.ext lo6.ok e7
      split at h7
      · next ys =>
        split at h7
        · next ks ek =>
          cases fy7 with
          | tup fa ha ra =>
            have := keysOf_V ra ek
            subst this
            obtain ⟨C7, lo7w, s7⟩ := lo7.wipe vs hp
            rw [wipe5] at lo7w
            have k7 : ∀ a o, F7 a ∨ C7 a → H7 a = some o → upd H7 p (.dT (putK vacc ks v7)) a = some o := fun a o z e => by
              rw [upd_ne fun e' => ?_]
              · exact e
              · subst e'
                exact z.elim nf7 fun z => na7 (s7 _ z)
            obtain ⟨p1, p2⟩ := put_rel (k := ks) fz7 kacc f7
            refine ⟨vacc, ks, _, rfl, ep7, ha, by rw [len_fst kacc]; omega, hlt, F7, C7, wipeD L7 vs, putD acc ks z, ⟨⟨lo7w.loc.keep (fun _ z => z) k7, ⟨fun a z => ?_, fun a z => ?_⟩, lo7w.pin⟩, ⟨_, upd_same, p1, ?_⟩, nf7, fun z => na7 (s7 _ z)⟩, ?_, ?_, fun v hv => wipeD_none hv, h7⟩
            · obtain ⟨o, e⟩ := lo7w.ok.f a z
              exact ⟨o, k7 a o (.inl z) e⟩
            · obtain ⟨nf, o, e⟩ := lo7w.ok.a a z
              exact ⟨nf, o, k7 a o (.inr z) e⟩
            · exact p2.keep (fun _ z => z) fun a o z e => k7 a o (.inl z) e
            · unfold putD
              split
              · rw [List.length_map]; omega
              · rw [List.length_append]; exact Nat.succ_le_succ hacc
            · refine e15.trans ((up (e6.trans e7)).trans ⟨fun _ z => z, fun _ z => .inl z, fun a o e n => ?_, fun a z => .inl (z.imp_left (s7 a))⟩)
              rw [upd_ne fun z => n (.inr z)]
              exact e
        · exact h7.elim
      · exact h7.elim
    | false =>
      obtain ⟨C5, lo5w, s5⟩ := lo5.wipe vs hp
      rw [wipe5] at lo5w
      exact iteF ⟨hlt, F5, C5, wipeD L5 vs, acc, ⟨lo5w, ⟨vacc, ep5, kacc, f5⟩, nf5, fun z => na5 (s5 _ z)⟩, by omega, e15.less fun a z => z.imp_left (s5 a), fun v hv => wipeD_none hv, h5⟩
  · have e : i = ds.length := by omega
    subst e
    obtain ⟨C, hC, sC⟩ := lo1.loc.back lt lo2.loc hw2
    refine .inl ⟨w.stop H2 F2 lt, post acc _ _ F2 C p H2 (fin acc L2 h2) (e1.trans (e2.less fun a z => z.imp_left (sC a))) ⟨hC, ⟨lo2.ok.f, fun a z => lo2.ok.a a (sC a z)⟩, lo1.pin⟩ ⟨vacc, eacc, kacc, facc⟩ nf2 (fun z => na2 (sC p z)) rfl⟩
end
end DL
namespace DL
open PySem PySem.Spec PyProof.Rows L2
section
variable {X : Cx} {pn : List (Nat × V)} {tg kx vx iter : Expr} {ifs : List Expr} {scope : Scope} {own : List (Str × Nat)} {fi : FI} {t : FG} {c : FT} {fk fv : FE} {js : List Nat} {pos : Pos}
theorem low_dcF {K : PySem.W.Frag} {vs : List Nat} {σ : L2.St} {H : Hp} {Q : VK} (hj : ∀ j ∈ js, j ∈ vs) (hp : vs.all (fun v => !pn.any fun p => p.1 == v) = true) (q : low K pn (dDc vs fi t c fk fv .dT) σ H Q) :
    NR.tDcT (lowI K pn fi) (lowG K pn js t) (lowT K pn c) (low K pn fk) (low K pn fv) vs σ H Q := by
  obtain ⟨F, A, L, R, lo, h, p⟩ := q
  refine low_dc (mk := .dT) hj hp ⟨F, A, L, R, lo, h, fun acc L' v F' A' q H' r x l ⟨vacc, e, ke, fa⟩ nf na ev => ?_⟩
  subst ev
  have sub : ∀ a, F' a → or2 F' (fun x => x = q) a := fun _ z => .inl z
  have lo2 : Lo K H' (or2 F' fun x => x = q) pn σ L' A' := ⟨l.loc.keep sub fun a o _ e => e, ⟨fun a z => z.elim (l.ok.f a) fun z => by rw [z]; exact ⟨_, e⟩, fun a z => ⟨fun y => y.elim (l.ok.a a z).1 fun y => na (by rw [← y]; exact z), (l.ok.a a z).2⟩⟩, l.pin⟩
  refine p _ L' _ (or2 F' fun x => x = q) A' H' r ⟨fun a z => .inl (x.sub a z), fun a z => ?_, x.keep, fun a z => x.own a (.inl z)⟩ lo2 (.dT (.inr rfl) e ke (fa.keep sub fun a o _ e => e))
  rcases z with z | z
  · exact x.new a z
  · rcases x.own a (.inr z) with z | z
    · exact .inr (.inr z)
    · exact .inr (.inl z)
theorem low_dcM {K : PySem.W.Frag} {vs : List Nat} {σ : L2.St} {H : Hp} {Q : VK} (hj : ∀ j ∈ js, j ∈ vs) (hp : vs.all (fun v => !pn.any fun p => p.1 == v) = true) (q : lowN K pn (dDc vs fi t c fk fv .mT) σ H Q) :
    NR.tDcT (lowI K pn fi) (lowG K pn js t) (lowT K pn c) (low K pn fk) (low K pn fv) vs σ H Q := by
  obtain ⟨F, A, L, R, lo, h, p⟩ := q
  refine low_dc (mk := .mT) hj hp ⟨F, A, L, R, lo, h, fun acc L' v F' A' q H' r x l ⟨vacc, e, ke, fa⟩ nf na ev => ?_⟩
  subst ev
  obtain ⟨C, oc, nc⟩ := fa.ow
  have ow : Ow K H' F' (.ref q) (.mT acc) (or2 (fun x => x = q) C) := .mT e ke oc (nc q)
  have sub : ∀ a, or2 (fun x => x = q) C a → a = q := fun a z => z.elim id fun z => (nc a z).elim
  refine p _ L' _ F' A' _ H' r (x.less fun a z => z.imp_right (sub a)) l ow ⟨l.ok.f, fun a z => ?_⟩ fun a z => ?_
  · have := sub a z
    subst this
    exact ⟨nf, _, e⟩
  · have := sub a z
    subst this
    exact na
theorem d_dcT (hu : X.A.units + 1 < cLine) (hc : X.calm = true) (hN : X.N.Nodup) (hi : DI X pn tg iter fi) (ok : BlkOk X.N X.env.scope scope own) (hj : ∀ j ∈ js, j ∈ lcOwn own) (hp : (lcOwn own).all (fun v => !pn.any fun p => p.1 == v) = true)
    (hg : Blk X scope fun Y => PG Y tg (lowG Y.K pn js t)) (ht : Blk X scope fun Y => PTs Y ifs (lowT Y.K pn c)) (hk : Blk X scope fun Y => DE Y pn kx fk) (he : Blk X scope fun Y => DE Y pn vx fv) (hs : ∀ x, foldedSetIterable iter X.env x = pure x := by intro _; rfl) :
    DE X pn (.DictComp kx vx [⟨tg, iter, ifs, 0⟩] scope pos) (dDc (lcOwn own) fi t c fk fv .dT) := pe_weak (NR.pe_dcT hc hN hu hi ok hg ht hk he hs) fun σ H Q q => low_dcF hj hp q
theorem d_dcTM (hu : X.A.units + 1 < cLine) (hc : X.calm = true) (hN : X.N.Nodup) (hi : DI X pn tg iter fi) (ok : BlkOk X.N X.env.scope scope own) (hj : ∀ j ∈ js, j ∈ lcOwn own) (hp : (lcOwn own).all (fun v => !pn.any fun p => p.1 == v) = true)
    (hg : Blk X scope fun Y => PG Y tg (lowG Y.K pn js t)) (ht : Blk X scope fun Y => PTs Y ifs (lowT Y.K pn c)) (hk : Blk X scope fun Y => DE Y pn kx fk) (he : Blk X scope fun Y => DE Y pn vx fv) (hs : ∀ x, foldedSetIterable iter X.env x = pure x := by intro _; rfl) :
    DN X pn (.DictComp kx vx [⟨tg, iter, ifs, 0⟩] scope pos) (dDc (lcOwn own) fi t c fk fv .mT) := pe_weak (NR.pe_dcT hc hN hu hi ok hg ht hk he hs) fun σ H Q q => low_dcM hj hp q
theorem d_setDcT {i : Nat} {y : Str} {py spos : Pos} (hu : X.A.units + 1 < cLine) (hc : X.calm = true) (hN : X.N.Nodup) (hy : X.N[i]? = some y) (hyl : X.env.scope.names.lookup y = some .local) (hpi : (pn.any fun p => p.1 == i) = false)
    (hsw : swapsWith (.DictComp kx vx [⟨tg, iter, ifs, 0⟩] scope pos) (some (.Name y py)) spos.line X.env = pure true) (hi : DI X pn tg iter fi) (ok : BlkOk X.N X.env.scope scope own) (hj : ∀ j ∈ js, j ∈ lcOwn own) (hp : (lcOwn own).all (fun v => !pn.any fun p => p.1 == v) = true)
    (hg : Blk X scope fun Y => PG Y tg (lowG Y.K pn js t)) (ht : Blk X scope fun Y => PTs Y ifs (lowT Y.K pn c)) (hk : Blk X scope fun Y => DE Y pn kx fk) (he : Blk X scope fun Y => DE Y pn vx fv) (hs : ∀ x, foldedSetIterable iter X.env x = pure x := by intro _; rfl) :
    DS X pn (.Assign [.Name y py] (.DictComp kx vx [⟨tg, iter, ifs, 0⟩] scope pos) spos) (dSet i (dDc (lcOwn own) fi t c fk fv .dT)) := ps_weak (NR.ps_setDcT hc hN hu hy hyl hsw hi ok hg ht hk he hs) fun E σ H q => by
  obtain ⟨F, A, L, D, lo, hg, p⟩ := q
  refine low_dcF hj hp ⟨F, A, L, _, lo, hg, fun x L1 v F1 A1 H1 h1 e1 lo1 f1 => ?_⟩
  obtain ⟨A', l, s⟩ := lo1.set (.fr f1) (sane_no lo1.ok.f) (fun _ z => z.elim) hpi
  exact p.nx _ _ F1 A' H1 h1 (e1.less fun a z => (s a z).elim (fun z => z.elim) id) l
theorem d_setDcTM {i : Nat} {y : Str} {py spos : Pos} (hu : X.A.units + 1 < cLine) (hc : X.calm = true) (hN : X.N.Nodup) (hy : X.N[i]? = some y) (hyl : X.env.scope.names.lookup y = some .local) (hpi : (pn.any fun p => p.1 == i) = false)
    (hsw : swapsWith (.DictComp kx vx [⟨tg, iter, ifs, 0⟩] scope pos) (some (.Name y py)) spos.line X.env = pure true) (hi : DI X pn tg iter fi) (ok : BlkOk X.N X.env.scope scope own) (hj : ∀ j ∈ js, j ∈ lcOwn own) (hp : (lcOwn own).all (fun v => !pn.any fun p => p.1 == v) = true)
    (hg : Blk X scope fun Y => PG Y tg (lowG Y.K pn js t)) (ht : Blk X scope fun Y => PTs Y ifs (lowT Y.K pn c)) (hk : Blk X scope fun Y => DE Y pn kx fk) (he : Blk X scope fun Y => DE Y pn vx fv) (hs : ∀ x, foldedSetIterable iter X.env x = pure x := by intro _; rfl) :
    DS X pn (.Assign [.Name y py] (.DictComp kx vx [⟨tg, iter, ifs, 0⟩] scope pos) spos) (dSet i (dDc (lcOwn own) fi t c fk fv .mT)) := ps_weak (NR.ps_setDcT hc hN hu hy hyl hsw hi ok hg ht hk he hs) fun E σ H q => by
  obtain ⟨F, A, L, D, lo, hg, p⟩ := q
  refine low_dcM hj hp ⟨F, A, L, _, lo, hg, fun x L1 v F1 A1 B H1 h1 e1 lo1 f1 sB n => ?_⟩
  obtain ⟨A', l, s⟩ := lo1.set f1 sB n hpi
  exact p.nx _ _ F1 A' H1 h1 (e1.less fun a z => (s a z).symm) l
end
end DL

/-! sorted of a set comprehension of rows of ints; pop(i). -/
namespace DL
open PySem PySem.Spec PyProof.Rows L2

/-- a row of ints is put in: acc are all that were put in so far -/
def ScW (vs : List Nat) (t : FG) (c : FT) (f : FE) (ds : List D) (P : Nat → List (List Int) → Ls → Prop) : Prop := ∀ i d acc L, ds[i]? = some d → P i acc L → t d L fun L2 => c L2 fun b L3 => bif b then f L3 fun x L4 => ∃ k : List Int, x = .tup (k.map .int) ∧ P (i + 1) (acc ++ [k]) (wipeD L4 vs) else P (i + 1) acc (wipeD L3 vs)
def dSrtSc (vs : List Nat) (fi : FI) (t : FG) (c : FT) (f : FE) : FE := fun L Q => fi L fun ds L1 => ds.length < 64 ∧ ∃ P : Nat → List (List Int) → Ls → Prop, P 0 [] (wipeD L1 vs) ∧ ScW vs t c f ds P ∧
  ∀ acc L2, P ds.length acc L2 → ((∀ r ∈ acc, r ≠ []) ∨ (∀ r ∈ acc, r = [])) ∧ ∀ M : List (List Int), M.Pairwise (· < ·) → (∀ r, r ∈ M ↔ r ∈ acc) → Q (.lst (rowsL M)) (backD L1 L2 vs)
/-- the set, as it is filled -/
structure ScAt (P : Program) (w : World) (K : PySem.W.Frag) (pn : List (Nat × V)) (σ : L2.St) (H : Hp) (F A : Fp) (L : Ls) (p : Addr) (acc : List (List Int)) (S : List (Addr × List Int)) : Prop where
  lo : Lo K H F pn σ L A
  at_ : H p = some (SetTO P w p S)
  tup : ∀ q ∈ S, F q.1 ∧ H q.1 = some (.tup (q.2.map V.int))
  mem : ∀ y, y ∈ S.map (·.2) ↔ y ∈ acc
  nd : (S.map (·.2)).Nodup
  nf : ¬ F p
  na : ¬ A p
theorem low_srtSc {P : Program} {w : World} {K : PySem.W.Frag} {pn : List (Nat × V)} {vs : List Nat} {fi : FI} {t : FG} {c : FT} {f : FE} {js : List Nat} {σ : L2.St} {H : Hp} {Q : VK} (hj : ∀ j ∈ js, j ∈ vs) (hp : vs.all (fun v => !pn.any fun p => p.1 == v) = true)
    (q : low K pn (dSrtSc vs fi t c f) σ H Q) :
    NR.tScT P w K (lowI K pn fi) (lowG K pn js t) (lowT K pn c) (low K pn f) vs σ H fun u H2 => NR.rSrtA K P w [u] H2 Q := by
  obtain ⟨F, A, L, R, lo, h, post⟩ := q
  refine ⟨F, A, L, _, lo, h, fun ds L1 F1 A1 H1 J h1 e1 lo1 w' p np => ?_⟩
  obtain ⟨hlen, W, h0, step, fin⟩ := h1
  obtain ⟨C1, low1, s1⟩ := lo1.wipe vs hp
  obtain ⟨nF, nA⟩ := lo1.ok.new np
  have k1 : ∀ a o, H1 a = some o → upd H1 p (SetTO P w p []) a = some o := fun a o e => by rw [upd_ne (ne_of_none e np)]; exact e
  have lo1' : Lo K (upd H1 p (SetTO P w p [])) F1 pn (wipe σ vs) (wipeD L1 vs) C1 := ⟨low1.loc.keep (fun _ z => z) fun a o _ => k1 a o, ⟨fun a z => by obtain ⟨o, e⟩ := low1.ok.f a z; exact ⟨o, k1 a o e⟩, fun a z => by obtain ⟨nf, o, e⟩ := low1.ok.a a z; exact ⟨nf, o, k1 a o e⟩⟩, low1.pin⟩
  refine ⟨fun i m H' => m = ds.length - i ∧ i ≤ ds.length ∧ ∃ F' A' L' acc S, ScAt P w K pn (wipe σ vs) H' F' A' L' p acc S ∧ S.length ≤ i ∧ Ext A1 H1 F1 (or2 A' (fun x => x = p)) H' F' ∧ (∀ v ∈ vs, L'[v]? = some none ∨ L'.length ≤ v) ∧ W i acc L',
    ⟨_, rfl, Nat.zero_le _, F1, C1, wipeD L1 vs, [], [], ⟨lo1', upd_same, fun q hq => (by cases hq), fun y => .rfl, .nil, nF, fun z => nA (s1 p z)⟩, Nat.le_refl _, ⟨fun _ z => z, fun _ z => .inl z, fun a o e _ => k1 a o e, fun a z => z.elim (fun z => .inl (s1 a z)) fun z => .inr (by rw [z]; exact np)⟩, fun v hv => wipeD_none hv, h0⟩, ?_⟩
  rintro i m H2 ⟨rfl, hi, F2, A2, L2, acc, S, ⟨lo2, eS, tS, mS, ndS, nf2, na2⟩, hS, e2, hw2, h2⟩
  have lt : Later F1 H1 F2 H2 := Later.of lo1.ok e2
  by_cases hlt : i < ds.length
  · refine .inr ⟨w'.go i H2 F2 lt hlt, fun H' => (i + 1) ≤ ds.length ∧ ∃ F' A' L' acc S, ScAt P w K pn (wipe σ vs) H' F' A' L' p acc S ∧ S.length ≤ i + 1 ∧ Ext A1 H1 F1 (or2 A' (fun x => x = p)) H' F' ∧ (∀ v ∈ vs, L'[v]? = some none ∨ L'.length ≤ v) ∧ W (i + 1) acc L',
      fun H' z => ⟨_, by omega, rfl, z.1, z.2⟩, fun x H3 y => ?_⟩
    have ed : ds[i]? = some ds[i] := List.getElem?_eq_getElem hlt
    obtain ⟨F3, gr, fr⟩ := w'.yld i H2 F2 x H3 _ lt y ed
    have nf3 : ¬ F3 p := fun z => (gr.new p z).elim nf2 fun n => by rw [n] at eS; cases eS
    refine ⟨F3, A2, L2, _, _, gr.lo lo2, fr, step i _ acc L2 ed h2, fun σ4 L4 F4 A4 H4 h4 e4 lo4 u4 n4 => ?_⟩
    have keepP : ∀ {F A F' A' : Fp} {H H' : Hp}, Ext A H F A' H' F' → ¬ F p → ¬ A p → (∃ o, H p = some o) → ¬ F' p ∧ ¬ A' p := fun x nf na ⟨o, e⟩ => by
      refine ⟨fun z => ?_, fun z => ?_⟩
      · rcases x.new p z with z | z | z
        · exact nf z
        · rw [e] at z; cases z
        · exact na z
      · rcases x.own p z with z | z
        · exact na z
        · rw [e] at z; cases z
    have keepS : ∀ {F A F' A' : Fp} {H H' : Hp}, Sane H F A → Ext A H F A' H' F' → (∀ q ∈ S, F q.1 ∧ H q.1 = some (.tup (q.2.map V.int))) → ∀ q ∈ S, F' q.1 ∧ H' q.1 = some (.tup (q.2.map V.int)) := fun sn x t q hq => by
      obtain ⟨t1, t2⟩ := t q hq
      exact ⟨x.sub _ t1, x.keep _ _ t2 fun z => (sn.a _ z).1 t1⟩
    have ep3 : H3 p = some (SetTO P w p S) := gr.keep _ _ eS
    have t3 : ∀ q ∈ S, F3 q.1 ∧ H3 q.1 = some (.tup (q.2.map V.int)) := fun q hq => ⟨gr.sub _ (tS q hq).1, gr.keep _ _ (tS q hq).2⟩
    have ep4 : H4 p = some (SetTO P w p S) := e4.keep _ _ ep3 na2
    obtain ⟨nf4, na4⟩ := keepP e4 nf3 na2 ⟨_, ep3⟩
    have t4 := keepS (gr.lo lo2).ok e4 t3
    have wipe4 : wipe σ4 vs = wipe (wipe σ vs) vs := wipe_idem (fun j hj' => u4 j fun z => hj' (hj j z)) n4
    have wipe5 := wipe4.trans (wipe_twice σ vs)
    refine ⟨wipe5, F4, A4, L4, _, lo4, h4, fun b L5 F5 A5 H5 h5 e5 lo5 => ?_⟩
    have ep5 : H5 p = some (SetTO P w p S) := e5.keep _ _ ep4 na4
    obtain ⟨nf5, na5⟩ := keepP e5 nf4 na4 ⟨_, ep4⟩
    have t5 := keepS lo4.ok e5 t4
    have up : ∀ {A A' : Fp} {H H' : Hp} {F F' : Fp}, Ext A H F A' H' F' → Ext (or2 A fun x => x = p) H F (or2 A' fun x => x = p) H' F' := fun x =>
      ⟨x.sub, fun a z => (x.new a z).imp_right fun z => z.imp_right .inl, fun a o e n => x.keep a o e fun z => n (.inl z), fun a z => z.elim (fun z => (x.own a z).imp_left .inl) fun z => .inl (.inr z)⟩
    have e15 : Ext A1 H1 F1 (or2 A5 fun x => x = p) H5 F5 := ((e2.trans gr.ext).trans (up e4)).trans (up e5)
    cases b with
    | true =>
      refine iteT ⟨F5, A5, L5, _, lo5, h5, fun y L6 v6 F6 A6 H6 h6 e6 lo6 fy => ?_⟩
      have ep6 : H6 p = some (SetTO P w p S) := e6.keep _ _ ep5 na5
      obtain ⟨nf6, na6⟩ := keepP e6 nf5 na5 ⟨_, ep5⟩
      have t6 := keepS lo5.ok e6 t5
      obtain ⟨k, rfl, h6⟩ := h6
      cases fy with
      | tup fb hb rb =>
        rename_i b _
        have := rb.ofInts
        subst this
        refine ⟨S, k, b, rfl, ep6, fun q hq => SqT.of (t6 q hq).2, hb, by omega, fun S' same more => ⟨hlt, F6, ?_⟩⟩
        obtain ⟨C6, lo6w, s6⟩ := lo6.wipe vs hp
        rw [wipe5] at lo6w
        have k6 : ∀ a o, F6 a ∨ C6 a → H6 a = some o → upd H6 p (SetTO P w p S') a = some o := fun a o z e => by
          rw [upd_ne fun e' => ?_]
          · exact e
          · subst e'
            exact z.elim nf6 fun z => na6 (s6 _ z)
        have tS' : ∀ q ∈ S', F6 q.1 ∧ H6 q.1 = some (.tup (q.2.map V.int)) := by
          by_cases hk : k ∈ S.map (·.2)
          · rw [same hk]; exact t6
          · intro q hq
            rcases List.mem_cons.mp ((more hk).mem_iff.mp hq) with rfl | hq
            · exact ⟨fb, hb⟩
            · exact t6 q hq
        have lS' : S'.length ≤ i + 1 := by
          by_cases hk : k ∈ S.map (·.2)
          · rw [same hk]; omega
          · rw [(more hk).length_eq, List.length_cons]; omega
        have mS' : ∀ y, y ∈ S'.map (·.2) ↔ y ∈ acc ++ [k] := by
          intro y
          rw [List.mem_append, List.mem_singleton, ← mS]
          by_cases hk : k ∈ S.map (·.2)
          · rw [same hk]
            exact ⟨.inl, fun z => z.elim id fun z => by rw [z]; exact hk⟩
          · rw [((more hk).map (·.2)).mem_iff, List.map_cons, List.mem_cons]
            exact ⟨fun z => z.elim .inr .inl, fun z => z.elim .inr .inl⟩
        have nS' : (S'.map (·.2)).Nodup := by
          by_cases hk : k ∈ S.map (·.2)
          · rw [same hk]; exact ndS
          · rw [((more hk).map (·.2)).nodup_iff, List.map_cons]
            exact List.nodup_cons.mpr ⟨hk, ndS⟩
        refine ⟨C6, wipeD L6 vs, acc ++ [k], S', ⟨⟨lo6w.loc.keep (fun _ z => z) k6, ⟨fun a z => ?_, fun a z => ?_⟩, lo6w.pin⟩, upd_same, fun q hq => ⟨(tS' q hq).1, k6 _ _ (.inl (tS' q hq).1) (tS' q hq).2⟩, mS', nS', nf6, fun z => na6 (s6 _ z)⟩, lS', ?_, fun v hv => wipeD_none hv, h6⟩
        · obtain ⟨o, e⟩ := lo6w.ok.f a z
          exact ⟨o, k6 a o (.inl z) e⟩
        · obtain ⟨nf, o, e⟩ := lo6w.ok.a a z
          exact ⟨nf, o, k6 a o (.inr z) e⟩
        · refine e15.trans ((up e6).trans ⟨fun _ z => z, fun _ z => .inl z, fun a o e n => ?_, fun a z => .inl (z.imp_left (s6 a))⟩)
          rw [upd_ne fun z => n (.inr z)]
          exact e
    | false =>
      obtain ⟨C5, lo5w, s5⟩ := lo5.wipe vs hp
      rw [wipe5] at lo5w
      exact iteF ⟨hlt, F5, C5, wipeD L5 vs, acc, S, ⟨lo5w, ep5, t5, mS, ndS, nf5, fun z => na5 (s5 _ z)⟩, by omega, e15.less fun a z => z.imp_left (s5 a), fun v hv => wipeD_none hv, h5⟩
  · have e : i = ds.length := by omega
    subst e
    obtain ⟨C, hC, sC⟩ := lo1.loc.back lt lo2.loc hw2
    obtain ⟨hne, out⟩ := fin acc L2 h2
    refine .inl ⟨w'.stop H2 F2 lt, ?_⟩
    refine ⟨p, S, rfl, eS, fun q hq => SqT.of (tS q hq).2, ?_, fun M b pm asc nb => ?_⟩
    · rcases hne with hne | hne
      · exact .inl fun q hq => hne _ ((mS _).mp (List.mem_map.mpr ⟨q, hq, rfl⟩))
      · right
        have : ∀ x ∈ S.map (·.2), x = [] := fun x hx => hne x ((mS x).mp hx)
        match S, ndS, this with
        | [], _, _ => exact Nat.zero_le _
        | [_], _, _ => exact Nat.le_refl _
        | a :: b :: S, nd, e =>
          rw [List.map_cons, List.map_cons, List.nodup_cons] at nd
          exact absurd (by rw [e a.2 (by simp), e b.2 (by simp)]; exact List.mem_cons_self ..) nd.1
    · have r := out (M.map (·.2)) (List.pairwise_map.mpr asc) fun r => by rw [← mS]; exact (pm.map (·.2)).mem_iff
      have g := grow_new (F := F2) (o := .lst (M.map fun k => V.ref k.1)) nb
      have loC : Lo K H2 F2 pn σ (backD L1 L2 vs) C := ⟨hC, ⟨lo2.ok.f, fun a z => lo2.ok.a a (sC a z)⟩, lo1.pin⟩
      have fr : FrL K H2 F2 (M.map fun k => V.ref k.1) (rowsL (M.map (·.2))) := frL_rows fun q hq => tS q (pm.mem_iff.mp hq)
      refine post _ _ _ _ C _ r ((e1.trans (e2.less fun a z => .inl (sC a z))).trans g.ext) (g.lo loC) (new_lst nb fr)
theorem d_srtSc {X : Cx} {pn : List (Nat × V)} {elt tg iter : Expr} {ifs : List Expr} {scope : Scope} {own : List (Str × Nat)} {pos p2 q : Pos} {fi : FI} {t : FG} {c : FT} {f : FE} {js : List Nat} (hc : X.calm = true) (hu : X.A.units + 64 < cLine) (hg0 : Gl X "sorted") (hm : X.mg "sorted" = none) (hN : X.N.Nodup) (hi : DI X pn tg iter fi) (ok : BlkOk X.N X.env.scope scope own) (hj : ∀ j ∈ js, j ∈ lcOwn own) (hp : (lcOwn own).all (fun v => !pn.any fun p => p.1 == v) = true)
    (hg : Blk X scope fun Y => PG Y tg (lowG Y.K pn js t)) (ht : Blk X scope fun Y => PTs Y ifs (lowT Y.K pn c)) (he : Blk X scope fun Y => DE Y pn elt f) (hs : ∀ x, foldedSetIterable iter X.env x = pure x := by intro _; rfl)
    (h1 : starEach [.SetComp elt [⟨tg, iter, ifs, 0⟩] scope q] X.env = (false, eval (.SetComp elt [⟨tg, iter, ifs, 0⟩] scope q) X.env) :: starEach [] X.env := by rfl) (h2 : (backTo pos (starEach [] X.env)).any (·.1) = false := by rfl) :
    DE X pn (.Call (.Name "sorted" p2) [.SetComp elt [⟨tg, iter, ifs, 0⟩] scope q] [] pos) (dSrtSc (lcOwn own) fi t c f) :=
  pe_weak (pe_callB (NR.cr_srtA hc hu) hg0 hm boot_sorted (pa_cons (NR.pe_scT hc hN (by omega) hi ok hg ht he hs) pa_nil h1) (by decide) (by decide) h1 h2) fun σ H Q q => low_srtSc hj hp q
/-! pop(i) -/
def gPopAt : List D → List D → (D → List D → Prop) → Prop := fun xs as k => match as with
  | [.int i] => 0 ≤ i ∧ i < 2 ^ 62 ∧ match xs[i.toNat]? with
    | some d => k d (xs.eraseIdx i.toNat)
    | none => False
  | _ => False
theorem FrL.eraseIdx {K : PySem.W.Frag} {H : Hp} {F : Fp} : ∀ {vs : List V} {ds : List D} (n : Nat), FrL K H F vs ds → FrL K H F (vs.eraseIdx n) (ds.eraseIdx n)
  | _, _, _, .nil => .nil
  | _, _, 0, .cons h r => r
  | _, _, n + 1, .cons h r => .cons h (r.eraseIdx n)
theorem up_popAt {K : PySem.W.Frag} : UpM K rPopAt gPopAt := by
  intro H F a vs ds us es k Q h r ru g q
  match es, g, ru with
  | [.int i], g, ru =>
    obtain ⟨u, rfl, fu⟩ := ru.one
    cases fu
    obtain ⟨g0, g1, g2⟩ := g
    split at g2
    · next d e =>
      obtain ⟨v, ev, fv⟩ := r.get' e
      refine ⟨a, vs, i, i.toNat, v, rfl, rfl, h, by omega, by omega, ?_, ev, q _ _ _ _ g2 (r.eraseIdx _) fv⟩
      have hl := (List.getElem?_eq_some_iff.mp ev).1
      have hl2 : i.toNat < vs.length := hl
      unfold seqIndex?
      simp only []
      rw [if_neg (show ¬ i < 0 by omega), if_pos (by simp; omega)]
    · exact g2.elim

/-! tuple(x): the new one plain, or not known to be so -/
theorem upA_or {K : PySem.W.Frag} {r1 r2 : List V → Hp → VK → Prop} {g1 g2 : List D → (D → Prop) → Prop} (h1 : UpA K r1 g1) (h2 : UpA K r2 g2) : UpA K (fun xs H Q => r1 xs H Q ∨ r2 xs H Q) (fun ds k => g1 ds k ∨ g2 ds k) :=
  fun H F vs ds k Q f g ok => g.elim (fun g => .inl (h1 H F vs ds k Q f g ok)) fun g => .inr (h2 H F vs ds k Q f g ok)
def rTupU (K : PySem.W.Frag) : List V → Hp → VK → Prop := fun xs H Q => (NR.rTupP K xs H Q ∨ ∃ p ys, xs = [.ref p] ∧ SqT K H p ys ∧ Q (.ref p) H) ∨ ∃ p ys, xs = [.ref p] ∧ ((SqL K H p ys ∧ ∀ l, H l = none → Q (.ref l) (upd H l (.tup ys))) ∨ (SqT K H p ys ∧ Q (.ref p) H))
theorem call_tupU {X : Cx} : CallR X (.type "tuple") (rTupU X.K) := callr_or call_tupPs call_tuple_of
def gTupU : List D → (D → Prop) → Prop := fun ds k => gTupP ds k ∨ gTupF ds k
theorem up_tupU {K : PySem.W.Frag} : UpA K (rTupU K) gTupU := upA_or up_tupP up_tupF
/-! list.index of ints -/
def gLPlace (x : D) (as : List D) (k : D → Prop) : Prop := match x, as with
  | .lst xs, [.int z] => ∃ ns : List Int, xs = ns.map .int ∧ ∃ j : Nat, ns[j]? = some z ∧ (∀ m, m < j → ns[m]? ≠ some z) ∧ k (.int j)
  | _, _ => False
def isLst : D → Bool | .lst _ => true | _ => false
def dLPlace (fe fi : FE) : FE := fun L Q => fe L fun x L1 => isLst x = true ∧ fi L1 fun y L2 => gLPlace x [y] fun z => Q z L2
theorem flatV_I (ns : List Int) : (ns.map V.int).all flatV = true := List.all_eq_true.mpr fun v hv => by
  obtain ⟨i, _, rfl⟩ := List.mem_map.mp hv
  rfl
theorem eqV_int (i j : Int) : eqV (.int i) (.int j) = decide (i = j) := by
  show (i == j) = _
  exact Bool.beq_eq_decide_eq i j
theorem d_lplace {X : Cx} {pn : List (Nat × V)} {o e : Expr} {fe fi : FE} {apos cpos : Pos} (ho : DE X pn o fe) (he : DE X pn e fi)
    (hbase : attributeBase o "index" X.env (eval o X.env) = eval o X.env := by rfl)
    (hfew : ((backTo cpos (starEach [e] X.env)).all (fun x => !x.1) && (backToKw cpos (keywordEach [] X.env)).all (fun x => x.1.isSome)
      && decide (([e] : List Expr).length + ([] : List Keyword).length + (if ([] : List Keyword).isEmpty then 0 else 1) < 30)) = true := by rfl)
    (hline : (apos.endLine == cpos.line) = true := by rfl) (hs : starEach [e] X.env = (false, eval e X.env) :: starEach [] X.env := by rfl) (hplain : (backTo cpos (starEach [] X.env)).any (·.1) = false := by rfl) :
    DE X pn (.Call (.Attribute o "index" apos) [e] [] cpos) (dLPlace fe fi) :=
  pe_weak (pe_bm PySem.F.plainAttrs_list PySem.F.slot_list_index PySem.F.type_list_index mt_index ho (pa_cons he pa_nil hs) hbase hfew hline hs hplain) fun σ H Q q => by
  obtain ⟨F, A, L, R, lo, h, p⟩ := q
  refine ⟨F, A, L, _, lo, h, fun x L1 v F1 A1 H1 ⟨ht, h1⟩ e1 lo1 f1 => ?_⟩
  cases f1 with
  | lst f hv r =>
    refine ⟨.inl ⟨rfl, _, SqL.of hv⟩, F1, A1, L1, _, lo1, h1, fun y L2 u F2 A2 H2 g e2 lo2 fu => ?_⟩
    match y, g, fu with
    | .int z, ⟨ns, hx, j, g1, g2, g3⟩, fu =>
      cases fu
      subst hx
      have hv2 := (Fr.lst (K := X.K) f hv r).ext lo1.ok e2
      cases hv2 with
      | lst f2 h2 r2 =>
        have e3 := r2.ofInts
        subst e3
        refine ⟨_, _, _, j, .int z, rfl, rfl, SqL.of h2, rfl, flatV_I ns, by rw [List.getElem?_map, g1]; rfl, by rw [eqV_int]; exact decide_eq_true rfl, fun m z' hm hz => ?_, p _ L2 _ F2 A2 H2 g3 (e1.trans e2) lo2 (.int _)⟩
        rw [List.getElem?_map, Option.map_eq_some_iff] at hz
        obtain ⟨w, hw, rfl⟩ := hz
        rw [eqV_int]
        exact decide_eq_false fun e => g2 m hm (by rw [hw, e])
  | _ => cases ht
end DL

/-! x[i] of an owned list of frozen things, while i may change others. -/
namespace DL
open PySem PySem.Spec PyProof.Rows L2
def gAtM (j : Nat) (y : D) (L1 : Ls) (Q : D → Ls → Prop) : Prop := match y with
  | .int i => match L1[j]? with
    | some (some (.ml xs)) => xs.all isFr = true ∧ match atI xs i with
      | some d => Q d L1
      | none => False
    | _ => False
  | _ => False
@[irreducible] def gAtMI : Nat → D → Ls → (D → Ls → Prop) → Prop := gAtM
theorem gAtM_I : gAtM = gAtMI := by unfold gAtMI; rfl
def dIxM (j : Nat) (fi : FE) : FE := fun L Q => isMl L j = true ∧ fi L fun y L1 => gAtMI j y L1 Q
theorem d_ixM {X : Cx} {pn : List (Nat × V)} {b : Expr} {fb : FE} {pos px : Pos} (j : Nat) {x : Str} (hb : DE X pn b fb) (hN : X.N[j]? = some x := by rfl) (hv : Vis X.env.scope x := by first | exact Or.inl rfl | exact Or.inr (Or.inl rfl) | exact Or.inr (Or.inr rfl)) (hd : (x == ("__debug__" : Str)) = false := by decide)
    (hcd : (x == ("__classdict__" : Str)) = false := by decide) (hs : PlainIx b := by exact fun _ _ => rfl) : DE X pn (.Subscript (.Name x px) b pos) (dIxM j fb) :=
  pe_weak (pe_ix ix_seq (pe_var hN hv hd hcd) hb hs) fun σ H Q q => by
  obtain ⟨F, A, L, R, lo, ⟨hm, h⟩, p⟩ := q
  obtain ⟨a, vs, k1, k2⟩ := isMl_at lo hm
  refine ⟨_, k1, F, A, L, _, lo, h, fun y L1 u F1 A1 H1 g x1 lo1 fu => ?_⟩
  rw [← gAtM_I] at g
  match y, g, fu with
  | .int i, g, fu =>
    cases fu
    unfold gAtM at g
    simp only at g
    split at g
    · next xs e =>
      obtain ⟨hf, g⟩ := g
      split at g
      · next d ed =>
        obtain ⟨a', vs', m1, m2, m3, put⟩ := slot_list lo1 e hf
        rw [k1] at m1
        cases m1
        obtain ⟨z, ez, fz⟩ := atI_rel m3 ed
        exact .inl ⟨_, _, i, z, rfl, rfl, SqL.of m2, ez, p _ L1 _ F1 A1 H1 g x1 lo1 fz⟩
      · exact g.elim
    · exact g.elim
theorem atM_ok {j : Nat} {L1 : Ls} {Q : D → Ls → Prop} {i : Int} {xs : List D} {d : D} (e1 : L1[j]? = some (some (.ml xs))) (hf : xs.all isFr = true) (e2 : atI xs i = some d) (h : Q d L1) : gAtMI j (.int i) L1 Q := by
  rw [← gAtM_I]
  unfold gAtM
  simp only [e1, e2]
  exact ⟨hf, h⟩

def dRg2 (mk : List D → D) (f g : FE) : FE := fun L Q => f L fun x L1 => g L1 fun y L2 => match x, y with
  | .int a, .int b => RgOk a b ∧ Q (mk (rng a b)) L2
  | _, _ => False
section
variable {X : Cx} {pn : List (Nat × V)} {e e2 : Expr} {fe fe2 : FE} {p p2 pos q : Pos}
theorem d_lstRg2 (hg : Gl X "list") (hm2 : X.mg "range" = none) (hm : X.mg "list" = none) (he : DE X pn e fe) (he2 : DE X pn e2 fe2) (hc : X.calm = true := by rfl) (hg2 : Gl X "range" := by rfl) (na : starEach [e, e2] X.env = (false, eval e X.env) :: starEach [e2] X.env := by rfl)
    (na2 : starEach [e2] X.env = (false, eval e2 X.env) :: starEach [] X.env := by rfl) (hp : (backTo q (starEach [e2] X.env)).any (·.1) = false := by rfl)
    (nb : starEach [.Call (.Name "range" p) [e, e2] [] q] X.env = (false, eval (.Call (.Name "range" p) [e, e2] [] q) X.env) :: starEach [] X.env := by rfl) : DE X pn (.Call (.Name "list" p2) [.Call (.Name "range" p) [e, e2] [] q] [] pos) (dRg2 .lst fe fe2) :=
  pe_weak (pe_listRg hc hg hm (prg_2 hg2 hm2 he he2 na na2 hp) nb) fun σ H Q q => by
  obtain ⟨F, A, L, R, lo, h, post⟩ := q
  refine ⟨F, A, L, _, lo, h, fun x L1 v F1 A1 H1 h1 e1 lo1 f1 => ⟨F1, A1, L1, _, lo1, h1, fun y L2 u F2 A2 H2 h2 e2 lo2 f2 => ?_⟩⟩
  cases f1 with
  | int n =>
    cases f2 with
    | int m =>
      obtain ⟨ok, h2⟩ := h2
      exact ⟨n, m, rfl, rfl, ok, fun a na => post _ L2 _ _ A2 _ h2 ((e1.trans e2).trans (grow_new na).ext) ((grow_new na).lo lo2) (new_lst na frL_rng)⟩
    | _ => exact h2.elim
  | _ => cases f2 <;> exact h2.elim
theorem d_tupRg2 (hg : Gl X "tuple") (hm2 : X.mg "range" = none) (hm : X.mg "tuple" = none) (he : DE X pn e fe) (he2 : DE X pn e2 fe2) (hc : X.calm = true := by rfl) (hg2 : Gl X "range" := by rfl) (na : starEach [e, e2] X.env = (false, eval e X.env) :: starEach [e2] X.env := by rfl)
    (na2 : starEach [e2] X.env = (false, eval e2 X.env) :: starEach [] X.env := by rfl) (hp : (backTo q (starEach [e2] X.env)).any (·.1) = false := by rfl)
    (nb : starEach [.Call (.Name "range" p) [e, e2] [] q] X.env = (false, eval (.Call (.Name "range" p) [e, e2] [] q) X.env) :: starEach [] X.env := by rfl) : DE X pn (.Call (.Name "tuple" p2) [.Call (.Name "range" p) [e, e2] [] q] [] pos) (dRg2 .tup fe fe2) :=
  pe_weak (pe_tupRg hc hg hm (prg_2 hg2 hm2 he he2 na na2 hp) nb) fun σ H Q q => by
  obtain ⟨F, A, L, R, lo, h, post⟩ := q
  refine ⟨F, A, L, _, lo, h, fun x L1 v F1 A1 H1 h1 e1 lo1 f1 => ⟨F1, A1, L1, _, lo1, h1, fun y L2 u F2 A2 H2 h2 e2 lo2 f2 => ?_⟩⟩
  cases f1 with
  | int n =>
    cases f2 with
    | int m =>
      obtain ⟨ok, h2⟩ := h2
      exact ⟨n, m, rfl, rfl, ok, fun a na => post _ L2 _ _ A2 _ h2 ((e1.trans e2).trans (grow_new na).ext) ((grow_new na).lo lo2) (new_tup na frL_rng)⟩
    | _ => exact h2.elim
  | _ => cases f2 <;> exact h2.elim
end

@[irreducible] def gSortJ : List D → (D → Prop) → Prop := gSortI
theorem gSortI_J : gSortI = gSortJ := by unfold gSortJ; rfl
@[irreducible] def gTupJ : List D → (D → Prop) → Prop := gTupU
theorem gTupU_J : gTupU = gTupJ := by unfold gTupJ; rfl
theorem srtJ_ok {ns : List Int} {k : D → Prop} (h : ∀ ns' : List Int, ns'.Perm ns → ns'.Pairwise (· ≤ ·) → k (.lst (ns'.map .int))) : gSortJ [.lst (ns.map .int)] k := by
  rw [← gSortI_J]
  unfold gSortI
  simp only [intsOf_map]
  exact h
theorem tupJ_ptu {ms : List Int} {k : D → Prop} (h : k (.ptu ms)) : gTupJ [.lst (ms.map .int)] k := by
  rw [← gTupU_J]
  left
  unfold gTupP
  simp only [intsOf_map]
  exact h
theorem tupJ_any {xs : List D} {k : D → Prop} (h : k (.tup xs)) : gTupJ [.lst xs] k := by
  rw [← gTupU_J]; exact .inr h
theorem stS {g : FS} {E : DEnds} {L : Ls} (L' : Ls) (e : L = L') (k : g E L') : g E L := by subst e; exact k

theorem setD {i : Nat} {f : FE} {E : DEnds} {L : Ls} (d : D) (L1 : Ls) (hf : ∀ Q : D → Ls → Prop, Q d L1 → f L Q) (k : E.nx (L1.set i (some d))) : dSet i f E L := hf _ k
theorem fz_I (l : List Int) : fz (mlI l) = lstI l := fz_mlI l
end DL

/-! == of plain data: ints, None, tuples and lists of them (depth n at most). -/
namespace DL
open PySem PySem.Spec PyProof.Rows L2
/-- plain data without bools and texts, of depth at most n -/
def pdn : Nat → D → Bool
  | _, .non => true
  | _, .int _ => true
  | _, .str x => PyData.strOk x
  | n + 1, .tup xs => xs.all (pdn n)
  | n + 1, .lst xs => xs.all (pdn n)
  | _, _ => false
theorem isPyL_all : ∀ xs : List D, isPyL xs = xs.all isPy
  | [] => rfl
  | d :: r => by rw [isPyL, List.all_cons, isPyL_all r]
theorem canAll_py : ∀ xs : List D, PyData.canLayAll0 (pyL xs) = xs.all fun d => PyData.canLay0 (py d)
  | [] => rfl
  | d :: r => by rw [pyL, PyData.canLayAll0, List.all_cons, canAll_py r]
theorem depthAll_py {n : Nat} : ∀ {xs : List D}, (∀ d ∈ xs, PyData.depth (py d) ≤ n) → PyData.depthAll (pyL xs) ≤ n
  | [], _ => Nat.zero_le _
  | d :: r, h => by
    rw [pyL, PyData.depthAll]
    have h1 := h d (List.mem_cons_self ..)
    have h2 := depthAll_py (n := n) (xs := r) fun x hx => h x (List.mem_cons_of_mem _ hx)
    omega
theorem pdn_ok : ∀ {n : Nat} {d : D}, pdn n d = true → isPy d = true ∧ PyData.canLay0 (py d) = true ∧ PyData.depth (py d) ≤ n
  | n, .non, _ => ⟨rfl, rfl, Nat.zero_le _⟩
  | n, .int _, _ => ⟨rfl, rfl, Nat.zero_le _⟩
  | n, .str x, h => ⟨rfl, by cases n <;> (simp only [pdn] at h; simp only [py, PyData.canLay0]; exact h), Nat.zero_le _⟩
  | 0, .tup _, h | 0, .lst _, h => by cases h
  | n + 1, .tup xs, h => by
    have h : ∀ x ∈ xs, pdn n x = true := List.all_eq_true.mp (by simpa only [pdn] using h)
    refine ⟨?_, ?_, ?_⟩
    · simp only [isPy, isPyL_all]
      exact List.all_eq_true.mpr fun x hx => (pdn_ok (h x hx)).1
    · simp only [py, PyData.canLay0, canAll_py]
      exact List.all_eq_true.mpr fun x hx => (pdn_ok (h x hx)).2.1
    · simp only [py, PyData.depth]
      exact Nat.succ_le_succ (depthAll_py fun x hx => (pdn_ok (h x hx)).2.2)
  | n + 1, .lst xs, h => by
    have h : ∀ x ∈ xs, pdn n x = true := List.all_eq_true.mp (by simpa only [pdn] using h)
    refine ⟨?_, ?_, ?_⟩
    · simp only [isPy, isPyL_all]
      exact List.all_eq_true.mpr fun x hx => (pdn_ok (h x hx)).1
    · simp only [py, PyData.canLay0, canAll_py]
      exact List.all_eq_true.mpr fun x hx => (pdn_ok (h x hx)).2.1
    · simp only [py, PyData.depth]
      exact Nat.succ_le_succ (depthAll_py fun x hx => (pdn_ok (h x hx)).2.2)
  | 0, .bl _, h | 0, .scr _, h | 0, .ptu _, h | 0, .fn _, h | 0, .dK _, h | 0, .dT _, h | 0, .ml _, h | 0, .mK _, h | 0, .mT _, h | 0, .mo _ _, h | 0, .xc _ _, h | 0, .er _ _, h | _ + 1, .bl _, h | _ + 1, .scr _, h | _ + 1, .ptu _, h | _ + 1, .fn _, h | _ + 1, .dK _, h | _ + 1, .dT _, h | _ + 1, .ml _, h | _ + 1, .mK _, h | _ + 1, .mT _, h | _ + 1, .mo _ _, h | _ + 1, .xc _ _, h | _ + 1, .er _ _, h => by cases h
theorem pdn_sh {n : Nat} {d : D} (h : pdn n d = true) (hn : n ≤ 64) : sh d = true := by
  obtain ⟨h1, h2, h3⟩ := pdn_ok h
  unfold sh SeqAt.shaped
  rw [h1, h2, decide_eq_true (show PyData.depth (py d) ≤ 64 by omega)]
  rfl
theorem eqvAll_len : ∀ {xs ys : List PyData}, PyData.eqvAll xs ys = true → xs.length = ys.length
  | [], [], _ => rfl
  | [], _ :: _, h => by simp [PyData.eqvAll] at h
  | _ :: _, [], h => by simp [PyData.eqvAll] at h
  | x :: xs, y :: ys, h => by
    rw [PyData.eqvAll, Bool.and_eq_true] at h
    rw [List.length_cons, List.length_cons, eqvAll_len h.2]
mutual
theorem deq_eq : ∀ {n : Nat} {x y : D}, pdn n x = true → pdn n y = true → PyData.eqv (py x) (py y) = true → x = y
  | _, .non, .non, _, _, _ => rfl
  | _, .int i, .int j, _, _, h => by
    have : i = j := by simpa [py, PyData.eqv] using h
    rw [this]
  | _, .str i, .str j, _, _, h => by
    have : i = j := by simpa [py, PyData.eqv] using h
    rw [this]
  | _, .non, .str _, _, _, h | _, .str _, .non, _, _, h | _, .int _, .str _, _, _, h | _, .str _, .int _, _, _, h | _, .tup _, .str _, _, _, h | _, .str _, .tup _, _, _, h | _, .lst _, .str _, _, _, h | _, .str _, .lst _, _, _, h => by simp [py, PyData.eqv] at h
  | _, .non, .int _, _, _, h => by simp [py, PyData.eqv] at h
  | _, .int _, .non, _, _, h => by simp [py, PyData.eqv] at h
  | n + 1, .tup xs, .tup ys, hx, hy, h => by
    rw [py, py, PyData.eqv] at h
    rw [deqL_eq (n := n) (by simpa only [pdn] using hx) (by simpa only [pdn] using hy) h]
  | n + 1, .lst xs, .lst ys, hx, hy, h => by
    rw [py, py, PyData.eqv] at h
    rw [deqL_eq (n := n) (by simpa only [pdn] using hx) (by simpa only [pdn] using hy) h]
  | _, .tup _, .lst _, _, _, h | _, .lst _, .tup _, _, _, h | _, .tup _, .int _, _, _, h | _, .int _, .tup _, _, _, h | _, .lst _, .int _, _, _, h | _, .int _, .lst _, _, _, h | _, .tup _, .non, _, _, h | _, .non, .tup _, _, _, h | _, .lst _, .non, _, _, h | _, .non, .lst _, _, _, h => by simp [py, PyData.eqv] at h
  | 0, .tup _, .tup _, h, _, _ | 0, .lst _, .lst _, h, _, _ => by cases h
  | n, .bl _, _, h, _, _ | n, .scr _, _, h, _, _ | n, .ptu _, _, h, _, _ | n, .fn _, _, h, _, _ | n, .dK _, _, h, _, _ | n, .dT _, _, h, _, _ | n, .ml _, _, h, _, _ | n, .mK _, _, h, _, _ | n, .mT _, _, h, _, _ | n, .mo _ _, _, h, _, _ | n, .xc _ _, _, h, _, _ | n, .er _ _, _, h, _, _ => by cases n <;> cases h
  | n, _, .bl _, _, h, _ | n, _, .scr _, _, h, _ | n, _, .ptu _, _, h, _ | n, _, .fn _, _, h, _ | n, _, .dK _, _, h, _ | n, _, .dT _, _, h, _ | n, _, .ml _, _, h, _ | n, _, .mK _, _, h, _ | n, _, .mT _, _, h, _ | n, _, .mo _ _, _, h, _ | n, _, .xc _ _, _, h, _ | n, _, .er _ _, _, h, _ => by cases n <;> cases h
theorem deqL_eq : ∀ {n : Nat} {xs ys : List D}, xs.all (pdn n) = true → ys.all (pdn n) = true → PyData.eqvAll (pyL xs) (pyL ys) = true → xs = ys
  | _, [], [], _, _, _ => rfl
  | _, [], _ :: _, _, _, h => by simp [pyL, PyData.eqvAll] at h
  | _, _ :: _, [], _, _, h => by simp [pyL, PyData.eqvAll] at h
  | n, x :: xs, y :: ys, hx, hy, h => by
    rw [List.all_cons, Bool.and_eq_true] at hx hy
    rw [pyL, pyL, PyData.eqvAll, Bool.and_eq_true] at h
    rw [deq_eq hx.1 hy.1 h.1, deqL_eq hx.2 hy.2 h.2]
end
theorem deq_iff {n : Nat} {x y : D} (hx : pdn n x = true) (hy : pdn n y = true) : deq x y = true ↔ x = y := by
  constructor
  · exact deq_eq hx hy
  · rintro rfl
    exact SeqAt.eqv_refl _ (pdn_ok hx).2.1
theorem deq_dec {n : Nat} {x y : D} {c : Prop} [Decidable c] (hx : pdn n x = true) (hy : pdn n y = true) (h : x = y ↔ c) : deq x y = decide c := by
  by_cases e : c
  · rw [decide_eq_true e]; exact (deq_iff hx hy).mpr (h.mpr e)
  · rw [decide_eq_false e]
    cases q : deq x y with
    | false => rfl
    | true => exact absurd (h.mp ((deq_iff hx hy).mp q)) e
/-! rows -/
theorem pdn_tupI (n : Nat) (l : List Int) : pdn (n + 1) (.tup (l.map .int)) = true := by
  simp only [pdn]
  exact List.all_eq_true.mpr fun x hx => by
    obtain ⟨i, _, rfl⟩ := List.mem_map.mp hx
    cases n <;> rfl
theorem pdn_lstI (n : Nat) (l : List Int) : pdn (n + 1) (.lst (l.map .int)) = true := by
  simp only [pdn]
  exact List.all_eq_true.mpr fun x hx => by
    obtain ⟨i, _, rfl⟩ := List.mem_map.mp hx
    cases n <;> rfl
theorem pdn_rowsT (R : List (List Int)) : pdn 2 (.tup (rowsL R)) = true := by
  simp only [pdn]
  exact List.all_eq_true.mpr fun x hx => by
    obtain ⟨i, _, rfl⟩ := List.mem_map.mp hx
    exact pdn_tupI 0 i
theorem pdn_rowsLs (R : List (List Int)) : pdn 2 (.lst (rowsL R)) = true := by
  simp only [pdn]
  exact List.all_eq_true.mpr fun x hx => by
    obtain ⟨i, _, rfl⟩ := List.mem_map.mp hx
    exact pdn_tupI 0 i
theorem ints_inj {l m : List Int} (h : l.map D.int = m.map D.int) : l = m := by
  have := congrArg intsOf h
  rw [intsOf_map, intsOf_map] at this
  exact Option.some.inj this
theorem rows_inj {A B : List (List Int)} (h : rowsL A = rowsL B) : A = B := by
  have := congrArg rowsOf h
  rw [rowsOf_map, rowsOf_map] at this
  exact Option.some.inj this
theorem deq_tupI (l m : List Int) : deq (.tup (l.map .int)) (.tup (m.map .int)) = decide (l = m) := deq_dec (pdn_tupI 0 l) (pdn_tupI 0 m) ⟨fun h => ints_inj (D.tup.inj h), fun h => by rw [h]⟩
theorem deq_lstI (l m : List Int) : deq (.lst (l.map .int)) (.lst (m.map .int)) = decide (l = m) := deq_dec (pdn_lstI 0 l) (pdn_lstI 0 m) ⟨fun h => ints_inj (D.lst.inj h), fun h => by rw [h]⟩
theorem deq_rowsT (A B : List (List Int)) : deq (.tup (rowsL A)) (.tup (rowsL B)) = decide (A = B) := deq_dec (pdn_rowsT A) (pdn_rowsT B) ⟨fun h => rows_inj (D.tup.inj h), fun h => by rw [h]⟩
theorem deq_rowsL (A B : List (List Int)) : deq (.lst (rowsL A)) (.lst (rowsL B)) = decide (A = B) := deq_dec (pdn_rowsLs A) (pdn_rowsLs B) ⟨fun h => rows_inj (D.lst.inj h), fun h => by rw [h]⟩
@[irreducible] def gEqBI (b : Bool) : D → D → (D → Prop) → Prop := gEqB b
theorem gEqB_I (b : Bool) : gEqB b = gEqBI b := by unfold gEqBI; rfl
theorem gEq_I : gEq = gEqBI false := by unfold gEqBI; rfl
theorem gNe_I : gNe = gEqBI true := by unfold gEqBI; rfl
theorem eq_tupI {neg : Bool} {l m : List Int} {k : D → Prop} (h : k (.bl (if neg then !decide (l = m) else decide (l = m)))) : gEqB neg (.tup (l.map .int)) (.tup (m.map .int)) k := by
  refine ⟨pdn_sh (pdn_tupI 0 l) (by decide), pdn_sh (pdn_tupI 0 m) (by decide), ?_⟩
  rw [deq_tupI]; exact h
theorem eq_lstI {neg : Bool} {l m : List Int} {k : D → Prop} (h : k (.bl (if neg then !decide (l = m) else decide (l = m)))) : gEqB neg (.lst (l.map .int)) (.lst (m.map .int)) k := by
  refine ⟨pdn_sh (pdn_lstI 0 l) (by decide), pdn_sh (pdn_lstI 0 m) (by decide), ?_⟩
  rw [deq_lstI]; exact h
theorem eq_rowsT {neg : Bool} {A B : List (List Int)} {k : D → Prop} (h : k (.bl (if neg then !decide (A = B) else decide (A = B)))) : gEqB neg (.tup (rowsL A)) (.tup (rowsL B)) k := by
  refine ⟨pdn_sh (pdn_rowsT A) (by decide), pdn_sh (pdn_rowsT B) (by decide), ?_⟩
  rw [deq_rowsT]; exact h
theorem eq_rowsL {neg : Bool} {A B : List (List Int)} {k : D → Prop} (h : k (.bl (if neg then !decide (A = B) else decide (A = B)))) : gEqB neg (.lst (rowsL A)) (.lst (rowsL B)) k := by
  refine ⟨pdn_sh (pdn_rowsLs A) (by decide), pdn_sh (pdn_rowsLs B) (by decide), ?_⟩
  rw [deq_rowsL]; exact h

theorem eqB {neg : Bool} {x y : D} {k : D → Prop} (h : gEqB neg x y k) : gEqBI neg x y k := by rw [← gEqB_I]; exact h
theorem nodup_short {L : List (Addr × List Int)} (nd : (L.map (·.2)).Nodup) (e : ∀ p ∈ L, p.2 = []) : L.length ≤ 1 := by
  match L, nd, e with
  | [], _, _ => exact Nat.zero_le _
  | [_], _, _ => exact Nat.le_refl _
  | a :: b :: S, nd, e =>
    rw [List.map_cons, List.map_cons, List.nodup_cons] at nd
    exact absurd (by rw [e a (by simp), e b (by simp)]; exact List.mem_cons_self ..) nd.1
/-! sorted(set(..)) of rows, all of them empty or none -/
def rSrtB (K : PySem.W.Frag) (P : Program) (w : World) : List V → Hp → VK → Prop := fun vs H Q => ∃ (a : Addr) (L : List (Addr × List Int)), vs = [V.ref a] ∧ H a = some (SetTO P w a L) ∧ (∀ p ∈ L, SqT K H p.1 (p.2.map V.int)) ∧ ((∀ p ∈ L, p.2 ≠ []) ∨ (∀ p ∈ L, p.2 = [])) ∧
  ∀ (M : List (Addr × List Int)) (p : Addr), M.Perm L → M.Pairwise (fun q r => q.2 < r.2) → H p = none → Q (.ref p) (upd H p (.lst (M.map fun q => V.ref q.1)))
theorem cr_srtB {X : Cx} (hc : X.calm = true) (hu : X.A.units + 64 < cLine) : CallR X (.builtin "sorted") (rSrtB X.K X.prog X.w) := by
  intro pins s σ H vs us Q I r h
  obtain ⟨a, L, rfl, ha, hk, hne, q⟩ := h
  have R0 : L2.SetT0 X.prog X.w s.heap a L := (I.hok a _ ha).1
  obtain ⟨es, ep, t, R⟩ := R0.full fun p hp => L2.Inv.isT I (hk p hp)
  exact NR.cr_srtA hc hu pins s σ H _ us Q I r ⟨a, L, rfl, ha, hk, hne.imp_right (nodup_short R.nd), q⟩
def gSrtSetE (x : D) (k : D → Prop) : Prop := match seqOf x with
  | some xs => xs.length < 64 ∧ ∃ R, rowsOf xs = some R ∧ ((∀ r ∈ R, r ≠ []) ∨ (∀ r ∈ R, r = [])) ∧ ∀ M : List (List Int), M.Pairwise (· < ·) → (∀ r, r ∈ M ↔ r ∈ R) → k (.lst (rowsL M))
  | none => False
section
variable {X : Cx} {pn : List (Nat × V)} {e : Expr} {fe : FE} {pos p p2 q : Pos}
theorem low_srtSetE {K : PySem.W.Frag} {P : Program} {w : World} {σ : L2.St} {H : Hp} {Q : VK} (q : low K pn (dUn gSrtSetE fe) σ H Q) :
    low K pn fe σ H fun v H1 => NR.rSetR K P w [v] H1 fun u H2 => rSrtB K P w [u] H2 Q := by
  obtain ⟨F, A, L, R, lo, h, post⟩ := q
  refine ⟨F, A, L, _, lo, h, fun x L1 v F1 A1 H1 h1 e1 lo1 f1 => ?_⟩
  have seq : ∃ xs vs a, seqOf x = some xs ∧ v = .ref a ∧ FrL K H1 F1 vs xs ∧ (SqL K H1 a vs ∨ SqT K H1 a vs) := by
    cases f1 with
    | lst f h r => exact ⟨_, _, _, rfl, rfl, r, .inl (SqL.of h)⟩
    | tup f h r => exact ⟨_, _, _, rfl, rfl, r, .inr (SqT.of h)⟩
    | _ => exact h1.elim
  obtain ⟨xs, vs, a, e, rfl, r, sq⟩ := seq
  unfold gSrtSetE at h1
  rw [e] at h1
  obtain ⟨hl, Rr, en, ne, hk⟩ := h1
  have fin : ∀ {b c : Addr} {o : HO} {vs : List V} {ds : List D}, R (.lst ds) L1 → H1 b = none → upd H1 b o c = none → FrL K H1 F1 vs ds → Q (.ref c) (upd (upd H1 b o) c (.lst vs)) := fun {b c o vs ds} hr nb nc fr => by
    have g1 := grow_new (F := F1) (o := o) nb
    have g2 := g1.trans (grow_new (o := .lst vs) nc)
    exact post _ L1 _ _ A1 _ hr (e1.trans g2.ext) (g2.lo lo1) (new_lst nc (fr.grow g1))
  have := rowsOf_eq en
  subst this
  obtain ⟨ks, rfl, rfl, ht⟩ := r.rows
  rw [List.length_map, List.length_map] at hl
  refine ⟨a, ks, rfl, sq, fun p hp => SqT.of (ht p hp).2, hl, fun b M nb hsub hall => ⟨b, M, rfl, upd_same, fun p hp => SqT.of (by rw [upd_ne (ne_of_none (ht p (hsub p hp)).2 nb)]; exact (ht p (hsub p hp)).2), ?_, fun N c hN hs nc => ?_⟩⟩
  · exact ne.imp (fun ne p hp => ne _ (List.mem_map.mpr ⟨p, hsub p hp, rfl⟩)) fun ne p hp => ne _ (List.mem_map.mpr ⟨p, hsub p hp, rfl⟩)
  · refine fin (hk (N.map (·.2)) ?_ fun r => ?_) nb nc (frL_rows fun p hp => ht p (hsub p (hN.mem_iff.mp hp)))
    · rw [List.pairwise_map]; exact hs
    · constructor
      · intro h
        obtain ⟨p, hp, rfl⟩ := List.mem_map.mp h
        exact List.mem_map.mpr ⟨p, hsub p (hN.mem_iff.mp hp), rfl⟩
      · intro h
        obtain ⟨p, hp, rfl⟩ := List.mem_map.mp h
        obtain ⟨q, hq, e⟩ := List.mem_map.mp (hall p hp)
        exact List.mem_map.mpr ⟨q, hN.mem_iff.mpr hq, e⟩
theorem d_srtSetE (hc : X.calm = true) (hu : X.A.units + 64 < cLine) (hg : Gl X "sorted") (hm : X.mg "sorted" = none) (hm2 : X.mg "set" = none) (he : DE X pn e fe) (hg2 : Gl X "set" := by rfl)
    (h1 : starEach [.Call (.Name "set" p) [e] [] q] X.env = (false, eval (.Call (.Name "set" p) [e] [] q) X.env) :: starEach [] X.env := by rfl) (h2 : (backTo pos (starEach [] X.env)).any (·.1) = false := by rfl)
    (h3 : starEach [e] X.env = (false, eval e X.env) :: starEach [] X.env := by rfl) (h4 : (backTo q (starEach [] X.env)).any (·.1) = false := by rfl) : DE X pn (.Call (.Name "sorted" p2) [.Call (.Name "set" p) [e] [] q] [] pos) (dUn gSrtSetE fe) :=
  pe_weak (pe_callB (cr_srtB hc hu) hg hm boot_sorted (pa_cons (pe_callTy (NR.cr_setR hc hu) hg2 hm2 (by decide +kernel) (pa_cons he pa_nil h3) (by decide) (by decide) h3 h4) pa_nil h1) (by decide) (by decide) h1 h2) fun σ H Q q => low_srtSetE q
end
@[irreducible] def gSrtSetEJ : D → (D → Prop) → Prop := gSrtSetE
theorem gSrtSetE_J : gSrtSetE = gSrtSetEJ := by unfold gSrtSetEJ; rfl
open Classical in
/-- the rows in order, each once -/
noncomputable def norm (R : List (List Int)) : List (List Int) := if h : ∃ M : List (List Int), M.Pairwise (· < ·) ∧ ∀ r, r ∈ M ↔ r ∈ R then h.choose else []
theorem norm_eq {M R : List (List Int)} (h1 : M.Pairwise (· < ·)) (h2 : ∀ r, r ∈ M ↔ r ∈ R) : norm R = M := by
  have h : ∃ M : List (List Int), M.Pairwise (· < ·) ∧ ∀ r, r ∈ M ↔ r ∈ R := ⟨M, h1, h2⟩
  unfold norm
  rw [dif_pos h]
  exact asc_rows h.choose_spec.1 h1 fun x => (h.choose_spec.2 x).trans (h2 x).symm
theorem norm_nil : norm [] = [] := norm_eq .nil fun r => .rfl
theorem norm_same {R R' : List (List Int)} (h : ∀ r, r ∈ R ↔ r ∈ R') : norm R = norm R' := by
  unfold norm
  have e : (∃ M : List (List Int), M.Pairwise (· < ·) ∧ ∀ r, r ∈ M ↔ r ∈ R) = (∃ M : List (List Int), M.Pairwise (· < ·) ∧ ∀ r, r ∈ M ↔ r ∈ R') := by
    congr 1; funext M; rw [show (∀ r, r ∈ M ↔ r ∈ R) = (∀ r, r ∈ M ↔ r ∈ R') from propext (forall_congr' fun r => by rw [h r])]
  by_cases hm : ∃ M : List (List Int), M.Pairwise (· < ·) ∧ ∀ r, r ∈ M ↔ r ∈ R
  · have hm' := e ▸ hm
    rw [dif_pos hm, dif_pos hm']
    exact asc_rows hm.choose_spec.1 hm'.choose_spec.1 fun x => by rw [hm.choose_spec.2, hm'.choose_spec.2, h]
  · rw [dif_neg hm, dif_neg (e ▸ hm)]
theorem srtE_ok {xs : List D} {R : List (List Int)} {k : D → Prop} {x : D} (e : seqOf x = some xs) (e2 : xs = rowsL R) (hl : R.length < 64) (hne : (∀ r ∈ R, r ≠ []) ∨ (∀ r ∈ R, r = [])) (h : k (.lst (rowsL (norm R)))) : gSrtSetEJ x k := by
  rw [← gSrtSetE_J]
  unfold gSrtSetE
  rw [e]
  subst e2
  exact ⟨by rw [List.length_map]; exact hl, R, rowsOf_map R, hne, fun M h1 h2 => by rw [← norm_eq h1 h2]; exact h⟩
end DL

/-! is of bools; largest, least, pop(i) as closed words. -/
namespace DL
open PySem PySem.Spec PyProof.Rows L2
def gIsB (neg : Bool) : D → D → (D → Prop) → Prop := fun x y k => match x, y with
  | .bl b, .bl c => k (.bl (if neg then !decide (b = c) else decide (b = c)))
  | _, _ => False
theorem up_isBl {K : PySem.W.Frag} : Up2 K rIsB (gIsB false) := by
  intro H F v u x y k Q hv hu g ok
  cases hv with
  | bl i =>
    cases hu with
    | bl j => exact ⟨i, j, rfl, rfl, ok.same g (.bl _)⟩
    | _ => exact g.elim
  | _ => cases hu <;> exact g.elim
theorem up_notBl {K : PySem.W.Frag} : Up2 K rNotB (gIsB true) := by
  intro H F v u x y k Q hv hu g ok
  cases hv with
  | bl i =>
    cases hu with
    | bl j => exact ⟨i, j, rfl, rfl, ok.same g (.bl _)⟩
    | _ => exact g.elim
  | _ => cases hu <;> exact g.elim
@[irreducible] def gMaxJ : List D → (D → Prop) → Prop := gMaxL
theorem gMaxL_J : gMaxL = gMaxJ := by unfold gMaxJ; rfl
@[irreducible] def gMinJ : List D → (D → Prop) → Prop := gMinL
theorem gMinL_J : gMinL = gMinJ := by unfold gMinJ; rfl
theorem maxJ_ok {ns : List Int} {k : D → Prop} (h0 : 0 < ns.length) (h : ∀ m, m ∈ ns → (∀ y, y ∈ ns → y ≤ m) → k (.int m)) : gMaxJ [.lst (ns.map .int)] k := by
  rw [← gMaxL_J]
  unfold gMaxL gIntsL
  simp only [intsOf_map]
  exact ⟨h0, h⟩
theorem minJ_ok {ns : List Int} {k : D → Prop} (h0 : 0 < ns.length) (h : ∀ m, m ∈ ns → (∀ y, y ∈ ns → m ≤ y) → k (.int m)) : gMinJ [.lst (ns.map .int)] k := by
  rw [← gMinL_J]
  unfold gMinL gIntsL
  simp only [intsOf_map]
  exact ⟨h0, h⟩
@[irreducible] def gPopAtJ : List D → List D → (D → List D → Prop) → Prop := gPopAt
theorem gPopAt_J : gPopAt = gPopAtJ := by unfold gPopAtJ; rfl
theorem popAtJ_ok {xs : List D} {i : Int} {d : D} {k : D → List D → Prop} (h0 : 0 ≤ i) (h1 : i < 2 ^ 62) (e : xs[i.toNat]? = some d) (h : k d (xs.eraseIdx i.toNat)) : gPopAtJ xs [.int i] k := by
  rw [← gPopAt_J]
  unfold gPopAt
  simp only [e]
  exact ⟨h0, h1, h⟩
theorem ix_ptu {ns : List Int} {i z : Int} {k : D → Prop} (e : atI ns i = some z) (h : k (.int z)) : gIxI (.ptu ns) (.int i) k := by
  rw [← gIx_I]
  show (match atI ns i with | some d => k (.int d) | none => False)
  rw [e]; exact h
theorem ix_scr {ns : List Int} {i z : Int} {k : D → Prop} (e : atI ns i = some z) (h : k (.int z)) : gIxI (.scr ns) (.int i) k := by
  rw [← gIx_I]
  show (match atI ns i with | some d => k (.int d) | none => False)
  rw [e]; exact h
theorem ix_tupN {ns : List Int} {i z : Int} {k : D → Prop} (e : atI ns i = some z) (h : k (.int z)) : gIxI (.tup (ns.map .int)) (.int i) k := ixT (by rw [atI_map, e]; rfl) h
theorem ix_lstN {ns : List Int} {i z : Int} {k : D → Prop} (e : atI ns i = some z) (h : k (.int z)) : gIxI (.lst (ns.map .int)) (.int i) k := ixL (by rw [atI_map, e]; rfl) h
theorem atI_last {α : Type} {xs : List α} (h : 0 < xs.length) : atI xs (-1) = some xs[xs.length - 1] := by
  unfold atI ixN
  rw [if_neg (by decide), if_pos (by omega)]
  show xs[(-1 + (xs.length : Int)).toNat]? = _
  rw [show (-1 + (xs.length : Int)).toNat = xs.length - 1 by omega]
  exact List.getElem?_eq_getElem (by omega)
theorem cutD_le {α : Type} (xs : List α) (lo hi : Option Int) : (DL.cutD xs lo hi).length ≤ xs.length := by
  unfold DL.cutD
  rw [List.length_take, List.length_drop]; omega
end DL

/-! enumerate(list, start=k). -/
namespace NR
open PySem PySem.Spec PyProof.Rows L2
/-- the enumerate object that counts from c -/
abbrev enumAt (i : Addr) (c : Int) : Obj := { cls := .type "enumerate", data := .fields #[.none, .bool false, .ref i, rawInt c, .none, .none] }
abbrev startK : Str := Str.ofString "start"
theorem enum_newK {v : Value} {o : Obj} {G : Heap → Prop} (B : Begins v o G) (c : Int) (t : Tok) (fit : Builtin.SmallTypes.fitsIndex c = true) : Meets (Builtin.«enumerate.__new__» ⟨[.type "enumerate", v], [(startK, .int c t)]⟩) fun _ R s =>
    G s.heap ∧ R (.ok (.ret (.ref (s.heap.push o).objs.size))) { s with heap := (s.heap.push o).push (enumAt s.heap.objs.size c) } :=
  .of_wp fun prog w A R s hs => by
    obtain ⟨hp, gs, dr, tk, os⟩ := s
    obtain ⟨g, hs⟩ := hs
    have sub := sub_enumerate
    have nfit : (!Builtin.SmallTypes.fitsIndex c) = false := by rw [fit]; rfl
    have it : ∀ {A' : Around} {E Q : Value → Shared → Prop}, Q (.ref hp.objs.size) ⟨hp.push o, gs, dr, tk, os⟩ → wpAny (model prog w) A' (pyIter v) Q E ⟨hp, gs, dr, tk, os⟩ := fun q => B.iter _ _ _ _ _ _ g q
    wp_walk using it
    refine wpAny_stack_any fun st => wpAny_pure ?_
    split
    · rename_i cl _ _ _ _ _
      cases (cl == Value.type "enumerate") <;> (wp_walk using it; exact ⟨_, rfl, hs⟩)
    · wp_walk using it; exact ⟨_, rfl, hs⟩
theorem typeCall_enumK (a b : Value) : checkTypeCall "enumerate" ⟨[a], [(startK, b)]⟩ = pure () := by kernel_rfl
theorem newCall_enumK (a b : Value) : checkBuiltinCall "enumerate.__new__" ⟨[.type "enumerate", a], [(startK, b)]⟩ = pure () := by kernel_rfl
theorem init_argsK (a b c : Value) : argsOk "object.__init__" ⟨[a, b], [(startK, c)]⟩ := by
  unfold argsOk; rw [signature?_of (id := "object.__init__") (n := ['_', '_', 't', 'i', 'n', 'i', '_', '_']) (o := ['t', 'c', 'e', 'j', 'b', 'o']) (by kernel_rfl) F.owner_object]; kernel_rfl
section
variable {P : Program} {w : World} {A : Around} {E : Value → Shared → Prop} {s : Shared}
theorem light (T : String) (xs : List Value) (kw : List (Str × Value)) : (Code.builtin "type.__call__" ⟨.type T :: xs, kw⟩).weight = 0 := rfl
theorem light1 (T : String) (xs : List Value) (kw : List (Str × Value)) : (Code.builtin "type.__call__" ⟨.type T :: xs, kw⟩).cUnits = 1 := rfl
theorem initK {self b c : Value} : Meets (Builtin.«object.__init__» ⟨[self, b], [(startK, c)]⟩) (fun _ R s => s.TypeIs self "enumerate" ∧ R (.ok (.ret .none)) s) := by
  refine Meets.of_wp fun prog w A R s hs => ?_
  obtain ⟨ty, q⟩ := hs
  have hl := F.called_enumerate.init.lookup
  have hm := F.called_enumerate.made
  repeat (any_goals (first | assumption | wp_step))
  exact ⟨_, rfl, q⟩
/-- enumerate(v, start=c): its two new cells -/
theorem call_enumK {v : Value} {o : Obj} {G : Heap → Prop} {c : Int} {t : Tok} {Q : Value → Shared → Prop} (B : Begins v o G) (g : G s.heap) (fit : Builtin.SmallTypes.fitsIndex c = true)
    (q : ∀ h', IsEnum h' (s.heap.objs.size + 1) s.heap.objs.size c .none → h'.get? s.heap.objs.size = some o → (∀ b u, s.heap.get? b = some u → h'.get? b = some u) → Q (.ref (s.heap.objs.size + 1)) { s with heap := h' }) :
    wpAny (model P w) A (call (.type "enumerate") [v] [(startK, .int c t)]) Q E s := by
  obtain ⟨k, tl, hmro⟩ := F.called_enumerate.mro
  have hmade := F.called_enumerate.made
  have hsub := F.called_enumerate.sub
  have hct := typeCall_enumK v (.int c t)
  refine wpAny_call (codeAny_of_tree ?_)
  show wpAny _ _ (callAny (.type "enumerate") _) _ _ _
  refine wpAny_pure ⟨Code.quiet_builtin _ (by decide +kernel), codeAny_builtin F.entry_type_call ?_⟩
  rw [Around.under_plain (light "enumerate" [v] [(startK, .int c t)]) (light1 "enumerate" [v] [(startK, .int c t)])]
  have h1 := F.called_enumerate.notType
  have h2 := F.called_enumerate.canCreate
  repeat (any_goals (first | assumption | wp_step))
  have sz : (s.heap.push o).objs.size = s.heap.objs.size + 1 := Heap.size_push ..
  have at1 : ((s.heap.push o).push (enumAt s.heap.objs.size c)).get? (s.heap.objs.size + 1) = some (enumAt s.heap.objs.size c) := by
    have z := Heap.get?_push_size (s.heap.push o) (o := enumAt s.heap.objs.size c) rfl
    rw [sz] at z
    exact z
  let R0 : Result → Shared → Prop := fun r s1 => match r with
    | .ok (.ret ob) => ob = .ref (s.heap.objs.size + 1) ∧ s1 = { s with heap := (s.heap.push o).push (enumAt s.heap.objs.size c) }
    | .ok _ => False
    | .error _ => False
  have made : codeAny (model P w) A.in1 (.call (.builtin "enumerate.__new__") ⟨[.type "enumerate", v], [(startK, .int c t)]⟩) R0 s :=
    codeAny_call_builtin (R := R0) F.called_enumerate.plain F.entry_enumerate_new (wpAny_of_eq (newCall_enumK v (.int c t)) (enum_newK B c t fit P w A.in1 R0 s ⟨g, by
      show Value.ref (s.heap.push o).objs.size = _ ∧ _
      rw [sz]; exact ⟨rfl, rfl⟩⟩))
  refine codeAny_mono made fun r s1 hr => ?_
  cases r with
  | error e => exact hr.elim
  | ok fl =>
    cases fl with
    | ret ob =>
      obtain ⟨rfl, rfl⟩ := hr
      have hT : Shared.TypeIs { s with heap := (s.heap.push o).push (enumAt s.heap.objs.size c) } (.ref (s.heap.objs.size + 1)) "enumerate" := ⟨_, at1, rfl⟩
      have hli := F.called_enumerate.init.lookup
      have hbi := F.called_enumerate.init.bind (.ref (s.heap.objs.size + 1))
      have hk := init_argsK (.ref (s.heap.objs.size + 1)) v (.int c t)
      repeat (any_goals (first | assumption | wp_step))
      let R1 : Result → Shared → Prop := fun r s1 => r = .ok (.ret .none) ∧ s1 = { s with heap := (s.heap.push o).push (enumAt s.heap.objs.size c) }
      have inited : codeAny (model P w) A.in1 (.call (.builtin "object.__init__") ⟨[.ref (s.heap.objs.size + 1), v], [(startK, .int c t)]⟩) R1 { s with heap := (s.heap.push o).push (enumAt s.heap.objs.size c) } :=
        codeAny_call_builtin (R := R1) F.called_enumerate.init.plain F.entry_object_init (F.called_enumerate.init.check _ _ _ _ _ _ _ _ hT hk (initK P w A.in1 R1 _ ⟨hT, rfl, rfl⟩))
      refine codeAny_mono inited fun r2 s2 hr2 => ?_
      obtain ⟨rfl, rfl⟩ := hr2
      have fin := q _ at1 (Heap.get?_push_of_some _ (Heap.get?_push_size _ B.free)) fun b u e => Heap.get?_push_of_some _ (Heap.get?_push_of_some _ e)
      repeat (any_goals (first | assumption | wp_step))
    | _ => exact hr.elim
end

section
variable {M : Model} {A : Around} {E : Value → Shared → Prop} {s : Shared} {env : Env}
theorem callWith_tyK {pos : Pos} {T : String} {e : Expr} {rest : List Expr} {kws : List Keyword} {Q : Value → Shared → Prop}
    (h : wpAny M A (spliced (backTo pos (starEach (e :: rest) env))) (fun vs s1 => wpAny M A (evalAll ((backToKw pos (keywordEach kws env)).map (·.2)))
      (fun ks s2 => wpAny M A (call (.type T) vs (((backToKw pos (keywordEach kws env)).filterMap (·.1)).zip ks)) Q E s2) E s1) E s)
    (he : backTo pos (starEach (e :: rest) env) = (false, eval e env) :: backTo pos (starEach rest env)) (h1 : (backTo pos (starEach (e :: rest) env)).any (·.1) = false)
    (h2 : (backToKw pos (keywordEach kws env)).all (·.1.isSome) = true) (h3 : (backToKw pos (keywordEach kws env)).any (·.1.isNone) = false) :
    wpAny M A (callWith pos (.type T) [] (backTo pos (starEach (e :: rest) env)) (backToKw pos (keywordEach kws env))) Q E s := by
  have ev : wpAny M A (evalArgs (.type T) true (backTo pos (starEach (e :: rest) env)) (backToKw pos (keywordEach kws env))) (fun a s1 => wpAny M A (call (.type T) ([] ++ a.pos) a.kw) Q E s1) E s := by
    rw [he] at h ⊢
    exact PyProof.Rows.evalArgs_kwB h2 h
  unfold callWith
  refine wpAny_bind (wpAny_holding (wpAny_mono ev (fun a s1 k => wpAny_bind (wpAny_standAt ?_)) fun _ _ z => z))
  simp only [h1, h3, Bool.or_false]
  exact wpAny_bind (wpAny_pure (wpAny_bind (wpAny_mono k (fun r s2 k2 => wpAny_bind (wpAny_holding (wpAny_point (wpAny_pure k2)))) fun _ _ z => z)))
end
theorem next_enum_endK {P : Program} {w : World} {A : Around} {E : Value → Shared → Prop} {s : Shared} {e it a : Addr} {i : Nat} {c : Int} {items : Array Value} {old : Value} {Q : Option Value → Shared → Prop} (hh : A.handled = none) (he : IsEnum s.heap e it c old) (hit : s.heap.IsListIter it a i) (ha : s.heap.IsList a items) (hx : items[i]? = none)
    (q : ∀ h', Heap.ExtBut it s.heap h' → Q none { s with heap := h' }) : wpAny (model P w) A (pyNext (.ref e)) Q E s := by
  have ty : s.TypeIs (.ref e) "enumerate" := ⟨_, he, rfl⟩
  have hh1 : A.in1.handled = none := by simp [hh]
  unfold pyNext
  refine wpAny_bind (wpAny_attempt (wpAny_callSpecial?_slot (name := Str.ofString "__next__") ty F.slot_enumerate_next (wpAny_call_entry F.slot_enumerate_next ty F.entry_enumerate_next ?_ (F.args_enumerate_next_1 _)))); show wpAny _ _ (field (.ref e) 2 >>= _) _ _ _
  refine wpAny_bind (wpAny_field he rfl (x := .ref it) rfl (wpAny_bind (wpAny_nextOf_list_end hh1 hit ha hx fun h' x ex hx' => ?_)))
  obtain ⟨o, ho, hc⟩ := hx'
  exact wpAny_bind (wpAny_isInstance (T := "StopIteration") (b := true) ⟨o, ho, hc⟩ isSubtype_stop (wpAny_pure (q _ ex)))
/-- the turns over a list, counted from c -/
def IteK (K : PySem.W.Frag) (a : Addr) (c : Int) : It :=
  ⟨fun i H => ∃ (xs : List V) (x : V), SqL K H a xs ∧ xs[i]? = some x, fun i H v H' => ∃ T x, v = .ref T ∧ H T = none ∧ H' = upd H T (.tup [.int (c + (i : Nat)), x]) ∧ ∀ xs, SqL K H a xs → xs[i]? = some x, fun i H => ∃ xs : List V, SqL K H a xs ∧ xs.length ≤ i⟩
theorem turn_enumK {P : Program} {w : World} {K : PySem.W.Frag} {elts : List Expr} {kk : Nat} {tpos : Pos} (a e it : Addr) (c : Int) (ne : e ≠ it) (nea : e ≠ a) (nia : a ≠ it) :
    L2.Turn P w K (.Tuple elts kk tpos) (IteK K a c) [e, it] e (fun i h => (∃ old, IsEnum h e it (c + ((i : Nat) : Int)) old) ∧ h.IsListIter it a i) where
  mem := by simp
  obj := fun i h st b hb => by
    obtain ⟨⟨old, he⟩, o, ho, hc, hd⟩ := st
    rcases (show b = e ∨ b = it by simpa using hb) with z | z
    · rw [z]; exact ⟨_, he, fun v q => nomatch q⟩
    · rw [z]; exact ⟨o, ho, fun v q => by rw [hd] at q; cases q⟩
  keep := fun i h h' st k => by
    obtain ⟨⟨old, he⟩, hi⟩ := st
    exact ⟨⟨old, k e (by simp) _ he⟩, hi.at fun o q => k it (by simp) o q⟩
  item := by
    intro X hP hw hK hc i pins s σ H E I hf st hg
    subst hP hw hK
    obtain ⟨⟨old, he⟩, hit⟩ := st
    obtain ⟨xs, x, hq, hx⟩ := hg
    obtain ⟨its, rv, p, hz⟩ := I.list hq
    obtain ⟨u, hu, ru⟩ := rv.get hx
    have lt : i < its.toArray.size := by
      have := (List.getElem?_eq_some_iff.mp hu).1
      simpa using this
    have le : e < s.heap.objs.size := Heap.lt_size he
    have li : it < s.heap.objs.size := by obtain ⟨_, q, _⟩ := hit; exact Heap.lt_size q
    have D := Draws.list (prog := X.prog) (w := X.w) (A := X.A.in1) (by have := I.ok.hd hc; simp [this]) it a nia its.toArray
    refine wpAny_pyNext_enum_itemC D he ⟨hit, p.isList⟩ lt ne (by simp only [List.mem_cons, List.not_mem_nil, or_false, not_or]; exact ⟨ne, nea⟩) fun y h1 tk hy ho hst hT hsz hk => ?_
    have ey : y = u := by
      have : its.toArray[i]? = some u := by simpa using hu
      rw [this] at hy
      exact (Option.some.inj hy).symm
    subst ey
    refine ⟨_, rfl, wpAny_letOwnedTupleGo_enum (s := { s with heap := h1, toks := tk + 1 }) ho fun h2 he2 sb => ?_⟩
    have hT2 : h2.get? s.heap.objs.size = some { cls := .type "tuple", data := .seq #[.int (c + (i : Nat)) tk, y] } := (sb.2 _ (Nat.ne_of_gt le)).trans hT
    have new : ObjOk X.prog X.w (upd H s.heap.objs.size (.tup [.int (c + (i : Nat)), x])) h2 s.heap.objs.size (.tup [.int (c + (i : Nat)), x]) :=
      ⟨by show 2 ≤ sizeLine; decide, [.int (c + (i : Nat)) tk, y], .cons ⟨_, rfl⟩ (.cons ru .nil), ⟨_, hT2, rfl, _, rfl⟩⟩
    have I1 : Inv X pins σ (upd H s.heap.objs.size (.tup [.int (c + (i : Nat)), x])) { s with heap := h2, toks := tk + 1 } :=
      I.turnedNew (ch := [e, it]) (fun b ob hb q => (sb.2 b (fun z => hb (by simp [z]))).trans (hk b ob (fun z => hb (by simp [z])) (fun z => hb (by simp [z])) q)) hf (Nat.le_refl _) new
    refine ⟨.ref s.heap.objs.size, _, I1, rfl, ⟨_, x, rfl, I.hok.fresh (Nat.le_refl _), rfl, fun ys hy => by rw [I.list_inj hy hq]; exact hx⟩, ⟨⟨y, ?_⟩, hst.1.at fun o q => (sb.2 it (Ne.symm ne)).trans q⟩, fun b hb => ?_⟩
    · have e1 : c + ((i + 1 : Nat) : Int) = c + (i : Int) + 1 := by omega
      rw [e1]; exact he2
    · have hb2 : b < s.heap.objs.size := by
        rcases (show b = e ∨ b = it by simpa using hb) with z | z
        · rw [z]; exact le
        · rw [z]; exact li
      rw [upd_ne (Nat.ne_of_lt hb2)]
      exact (hf b hb).1
  done := by
    intro X hP hw hK hc i pins s σ H E I hf st hg
    subst hP hw hK
    obtain ⟨⟨old, he⟩, hit⟩ := st
    obtain ⟨xs, hq, hx⟩ := hg
    obtain ⟨its, rv, p, hz⟩ := I.list hq
    obtain ⟨f0, f1, f2, f3, f4, f5⟩ := hf it (by simp)
    have lv := rv.length
    exact next_enum_endK (I.ok.hd hc) he hit p.isList (by simp; omega) fun h' eb => ⟨rfl, I.turned (t' := s.toks) (fun b o hb q => eb b o hb q) f0 f1 f3 f4 f5⟩
  self := fun A i s Q E st h => by
    obtain ⟨⟨_, he⟩, _⟩ := st
    exact wpAny_pyIter_enum he h
def iEnumK (K : PySem.W.Frag) (te tc : TE) : TI := fun σ H R => te σ H fun v H1 => ∃ v', [v] = [v'] ∧ tc σ H1 fun u H2 => ∃ u', [u] = [u'] ∧ ∃ a xs c, v' = .ref a ∧ u' = .int c ∧ SqL K H2 a xs ∧ -(2 ^ 63) ≤ c ∧ c < 2 ^ 63 ∧ R (IteK K a c) H2
theorem pi_enumK {X : Cx} {e e2 : Expr} {te tc : TE} {p pos tpos kpos : Pos} {elts : List Expr} {kk : Nat} (hg : Gl X "enumerate") (hm : X.mg "enumerate" = none) (he : PE X e te) (hc : PE X e2 tc)
    (hs : starEach [e] X.env = [(false, eval e X.env)] := by rfl) (hs1 : starEach [e] X.env = (false, eval e X.env) :: starEach [] X.env := by rfl)
    (hb : backTo pos (starEach [e] X.env) = (false, eval e X.env) :: backTo pos (starEach [] X.env) := by rfl) (h1 : (backTo pos (starEach [e] X.env)).any (·.1) = false := by rfl)
    (h2 : (backToKw pos (keywordEach [⟨some startK, e2, kpos⟩] X.env)).all (·.1.isSome) = true := by rfl) (h3 : (backToKw pos (keywordEach [⟨some startK, e2, kpos⟩] X.env)).any (·.1.isNone) = false := by rfl)
    (h4 : (backToKw pos (keywordEach [⟨some startK, e2, kpos⟩] X.env)).filterMap (·.1) = [startK] := by rfl) :
    PI X (.Tuple elts kk tpos) (.Call (.Name "enumerate" p) [e] [⟨some startK, e2, kpos⟩] pos) (iEnumK X.K te tc) := by
  refine ⟨fun pins s σ H R I h => ?_⟩
  refine wpAny_Call_Name_kw (ld_blt I hg hm boot_enumerate ?_)
  have q : tCons te tNil σ H fun vs H1 => ∃ v, vs = [v] ∧ tCons tc tNil σ H1 fun zs H2 => ∃ u, zs = [u] ∧ ∃ a xs c, v = .ref a ∧ u = .int c ∧ SqL X.K H2 a xs ∧ -(2 ^ 63) ≤ c ∧ c < 2 ^ 63 ∧ R (IteK X.K a c) H2 := h
  refine callWith_tyK (thn ((pa_cons he pa_nil hs1).run pos pins s σ H _ I q) fun us s1 ⟨vs, H1, I1, r1, v, ev, q1⟩ => thn ((pk_cons hc pk_nil).run pos pins s1 σ H1 _ I1 q1) fun ws s2 ⟨zs, H2, I2, r2, u, eu, q2⟩ => ?_) hb h1 h2 h3
  obtain ⟨a, xs, c, rfl, rfl, hq, c1, c2, q2⟩ := q2
  subst ev eu
  rw [h4]
  cases r1 with
  | cons r rr =>
  cases rr
  cases r
  cases r2 with
  | cons r rr =>
  cases rr
  obtain ⟨tk, rfl⟩ := r
  obtain ⟨its, rv, p', hz⟩ := I2.list hq
  refine call_enumK (begins_list a its.toArray) p'.isList (fits_start c1 c2) fun h' he hit hk => wpAny_pyIter_enum he ?_
  have hlt : a < s2.heap.objs.size := by obtain ⟨o, ho, _⟩ := id p'.isList; exact Heap.lt_size ho
  refine ⟨s2.heap.objs.size + 1, [s2.heap.objs.size + 1, s2.heap.objs.size], _, _, H2, rfl, I2.kept (t' := s2.toks) hk, turn_enumK a (s2.heap.objs.size + 1) s2.heap.objs.size c (Nat.succ_ne_self _) (Nat.ne_of_gt (Nat.lt_succ_of_lt hlt)) (Nat.ne_of_lt hlt), ⟨⟨.none, by simpa using he⟩, ⟨_, hit, rfl, rfl⟩⟩, fun b hb => ?_, q2⟩
  have hle : s2.heap.objs.size ≤ b := by
    rcases (show b = s2.heap.objs.size + 1 ∨ b = s2.heap.objs.size by simpa using hb) with z | z
    · rw [z]; exact Nat.le_add_right _ _
    · rw [z]; exact Nat.le_refl _
  exact I2.fpOk hle (I2.hok.fresh hle)
end NR

/-! Texts: their methods; defs as values. -/
namespace DL
open PySem PySem.Spec PyProof.Rows L2
def isStr : D → Bool | .str _ => true | _ => false
/-! ### methods of a text -/
def UpS0 (K : PySem.W.Frag) (r : V → List V → Hp → VK → Prop) (g : Str → (D → Prop) → Prop) : Prop := ∀ H F a k Q, g a k → OkV K H F k Q → r (.str a) [] H Q
def UpS1 (K : PySem.W.Frag) (r : V → List V → Hp → VK → Prop) (g : Str → Str → (D → Prop) → Prop) : Prop := ∀ H F a b k Q, g a b k → OkV K H F k Q → r (.str a) [.str b] H Q
def dS0 (g : Str → (D → Prop) → Prop) (fe : FE) : FE := fun L Q => fe L fun x L1 => match x with
  | .str a => g a fun z => Q z L1
  | _ => False
def dS1 (g : Str → Str → (D → Prop) → Prop) (fe fi : FE) : FE := fun L Q => fe L fun x L1 => isStr x = true ∧ fi L1 fun y L2 => match x, y with
  | .str a, .str b => g a b fun z => Q z L2
  | _, _ => False
section
variable {X : Cx} {pn : List (Nat × V)} {o e : Expr} {fe fi : FE} {apos cpos : Pos} {name : Str} {id : String} {r : V → List V → Hp → VK → Prop}
theorem d_s0 {g : Str → (D → Prop) → Prop} (slot : Slot "str" name id) (ty : typeOf (.builtin id) = pure (.type "method_descriptor")) (rule : MtR X id r) (up : UpS0 X.K r g) (ho : DE X pn o fe)
    (hbase : attributeBase o name X.env (eval o X.env) = eval o X.env := by rfl) (hline : (apos.endLine == cpos.line) = true := by rfl) : DE X pn (.Call (.Attribute o name apos) [] [] cpos) (dS0 g fe) :=
  pe_weak (pe_m0 slot ty rule ho hbase hline) fun σ H Q q => by
  obtain ⟨F, A, L, R, lo, h, p⟩ := q
  refine ⟨F, A, L, _, lo, h, fun x L1 v F1 A1 H1 h1 e1 lo1 f1 => ?_⟩
  cases f1 with
  | str a => exact ⟨⟨a, rfl⟩, up H1 F1 a _ Q h1 fun d z F' H' k gr f => p d L1 z F' A1 H' k (e1.trans gr.ext) (gr.lo lo1) f⟩
  | _ => exact h1.elim
theorem d_s1 {g : Str → Str → (D → Prop) → Prop} (slot : Slot "str" name id) (ty : typeOf (.builtin id) = pure (.type "method_descriptor")) (rule : MtR X id r) (up : UpS1 X.K r g) (ho : DE X pn o fe) (he : DE X pn e fi)
    (hs : starEach [e] X.env = [(false, eval e X.env)] := by rfl) (hbase : attributeBase o name X.env (eval o X.env) = eval o X.env := by rfl) (hline : (apos.endLine == cpos.line) = true := by rfl) : DE X pn (.Call (.Attribute o name apos) [e] [] cpos) (dS1 g fe fi) :=
  pe_weak (pe_m1 slot ty rule ho he hs hbase hline) fun σ H Q q => by
  obtain ⟨F, A, L, R, lo, h, p⟩ := q
  refine ⟨F, A, L, _, lo, h, fun x L1 v F1 A1 H1 ⟨h0, h1⟩ e1 lo1 f1 => ?_⟩
  cases f1 with
  | str a =>
    refine ⟨⟨a, rfl⟩, F1, A1, L1, _, lo1, h1, fun y L2 u F2 A2 H2 g2 e2 lo2 fu => ?_⟩
    cases fu with
    | str b => exact up H2 F2 a b _ Q g2 fun d z F' H' k gr f => p d L2 z F' A2 H' k ((e1.trans e2).trans gr.ext) (gr.lo lo2) f
    | _ => exact g2.elim
  | _ => cases h0
end
def gIsdigit : Str → (D → Prop) → Prop := fun a k => k (.bl (Txt.isdigit a))
theorem up_isdigit {K : PySem.W.Frag} : UpS0 K (fun x xs H Q => ∃ a, x = .str a ∧ xs = [] ∧ True ∧ Q (.bl (Txt.isdigit a)) H) gIsdigit := fun H F a k Q g ok => ⟨a, rfl, rfl, trivial, ok.same g (.bl _)⟩
def gStarts : Str → Str → (D → Prop) → Prop := fun a b k => k (.bl (Txt.startswith a b))
theorem up_starts {K : PySem.W.Frag} : UpS1 K (fun x xs H Q => ∃ a b, x = .str a ∧ xs = [.str b] ∧ Q (.bl (Txt.startswith a b)) H) gStarts := fun H F a b k Q g ok => ⟨a, b, rfl, rfl, ok.same g (.bl _)⟩
def gSplit : Str → Str → (D → Prop) → Prop := fun a b k => (b.length == 0) = false ∧ a.length + 2 ≤ sizeLine ∧ k (.lst ((Txt.split a b).map .str))
theorem FrL.strs {K : PySem.W.Frag} {H : Hp} {F : Fp} {l : List Str} : FrL K H F (l.map V.str) (l.map D.str) := by
  induction l with
  | nil => exact .nil
  | cons i r ih => exact .cons (.str i) ih
theorem up_split {K : PySem.W.Frag} : UpS1 K (fun x xs H Q => ∃ a b, x = .str a ∧ xs = [.str b] ∧ (b.length == 0) = false ∧ a.length + 2 ≤ sizeLine ∧ rNewStrs (Txt.split a b) H Q) gSplit :=
  fun H F a b k Q g ok => ⟨a, b, rfl, rfl, g.1, g.2.1, fun p n => ok.lst g.2.2 n .strs⟩
/-! ### int(text), str(int) -/
def gIntS : List D → (D → Prop) → Prop := fun ds k => match ds with
  | [.str a] => a.length ≤ 640 ∧ ∃ n, PySem.intText? a = some n ∧ k (.int n)
  | _ => False
theorem up_intS {K : PySem.W.Frag} : UpA K (fun xs H Q => ∃ a n, xs = [.str a] ∧ PySem.intText? a = some n ∧ a.length ≤ 640 ∧ Q (.int n) H) gIntS := by
  intro H F vs ds k Q hv g ok
  match ds, g with
  | [.str a], g =>
    obtain ⟨v, rfl, h⟩ := hv.one
    cases h
    obtain ⟨g1, n, g2, g3⟩ := g
    exact ⟨a, n, rfl, g2, g1, ok.same g3 (.int _)⟩
def gStrI : List D → (D → Prop) → Prop := fun ds k => match ds with
  | [.int i] => i.natAbs.log2 < 1920 ∧ k (.str (toString i))
  | _ => False
theorem up_strI {K : PySem.W.Frag} : UpA K (fun xs H Q => ∃ i, xs = [.int i] ∧ i.natAbs.log2 < 1920 ∧ Q (.str (toString i)) H) gStrI := by
  intro H F vs ds k Q hv g ok
  match ds, g with
  | [.int i], g =>
    obtain ⟨v, rfl, h⟩ := hv.one
    cases h
    exact ⟨i, rfl, g.1, ok.same g.2 (.str _)⟩
/-! ### a statement that is never reached -/
def dNever : FS := fun _ _ => False
theorem d_never {X : Cx} {pn : List (Nat × V)} {st : Stmt} : DS X pn st dNever := ⟨fun pins s σ H E I q => by
  obtain ⟨F, A, L, D, lo, h, p⟩ := q
  exact h.elim⟩
/-! ### a def as a value, and its call -/
section
variable {X : Cx} {pn : List (Nat × V)} {e e2 : Expr} {es : List Expr} {f fe fe2 : FE} {fa : FA} {pos p cpos apos kpos : Pos}
theorem d_fn {x : Str} {a : Addr} (hg : Gl X x) (hm : X.mg x = some (.ref a)) (hk : PySem.W.keepIn X.K (.ref a) = true) (hd : (x == ("__debug__" : Str)) = false := by decide) : DE X pn (.Name x pos) (dC (.fn a)) := d_c (v := .ref a) (pe_glob hg hm (show Value.ref a = Value.ref a from rfl) hd) fun _ _ => .fn hk
theorem d_gc {x : Str} {i : Int} (hg : Gl X x) (h : ∃ u, X.mg x = some u ∧ RelV (.int i) u) (hd : (x == ("__debug__" : Str)) = false := by decide) : DE X pn (.Name x pos) (dC (.int i)) := d_c (C8.pe_gc hg h hd) fun _ _ => .int i
def dCallL (j : Nat) (a : Addr) (sp : SpD) (g : FR) : FE := fun L Q => L[j]? = some (some (.fn a)) ∧ dCall sp g L Q
theorem slot_fn {K : PySem.W.Frag} {H : Hp} {F A : Fp} {σ : L2.St} {L : Ls} {j : Nat} {a : Addr} (lo : Lo K H F pn σ L A) (e : L[j]? = some (some (.fn a))) : σ[j]? = some (some (.ref a)) := by
  obtain ⟨v, B, h1, h2, _⟩ := lo.loc.get e
  have := h2.isFr rfl
  cases this
  exact h1
theorem d_callL (j : Nat) {a : Addr} {fd : FuncData} {ps : List Str} {sp : SpD} {CX : CXT} {E : XK} {k : Nat} {x : Str} {g : FR} (F : FnOk X.prog X.w X.K X.mg X.base CX k a fd ps (lowF X.K sp)) (hr : Room k X.A) (hk : PySem.W.keepIn X.K (.ref a) = true) (hb : Binds X.K fd ps []) (hx : Passes CX X E)
    (ha : DR X pn (e :: es) g) (hN : X.N[j]? = some x := by rfl) (hv : Vis X.env.scope x := by first | exact Or.inl rfl | exact Or.inr (Or.inl rfl) | exact Or.inr (Or.inr rfl)) (hdb : (x == ("__debug__" : Str)) = false := by decide) (hcd : (x == ("__classdict__" : Str)) = false := by decide)
    (he : starEach (e :: es) X.env = (false, eval e X.env) :: starEach es X.env := by rfl) (hpl : (backTo pos (starEach es X.env)).any (·.1) = false := by rfl) :
    DN X pn (.Call (.Name x p) (e :: es) [] pos) (dCallL j a sp g) := pe_weak (pe_callL (dvs := []) F hr hN hv hk hb .nil hx ha hdb hcd he hpl) fun σ H Q q => by
  obtain ⟨F, A, L, R, lo, ⟨h, c⟩, post⟩ := q
  exact ⟨slot_fn lo h, low_call ⟨F, A, L, R, lo, c, post⟩⟩
/-! ### enumerate with a start -/
def enumK (c : Int) (ds : List D) : List D := ds.mapIdx fun i d => .tup [.int (c + (i : Nat)), d]
theorem enumK_get {c : Int} {ds : List D} {i : Nat} {d : D} (h : (enumK c ds)[i]? = some d) : ∃ x, ds[i]? = some x ∧ d = .tup [.int (c + (i : Nat)), x] := by
  unfold enumK at h
  rw [List.getElem?_mapIdx, Option.map_eq_some_iff] at h
  obtain ⟨x, h, rfl⟩ := h
  exact ⟨x, h, rfl⟩
theorem enumK_length (c : Int) (ds : List D) : (enumK c ds).length = ds.length := by unfold enumK; rw [List.length_mapIdx]
def iEnumKD (f g : FE) : FI := fun L Q => f L fun x L1 => g L1 fun y L2 => match x, y with
  | .lst ds, .int c => -(2 ^ 63) ≤ c ∧ c < 2 ^ 63 ∧ Q (enumK c ds) L2
  | _, _ => False
theorem walk_enumK {K : PySem.W.Frag} {H : Hp} {F : Fp} {a : Addr} {c : Int} {vs : List V} {ds : List D} (k : ∀ H2 F2, Later F H F2 H2 → SqL K H2 a vs) (r : FrL K H F vs ds) : WalkD K H F (NR.IteK K a c) (enumK c ds) := by
  refine ⟨fun H2 F2 l => ⟨vs, k H2 F2 l, by rw [enumK_length, r.length]; exact Nat.le_refl _⟩, fun i H2 F2 l hi => ⟨vs, vs[i]'(by rw [enumK_length] at hi; rw [r.length]; exact hi), k H2 F2 l, by simp⟩, fun i H2 F2 x H3 d l y e => ?_⟩
  obtain ⟨T, x0, rfl, n, rfl, y⟩ := y
  obtain ⟨d0, e0, rfl⟩ := enumK_get e
  obtain ⟨d1, e1, fr⟩ := r.get (y vs (k _ F2 l))
  rw [e0] at e1
  cases e1
  exact ⟨_, grow_new n, new_tup n (.cons (.int _) (.cons (fr.keep l.sub l.keep) .nil))⟩
theorem i_enumK {tpos : Pos} {elts : List Expr} {kk : Nat} (hg : Gl X "enumerate") (hm : X.mg "enumerate" = none) (he : DE X pn e fe) (he2 : DE X pn e2 fe2) (hs : starEach [e] X.env = [(false, eval e X.env)] := by rfl) (hs1 : starEach [e] X.env = (false, eval e X.env) :: starEach [] X.env := by rfl)
    (hb : backTo pos (starEach [e] X.env) = (false, eval e X.env) :: backTo pos (starEach [] X.env) := by rfl) (h1 : (backTo pos (starEach [e] X.env)).any (·.1) = false := by rfl)
    (h2 : (backToKw pos (keywordEach [⟨some NR.startK, e2, kpos⟩] X.env)).all (·.1.isSome) = true := by rfl) (h3 : (backToKw pos (keywordEach [⟨some NR.startK, e2, kpos⟩] X.env)).any (·.1.isNone) = false := by rfl)
    (h4 : (backToKw pos (keywordEach [⟨some NR.startK, e2, kpos⟩] X.env)).filterMap (·.1) = [NR.startK] := by rfl) :
    DI X pn (.Tuple elts kk tpos) (.Call (.Name "enumerate" p) [e] [⟨some NR.startK, e2, kpos⟩] pos) (iEnumKD fe fe2) :=
  pi_weak (NR.pi_enumK hg hm he he2 hs hs1 hb h1 h2 h3 h4) fun σ H R q => by
  obtain ⟨F, A, L, RR, lo, h, post⟩ := q
  refine ⟨F, A, L, _, lo, h, fun x L1 v F1 A1 H1 h1 e1 lo1 f1 => ⟨v, rfl, F1, A1, L1, _, lo1, h1, fun y L2 u F2 A2 H2 h2 e2 lo2 f2 => ⟨u, rfl, ?_⟩⟩⟩
  have g1 := f1.ext lo1.ok e2
  cases g1 with
  | lst f h r =>
    cases f2 with
    | int c => exact ⟨_, _, c, rfl, rfl, SqL.of h, h2.1, h2.2.1, post _ L2 F2 A2 H2 _ h2.2.2 (e1.trans e2) lo2 (walk_enumK (fun H3 F3 l => SqL.of (l.keep _ _ f h)) r)⟩
    | _ => exact h2.elim
  | _ => cases f2 <;> exact h2.elim
/-! ### an owned value appended -/
def dAppN (j : Nat) (f : FE) : FE := fun L Q => isMl L j = true ∧ f L fun d L1 => match L1[j]? with
  | some (some (.ml xs)) => xs.length < sizeLine ∧ Q .non (L1.set j (some (.ml (xs ++ [d]))))
  | _ => False
theorem OwL.len {K : PySem.W.Frag} {H : Hp} {F : Fp} : ∀ {vs : List V} {ds : List D} {A : Fp}, OwL K H F vs ds A → vs.length = ds.length
  | _, _, _, .nil => rfl
  | _, _, _, .cons _ r _ => congrArg (· + 1) (OwL.len r)
theorem low_appN {K : PySem.W.Frag} {j : Nat} {σ : L2.St} {H : Hp} {Q : VK} (q : low K pn (dAppN j f) σ H Q) :
    ∃ v, σ[j]? = some (some v) ∧ tyV K "list" v H ∧ lowN K pn f σ H fun u H2 => rAppend v [u] H2 Q := by
  obtain ⟨F, A, L, R, lo, ⟨hm, h⟩, p⟩ := q
  obtain ⟨a, vs, h1, h2⟩ := isMl_at lo hm
  refine ⟨_, h1, .inl ⟨rfl, _, SqL.of h2⟩, F, A, L, _, lo, h, fun d L1 u F1 A1 B H1 g1 x1 lo1 o s n => ?_⟩
  split at g1
  · next xs ex =>
    obtain ⟨v, B1, k1, k2, sb, put⟩ := slot_put lo1 ex
    rw [h1] at k1
    cases k1
    cases k2 with
    | fr z => cases z
    | ml ha r na =>
      rename_i us B2
      refine ⟨a, _, u, rfl, rfl, ha, by rw [OwL.len r]; exact g1.1, ?_⟩
      have aA : A1 a := sb a (.inl rfl)
      have nB : ¬ B a := fun z => n a z aA
      have nF : ¬ F1 a := (lo1.ok.a a aA).1
      obtain ⟨C, oc, ec⟩ := r.append (.cons o .nil fun _ _ z => z.elim) (fun c z y => n c (y.elim id fun z => z.elim) (sb c (.inr z)))
      have nC : ¬ C a := fun z => ((ec a).mp z).elim na fun z => z.elim nB fun z => z.elim
      have oc' := oc.keep (F' := F1) (H' := upd H1 a (.lst (us ++ [u]))) (fun _ z => z) fun c ob z e => by
        rw [upd_ne fun w => ?_]
        · exact e
        · subst w
          exact z.elim nF nC
      obtain ⟨A2, l2, x2⟩ := put (Xt := B) (.inl rfl) (.ml upd_same oc' nC) (fun c z => z.elim (fun z => .inl (.inl z)) fun z => ((ec c).mp z).elim (fun z => .inl (.inr z)) fun z => .inr (z.elim id fun z => z.elim)) (fun c z => n c z) fun c z => s.a c z
      exact p .non _ .non F1 A2 _ g1.2 (x1.trans x2) l2 .non
  · exact g1.elim
theorem d_appN (j : Nat) {x : Str} {px : Pos} (ha : DN X pn e f) (hN : X.N[j]? = some x := by rfl) (hv : Vis X.env.scope x := by first | exact Or.inl rfl | exact Or.inr (Or.inl rfl) | exact Or.inr (Or.inr rfl)) (hd : (x == ("__debug__" : Str)) = false := by decide)
    (hcd : (x == ("__classdict__" : Str)) = false := by decide)
    (hbase : attributeBase (.Name x px) "append" X.env (eval (.Name x px) X.env) = eval (.Name x px) X.env := by rfl)
    (hfew : ((backTo cpos (starEach [e] X.env)).all (fun x => !x.1) && (backToKw cpos (keywordEach [] X.env)).all (fun x => x.1.isSome)
      && decide (([e] : List Expr).length + ([] : List Keyword).length + (if ([] : List Keyword).isEmpty then 0 else 1) < 30)) = true := by rfl)
    (hline : (apos.endLine == cpos.line) = true := by rfl) (hs : starEach [e] X.env = (false, eval e X.env) :: starEach [] X.env := by rfl) (hplain : (backTo cpos (starEach [] X.env)).any (·.1) = false := by rfl) :
    DE X pn (.Call (.Attribute (.Name x px) "append" apos) [e] [] cpos) (dAppN j f) := pe_weak (pe_bm PySem.F.plainAttrs_list PySem.F.slot_list_append PySem.F.type_list_append mt_append (pe_var hN hv hd hcd) (pa_cons ha pa_nil hs) hbase hfew hline hs hplain) fun σ H Q q => low_appN q
/-! ### int of anything -/
def gIntT : List D → (D → Prop) → Prop := fun ds k => match ds with
  | [.int i] => k (.int i)
  | [.bl b] => k (.int (if b then 1 else 0))
  | [.str a] => a.length ≤ 640 ∧ ∃ n, PySem.intText? a = some n ∧ k (.int n)
  | _ => False
theorem up_intT {K : PySem.W.Frag} : UpA K (fun xs H Q => ((∃ i, xs = [.int i] ∧ Q (.int i) H) ∨ ∃ k, xs = [.bl k] ∧ Q (.int (if k then 1 else 0)) H) ∨ ∃ a n, xs = [.str a] ∧ PySem.intText? a = some n ∧ a.length ≤ 640 ∧ Q (.int n) H) gIntT := by
  intro H F vs ds k Q hv g ok
  match ds, g with
  | [.int i], g => exact .inl (up_intF H F vs _ k Q hv g ok)
  | [.bl i], g => exact .inl (up_intF H F vs _ k Q hv g ok)
  | [.str a], g => exact .inr (up_intS H F vs _ k Q hv g ok)
theorem call_intT : CallR X (.type "int") (fun xs H Q => ((∃ i, xs = [.int i] ∧ Q (.int i) H) ∨ ∃ k, xs = [.bl k] ∧ Q (.int (if k then 1 else 0)) H) ∨ ∃ a n, xs = [.str a] ∧ PySem.intText? a = some n ∧ a.length ≤ 640 ∧ Q (.int n) H) := callr_or call_int1 call_int_str
end
end DL

/-! Exceptions: a reading's value .xc C fs is the exception of class C that flies out. -/
namespace DL
open PySem PySem.Spec PyProof.Rows L2
/-- what an exception carries, frozen -/
inductive XFs (K : PySem.W.Frag) (H : Hp) (F : Fp) : Option Addr → List (Str × D) → Prop
  | no : XFs K H F none []
  | d {dx : Addr} {kvs : List (Str × V)} {es : List (Str × D)} : F dx → H dx = some (.xd kvs) → kvs.map Prod.fst = es.map Prod.fst → FrL K H F (kvs.map Prod.snd) (es.map Prod.snd) → XFs K H F (some dx) es
theorem XFs.keep {K : PySem.W.Frag} {H H' : Hp} {F F' : Fp} {d : Option Addr} {fs : List (Str × D)} (s : ∀ a, F a → F' a) (k : ∀ a o, F a → H a = some o → H' a = some o) (h : XFs K H F d fs) : XFs K H' F' d fs := by
  cases h with
  | no => exact .no
  | d f e q r => exact .d (s _ f) (k _ _ f e) q (r.keep s k)
theorem XFs.er {K : PySem.W.Frag} {H : Hp} {F : Fp} {d : Option Addr} {fs : List (Str × D)} {a C : Addr} {oe : Obj} {u : HO} (h : XFs K H F d fs) (fa : F a) (e : H a = some (.frz oe u)) (z : L2N.Zn (.ref C) d oe) (f : ∃ vs, oe.data = .fields vs) : Fr K H F (.ref a) (.er C fs) := by
  cases h with
  | no => exact .er0 fa e z f
  | d f2 e2 q r => exact .erD fa e z f f2 e2 q r
section
variable (K : PySem.W.Frag) (pn : List (Nat × V)) (W : WX)
def PostX (σ : L2.St) (H : Hp) (F A : Fp) (R : D → Ls → Prop) : Prop := ∀ c fs L' d F' A' H', R (.xc c fs) L' → Ext A H F A' H' F' → Lo K H' F' pn σ L' A' → XFs K H' F' d fs → W (.ref c) d σ H'
def PostSX (H : Hp) (F A : Fp) (D : DEnds) : Prop := ∀ c fs σ' L' d F' A' H', D.rt (.xc c fs) L' → Ext A H F A' H' F' → Lo K H' F' pn σ' L' A' → XFs K H' F' d fs → W (.ref c) d σ' H'
def lowX (f : FE) : TE := fun σ H Q => ∃ F A L R, Lo K H F pn σ L A ∧ f L R ∧ Post K pn σ H F A R Q ∧ PostX K pn W σ H F A R
def lowNX (f : FE) : TE := fun σ H Q => ∃ F A L R, Lo K H F pn σ L A ∧ f L R ∧ PostN K pn σ H F A R Q ∧ PostX K pn W σ H F A R
def lowSX (g : FS) : TS := fun E σ H => ∃ F A L D, Lo K H F pn σ L A ∧ g D L ∧ PostS K pn H F A D E ∧ PostSX K pn W H F A D
end
abbrev DEX (X : Cx) (pn : List (Nat × V)) (W : WX) (e : Expr) (f : FE) : Prop := PE X e (lowX X.K pn W f)
abbrev DNX (X : Cx) (pn : List (Nat × V)) (W : WX) (e : Expr) (f : FE) : Prop := PE X e (lowNX X.K pn W f)
abbrev DSX (X : Cx) (pn : List (Nat × V)) (W : WX) (st : Stmt) (g : FS) : Prop := PS X st (lowSX X.K pn W g)
abbrev DSsX (X : Cx) (pn : List (Nat × V)) (W : WX) (st : List Stmt) (g : FS) : Prop := PSs X st (lowSX X.K pn W g)
section
variable {X : Cx} {pn : List (Nat × V)} {W : WX} {c e : Expr} {st : Stmt} {sts ss : List Stmt} {f : FE} {ft : FT} {g h : FS} {pos : Pos}
theorem PostSX.on {K : PySem.W.Frag} {H H1 : Hp} {F A F1 A1 : Fp} {D : DEnds} (p : PostSX K pn W H F A D) (x : Ext A H F A1 H1 F1) : PostSX K pn W H1 F1 A1 D := fun c fs σ' L' d F' A' H' r y l z => p c fs σ' L' d F' A' H' r (x.trans y) l z
/-! ### what raises nothing -/
theorem x_e (h : DE X pn e f) : DEX X pn W e f := pe_weak h fun σ H Q q => by
  obtain ⟨F, A, L, R, lo, h, p, _⟩ := q
  exact ⟨F, A, L, R, lo, h, p⟩
theorem x_n (h : DN X pn e f) : DNX X pn W e f := pe_weak h fun σ H Q q => by
  obtain ⟨F, A, L, R, lo, h, p, _⟩ := q
  exact ⟨F, A, L, R, lo, h, p⟩
theorem x_s (h : DS X pn st g) : DSX X pn W st g := ps_weak h fun E σ H q => by
  obtain ⟨F, A, L, D, lo, h, p, _⟩ := q
  exact ⟨F, A, L, D, lo, h, p⟩
theorem x_ss (h : DSs X pn sts g) : DSsX X pn W sts g := pss_weak h fun E σ H q => by
  obtain ⟨F, A, L, D, lo, h, p, _⟩ := q
  exact ⟨F, A, L, D, lo, h, p⟩
/-! ### statements -/
theorem x_nil : DSsX X pn W [] dNil := x_ss d_nil
theorem x_seq (h1 : DSX X pn W st g) (h2 : DSsX X pn W sts h) : DSsX X pn W (st :: sts) (dSeq g h) := pss_weak (pss_cons h1 h2) fun E σ H q => by
  obtain ⟨F, A, L, D, lo, hg, p, px⟩ := q
  exact ⟨F, A, L, _, lo, hg, ⟨fun σ' L' F' A' H' r x l => ⟨F', A', L', D, l, r, p.on x, px.on x⟩, p.bk, p.ct, p.rt⟩, px⟩
theorem x_one (h1 : DSX X pn W st g) : DSsX X pn W [st] g := pss_weak (pss_one h1) fun E σ H q => q
theorem x_if (hc : DT X pn c ft) (h1 : DSsX X pn W sts g) (h2 : DSsX X pn W ss h) : DSX X pn W (.If c sts ss pos) (dIf ft g h) := ps_weak (ps_if hc h1 h2) fun E σ H q => by
  obtain ⟨F, A, L, D, lo, hg, p, px⟩ := q
  refine ⟨F, A, L, _, lo, hg, fun x L1 F1 A1 H1 h1 e1 lo1 => ?_⟩
  cases x with
  | true => exact iteT ⟨F1, A1, L1, D, lo1, h1, p.on e1, px.on e1⟩
  | false => exact iteF ⟨F1, A1, L1, D, lo1, h1, p.on e1, px.on e1⟩
/-- the value where one comes, the exception handed on -/
def xval (E : DEnds) (k : D → Ls → Prop) : D → Ls → Prop := fun d L => match d with
  | .xc c fs => E.rt (.xc c fs) L
  | d => k d L
theorem xval_fr {K : PySem.W.Frag} {H : Hp} {F A : Fp} {E : DEnds} {k : D → Ls → Prop} {d : D} {L : Ls} {v : V} (h : xval E k d L) (o : Ow K H F v d A) : k d L := by
  cases d with
  | xc c fs => cases o with
    | fr z => cases z
  | _ => exact h
theorem x_ret (he : DEX X pn W e f) : DSX X pn W (.Return (some e) pos) (dRet f) := ps_weak (ps_ret he) fun E σ H q => by
  obtain ⟨F, A, L, D, lo, hg, p, px⟩ := q
  exact ⟨F, A, L, _, lo, hg, fun x L1 v F1 A1 H1 h1 e1 lo1 f1 => p.rt x σ L1 v F1 A1 no H1 h1 e1.or_no lo1 (.fr f1) (sane_no lo1.ok.f) fun _ z => z.elim, fun c fs L' d F' A' H' r x l z => px c fs σ L' d F' A' H' r x l z⟩
theorem x_retM (he : DNX X pn W e f) : DSX X pn W (.Return (some e) pos) (dRet f) := ps_weak (ps_ret he) fun E σ H q => by
  obtain ⟨F, A, L, D, lo, hg, p, px⟩ := q
  exact ⟨F, A, L, _, lo, hg, fun x L1 v F1 A1 B H1 h1 e1 lo1 f1 s n => p.rt x σ L1 v F1 A1 B H1 h1 e1 lo1 f1 s n, fun c fs L' d F' A' H' r x l z => px c fs σ L' d F' A' H' r x l z⟩
def xExp (f : FE) : FS := fun E L => f L (xval E fun _ L1 => E.nx L1)
theorem x_exp (he : DEX X pn W e f) (hs : swapsWith e none pos.line X.env = pure false := by rfl) : DSX X pn W (.Expr e pos) (xExp f) := ps_weak (ps_expr he hs) fun E σ H q => by
  obtain ⟨F, A, L, D, lo, hg, p, px⟩ := q
  exact ⟨F, A, L, _, lo, hg, fun x L1 v F1 A1 H1 h1 e1 lo1 f1 => p.nx σ L1 F1 A1 H1 (xval_fr h1 (.fr f1)) e1 lo1, fun c fs L' d F' A' H' r x l z => px c fs σ L' d F' A' H' r x l z⟩
def xSet (i : Nat) (f : FE) : FS := fun E L => f L (xval E fun d L1 => E.nx (L1.set i (some d)))
theorem x_set {i : Nat} {x : Str} {pos' : Pos} (hN : X.N.Nodup) (hi : X.N[i]? = some x) (hx : Loc X.env.scope x) (hp : (pn.any fun p => p.1 == i) = false) (he : DEX X pn W e f) (hs : swapsWith e (some (.Name x pos')) pos.line X.env = pure false := by rfl) (hf : X.fn x = true ∨ X.env.scope.names.lookup x = some .local := by first | exact .inl rfl | exact .inr rfl | assumption) :
    DSX X pn W (.Assign [.Name x pos'] e pos) (xSet i f) := ps_weak (ps_set hN hi hx he hs hf) fun E σ H q => by
  obtain ⟨F, A, L, D, lo, hg, p, px⟩ := q
  refine ⟨F, A, L, _, lo, hg, fun x L1 v F1 A1 H1 h1 e1 lo1 f1 => ?_, fun c fs L' d F' A' H' r x l z => px c fs σ L' d F' A' H' r x l z⟩
  obtain ⟨A', l, s⟩ := lo1.set (.fr f1) (sane_no lo1.ok.f) (fun _ z => z.elim) hp
  exact p.nx _ _ F1 A' H1 (xval_fr h1 (.fr f1)) (e1.less fun a z => (s a z).elim (fun z => z.elim) id) l
/-! ### loops -/
theorem x_for {tg iter : Expr} {body : List Stmt} {fi : FI} {t : FG} {b : FS} {js : List Nat} (ws : List Nat) (hp : PassesOwn (model X.prog X.w) X.A X.env X.xe) (hc : X.calm = true) (hi : DI X pn tg iter fi) (hg : PG X tg (lowG X.K pn js t)) (hb : DSsX X pn W body b)
    (hs : ∀ x, foldedSetIterable iter X.env x = pure x := by intro _; rfl) : DSX X pn W (.For tg iter body [] pos) (dFor ws fi t b) := ps_weak (ps_for hp hc hi hg hb hs) fun E σ H q => by
  obtain ⟨F, A, L, D, lo, hg, p, px⟩ := q
  refine ⟨F, A, L, _, lo, hg, fun ds L1 F1 A1 H1 J h1 e1 lo1 w => ?_⟩
  obtain ⟨P, h0, step, fin⟩ := h1
  obtain ⟨A0, lo0, x0⟩ := lo1.wipes ws
  refine ⟨fun i m σ' H' => m = ds.length - i ∧ i ≤ ds.length ∧ ∃ F' A' L', Lo X.K H' F' pn σ' L' A' ∧ Ext A1 H1 F1 A' H' F' ∧ P i L', ⟨_, rfl, Nat.zero_le _, F1, A0, _, lo0, x0, h0⟩, ?_⟩
  rintro i m σ2 H2 ⟨rfl, hi, F2, A2, L2, lo2, e2, h2⟩
  have lt := Later.of lo1.ok e2
  by_cases hlt : i < ds.length
  · refine .inr ⟨w.go i H2 F2 lt hlt, fun σ' H' => (i + 1) ≤ ds.length ∧ ∃ F' A' L', Lo X.K H' F' pn σ' L' A' ∧ Ext A1 H1 F1 A' H' F' ∧ P (i + 1) L', fun σ' H' z => ⟨_, by omega, rfl, z.1, z.2⟩, fun x H3 y => ?_⟩
    have ed : ds[i]? = some ds[i] := List.getElem?_eq_getElem hlt
    obtain ⟨F3, gr, fr⟩ := w.yld i H2 F2 x H3 _ lt y ed
    refine ⟨F3, A2, L2, _, _, gr.lo lo2, fr, step i _ L2 ed h2, fun σ4 L4 F4 A4 H4 h4 e4 lo4 _ _ => ⟨F4, A4, L4, _, lo4, h4, ?_, ?_⟩⟩
    · have e14 : Ext A1 H1 F1 A4 H4 F4 := (e2.trans gr.ext).trans e4
      have again : ∀ σ' L' F' A' H', P (i + 1) (wipeD L' ws) → Ext A4 H4 F4 A' H' F' → Lo X.K H' F' pn σ' L' A' → (i + 1) ≤ ds.length ∧ ∃ F' A' L', Lo X.K H' F' pn σ' L' A' ∧ Ext A1 H1 F1 A' H' F' ∧ P (i + 1) L' := fun σ' L' F' A' H' r x l => by
        obtain ⟨C, lw, xw⟩ := l.wipes ws
        exact ⟨hlt, F', C, _, lw, (e14.trans x).trans xw, r⟩
      refine ⟨again, fun σ' L' F' A' H' r x l => ?_, again, fun d σ' L' v F' A' B H' r x l f s n => p.rt d σ' L' v F' A' B H' r ((e1.trans e14).trans x) l f s n⟩
      obtain ⟨C, lw, xw⟩ := l.wipes ws
      exact p.nx σ' _ F' C H' r (((e1.trans e14).trans x).trans xw) lw
    · exact fun c fs σ' L' d F' A' H' r x l z => px c fs σ' L' d F' A' H' r ((e1.trans ((e2.trans gr.ext).trans e4)).trans x) l z
  · have e : i = ds.length := by omega
    subst e
    exact .inl ⟨w.stop H2 F2 lt, p.nx σ2 L2 F2 A2 H2 (fin L2 h2) (e1.trans e2) lo2⟩
/-! ### raise, of an own class without fields -/
def xRaise (C : Addr) : FS := fun E L => E.rt (.xc C []) L
theorem x_raise {C : Addr} (hc : X.calm = true) (tk : L2N.Takes X W) (he : L2N.PMk X e (fun _ H Q => Q (.ref C) none H)) : DSX X pn W (.Raise (some e) none pos) (xRaise C) := ps_weak (L2N.ps_raise hc tk he) fun E σ H q => by
  obtain ⟨F, A, L, D, lo, hg, p, px⟩ := q
  exact px C [] σ L none F A H hg .refl lo .no
end

/-! ### a def that may let exceptions out -/
def lowFX (K : PySem.W.Frag) (sp : SpD) : Sp := fun vs H Q E => ∃ F A ds R, LocA K H F (vs.map some) (ds.map some) A ∧ Sane H F A ∧ sp ds R ∧
  (∀ d ds' v F' A' B H', R d ds' → Ext A H F (or2 A' B) H' F' → LocA K H' F' (vs.map some) (ds'.map some) A' → Ow K H' F' v d B → Sane H' F' (or2 A' B) → (∀ a, B a → ¬ A' a) → Q v H') ∧
  ∀ c fs ds' d F' A' H', R (.xc c fs) ds' → Ext A H F A' H' F' → LocA K H' F' (vs.map some) (ds'.map some) A' → Sane H' F' A' → XFs K H' F' d fs → E (.ref c) d H'
abbrev WF (E : XK) : WX := fun cls d _ H' => E cls d H'
section
variable {P : Program} {w : World} {K : PySem.W.Frag} {mg : Str → Option Value} {base : Heap}
theorem ok_ofX {x qual : Str} {st : Stmt} {f : Addr} {fd : FuncData} {N ps : List Str} {k : Nat} {sp : SpD} {g : FS} (F : Fun K x qual st f fd) (S : FnScope N ps (defScope st)) (io : List Nat) (hio : io.all (fun j => decide (j < ps.length)) = true)
    (hb : ∀ (cdv : Value) (A : Around) (outer : List Env) (s : Shared) (H : Hp) (pn : List (Nat × V)) (E : XK), Room k (A.deeper (envOfC qual (defScope st) s.heap.objs.size f cdv)) → (∀ i, io.contains i = false → (pn.any fun p => p.1 == i) = false) →
      L2N.Takes (cxOf (L2N.CX P w) P w K mg base N qual (defScope st) f cdv A outer s H E) (WF E) → PassesOwn (model P w) (cxOf (L2N.CX P w) P w K mg base N qual (defScope st) f cdv A outer s H E).A (cxOf (L2N.CX P w) P w K mg base N qual (defScope st) f cdv A outer s H E).env (cxOf (L2N.CX P w) P w K mg base N qual (defScope st) f cdv A outer s H E).xe →
      DSsX (cxOf (L2N.CX P w) P w K mg base N qual (defScope st) f cdv A outer s H E) pn (WF E) (defBody st) g)
    (hs : ∀ ds R, sp ds R → ds.length = ps.length ∧ frs io 0 ds = true ∧ g { nx := fun L => outsK io L 0 ds fun ds' => R .non ds', rt := fun d L => outsK io L 0 ds fun ds' => R d ds' } (ds.map some ++ List.replicate (N.length - ps.length) none)) :
    FnOk P w K mg base (L2N.CX P w) (k + 1) f fd ps (lowFX K sp) := by
  obtain ⟨oc, od, kV, doc, pm, an, cdv, ct, osl, rfl, lk, hcd⟩ := F.ex
  refine fn_of lk hcd S (fun vs H Q E h => ?_) (fun A outer s H vs Q E hr h => ?_)
  · obtain ⟨F, A, ds, R, l, _, h, _⟩ := h
    have := l.length
    simp only [List.length_map] at this
    rw [this]
    exact (hs ds R h).1
  · obtain ⟨F, A0, ds, R, l, sn, h, post, postx⟩ := h
    obtain ⟨hlen, hfr, hg⟩ := hs ds R h
    have hvl : vs.length = ds.length := by simpa using l.length
    have hiolt : ∀ j ∈ io, j < vs.length := fun j hj => by
      have := of_decide_eq_true (List.all_eq_true.mp hio j hj)
      omega
    have tk : L2N.Takes (cxOf (L2N.CX P w) P w K mg base N qual (defScope st) f cdv A outer s H E) (WF E) := L2N.takes_of rfl rfl rfl rfl
    refine ⟨_, hb cdv A outer s H (io.map fun j => (j, vs.getD j .non)) E hr (fun i hi => ?_) tk (passes_of (E₁ := _) rfl), ?_⟩
    · rw [List.any_eq_false]
      intro p hp
      obtain ⟨j, hj, rfl⟩ := List.mem_map.mp hp
      intro e
      have e : j = i := by simpa using e
      subst e
      have : io.contains j = true := by simpa using hj
      rw [this] at hi
      cases hi
    · have e0 : L2.start N vs = vs.map some ++ List.replicate (N.length - ps.length) none := by unfold L2.start; rw [hvl, hlen]
      rw [e0]
      have pinned : ∀ {σ' : List (Option V)}, (∀ p ∈ (io.map fun j => (j, vs.getD j .non)), σ'[p.1]? = some (some p.2)) → ∀ i v, vs[i]? = some v → io.contains (0 + i) = true → σ'[0 + i]? = some (some v) := fun {σ'} hp i v e c => by
        rw [Nat.zero_add] at c ⊢
        have hm : i ∈ io := by simpa using c
        have := hp (i, vs.getD i .non) (List.mem_map.mpr ⟨i, hm, rfl⟩)
        rw [this, List.getD_eq_getElem?_getD, e]
        rfl
      refine ⟨F, A0, _, _, ⟨l.nones _, sn, fun p hp => ?_⟩, hg, ⟨fun σ' L' F' A' H' r x lo => ?_, fun _ _ _ _ _ r => r.elim, fun _ _ _ _ _ r => r.elim, fun d σ' L' v F' A' B H' r x lo o s n => ?_⟩, fun c fs σ' L' d F' A' H' r x lo z => ?_⟩
      · obtain ⟨j, hj, rfl⟩ := List.mem_map.mp hp
        have hlt := hiolt j hj
        show (vs.map some ++ List.replicate _ none)[j]? = some (some (vs.getD j .non))
        rw [List.getElem?_append_left (by simpa using hlt), List.getElem?_map, List.getElem?_eq_getElem hlt, List.getD_eq_getElem?_getD, List.getElem?_eq_getElem hlt]
        rfl
      · obtain ⟨ds', A2, q, l2, s2⟩ := outs_loc (Later.of sn x) l hfr lo.loc (fun i _ d e => e) (fun _ _ => rfl) (pinned lo.pin) r
        exact post .non ds' .non F' A2 no H' q (x.less fun a z => z.elim (s2 a) fun z => z.elim) l2 (.fr .non) ⟨lo.ok.f, fun a z => z.elim (fun z => lo.ok.a a (s2 a z)) fun z => z.elim⟩ fun _ z => z.elim
      · obtain ⟨ds', A2, q, l2, s2⟩ := outs_loc (Later.of sn x) l hfr lo.loc (fun i _ d e => e) (fun _ _ => rfl) (pinned lo.pin) r
        exact post d ds' v F' A2 B H' q (x.less fun a z => z.imp_left (s2 a)) l2 o ⟨lo.ok.f, fun a z => z.elim (fun z => lo.ok.a a (s2 a z)) (s.a a)⟩ fun a z y => n a z (s2 a y)
      · obtain ⟨ds', A2, q, l2, s2⟩ := outs_loc (Later.of sn x) l hfr lo.loc (fun i _ d e => e) (fun _ _ => rfl) (pinned lo.pin) r
        exact postx c fs ds' d F' A2 H' q (x.less s2) l2 ⟨lo.ok.f, fun a z => lo.ok.a a (s2 a z)⟩ z
end
/-! ### its call -/
section
variable {X : Cx} {pn : List (Nat × V)} {W : WX} {e : Expr} {es : List Expr} {g : FR} {pos p : Pos} {sp : SpD} {f : Addr} {fd : FuncData} {ps : List Str} {x : Str} {k : Nat}
theorem callX_core {K : PySem.W.Frag} {σ : L2.St} {H : Hp} {Q : VK} {F A F1 A1 : Fp} {H1 : Hp} {L1 : Ls} {R : D → Ls → Prop} {as : List AV} {vs : List V} (post : PostN K pn σ H F A R Q) (postx : PostX K pn W σ H F A R)
    (h1 : takeA as L1 fun ds L2 => sp ds fun d ds' => R d (putA as ds' L2)) (e1 : Ext A H F A1 H1 F1) (lo1 : Lo K H1 F1 pn σ L1 A1) (av : AVs K H1 F1 σ vs as) : lowFX K sp vs H1 Q (WE W σ) := by
  obtain ⟨ds, L2, Aa, Ac, q', la, lc, eq, dj, put⟩ := take_put av lo1.loc h1
  have sa : Sane H1 F1 Aa := ⟨lo1.ok.f, fun a z => lo1.ok.a a ((eq a).mpr (.inl z))⟩
  have key : ∀ {ds' : List D} {F' A' B : Fp} {H' : Hp}, Ext Aa H1 F1 (or2 A' B) H' F' → LocA K H' F' (vs.map some) (ds'.map some) A' → Sane H' F' (or2 A' B) → (∀ a, B a → ¬ A' a) →
      ∃ A'', Ext A H F (or2 A'' B) H' F' ∧ Lo K H' F' pn σ (putA as ds' L2) A'' ∧ ∀ a, B a → ¬ A'' a := fun {ds' F' A' B H'} x l' s n => by
    have acOut : ∀ a, Ac a → ¬ or2 A' B a := fun a z y => by
      rcases x.own a y with y | y
      · exact dj a y z
      · obtain ⟨_, ob, e⟩ := lo1.ok.a a ((eq a).mpr (.inr z))
        rw [y] at e
        cases e
    have acF : ∀ a, Ac a → ¬ F' a := fun a z y => by
      obtain ⟨nf, ob, e⟩ := lo1.ok.a a ((eq a).mpr (.inr z))
      rcases x.new a y with y | y | y
      · exact nf y
      · rw [y] at e; cases e
      · exact dj a y z
    have kc : ∀ a ob, F1 a ∨ Ac a → H1 a = some ob → H' a = some ob := fun a ob z e => x.keep a ob e fun y => z.elim (fun z => (sa.a a y).1 z) fun z => dj a y z
    have lc' := lc.keep x.sub kc
    obtain ⟨A'', l'', s''⟩ := put H' F' ds' A' Ac ⟨x.sub, fun a ob z e => kc a ob (.inl z) e⟩ l' lc' fun a z y => acOut a y (.inl z)
    refine ⟨A'', e1.trans ⟨x.sub, fun a z => (x.new a z).imp_right fun z => z.imp_right fun z => (eq a).mpr (.inl z), fun a ob e n => x.keep a ob e fun z => n ((eq a).mpr (.inl z)), fun a z => ?_⟩, ⟨l'', ⟨s.f, fun a z => ?_⟩, lo1.pin⟩, fun a z y => ?_⟩
    · rcases z with z | z
      · rcases s'' a z with z | z
        · exact (x.own a (.inl z)).imp_left fun z => (eq a).mpr (.inl z)
        · exact .inl ((eq a).mpr (.inr z))
      · exact (x.own a (.inr z)).imp_left fun z => (eq a).mpr (.inl z)
    · rcases s'' a z with z | z
      · exact s.a a (.inl z)
      · refine ⟨acF a z, ?_⟩
        obtain ⟨_, ob, e⟩ := lo1.ok.a a ((eq a).mpr (.inr z))
        exact ⟨ob, kc a ob (.inr z) e⟩
    · rcases s'' a y with y | y
      · exact n a z y
      · exact acOut a y (.inr z)
  refine ⟨F1, Aa, ds, _, la, sa, q', fun d ds' v F' A' B H' r x l' o s n => ?_, fun c fs ds' d F' A' H' r x l' s z => ?_⟩
  · obtain ⟨A'', x2, l2, n2⟩ := key x l' s n
    exact post d _ v F' A'' B H' r x2 l2 o ⟨s.f, fun a z => s.a a (.inr z)⟩ n2
  · obtain ⟨A'', x2, l2, n2⟩ := key (B := no) x.or_no l' ⟨s.f, fun a z => z.elim (s.a a) fun z => z.elim⟩ fun _ z => z.elim
    exact postx c fs _ d F' A'' H' r (x2.less fun a z => .inl z) l2 z
theorem low_callX {K : PySem.W.Frag} {σ : L2.St} {H : Hp} {Q : VK} (q : lowNX K pn W (dCall sp g) σ H Q) : lowR K pn g σ H fun vs H1 => lowFX K sp vs H1 Q (WE W σ) := by
  obtain ⟨F, A, L, R, lo, h, post, postx⟩ := q
  exact ⟨F, A, L, _, lo, h, fun as L1 vs F1 A1 H1 h1 e1 lo1 av => callX_core post postx h1 e1 lo1 av⟩
theorem x_call (F : FnOk X.prog X.w X.K X.mg X.base (L2N.CX X.prog X.w) k f fd ps (lowFX X.K sp)) (tk : L2N.Takes X W) (hr : Room k X.A) (hg : Gl X x) (hm : X.mg x = some (.ref f)) (hk : PySem.W.keepIn X.K (.ref f) = true) (hb : Binds X.K fd ps [])
    (ha : DR X pn (e :: es) g) (hdb : (x == ("__debug__" : Str)) = false := by decide) (he : starEach (e :: es) X.env = (false, eval e X.env) :: starEach es X.env := by rfl) (hpl : (backTo pos (starEach es X.env)).any (·.1) = false := by rfl) :
    DNX X pn W (.Call (.Name x p) (e :: es) [] pos) (dCall sp g) := pe_weak (pe_callS (E := WE W) F hr hg hm hk hb (fun σ => L2N.passAt tk σ) ha hdb he hpl) fun σ H Q q => low_callX q
/-- .. what it returns, frozen at once -/
def xFz (f : FE) : FE := fun L Q => f L fun d L1 => match d with
  | .xc c fs => Q (.xc c fs) L1
  | d => noMo d = true ∧ Q (fz d) L1
theorem x_fz {e : Expr} {f : FE} (h : DNX X pn W e f) : DEX X pn W e (xFz f) := pe_weak h fun σ H Q q => by
  obtain ⟨F, A, L, R, lo, h, p, px⟩ := q
  refine ⟨F, A, L, _, lo, h, fun d L' v F' A' B H' r x l o s n => ?_, fun c fs L' d F' A' H' r x l z => px c fs L' d F' A' H' r x l z⟩
  have r2 : noMo d = true ∧ R (fz d) L' := by
    cases d with
    | xc c fs => cases o with
      | fr z => cases z
    | _ => exact r
  obtain ⟨m, r2⟩ := r2
  have sub : ∀ a, F' a → or2 F' B a := fun _ z => .inl z
  refine p _ L' v (or2 F' B) A' H' r2 ⟨fun a z => .inl (x.sub a z), fun a z => ?_, x.keep, fun a z => x.own a (.inl z)⟩ ⟨l.loc.keep sub fun a o _ e => e, ⟨fun a z => z.elim (l.ok.f a) fun z => (s.a a z).2, fun a z => ⟨fun y => y.elim (l.ok.a a z).1 fun y => n a y z, (l.ok.a a z).2⟩⟩, l.pin⟩ (o.fz sub m fun _ z => .inr z)
  rcases z with z | z
  · rcases x.new a z with y | y | y
    · exact .inl y
    · exact .inr (.inl y)
    · exact .inr (.inr y)
  · exact ((x.own a (.inr z)).imp_left id).symm |> .inr
end
end DL

/-! try with clauses, named or not; what a clause holds stands in the abstract heap like any frozen thing. -/
namespace DL
open PySem PySem.Spec PyProof.Rows L2
/-- what is true of the heap while the exception's object stands at a -/
abbrev stands (a : Addr) (oe : Obj) : HO := .frz oe (.ext fun h => h.get? a = some oe)
/-- an exception that the clauses look at -/
structure Hand (X : Cx) (pins : List (Addr × Obj)) (σ : L2.St) (H : Hp) (a : Addr) (cls : Value) (d : Option Addr) (B : Heap) (sI s : Shared) : Prop where
  inv : Inv X pins σ H sI
  gnd : ∀ b o, sI.heap.get? b = some o → b ∉ L2.frs X.stack → B.get? b = some o
  ups : sI.heap.UpToSlots s.heap
  fly : HandSPX.FlyingZ B (X.env :: X.outer) a (L2N.Zn cls d) s.heap
  non : H a = none
  os : s.os = sI.os
  bar : AllBare s.gens
section
variable {X : Cx} {pins : List (Addr × Obj)} {σ : L2.St} {H : Hp} {a : Addr} {cls : Value} {d : Option Addr} {B : Heap} {sI s : Shared}
theorem Hand.here (h : Hand X pins σ H a cls d B sI s) : Inv X pins σ H s := h.inv.landed h.gnd h.fly.1 h.ups h.os h.bar
theorem Hand.apart (h : Hand X pins σ H a cls d B sI s) (hf : X.env.frame = some X.env.locals) : a ≠ X.env.locals ∧ a ∉ X.fs := by
  obtain ⟨oe, vs, e, _, ed⟩ := h.fly.there
  have far : a ∉ L2.frs (X.env :: X.outer) := fun m => by
    obtain ⟨_, o, e', nf⟩ := h.fly.2.2.1.mem m
    have := e.symm.trans e'
    cases this
    exact nf _ ed
  have e0 : L2.frs (X.env :: X.outer) = X.env.locals :: L2.frs X.outer := by unfold L2.frs; rw [List.filterMap_cons, hf]
  rw [e0] at far
  exact ⟨fun z => far (by rw [z]; exact List.mem_cons_self), fun z => far (List.mem_cons_of_mem _ z)⟩
/-- it stands at none of the places that stood at the ground -/
theorem Hand.notGround (h : Hand X pins σ H a cls d B sI s) {b : Addr} {o : Obj} (e : sI.heap.get? b = some o) (n : b ∉ L2.frs X.stack) : b ≠ a := fun z => by
  have q := h.gnd b o e n
  rw [z, h.fly.2.1] at q
  cases q
theorem Hand.fresh (h : Hand X pins σ H a cls d B sI s) (hs : X.stack = X.env :: X.outer) (hf : X.env.frame = some X.env.locals) (hex : X.ex = []) {b : Addr} {o : Obj} (e : X.s_0.heap.get? b = some o) : b ≠ a := fun z => by
  subst z
  obtain ⟨o', e'⟩ := h.inv.base.there b o e (by rw [hex]; exact fun q => nomatch q)
  refine h.notGround e' (fun m => ?_) rfl
  obtain ⟨n1, n2⟩ := h.apart hf
  rcases List.mem_cons.mp (h.inv.stkSub b m) with q | q
  · exact n1 q
  · exact n2 q
/-- into the suite: the exception is tracked, frozen -/
theorem Hand.suite (h : Hand X pins σ H a cls d B sI s) (hs : X.stack = X.env :: X.outer) (hf : X.env.frame = some X.env.locals) (hex : X.ex = []) {oe : Obj} {vs : Array Value} (e : s.heap.get? a = some oe) (ed : oe.data = .fields vs) :
    Inv (X.suite a (X.pn ++ pins)) [] σ (upd H a (stands a oe)) s := by
  have J := h.here
  obtain ⟨n1, n2⟩ := h.apart hf
  have old : ∀ {b : Addr} {o : Obj}, X.s_0.heap.get? b = some o → b ≠ a := fun e => h.fresh hs hf hex e
  have tr : ∀ {b : Addr} {u : HO}, H b = some u → b ≠ a := fun {b u} q z => by
    rw [z, h.non] at q
    cases q
  refine ⟨J.ok.suite _ _, J.os, J.bare, ⟨J.base.keep, J.base.slot, fun b o q n hx => ?_, J.base.there, fun b xs q => ?_, fun b o u q => ?_, fun b ps q => ?_⟩, J.loc, J.cell, ?_, fun x c q => ?_, fun p hp => ?_, fun b u q => ?_, J.len⟩
  · rw [upd_ne (old q)]; exact J.base.free b o q n hx
  · have z := J.base.tups b xs q
    rw [upd_ne (tr z)]; exact z
  · have z := J.base.frzs b o u q
    rw [upd_ne (tr z)]; exact z
  · obtain ⟨m, z⟩ := J.base.tbls b ps q
    exact ⟨m, by rw [upd_ne (tr z)]; exact z⟩
  · show upd H a _ X.env.locals = none
    rw [upd_ne (Ne.symm n1)]; exact J.free
  · have nc : c ≠ a := fun z => by
      obtain ⟨v, o, e1, e2⟩ := J.cell x c q
      rw [z, e] at e1
      cases e1
      rw [ed] at e2
      cases e2
    rw [upd_ne nc]; exact J.freeC x c q
  · have hp' : p ∈ X.pn ++ pins := by rw [List.append_nil] at hp; exact hp
    obtain ⟨q1, q2, q3, q4, q5⟩ := J.pin p hp'
    have np : p.1 ≠ a := by
      obtain ⟨r1, _⟩ := h.inv.pin p hp'
      refine h.notGround r1 fun m => ?_
      rcases List.mem_cons.mp (J.stkSub _ m) with q | q
      · exact q3 q
      · exact q4 q
    exact ⟨q1, by rw [upd_ne np]; exact q2, q3, q4, q5⟩
  · by_cases hb : b = a
    · subst hb
      rw [upd_same] at q
      cases q
      exact ⟨e, e, ⟨_, e⟩, fun h1 h2 z k => k _ z⟩
    · rw [upd_ne hb] at q
      exact (J.hok b u q).stay (fun _ _ _ z => z) (fun c z => by rw [upd_ne (tr z)]; exact z) fun c xs z => by rw [upd_ne (tr z)]; exact z
theorem unhand {H6 : Hp} {σ6 : L2.St} {s6 : Shared} {pn' : List (Addr × Obj)} (I : Inv (X.suite a (X.pn ++ pins)) pn' σ6 H6 s6) (ok : X.Ok) : Inv X pins σ6 H6 s6 :=
  ⟨ok, I.os, I.bare, I.base, I.loc, I.cell, I.free, I.freeC, fun p hp => I.pin p (List.mem_append_left _ hp), I.hok, I.len⟩
/-- the flight is ended once more -/
theorem Hand.again {M : Model} {A : Around} {E : Value → Shared → Prop} {Q : Unit → Shared → Prop} (h : Hand X pins σ H a cls d B sI s) (q : ∀ s', Hand X pins σ H a cls d B sI s' → Q () s') : wpAny M A (setFlight (.ref a) none) Q E s :=
  HandSPX.lands_againZ h.fly fun h' f' u' => q _ ⟨h.inv, h.gnd, h.ups.trans u', f', h.non, h.os, h.bar⟩
end
/-- what the clauses are asked: the wished ends, the slots, the heap, the exception, its class, its dict -/
abbrev TC := Ends → L2.St → Hp → Addr → Value → Option Addr → Prop
def PHs (X : Cx) (hds : List ExceptHandler) (t : WX → TC) : Prop := ∀ (W : WX) (pins : List (Addr × Obj)) (σ : L2.St) (H : Hp) (a : Addr) (cls : Value) (d : Option Addr) (B : Heap) (sI s : Shared) (D : Ends), L2N.Takes X W → Hand X pins σ H a cls d B sI s → t W D σ H a cls d →
  wpAny (model X.prog X.w) X.A (handleBy (.ref a) X.env hds) (SP X pins D) X.xe s
/-- a suite: the exception's class and dict are known, it stands in the heap -/
def PSu (X : Cx) (suite : List Stmt) (ts : Addr → Value → Option Addr → TS) : Prop := ∀ (a : Addr) (cls : Value) (d : Option Addr) (pn : List (Addr × Obj)), PSs (X.suite a pn) suite (ts a cls d)
def intoSuite (ts : Addr → Value → Option Addr → TS) (D : Ends) (σ : L2.St) (H : Hp) (a : Addr) (cls : Value) (d : Option Addr) : Prop :=
  ∀ oe, L2N.Zn cls d oe → (∃ vs, oe.data = .fields vs) → ts a cls d D σ (upd H a (stands a oe))
def gone1 (i : Nat) (D : Ends) : Ends := { nx := fun σ' H' => D.nx (σ'.set i none) H', rt := D.rt, bk := fun σ' H' => D.bk (σ'.set i none) H', ct := fun σ' H' => D.ct (σ'.set i none) H' }
def tClause (K : PySem.W.Frag) (c : Value) (yes : TC) (no : WX → TC) : WX → TC := fun W D σ H a cls d =>
  ∃ b, PySem.W.exmOne K cls c = some b ∧ (b = true → yes D σ H a cls d) ∧ (b = false → no W D σ H a cls d)
section
variable {X : Cx} {x n : Str} {c : Value} {i : Nat} {suite : List Stmt} {b₀ : Stmt} {np pos pos' : Pos} {ts : Addr → Value → Option Addr → TS} {hds : List ExceptHandler} {t : WX → TC}
theorem ph_nil (hs : X.stack = X.env :: X.outer) (hf : X.env.frame = some X.env.locals) : PHs X [] (fun W _ σ H _ cls d => W cls d σ H) := by
  intro W pins σ H a cls d B sI s D tk h q
  refine wpAny_handleBy_nil ?_
  obtain ⟨_, _, _, oe, vs, T, oT, ts', he, hz, hd, h1, _⟩ := id h.fly
  have on : wpAny (model X.prog X.w) X.A (setFlight (.ref a) X.env.frame) (fun _ s4 => wpAny (model X.prog X.w) X.A (throw (.ref a) : Sem Flow) (SP X pins D) X.xe s4) X.xe s := by
    rw [hf]
    exact HandSPX.setFlight_upZ h.fly fun h4 f4 u4 => wpAny_throw (tk _ _ ⟨a, B, sI, pins, σ, H, cls, d, rfl, h.inv, h.gnd, h.ups.trans u4, .inr (.inr (by rw [hs]; exact f4)), h.non, h.os, h.bar, q⟩)
  unfold PySem.passOn
  refine wpAny_bind (wpAny_field he hd h1 ?_)
  rw [if_neg (by simp)]
  first
    | exact wpAny_bind on
    | exact wpAny_bind (wpAny_pure (wpAny_bind on))
/-- the clause's class is looked at -/
theorem Hand.test {pins : List (Addr × Obj)} {σ : L2.St} {H : Hp} {a : Addr} {cls : Value} {d : Option Addr} {B : Heap} {sI s : Shared} (h : Hand X pins σ H a cls d B sI s) (hs : X.stack = X.env :: X.outer) (hf : X.env.frame = some X.env.locals) (hex : X.ex = []) (hc : Names X x c) {b : Bool} (hb : PySem.W.exmOne X.K cls c = some b)
    {R : Result → Shared → Prop} (q : R (.ok (if b then .brk else .next)) s) : codeAny (model X.prog X.w) (X.A.mark (some (.ref a))) (.handlers (.ref a) [.ExceptHandler (some (.Name x np)) none [] pos'] X.env) R s := by
  obtain ⟨oe, vs, e, z, ed⟩ := h.fly.there
  have S := h.suite hs hf hex e ed
  have LT : PySem.W.Looks (model X.prog X.w) s.heap (typeOf (.ref a)) cls := fun A Q E s' k q => wpAny_typeOf_ref (k _ _ e) (by rw [z.1]; exact q)
  have LM := PySem.W.exm_one (M := model X.prog X.w) h.here.kIn LT hb
  refine codeAny_handlers_test ?_
  obtain ⟨hg, hdbg, hm | ⟨hm, hv, hnn⟩⟩ := hc
  · exact ld_glob (X := X.suite a (X.pn ++ pins)) S hg hm (LM.here q) hdbg
  · exact ld_blt (X := X.suite a (X.pn ++ pins)) S hg hm hv (LM.here q) hnn hdbg
/-- except C as n: -/
theorem ph_as (hs : X.stack = X.env :: X.outer) (hf : X.env.frame = some X.env.locals) (hex : X.ex = []) (hN : X.N.Nodup) (hi : X.N[i]? = some n) (hln : X.env.kindOf n = some .local) (hc : Names X x c) (hsu : PSu X (b₀ :: suite) ts) (hr : PHs X hds t) :
    PHs X (.ExceptHandler (some (.Name x np)) (some n) (b₀ :: suite) pos' :: hds) (tClause X.K c (fun D σ H a cls d => intoSuite ts (gone1 i D) (σ.set i (some (.ref a))) H a cls d) t) := by
  intro W pins σ H a cls d B sI s D tk h ⟨b, hb, yes, no⟩
  refine wpAny_handleBy_cons (h.test hs hf hex hc hb ?_) (fun q => by cases q)
  cases b with
  | false => exact hr W pins σ H a cls d B sI s D tk h (no rfl)
  | true =>
    refine codeAny_handlers_suite_as (h.again fun s1 h1 => ?_)
    obtain ⟨oe, vs, e, z, ed⟩ := h1.fly.there
    refine store_ok (X := X.suite a (X.pn ++ pins)) (v := .ref a) (h1.suite hs hf hex e ed) hN hi (.inl hln) rfl (fun s2 S2 => ?_) (.inr hln)
    refine wpAny_mono ((hsu a cls d (X.pn ++ pins)).run [] s2 _ _ _ S2 (yes rfl oe z ⟨_, ed⟩)) (fun f s3 hsp => ?_) (fun _ _ q => False.elim q)
    have fin : ∀ {σ6 : L2.St} {H6 : Hp} {Q : Shared → Prop}, Inv (X.suite a (X.pn ++ pins)) [] σ6 H6 s3 → (∀ s7, Inv X pins (σ6.set i none) H6 s7 → Q s7) →
        wpAny (model X.prog X.w) X.A (do bindName X.env n .none; unbindBehindTheSuite X.env n pos') (fun _ s7 => Q s7) X.xe s3 := fun S6 hq => gone_ok (unhand S6 h.inv.ok) hN hi hln hq
    cases f with
    | ret u =>
      obtain ⟨v6, σ6, H6, S6, r6, q6⟩ := hsp
      exact fin S6 fun s7 J7 => ⟨v6, _, H6, J7, r6, q6⟩
    | next =>
      obtain ⟨σ6, H6, S6, q6⟩ := hsp
      exact fin S6 fun s7 J7 => ⟨_, H6, J7, q6⟩
    | brk =>
      obtain ⟨σ6, H6, S6, q6⟩ := hsp
      exact fin S6 fun s7 J7 => ⟨_, H6, J7, q6⟩
    | cont =>
      obtain ⟨σ6, H6, S6, q6⟩ := hsp
      exact fin S6 fun s7 J7 => ⟨_, H6, J7, q6⟩
/-- except C: -/
theorem ph_only (hs : X.stack = X.env :: X.outer) (hf : X.env.frame = some X.env.locals) (hex : X.ex = []) (hc : Names X x c) (hsu : PSu X (b₀ :: suite) ts) (hr : PHs X hds t) :
    PHs X (.ExceptHandler (some (.Name x np)) none (b₀ :: suite) pos' :: hds) (tClause X.K c (intoSuite ts) t) := by
  intro W pins σ H a cls d B sI s D tk h ⟨b, hb, yes, no⟩
  refine wpAny_handleBy_cons (h.test hs hf hex hc hb ?_) (fun q => by cases q)
  cases b with
  | false => exact hr W pins σ H a cls d B sI s D tk h (no rfl)
  | true =>
    refine codeAny_handlers_suite (h.again fun s1 h1 => ?_)
    obtain ⟨oe, vs, e, z, ed⟩ := h1.fly.there
    refine wpAny_mono ((hsu a cls d (X.pn ++ pins)).run [] s1 _ _ _ (h1.suite hs hf hex e ed) (yes rfl oe z ⟨_, ed⟩)) (fun f s3 hsp => ?_) (fun _ _ q => False.elim q)
    cases f with
    | ret u =>
      obtain ⟨v6, σ6, H6, S6, r6, q6⟩ := hsp
      exact ⟨v6, σ6, H6, unhand S6 h.inv.ok, r6, q6⟩
    | next =>
      obtain ⟨σ6, H6, S6, q6⟩ := hsp
      exact ⟨σ6, H6, unhand S6 h.inv.ok, q6⟩
    | brk =>
      obtain ⟨σ6, H6, S6, q6⟩ := hsp
      exact ⟨σ6, H6, unhand S6 h.inv.ok, q6⟩
    | cont =>
      obtain ⟨σ6, H6, S6, q6⟩ := hsp
      exact ⟨σ6, H6, unhand S6 h.inv.ok, q6⟩
/-- the whole statement -/
theorem ps_tryH {h₀ : ExceptHandler} {body : List Stmt} {tb : WX → TS} {W0 : WX} (hs : X.stack = X.env :: X.outer) (hf : X.env.frame = some X.env.locals) (tk : L2N.Takes X W0)
    (hb : ∀ (W : WX) (pn : List (Addr × Obj)) (xe : Value → Shared → Prop), L2N.Takes (X.tr pn xe) W → PassesOwn (model X.prog X.w) X.A X.env xe → PSs (X.tr pn xe) body (tb W)) (hh : PHs X (h₀ :: hds) t) :
    PS X (.Try body (h₀ :: hds) [] [] pos) (fun D σ H => tb (fun cls d σ H => ∀ a, H a = none → t W0 D σ H a cls d) D σ H) := by
  refine ⟨fun pins s σ H D I h => ?_⟩
  have fr : X.A.frames = some (X.env :: X.outer) := I.ok.frames.trans (by rw [hs])
  let xe' : Value → Shared → Prop := fun e s₁ => wpAny (model X.prog X.w) X.A (noteFrame e X.env) (fun _ s₂ => wpAny (model X.prog X.w) X.A (setFlight e none) (fun _ s₃ => wpAny (model X.prog X.w) X.A (handleBy e X.env (h₀ :: hds)) (SP X pins D) X.xe s₃) X.xe s₂) X.xe s₁
  have take : L2N.Takes (X.tr (X.pn ++ pins) xe') (fun cls d σ H => ∀ a, H a = none → t W0 D σ H a cls d) := fun u s1 xx => by
    obtain ⟨a, B, sI, pins', σ1, H1, cls, d, rfl, J, g1, u1, sky, na, os, ag, w⟩ := xx
    have J1 : Inv X pins σ1 H1 sI := J.ofTry I.ok
    have sky1 : Sky B (X.env :: X.outer) a (L2N.Zn cls d) X.env.locals s1.heap := by rw [← hs]; exact sky
    exact L2N.Sky.land L2N.Zn.steady fr hf sky1 fun h3 f3 u3 => hh W0 pins σ1 H1 a cls d B sI _ D tk ⟨J1, g1, u1.trans u3, f3, na, os, ag⟩ (w a na)
  refine wpAny_Try_except (wpAny_mono ((hb _ (X.pn ++ pins) xe' take PassesOwn.looking).run [] s σ H D (I.toTry xe') h) (fun f s1 hsp => ?_) fun e s1 he => he)
  cases f with
  | next =>
    obtain ⟨σ1, H1, J1, q⟩ := hsp
    exact wpAny_execs_nil ⟨σ1, H1, J1.ofTry I.ok, q⟩
  | ret u =>
    obtain ⟨v, σ1, H1, J1, r, q⟩ := hsp
    exact ⟨v, σ1, H1, J1.ofTry I.ok, r, q⟩
  | brk =>
    obtain ⟨σ1, H1, J1, q⟩ := hsp
    exact ⟨σ1, H1, J1.ofTry I.ok, q⟩
  | cont =>
    obtain ⟨σ1, H1, J1, q⟩ := hsp
    exact ⟨σ1, H1, J1.ofTry I.ok, q⟩
end
end DL

/-! Clauses over slots; what raises within larger expressions; isinstance and fields of what a clause holds. -/
namespace DL
open PySem PySem.Spec PyProof.Rows L2
/-! ### clauses -/
abbrev FC := DEnds → Addr → List (Str × D) → Ls → Prop
def lowC (K : PySem.W.Frag) (pn : List (Nat × V)) (f : FC) : WX → TC := fun W D σ H a cls d =>
  ∃ C F A L fs Dn, cls = .ref C ∧ H a = none ∧ Lo K H F pn σ L A ∧ XFs K H F d fs ∧ f Dn C fs L ∧ PostS K pn H F A Dn D ∧ PostSX K pn W H F A Dn
def cNil : FC := fun E C fs L => E.rt (.xc C fs) L
def cIf (mt : Addr → Bool → Prop) (yes no : FC) : FC := fun E C fs L => (mt C true ∧ yes E C fs L) ∨ (mt C false ∧ no E C fs L)
def cAs (i : Nat) (h : FS) : FC := fun E C fs L => h { nx := fun L2 => E.nx (L2.set i none), bk := fun L2 => E.bk (L2.set i none), ct := fun L2 => E.ct (L2.set i none), rt := E.rt } (L.set i (some (.er C fs)))
def cOnly (h : FS) : FC := fun E _ _ L => h E L
/-- the class of the clause, as the written part tells -/
abbrev Takes1 (K : PySem.W.Frag) (c : Value) : Addr → Bool → Prop := fun C b => PySem.W.exmOne K (.ref C) c = some b
section
variable {X : Cx} {pn : List (Nat × V)} {W : WX} {x n : Str} {c : Value} {i : Nat} {suite body : List Stmt} {b₀ : Stmt} {np pos pos' : Pos} {h g b : FS} {f : FC} {hds : List ExceptHandler} {h₀ : ExceptHandler} {st : Stmt}
theorem ph_weak {t t' : WX → TC} (p : PHs X hds t) (w : ∀ W D σ H a cls d, t' W D σ H a cls d → t W D σ H a cls d) : PHs X hds t' := fun W pins σ H a cls d B sI s D tk h q => p W pins σ H a cls d B sI s D tk h (w _ _ _ _ _ _ _ q)
theorem c_nil (hs : X.stack = X.env :: X.outer) (hf : X.env.frame = some X.env.locals) : PHs X [] (lowC X.K pn cNil) := ph_weak (ph_nil hs hf) fun W D σ H a cls d q => by
  obtain ⟨C, F, A, L, fs, Dn, rfl, na, lo, xf, g, p, px⟩ := q
  exact px C fs σ L d F A H g .refl lo xf
/-- the exception tracked -/
theorem hold {K : PySem.W.Frag} {H : Hp} {F A : Fp} {σ : L2.St} {L : Ls} {a C : Addr} {oe : Obj} {d : Option Addr} {fs : List (Str × D)} (lo : Lo K H F pn σ L A) (na : H a = none) (xf : XFs K H F d fs) (z : L2N.Zn (.ref C) d oe) (ed : ∃ vs, oe.data = .fields vs) :
    Lo K (upd H a (stands a oe)) (or2 F fun y => y = a) pn σ L A ∧ Ext A H F A (upd H a (stands a oe)) (or2 F fun y => y = a) ∧ Fr K (upd H a (stands a oe)) (or2 F fun y => y = a) (.ref a) (.er C fs) := by
  have gr := grow_new (H := H) (F := F) (p := a) (o := stands a oe) na
  exact ⟨gr.lo lo, gr.ext, (xf.keep gr.sub fun y o _ => gr.keep y o).er (.inr rfl) upd_same z ed⟩
theorem PostS.gone {K : PySem.W.Frag} {H H1 : Hp} {F A F1 A1 : Fp} {D : DEnds} {E : Ends} {W : WX} (p : PostS K pn H F A D E) (x : Ext A H F A1 H1 F1) (hp : (pn.any fun p => p.1 == i) = false) :
    PostS K pn H1 F1 A1 { nx := fun L2 => D.nx (L2.set i none), bk := fun L2 => D.bk (L2.set i none), ct := fun L2 => D.ct (L2.set i none), rt := D.rt } (gone1 i E) := by
  have go : ∀ {Dn : Ls → Prop} {En : L2.St → Hp → Prop}, (∀ σ' L' F' A' H', Dn L' → Ext A H F A' H' F' → Lo K H' F' pn σ' L' A' → En σ' H') → ∀ σ' L' F' A' H', Dn (L'.set i none) → Ext A1 H1 F1 A' H' F' → Lo K H' F' pn σ' L' A' → En (σ'.set i none) H' := fun {Dn En} pp σ' L' F' A' H' r x3 l3 => by
    obtain ⟨C, l, s⟩ := l3.loc.drop (i := i)
    have e : (L'.set i none)[i]? = some none ∨ (L'.set i none).length ≤ i := by
      by_cases hi : i < L'.length
      · exact .inl (List.getElem?_set_self hi)
      · exact .inr (by rw [List.length_set]; omega)
    refine pp _ _ F' C H' r ((x.trans x3).less s) ⟨l.any e, ⟨l3.ok.f, fun a z => l3.ok.a a (s a z)⟩, fun p h => ?_⟩
    have : p.1 ≠ i := fun e => by
      have := List.any_eq_false.mp hp p h
      simp [e] at this
    rw [List.getElem?_set_ne (Ne.symm this)]
    exact l3.pin p h
  exact ⟨go p.nx, go p.bk, go p.ct, fun d σ' L' v F' A' B H' r x3 l o s n => p.rt d σ' L' v F' A' B H' r (x.trans x3) l o s n⟩
theorem c_as {K : PySem.W.Frag} (hK : X.K = K) (hs : X.stack = X.env :: X.outer) (hf : X.env.frame = some X.env.locals) (hex : X.ex = []) (hN : X.N.Nodup) (hi : X.N[i]? = some n) (hln : X.env.kindOf n = some .local) (hc : Names X x c) (hp : (pn.any fun p => p.1 == i) = false) (hsu : ∀ (a : Addr) (pn' : List (Addr × Obj)), DSs (X.suite a pn') pn (b₀ :: suite) h) (hr : PHs X hds (lowC X.K pn f)) :
    PHs X (.ExceptHandler (some (.Name x np)) (some n) (b₀ :: suite) pos' :: hds) (lowC X.K pn (cIf (Takes1 K c) (cAs i h) f)) := ph_weak (ph_as (ts := fun _ _ _ => lowS X.K pn h) hs hf hex hN hi hln hc (fun a _ _ pn' => hsu a pn') hr) fun W D σ H a cls d q => by
  obtain ⟨C, F, A, L, fs, Dn, rfl, na, lo, xf, g, p, px⟩ := q
  subst hK
  rcases g with ⟨m, g⟩ | ⟨m, g⟩
  · refine ⟨true, m, fun _ oe z ed => ?_, fun z => (nomatch z)⟩
    obtain ⟨l1, x1, fr⟩ := hold lo na xf z ed
    obtain ⟨A2, l2, s2⟩ := l1.set (i := i) (.fr fr) (sane_no l1.ok.f) (fun _ z => z.elim) hp
    exact ⟨_, A2, _, _, l2, g, p.gone (W := W) (x1.less fun y z => (s2 y z).elim (fun z => z.elim) id) hp⟩
  · exact ⟨false, m, fun z => (nomatch z), fun _ => ⟨C, F, A, L, fs, Dn, rfl, na, lo, xf, g, p, px⟩⟩
theorem c_only {K : PySem.W.Frag} (hK : X.K = K) (hs : X.stack = X.env :: X.outer) (hf : X.env.frame = some X.env.locals) (hex : X.ex = []) (hc : Names X x c) (hsu : ∀ (a : Addr) (pn' : List (Addr × Obj)), DSs (X.suite a pn') pn (b₀ :: suite) h) (hr : PHs X hds (lowC X.K pn f)) :
    PHs X (.ExceptHandler (some (.Name x np)) none (b₀ :: suite) pos' :: hds) (lowC X.K pn (cIf (Takes1 K c) (cOnly h) f)) := ph_weak (ph_only (ts := fun _ _ _ => lowS X.K pn h) hs hf hex hc (fun a _ _ pn' => hsu a pn') hr) fun W D σ H a cls d q => by
  obtain ⟨C, F, A, L, fs, Dn, rfl, na, lo, xf, g, p, px⟩ := q
  subst hK
  rcases g with ⟨m, g⟩ | ⟨m, g⟩
  · refine ⟨true, m, fun _ oe z ed => ?_, fun z => (nomatch z)⟩
    obtain ⟨l1, x1, fr⟩ := hold lo na xf z ed
    exact ⟨_, A, _, _, l1, g, p.on x1⟩
  · exact ⟨false, m, fun z => (nomatch z), fun _ => ⟨C, F, A, L, fs, Dn, rfl, na, lo, xf, g, p, px⟩⟩
/-- what a suite that hands nothing on does with its exception: nothing is asked of the class -/
def onXc (f : FC) (E : DEnds) (k : D → Ls → Prop) : D → Ls → Prop := fun d L => match d with
  | .xc C fs => f E C fs L
  | d => k d L
def xTryH (b : FS) (f : FC) : FS := fun E L => b { nx := E.nx, bk := E.bk, ct := E.ct, rt := onXc f E E.rt } L
theorem x_tryH (hs : X.stack = X.env :: X.outer) (hf : X.env.frame = some X.env.locals) (tk : L2N.Takes X W)
    (hb : ∀ (W' : WX) (pn' : List (Addr × Obj)) (xe : Value → Shared → Prop), L2N.Takes (X.tr pn' xe) W' → PassesOwn (model X.prog X.w) X.A X.env xe → DSsX (X.tr pn' xe) pn W' body b)
    (hh : PHs X (h₀ :: hds) (lowC X.K pn f)) : DSX X pn W (.Try body (h₀ :: hds) [] [] pos) (xTryH b f) :=
  ps_weak (ps_tryH (tb := fun W' => lowSX X.K pn W' b) hs hf tk hb hh) fun E σ H q => by
    obtain ⟨F, A, L, D, lo, g, p, px⟩ := q
    refine ⟨F, A, L, _, lo, g, ⟨p.nx, p.bk, p.ct, fun d σ' L' v F' A' B H' r x l o s n => ?_⟩, fun c fs σ' L' d F' A' H' r x l z => ?_⟩
    · cases d with
      | xc c fs => cases o with
        | fr z => cases z
      | _ => exact p.rt _ σ' L' v F' A' B H' r x l o s n
    · exact fun a na => ⟨c, F', A', L', fs, D, rfl, na, l, z, r, p.on x, px.on x⟩
/-- nothing is let out -/
def dNoX (g : FS) : FS := fun E L => g { nx := E.nx, bk := E.bk, ct := E.ct, rt := fun d L1 => match d with
  | .xc _ _ => False
  | d => E.rt d L1 } L
theorem takes_no {X : Cx} : L2N.Takes X (fun _ _ _ _ => False) := fun _ _ x => by
  obtain ⟨_, _, _, _, _, _, _, _, _, _, _, _, _, _, _, _, z⟩ := x
  exact z.elim
theorem d_noX (hg : DSX X pn (fun _ _ _ _ => False) st g) : DS X pn st (dNoX g) := ps_weak hg fun E σ H q => by
  obtain ⟨F, A, L, D, lo, h, p⟩ := q
  refine ⟨F, A, L, _, lo, h, ⟨p.nx, p.bk, p.ct, fun d σ' L' v F' A' B H' r x l o s n => ?_⟩, fun c fs σ' L' d F' A' H' r x l z => r.elim⟩
  cases d with
  | xc c fs => cases o with
    | fr z => cases z
  | _ => exact p.rt _ σ' L' v F' A' B H' r x l o s n
end
/-! ### what raises within a larger expression -/
def vx (k : D → Ls → Prop) (kx : Addr → List (Str × D) → Ls → Prop) : D → Ls → Prop := fun d L => match d with
  | .xc c fs => kx c fs L
  | d => k d L
theorem vx_fr {K : PySem.W.Frag} {H : Hp} {F A : Fp} {k : D → Ls → Prop} {kx : Addr → List (Str × D) → Ls → Prop} {d : D} {L : Ls} {v : V} (h : vx k kx d L) (o : Ow K H F v d A) : k d L := by
  cases d with
  | xc c fs => cases o with
    | fr z => cases z
  | _ => exact h
def lx (k : List D → Ls → Prop) (kx : Addr → List (Str × D) → Ls → Prop) : List D → Ls → Prop := fun ds L => match ds with
  | [.xc c fs] => kx c fs L
  | ds => k ds L
theorem lx_fr {K : PySem.W.Frag} {H : Hp} {F : Fp} {k : List D → Ls → Prop} {kx : Addr → List (Str × D) → Ls → Prop} {ds : List D} {L : Ls} {vs : List V} (h : lx k kx ds L) (o : FrL K H F vs ds) : k ds L := by
  unfold lx at h
  split at h
  · cases o with
    | cons z _ => cases z
  · exact h
def xBin1 (g : D → D → (D → Prop) → Prop) (fa fb : FE) : FE := fun L Q => fa L (vx (fun x L1 => fb L1 fun y L2 => g x y fun z => Q z L2) fun c fs L1 => Q (.xc c fs) L1)
def xConsA (f : FE) (g : FA) : FA := fun L Q => f L (vx (fun x L1 => g L1 (lx (fun xs L2 => Q (x :: xs) L2) fun c fs L2 => Q [.xc c fs] L2)) fun c fs L1 => Q [.xc c fs] L1)
def xAp (g : List D → (D → Prop) → Prop) (fa : FA) : FE := fun L Q => fa L (lx (fun xs L1 => g xs fun z => Q z L1) fun c fs L1 => Q (.xc c fs) L1)
section
variable (K : PySem.W.Frag) (pn : List (Nat × V)) (W : WX)
def lowAX (f : FA) : TA := fun σ H Q => ∃ F A L R, Lo K H F pn σ L A ∧ f L R ∧ PostA K pn σ H F A R Q ∧ PostX K pn W σ H F A fun d => R [d]
def lowRX (f : FR) : TA := fun σ H Q => ∃ F A L R, Lo K H F pn σ L A ∧ f L R ∧ (∀ as L' vs F' A' H', R as L' → Ext A H F A' H' F' → Lo K H' F' pn σ L' A' → AVs K H' F' σ vs as → Q vs H') ∧ PostX K pn W σ H F A fun d => R [.v d]
end
abbrev DAX (X : Cx) (pn : List (Nat × V)) (W : WX) (es : List Expr) (f : FA) : Prop := PA X es (lowAX X.K pn W f)
abbrev DRX (X : Cx) (pn : List (Nat × V)) (W : WX) (es : List Expr) (f : FR) : Prop := PA X es (lowRX X.K pn W f)
def rx (k : List AV → Ls → Prop) (kx : Addr → List (Str × D) → Ls → Prop) : List AV → Ls → Prop := fun as L => match as with
  | [.v (.xc c fs)] => kx c fs L
  | as => k as L
theorem rx_fr {K : PySem.W.Frag} {H : Hp} {F : Fp} {σ : L2.St} {k : List AV → Ls → Prop} {kx : Addr → List (Str × D) → Ls → Prop} {as : List AV} {L : Ls} {vs : List V} (h : rx k kx as L) (o : AVs K H F σ vs as) : k as L := by
  unfold rx at h
  split at h
  · cases o with
    | v z _ => cases z
  · exact h
def xArgE (f : FE) (g : FR) : FR := fun L Q => f L (vx (fun d L1 => g L1 (rx (fun as L2 => Q (.v d :: as) L2) fun c fs L2 => Q [.v (.xc c fs)] L2)) fun c fs L1 => Q [.v (.xc c fs)] L1)
def xCall (sp : SpD) (args : FR) : FE := fun L Q => args L (rx (fun as L1 => takeA as L1 fun ds L2 => sp ds fun d ds' => Q d (putA as ds' L2)) fun c fs L1 => Q (.xc c fs) L1)
section
variable {X : Cx} {pn : List (Nat × V)} {W : WX} {a b e : Expr} {es : List Expr} {fa fb f : FE} {ga : FA} {g : FR} {pos : Pos}
theorem PostX.on {K : PySem.W.Frag} {σ : L2.St} {H H1 : Hp} {F A F1 A1 : Fp} {R : D → Ls → Prop} (p : PostX K pn W σ H F A R) (x : Ext A H F A1 H1 F1) : PostX K pn W σ H1 F1 A1 R := fun c fs L' d F' A' H' r y l z => p c fs L' d F' A' H' r (x.trans y) l z
theorem x_ix (ha : DEX X pn W a fa) (hb : DE X pn b fb) (hs : PlainIx b := by exact fun _ _ => rfl) : DEX X pn W (.Subscript a b pos) (xBin1 gIx fa fb) :=
  pe_weak (pe_ix ix_seq ha hb hs) fun σ H Q q => by
  obtain ⟨F, A, L, R, lo, h, p, px⟩ := q
  refine ⟨F, A, L, _, lo, h, fun x L1 v F1 A1 H1 h1 e1 lo1 f1 => ⟨F1, A1, L1, _, lo1, vx_fr h1 (.fr f1), fun y L2 u F2 A2 H2 h2 e2 lo2 f2 => ?_⟩, fun c fs L' d F' A' H' r x l z => px c fs L' d F' A' H' r x l z⟩
  exact up_ix H2 F2 v u x y _ Q (f1.ext lo1.ok e2) f2 h2 fun d z F' H' k gr f => p d L2 z F' A2 H' k ((e1.trans e2).trans gr.ext) (gr.lo lo2) f
theorem xa_of (h : DA X pn es ga) : DAX X pn W es ga := pa_weak h fun σ H Q q => by
  obtain ⟨F, A, L, R, lo, h, p, _⟩ := q
  exact ⟨F, A, L, R, lo, h, p⟩
theorem xa_cons (ha : DEX X pn W e f) (hr : DAX X pn W es ga) (hs : starEach (e :: es) X.env = (false, eval e X.env) :: starEach es X.env := by rfl) : DAX X pn W (e :: es) (xConsA f ga) :=
  pa_weak (pa_cons ha hr hs) fun σ H Q q => by
    obtain ⟨F, A, L, R, lo, h, p, px⟩ := q
    refine ⟨F, A, L, _, lo, h, fun x L1 v F1 A1 H1 h1 e1 lo1 f1 => ⟨F1, A1, L1, _, lo1, vx_fr h1 (.fr f1), fun ys L2 us F2 A2 H2 h2 e2 lo2 f2 => ?_, fun c fs L' d F' A' H' r x l z => ?_⟩, fun c fs L' d F' A' H' r x l z => px c fs L' d F' A' H' r x l z⟩
    · exact p (x :: ys) L2 (v :: us) F2 A2 H2 (lx_fr (k := fun xs L2 => R (x :: xs) L2) h2 f2) (e1.trans e2) lo2 (.cons (f1.ext lo1.ok e2) f2)
    · exact px c fs L' d F' A' H' r (e1.trans x) l z
theorem low_apX {K : PySem.W.Frag} {r : List V → Hp → VK → Prop} {g : List D → (D → Prop) → Prop} (up : UpA K r g) {σ : L2.St} {H : Hp} {Q : VK} (q : lowX K pn W (xAp g ga) σ H Q) : lowAX K pn W ga σ H fun vs H1 => r vs H1 Q := by
  obtain ⟨F, A, L, R, lo, h, p, px⟩ := q
  exact ⟨F, A, L, _, lo, h, fun xs L1 vs F1 A1 H1 h1 e1 lo1 f1 => up H1 F1 vs xs _ Q f1 (lx_fr h1 f1) fun d z F' H' k gr f => p d L1 z F' A1 H' k (e1.trans gr.ext) (gr.lo lo1) f, fun c fs L' d F' A' H' r x l z => px c fs L' d F' A' H' r x l z⟩
theorem x_callTy {x : Str} {T : String} {r : List V → Hp → VK → Prop} {g : List D → (D → Prop) → Prop} {p : Pos} (hc : CallR X (.type T) r) (up : UpA X.K r g) (hg : Gl X x) (hm : X.mg x = none) (hv : bootBuiltins x = some (.type T)) (ha : DAX X pn W (e :: es) ga) (hn : x ≠ "__name__" := by decide) (hdb : (x == ("__debug__" : Str)) = false := by decide)
    (he : starEach (e :: es) X.env = (false, eval e X.env) :: starEach es X.env := by rfl) (hpl : (backTo pos (starEach es X.env)).any (·.1) = false := by rfl) : DEX X pn W (.Call (.Name x p) (e :: es) [] pos) (xAp g ga) :=
  pe_weak (pe_callTy hc hg hm hv ha hn hdb he hpl) fun σ H Q q => low_apX up q
theorem x_tup {x1} (h : DAX X pn W es ga) : DEX X pn W (.Tuple es x1 pos) (xAp gTupD ga) := pe_weak (pe_tup h) fun σ H Q q =>
  low_apX (r := fun vs H Q => vs.length ≤ sizeLine ∧ ∀ p, H p = none → Q (.ref p) (upd H p (.tup vs))) (fun H F vs ds k Q f g ok => ⟨by rw [f.length]; exact g.1, fun p n => ok.tup g.2 n f⟩) q
theorem xr_of (h : DR X pn es g) : DRX X pn W es g := pa_weak h fun σ H Q q => by
  obtain ⟨F, A, L, R, lo, h, p, _⟩ := q
  exact ⟨F, A, L, R, lo, h, p⟩
theorem xr_e (ha : DEX X pn W e f) (hr : DRX X pn W es g) (hs : starEach (e :: es) X.env = (false, eval e X.env) :: starEach es X.env := by rfl) : DRX X pn W (e :: es) (xArgE f g) := pa_weak (pa_cons ha hr hs) fun σ H Q q => by
  obtain ⟨F, A, L, R, lo, h, p, px⟩ := q
  refine ⟨F, A, L, _, lo, h, fun x L1 v F1 A1 H1 h1 e1 lo1 f1 => ⟨F1, A1, L1, _, lo1, vx_fr h1 (.fr f1), fun ys L2 us F2 A2 H2 h2 e2 lo2 f2 => ?_, fun c fs L' d F' A' H' r x l z => ?_⟩, fun c fs L' d F' A' H' r x l z => px c fs L' d F' A' H' r x l z⟩
  · exact p _ L2 (v :: us) F2 A2 H2 (rx_fr (k := fun as L2 => R (.v x :: as) L2) h2 f2) (e1.trans e2) lo2 (.v (f1.ext lo1.ok e2) f2)
  · exact px c fs L' d F' A' H' r (e1.trans x) l z
/-- the call of a def that may raise, its arguments too -/
theorem x_callX {sp : SpD} {f : Addr} {fd : FuncData} {ps : List Str} {x : Str} {k : Nat} {p : Pos} (F : FnOk X.prog X.w X.K X.mg X.base (L2N.CX X.prog X.w) k f fd ps (lowFX X.K sp)) (tk : L2N.Takes X W) (hr : Room k X.A) (hg : Gl X x) (hm : X.mg x = some (.ref f)) (hk : PySem.W.keepIn X.K (.ref f) = true) (hb : Binds X.K fd ps [])
    (ha : DRX X pn W (e :: es) g) (hdb : (x == ("__debug__" : Str)) = false := by decide) (he : starEach (e :: es) X.env = (false, eval e X.env) :: starEach es X.env := by rfl) (hpl : (backTo pos (starEach es X.env)).any (·.1) = false := by rfl) :
    DNX X pn W (.Call (.Name x p) (e :: es) [] pos) (xCall sp g) := pe_weak (pe_callS (E := WE W) F hr hg hm hk hb (fun σ => L2N.passAt tk σ) ha hdb he hpl) fun σ H Q q => by
  obtain ⟨F, A, L, R, lo, h, p, px⟩ := q
  refine ⟨F, A, L, _, lo, h, fun as L1 vs F1 A1 H1 h1 e1 lo1 av => ?_, fun c fs L' d F' A' H' r x l z => px c fs L' d F' A' H' r x l z⟩
  exact callX_core p px (rx_fr h1 av) e1 lo1 av
/-! ### raise of an own class with one field -/
def xRaise1 (C : Addr) (n : Str) (fe : FE) : FS := fun E L => fe L (vx (fun v L1 => E.rt (.xc C [(n, v)]) L1) fun c fs L1 => E.rt (.xc c fs) L1)
def tMk1 (C : Addr) (n : Str) (te : TE) : L2.St → Hp → XK → Prop := fun σ H Q => te σ H fun y H1 => ∀ d, H1 d = none → Q (.ref C) (some d) (upd H1 d (.xd [(n, y)]))
theorem x_raise1 {C : Addr} {n : Str} {c : Expr} (hc : X.calm = true) (tk : L2N.Takes X W) (he : L2N.PMk X c (tMk1 C n (lowX X.K pn W f))) : DSX X pn W (.Raise (some c) none pos) (xRaise1 C n f) := ps_weak (L2N.ps_raise hc tk he) fun E σ H q => by
  obtain ⟨F, A, L, D, lo, hg, p, px⟩ := q
  refine ⟨F, A, L, _, lo, hg, fun x L1 v F1 A1 H1 h1 e1 lo1 f1 d nd => ?_, fun c fs L' d F' A' H' r x l z => px c fs σ L' d F' A' H' r x l z⟩
  have gr := grow_new (H := H1) (F := F1) (p := d) (o := .xd [(n, v)]) nd
  exact px C [(n, x)] σ L1 (some d) _ A1 _ (vx_fr (k := fun v L1 => D.rt (.xc C [(n, v)]) L1) h1 (.fr f1)) (e1.trans gr.ext) (gr.lo lo1) (.d (kvs := [(n, v)]) (.inr rfl) upd_same rfl (.cons (f1.grow gr) .nil))
end
end DL

/-! What a clause holds: isinstance, its fields. -/
namespace DL
open PySem PySem.Spec PyProof.Rows L2
/-- what the written part says of a class of errors -/
structure ErC (K : PySem.W.Frag) (C : Addr) : Prop where
  cl : (PySem.W.clsIn K C).isSome = true
  ga : PySem.W.findIn K (.ref C) "__getattribute__" = some (some (.builtin "BaseException.__getattribute__"))
  gg : PySem.W.findIn K (.ref C) "__getattr__" = some none
  sb : PySem.W.subIn K (.ref C) (.type "BaseException") = some true
  ca : PySem.W.findIn K (.ref C) "__class__" = some (some (.builtin "object.__class__"))
  cn : PySem.W.specialIn K (.builtin "object.__class__") "__get__" = some (some (.builtin "getset_descriptor.__get__"))
  ct : PySem.W.takesIn K (.builtin "object.__class__") = some true
  mo : PySem.W.mroIn K C (.type "object") = some true
  ty : PySem.W.typeIn K (.ref C) = some (.type "type")
  kp : PySem.W.keepIn K (.ref C) = true
  hd : PySem.W.hasDictIn K C = true
def erB (K : PySem.W.Frag) (C : Addr) : Bool := (PySem.W.clsIn K C).isSome && (decide (PySem.W.findIn K (.ref C) "__getattribute__" = some (some (.builtin "BaseException.__getattribute__"))) && (decide (PySem.W.findIn K (.ref C) "__getattr__" = some none) && (decide (PySem.W.subIn K (.ref C) (.type "BaseException") = some true) &&
  (decide (PySem.W.findIn K (.ref C) "__class__" = some (some (.builtin "object.__class__"))) && (decide (PySem.W.specialIn K (.builtin "object.__class__") "__get__" = some (some (.builtin "getset_descriptor.__get__"))) && (decide (PySem.W.takesIn K (.builtin "object.__class__") = some true) &&
  (decide (PySem.W.mroIn K C (.type "object") = some true) && (decide (PySem.W.typeIn K (.ref C) = some (.type "type")) && (PySem.W.keepIn K (.ref C) && PySem.W.hasDictIn K C)))))))))
theorem erB_ok {K : PySem.W.Frag} {C : Addr} (h : erB K C = true) : ErC K C := by
  simp only [erB, Bool.and_eq_true, decide_eq_true_eq] at h
  obtain ⟨h1, h2, h3, h4, h5, h6, h7, h8, h9, h10, h11⟩ := h
  exact ⟨h1, h2, h3, h4, h5, h6, h7, h8, h9, h10, h11⟩
theorem ErC.raises {X : Cx} {C : Addr} (h : ErC X.K C) : Raises X (.ref C) := raises_own h.sb h.ty
theorem FrL.lookup {K : PySem.W.Frag} {H : Hp} {F : Fp} : ∀ {kvs : List (Str × V)} {es : List (Str × D)} {n : Str} {d : D}, kvs.map Prod.fst = es.map Prod.fst → FrL K H F (kvs.map Prod.snd) (es.map Prod.snd) → es.lookup n = some d → ∃ v, kvs.lookup n = some v ∧ Fr K H F v d
  | [], [], n, d, _, _, e => by simp at e
  | [], _ :: _, n, d, h, _, _ => by simp at h
  | _ :: _, [], n, d, h, _, _ => by simp at h
  | (k, v) :: kvs, (k', d') :: es, n, d, h, r, e => by
    simp only [List.map_cons, List.cons.injEq] at h
    obtain ⟨rfl, h⟩ := h
    cases r with
    | cons f r =>
      rw [List.lookup_cons] at e ⊢
      split at e
      · next q =>
        cases e
        exact ⟨v, rfl, f⟩
      · exact FrL.lookup h r e
/-- an error that stands tracked -/
theorem Fr.errAt {X : Cx} {pins : List (Addr × Obj)} {σ : L2.St} {H : Hp} {s : Shared} {F : Fp} {v : V} {C : Addr} {fs : List (Str × D)} (I : Inv X pins σ H s) (h : Fr X.K H F v (.er C fs)) :
    ∃ a oe od, v = .ref a ∧ PySem.W.InstAt s.heap a oe C od ∧ ∀ n d, fs.lookup n = some d → ∃ u v', RelV v' u ∧ Fr X.K H F v' d ∧ ∃ o, od = some o ∧ PySem.W.lookIn n o = some (some u) := by
  cases h with
  | er0 f e z ed =>
    obtain ⟨vs, ed⟩ := ed
    obtain ⟨g, _⟩ := (show ObjOk X.prog X.w H s.heap _ (.frz _ _) from I.hok _ _ e)
    exact ⟨_, _, none, rfl, ⟨g, z.1, by unfold PySem.W.notCls; rw [ed] <;> rfl, by rw [z.2.1]; trivial⟩, fun n d e => by simp at e⟩
  | erD f e z ed f2 e2 q r =>
    obtain ⟨vs, ed⟩ := ed
    obtain ⟨g, _⟩ := (show ObjOk X.prog X.w H s.heap _ (.frz _ _) from I.hok _ _ e)
    obtain ⟨mA, hns, hr⟩ := (show ObjOk X.prog X.w H s.heap _ (.xd _) from I.hok _ _ e2)
    obtain ⟨od, ho, hl⟩ := lookIn_ns hns
    refine ⟨_, _, some od, rfl, ⟨g, z.1, by unfold PySem.W.notCls; rw [ed] <;> rfl, by rw [z.2.1]; exact ho⟩, fun n d e => ?_⟩
    obtain ⟨v, e3, fv⟩ := r.lookup q e
    obtain ⟨u, hu, ru⟩ := RelO.some_of (v := v) (o := mA n) (by rw [← e3]; exact hr n)
    exact ⟨u, v, ru, fv, od, rfl, by rw [hl, hu]⟩
/-! ### isinstance(e, C) -/
abbrev Is1 (K : PySem.W.Frag) (c : Value) : Addr → Bool → Prop := fun C b => ErC K C ∧ PySem.W.kitOne K (.ref C) c = some b
def rIsEr (K : PySem.W.Frag) (c : Value) : List V → Hp → VK → Prop := fun xs H Q => ∃ (F : Fp) (x y : V) (C : Addr) (fs : List (Str × D)) (b : Bool), xs = [x, y] ∧ (∀ u, RelV y u → u = c) ∧ Fr K H F x (.er C fs) ∧ Is1 K c C b ∧ Q (.bl b) H
theorem call_isEr {X : Cx} {c : Value} : CallR X (.builtin "isinstance") (rIsEr X.K c) := by
  intro pins s σ H xs us Q I r h
  obtain ⟨F, x, y, C, fs, b, rfl, hy, fr, ⟨T, e⟩, q⟩ := h
  obtain ⟨a, oe, od, rfl, J, _⟩ := fr.errAt I
  cases r with
  | cons rx rr =>
    cases rr with
    | cons rt rr =>
      cases rr
      cases rx
      have ec := hy _ rt
      subst ec
      exact PySem.W.kia_one (PySem.W.kitx_exc T.cl T.ga T.gg T.sb T.ca T.cn T.ct T.mo) I.kIn J e (fun z => nomatch z) fun tk => ⟨.bl b, H, I.kept (t' := tk) fun _ _ z => z, rfl, q⟩
def dIsE (K : PySem.W.Frag) (c : Value) (fe : FE) : FE := fun L Q => fe L fun d L1 => match d with
  | .er C _ => ∃ b, Is1 K c C b ∧ Q (.bl b) L1
  | _ => False
section
variable {X : Cx} {pn : List (Nat × V)} {e : Expr} {fe : FE} {p p2 pos : Pos} {x n : Str} {c : Value} {v : V}
theorem d_isE0 (hx : PE X (.Name x p2) (tC v)) (hv : ∀ u, RelV v u → u = c) (hg : Gl X "isinstance") (hm : X.mg "isinstance" = none) (he : DE X pn e fe)
    (hs : starEach [e, .Name x p2] X.env = (false, eval e X.env) :: starEach [.Name x p2] X.env := by rfl) (hs2 : starEach [.Name x p2] X.env = (false, eval (.Name x p2) X.env) :: starEach [] X.env := by rfl) (hpl : (backTo pos (starEach [.Name x p2] X.env)).any (·.1) = false := by rfl) :
    DE X pn (.Call (.Name "isinstance" p) [e, .Name x p2] [] pos) (dIsE X.K c fe) := pe_weak (pe_callB (call_isEr (c := c)) hg hm boot_isinstance (pa_cons he (pa_cons hx pa_nil hs2) hs) (by decide) (by decide) hs hpl) fun σ H Q q => by
  obtain ⟨F, A, L, R, lo, h, post⟩ := q
  refine ⟨F, A, L, _, lo, h, fun d L1 u F1 A1 H1 h1 e1 lo1 f1 => ?_⟩
  cases d with
  | er C fs =>
    obtain ⟨b, i1, h1⟩ := h1
    exact ⟨F1, u, v, C, fs, b, rfl, hv, f1, i1, post _ L1 _ F1 A1 H1 h1 e1 lo1 (.bl _)⟩
  | _ => exact h1.elim
/-- .. of an own class -/
theorem d_isE {K : PySem.W.Frag} (hK : X.K = K) {C : Addr} (hg2 : Gl X x) (hm2 : X.mg x = some (.ref C)) (hg : Gl X "isinstance") (hm : X.mg "isinstance" = none) (he : DE X pn e fe) (hdb : (x == ("__debug__" : Str)) = false := by decide)
    (hs : starEach [e, .Name x p2] X.env = (false, eval e X.env) :: starEach [.Name x p2] X.env := by rfl) (hs2 : starEach [.Name x p2] X.env = (false, eval (.Name x p2) X.env) :: starEach [] X.env := by rfl) (hpl : (backTo pos (starEach [.Name x p2] X.env)).any (·.1) = false := by rfl) :
    DE X pn (.Call (.Name "isinstance" p) [e, .Name x p2] [] pos) (dIsE K (.ref C) fe) := hK ▸ d_isE0 (v := .ref C) (pe_glob hg2 hm2 (show Value.ref C = Value.ref C from rfl) hdb) (fun u r => r) hg hm he hs hs2 hpl
/-- .. of a built-in class -/
theorem d_isB {K : PySem.W.Frag} (hK : X.K = K) {T : String} (hg2 : Gl X x) (hm2 : X.mg x = none) (hv : bootBuiltins x = some (.type T)) (hg : Gl X "isinstance") (hm : X.mg "isinstance" = none) (he : DE X pn e fe) (hn : x ≠ "__name__" := by decide) (hdb : (x == ("__debug__" : Str)) = false := by decide)
    (hs : starEach [e, .Name x p2] X.env = (false, eval e X.env) :: starEach [.Name x p2] X.env := by rfl) (hs2 : starEach [.Name x p2] X.env = (false, eval (.Name x p2) X.env) :: starEach [] X.env := by rfl) (hpl : (backTo pos (starEach [.Name x p2] X.env)).any (·.1) = false := by rfl) :
    DE X pn (.Call (.Name "isinstance" p) [e, .Name x p2] [] pos) (dIsE K (.type T) fe) := hK ▸ d_isE0 (v := .ty T) (pe_bltn hg2 hm2 hv rfl hn hdb) (fun u r => r) hg hm he hs hs2 hpl
/-! ### e.f -/
def dFldE (K : PySem.W.Frag) (n : Str) (fe : FE) : FE := fun L Q => fe L fun d L1 => match d with
  | .er C fs => ErC K C ∧ PySem.W.findIn K (.ref C) n = some none ∧ ∃ z, fs.lookup n = some z ∧ Q z L1
  | _ => False
theorem d_fldE {K : PySem.W.Frag} (hK : X.K = K) (he : DE X pn e fe) (hb : attributeBase e n X.env (eval e X.env) = eval e X.env := by rfl) : DE X pn (.Attribute e n pos) (dFldE K n fe) := by
  subst hK
  refine ⟨fun pins s σ H Q I q => ?_⟩
  obtain ⟨F, A, L, R, lo, h, post⟩ := q
  refine attr_of hb (thn (he.run pins s σ H (fun v H1 => ∃ F1 A1 L1 C fs z, Ext A H F A1 H1 F1 ∧ Lo X.K H1 F1 pn σ L1 A1 ∧ Fr X.K H1 F1 v (.er C fs) ∧ ErC X.K C ∧ PySem.W.findIn X.K (.ref C) n = some none ∧ fs.lookup n = some z ∧ R z L1) I ⟨F, A, L, _, lo, h, fun d L1 v F1 A1 H1 h1 e1 lo1 f1 => ?_⟩) fun u s1 hh => ?_)
  · cases d with
    | er C fs =>
      obtain ⟨T, hn, z, ez, r⟩ := h1
      exact ⟨F1, A1, L1, C, fs, z, e1, lo1, f1, T, hn, ez, r⟩
    | _ => exact h1.elim
  · obtain ⟨v, H1, I1, rv, F1, A1, L1, C, fs, z, e1, lo1, f1, T, hn, ez, r⟩ := hh
    obtain ⟨a, oe, od, rfl, J, get⟩ := f1.errAt I1
    obtain ⟨w, v', rw', fw, o, rfl, look⟩ := get n z ez
    obtain rfl : u = Value.ref a := rv
    exact HandSPX.exc_get I1.kIn J T.ga T.gg T.sb (PySem.W.findObj_own T.hd hn rfl look) (handed_of rw') ⟨v', H1, I1.tok _, rw', post z L1 v' F1 A1 H1 r e1 lo1 fw⟩
end
end DL

/-! An own error whose __init__(self, f) says super().__init__('..') and self.f = f: made. -/
namespace DL
open PySem PySem.Spec PyProof.Rows PySem.Calls L2
/-- the text of such an __init__ -/
structure SupT where
  j : Nat
  p0 : Pos
  p1 : Pos
  p2 : Pos
  p3 : Pos
  p4 : Pos
  p5 : Pos
  p6 : Pos
  p7 : Pos
  p8 : Pos
  p9 : Pos
  scope : Scope
  params : Arguments
abbrev SupT.sup (T : SupT) : Expr := .Call (.Name "super" T.p0) [] [] T.p1
abbrev SupT.call (T : SupT) (m : Str) : Expr := .Call (.Attribute T.sup "__init__" T.p2) [.Constant (.str m) T.j T.p3] [] T.p4
abbrev SupT.body (T : SupT) (n m : Str) : List Stmt := [.Expr (T.call m) T.p5, .Assign [.Attribute (.Name "self" T.p6) n T.p7] (.Name n T.p8) T.p9]
abbrev supEnv (q : Str) (T : SupT) (L a : Addr) (cd : Value) (cc : Addr) : Env := PySem.W.ksEnv q T.scope L a cd cc
structure SupTOk (n m : Str) (T : SupT) : Prop where
  kind : T.scope.kind = .function
  co : T.scope.isCoroutine = false
  gen : T.scope.isGenerator = false
  names : T.scope.names = [(("self" : Str), NameKind.local), (n, NameKind.local), (("__class__" : Str), NameKind.free), (("super" : Str), NameKind.globalImplicit)]
  head : (T.params.posonlyargs ++ T.params.args).head?.map (·.arg) = some ("self" : Str)
  ev : ∀ q L a cd cc, ∃ pl : Sem Bool, eval (T.call m) (supEnv q T L a cd cc) = (do
      let ov ← attributeBase T.sup "__init__" (supEnv q T L a cd cc) (eval T.sup (supEnv q T L a cd cc))
      standAt T.p2.atName
      let (f, first) ← holding [ov] (getMethod ov "__init__" pl)
      callWith T.p4 f first (backTo T.p4 (starEach [.Constant (.str m) T.j T.p3] (supEnv q T L a cd cc))) [])
  sw : ∀ q L a cd cc, swapsWith (.Name n T.p8) (some (.Attribute (.Name "self" T.p6) n T.p7)) T.p9.line (supEnv q T L a cd cc) = pure false
  int : ∀ q L a cd cc, interactive (supEnv q T L a cd cc) = false
/-- the facts of such a class -/
structure SupC (prog : Program) (K : PySem.W.Frag) (mg : Str → Option Value) (n m : Str) (C fI : Addr) : Prop where
  fn : ∃ T oc od nm qual cc dV kV doc pm an cda ct osl, SupTOk n m T ∧ K.lookup fI = some ⟨oc, od, .func (PySem.W.fnX nm qual T.params (T.body n m) T.scope [(("__class__" : Str), cc)] dV kV doc pm an (.ref cda) ct), osl⟩ ∧
    PySem.W.codeIn K (.ref cda) qual = true ∧ (∃ ccl cdd vs ccs file tf, K.lookup cda = some ⟨ccl, cdd, .fields vs, ccs⟩ ∧ vs[2]? = some (.str file tf) ∧ ((prog.main.file : Str) == file) = true) ∧
    (∃ cl cld csl, K.lookup cc = some ⟨cl, cld, .cell (some (.ref C)), csl⟩) ∧
    ∀ us : List Value, us.length = 2 → bindArgs (PySem.W.fnX nm qual T.params (T.body n m) T.scope [(("__class__" : Str), cc)] dV kV doc pm an (.ref cda) ct) ⟨us, []⟩ = pure ([("self" : Str), n].zip us)
  ne : n ≠ "self" ∧ n ≠ "__class__" ∧ n ≠ "super" ∧ (n == ("__debug__" : Str)) = false ∧ (n == ("__classdict__" : Str)) = false
  top : (prog.main.scope.names.lookup ("super" : Str)).isSome = false
  sup : mg "super" = none
  oex : OexC K C
  ini : PySem.W.findIn K (.ref C) "__init__" = some (some (.ref fI))
  tyI : PySem.W.typeIn K (.ref fI) = some (.type "function")
  alo : PySem.W.ks_superIn K C C "__init__" = some (some (.builtin "ValueError.__init__"))
  sub : PySem.W.subIn K (.ref C) (.type "ValueError") = some true
  opq : PySem.W.nsIn K cStatics "thirdparty.any" = some none
  own : PySem.W.mroIn K C (.ref C) = some true
  nof : PySem.W.findIn K (.ref C) n = some none
  g : ∃ x : Str, mg x = some (.ref C)
section
variable {prog : Program} {w : World} {A : Around} {R : Result → Shared → Prop} {K : PySem.W.Frag} {mg : Str → Option Value} {n m : Str} {C fI x t0 : Addr} {u : Value}
/-- the bound __init__ of ValueError, called -/
theorem mw_call {E : Value → Shared → Prop} {Q : Value → Shared → Prop} {q : Addr} {rest : List Value} {h : Heap} {g : Array GenState} {d : Drawn} {t : Nat} {os : OsState} (T : OexC K C) (X : K.In h) (hq : h.get? q = some (PySem.W.kxs_mw "ValueError.__init__" x)) (hx : h.get? x = some (PySem.HandSPX.excO C t0)) (hz : rest.length ≤ sizeLine)
    (fin : ∀ h' t1, (∀ b o, b ≠ x → h.get? b = some o → h'.get? b = some o) → h'.get? x = some (PySem.HandSPX.excO C t1) → Q .none ⟨h', g, d, t, os⟩) : wpAny (model prog w) A (call (.ref q) rest) Q E ⟨h, g, d, t, os⟩ := by
  obtain ⟨nm, qn, N, bs, bm, sn, sub, ab, col, dd, k0, k1, k2, k3, k5, hC, hbm⟩ := T.cls
  have hC' := X _ _ hC
  refine wpAny_call (codeAny_of_tree ?_)
  show wpAny _ A.in1 (callAny (.ref q) ⟨rest, []⟩) _ _ _
  simp only [callAny]
  refine wpAny_bind (wpAny_load hq ?_)
  simp only [PySem.W.kxs_mw, show (Value.type "method-wrapper" == Value.type "method" || Value.type "method-wrapper" == Value.type "builtin_function_or_method" || Value.type "method-wrapper" == Value.type "method-wrapper") = true by decide, if_true]
  refine PySem.W.KFB.if_so (by decide) ?_
  refine wpAny_bind (PySem.W.check_bound_init F.excBase_ValueError.toExcCallFacts hC' hx rfl ?_)
  refine wpAny_bind (wpAny_pure (wpAny_pure ⟨plainId_quiet F.excBase_ValueError.init.plain _, codeAny_builtin F.excBase_ValueError.initEntry ?_⟩))
  exact PySem.W.exc_init_tree (cls := .ref C) (t0 := t0) (dv := none) (c2 := .none) (c3 := .none) (b4 := .bool false) hx hz fun h' k e _ => fin h' _ k e
theorem sup_init {s : Shared} (S : SupC prog K mg n m C fI) (X : K.In s.heap) (lim : s.heap.NoLimit) (hg : s.heap.Ns mainGlobals mg) (hb : ∃ mb, s.heap.Ns builtinsNs mb ∧ ∀ x : Str, x ≠ "__name__" → mb x = bootBuiltins x) (hx : s.heap.get? x = some (PySem.HandSPX.excO C t0)) (kx : K.lookup x = none) (room : A.depth < recursionLimit)
    (fin : ∀ h' tk d1 t1, (∀ b o, b ≠ x → s.heap.get? b = some o → h'.get? b = some o) → d1 ≠ x → s.heap.objs.size ≤ d1 → h'.get? x = some { cls := .ref C, dict := some d1, data := .fields #[.ref t1, .none, .none, .none, .bool false, .none] } → h'.Ns1 d1 (fun y => if y = n then some u else none) →
      R (.ok (.ret .none)) { s with heap := h', toks := tk }) : codeAny (model prog w) A (.call (.ref fI) ⟨[.ref x, u], []⟩) R s := by
  obtain ⟨T, oc, od, nm, qual, cc, dV, kV, doc, pm, an, cda, ct, osl, ⟨hk, hco, hgn, hns, hhead, hev, hsw, hint⟩, lk, hcd, ⟨ccl, cdd, vs, ccs, file, tf, hcode, hvs, hfile⟩, ⟨cl, cld, csl, hcell⟩, hbind⟩ := S.fn
  obtain ⟨ne1, ne2, ne3, nd, ncd⟩ := S.ne
  have b1 : (n == ("self" : Str)) = false := by simpa using ne1
  have b2 : (n == ("__class__" : Str)) = false := by simpa using ne2
  have b3 : (n == ("super" : Str)) = false := by simpa using ne3
  have c3 : (("super" : Str) == n) = false := by simpa using Ne.symm ne3
  have c2 : (("__class__" : Str) == n) = false := by simpa using Ne.symm ne2
  have c1 : (("self" : Str) == n) = false := by simpa using Ne.symm ne1
  have d2 : (("__class__" : Str) == ("self" : Str)) = false := by decide
  have d3 : (("super" : Str) == ("self" : Str)) = false := by decide
  have d4 : (("super" : Str) == ("__class__" : Str)) = false := by decide
  have kSelf : T.scope.names.lookup ("self" : Str) = some .local := by rw [hns]; rfl
  have kN : T.scope.names.lookup n = some .local := by rw [hns]; simp [List.lookup, b1]
  have kC : T.scope.names.lookup ("__class__" : Str) = some .free := by rw [hns]; simp [List.lookup, c2, d2]
  have kS : T.scope.names.lookup ("super" : Str) = some .globalImplicit := by rw [hns]; simp [List.lookup, c3, d3, d4]
  obtain ⟨hp, g, d, t, os⟩ := s
  refine ks_codeAny_call_defAt (fd := PySem.W.fnX nm qual T.params (T.body n m) T.scope [(("__class__" : Str), cc)] dV kV doc pm an (.ref cda) ct) (body := T.body n m) (binds := [("self" : Str), n].zip [.ref x, u]) room (X _ _ lk) rfl lim (PySem.W.codeRec_of X hcd) rfl (.of_eq (hbind _ rfl)) (fun y hy => ?_) (fun y hy => ?_) (fun h1 loc k1 => ?_) hco hgn hk
  · have hy : y ∈ T.scope.names := hy
    rw [hns] at hy
    simp only [List.mem_cons, List.not_mem_nil, or_false] at hy
    rcases hy with rfl | rfl | rfl | rfl <;> exact fun z => nomatch z
  · simp only [List.zip_cons_cons, List.zip_nil_right, List.mem_cons, List.not_mem_nil, or_false] at hy
    rcases hy with rfl | rfl
    · exact kSelf
    · exact kN
  have o1 : ∀ b o, hp.get? b = some o → h1.get? b = some o := k1
  have X1 : K.In h1 := X.keeps o1
  have G1 := hg.keeps o1
  obtain ⟨mb, hmb, hbb⟩ := hb
  have B1 := hmb.keeps o1
  have x1 := o1 _ _ hx
  obtain ⟨cdN, qN, N, bs, bm, sn, sub, ab, col, dd, kk0, kk1, kk2, kk3, kk5, hC, hbm⟩ := S.oex.cls
  have hCi : PySem.W.clsIn K C = some { name := cdN, bases := bs, mro := .ref C :: bm, ns := N, qualname := qN, hasDict := true, slotNames := sn, subclasses := sub, abstract := ab, collection := col, hasDel := false } := by unfold PySem.W.clsIn; rw [hC] <;> rfl
  have hC1 := X1 _ _ hC
  have loc' : h1.Ns hp.objs.size (fun y => (([(("self" : Str), Value.ref x), (n, u)] : List (Str × Value)).reverse).lookup y) := loc
  have lkSelf : ([((n : Str), u), (("self" : Str), Value.ref x)] : List (Str × Value)).lookup ("self" : Str) = some (.ref x) := by simp [List.lookup, c1]
  have lkN : ([((n : Str), u), (("self" : Str), Value.ref x)] : List (Str × Value)).lookup n = some u := by simp [List.lookup]
  obtain ⟨pl, hpl⟩ := hev qual hp.objs.size fI (.ref cda) cc
  refine ks_wpAt_execs_cons (ks_wpAt_Expr_any (hi := hint _ _ _ _ _) (ks_wpAt_MethodCall (pl := pl) ?_ hpl))
  obtain ⟨ar, har, hrr⟩ : ∃ ar : PySem.Arg, (T.params.posonlyargs ++ T.params.args).head? = some ar ∧ ar.arg = ("self" : Str) := by
    cases e : (T.params.posonlyargs ++ T.params.args).head? with
    | none => rw [e] at hhead; cases hhead
    | some ar => rw [e] at hhead; exact ⟨ar, rfl, Option.some.inj hhead⟩
  refine ks_wpAt_super_base (f := fI) (cc := cda) kS kC rfl rfl (X1 _ _ lk) rfl har rfl (X1 _ _ hcode) rfl hvs hfile S.top ?_
  refine PySem.W.ks_loadName_global hk kS (loadGlobal_builtin G1 S.sup B1 (hbb _ (by decide)) ⟨rfl, ?_⟩)
  refine wpAny_loadName_free (c := cc) hk kC rfl ⟨_, X1 _ _ hcell, rfl⟩ ?_
  rw [hrr]
  refine wpAny_loadName_local hk kSelf loc' lkSelf ?_
  refine ks_wpAny_isType_cls hC1 rfl ⟨rfl, ?_⟩
  refine ks_wpAny_call_super hC1 rfl x1 rfl (fun c e => nomatch e) (PySem.W.looks_mroIn X1 S.own) (fun h2 eso k2 => ?_)
  have X2 := X1.keeps k2
  have x2 := k2 _ _ x1
  have xC : x ≠ C := fun z => by
    rw [z, hC1] at x1
    cases x1
  have inB : PySem.W.Looks (model prog w) h2 (isInstance (.ref x) (.type "ValueError")) true := PySem.W.Looks.andThen (fun A Q E s k q => wpAny_typeOf_ref (k _ _ x2) q) (PySem.W.looks_subIn X2 S.sub)
  refine PySem.W.kxs_getMethod PySem.W.kxs_ValueError (l₀ := .ref C :: bm) eso (PySem.W.looks_opaque X2 S.opq) (fun A Q E s k q => wpAny_bind ((PySem.W.looks_clsIn X2 hCi) A _ E s k (wpAny_pure q))) rfl X2 (by
    have z := S.alo
    unfold PySem.W.ks_superIn at z
    rw [hCi] at z
    exact z) inB xC (by decide) ?_
  have x3 : (h2.push (PySem.W.kxs_mw "ValueError.__init__" x)).get? x = some (PySem.HandSPX.excO C t0) := Heap.get?_push_of_some _ x2
  have X3 : K.In (h2.push (PySem.W.kxs_mw "ValueError.__init__" x)) := X2.keeps fun b o e => Heap.get?_push_of_some _ e
  have q3 : (h2.push (PySem.W.kxs_mw "ValueError.__init__" x)).get? h2.objs.size = some (PySem.W.kxs_mw "ValueError.__init__" x) := Heap.get?_push_at rfl rfl
  refine PySem.W.kxs_callWith (i := "ValueError.__init__") (x := x) rfl (evalArgs_plain ?_)
  refine spliced_cons ?_
  show wpAny _ _ (eval (.Constant (.str m) T.j T.p3) _) _ _ _
  refine wpAny_Constant_str ?_
  refine spliced_nil ⟨q3, ?_⟩
  refine mw_call (t0 := t0) S.oex X3 q3 x3 (by show 1 ≤ sizeLine; rw [sizeLine_eq]; omega) fun h4 t1 k4 x4 => ?_
  -- self.n = n
  have k14 : ∀ b o, b ≠ x → h1.get? b = some o → h4.get? b = some o := fun b o hb e => k4 b o hb (Heap.get?_push_of_some _ (k2 b o e))
  have X4 : K.In h4 := fun b o e => k14 b o (fun z => by
    rw [z, kx] at e
    cases e) (X1 _ _ e)
  have L4 : h4.Ns hp.objs.size (fun y => (([(("self" : Str), Value.ref x), (n, u)] : List (Str × Value)).reverse).lookup y) := by
    obtain ⟨o, es, ep, e, r⟩ := loc'
    exact ⟨o, es, ep, k14 _ _ (fun z => by have := Heap.lt_size hx; rw [← z] at this; exact absurd this (Nat.lt_irrefl _)) e, r⟩
  refine ks_wpAt_execs_cons (ks_wpAt_Assign_Attr ?_ (hsw _ _ _ _ _))
  refine wpAt_of_wpAny (wpAny_Name (wpAny_loadName_local hk kN L4 lkN ?_) nd)
  refine wpAny_Name (wpAny_loadName_local hk kSelf L4 lkSelf ?_) (by decide)
  refine PySem.W.set_plain X4 (ox := PySem.HandSPX.excO C t1) (od := none) ⟨x4, rfl, rfl, trivial⟩ S.oex.sa ?_
  refine PySem.HandSPX.exc_osa X4 x4 hCi (show PySem.HandSPX.refsVE (.ref C :: bm) = true from hbm) rfl S.nof fun h5 tk d1 k5 l5 ne5 e5 n5 => ?_
  refine wpAt_of_wpAny (wpAny_execs_nil ?_)
  refine fin h5 tk d1 t1 (fun b o hb e => k5 b o hb (k14 b o hb (o1 b o e))) ne5 ?_ e5 n5
  have := L4.lt
  exact Nat.le_trans (Nat.le_of_lt this) l5
end
section
variable {X : Cx} {e : Expr} {te : TE} {p pos : Pos} {x n m : Str} {C fI : Addr} {k : Nat}
/-- C(e) -/
theorem pmk_sup (S : SupC X.prog X.K X.mg n m C fI) (hr : Room (k + 1) X.A) (hg : Gl X x) (hm : X.mg x = some (.ref C)) (he : PE X e te)
    (hdb : (x == ("__debug__" : Str)) = false := by decide) (hs : starEach [e] X.env = (false, eval e X.env) :: starEach [] X.env := by rfl) : L2N.PMk X (.Call (.Name x p) [e] [] pos) (tMk1 C n te) := by
  intro pins s σ H Q I h
  obtain ⟨nm, q, N, bs, bm, sn, sub, ab, col, dd, k0, k1, k2, k3, k5, hC, hbm⟩ := S.oex.cls
  refine wpAny_Call_Name_kw (ld_glob I hg hm ?_ hdb)
  refine PySem.W.callWith_K (h₀ := X.base) I.ok.mod.kin S.oex.kC ?_ hs (by rfl)
  rw [hs]
  show wpAny _ _ (spliced ((false, eval e X.env) :: backTo pos (starEach [] X.env))) _ _ s
  refine Calls.spliced_cons (thn (he.run pins s σ H _ I h) fun u s1 ⟨y, H1, I1, r1, q1⟩ => ?_)
  refine Calls.spliced_nil ⟨I1.kIn, ?_⟩
  show wpAny _ _ (call (.ref C) [u]) _ _ _
  obtain ⟨hp, g, dr, tk, os⟩ := s1
  have up : ∀ b o, hp.get? b = some o → ((hp.push (PySem.W.kdv_tup [u])).push (PySem.HandSPX.excO C hp.objs.size)).get? b = some o := fun b o e => Heap.get?_push_of_some _ (Heap.get?_push_of_some _ e)
  have hget : ((hp.push (PySem.W.kdv_tup [u])).push (PySem.HandSPX.excO C hp.objs.size)).get? (hp.objs.size + 1) = some (PySem.HandSPX.excO C hp.objs.size) := by heap_get
  have none0 : hp.get? (hp.objs.size + 1) = none := Heap.get?_none_of_le (Nat.le_succ _)
  have bk := fun b o e => up b o (I1.bk b o e)
  have KX2 := I1.kIn.keeps up
  refine wpAny_call (PySem.HandSPX.call_own F.excBase_ValueError (fun Y => PySem.HandSPX.refsVE_contains Y bm hbm) (I1.kIn _ _ hC) (PySem.W.looks_findIn I1.kIn S.ini) (fun self => PySem.W.bind_fn I1.kIn self S.tyI) (by show 1 ≤ sizeLine; rw [sizeLine_eq]; omega) ?_)
  obtain ⟨mb, hmb, hbb⟩ := I1.mod.blt
  refine sup_init S KX2 (I1.mod.nolimit.keeps bk) (I1.mod.glob.keeps bk) ⟨mb, hmb.keeps bk, hbb⟩ hget ?_ (hr.make C [u] []).depth fun h' tk' d1 t1 kp ned ld ea ens => ?_
  · cases e : X.K.lookup (hp.objs.size + 1) with
    | none => rfl
    | some o =>
      have z := I1.kIn _ _ e
      rw [none0] at z
      cases z
  have kp0 : ∀ b o, hp.get? b = some o → h'.get? b = some o := fun b o e => kp b o (fun z => by rw [z, none0] at e; cases e) (up b o e)
  obtain ⟨G, g1, g2⟩ := restrict h' fun b => decide (b ≠ hp.objs.size + 1)
  have gk : ∀ b, b ≠ hp.objs.size + 1 → G.get? b = h'.get? b := fun b hb => g1 b (decide_eq_true hb)
  have ga : G.get? (hp.objs.size + 1) = none := g2 _ (decide_eq_false fun z => z rfl)
  have old : ∀ b o, hp.get? b = some o → G.get? b = some o := fun b o e => by
    rw [gk b fun z => by rw [z, none0] at e; cases e]
    exact kp0 b o e
  have ld' : hp.objs.size ≤ d1 := by
    have : ((hp.push (PySem.W.kdv_tup [u])).push (PySem.HandSPX.excO C hp.objs.size)).objs.size ≤ d1 := ld
    rw [Heap.size_push, Heap.size_push] at this
    omega
  have nd1 : H1 d1 = none := I1.hok.fresh ld'
  have J : Inv X pins σ (upd H1 d1 (.xd [(n, y)])) { (⟨hp, g, dr, tk, os⟩ : Shared) with heap := G, toks := tk' } := I1.laidN old (Heap.get?_none_of_le ld') nd1
    ⟨_, ens.at fun o e => (gk d1 ned).trans e, fun f => relO_put (fs := []) (mA := fun _ => none) r1 (fun _ => True.intro) f⟩
  exact ⟨rfl, hp.objs.size + 1, _, _, _, _, .ref C, some d1, rfl, J, fun b o e => by
    by_cases hb : b = hp.objs.size + 1
    · rw [hb, ga] at e
      cases e
    · exact (gk b hb).symm.trans e, ga, ea, ⟨rfl, rfl, fun vs e => by cases e; rfl⟩, rfl, rfl, by rw [upd_ne (Ne.symm ned)]; exact I1.hok.fresh (Nat.le_succ _), rfl, I1.bare, raises_own S.oex.exC S.oex.tyC, q1 d1 nd1⟩
end
end DL

/-! What may raise: owned values, freezing. -/
namespace DL
open PySem PySem.Spec PyProof.Rows L2
section
variable {X : Cx} {pn : List (Nat × V)} {W : WX} {e : Expr} {st : Stmt} {sts : List Stmt} {f : FE} {g : FS} {pos : Pos}
def xSetM (i : Nat) (f : FE) : FS := fun E L => f L (xval E fun d L1 => E.nx (L1.set i (some d)))
theorem x_setM {i : Nat} {x : Str} {pos' : Pos} (hN : X.N.Nodup) (hi : X.N[i]? = some x) (hx : Loc X.env.scope x) (hp : (pn.any fun p => p.1 == i) = false) (he : DNX X pn W e f) (hs : swapsWith e (some (.Name x pos')) pos.line X.env = pure false := by rfl) (hf : X.fn x = true ∨ X.env.scope.names.lookup x = some .local := by first | exact .inl rfl | exact .inr rfl | assumption) :
    DSX X pn W (.Assign [.Name x pos'] e pos) (xSetM i f) := ps_weak (ps_set hN hi hx he hs hf) fun E σ H q => by
  obtain ⟨F, A, L, D, lo, hg, p, px⟩ := q
  refine ⟨F, A, L, _, lo, hg, fun x L1 v F1 A1 B H1 h1 e1 lo1 f1 sB n => ?_, fun c fs L' d F' A' H' r x l z => px c fs σ L' d F' A' H' r x l z⟩
  obtain ⟨A', l, s⟩ := lo1.set f1 sB n hp
  exact p.nx _ _ F1 A' H1 (xval_fr (k := fun d L1 => D.nx (L1.set i (some d))) h1 f1) (e1.less fun a z => (s a z).symm) l
theorem x_deN (h : DEX X pn W e f) : DNX X pn W e f := pe_weak h fun σ H Q q => by
  obtain ⟨F, A, L, R, lo, h, p, px⟩ := q
  exact ⟨F, A, L, R, lo, h, fun d L' v F' A' H' r x l fr => p d L' v F' A' no H' r x.or_no l (.fr fr) (sane_no l.ok.f) fun _ z => z.elim, px⟩
theorem x_fzO {i : Nat} (h : DSsX X pn W sts g) : DSsX X pn W sts (dFz i g) := pss_weak h fun E σ H q => by
  obtain ⟨F, A, L, D, lo, hg, p, px⟩ := q
  unfold dFz at hg
  split at hg
  · next d e =>
    obtain ⟨F', A', l, x⟩ := lo_fz lo e hg.1
    exact ⟨F', A', _, D, l, hg.2, p.on x, px.on x⟩
  · exact hg.elim
end
end DL

/-! "0" * 60 -/
namespace DL
open PySem PySem.Spec PyProof.Rows L2
def rMulS : R2 := fun x y H Q => ∃ i k, x = .str i ∧ y = .int k ∧ MulOk i k ∧ Q (.str (PySem.Txt.mul i k)) H
theorem op_mulS {X : Cx} : OpR X (binaryOp .Mult) rMulS := by
  intro pins s σ H x y v u Q I rx ry h
  obtain ⟨i, k, rfl, rfl, ok, q⟩ := h
  obtain ⟨t, rfl⟩ := rx
  obtain ⟨t', rfl⟩ := ry
  exact SB.mul ok (fun t' tk => ⟨.str (PySem.Txt.mul i k), H, I.tok _, ⟨_, rfl⟩, q⟩)
def gMulS : D → D → (D → Prop) → Prop := fun x y k => match x, y with
  | .str a, .int n => MulOk a n ∧ k (.str (PySem.Txt.mul a n))
  | _, _ => False
theorem up_mulS {K : PySem.W.Frag} : Up2 K rMulS gMulS := by
  intro H F v u x y k Q hv hu g ok
  cases hv with
  | str a =>
    cases hu with
    | int n => exact ⟨a, n, rfl, rfl, g.1, ok.same g.2 (.str _)⟩
    | _ => exact g.elim
  | _ => cases hu <;> exact g.elim
theorem zeros60 : MulOk "0" 60 := ⟨by decide +kernel, fun _ _ => by decide +kernel, fun _ _ => by decide +kernel⟩
end DL

/-! Defs that may be called while an error is handled, too: FnW. -/
namespace DL
open PySem PySem.Spec PyProof.Rows L2
structure RoomW (k : Nat) (A : Around) : Prop where
  dp : A.depth + 3 * k + 5 < recursionLimit
  un : A.units + 16 * k + 200 < cLine
theorem RoomW.mono {j k : Nat} {A : Around} (r : RoomW k A) (h : j ≤ k) : RoomW j A :=
  have a := r.dp
  have b := r.un
  ⟨by omega, by omega⟩
theorem Room.any {k : Nat} {A B : Around} (r : Room k A) (h1 : B.depth = A.depth) (h2 : B.units = A.units) : RoomW k B := ⟨h1 ▸ r.dp, h2 ▸ r.un⟩
/-- nothing is handled there -/
abbrev un (A : Around) : Around := { A with handled := none }
theorem roomUn {k : Nat} {A : Around} (r : RoomW k A) : Room k (un A) := ⟨rfl, r.dp, r.un⟩
structure FnW (P : Program) (w : World) (K : PySem.W.Frag) (mg : Str → Option Value) (base : Heap) (CX : CXT) (k : Nat) (f : Addr) (fd : FuncData) (ps : List Str) (sp : Sp) : Prop where
  len : ∀ vs H Q E, sp vs H Q E → vs.length = ps.length
  run : ∀ (A : Around) (outer : List Env) (s : Shared) (H : Hp) (args : Args) (us : List Value) (vs : List V) (Q : VK) (E : XK), RoomW k A → Env0 P w K mg base A outer s H → BindsTo s fd args (ps.zip us) → Vals vs us → sp vs H Q E →
    codeAny (model P w) A (.call (.ref f) args) (CR CX outer P w H s Q E) s
/-- there it may be called as any def -/
theorem FnW.ok {P : Program} {w : World} {K : PySem.W.Frag} {mg : Str → Option Value} {base : Heap} {CX : CXT} {k : Nat} {f : Addr} {fd : FuncData} {ps : List Str} {sp : Sp} (F : FnW P w K mg base CX k f fd ps sp) : FnOk P w K mg base CX k f fd ps sp :=
  ⟨F.len, fun A outer s H args us vs Q E hr => F.run A outer s H args us vs Q E ⟨hr.dp, hr.un⟩⟩
/-- the context of its body -/
abbrev cxW (P : Program) (w : World) (K : PySem.W.Frag) (mg : Str → Option Value) (base : Heap) (N : List Str) (qual : Str) (scope : Scope) (f : Addr) (cd : Value) (A : Around) (outer : List Env) (s : Shared) (H : Hp) (E : XK) : Cx :=
  { cxOf CX0 P w K mg base N qual scope f cd A outer s H E with calm := false }
section
variable {P : Program} {w : World} {K : PySem.W.Frag} {mg : Str → Option Value} {base : Heap}
theorem Fun.okW {x qual : Str} {st : Stmt} {f : Addr} {fd : FuncData} {N ps : List Str} {k : Nat} {sp : Sp} (F : Fun K x qual st f fd) (S : FnScope N ps (defScope st)) (len : ∀ vs H Q E, sp vs H Q E → vs.length = ps.length)
    (hbody : ∀ (cdv : Value) (A : Around) (outer : List Env) (s : Shared) (H : Hp) (vs : List V) (Q : VK) (E : XK), RoomW k (A.deeper (envOfC qual (defScope st) s.heap.objs.size f cdv)) → sp vs H Q E →
      ∃ t, PSs (cxW P w K mg base N qual (defScope st) f cdv A outer s H E).nox (defBody st) t ∧ t { nx := fun _ H' => Q .non H', rt := Q } (L2.start N vs) H) : FnW P w K mg base CX0 (k + 1) f fd ps sp := by
  obtain ⟨oc, od, kV, doc, pm, an, cdv, ct, osl, rfl, lk, hcd⟩ := F.ex
  refine ⟨len, fun A outer s H args us vs Q E hr e0 hb r hsp => ?_⟩
  have KX : K.In s.heap := e0.mod.kin.keeps fun b o e => (e0.bs b o e).1
  have lim : s.heap.NoLimit := e0.mod.nolimit.keeps fun b o e => (e0.bs b o e).1
  have dp := hr.dp
  have un' := hr.un
  have hk : ∀ y ∈ ps.zip us, (defScope st).names.lookup y.1 = some .local ∨ ((defScope st).names.lookup y.1 = some .cell ∧ ((cellsFrom (s.heap.objs.size + 1) (defScope st).names []).lookup y.1).isSome = true) := fun y hy =>
    (S.par y.1 (List.of_mem_zip (a := y.1) (b := y.2) hy).1).imp_right fun q => ⟨q, PySem.W.cellsFrom_some _ _ _ (.inl q)⟩
  refine codeAny_call_function (by omega) (KX _ _ lk) rfl S.co S.gen rfl (PySem.W.codeRec_of KX hcd) (hb _ _ _ _ (wpAny_newFunctionEnv_cells S.kind hk fun env he s1 x => ?_))
  subst he
  refine ⟨lim.keeps x.toInCall.keep, codeAny_func ?_⟩
  obtain ⟨t, ht, hq⟩ := hbody cdv A outer s H vs Q E ⟨by show A.depth + 1 + 3 * k + 5 < _; omega, by show A.units + 3 + 16 * k + 200 < _; omega⟩ hsp
  have I0 := inv_start (CX := CX0) (f := f) (cd := cdv) (E := E) (A := un A) S rfl ⟨e0.frames, e0.mod, e0.bs, e0.bsz, e0.funs, e0.frf, e0.hok, e0.bare⟩ (len _ _ _ _ hsp) r x
  have I : Inv (cxW P w K mg base N qual (defScope st) f cdv A outer s H E) [] (L2.start N vs) H s1 :=
    ⟨⟨I0.ok.mod, I0.ok.kind, I0.ok.glob, I0.ok.blt, I0.ok.above, I0.ok.inj, I0.ok.has, I0.ok.cab, fun z => Bool.noConfusion (show false = true from z), Around.frames_deeper e0.frames, I0.ok.stk, I0.ok.exf, I0.ok.bs, I0.ok.bsz, I0.ok.noex, I0.ok.exfs, I0.ok.funs, I0.ok.frf⟩,
      I0.os, I0.bare, I0.base, I0.loc, I0.cell, I0.free, I0.freeC, I0.pin, I0.hok, I0.len⟩
  have fin : ∀ {σ' : L2.St} {H' : Hp} {v : V} {u : Value} {s' : Shared}, Inv (cxW P w K mg base N qual (defScope st) f cdv A outer s H E) [] σ' H' s' → RelV v u → Q v H' → CE outer P w H s Q u s' :=
    fun J rv q => ⟨_, _, J.os, J.bare, J.base, J.hok, rv, q⟩
  refine wpAny_mono (ht.nox.run [] s1 _ H _ I hq) (fun fl s' hs => ?_) fun e s' hs => hs
  cases fl with
  | ret u => obtain ⟨v, _, _, J, rv, q⟩ := hs; exact fin J rv q
  | next => obtain ⟨_, _, J, q⟩ := hs; exact fin (v := V.non) (u := Value.none) J rfl q
  | brk => obtain ⟨_, _, _, q⟩ := hs; exact q.elim
  | cont => obtain ⟨_, _, _, q⟩ := hs; exact q.elim
/-- as ok_of, its def called anywhere -/
theorem ok_ofW {x qual : Str} {st : Stmt} {f : Addr} {fd : FuncData} {N ps : List Str} {k : Nat} {sp : SpD} {g : FS} (F : Fun K x qual st f fd) (S : FnScope N ps (defScope st))
    (hb : ∀ (cdv : Value) (A : Around) (outer : List Env) (s : Shared) (H : Hp) (pn : List (Nat × V)) (E : XK), RoomW k (A.deeper (envOfC qual (defScope st) s.heap.objs.size f cdv)) → (∀ i : Nat, (pn.any fun p => p.1 == i) = false) →
      DSs (cxW P w K mg base N qual (defScope st) f cdv A outer s H E).nox pn (defBody st) g)
    (hs : ∀ ds R, sp ds R → ds.length = ps.length ∧ frs [] 0 ds = true ∧ g { nx := fun L => outsK [] L 0 ds fun ds' => R .non ds', rt := fun d L => outsK [] L 0 ds fun ds' => R d ds' } (ds.map some ++ List.replicate (N.length - ps.length) none)) :
    FnW P w K mg base CX0 (k + 1) f fd ps (lowF K sp) := by
  refine Fun.okW F S (fun vs H Q E h => ?_) (fun cdv A outer s H vs Q E hr h => ?_)
  · obtain ⟨F, A, ds, R, l, _, h, _⟩ := h
    have := l.length
    simp only [List.length_map] at this
    rw [this]
    exact (hs ds R h).1
  · obtain ⟨F, A0, ds, R, l, sn, h, post⟩ := h
    obtain ⟨hlen, hfr, hg⟩ := hs ds R h
    have hvl : vs.length = ds.length := by simpa using l.length
    refine ⟨_, hb cdv A outer s H [] E hr (fun i => rfl), ?_⟩
    have e0 : L2.start N vs = vs.map some ++ List.replicate (N.length - ps.length) none := by unfold L2.start; rw [hvl, hlen]
    rw [e0]
    refine ⟨F, A0, _, _, ⟨l.nones _, sn, fun p hp => by simp at hp⟩, hg, ⟨fun σ' L' F' A' H' r x lo => ?_, fun _ _ _ _ _ r => r.elim, fun _ _ _ _ _ r => r.elim, fun d σ' L' v F' A' B H' r x lo o s n => ?_⟩⟩
    · obtain ⟨ds', A2, q, l2, s2⟩ := outs_loc (Later.of sn x) l hfr lo.loc (fun i _ d e => e) (fun _ _ => rfl) (fun i v e c => by simp at c) r
      exact post .non ds' .non F' A2 no H' q (x.less fun a z => z.elim (s2 a) fun z => z.elim) l2 (.fr .non) ⟨lo.ok.f, fun a z => z.elim (fun z => lo.ok.a a (s2 a z)) fun z => z.elim⟩ fun _ z => z.elim
    · obtain ⟨ds', A2, q, l2, s2⟩ := outs_loc (Later.of sn x) l hfr lo.loc (fun i _ d e => e) (fun _ _ => rfl) (fun i v e c => by simp at c) r
      exact post d ds' v F' A2 B H' q (x.less fun a z => z.imp_left (s2 a)) l2 o ⟨lo.ok.f, fun a z => z.elim (fun z => lo.ok.a a (s2 a z)) (s.a a)⟩ fun a z y => n a z (s2 a y)
end
section
variable {X : Cx} {pn : List (Nat × V)} {k : Nat} {f : Addr} {fd : FuncData} {ps : List Str} {sp : Sp} {x : Str} {p pos : Pos} {e : Expr} {es : List Expr} {t : TA}
theorem pe_callW (F : FnW X.prog X.w X.K X.mg X.base CX0 k f fd ps sp) (hr : RoomW k X.A) (hg : Gl X x) (hm : X.mg x = some (.ref f)) (hk : PySem.W.keepIn X.K (.ref f) = true) (hb : Binds X.K fd ps [])
    (ha : PA X (e :: es) t) (hdb : (x == ("__debug__" : Str)) = false := by decide) (he : starEach (e :: es) X.env = (false, eval e X.env) :: starEach es X.env := by rfl) (hpl : (backTo pos (starEach es X.env)).any (·.1) = false := by rfl) :
    PE X (.Call (.Name x p) (e :: es) [] pos) (tCall sp [] E0 t) := by
  refine ⟨fun pins s σ H Q I h => wpAny_Call_Name_kw (ld_glob I hg hm (PySem.W.callWith_K (h₀ := X.base) I.ok.mod.kin hk (thn (ha.run pos pins s σ H _ I h) fun us s1 hu => ?_) he hpl) hdb)⟩
  obtain ⟨vs, H1, I1, r, q⟩ := hu
  rw [List.append_nil] at q
  refine ⟨I1.kIn, wpAny_call (codeAny_mono (F.run X.A X.stack s1 H1 ⟨us, []⟩ us vs _ E0 hr I1.env0 ?_ r q) fun r s' hq => ?_)⟩
  · have b := hb s1 us I1.kIn (by rw [List.append_nil, ← r.length]; exact F.len _ _ _ _ q)
    rw [List.append_nil] at b
    exact b
  · cases r with
    | error e => exact hq.elim
    | ok fl =>
      cases fl with
      | ret u => exact I1.after hq
      | next => exact hq.elim
      | brk => exact hq.elim
      | cont => exact hq.elim
theorem d_callW {sp : SpD} {g : FR} (F : FnW X.prog X.w X.K X.mg X.base CX0 k f fd ps (lowF X.K sp)) (hr : RoomW k X.A) (hg : Gl X x) (hm : X.mg x = some (.ref f)) (hk : PySem.W.keepIn X.K (.ref f) = true) (hb : Binds X.K fd ps [])
    (ha : DR X pn (e :: es) g) (hdb : (x == ("__debug__" : Str)) = false := by decide) (he : starEach (e :: es) X.env = (false, eval e X.env) :: starEach es X.env := by rfl) (hpl : (backTo pos (starEach es X.env)).any (·.1) = false := by rfl) :
    DN X pn (.Call (.Name x p) (e :: es) [] pos) (dCall sp g) := pe_weak (pe_callW F hr hg hm hk hb ha hdb he hpl) fun σ H Q q => low_call q
end
end DL

/-! text[i] -/
namespace DL
open PySem PySem.Spec PyProof.Rows L2
def gIxS : D → D → (D → Prop) → Prop := fun x y k => match x, y with
  | .str z, .int i => 0 ≤ i ∧ i < z.length ∧ z.length ≤ 100000 ∧ ∀ c ∈ z.cps.toList, k (.str ⟨#[c]⟩)
  | _, _ => False
theorem up_ixS {K : PySem.W.Frag} : Up2 K rIxS gIxS := by
  intro H F v u x y k Q hv hu g ok
  cases hv with
  | str a =>
    cases hu with
    | int i =>
      obtain ⟨h0, h1, h2, g⟩ := g
      have hl : i.toNat < a.cps.size := by
        have h1 : i < (a.cps.size : Int) := h1
        omega
      have hc : a.cps[i.toNat]? = some a.cps[i.toNat] := Array.getElem?_eq_getElem hl
      have hm : a.cps[i.toNat] ∈ a.cps.toList := by simp
      have e : atI a.cps.toList i = some a.cps[i.toNat] := atI_nat' (j := i.toNat) (by omega) (by rw [Array.getElem?_toList]; exact hc)
      refine ⟨a, i, _, rfl, rfl, small_le h2, e, ok.same (g _ hm) (.str _)⟩
    | _ => exact g.elim
  | _ => cases hu <;> exact g.elim
section
variable {X : Cx} {pn : List (Nat × V)} {a b : Expr} {fa fb : FE} {pos : Pos}
theorem d_ixS (ha : DE X pn a fa) (hb : DE X pn b fb) (hs : PlainIx b := by exact fun _ _ => rfl) : DE X pn (.Subscript a b pos) (dBin gIxS fa fb) :=
  pe_weak (pe_ix ix_str ha hb hs) fun σ H Q q => low_bin up_ixS q
end
end DL

/-! A comprehension over a range while an error is handled that stands frozen. -/
namespace DL
open PySem PySem.Spec PyProof.Rows L2 HotX
/-- the error that is handled stood frozen when the def was entered, its context is None -/
def HotF (X : Cx) : Prop := ∃ (a : Addr) (o : Obj) (u : HO) (vs : Array Value), X.A.handled = some (.ref a) ∧ X.H_0 a = some (.frz o u) ∧ o.data = .fields vs ∧ vs[2]? = some .none
theorem HotF.now {X : Cx} (h : HotF X) {pins : List (Addr × Obj)} {σ : L2.St} {H : Hp} {s : Shared} (I : Inv X pins σ H s) : ∃ a o u vs, X.A.handled = some (.ref a) ∧ H a = some (.frz o u) ∧ o.data = .fields vs ∧ vs[2]? = some Value.none ∧ s.heap.get? a = some o := by
  obtain ⟨a, o, u, vs, h1, h2, h3, h4⟩ := h
  have q := I.base.frzs a o u h2
  exact ⟨a, o, u, vs, h1, q, h3, h4, (I.hok a _ q).1⟩
theorem HotF.at {X : Cx} (h : HotF X) {pins : List (Addr × Obj)} {σ : L2.St} {H : Hp} {s : Shared} (I : Inv X pins σ H s) : ∃ x, HotAt X.A x s.heap := by
  obtain ⟨a, o, u, vs, h1, _, h3, h4, h5⟩ := h.now I
  exact ⟨a, h1, o, vs, h5, h3, h4⟩
theorem HotF.blk {X : Cx} (h : HotF X) {pins : List (Addr × Obj)} {σ : L2.St} {H : Hp} {s : Shared} (I : Inv X pins σ H s) (scope : Scope) (ce : Env) (fp : List Addr) : HotF (X.blk s H scope ce fp) := by
  obtain ⟨a, o, u, vs, h1, h2, h3, h4, _⟩ := h.now I
  exact ⟨a, o, u, vs, h1, h2, h3, h4⟩
/-- an iterator's turns, in contexts of which Cm is known -/
structure TurnC (Cm : Cx → Prop) (P : Program) (w : World) (K : PySem.W.Frag) (tg : Expr) (J : It) (fp : List Addr) (it : Addr) (tn : Nat → Heap → Prop) : Prop where
  obj : ∀ i h, tn i h → ∀ b ∈ fp, ∃ o, h.get? b = some o ∧ ∀ v, o.data ≠ .cell v
  keep : ∀ i h h', tn i h → (∀ b ∈ fp, ∀ o, h.get? b = some o → h'.get? b = some o) → tn i h'
  item : ∀ (X : Cx), X.prog = P → X.w = w → X.K = K → Cm X → ∀ (i : Nat) (s : Shared) (σ : L2.St) (H : Hp), Inv X [] σ H s → (∀ b ∈ fp, FpOk X [] H b) → tn i s.heap → J.go i H →
    wpAny (model P w) X.A (pyNext (.ref it)) (fun r s1 => ∃ u, r = some u ∧
      wpAny (model P w) X.A (letOwnedTupleGo tg (.ref it) u) (fun _ s2 => ∃ x H', Inv X [] σ H' s2 ∧ RelV x u ∧ J.yld i H x H' ∧ tn (i + 1) s2.heap ∧ ∀ b ∈ fp, H' b = none) (fun _ _ => False) s1) (fun _ _ => False) s
  done : ∀ (X : Cx), X.prog = P → X.w = w → X.K = K → Cm X → ∀ (i : Nat) (s : Shared) (σ : L2.St) (H : Hp), Inv X [] σ H s → (∀ b ∈ fp, FpOk X [] H b) → tn i s.heap → J.stop i H →
    wpAny (model P w) X.A (pyNext (.ref it)) (fun r s1 => r = none ∧ Inv X [] σ H s1) (fun _ _ => False) s
  self : ∀ (A : Around) (i : Nat) (s : Shared) (Q : Value → Shared → Prop) (E : Value → Shared → Prop), tn i s.heap → Q (.ref it) s → wpAny (model P w) A (pyIter (.ref it)) Q E s
theorem turnC_range {P : Program} {w : World} {K : PySem.W.Frag} {tg : Expr} (it : Addr) (lo : Int) (n : Nat) : TurnC HotF P w K tg (Itr lo n) [it] it (fun i h => IsRangeIter h it (lo + (i : Nat) * 1) ((n : Int) - (i : Nat)) 1) where
  obj := fun i h st b hb => by
    rw [List.mem_singleton.mp hb]
    exact ⟨_, st, fun v z => nomatch (show Data.fields _ = Data.cell v from z)⟩
  keep := fun i h h' st k => k it (List.mem_singleton.mpr rfl) _ st
  item := by
    rintro X rfl rfl rfl hc i s σ H I hf st hg
    obtain ⟨f0, f1, f2, f3, f4, f5⟩ := hf it (List.mem_singleton.mpr rfl)
    have hlt : i < n := hg
    refine wpAny_pyNext_range_item st (by omega) fun h' st' sb => ?_
    have st2 : IsRangeIter h' it (lo + ((i + 1 : Nat) : Int) * 1) ((n : Int) - ((i + 1 : Nat) : Int)) 1 := by
      rw [show lo + ((i + 1 : Nat) : Int) * 1 = lo + ((i : Nat) : Int) * 1 + 1 by omega, show (n : Int) - ((i + 1 : Nat) : Int) = (n : Int) - (i : Nat) - 1 by omega]
      exact st'
    have I1 : Inv X [] σ H { s with heap := h', toks := s.toks + 1 } := I.turned (fun b o hb e => (sb.2 b hb).trans e) f0 f1 f3 f4 f5
    refine ⟨_, rfl, go_of (s := { s with heap := h', toks := s.toks + 1 }) (n := "range_iterator") st2 rfl rfl (by decide) ⟨.int (lo + i), H, I1, ⟨s.toks, ?_⟩, ⟨rfl, rfl⟩, st2, fun b hb => (hf b hb).1⟩⟩
    rw [Int.mul_one]
  done := by
    rintro X rfl rfl rfl hc i s σ H I hf st hg
    obtain ⟨f0, f1, f2, f3, f4, f5⟩ := hf it (List.mem_singleton.mpr rfl)
    obtain ⟨x1, hot⟩ := hc.at I
    exact pyNext_range_end_hot hot st (by have : n ≤ i := hg; omega) fun h' eb => ⟨rfl, I.turned (t' := s.toks) (fun b o _ e => eb b o e) f0 f1 f3 f4 f5⟩
  self := fun _ _ _ _ _ st h => wpAny_pyIter_rangeiter st h
/-- an iterator that has come, for such contexts -/
def PIC (Cm : Cx → Prop) (X : Cx) (tg iter : Expr) (wi : TI) : Prop := ∀ (pins : List (Addr × Obj)) (s : Shared) (σ : L2.St) (H : Hp) (R : It → Hp → Prop), Inv X pins σ H s → wi σ H R →
  wpAny (model X.prog X.w) X.A (eval iter X.env) (fun v s1 => wpAny (model X.prog X.w) X.A (pyIter v) (fun itv s2 => ∃ (it : Addr) (fp : List Addr) (tn : Nat → Heap → Prop) (J : It) (H' : Hp), itv = .ref it ∧ Inv X pins σ H' s2 ∧ TurnC Cm X.prog X.w X.K tg J fp it tn ∧ tn 0 s2.heap ∧ (∀ b ∈ fp, FpOk X pins H' b) ∧ R J H') X.xe s1) X.xe s
theorem pic_range {X : Cx} {tg a : Expr} {ta : TA} {p pos : Pos} (hg : Gl X "range") (hm : X.mg "range" = none) (ha : PA X [a] ta) (hs : starEach [a] X.env = [(false, eval a X.env)] := by rfl) : PIC HotF X tg (.Call (.Name "range" p) [a] [] pos) (iRng1 ta) := by
  intro pins s σ H R I h
  refine Call_ (ld_blt I hg hm boot_range (PyProof.Rows.callWith_type1 (thn (ha.run pos pins s σ H _ I h) fun us s1 hu => ?_) hs rfl))
  obtain ⟨vs, H1, I1, r1, j, rfl, q1, q2, q⟩ := hu
  cases r1 with
  | cons r rr =>
    cases rr
    obtain ⟨t, rfl⟩ := r
    refine call_range_1 (wpAny_pyIter_range (IsRange.new ..) (small_one (by omega) (by omega) q1 q2) ?_)
    have I2 : Inv X pins σ H1 { s1 with heap := s1.heap.push { cls := .type "range", data := .fields #[.int 0 s1.toks, .int j t, .int 1 (s1.toks + 1)] }, toks := s1.toks + 1 + 1 } := I1.kept fun b o e => Heap.get?_push_of_some _ e
    refine ⟨_, [_], _, _, H1, rfl, I2.kept (t' := s1.toks + 1 + 1) fun b o e => Heap.get?_push_of_some _ e, turnC_range _ 0 j.toNat, ?_, fun b hb => ?_, q⟩
    · show IsRangeIter _ _ ((0 : Int) + ((0 : Nat) : Int) * 1) (((j.toNat : Nat) : Int) - ((0 : Nat) : Int)) 1
      rw [show (0 : Int) + ((0 : Nat) : Int) * 1 = 0 by decide, show ((j.toNat : Nat) : Int) - ((0 : Nat) : Int) = Builtin.Range.rangeSize 0 j 1 by rw [rangeSize_one]; split <;> omega]
      exact Heap.get?_push_size _ rfl
    · rw [List.mem_singleton.mp hb]
      exact I2.fpOk (Nat.le_refl _) (I2.hok.fresh (Nat.le_refl _))
section
variable {X : Cx} {Cm : Cx → Prop}
/-- the comprehension's own block, where Cm holds of the block -/
theorem lcCore {pins : List (Addr × Obj)} {s : Shared} {σ : L2.St} {H : Hp} {Q : VK} {elt tg iter : Expr} {ifs : List Expr} {scope : Scope} {own : List (Str × Nat)} {pos pos' : Pos} {wi : TI} {g : TG} {tt : TT} {te : TE} {use : Option (Value → Sem Unit)} {Qf : Value → Shared → Prop}
    (hb : ∀ {pins : List (Addr × Obj)} {σ : L2.St} {H : Hp} {s : Shared} (ce : Env) (fp : List Addr), Inv X pins σ H s → Cm (X.blk s H scope ce fp)) (hN : X.N.Nodup) (I : Inv X pins σ H s) (hi : PIC Cm X tg iter wi) (ok : BlkOk X.N X.env.scope scope own)
    (hg : Blk X scope fun Y => PG Y tg g) (ht : Blk X scope fun Y => PTs Y ifs tt) (he : Blk X scope fun Y => PE Y elt te) (hs : ∀ x, foldedSetIterable iter X.env x = pure x) (h : tLc wi g tt te (own.map (·.2)) σ H Q)
    (fin0 : ∀ D C s' m H', Inv X pins σ H' s' → Q (.ref D) H' → s'.heap.Ns C m → FpOk X pins H' C → compPost (model X.prog X.w) X.A X.xe use Qf (.ref D) C (.ok .next) s') :
    wpAny (model X.prog X.w) X.A (comprehension (.ListComp elt [⟨tg, iter, ifs, 0⟩] scope pos) scope X.env pos' (newList []) false (eval iter X.env) use) Qf X.xe s := by
  have hfree : ∀ y ∈ scope.names, y.2 = .free → ∃ c, X.env.cells.lookup y.1 = some c := fun y hy e => (ok.free y hy e).elim (fun k => I.ok.has _ (.inl k)) fun k => I.ok.has _ (.inr k)
  refine wpAny_comprehension_free (use := use) rfl hs (closure_ok hfree) ok.kind (fun y hy e => by rw [ok.uniq y hy, e]) (thn (hi pins s σ H _ I h) fun xv s1 hx => thn hx fun itv s2 h2 => ?_)
  obtain ⟨it, fp, tn, J, H2, rfl, I2, T, st2, f2, q⟩ := h2
  refine wpAny_newObj_type (newEnv_comp ?_) (by show 0 ≤ sizeLine; decide)
  generalize hD : s2.heap.objs.size = D
  obtain ⟨W, ⟨m0, w0⟩, turn⟩ := q D (I2.hok.fresh (Nat.le_of_eq hD))
  have push2 : ∀ (o : Obj) b u, s2.heap.get? b = some u → (s2.heap.push o).get? b = some u := fun o b u e => Heap.get?_push_of_some _ e
  generalize h3 : s2.heap.push { cls := .type "list", data := .seq ([] : List Value).toArray } = g3
  have I3 : Inv X pins σ (upd H2 D (.lst [])) { s2 with heap := g3 } := by
    rw [← h3]
    exact I2.laid (t' := s2.toks) (fun b u e => push2 _ b u e) (Nat.le_of_eq hD) ⟨Nat.zero_le _, [], 0, .nil, by rw [← hD]; exact Heap.get?_push_size _ rfl⟩
  have f3 : ∀ b ∈ fp, FpOk X pins (upd H2 D (.lst [])) b ∧ b < g3.objs.size := fun b hb => by
    obtain ⟨o, e, _⟩ := T.obj _ _ st2 b hb
    have hlt := Heap.lt_size e
    refine ⟨⟨?_, (f2 b hb).2⟩, by rw [← h3, Heap.size_push]; exact Nat.lt_succ_of_lt hlt⟩
    rw [upd_ne (by rw [← hD]; exact Nat.ne_of_lt hlt)]
    exact (f2 b hb).1
  have st3 : tn 0 g3 := T.keep _ _ _ st2 fun b _ o e => by rw [← h3]; exact push2 _ b o e
  have I4 := block_start I3 ok hN f3
  have hCm : ∀ ce : Env, Cm (X.blk { s2 with heap := g3 } (upd H2 D (.lst [])) scope ce fp) := fun ce => hb ce fp I3
  have pg := hg { s2 with heap := g3 } (upd H2 D (.lst [])) g3.objs.size (cellsFrom (g3.objs.size + 1) scope.names (cloFrom X.env.cells scope.names [])) fp
  have pt := ht { s2 with heap := g3 } (upd H2 D (.lst [])) g3.objs.size (cellsFrom (g3.objs.size + 1) scope.names (cloFrom X.env.cells scope.names [])) fp
  have pe := he { s2 with heap := g3 } (upd H2 D (.lst [])) g3.objs.size (cellsFrom (g3.objs.size + 1) scope.names (cloFrom X.env.cells scope.names [])) fp
  show codeAny _ _ (.compStart (.ListComp elt [⟨tg, iter, ifs, 0⟩] scope pos) 0 (.ref it) (.ref D) (compEnvC scope (cellsFrom (g3.objs.size + 1) scope.names (cloFrom X.env.cells scope.names [])) g3.objs.size X.env)) (compPost (model X.prog X.w) X.A X.xe use Qf (.ref D) g3.objs.size) { s2 with heap := pushCells (g3.push { cls := .type "dict", data := .dict #[] }) scope.names }
  have nfp : ∀ b ∈ fp, (upd H2 D (.lst [])) b = none := fun b hb => (f3 b hb).1.1
  generalize hce : compEnvC scope (cellsFrom (g3.objs.size + 1) scope.names (cloFrom X.env.cells scope.names [])) g3.objs.size X.env = ce at I4 pg pt pe ⊢
  have cL : ce.locals = g3.objs.size := by subst hce; rfl
  generalize upd H2 D (.lst []) = H3 at I3 I4 hCm pg pt pe w0 nfp f3
  generalize hs4 : ({ s2 with heap := pushCells (g3.push { cls := .type "dict", data := .dict #[] }) scope.names } : Shared) = s4 at I4 ⊢
  have st4 : tn 0 s4.heap := T.keep _ _ _ st3 fun b _ o e => by rw [← hs4]; exact pushCells_keeps _ _ _ _ (Heap.get?_push_of_some _ e)
  have stat : ∀ {σ' : L2.St} {H' : Hp} {s' : Shared}, Inv (X.blk { s2 with heap := g3 } H3 scope ce fp) [] σ' H' s' → (∀ b ∈ fp, H' b = none) → ∀ b ∈ fp, FpOk (X.blk { s2 with heap := g3 } H3 scope ce fp) [] H' b := fun {σ' H' s'} I' hn b hb =>
    ⟨hn b hb, (I'.ok.exf b hb).1, I'.ok.exfs b hb, .inl hb, fun x c e => (I'.ok.exf b hb).2 x c e, fun p hp => absurd (show p ∈ ([] : List (Addr × Obj)) ++ [] from hp) (by simp)⟩
  have loop : codeAny (model X.prog X.w) X.A (.compLoop (.ListComp elt [⟨tg, iter, ifs, 0⟩] scope pos) 0 (.ref it) (.ref D) ce) (compPost (model X.prog X.w) X.A X.xe use Qf (.ref D) g3.objs.size) s4 := by
    refine compLoop_any (fun n s' => ∃ i H', Inv (X.blk { s2 with heap := g3 } H3 scope ce fp) [] (wipe σ (own.map (·.2))) H' s' ∧ tn i s'.heap ∧ (∀ b ∈ fp, H' b = none) ∧ W i n H') ?_ m0 ⟨0, H3, I4, st4, nfp, w0⟩
    rintro n s5 ⟨i, H5, I5, st5, n5, w5⟩
    rcases turn i n H5 w5 with ⟨stop, qq⟩ | ⟨go, Nx, hNx, step⟩
    · refine thnF (T.done (X.blk { s2 with heap := g3 } H3 scope ce fp) rfl rfl rfl (hCm ce) i s5 _ H5 I5 (stat I5 n5) st5 stop) fun r s6 hr6 => ?_
      obtain ⟨rfl, I6⟩ := hr6
      have I7 : Inv X pins σ H5 s6 := I3.call' (ch := fp) I6.os I6.base I6.hok I6.bare fun b hb => ⟨(f3 b hb).1.2.2.2.1, (f3 b hb).1.2.1, (f3 b hb).1.2.2.2.2.1, (f3 b hb).1.2.2.2.2.2⟩
      have nC : H5 g3.objs.size = none := by
        have z : H5 ce.locals = none := I6.free
        rw [cL] at z
        exact z
      obtain ⟨m, hn, _⟩ := I6.loc
      have hn : s6.heap.Ns ce.locals m := hn
      rw [cL] at hn
      exact fin0 D g3.objs.size s6 m H5 I7 qq hn (I3.fpOk (Nat.le_refl _) nC)
    · refine thnF (T.item (X.blk { s2 with heap := g3 } H3 scope ce fp) rfl rfl rfl (hCm ce) i s5 _ H5 I5 (stat I5 n5) st5 go) fun r s6 hr6 => ?_
      obtain ⟨u, rfl, h6⟩ := hr6
      refine thnF h6 fun _ s7 h7 => ?_
      obtain ⟨x, H7, I7, r7, y7, st7, n7⟩ := h7
      refine thnF (pg.run _ s7 _ H7 x u _ (I7.pinned (stat I7 n7) (T.obj _ _ st7)) r7 (step x H7 y7)) fun _ s8 h8 => ?_
      obtain ⟨σ8, H8, I8, hw8, q8⟩ := h8
      refine thnF (pt.run _ s8 σ8 H8 _ I8 q8) fun b s9 h9 => ?_
      obtain ⟨H9, I9, q9⟩ := h9
      have fin : ∀ {s' : Shared} {H' : Hp}, Inv (X.blk { s2 with heap := g3 } H3 scope ce fp) ([] ++ pinsAt fp s7.heap) σ8 H' s' → Nx H' → ∃ m, m < n ∧ ∃ i H', Inv (X.blk { s2 with heap := g3 } H3 scope ce fp) [] (wipe σ (own.map (·.2))) H' s' ∧ tn i s'.heap ∧ (∀ b ∈ fp, H' b = none) ∧ W i m H' := fun {s' H'} I' nx => by
        obtain ⟨m', hm, w'⟩ := hNx H' nx
        have at7 : ∀ b ∈ fp, ∀ o, s7.heap.get? b = some o → s'.heap.get? b = some o ∧ H' b = none := fun b hb o e => by
          have z := I'.pin (b, o) (List.mem_append_right _ (List.mem_append_right _ (mem_pinsAt hb e)))
          exact ⟨z.1, z.2.1⟩
        refine ⟨m', hm, i + 1, H', (I'.unpinned (pins := [])).weak (by rw [← hw8, wipe_length]) (fun j v e => ?_), T.keep _ _ _ st7 fun b hb o e => (at7 b hb o e).1, fun b hb => ?_, w'⟩
        · rw [← hw8] at e
          exact (wipe_some e).1
        · obtain ⟨o, e, _⟩ := T.obj _ _ st7 b hb
          exact (at7 b hb o e).2
      cases b with
      | false =>
        simp only [Bool.false_eq_true, if_false] at q9 ⊢
        exact fin I9 q9
      | true =>
        simp only [if_true] at q9 ⊢
        refine thnF (pe.run _ s9 σ8 H9 _ I9 q9) fun z s10 h10 => ?_
        obtain ⟨yv, H10, I10, r10, acc, hD10, hz10, nx⟩ := h10
        exact app_ok (X := (X.blk { s2 with heap := g3 } H3 scope ce fp)) I10 hD10 hz10 r10 fun s11 I11 => fin I11 nx
  exact codeAny_compStart_list loop (T.self X.A 0 _ _ _ st4 loop)
theorem lcC {elt tg iter : Expr} {ifs : List Expr} {scope : Scope} {own : List (Str × Nat)} {pos : Pos} {wi : TI} {g : TG} {tt : TT} {te : TE} (hb : ∀ {pins : List (Addr × Obj)} {σ : L2.St} {H : Hp} {s : Shared} (ce : Env) (fp : List Addr), Inv X pins σ H s → Cm (X.blk s H scope ce fp)) (hN : X.N.Nodup) (hi : PIC Cm X tg iter wi) (ok : BlkOk X.N X.env.scope scope own)
    (hg : Blk X scope fun Y => PG Y tg g) (ht : Blk X scope fun Y => PTs Y ifs tt) (he : Blk X scope fun Y => PE Y elt te) (hs : ∀ x, foldedSetIterable iter X.env x = pure x := by intro _; rfl) : PE X (.ListComp elt [⟨tg, iter, ifs, 0⟩] scope pos) (tLc wi g tt te (own.map (·.2))) := by
  refine ⟨fun pins s σ H Q I h => ?_⟩
  rw [eval_ListComp]
  refine lcCore hb hN I hi ok hg ht he hs h fun D C s' m H' I' q hn f => ⟨m, hn, fun h'' sb => ?_⟩
  obtain ⟨z0, z1, z2, z3, z4, z5⟩ := f
  exact ⟨.ref D, H', I'.turned (t' := s'.toks) (fun b o hb e => (sb.2 b hb).trans e) z0 z1 z3 z4 z5, rfl, q⟩
/-- as the value of a local name on one line -/
theorem ps_setLcC {i : Nat} {y : Str} {py : Pos} {elt tg iter : Expr} {ifs : List Expr} {scope : Scope} {own : List (Str × Nat)} {pos spos : Pos} {wi : TI} {g : TG} {tt : TT} {te : TE} (hb : ∀ {pins : List (Addr × Obj)} {σ : L2.St} {H : Hp} {s : Shared} (ce : Env) (fp : List Addr), Inv X pins σ H s → Cm (X.blk s H scope ce fp)) (hN : X.N.Nodup) (hy : X.N[i]? = some y) (hyl : X.env.scope.names.lookup y = some .local)
    (hsw : swapsWith (.ListComp elt [⟨tg, iter, ifs, 0⟩] scope pos) (some (.Name y py)) spos.line X.env = pure true) (hi : PIC Cm X tg iter wi) (ok : BlkOk X.N X.env.scope scope own) (hg : Blk X scope fun Y => PG Y tg g) (ht : Blk X scope fun Y => PTs Y ifs tt) (he : Blk X scope fun Y => PE Y elt te)
    (hs : ∀ x, foldedSetIterable iter X.env x = pure x := by intro _; rfl) : PS X (.Assign [.Name y py] (.ListComp elt [⟨tg, iter, ifs, 0⟩] scope pos) spos) (tAsg (tLc wi g tt te (own.map (·.2))) (gName i)) := by
  refine ⟨fun pins s σ H D I h => ?_⟩
  rw [exec_Assign_Name_used _ _ _ _ hsw]
  refine wpAny_bind (wpAny_standAt (wpAny_bind (wpAny_bind (thn (lcCore (Qf := fun _ s' => SP X pins D .next s') (use := some (assign (.Name y py) X.env)) hb hN I hi ok hg ht he hs (Q := fun x H1 => gName i x σ H1 D.nx) h fun L C s' m H' I' q hn f => ?_) fun _ s' hq => wpAny_pure (wpAny_pure hq)))))
  show wpAny _ _ (assign (.Name y py) X.env (.ref L)) _ _ _
  refine wpAny_assign_Name (store_ok2 (v := V.ref L) I' hN hy (.inl hyl) rfl (fun s2 I2 h2 => ?_) (.inr hyl))
  obtain ⟨a, sb, ha⟩ := h2
  obtain ⟨f0, f1, f2, f3, f4, f5⟩ := f
  refine ⟨m, hn.sameBut sb (ha.elim (fun z => by rw [z]; exact f1) fun z e => f4 y a z e.symm), fun h3 sb3 => ?_⟩
  exact ⟨_, H', I2.turned (t' := s2.toks) (fun b o hb e => (sb3.2 b hb).trans e) f0 f1 f3 f4 f5, q⟩
end
end DL

/-! Defs that are asked about the error that is handled: FnE. -/
namespace DL
open PySem PySem.Spec PyProof.Rows L2
theorem u64W {k : Nat} {A : Around} (h : RoomW k A) : A.units + 64 < cLine := by have := h.un; omega
theorem u64S {k : Nat} {A B : Around} (h : Room k A) (e : B.units = A.units) : B.units + 64 < cLine := by have := h.un; omega
theorem u65W {k : Nat} {A : Around} (h : RoomW k A) : A.units + 65 < cLine := by have := h.un; omega
theorem u65S {k : Nat} {A B : Around} (h : Room k A) (e : B.units = A.units) : B.units + 65 < cLine := by have := h.un; omega
theorem u0W {k : Nat} {A : Around} (h : RoomW k A) : A.units  < cLine := by have := h.un; omega
theorem u0S {k : Nat} {A B : Around} (h : Room k A) (e : B.units = A.units) : B.units  < cLine := by have := h.un; omega
theorem u1W {k : Nat} {A : Around} (h : RoomW k A) : A.units + 1 < cLine := by have := h.un; omega
theorem u1S {k : Nat} {A B : Around} (h : Room k A) (e : B.units = A.units) : B.units + 1 < cLine := by have := h.un; omega
/-- the error that is handled stands frozen, its context is None -/
def HotH (A : Around) (H : Hp) : Prop := ∃ (a : Addr) (o : Obj) (u : HO) (vs : Array Value), A.handled = some (.ref a) ∧ H a = some (.frz o u) ∧ o.data = .fields vs ∧ vs[2]? = some .none
structure FnE (P : Program) (w : World) (K : PySem.W.Frag) (mg : Str → Option Value) (base : Heap) (CX : CXT) (k : Nat) (f : Addr) (fd : FuncData) (ps : List Str) (sp : Sp) : Prop where
  len : ∀ vs H Q E, sp vs H Q E → vs.length = ps.length
  run : ∀ (A : Around) (outer : List Env) (s : Shared) (H : Hp) (args : Args) (us : List Value) (vs : List V) (Q : VK) (E : XK), RoomW k A → HotH A H → Env0 P w K mg base A outer s H → BindsTo s fd args (ps.zip us) → Vals vs us → sp vs H Q E →
    codeAny (model P w) A (.call (.ref f) args) (CR CX outer P w H s Q E) s
section
variable {P : Program} {w : World} {K : PySem.W.Frag} {mg : Str → Option Value} {base : Heap}
theorem HotH.f {A : Around} {H : Hp} (h : HotH A H) {N : List Str} {qual : Str} {scope : Scope} {f : Addr} {cd : Value} {outer : List Env} {s : Shared} {E : XK} : HotF (cxW P w K mg base N qual scope f cd A outer s H E).nox := h
theorem Fun.okE {x qual : Str} {st : Stmt} {f : Addr} {fd : FuncData} {N ps : List Str} {k : Nat} {sp : Sp} (F : Fun K x qual st f fd) (S : FnScope N ps (defScope st)) (len : ∀ vs H Q E, sp vs H Q E → vs.length = ps.length)
    (hbody : ∀ (cdv : Value) (A : Around) (outer : List Env) (s : Shared) (H : Hp) (vs : List V) (Q : VK) (E : XK), HotH A H → RoomW k (A.deeper (envOfC qual (defScope st) s.heap.objs.size f cdv)) → sp vs H Q E →
      ∃ t, PSs (cxW P w K mg base N qual (defScope st) f cdv A outer s H E).nox (defBody st) t ∧ t { nx := fun _ H' => Q .non H', rt := Q } (L2.start N vs) H) : FnE P w K mg base CX0 (k + 1) f fd ps sp := by
  obtain ⟨oc, od, kV, doc, pm, an, cdv, ct, osl, rfl, lk, hcd⟩ := F.ex
  refine ⟨len, fun A outer s H args us vs Q E hr hh e0 hb r hsp => ?_⟩
  have KX : K.In s.heap := e0.mod.kin.keeps fun b o e => (e0.bs b o e).1
  have lim : s.heap.NoLimit := e0.mod.nolimit.keeps fun b o e => (e0.bs b o e).1
  have dp := hr.dp
  have un' := hr.un
  have hk : ∀ y ∈ ps.zip us, (defScope st).names.lookup y.1 = some .local ∨ ((defScope st).names.lookup y.1 = some .cell ∧ ((cellsFrom (s.heap.objs.size + 1) (defScope st).names []).lookup y.1).isSome = true) := fun y hy =>
    (S.par y.1 (List.of_mem_zip (a := y.1) (b := y.2) hy).1).imp_right fun q => ⟨q, PySem.W.cellsFrom_some _ _ _ (.inl q)⟩
  refine codeAny_call_function (by omega) (KX _ _ lk) rfl S.co S.gen rfl (PySem.W.codeRec_of KX hcd) (hb _ _ _ _ (wpAny_newFunctionEnv_cells S.kind hk fun env he s1 x => ?_))
  subst he
  refine ⟨lim.keeps x.toInCall.keep, codeAny_func ?_⟩
  obtain ⟨t, ht, hq⟩ := hbody cdv A outer s H vs Q E hh ⟨by show A.depth + 1 + 3 * k + 5 < _; omega, by show A.units + 3 + 16 * k + 200 < _; omega⟩ hsp
  have I0 := inv_start (CX := CX0) (f := f) (cd := cdv) (E := E) (A := un A) S rfl ⟨e0.frames, e0.mod, e0.bs, e0.bsz, e0.funs, e0.frf, e0.hok, e0.bare⟩ (len _ _ _ _ hsp) r x
  have I : Inv (cxW P w K mg base N qual (defScope st) f cdv A outer s H E) [] (L2.start N vs) H s1 :=
    ⟨⟨I0.ok.mod, I0.ok.kind, I0.ok.glob, I0.ok.blt, I0.ok.above, I0.ok.inj, I0.ok.has, I0.ok.cab, fun z => Bool.noConfusion (show false = true from z), Around.frames_deeper e0.frames, I0.ok.stk, I0.ok.exf, I0.ok.bs, I0.ok.bsz, I0.ok.noex, I0.ok.exfs, I0.ok.funs, I0.ok.frf⟩,
      I0.os, I0.bare, I0.base, I0.loc, I0.cell, I0.free, I0.freeC, I0.pin, I0.hok, I0.len⟩
  have fin : ∀ {σ' : L2.St} {H' : Hp} {v : V} {u : Value} {s' : Shared}, Inv (cxW P w K mg base N qual (defScope st) f cdv A outer s H E) [] σ' H' s' → RelV v u → Q v H' → CE outer P w H s Q u s' :=
    fun J rv q => ⟨_, _, J.os, J.bare, J.base, J.hok, rv, q⟩
  refine wpAny_mono (ht.nox.run [] s1 _ H _ I hq) (fun fl s' hs => ?_) fun e s' hs => hs
  cases fl with
  | ret u => obtain ⟨v, _, _, J, rv, q⟩ := hs; exact fin J rv q
  | next => obtain ⟨_, _, J, q⟩ := hs; exact fin (v := V.non) (u := Value.none) J rfl q
  | brk => obtain ⟨_, _, _, q⟩ := hs; exact q.elim
  | cont => obtain ⟨_, _, _, q⟩ := hs; exact q.elim
theorem ok_ofE {x qual : Str} {st : Stmt} {f : Addr} {fd : FuncData} {N ps : List Str} {k : Nat} {sp : SpD} {g : FS} (F : Fun K x qual st f fd) (S : FnScope N ps (defScope st))
    (hb : ∀ (cdv : Value) (A : Around) (outer : List Env) (s : Shared) (H : Hp) (pn : List (Nat × V)) (E : XK), HotF (cxW P w K mg base N qual (defScope st) f cdv A outer s H E).nox → RoomW k (A.deeper (envOfC qual (defScope st) s.heap.objs.size f cdv)) → (∀ i : Nat, (pn.any fun p => p.1 == i) = false) →
      DSs (cxW P w K mg base N qual (defScope st) f cdv A outer s H E).nox pn (defBody st) g)
    (hs : ∀ ds R, sp ds R → ds.length = ps.length ∧ frs [] 0 ds = true ∧ g { nx := fun L => outsK [] L 0 ds fun ds' => R .non ds', rt := fun d L => outsK [] L 0 ds fun ds' => R d ds' } (ds.map some ++ List.replicate (N.length - ps.length) none)) :
    FnE P w K mg base CX0 (k + 1) f fd ps (lowF K sp) := by
  refine Fun.okE F S (fun vs H Q E h => ?_) (fun cdv A outer s H vs Q E hh hr h => ?_)
  · obtain ⟨F, A, ds, R, l, _, h, _⟩ := h
    have := l.length
    simp only [List.length_map] at this
    rw [this]
    exact (hs ds R h).1
  · obtain ⟨F, A0, ds, R, l, sn, h, post⟩ := h
    obtain ⟨hlen, hfr, hg⟩ := hs ds R h
    have hvl : vs.length = ds.length := by simpa using l.length
    refine ⟨_, hb cdv A outer s H [] E hh.f hr (fun i => rfl), ?_⟩
    have e0 : L2.start N vs = vs.map some ++ List.replicate (N.length - ps.length) none := by unfold L2.start; rw [hvl, hlen]
    rw [e0]
    refine ⟨F, A0, _, _, ⟨l.nones _, sn, fun p hp => by simp at hp⟩, hg, ⟨fun σ' L' F' A' H' r x lo => ?_, fun _ _ _ _ _ r => r.elim, fun _ _ _ _ _ r => r.elim, fun d σ' L' v F' A' B H' r x lo o s n => ?_⟩⟩
    · obtain ⟨ds', A2, q, l2, s2⟩ := outs_loc (Later.of sn x) l hfr lo.loc (fun i _ d e => e) (fun _ _ => rfl) (fun i v e c => by simp at c) r
      exact post .non ds' .non F' A2 no H' q (x.less fun a z => z.elim (s2 a) fun z => z.elim) l2 (.fr .non) ⟨lo.ok.f, fun a z => z.elim (fun z => lo.ok.a a (s2 a z)) fun z => z.elim⟩ fun _ z => z.elim
    · obtain ⟨ds', A2, q, l2, s2⟩ := outs_loc (Later.of sn x) l hfr lo.loc (fun i _ d e => e) (fun _ _ => rfl) (fun i v e c => by simp at c) r
      exact post d ds' v F' A2 B H' q (x.less fun a z => z.imp_left (s2 a)) l2 o ⟨lo.ok.f, fun a z => z.elim (fun z => lo.ok.a a (s2 a z)) (s.a a)⟩ fun a z y => n a z (s2 a y)
end
section
variable {X : Cx} {pn : List (Nat × V)} {k : Nat} {f : Addr} {fd : FuncData} {ps : List Str} {x n : Str} {p pos : Pos} {i : Nat} {a : Addr}
theorem pe_callE {sp : Sp} (F : FnE X.prog X.w X.K X.mg X.base CX0 k f fd ps sp) (hr : RoomW k X.A) (hg : Gl X x) (hm : X.mg x = some (.ref f)) (hk : PySem.W.keepIn X.K (.ref f) = true) (hb : Binds X.K fd ps []) (hN : X.N[i]? = some n) (hv : Vis X.env.scope n)
    (hd : (n == ("__debug__" : Str)) = false := by decide) (hcd : (n == ("__classdict__" : Str)) = false := by decide) (hdb : (x == ("__debug__" : Str)) = false := by decide) (he : starEach [.Name n p] X.env = (false, eval (.Name n p) X.env) :: starEach [] X.env := by rfl) (hpl : (backTo pos (starEach [] X.env)).any (·.1) = false := by rfl) {q : Pos} :
    PE X (.Call (.Name x q) [.Name n p] [] pos) (fun σ H Q => ∃ v, σ[i]? = some (some v) ∧ HotH X.A H ∧ sp [v] H Q E0) := by
  refine ⟨fun pins s σ H Q I h => ?_⟩
  obtain ⟨v, hσ, hh, h⟩ := h
  have ha : PA X [.Name n p] (tCons (tVar i) tNil) := pa_cons (pe_var hN hv hd hcd) pa_nil he
  refine wpAny_Call_Name_kw (ld_glob I hg hm (PySem.W.callWith_K (h₀ := X.base) I.ok.mod.kin hk (thn (ha.run pos pins s σ H (fun vs H1 => vs = [v] ∧ H1 = H) I ⟨v, hσ, rfl, rfl⟩) fun us s1 hu => ?_) he hpl) hdb)
  obtain ⟨vs, H1, I1, r, rfl, rfl⟩ := hu
  refine ⟨I1.kIn, wpAny_call (codeAny_mono (F.run X.A X.stack s1 H1 ⟨us, []⟩ us [v] _ E0 hr hh I1.env0 ?_ r h) fun r s' hq => ?_)⟩
  · have b := hb s1 us I1.kIn (by rw [List.append_nil, ← r.length]; exact F.len _ _ _ _ h)
    rw [List.append_nil] at b
    exact b
  · cases r with
    | error e => exact hq.elim
    | ok fl =>
      cases fl with
      | ret u => exact I1.after hq
      | next => exact hq.elim
      | brk => exact hq.elim
      | cont => exact hq.elim
/-- the argument is the error that is handled -/
def dArgEr (i : Nat) : FR := fun L Q => (∃ C fs, L[i]? = some (some (.er C fs))) ∧ dArgE (dVar i) dArgN L Q
theorem hot_of {K : PySem.W.Frag} {H : Hp} {F : Fp} {A : Around} {C : Addr} {fs : List (Str × D)} (hh : A.handled = some (.ref a)) (fr : Fr K H F (.ref a) (.er C fs)) : HotH A H := by
  cases fr with
  | er0 f h z d => obtain ⟨vs, ed⟩ := d; exact ⟨a, _, _, vs, hh, h, ed, z.2.2 vs ed⟩
  | erD f h z d _ _ _ _ => obtain ⟨vs, ed⟩ := d; exact ⟨a, _, _, vs, hh, h, ed, z.2.2 vs ed⟩
theorem d_callE {sp : SpD} (F : FnE X.prog X.w X.K X.mg X.base CX0 k f fd ps (lowF X.K sp)) (hr : RoomW k X.A) (hh : X.A.handled = some (.ref a)) (hpn : (i, V.ref a) ∈ pn) (hg : Gl X x) (hm : X.mg x = some (.ref f)) (hk : PySem.W.keepIn X.K (.ref f) = true) (hb : Binds X.K fd ps []) (hN : X.N[i]? = some n := by rfl) (hv : Vis X.env.scope n := by first | exact Or.inl rfl | exact Or.inr (Or.inl rfl) | exact Or.inr (Or.inr rfl))
    (hd : (n == ("__debug__" : Str)) = false := by decide) (hcd : (n == ("__classdict__" : Str)) = false := by decide) (hdb : (x == ("__debug__" : Str)) = false := by decide) (he : starEach [.Name n p] X.env = (false, eval (.Name n p) X.env) :: starEach [] X.env := by rfl) (hpl : (backTo pos (starEach [] X.env)).any (·.1) = false := by rfl) {q : Pos} :
    DN X pn (.Call (.Name x q) [.Name n p] [] pos) (dCall sp (dArgEr i)) := pe_weak (pe_callE F hr hg hm hk hb hN hv hd hcd hdb he hpl) fun σ H Q q => by
  obtain ⟨F1, A, L, R, lo, h, p⟩ := low_call (E := E0) q
  obtain ⟨⟨C, fs, e⟩, h⟩ := h
  obtain ⟨v, B, h1, h2, h3⟩ := lo.loc.get e
  have hp := lo.pin _ hpn
  rw [hp] at h1
  cases h1
  have fr := h2.isFr rfl
  refine ⟨_, hp, hot_of hh fr, ?_⟩
  have h : dArgE (dVar i) dArgN L R := h
  unfold dArgE dVar at h
  rw [e] at h
  exact p _ L [_] F1 A H h .refl lo (.v fr .nil)
end
/-! ### loops there -/
section
variable {X : Cx} {pn : List (Nat × V)} {tg iter elt e : Expr} {ga : FA} {p pos : Pos} {ifs : List Expr} {scope : Scope} {own : List (Str × Nat)} {js : List Nat} {fi : FI} {t : FG} {c : FT} {f : FE}
theorem pic_weak {Cm : Cx → Prop} {t t' : TI} (h : PIC Cm X tg e t) (w : ∀ σ H R, t' σ H R → t σ H R) : PIC Cm X tg e t' := fun pins s σ H R I q => h pins s σ H R I (w σ H R q)
theorem i_rangeH (hg : Gl X "range") (hm : X.mg "range" = none) (ha : DA X pn [e] ga) (hs : starEach [e] X.env = [(false, eval e X.env)] := by rfl) : PIC HotF X tg (.Call (.Name "range" p) [e] [] pos) (lowI X.K pn (iRange1 ga)) :=
  pic_weak (pic_range hg hm (pa_weak ha fun _ _ _ h => h) hs) fun σ H R q => by
    obtain ⟨F, A, L, RR, lo, h, p⟩ := q
    refine ⟨F, A, L, _, lo, h, fun x L1 v F1 A1 H1 h1 e1 lo1 f1 => ?_⟩
    match x, h1, f1 with
    | [.int j], h1, f1 =>
      obtain ⟨v, rfl, fv⟩ := f1.one
      cases fv
      exact ⟨j, rfl, h1.1, h1.2.1, p _ L1 F1 A1 H1 (Itr 0 j.toNat) h1.2.2 e1 lo1 (by unfold rng; rw [Int.sub_zero]; exact walk_range)⟩
theorem d_lcH (hot : HotF X) (hN : X.N.Nodup) (hi : PIC HotF X tg iter (lowI X.K pn fi)) (ok : BlkOk X.N X.env.scope scope own) (hj : ∀ j ∈ js, j ∈ lcOwn own) (hp : (lcOwn own).all (fun v => !pn.any fun p => p.1 == v) = true)
    (hg : Blk X scope fun Y => PG Y tg (lowG Y.K pn js t)) (ht : Blk X scope fun Y => PTs Y ifs (lowT Y.K pn c)) (he : Blk X scope fun Y => DE Y pn elt f) (hs : ∀ x, foldedSetIterable iter X.env x = pure x := by intro _; rfl) :
    DE X pn (.ListComp elt [⟨tg, iter, ifs, 0⟩] scope pos) (dLc (lcOwn own) fi t c f .lst) := pe_weak (lcC (Cm := HotF) (fun ce fp I => hot.blk I scope ce fp) hN hi ok hg ht he hs) fun σ H Q q => low_lcF hj hp q
theorem d_setLcH {i : Nat} {y : Str} {py spos : Pos} (hot : HotF X) (hN : X.N.Nodup) (hy : X.N[i]? = some y) (hyl : X.env.scope.names.lookup y = some .local) (hpi : (pn.any fun p => p.1 == i) = false)
    (hsw : swapsWith (.ListComp elt [⟨tg, iter, ifs, 0⟩] scope pos) (some (.Name y py)) spos.line X.env = pure true) (hi : PIC HotF X tg iter (lowI X.K pn fi)) (ok : BlkOk X.N X.env.scope scope own) (hj : ∀ j ∈ js, j ∈ lcOwn own) (hp : (lcOwn own).all (fun v => !pn.any fun p => p.1 == v) = true)
    (hg : Blk X scope fun Y => PG Y tg (lowG Y.K pn js t)) (ht : Blk X scope fun Y => PTs Y ifs (lowT Y.K pn c)) (he : Blk X scope fun Y => DE Y pn elt f) (hs : ∀ x, foldedSetIterable iter X.env x = pure x := by intro _; rfl) :
    DS X pn (.Assign [.Name y py] (.ListComp elt [⟨tg, iter, ifs, 0⟩] scope pos) spos) (dSet i (dLc (lcOwn own) fi t c f .lst)) := ps_weak (ps_setLcC (Cm := HotF) (fun ce fp I => hot.blk I scope ce fp) hN hy hyl hsw hi ok hg ht he hs) fun E σ H q => by
  obtain ⟨F, A, L, D, lo, hg, p⟩ := q
  refine low_lcF hj hp ⟨F, A, L, _, lo, hg, fun x L1 v F1 A1 H1 h1 e1 lo1 f1 => ?_⟩
  obtain ⟨A', l, s⟩ := lo1.set (.fr f1) (sane_no lo1.ok.f) (fun _ z => z.elim) hpi
  exact p.nx _ _ F1 A' H1 h1 (e1.less fun a z => (s a z).elim (fun z => z.elim) id) l
theorem d_setLcPH {i : Nat} {y : Str} {py spos : Pos} (hot : HotF X) (hN : X.N.Nodup) (hy : X.N[i]? = some y) (hyl : X.env.scope.names.lookup y = some .local) (hpi : (pn.any fun p => p.1 == i) = false)
    (hsw : swapsWith (.ListComp elt [⟨tg, iter, ifs, 0⟩] scope pos) (some (.Name y py)) spos.line X.env = pure true) (hi : PIC HotF X tg iter (lowI X.K pn fi)) (ok : BlkOk X.N X.env.scope scope own) (hj : ∀ j ∈ js, j ∈ lcOwn own) (hp : (lcOwn own).all (fun v => !pn.any fun p => p.1 == v) = true)
    (hg : Blk X scope fun Y => PG Y tg (lowG Y.K pn js t)) (ht : Blk X scope fun Y => PTs Y ifs (lowT Y.K pn c)) (he : Blk X scope fun Y => DE Y pn elt f) (hs : ∀ x, foldedSetIterable iter X.env x = pure x := by intro _; rfl) :
    DS X pn (.Assign [.Name y py] (.ListComp elt [⟨tg, iter, ifs, 0⟩] scope pos) spos) (dSet i (dPure (dLc (lcOwn own) fi t c f .lst))) := ps_weak (ps_setLcC (Cm := HotF) (fun ce fp I => hot.blk I scope ce fp) hN hy hyl hsw hi ok hg ht he hs) fun E σ H q => by
  obtain ⟨F, A, L, D, lo, ⟨m, hg⟩, p⟩ := q
  obtain ⟨A1, lo1, n1, back⟩ := lo_pure lo m
  refine low_lcF hj hp ⟨_, A1, _, _, lo1, hg, fun x L1 v F1 A2 H1 hx1 e1 l1 f1 => ?_⟩
  obtain ⟨hx, h1⟩ := hx1
  obtain ⟨b1, b2, b3⟩ := back e1
  have lo2 := b2 l1.ok.f
  obtain ⟨A', l, s⟩ := lo2.set (.fr (b3 f1 hx)) (sane_no lo2.ok.f) (fun _ z => z.elim) hpi
  exact p.nx _ _ _ A' H1 h1 (b1.less fun a z => (s a z).elim (fun z => z.elim) id) l
end
/-! ### the clause whose name is pinned -/
def cAsE (i : Nat) (h : FS) : FC := fun E C fs L => i < L.length ∧ cAs i h E C fs L
section
variable {X : Cx} {pn : List (Nat × V)} {W : WX} {x n : Str} {c : Value} {i : Nat} {suite : List Stmt} {b₀ : Stmt} {np pos' : Pos} {h : FS} {f : FC} {hds : List ExceptHandler}
theorem c_asE {K : PySem.W.Frag} (hK : X.K = K) (hs : X.stack = X.env :: X.outer) (hf : X.env.frame = some X.env.locals) (hex : X.ex = []) (hN : X.N.Nodup) (hi : X.N[i]? = some n) (hln : X.env.kindOf n = some .local) (hc : Names X x c) (hp : (pn.any fun p => p.1 == i) = false) (hsu : ∀ (a : Addr) (pn' : List (Addr × Obj)), DSs (X.suite a pn') ((i, V.ref a) :: pn) (b₀ :: suite) h) (hr : PHs X hds (lowC X.K pn f)) :
    PHs X (.ExceptHandler (some (.Name x np)) (some n) (b₀ :: suite) pos' :: hds) (lowC X.K pn (cIf (Takes1 K c) (cAsE i h) f)) := ph_weak (ph_as (ts := fun a _ _ => lowS X.K ((i, V.ref a) :: pn) h) hs hf hex hN hi hln hc (fun a _ _ pn' => hsu a pn') hr) fun W D σ H a cls d q => by
  obtain ⟨C, F, A, L, fs, Dn, rfl, na, lo, xf, g, p, px⟩ := q
  subst hK
  rcases g with ⟨m, hil, g⟩ | ⟨m, g⟩
  · refine ⟨true, m, fun _ oe z ed => ?_, fun z => (nomatch z)⟩
    obtain ⟨l1, x1, fr⟩ := hold lo na xf z ed
    obtain ⟨A2, l2, s2⟩ := l1.set (i := i) (.fr fr) (sane_no l1.ok.f) (fun _ z => z.elim) hp
    have hlt : i < σ.length := by rw [lo.loc.length]; exact hil
    have w := p.gone (W := W) (x1.less fun y z => (s2 y z).elim (fun z => z.elim) id) hp
    have un : ∀ {H' : Hp} {F' A' : Fp} {σ' : List (Option V)} {L' : Ls}, Lo X.K H' F' ((i, V.ref a) :: pn) σ' L' A' → Lo X.K H' F' pn σ' L' A' := fun l => ⟨l.loc, l.ok, fun p hp => l.pin p (List.mem_cons_of_mem _ hp)⟩
    refine ⟨_, A2, _, _, ⟨l2.loc, l2.ok, fun p hp => ?_⟩, g, ⟨fun σ' L' F' A' H' r x l => w.nx σ' L' F' A' H' r x (un l), fun σ' L' F' A' H' r x l => w.bk σ' L' F' A' H' r x (un l), fun σ' L' F' A' H' r x l => w.ct σ' L' F' A' H' r x (un l), fun d σ' L' v F' A' B H' r x l o s n => w.rt d σ' L' v F' A' B H' r x (un l) o s n⟩⟩
    rcases List.mem_cons.mp hp with rfl | hp
    · exact List.getElem?_set_self hlt
    · exact l2.pin p hp
  · exact ⟨false, m, fun z => (nomatch z), fun _ => ⟨C, F, A, L, fs, Dn, rfl, na, lo, xf, g, p, px⟩⟩
end
end DL

/-! text.upper() -/
namespace DL
open PySem PySem.Spec PyProof.Rows L2
def gUpper : Str → (D → Prop) → Prop := fun a k => a.length ≤ 5592405 ∧ k (.str (Txt.upper a))
theorem up_upper {K : PySem.W.Frag} : UpS0 K (fun x xs H Q => ∃ a, x = .str a ∧ xs = [] ∧ a.length ≤ 5592405 ∧ Q (.str (Txt.upper a)) H) gUpper := fun H F a k Q g ok => ⟨a, rfl, rfl, g.1, ok.same g.2 (.str _)⟩
end DL

/-! text.replace('..', '..') within a list whose first item is a written text (a token is given before it) -/
namespace DL
open PySem PySem.Spec PyProof.Rows L2
abbrev DET (X : Cx) (pn : List (Nat × V)) (e : Expr) (f : FE) : Prop := PET X e (low X.K pn f)
abbrev DAT (X : Cx) (pn : List (Nat × V)) (es : List Expr) (f : FA) : Prop := PAT X es (lowA X.K pn f)
def dRepl (y z : Str) (fo : FE) : FE := fun L Q => fo L fun d L1 => match d with
  | .str x => x.length + (x.length + 1) * z.length ≤ 16777216 ∧ Q (.str (PySem.Txt.replace x y z)) L1
  | _ => False
section
variable {X : Cx} {pn : List (Nat × V)} {e o : Expr} {es : List Expr} {f fo : FE} {ga : FA} {x y z : Str} {j k : Nat} {c0 c1 apos pos : Pos}
theorem det_of (h : DE X pn e f) : DET X pn e f := fun pins s σ H Q _ I q => h.run pins s σ H Q I q
theorem det_repl (ho : DE X pn o fo) (hyz : (y == z) = false := by decide)
    (hst : starEach [.Constant (.str y) j c0, .Constant (.str z) k c1] X.env = [(false, eval (.Constant (.str y) j c0) X.env), (false, eval (.Constant (.str z) k c1) X.env)] := by rfl)
    (hbase : attributeBase o "replace" X.env (eval o X.env) = eval o X.env := by rfl) (hline : (apos.endLine == pos.line) = true := by rfl) :
    DET X pn (.Call (.Attribute o "replace" apos) [.Constant (.str y) j c0, .Constant (.str z) k c1] [] pos) (dRepl y z fo) := fun pins s σ H Q h0 I q => by
  refine CwR.pet_replC (y := y) (z := z) ho hyz hst hbase hline pins s σ H Q h0 I ?_
  obtain ⟨F, A, L, R, lo, h, p⟩ := q
  refine ⟨F, A, L, _, lo, h, fun d L1 v F1 A1 H1 h1 e1 lo1 f1 => ?_⟩
  cases f1 with
  | str a => exact ⟨a, rfl, h1.1, p _ L1 _ F1 A1 H1 h1.2 e1 lo1 (.str _)⟩
  | _ => exact h1.elim
theorem dat_nil : DAT X pn [] dNilA := fun pos pins s σ H Q _ I q => d_nilA.run pos pins s σ H Q I q
theorem dat_cons (ha : DET X pn e f) (hr : DAT X pn es ga) (hs : starEach (e :: es) X.env = (false, eval e X.env) :: starEach es X.env := by rfl) : DAT X pn (e :: es) (dConsA f ga) := fun pos pins s σ H Q h0 I q => by
  refine pat_cons ha hr hs pos pins s σ H Q h0 I ?_
  obtain ⟨F, A, L, R, lo, h, p⟩ := q
  refine ⟨F, A, L, _, lo, h, fun x L1 v F1 A1 H1 h1 e1 lo1 f1 => ⟨F1, A1, L1, _, lo1, h1, fun ys L2 us F2 A2 H2 h2 e2 lo2 f2 => ?_⟩⟩
  exact p (x :: ys) L2 (v :: us) F2 A2 H2 h2 (e1.trans e2) lo2 (.cons (f1.ext lo1.ok e2) f2)
/-- the first item is a written text -/
theorem d_consT (hr : DAT X pn es ga) (hs : starEach (.Constant (.str x) j c0 :: es) X.env = (false, eval (.Constant (.str x) j c0) X.env) :: starEach es X.env := by rfl) : DA X pn (.Constant (.str x) j c0 :: es) (dConsA (dC (.str x)) ga) := ⟨fun pos pins s σ H Q I q => by
  rw [hs]
  show wpAny _ _ (spliced ((false, eval (.Constant (.str x) j c0) X.env) :: backTo pos (starEach es X.env))) _ _ s
  refine Calls.spliced_cons (Calls.Constant_str ?_)
  obtain ⟨F, A, L, R, lo, h, p⟩ := q
  refine thn (hr pos pins _ σ H (fun us H2 => Q (.str x :: us) H2) (by show 1 ≤ s.toks + 1; omega) (I.tok _) ⟨F, A, L, _, lo, h, fun ys L2 us F2 A2 H2 h2 e2 lo2 f2 => p (.str x :: ys) L2 (.str x :: us) F2 A2 H2 h2 e2 lo2 (.cons (.str x) f2)⟩) fun us s2 h2 => ?_
  obtain ⟨xs, H2, I2, r2, q2⟩ := h2
  exact ⟨.str x :: xs, H2, I2, .cons ⟨_, rfl⟩ r2, q2⟩⟩
end
end DL

/-! t >= u of rows of ints -/
namespace DL
open PySem PySem.Spec PyProof.Rows L2
theorem lex_shift {e r : Nat → Bool} {z : Bool} : ∀ (k i : Nat), Ob.lexAt e r z (i + 1) k = Ob.lexAt (fun j => e (j + 1)) (fun j => r (j + 1)) z i k
  | 0, _ => rfl
  | k + 1, i => by
    rw [Ob.lexAt_succ, Ob.lexAt_succ, lex_shift k (i + 1)]
theorem ge_lex : ∀ ns ms : List Int, Ob.lexAt (fun j => decide (ns.getD j 0 = ms.getD j 0)) (fun j => decide (ms.getD j 0 ≤ ns.getD j 0)) (decide (ns.length ≥ ms.length)) 0 (min ns.length ms.length) = decide (ms ≤ ns)
  | [], [] => by rw [decide_eq_true (NK.row_le_refl [])]; rfl
  | [], y :: ys => by
    have h : ¬ (y :: ys ≤ ([] : List Int)) := fun h => by simpa using List.le_antisymm h (List.nil_le _)
    rw [decide_eq_false h]; simp [Ob.lexAt_zero]
  | x :: xs, [] => by
    have h : ([] : List Int) ≤ x :: xs := List.nil_le _
    rw [decide_eq_true h]; simp [Ob.lexAt_zero]
  | x :: xs, y :: ys => by
    have ih := ge_lex xs ys
    have em : min (x :: xs).length (y :: ys).length = min xs.length ys.length + 1 := by simp only [List.length_cons]; omega
    have ez : decide ((x :: xs).length ≥ (y :: ys).length) = decide (xs.length ≥ ys.length) := by
      simp only [List.length_cons]
      exact decide_eq_decide.mpr (by omega)
    rw [em, ez, Ob.lexAt_succ, lex_shift]
    simp only [List.getD_cons_zero, List.getD_cons_succ]
    rw [ih]
    by_cases h : x = y
    · subst h
      rw [decide_eq_true rfl, if_pos rfl]
      exact decide_eq_decide.mpr (by simp [List.cons_le_cons_iff])
    · rw [decide_eq_false h, if_neg (by decide)]
      refine decide_eq_decide.mpr ?_
      rw [List.cons_le_cons_iff]
      have : ¬ y = x := fun e => h e.symm
      simp only [this, false_and, or_false]
      omega
def rGeT (K : PySem.W.Frag) : R2 := fun x y H Q => ∃ (a b : Addr) (ns ms : List Int), x = .ref a ∧ y = .ref b ∧ SqT K H a (ns.map V.int) ∧ SqT K H b (ms.map V.int) ∧ Q (.bl (decide (ms ≤ ns))) H
theorem op_geT {X : Cx} (hu : X.A.units < cLine) : OpR X (compareOp .GtE) (rGeT X.K) := fun pins s σ H x y v u Q I rx ry ⟨a, b, ns, ms, ex, ey, ha, hb, q⟩ => by
  subst ex ey
  cases rx
  cases ry
  obtain ⟨us, r1, p1, _⟩ := I.tuple ha
  obtain ⟨us2, r2, p2, _⟩ := I.tuple hb
  have i1 := Vals.ints r1
  have i2 := Vals.ints r2
  have s1 : us.toArray.size = ns.length := by rw [List.size_toArray]; exact i1.length
  have s2 : us2.toArray.size = ms.length := by rw [List.size_toArray]; exact i2.length
  have int1 : ∀ j (h : j < us.toArray.size), ∃ t, us.toArray[j] = .int (ns.getD j 0) t := fun j h => PyProof.Rows.IntsAre.int_at i1 _ _ (by simp at h; simp [h])
  have int2 : ∀ j (h : j < us2.toArray.size), ∃ t, us2.toArray[j] = .int (ms.getD j 0) t := fun j h => PyProof.Rows.IntsAre.int_at i2 _ _ (by simp at h; simp [h])
  have go := Ob.RcOp.tuples_ge (A := X.A) (s := s) (e := fun j => decide (ns.getD j 0 = ms.getD j 0)) (r := fun j => decide (ms.getD j 0 ≤ ns.getD j 0)) p1 p2 hu
    (fun j h1 h2 => by
      obtain ⟨t1, w1⟩ := int1 j h1
      obtain ⟨t2, w2⟩ := int2 j h2
      rw [w1, w2, ← show (ns.getD j 0 == ms.getD j 0) = decide (ns.getD j 0 = ms.getD j 0) from rfl]
      exact SeqAt.EqAt.int_int _ _ _ _)
    (fun j h1 h2 _ => by
      obtain ⟨t1, w1⟩ := int1 j h1
      obtain ⟨t2, w2⟩ := int2 j h2
      rw [w1, w2]
      exact Ob.RcOp.ge_int _ _ _ _)
  rw [s1, s2, ge_lex] at go
  exact go X.prog X.w X.xe (EP X pins σ Q) ⟨.bl _, H, I, rfl, q⟩
/-- >= of ints, of rows of ints -/
def gGe : D → D → (D → Prop) → Prop := fun x y k => match x, y with
  | .int i, .int j => k (.bl (decide (j ≤ i)))
  | .tup a, .tup b => match intsOf a, intsOf b with
    | some l, some m => k (.bl (decide (m ≤ l)))
    | _, _ => False
  | _, _ => False
theorem up_ge {K : PySem.W.Frag} : Up2 K (fun x y H Q => rI0 (fun i j => .bl (decide (j ≤ i))) x y H Q ∨ rGeT K x y H Q) gGe := fun H F v u x y k Q hv hu g ok => by
  cases hv with
  | int i =>
    cases hu with
    | int j => exact .inl ⟨i, j, rfl, rfl, ok.same g (.bl _)⟩
    | _ => exact g.elim
  | tup f h r =>
    cases hu with
    | tup f' h' r' =>
      unfold gGe at g
      simp only at g
      split at g
      · next l m e1 e2 =>
        have e1 := intsOf_eq e1
        have e2 := intsOf_eq e2
        subst e1 e2
        have z1 := r.ofInts
        have z2 := r'.ofInts
        subst z1 z2
        exact .inr ⟨_, _, l, m, rfl, rfl, SqT.of h, SqT.of h', ok.same g (.bl _)⟩
      · exact g.elim
    | _ => exact g.elim
  | _ => cases hu <;> exact g.elim
theorem op_geAll {X : Cx} (hu : X.A.units < cLine) : OpR X (compareOp .GtE) (fun x y H Q => rI0 (fun i j => .bl (decide (j ≤ i))) x y H Q ∨ rGeT X.K x y H Q) := opr_or op_ge (op_geT hu)
end DL

/-! the place of a text in a list of texts -/
namespace DL
open PySem PySem.Spec PyProof.Rows L2
def gLPlaceS (x : D) (as : List D) (k : D → Prop) : Prop := match x, as with
  | .lst xs, [.str z] => ∃ ws : List Str, xs = ws.map .str ∧ ∃ j : Nat, ws[j]? = some z ∧ (∀ m, m < j → ws[m]? ≠ some z) ∧ k (.int j)
  | _, _ => False
def dLPlaceS (fe fi : FE) : FE := fun L Q => fe L fun x L1 => isLst x = true ∧ fi L1 fun y L2 => gLPlaceS x [y] fun z => Q z L2
theorem flatV_S (ws : List Str) : (ws.map V.str).all flatV = true := by
  rw [List.all_map]
  exact List.all_eq_true.mpr fun _ _ => rfl
theorem eqV_str (a b : Str) : eqV (.str a) (.str b) = (a == b) := rfl
theorem d_lplaceS {X : Cx} {pn : List (Nat × V)} {o e : Expr} {fe fi : FE} {apos cpos : Pos} (ho : DE X pn o fe) (he : DE X pn e fi)
    (hbase : attributeBase o "index" X.env (eval o X.env) = eval o X.env := by rfl)
    (hfew : ((backTo cpos (starEach [e] X.env)).all (fun x => !x.1) && (backToKw cpos (keywordEach [] X.env)).all (fun x => x.1.isSome)
      && decide (([e] : List Expr).length + ([] : List Keyword).length + (if ([] : List Keyword).isEmpty then 0 else 1) < 30)) = true := by rfl)
    (hline : (apos.endLine == cpos.line) = true := by rfl) (hs : starEach [e] X.env = (false, eval e X.env) :: starEach [] X.env := by rfl) (hplain : (backTo cpos (starEach [] X.env)).any (·.1) = false := by rfl) :
    DE X pn (.Call (.Attribute o "index" apos) [e] [] cpos) (dLPlaceS fe fi) :=
  pe_weak (pe_bm PySem.F.plainAttrs_list PySem.F.slot_list_index PySem.F.type_list_index mt_index ho (pa_cons he pa_nil hs) hbase hfew hline hs hplain) fun σ H Q ⟨F, A, L, R, lo, h, p⟩ => by
  refine ⟨F, A, L, _, lo, h, fun x L1 v F1 A1 H1 ⟨ht, h1⟩ e1 lo1 f1 => ?_⟩
  cases f1 with
  | lst f hv r =>
    refine ⟨.inl ⟨rfl, _, SqL.of hv⟩, F1, A1, L1, _, lo1, h1, fun y L2 u F2 A2 H2 g e2 lo2 fu => ?_⟩
    match y, g, fu with
    | .str z, ⟨ws, hx, j, g1, g2, g3⟩, fu =>
      cases fu
      subst hx
      have hv2 := (Fr.lst (K := X.K) f hv r).ext lo1.ok e2
      cases hv2 with
      | lst f2 h2 r2 =>
        have e3 := r2.ofStrs
        subst e3
        refine ⟨_, _, _, j, .str z, rfl, rfl, SqL.of h2, rfl, flatV_S ws, by rw [List.getElem?_map, g1]; rfl, by rw [eqV_str]; exact beq_self_eq_true z, fun m z' hm hz => ?_, p _ L2 _ F2 A2 H2 g3 (e1.trans e2) lo2 (.int _)⟩
        obtain ⟨w, hw, rfl⟩ := Option.map_eq_some_iff.mp (by rw [← List.getElem?_map]; exact hz)
        rw [eqV_str]
        exact beq_eq_false_iff_ne.mpr fun e => g2 m hm (by rw [hw, e])
  | _ => cases ht
end DL

/-! A dict of one's own whose values are lists of one's own. -/
namespace DL
open PySem PySem.Spec PyProof.Rows L2
/-- the first entry of a key -/
def AtKey {α : Type} (es : List (Key × α)) (k : Key) (n : Nat) (d : α) : Prop := es[n]? = some (k, d) ∧ ∀ m, m < n → (es.map Prod.fst)[m]? ≠ some k
theorem valV_at : ∀ {kvs : List (Key × V)} {k : Key} {n : Nat} {v : V}, AtKey kvs k n v → valV kvs k = some v
  | [], k, n, v, ⟨h, _⟩ => by simp at h
  | (k1, v1) :: r, k, 0, v, ⟨h, _⟩ => by cases h; exact valV_pos rfl
  | (k1, v1) :: r, k, n + 1, v, ⟨h, g⟩ => by
    have hk : ¬ k1 = k := fun e => g 0 (by omega) (by rw [← e]; rfl)
    rw [valV_neg hk]
    exact valV_at ⟨h, fun m hm => g (m + 1) (by omega)⟩
theorem at_rel {kvs : List (Key × V)} {es : List (Key × D)} (h : kvs.map Prod.fst = es.map Prod.fst) {k : Key} {n : Nat} {d : D} (a : AtKey es k n d) {v : V} (hv : (kvs.map Prod.snd)[n]? = some v) : AtKey kvs k n v := by
  obtain ⟨a1, a2⟩ := a
  have hk : (kvs.map Prod.fst)[n]? = some k := by rw [h, List.getElem?_map, a1]; rfl
  refine ⟨?_, by rw [h]; exact a2⟩
  rw [List.getElem?_map, Option.map_eq_some_iff] at hk hv
  obtain ⟨p, hp, e1⟩ := hk
  obtain ⟨q, hq, e2⟩ := hv
  rw [hp] at hq
  cases hq
  rw [hp, ← e1, ← e2]
theorem lo_new {K : PySem.W.Frag} {H : Hp} {F A : Fp} {pn : List (Nat × V)} {σ : L2.St} {L : Ls} {p : Addr} {o : HO} (lo : Lo K H F pn σ L A) (np : H p = none) : Lo K (upd H p o) F pn σ L A ∧ Ext A H F A (upd H p o) F := by
  have k : ∀ a u, H a = some u → upd H p o a = some u := fun a u e => by rw [upd_ne (ne_of_none e np)]; exact e
  refine ⟨⟨lo.loc.keep (fun _ z => z) fun a u _ => k a u, ⟨fun a z => ?_, fun a z => ?_⟩, lo.pin⟩, ⟨fun _ z => z, fun _ z => .inl z, fun a u e _ => k a u e, fun a z => .inl z⟩⟩
  · obtain ⟨u, e⟩ := lo.ok.f a z
    exact ⟨u, k a u e⟩
  · obtain ⟨nf, u, e⟩ := lo.ok.a a z
    exact ⟨nf, u, k a u e⟩
theorem sd_new {K : PySem.W.Frag} {H : Hp} {F A : Fp} {pn : List (Nat × V)} {σ : L2.St} {L : Ls} {j : Nat} {es : List (Key × D)} {key : Key} {p a : Addr} {kvs : List (Key × V)} (lo : Lo K H F pn σ L A) (ex : L[j]? = some (some (.mK es))) (hs : σ[j]? = some (some (.ref a))) (ha : H a = some (.dK kvs)) (np : H p = none) (nk : valV kvs key = none) :
    ∃ A', Lo K (upd (upd H p (.lst [])) a (.dK (putK kvs key (.ref p)))) F pn σ (L.set j (some (.mK (es ++ [(key, .ml [])])))) A' ∧ Ext A H F A' (upd (upd H p (.lst [])) a (.dK (putK kvs key (.ref p)))) F := by
  obtain ⟨lo1, _⟩ := lo_new (o := .lst []) lo np
  obtain ⟨nF, nA⟩ := lo.ok.new np
  have pa : p ≠ a := ne_of_none ha np |>.symm
  have ha1 : upd H p (.lst []) a = some (.dK kvs) := by rw [upd_ne pa.symm]; exact ha
  have hput : putK kvs key (.ref p) = kvs ++ [(key, .ref p)] := by
    unfold putK
    rw [valV_any, nk]; rfl
  obtain ⟨v, B, k1, k2, sb, put⟩ := slot_put lo1 ex
  rw [hs] at k1
  cases k1
  cases k2 with
  | fr z => cases z
  | mK h hk r na =>
    rename_i kvs1 B1
    rw [ha1] at h
    cases h
    have inner : Ow K (upd H p (.lst [])) F (.ref p) (.ml []) (or2 (fun x => x = p) no) := .ml upd_same .nil fun z => z
    obtain ⟨C, oc, eqC⟩ := r.append (.cons inner .nil fun _ _ z => z) fun x bx z => by
      have hx : x = p := z.elim (fun z => z.elim id fun z => z.elim) fun z => z.elim
      exact nA (by rw [← hx]; exact sb x (.inr bx))
    have aA : A a := sb a (.inl rfl)
    have nC : ¬ C a := fun z => by
      rcases (eqC a).mp z with z | z
      · exact na z
      · exact pa (z.elim (fun z => z.elim (fun z => z.symm) fun z => z.elim) fun z => z.elim)
    have oc' : OwL K (upd (upd H p (.lst [])) a (.dK (putK kvs key (.ref p)))) F ((kvs ++ [(key, V.ref p)]).map Prod.snd) ((es ++ [(key, D.ml [])]).map Prod.snd) C := by
      rw [List.map_append, List.map_append]
      exact oc.keep (fun _ z => z) fun c ob z e => by
        rw [upd_ne fun w => ?_]
        · exact e
        · subst w
          exact z.elim (lo.ok.a _ aA).1 nC
    obtain ⟨A', l, x⟩ := put (a := a) (o' := .dK (putK kvs key (.ref p))) (d' := .mK (es ++ [(key, .ml [])])) (Xt := fun x => x = p) (.inl rfl) (.mK (by rw [hput]; exact upd_same) (by rw [List.map_append, List.map_append, hk]; rfl) oc' nC) (fun x z => by
      rcases z with z | z
      · exact .inl (.inl z)
      · rcases (eqC x).mp z with z | z
        · exact .inl (.inr z)
        · exact .inr (z.elim (fun z => z.elim id fun z => z.elim) fun z => z.elim)) (fun x z => by rw [z]; exact nA) (fun x z => by rw [z]; exact ⟨nF, _, upd_same⟩)
    have back : ∀ c, upd H p (.lst []) c = none → H c = none := fun c e => by
      by_cases w : c = p
      · rw [w]; exact np
      · rw [upd_ne w] at e; exact e
    refine ⟨A', l, ⟨x.sub, fun c z => ?_, fun c o e n => ?_, fun c z => ?_⟩⟩
    · rcases x.new c z with z | z | z | z
      · exact .inl z
      · exact .inr (.inl (back c z))
      · exact .inr (.inr z)
      · exact .inr (.inl (by rw [z]; exact np))
    · have w : c ≠ p := ne_of_none e np
      exact x.keep c o (by rw [upd_ne w]; exact e) fun z => z.elim n w
    · rcases x.own c z with (z | z) | z
      · exact .inl z
      · exact .inr (by rw [z]; exact np)
      · exact .inr (back c z)

/-- a list of one's own that stands in a dict: one more item -/
theorem app_at {K : PySem.W.Frag} {H : Hp} {F A : Fp} {pn : List (Nat × V)} {σ : L2.St} {L : Ls} {j n : Nat} {es : List (Key × D)} {key : Key} {ys : List D} {fv : FE} {R : D → Ls → Prop} {Q : VK} (lo : Lo K H F pn σ L A) (ex : L[j]? = some (some (.mK es))) (ak : AtKey es key n (.ml ys)) (hf : ys.all isFr = true) (hmo : noMos L = true)
    (g1 : fv (fzAll L) fun d _ => noL d = true ∧ ys.length < sizeLine ∧ R .non (L.set j (some (.mK (es.set n (key, .ml (ys ++ [d])))))))
    (p : Post K pn σ H F A R Q) : ∃ a kvs b, σ[j]? = some (some (.ref a)) ∧ H a = some (.dK kvs) ∧ kvs.map Prod.fst = es.map Prod.fst ∧ AtKey kvs key n (.ref b) ∧ tyV K "list" (.ref b) H ∧ low K pn fv σ H fun u H3 => rAppend (.ref b) [u] H3 Q := by
  obtain ⟨v, B, k1, k2, sb, put⟩ := slot_put lo ex
  cases k2 with
  | fr z => cases z
  | mK ha hk r na =>
    rename_i a kvs B1
    have ey : (es.map Prod.snd)[n]? = some (.ml ys) := by rw [List.getElem?_map, ak.1]; rfl
    obtain ⟨w, B2, e2, o2, s2, put2⟩ := r.focus ey
    cases o2 with
    | fr z => cases z
    | ml hb rb nb =>
      rename_i b us B3
      refine ⟨a, kvs, b, k1, ha, hk, at_rel hk ak e2, .inl ⟨rfl, us, SqL.of hb⟩, ?_⟩
      obtain ⟨A2, lo2, n2, back⟩ := lo_pure lo hmo
      refine ⟨_, A2, _, _, lo2, g1, fun d L' u F' A' H' ⟨hd, hs, r'⟩ x l fr => ?_⟩
      obtain ⟨b1, b2, b3⟩ := back x
      have lo3 := b2 l.ok.f
      have fd := b3 fr hd
      obtain ⟨v, B', k1', k2, sb', put'⟩ := slot_put lo3 ex
      rw [k1] at k1'
      cases k1'
      have keep : ∀ a o, H a = some o → H' a = some o := fun a o e => x.keep a o e (n2 a)
      cases k2 with
      | fr z => cases z
      | mK ha' hk' r'' na' =>
        rename_i kvs2 B1'
        have ev : kvs2 = kvs := by
          have := keep _ _ ha
          rw [ha'] at this
          cases this
          rfl
        subst ev
        obtain ⟨w', B2', e2', o2', s2', put2'⟩ := r''.focus ey
        rw [e2] at e2'
        cases e2'
        cases o2' with
        | fr z => cases z
        | ml hb' rb' nb' =>
          rename_i us' B3'
          have eu : us' = us := by
            have := keep _ _ hb
            rw [hb'] at this
            cases this
            rfl
          subst eu
          have fb := rb'.frL hf
          refine ⟨b, _, u, rfl, rfl, hb', by rw [fb.length]; exact hs, ?_⟩
          have bB : B1' b := s2' b (.inl rfl)
          have nF : ¬ (F' b ∧ ¬ A b) := fun z => z.2 (sb' b (.inr bB))
          have ab : a ≠ b := fun z => na' (by rw [z]; exact bB)
          obtain ⟨C, oc, nc⟩ := ((fb.append (.cons fd .nil)).owU (H' := H') (o := .lst (us' ++ [u])) nF).ow
          have inner : Ow K (upd H' b (.lst (us' ++ [u]))) _ (.ref b) (.ml (ys ++ [d])) _ := .ml upd_same oc (nc _)
          obtain ⟨A', oA, eqA⟩ := put2' inner (fun c ob z e => by
            rw [upd_ne fun w => ?_]
            · exact e
            · subst w
              exact z.elim nF fun z => z.2 (.inl rfl)) fun c z => .inl (z.imp_right fun z => (nc c z).elim)
          have nA' : ¬ A' a := fun z => by
            rcases (eqA a).mp z with w | w
            · exact w.elim (fun w => ab w) (nc a)
            · exact na' w.1
          have es2 : (es.map Prod.snd).set n (.ml (ys ++ [d])) = (es.set n (key, .ml (ys ++ [d]))).map Prod.snd := by rw [List.map_set]
          have es1 : kvs2.map Prod.fst = (es.set n (key, D.ml (ys ++ [d]))).map Prod.fst := by
            rw [List.map_set, hk']
            exact (List.ext_getElem? fun i => by
              rw [List.getElem?_set]
              by_cases c : n = i
              · subst c
                have hn : n < (es.map Prod.fst).length := by rw [List.length_map]; exact (List.getElem?_eq_some_iff.mp ak.1).1
                rw [if_pos rfl, if_pos hn, List.getElem?_map, ak.1]; rfl
              · rw [if_neg c])
          rw [es2] at oA
          obtain ⟨A'', l'', x''⟩ := put' (a := b) (o' := .lst (us' ++ [u])) (d' := .mK (es.set n (key, .ml (ys ++ [d])))) (Xt := no) (.inr bB) (.mK (by rw [upd_ne ab]; exact ha') es1 oA nA') (fun c z => by
            rcases z with z | z
            · exact .inl (.inl z)
            · rcases (eqA c).mp z with w | w
              · exact .inl (w.elim (fun w => by rw [w]; exact .inr bB) fun w => (nc c w).elim)
              · exact .inl (.inr w.1)) (fun _ z => z.elim) fun _ z => z.elim
          have x3 : Ext A H' _ A'' (upd H' b (.lst (us' ++ [u]))) _ := ⟨x''.sub, fun a z => (x''.new a z).imp_right fun z => z.imp_right fun z => z.elim id fun z => z.elim, fun a o e n => x''.keep a o e fun z => z.elim n fun z => z, fun a z => (x''.own a z).imp_left fun z => z.elim id fun z => z.elim⟩
          exact p .non _ .non _ A'' _ r' (b1.trans x3) l'' .non
/-- with the key, an empty list if it is new -/
def sdD (es : List (Key × D)) (key : Key) : List (Key × D) := if (dget es key).isSome = true then es else es ++ [(key, .ml [])]
def isMK (L : Ls) (j : Nat) : Bool := match L[j]? with
  | some (some (.mK _)) => true
  | _ => false
/-- x.setdefault(k, []).append(v) -/
def dSdApp (j : Nat) (fy fv : FE) : FE := fun L Q => isMK L j = true ∧ fy L fun y L1 => match L1[j]? with
  | some (some (.mK es)) => match keyOf y with
    | some key => es.length < sizeLine ∧ ∃ n ys, AtKey (sdD es key) key n (.ml ys) ∧ ys.all isFr = true ∧ noMos (L1.set j (some (.mK (sdD es key)))) = true ∧
      fv (fzAll (L1.set j (some (.mK (sdD es key))))) fun d _ => noL d = true ∧ ys.length < sizeLine ∧ Q .non (L1.set j (some (.mK ((sdD es key).set n (key, .ml (ys ++ [d]))))))
    | none => False
  | _ => False
/-- x.setdefault(k, []) alone -/
def dSdNew (j : Nat) (fy : FE) : FS := fun E L => isMK L j = true ∧ fy L fun y L1 => match L1[j]? with
  | some (some (.mK es)) => match keyOf y with
    | some key => es.length < sizeLine ∧ E.nx (L1.set j (some (.mK (sdD es key))))
    | none => False
  | _ => False
theorem isMK_isD {K : PySem.W.Frag} {pn : List (Nat × V)} {H : Hp} {F A : Fp} {σ : L2.St} {L : Ls} {j : Nat} (lo : Lo K H F pn σ L A) (h : isMK L j = true) : ∃ a, σ[j]? = some (some (.ref a)) ∧ IsD H a := isMd_isD lo (by
  unfold isMK at h
  unfold isMd
  split at h
  · next e => rw [e]
  · cases h)
theorem set_self {L : Ls} {j : Nat} {o : Option D} (ex : L[j]? = some o) : L.set j o = L := by
  apply List.ext_getElem?
  intro i
  rw [List.getElem?_set]
  by_cases c : j = i
  · subst c
    rw [if_pos rfl, if_pos (List.getElem?_eq_some_iff.mp ex).1, ex]
  · rw [if_neg c]
theorem find_fst : ∀ {kvs : List (Key × V)} {es : List (Key × D)} {k : Key}, kvs.map Prod.fst = es.map Prod.fst → (dget es k).isSome = (valV kvs k).isSome
  | [], [], _, _ => rfl
  | [], _ :: _, _, h => by simp at h
  | _ :: _, [], _, h => by simp at h
  | (a, v) :: kvs, (b, d) :: es, k, h => by
    simp only [List.map_cons, List.cons.injEq] at h
    obtain ⟨rfl, h⟩ := h
    by_cases c : a = k
    · subst c
      rw [valV_pos rfl]
      simp [dget, List.find?_cons]
    · rw [valV_neg c]
      have : dget ((a, d) :: es) k = dget es k := by simp [dget, List.find?_cons, c]
      rw [this]
      exact find_fst h
/-- the two ways of setdefault, as one -/
theorem sd_ways {K : PySem.W.Frag} {H : Hp} {F A : Fp} {pn : List (Nat × V)} {σ : L2.St} {L : Ls} {j : Nat} {es : List (Key × D)} {key : Key} (lo : Lo K H F pn σ L A) (ex : L[j]? = some (some (.mK es))) {a : Addr} (hs : σ[j]? = some (some (.ref a))) {p : Addr} (np : H p = none) : ∃ kvs, H a = some (.dK kvs) ∧ kvs.length = es.length ∧ (upd H p (.lst [])) a = some (.dK kvs) ∧
    (∀ v, valV kvs key = some v → sdD es key = es ∧ Lo K (upd H p (.lst [])) F pn σ (L.set j (some (.mK (sdD es key)))) A ∧ Ext A H F A (upd H p (.lst [])) F) ∧
    (valV kvs key = none → ∃ A', Lo K (upd (upd H p (.lst [])) a (.dK (putK kvs key (.ref p)))) F pn σ (L.set j (some (.mK (sdD es key)))) A' ∧ Ext A H F A' (upd (upd H p (.lst [])) a (.dK (putK kvs key (.ref p)))) F) := by
  obtain ⟨v, B, k1, k2, sb, put⟩ := slot_put lo ex
  rw [hs] at k1
  cases k1
  cases k2 with
  | fr z => cases z
  | mK ha hk r na =>
    rename_i kvs B1
    refine ⟨kvs, ha, len_fst hk, by rw [upd_ne (ne_of_none ha np)]; exact ha, fun v ev => ?_, fun ev => ?_⟩
    · have e : sdD es key = es := by unfold sdD; rw [find_fst hk, ev]; rfl
      obtain ⟨l, x⟩ := lo_new (o := .lst []) lo np
      exact ⟨e, by rw [e, set_self ex]; exact l, x⟩
    · have e : sdD es key = es ++ [(key, .ml [])] := by unfold sdD; rw [find_fst hk, ev]; rfl
      rw [e]
      exact sd_new lo ex hs ha np ev
section
variable {X : Cx} {pn : List (Nat × V)} {e f : Expr} {fy fv : FE} {apos cpos px lpos apos2 cpos2 pos : Pos}
theorem d_sdNew (j : Nat) {x : Str} (he : DE X pn e fy) (hN : X.N[j]? = some x := by rfl) (hv : Vis X.env.scope x := by first | exact Or.inl rfl | exact Or.inr (Or.inl rfl) | exact Or.inr (Or.inr rfl)) (hd : (x == ("__debug__" : Str)) = false := by decide)
    (hcd : (x == ("__classdict__" : Str)) = false := by decide) (m : M2 X (.Name x px) "setdefault" apos e (.List [] lpos) cpos := by exact ⟨rfl, rfl, rfl, rfl⟩) (hsw : swapsWith (.Call (.Attribute (.Name x px) "setdefault" apos) [e, .List [] lpos] [] cpos) none pos.line X.env = pure false := by rfl) :
    DS X pn (.Expr (.Call (.Attribute (.Name x px) "setdefault" apos) [e, .List [] lpos] [] cpos) pos) (dSdNew j fy) :=
  ps_weak (ps_expr (pe_dsetd (pe_var hN hv hd hcd) he (pe_lst pa_nil) m) hsw) fun E σ H q => by
  obtain ⟨F, A, L, D, lo, ⟨hm, h⟩, p⟩ := q
  obtain ⟨a, k1, isd⟩ := isMK_isD lo hm
  refine ⟨_, k1, a, rfl, isd, F, A, L, _, lo, h, fun y L1 u F1 A1 H1 h1 e1 lo1 fu => ⟨Nat.zero_le _, fun q np => ?_⟩⟩
  split at h1
  · next es ex =>
    split at h1
    · next key ek =>
      obtain ⟨hl, h1⟩ := h1
      obtain ⟨kvs, ha, hlen, ha1, w1, w2⟩ := sd_ways (key := key) lo1 ex k1 np
      refine ⟨kvs, key, ha1, keyOf_V fu ek, by rw [hlen]; exact hl, fun v ev => ?_, fun ev => ?_⟩
      · obtain ⟨_, l, x⟩ := w1 v ev
        exact p.nx σ _ F1 A1 _ h1 (e1.trans x) l
      · obtain ⟨A', l, x⟩ := w2 ev
        exact p.nx σ _ F1 A' _ h1 (e1.trans x) l
    · exact h1.elim
  · exact h1.elim
theorem d_sdApp (j : Nat) {x : Str} (he : DE X pn e fy) (ha : DE X pn f fv) (hN : X.N[j]? = some x := by rfl) (hv : Vis X.env.scope x := by first | exact Or.inl rfl | exact Or.inr (Or.inl rfl) | exact Or.inr (Or.inr rfl)) (hd : (x == ("__debug__" : Str)) = false := by decide)
    (hcd : (x == ("__classdict__" : Str)) = false := by decide) (m : M2 X (.Name x px) "setdefault" apos e (.List [] lpos) cpos := by exact ⟨rfl, rfl, rfl, rfl⟩)
    (hbase : attributeBase (.Call (.Attribute (.Name x px) "setdefault" apos) [e, .List [] lpos] [] cpos) "append" X.env (eval (.Call (.Attribute (.Name x px) "setdefault" apos) [e, .List [] lpos] [] cpos) X.env) = eval (.Call (.Attribute (.Name x px) "setdefault" apos) [e, .List [] lpos] [] cpos) X.env := by rfl)
    (hfew : ((backTo cpos2 (starEach [f] X.env)).all (fun x => !x.1) && (backToKw cpos2 (keywordEach [] X.env)).all (fun x => x.1.isSome)
      && decide (([f] : List Expr).length + ([] : List Keyword).length + (if ([] : List Keyword).isEmpty then 0 else 1) < 30)) = true := by rfl)
    (hline : (apos2.endLine == cpos2.line) = true := by rfl) (hs : starEach [f] X.env = (false, eval f X.env) :: starEach [] X.env := by rfl) (hplain : (backTo cpos2 (starEach [] X.env)).any (·.1) = false := by rfl) :
    DE X pn (.Call (.Attribute (.Call (.Attribute (.Name x px) "setdefault" apos) [e, .List [] lpos] [] cpos) "append" apos2) [f] [] cpos2) (dSdApp j fy fv) :=
  pe_weak (pe_bm PySem.F.plainAttrs_list PySem.F.slot_list_append PySem.F.type_list_append mt_append (pe_dsetd (pe_var hN hv hd hcd) he (pe_lst pa_nil) m) (pa_cons ha pa_nil hs) hbase hfew hline hs hplain) fun σ H Q q => by
  obtain ⟨F, A, L, R, lo, ⟨hm, h⟩, p⟩ := q
  obtain ⟨a, k1, isd⟩ := isMK_isD lo hm
  refine ⟨_, k1, a, rfl, isd, F, A, L, _, lo, h, fun y L1 u F1 A1 H1 h1 e1 lo1 fu => ⟨Nat.zero_le _, fun q np => ?_⟩⟩
  split at h1
  · next es ex =>
    split at h1
    · next key ek =>
      obtain ⟨hl, n, ys, ak, hf, hmo, g⟩ := h1
      obtain ⟨kvs, ha0, hlen, ha1, w1, w2⟩ := sd_ways (key := key) lo1 ex k1 np
      have hj : j < L1.length := (List.getElem?_eq_some_iff.mp ex).1
      have ex2 : (L1.set j (some (.mK (sdD es key))))[j]? = some (some (.mK (sdD es key))) := List.getElem?_set_self hj
      have g2 : fv (fzAll (L1.set j (some (.mK (sdD es key))))) fun d _ => noL d = true ∧ ys.length < sizeLine ∧ R .non ((L1.set j (some (.mK (sdD es key)))).set j (some (.mK ((sdD es key).set n (key, .ml (ys ++ [d])))))) := by
        simp only [List.set_set]
        exact g
      refine ⟨kvs, key, ha1, keyOf_V fu ek, by rw [hlen]; exact hl, fun v ev => ?_, fun ev => ?_⟩
      · obtain ⟨_, l, x⟩ := w1 v ev
        obtain ⟨a', kvs', b, s1, s2, s3, s4, ty, lw⟩ := app_at (Q := Q) l ex2 ak hf hmo g2 fun d L' v F' A' H' r x' l' f' => p d L' v F' A' H' r ((e1.trans x).trans x') l' f'
        rw [k1] at s1
        cases s1
        rw [ha1] at s2
        cases s2
        have := valV_at s4
        rw [ev] at this
        cases this
        exact ⟨ty, lw⟩
      · obtain ⟨A', l, x⟩ := w2 ev
        obtain ⟨a', kvs', b, s1, s2, s3, s4, ty, lw⟩ := app_at (Q := Q) l ex2 ak hf hmo g2 fun d L' v F' A' H' r x' l' f' => p d L' v F' A' H' r ((e1.trans x).trans x') l' f'
        rw [k1] at s1
        cases s1
        rw [upd_same] at s2
        cases s2
        have h5 := valV_at s4
        have h6 : valV (putK kvs key (.ref q)) key = some (.ref q) := by rw [valV_put, if_pos rfl]
        rw [h6] at h5
        cases h5
        exact ⟨ty, lw⟩
    · exact h1.elim
  · exact h1.elim
end
end DL

/-! for x in an owned list that the body leaves as it is. -/
namespace DL
open PySem PySem.Spec PyProof.Rows L2
theorem hpin {io : List Nat} {pn : List (Nat × V)} (hp : ∀ i, io.contains i = false → (pn.any fun p => p.1 == i) = false) (j : Nat) (v : V) : ∀ i, (j :: io).contains i = false → (((j, v) :: pn).any fun p => p.1 == i) = false := fun i h => by
  rw [List.contains_cons, Bool.or_eq_false_iff] at h
  rw [List.any_cons, Bool.or_eq_false_iff]
  refine ⟨?_, hp i h.2⟩
  have := h.1
  rw [beq_eq_false_iff_ne] at this ⊢
  exact fun e => this e.symm
def dForO (js : List Nat) (j : Nat) (t : FG) (b : FS) : FS := fun E L => ∃ ds, L[j]? = some (some (.ml ds)) ∧ ds.all isFr = true ∧ ∃ P : Nat → Ls → Prop, P 0 (wipeD L js) ∧
  (∀ i d L, ds[i]? = some d → P i L → L[j]? = some (some (.ml ds)) ∧ t d L fun L2 => b { nx := fun L3 => P (i + 1) (wipeD L3 js), ct := fun L3 => P (i + 1) (wipeD L3 js), bk := fun L3 => E.nx (wipeD L3 js), rt := E.rt } L2) ∧
  ∀ L, P ds.length L → L[j]? = some (some (.ml ds)) ∧ E.nx L
theorem Lo.pinned {K : PySem.W.Frag} {pn : List (Nat × V)} {H : Hp} {F A : Fp} {σ : L2.St} {L : Ls} {j : Nat} {v : V} (lo : Lo K H F pn σ L A) (e : σ[j]? = some (some v)) : Lo K H F ((j, v) :: pn) σ L A := ⟨lo.loc, lo.ok, fun p h => by
  rcases List.mem_cons.mp h with rfl | h
  · exact e
  · exact lo.pin p h⟩
theorem Lo.unpin {K : PySem.W.Frag} {pn : List (Nat × V)} {H : Hp} {F A : Fp} {σ : L2.St} {L : Ls} {p : Nat × V} (lo : Lo K H F (p :: pn) σ L A) : Lo K H F pn σ L A := ⟨lo.loc, lo.ok, fun q h => lo.pin q (List.mem_cons_of_mem _ h)⟩
section
variable {X : Cx} {pn : List (Nat × V)} {tg : Expr} {body : List Stmt} {t : FG} {b : FS} {js : List Nat} {pos px : Pos} {x : Str}
theorem d_forO (ws : List Nat) (j : Nat) (hp : PassesOwn (model X.prog X.w) X.A X.env X.xe) (hc : X.calm = true) (hg : ∀ v, PG X tg (lowG X.K ((j, v) :: pn) js t)) (hb : ∀ v, DSs X ((j, v) :: pn) body b)
    (hN : X.N[j]? = some x := by rfl) (hv : Vis X.env.scope x := by first | exact Or.inl rfl | exact Or.inr (Or.inl rfl) | exact Or.inr (Or.inr rfl)) (hd : (x == ("__debug__" : Str)) = false := by decide) (hcd : (x == ("__classdict__" : Str)) = false := by decide)
    (hs : ∀ y, foldedSetIterable (.Name x px) X.env y = pure y := by intro _; rfl) : DS X pn (.For tg (.Name x px) body [] pos) (dForO ws j t b) := by
  have hg2 : PG X tg (fun u σ H k => ∃ v, lowG X.K ((j, v) :: pn) js t u σ H k) := ⟨fun pins s σ H u w Q I r q => by
    obtain ⟨v, q⟩ := q
    exact (hg v).run pins s σ H u w Q I r q⟩
  have hb2 : PSs X body (fun E σ H => ∃ v, lowS X.K ((j, v) :: pn) b E σ H) := ⟨fun pins s σ H D I q => by
    obtain ⟨v, q⟩ := q
    exact (hb v).run pins s σ H D I q⟩
  refine ps_weak (ps_for hp hc (pi_list (pe_var hN hv hd hcd)) hg2 hb2 hs) fun E σ H q => ?_
  obtain ⟨F, A, L, D, lo, ⟨ds, ej, hf, P, h0, step, fin⟩, p⟩ := q
  obtain ⟨a, vs, k1, k2, k3, _⟩ := slot_list lo ej hf
  obtain ⟨A0, lo0, x0⟩ := lo.wipes ws
  refine ⟨.ref a, k1, a, rfl, ⟨vs, SqL.of k2⟩, fun i m σ' H' => m = ds.length - i ∧ i ≤ ds.length ∧ ∃ F' A' L', Lo X.K H' F' ((j, .ref a) :: pn) σ' L' A' ∧ Ext A H F A' H' F' ∧ P i L', ⟨_, rfl, Nat.zero_le _, F, A0, _, lo0.pinned k1, x0, h0⟩, ?_⟩
  rintro i m σ2 H2 ⟨rfl, hi, F2, A2, L2, lo2, e2, h2⟩
  have at_ : L2[j]? = some (some (.ml ds)) → ∃ us, SqL X.K H2 a us ∧ FrL X.K H2 F2 us ds := fun hj => by
    obtain ⟨a', us, m1, m2, m3, _⟩ := slot_list lo2 hj hf
    have := lo2.pin (j, .ref a) (List.mem_cons_self ..)
    rw [m1] at this
    cases this
    exact ⟨us, SqL.of m2, m3⟩
  by_cases hlt : i < ds.length
  · have ed : ds[i]? = some ds[i] := List.getElem?_eq_getElem hlt
    obtain ⟨hj, st⟩ := step i _ L2 ed h2
    obtain ⟨us, sq, fr⟩ := at_ hj
    have hul : i < us.length := by rw [fr.length]; exact hlt
    refine .inr ⟨⟨us, us[i], sq, List.getElem?_eq_getElem hul⟩, fun σ' H' => (i + 1) ≤ ds.length ∧ ∃ F' A' L', Lo X.K H' F' ((j, .ref a) :: pn) σ' L' A' ∧ Ext A H F A' H' F' ∧ P (i + 1) L', fun σ' H' z => ⟨_, by omega, rfl, z.1, z.2⟩, fun x H3 y => ?_⟩
    obtain ⟨rfl, y⟩ := y
    obtain ⟨d1, ed1, fr1⟩ := fr.get (y us sq)
    rw [ed] at ed1
    cases ed1
    refine ⟨.ref a, F2, A2, L2, _, _, lo2, fr1, st, fun σ4 L4 F4 A4 H4 h4 e4 lo4 _ _ => ⟨.ref a, F4, A4, L4, _, lo4, h4, ?_⟩⟩
    have e14 := e2.trans e4
    have again : ∀ σ' L' F' A' H', P (i + 1) (wipeD L' ws) → Ext A4 H4 F4 A' H' F' → Lo X.K H' F' ((j, .ref a) :: pn) σ' L' A' → (i + 1) ≤ ds.length ∧ ∃ F' A' L', Lo X.K H' F' ((j, .ref a) :: pn) σ' L' A' ∧ Ext A H F A' H' F' ∧ P (i + 1) L' := fun σ' L' F' A' H' r x l => by
      obtain ⟨C, lw, xw⟩ := l.wipes ws
      exact ⟨hlt, F', C, _, lw, (e14.trans x).trans xw, r⟩
    refine ⟨again, fun σ' L' F' A' H' r x l => ?_, again, fun d σ' L' v F' A' B H' r x l f s n => p.rt d σ' L' v F' A' B H' r (e14.trans x) l.unpin f s n⟩
    obtain ⟨C, lw, xw⟩ := l.wipes ws
    exact p.nx σ' _ F' C H' r ((e14.trans x).trans xw) lw.unpin
  · have e : i = ds.length := by omega
    subst e
    obtain ⟨hj, en⟩ := fin L2 h2
    obtain ⟨us, sq, fr⟩ := at_ hj
    exact .inl ⟨⟨us, sq, by rw [fr.length]; exact Nat.le_refl _⟩, p.nx σ2 L2 F2 A2 H2 en e2 lo2.unpin⟩
end

/-! ### min of three ints -/
def mn2 (a b : Int) : Int := if b < a then b else a
def gMin3 : List D → (D → Prop) → Prop := fun ds k => match ds with
  | [.int a, .int b, .int c] => k (.int (mn2 (mn2 a b) c))
  | _ => False
theorem nuMin2_int (a b : Int) : nuMin2 (.int a) (.int b) = some (.int (mn2 a b)) := by
  unfold nuMin2 mn2
  have e : nuLt (.int b) (.int a) = some (decide (b < a)) := rfl
  rw [e]
  by_cases h : b < a
  · simp [h]
  · simp [h]
theorem nuMin3_int (a b c : Int) : nuMin3 (.int a) (.int b) (.int c) = some (.int (mn2 (mn2 a b) c)) := by
  unfold nuMin3
  rw [nuMin2_int, Option.bind_some, nuMin2_int]
theorem up_min3 {K : PySem.W.Frag} : UpA K (rNuC3 nuMin3) gMin3 := by
  intro H F vs ds k Q hv g ok
  match ds, g with
  | [.int a, .int b, .int c], g =>
    cases hv with
    | cons h1 r =>
      cases r with
      | cons h2 r =>
        cases r with
        | cons h3 r =>
          cases r
          cases h1
          cases h2
          cases h3
          exact ⟨_, _, _, _, rfl, nuMin3_int a b c, ok.same g (.int _)⟩
theorem mn2_le {a b : Int} : mn2 a b ≤ a ∧ mn2 a b ≤ b ∧ (mn2 a b = a ∨ mn2 a b = b) := by
  unfold mn2
  split <;> omega
end DL

/-! Dicts of one's own: asked with a value for what is missing, counted down, walked by their keys. -/
namespace DL
open PySem PySem.Spec PyProof.Rows L2
/-! ### d.get(k, x) -/
def isDk : D → Bool
  | .dK _ => true
  | .dT _ => true
  | _ => false
theorem isDk_at {K : PySem.W.Frag} {H : Hp} {F : Fp} {v : V} {x : D} (fx : Fr K H F v x) (hx : isDk x = true) : ∃ a, v = .ref a ∧ IsD H a := by
  cases fx with
  | dK f h e r => exact ⟨_, rfl, .inl ⟨_, .inl h⟩⟩
  | dT f h e r => exact ⟨_, rfl, .inr ⟨_, .inl h⟩⟩
  | _ => cases hx
def dGetOr (fo fe fx : FE) : FE := fun L Q => fo L fun x L1 => isDk x = true ∧ fe L1 fun y L2 => fx L2 fun z L3 => gAsk y x fun p => Q (p.getD z) L3
section
variable {X : Cx} {pn : List (Nat × V)} {o e f : Expr} {fo fe fx : FE} {apos cpos : Pos}
theorem d_getOr (hu : X.A.units + 1 < cLine) (ho : DE X pn o fo) (he : DE X pn e fe) (hf : DE X pn f fx) (m : M2 X o "get" apos e f cpos := by exact ⟨rfl, rfl, rfl, rfl⟩) : DE X pn (.Call (.Attribute o "get" apos) [e, f] [] cpos) (dGetOr fo fe fx) :=
  pe_weak (pe_dget2 hu ho he hf m) fun σ H Q q => by
  obtain ⟨F, A, L, R, lo, h, p⟩ := q
  refine ⟨F, A, L, _, lo, h, fun x L1 v F1 A1 H1 ⟨hx, h1⟩ e1 lo1 frx => ?_⟩
  obtain ⟨a, rfl, isd⟩ := isDk_at frx hx
  refine ⟨a, rfl, isd, F1, A1, L1, _, lo1, h1, fun y L2 u F2 A2 H2 h2 e2 lo2 fry => ⟨F2, A2, L2, _, lo2, h2, fun z L3 w F3 A3 H3 h3 e3 lo3 frz => ?_⟩⟩
  have fx3 := (frx.ext lo1.ok e2).ext lo2.ok e3
  have fy3 := fry.ext lo2.ok e3
  obtain ⟨a', o, pp, ea, _, d, r, g⟩ := ask_get fy3 fx3 h3
  cases ea
  refine ⟨o, d, p _ L3 _ F3 A3 H3 g ((e1.trans e2).trans e3) lo3 ?_⟩
  cases o <;> cases pp <;> first | exact frz | exact r | exact r.elim
end
/-! ### d[k] -= n -/
def dSubK (j : Nat) (fy fv : FE) : FS := fun E L => isMK L j = true ∧ fy L fun y L1 => match L1[j]? with
  | some (some (.mK es)) => (es.map Prod.snd).all isFr = true ∧ match keyOf y with
    | some key => match dget es key with
      | some (.int n) => fv L1 fun d L2 => match d with
        | .int m => L2[j]? = some (some (.mK es)) ∧ es.length < sizeLine ∧ E.nx (L2.set j (some (.mK (putD es key (.int (n - m))))))
        | _ => False
      | _ => False
    | none => False
  | _ => False
section
variable {X : Cx} {pn : List (Nat × V)} {i value : Expr} {fy fv : FE} {px ps pos : Pos}
theorem d_subK (j : Nat) (hu : X.A.units + 1 < cLine) {x : Str} (hi : DE X pn i fy) (hv' : DE X pn value fv) (hN : X.N[j]? = some x := by rfl) (hv : Vis X.env.scope x := by first | exact Or.inl rfl | exact Or.inr (Or.inl rfl) | exact Or.inr (Or.inr rfl)) (hd : (x == ("__debug__" : Str)) = false := by decide)
    (hcd : (x == ("__classdict__" : Str)) = false := by decide)
    (ha : ∀ ov iv new, augStore i ov iv new = (do holding [new, ov, iv] (setItem ov iv new); release [new, ov, iv] []; pure .next) := by intro _ _ _; rfl) :
    DS X pn (.AugAssign (.Subscript (.Name x px) i ps) .Sub value pos) (dSubK j fy fv) :=
  ps_weak (ps_daug hu (pe_var hN hv hd hcd) hi hv' in_sub ha) fun E σ H q => by
  obtain ⟨F, A, L, D0, lo, ⟨hm, h⟩, p⟩ := q
  obtain ⟨a, k1, isd⟩ := isMK_isD lo hm
  refine ⟨_, k1, F, A, L, _, lo, h, fun y L1 u F1 A1 H1 h1 e1 lo1 fu => ?_⟩
  split at h1
  · next es ex =>
    obtain ⟨hf, h1⟩ := h1
    split at h1
    · next key ek =>
      split at h1
      · next n en =>
        obtain ⟨a', kvs, s1, s2, s3, s4, _⟩ := slot_dK lo1 ex hf
        rw [k1] at s1
        cases s1
        have r := dget_rel key s3 s4
        rw [en] at r
        cases ev : valV kvs key with
        | none => rw [ev] at r; exact r.elim
        | some w =>
          rw [ev] at r
          cases r
          refine ⟨a, _, rfl, by rw [keyOf_V fu ek, ← ev]; exact DGet.k s2, F1, A1, L1, _, lo1, h1, fun d L2 v F2 A2 H2 h2 e2 lo2 fv => ?_⟩
          split at h2
          · next m =>
            obtain ⟨ex2, hl, h2⟩ := h2
            cases fv
            obtain ⟨a2, kvs2, t1, t2, t3, t4, put⟩ := slot_dK lo2 ex2 hf
            rw [k1] at t1
            cases t1
            obtain ⟨p1, p2⟩ := put_rel (k := key) (Fr.int (K := X.K) (H := H2) (F := F2) (n - m)) t3 t4
            obtain ⟨A', l, xx⟩ := put p1 p2
            refine ⟨n, m, rfl, rfl, _, ?_, p.nx σ _ F2 A' _ h2 ((e1.trans e2).trans xx) l⟩
            rw [keyOf_V fu ek]
            exact DPut.k t2 (by rw [len_fst t3]; exact hl)
          · exact h2.elim
      · exact h1.elim
    · exact h1.elim
  · exact h1.elim
end
/-! ### the keys walked -/
section
variable {K : PySem.W.Frag} {pn : List (Nat × V)}
/-- a comprehension over what is at hand -/
theorem low_lcI {vs : List Nat} {J : It} {ds : List D} {t : FG} {c : FT} {f : FE} {js : List Nat} {σ : L2.St} {H1 : Hp} {F1 A1 : Fp} {L1 : Ls} {R : D → Ls → Prop} {Q : VK} {mk : List D → D} (hj : ∀ j ∈ js, j ∈ vs) (hp : vs.all (fun v => !pn.any fun p => p.1 == v) = true)
    (lo1 : Lo K H1 F1 pn σ L1 A1) (w : WalkD K H1 F1 J ds) (h : dLc vs (fun L Q => Q ds L) t c f mk L1 R)
    (post : ∀ acc L' v F' A' p H', R (mk acc) L' → Ext A1 H1 F1 (or2 A' (fun x => x = p)) H' F' → Lo K H' F' pn σ L' A' → (∃ vacc, H' p = some (.lst vacc) ∧ FrL K H' F' vacc acc) → ¬ F' p → ¬ A' p → v = .ref p → Q v H') :
    tLc (fun _ H R => R J H) (lowG K pn js t) (lowT K pn c) (low K pn f) vs σ H1 Q := by
  refine fun p np => ?_
  have e1 : Ext A1 H1 F1 A1 H1 F1 := .refl
  have h1 := h
  obtain ⟨hlen, W, h0, step, fin⟩ := h1
  obtain ⟨C1, low1, s1⟩ := lo1.wipe vs hp
  obtain ⟨nF, nA⟩ := lo1.ok.new np
  have k1 : ∀ a o, H1 a = some o → upd H1 p (.lst []) a = some o := fun a o e => by rw [upd_ne (ne_of_none e np)]; exact e
  have lo1' : Lo K (upd H1 p (.lst [])) F1 pn (wipe σ vs) (wipeD L1 vs) C1 := ⟨low1.loc.keep (fun _ z => z) fun a o _ => k1 a o, ⟨fun a z => by obtain ⟨o, e⟩ := low1.ok.f a z; exact ⟨o, k1 a o e⟩, fun a z => by obtain ⟨nf, o, e⟩ := low1.ok.a a z; exact ⟨nf, o, k1 a o e⟩⟩, low1.pin⟩
  refine ⟨fun i m H' => m = ds.length - i ∧ i ≤ ds.length ∧ ∃ F' A' L' acc, LcAt K pn (wipe σ vs) H' F' A' L' p acc ∧ acc.length ≤ i ∧ Ext A1 H1 F1 (or2 A' (fun x => x = p)) H' F' ∧ (∀ v ∈ vs, L'[v]? = some none ∨ L'.length ≤ v) ∧ W i acc L',
    ⟨_, rfl, Nat.zero_le _, F1, C1, wipeD L1 vs, [], ⟨lo1', ⟨[], upd_same, .nil⟩, nF, fun z => nA (s1 p z)⟩, Nat.le_refl _, ⟨fun _ z => z, fun _ z => .inl z, fun a o e _ => k1 a o e, fun a z => z.elim (fun z => .inl (s1 a z)) fun z => .inr (by rw [z]; exact np)⟩, fun v hv => wipeD_none hv, h0⟩, ?_⟩
  rintro i m H2 ⟨rfl, hi, F2, A2, L2, acc, ⟨lo2, ⟨vacc, eacc, facc⟩, nf2, na2⟩, hacc, e2, hw2, h2⟩
  have lt : Later F1 H1 F2 H2 := Later.of lo1.ok e2
  by_cases hlt : i < ds.length
  · refine .inr ⟨w.go i H2 F2 lt hlt, fun H' => (i + 1) ≤ ds.length ∧ ∃ F' A' L' acc, LcAt K pn (wipe σ vs) H' F' A' L' p acc ∧ acc.length ≤ i + 1 ∧ Ext A1 H1 F1 (or2 A' (fun x => x = p)) H' F' ∧ (∀ v ∈ vs, L'[v]? = some none ∨ L'.length ≤ v) ∧ W (i + 1) acc L',
      fun H' z => ⟨_, by omega, rfl, z.1, z.2⟩, fun x H3 y => ?_⟩
    have ed : ds[i]? = some ds[i] := List.getElem?_eq_getElem hlt
    obtain ⟨F3, gr, fr⟩ := w.yld i H2 F2 x H3 _ lt y ed
    have nf3 : ¬ F3 p := fun z => (gr.new p z).elim nf2 fun n => by rw [n] at eacc; cases eacc
    refine ⟨F3, A2, L2, _, _, gr.lo lo2, fr, step i _ acc L2 ed h2, fun σ4 L4 F4 A4 H4 h4 e4 lo4 u4 n4 => ?_⟩
    have keepP : ∀ {F A F' A' : Fp} {H H' : Hp}, Ext A H F A' H' F' → ¬ F p → ¬ A p → (∃ o, H p = some o) → ¬ F' p ∧ ¬ A' p := fun x nf na ⟨o, e⟩ => by
      refine ⟨fun z => ?_, fun z => ?_⟩
      · rcases x.new p z with z | z | z
        · exact nf z
        · rw [e] at z; cases z
        · exact na z
      · rcases x.own p z with z | z
        · exact na z
        · rw [e] at z; cases z
    have ep3 : H3 p = some (.lst vacc) := gr.keep _ _ eacc
    have ep4 : H4 p = some (.lst vacc) := e4.keep _ _ ep3 na2
    obtain ⟨nf4, na4⟩ := keepP e4 nf3 na2 ⟨_, ep3⟩
    have f3 := (facc.grow gr).ext (gr.lo lo2).ok e4
    have wipe4 : wipe σ4 vs = wipe (wipe σ vs) vs := wipe_idem (fun j hj' => u4 j fun z => hj' (hj j z)) n4
    have wipe5 := wipe4.trans (wipe_twice σ vs)
    refine ⟨wipe5, F4, A4, L4, _, lo4, h4, fun b L5 F5 A5 H5 h5 e5 lo5 => ?_⟩
    have ep5 : H5 p = some (.lst vacc) := e5.keep _ _ ep4 na4
    obtain ⟨nf5, na5⟩ := keepP e5 nf4 na4 ⟨_, ep4⟩
    have f5 := f3.ext lo4.ok e5
    have up : ∀ {A A' : Fp} {H H' : Hp} {F F' : Fp}, Ext A H F A' H' F' → Ext (or2 A fun x => x = p) H F (or2 A' fun x => x = p) H' F' := fun x =>
      ⟨x.sub, fun a z => (x.new a z).imp_right fun z => z.imp_right .inl, fun a o e n => x.keep a o e fun z => n (.inl z), fun a z => z.elim (fun z => (x.own a z).imp_left .inl) fun z => .inl (.inr z)⟩
    have e15 : Ext A1 H1 F1 (or2 A5 fun x => x = p) H5 F5 := ((e2.trans gr.ext).trans (up e4)).trans (up e5)
    cases b with
    | true =>
      refine iteT ⟨F5, A5, L5, _, lo5, h5, fun y L6 v6 F6 A6 H6 h6 e6 lo6 fy => ?_⟩
      have ep6 : H6 p = some (.lst vacc) := e6.keep _ _ ep5 na5
      obtain ⟨nf6, na6⟩ := keepP e6 nf5 na5 ⟨_, ep5⟩
      have f6 := f5.ext lo5.ok e6
      refine ⟨vacc, ep6, ?_, hlt, F6, ?_⟩
      · rw [f6.length]; omega
      · obtain ⟨C6, lo6w, s6⟩ := lo6.wipe vs hp
        rw [wipe5] at lo6w
        have k6 : ∀ a o, F6 a ∨ C6 a → H6 a = some o → upd H6 p (.lst (vacc ++ [v6])) a = some o := fun a o z e => by
          rw [upd_ne fun e' => ?_]
          · exact e
          · subst e'
            exact z.elim nf6 fun z => na6 (s6 _ z)
        refine ⟨C6, wipeD L6 vs, acc ++ [y], ⟨⟨lo6w.loc.keep (fun _ z => z) k6, ⟨fun a z => ?_, fun a z => ?_⟩, lo6w.pin⟩, ⟨_, upd_same, ?_⟩, nf6, fun z => na6 (s6 _ z)⟩, by rw [List.length_append]; exact Nat.succ_le_succ hacc, ?_, fun v hv => wipeD_none hv, h6⟩
        · obtain ⟨o, e⟩ := lo6w.ok.f a z
          exact ⟨o, k6 a o (.inl z) e⟩
        · obtain ⟨nf, o, e⟩ := lo6w.ok.a a z
          exact ⟨nf, o, k6 a o (.inr z) e⟩
        · exact (f6.append (.cons fy .nil)).keep (fun _ z => z) fun a o z e => k6 a o (.inl z) e
        · refine e15.trans ((up e6).trans ⟨fun _ z => z, fun _ z => .inl z, fun a o e n => ?_, fun a z => .inl (z.imp_left (s6 a))⟩)
          rw [upd_ne fun z => n (.inr z)]
          exact e
    | false =>
      obtain ⟨C5, lo5w, s5⟩ := lo5.wipe vs hp
      rw [wipe5] at lo5w
      exact iteF ⟨hlt, F5, C5, wipeD L5 vs, acc, ⟨lo5w, ⟨vacc, ep5, f5⟩, nf5, fun z => na5 (s5 _ z)⟩, by omega, e15.less fun a z => z.imp_left (s5 a), fun v hv => wipeD_none hv, h5⟩
  · have e : i = ds.length := by omega
    subst e
    obtain ⟨C, hC, sC⟩ := lo1.loc.back lt lo2.loc hw2
    refine .inl ⟨w.stop H2 F2 lt, post acc _ _ F2 C p H2 (fin acc L2 h2) (e1.trans (e2.less fun a z => z.imp_left (sC a))) ⟨hC, ⟨lo2.ok.f, fun a z => lo2.ok.a a (sC a z)⟩, lo1.pin⟩ ⟨vacc, eacc, facc⟩ nf2 (fun z => na2 (sC p z)) rfl⟩
end
def keyD : Key → D
  | .inl i => .int i
  | .inr x => .str x
def isKeyD : D → Bool
  | .int _ => true
  | .str _ => true
  | _ => false
theorem keyD_fr {K : PySem.W.Frag} {H : Hp} {F : Fp} (k : Key) : Fr K H F (kV k) (keyD k) := by
  cases k with
  | inl i => exact .int i
  | inr x => exact .str x
theorem isKeyD_fr {K : PySem.W.Frag} {H H' : Hp} {F F' : Fp} : ∀ {vs : List V} {ds : List D}, FrL K H F vs ds → ds.all isKeyD = true → FrL K H' F' vs ds
  | _, _, .nil, _ => .nil
  | _, _, .cons h r, e => by
    rw [List.all_cons, Bool.and_eq_true] at e
    refine .cons ?_ (isKeyD_fr r e.2)
    cases h with
    | int i => exact .int i
    | str x => exact .str x
    | _ => cases e.1
theorem walk_Itk {K : PySem.W.Frag} {H : Hp} {F : Fp} {d : Addr} {od : Obj} {kvs : List (Key × V)} {es : List (Key × D)} (hd : F d) (e : H d = some (.frz od (.dK kvs))) (hk : kvs.map Prod.fst = es.map Prod.fst) : WalkD K H F (Itk d od kvs) (es.map fun e => keyD e.1) := by
  have hl : kvs.length = es.length := len_fst hk
  refine ⟨fun H2 F2 l => ⟨l.keep _ _ hd e, by rw [List.length_map]; omega⟩, fun i H2 F2 l hi => ⟨l.keep _ _ hd e, by rw [List.length_map] at hi; omega⟩, fun i H2 F2 x H3 w l y ew => ?_⟩
  obtain ⟨rfl, k, v, ek, rfl⟩ := y
  have e1 : (es.map Prod.fst)[i]? = some k := by rw [← hk, List.getElem?_map, ek]; rfl
  rw [List.getElem?_map] at e1
  rw [List.getElem?_map] at ew
  cases h : es[i]? with
  | none => rw [h] at e1; cases e1
  | some q =>
    rw [h] at e1 ew
    cases e1
    cases ew
    exact ⟨F2, .refl, keyD_fr _⟩
/-- y = [.. for k in x ..], a dict of one's own at j -/
def dSetLcK (i j : Nat) (vs : List Nat) (t : FG) (c : FT) (f : FE) : FS := fun E L => ∃ es, L[j]? = some (some (.mK es)) ∧ noMos (L.set j none) = true ∧
  dLc vs (fun L Q => Q (es.map fun e => keyD e.1) L) t c f .ml (fzAll (L.set j none)) fun d _ => ∃ acc, d = .ml acc ∧ acc.all isKeyD = true ∧ E.nx (L.set i (some (.ml acc)))
/-- the dict at j, locked -/
def lowK (j : Nat) (v : V) : TI := fun σ H R => ∃ d od kvs, v = .ref d ∧ σ[j]? = some (some v) ∧ H d = some (.frz od (.dK kvs)) ∧ R (Itk d od kvs) H
theorem ps_any {X : Cx} {α : Type} {st : Stmt} {T : α → TS} (h : ∀ v, PS X st (T v)) : PS X st (fun E σ H => ∃ v, T v E σ H) := ⟨fun pins s σ H E I q => by
  obtain ⟨v, q⟩ := q
  exact (h v).run pins s σ H E I q⟩
section
variable {X : Cx} {pn : List (Nat × V)} {elt tg : Expr} {ifs : List Expr} {scope : Scope} {own : List (Str × Nat)} {pos px : Pos} {t : FG} {c : FT} {f : FE} {js : List Nat}
theorem d_setLcK {i : Nat} (j : Nat) {x y : Str} {py spos : Pos} (hc : X.calm = true) (hNd : X.N.Nodup) (hy : X.N[i]? = some y) (hyl : X.env.scope.names.lookup y = some .local) (hpi : (pn.any fun p => p.1 == i) = false)
    (hsw : swapsWith (.ListComp elt [⟨tg, .Name x px, ifs, 0⟩] scope pos) (some (.Name y py)) spos.line X.env = pure true) (ok : BlkOk X.N X.env.scope scope own) (hj : ∀ j ∈ js, j ∈ lcOwn own) (hp : ∀ v, (lcOwn own).all (fun u => !(((j, v) :: pn).any fun p => p.1 == u)) = true)
    (hg : ∀ v, Blk X scope fun Y => PG Y tg (lowG Y.K ((j, v) :: pn) js t)) (ht : ∀ v, Blk X scope fun Y => PTs Y ifs (lowT Y.K ((j, v) :: pn) c)) (he : ∀ v, Blk X scope fun Y => DE Y ((j, v) :: pn) elt f)
    (hN : X.N[j]? = some x := by rfl) (hv : Vis X.env.scope x := by first | exact Or.inl rfl | exact Or.inr (Or.inl rfl) | exact Or.inr (Or.inr rfl)) (hd : (x == ("__debug__" : Str)) = false := by decide) (hcd : (x == ("__classdict__" : Str)) = false := by decide)
    (hs : ∀ z, foldedSetIterable (.Name x px) X.env z = pure z := by intro _; rfl) :
    DS X pn (.Assign [.Name y py] (.ListComp elt [⟨tg, .Name x px, ifs, 0⟩] scope pos) spos) (dSetLcK i j (lcOwn own) t c f) := by
  have hi : ∀ v, PI X tg (.Name x px) (lowK j v) := fun v => pi_weak (pi_keys (pe_var hN hv hd hcd)) fun σ H R q => by
    obtain ⟨d, od, kvs, rfl, e, h, q⟩ := q
    exact ⟨_, e, d, od, rfl, .inl ⟨kvs, h, q⟩⟩
  refine ps_weak (ps_any fun v => ps_lock (ps_setLc (g := lowG X.K ((j, v) :: pn) js t) (tt := lowT X.K ((j, v) :: pn) c) (te := low X.K ((j, v) :: pn) f) hc hNd hy hyl hsw (hi v) ok (hg v) (ht v) (he v) hs)) fun E σ H q => ?_
  obtain ⟨F, A, L, D0, lo, ⟨es, ej, hmo, h⟩, p⟩ := q
  obtain ⟨v, B, C, h1, h2, h3, h4, h5⟩ := lo.loc.out ej
  cases h2 with
  | fr z => cases z
  | mK hd0 hk r na =>
    rename_i d kvs B1
    have Ad : A d := (h4 d).mpr (.inl (.inl rfl))
    have nF : ¬ F d := (lo.ok.a d Ad).1
    have nC : ¬ C d := h5 d (.inl rfl)
    refine ⟨.ref d, d, .dK kvs, hd0, trivial, fun od => ?_⟩
    have k1 : ∀ a o, a ≠ d → H a = some o → upd H d (.frz od (.dK kvs)) a = some o := fun a o n e => by rw [upd_ne n]; exact e
    have hpn : ∀ q ∈ (j, V.ref d) :: pn, σ[q.1]? = some (some q.2) := fun q hq => by
      rcases List.mem_cons.mp hq with rfl | hq
      · exact h1
      · exact lo.pin q hq
    have lo1 : Lo X.K (upd H d (.frz od (.dK kvs))) (or2 F fun z => z = d) ((j, .ref d) :: pn) σ (L.set j none) C := ⟨h3.keep (fun _ z => .inl z) fun a o z e => k1 a o (fun w => by subst w; exact z.elim nF nC) e, ⟨fun a z => by
      rcases z with z | rfl
      · obtain ⟨o, e⟩ := lo.ok.f a z
        exact ⟨o, k1 a o (fun w => by subst w; exact nF z) e⟩
      · exact ⟨_, upd_same⟩, fun a z => by
      obtain ⟨nf, o, e⟩ := lo.ok.a a ((h4 a).mpr (.inr z))
      have n : a ≠ d := fun w => by subst w; exact nC z
      exact ⟨fun y => y.elim nf n, o, k1 a o n e⟩⟩, hpn⟩
    obtain ⟨A2, lo2, n2, _⟩ := lo_pure lo1 hmo
    have lc := low_lcI (J := Itk d od kvs) (js := js) (mk := .ml) (Q := fun v H' => gName i v σ H' fun σ' H' => H' d = some (.frz od (.dK kvs)) ∧ E.nx σ' (upd H' d (.dK kvs))) hj (hp _) lo2 (walk_Itk (.inl (.inr rfl)) upd_same hk) h fun acc L' v F' A' q H' ⟨acc', ea, hk', g⟩ x l ⟨vacc, e, fa⟩ nf na' ev => by
      cases ea
      subst ev
      have keep : ∀ a o, upd H d (.frz od (.dK kvs)) a = some o → H' a = some o := fun a o e => x.keep a o e (n2 a)
      have hd' : H' d = some (.frz od (.dK kvs)) := keep d _ upd_same
      have all : ∀ a o, H a = some o → upd H' d (.dK kvs) a = some o := fun a o e => by
        by_cases w : a = d
        · subst w
          rw [upd_same]
          rw [hd0] at e
          exact e
        · rw [upd_ne w]
          exact keep a o (k1 a o w e)
      have np : H q = none ∧ q ≠ d := by
        rcases x.own q (.inr rfl) with z | z
        · exact (n2 q z).elim
        · by_cases w : q = d
          · subst w
            rw [upd_same] at z
            cases z
          · rw [upd_ne w] at z
            exact ⟨z, w⟩
      have nFA := lo.ok.new np.1
      have lo3 : Lo X.K (upd H' d (.dK kvs)) F pn σ L A := ⟨lo.loc.keep (fun _ z => z) fun a o _ e => all a o e, ⟨fun a z => by
        obtain ⟨o, e⟩ := lo.ok.f a z
        exact ⟨o, all a o e⟩, fun a z => by
        obtain ⟨nf, o, e⟩ := lo.ok.a a z
        exact ⟨nf, o, all a o e⟩⟩, lo.pin⟩
      obtain ⟨CC, oc, nc⟩ := (isKeyD_fr (H' := upd H' d (.dK kvs)) (F' := F) fa hk').ow
      have sub : ∀ a, or2 (fun x => x = q) CC a → a = q := fun a z => z.elim id fun z => (nc a z).elim
      have ow : Ow X.K (upd H' d (.dK kvs)) F (.ref q) (.ml acc) (or2 (fun x => x = q) CC) := .ml (by rw [upd_ne np.2]; exact e) oc (nc q)
      obtain ⟨A', l', s⟩ := lo3.set ow ⟨lo3.ok.f, fun a z => by
        have := sub a z
        subst this
        exact ⟨nFA.1, vacc |> fun _ => ⟨_, by rw [upd_ne np.2]; exact e⟩⟩⟩ (fun a z => by
        have := sub a z
        subst this
        exact nFA.2) hpi
      refine ⟨hd', p.nx _ _ F A' _ g ⟨fun _ z => z, fun _ z => .inl z, fun a o e _ => all a o e, fun a z => ?_⟩ l'⟩
      rcases s a z with z | z
      · right
        have := sub a z
        subst this
        exact np.1
      · exact .inl z
    exact ⟨d, od, kvs, rfl, h1, upd_same, lc⟩
end
/-! ### the length of a frozen dict -/
end DL

/-! How many unlike numbers: {y for x in a for y in b} of ints, and set(t) of a tuple of ints, each asked for its length. -/
namespace NR
open PySem PySem.Spec PyProof.Rows L2 PpSet
/-- a comprehension of two sources, without tests -/
abbrev sc2 (elt t0 i0 t1 i1 : Expr) (sc : Scope) (p : Pos) : Expr := .SetComp elt [⟨t0, i0, [], 0⟩, ⟨t1, i1, [], 0⟩] sc p
section
variable {P : Program} {w : World} {A : Around} {R : Result → Shared → Prop} {s : Shared} {elt t0 i0 t1 i1 : Expr} {sc : Scope} {p : Pos} {it acc : Value} {env : Env}
theorem sc2_turn0 : compTurn (sc2 elt t0 i0 t1 i1 sc p) 0 it acc env = (do
    standAt i0.pos
    match ← pyNext it with
    | none => pure (.done .next)
    | some v =>
      letOwnedTupleGo t0 it v
      assign t0 env v
      let x ← eval i1 env
      standAt i1.pos
      let x ← foldedSetIterable i1 env x
      let j ← holding [x] (pyIter x)
      let _ ← runOwn (.compStart (sc2 elt t0 i0 t1 i1 sc p) 1 j acc env) env
      again (.compLoop (sc2 elt t0 i0 t1 i1 sc p) 0 it acc env)) := by rfl
theorem sc2_turn1 : compTurn (sc2 elt t0 i0 t1 i1 sc p) 1 it acc env = (do
    standAt i1.pos
    match ← pyNext it with
    | none => pure (.done .next)
    | some v =>
      letOwnedTupleGo t1 it v
      assign t1 env v
      (do
        let y ← eval elt env
        standAt elt.pos
        let _ ← call (.builtin "set.add") [acc, y])
      again (.compLoop (sc2 elt t0 i0 t1 i1 sc p) 1 it acc env)) := by rfl
/-- what an error would do -/
abbrev erN (P : Program) (w : World) (A : Around) (env : Env) (R : Result → Shared → Prop) : Value → Shared → Prop := notedBy (model P w) A env fun e s' => R (.error e) s'
theorem sc2_loop1 (I : Nat → Shared → Prop)
    (turn : ∀ n s, I n s → wpAny (model P w) A (pyNext it) (fun r s1 => match r with
      | none => R (.ok .next) s1
      | some v => wpAny (model P w) A (letOwnedTupleGo t1 it v) (fun _ s2 => wpAny (model P w) A (assign t1 env v) (fun _ s3 => wpAny (model P w) A (eval elt env) (fun y s4 => wpAny (model P w) A (call (.builtin "set.add") [acc, y]) (fun _ s5 => ∃ m, m < n ∧ I m s5)
          (erN P w A env R) s4) (erN P w A env R) s3) (erN P w A env R) s2) (erN P w A env R) s1) (erN P w A env R) s) (n : Nat) (h : I n s) :
    codeAny (model P w) A (.compLoop (sc2 elt t0 i0 t1 i1 sc p) 1 it acc env) R s := by
  refine codeAny_loop rfl I (fun n s hI => ?_) n h
  show wpAny _ A ((compTurn (sc2 elt t0 i0 t1 i1 sc p) 1 it acc env).onRaise (fun x => do noteFrame x env; theTreesLotGoes x)) _ _ s
  refine wpAny_noted ?_
  rw [sc2_turn1]
  refine wpAny_bind (wpAny_standAt (wpAny_bind (thn (turn n s hI) fun r s1 h1 => ?_)))
  cases r with
  | none => exact wpAny_pure h1
  | some v => exact wpAny_bind (thn h1 fun _ s2 h2 => wpAny_bind (thn h2 fun _ s3 h3 => wpAny_bind (wpAny_bind (thn h3 fun y s4 h4 => wpAny_bind (wpAny_standAt (wpAny_bind (thn h4 fun _ s5 h5 => wpAny_pure (wpAny_pure ⟨rfl, h5⟩))))))))
theorem sc2_loop0 (hs : ∀ x, foldedSetIterable i1 env x = pure x) (I : Nat → Shared → Prop)
    (turn : ∀ n s, I n s → wpAny (model P w) A (pyNext it) (fun r s1 => match r with
      | none => R (.ok .next) s1
      | some v => wpAny (model P w) A (letOwnedTupleGo t0 it v) (fun _ s2 => wpAny (model P w) A (assign t0 env v) (fun _ s3 => wpAny (model P w) A (eval i1 env) (fun x s4 => wpAny (model P w) A (pyIter x) (fun j s5 =>
          codeAny (model P w) A (.compStart (sc2 elt t0 i0 t1 i1 sc p) 1 j acc env) (fun r s' => (∃ f, r = .ok f) ∧ ∃ m, m < n ∧ I m s') s5)
          (erN P w A env R) s4) (erN P w A env R) s3) (erN P w A env R) s2) (erN P w A env R) s1) (erN P w A env R) s) (n : Nat) (h : I n s) :
    codeAny (model P w) A (.compLoop (sc2 elt t0 i0 t1 i1 sc p) 0 it acc env) R s := by
  refine codeAny_loop rfl I (fun n s hI => ?_) n h
  show wpAny _ A ((compTurn (sc2 elt t0 i0 t1 i1 sc p) 0 it acc env).onRaise (fun x => do noteFrame x env; theTreesLotGoes x)) _ _ s
  refine wpAny_noted ?_
  rw [sc2_turn0]
  refine wpAny_bind (wpAny_standAt (wpAny_bind (thn (turn n s hI) fun r s1 h1 => ?_)))
  cases r with
  | none => exact wpAny_pure h1
  | some v =>
    refine wpAny_bind (thn h1 fun _ s2 h2 => wpAny_bind (thn h2 fun _ s3 h3 => wpAny_bind (thn h3 fun x s4 h4 => wpAny_bind (wpAny_standAt (wpAny_bind (wpAny_of_eq (hs x) (wpAny_bind (wpAny_holding (thn h4 fun j s5 h5 => ?_)))))))))
    refine wpAny_bind (wpAny_runOwn ?_)
    rw [Around.mark_none]
    refine codeAny_mono h5 fun r s' hr => ?_
    obtain ⟨⟨f, rfl⟩, hr⟩ := hr
    first
      | exact wpAny_pure ⟨rfl, hr⟩
      | exact wpAny_bind (wpAny_pure (wpAny_pure ⟨rfl, hr⟩))
theorem sc2_start1 (h0 : codeAny (model P w) A (.compLoop (sc2 elt t0 i0 t1 i1 sc p) 1 it acc env) R s)
    (h : wpAny (model P w) A (pyIter it) (fun it' s' => codeAny (model P w) A (.compLoop (sc2 elt t0 i0 t1 i1 sc p) 1 it' acc env) R s') (erN P w A env R) s) :
    codeAny (model P w) A (.compStart (sc2 elt t0 i0 t1 i1 sc p) 1 it acc env) R s := by
  refine codeAny_of_tree ?_
  show wpAny _ _ ((compStart (sc2 elt t0 i0 t1 i1 sc p) 1 it acc env).onRaise (fun x => do noteFrame x env; standAt theWindowsPlace)) _ _ s
  refine wpAny_notedAt ?_
  unfold compStart
  show wpAny _ _ (ask >>= _) _ _ s
  refine wpAny_bind (wpAny_askSetting (wpAny_ite ?_))
  split
  · first
      | exact wpAny_bind (wpAny_pure (wpAny_pure ⟨rfl, h0⟩))
      | exact wpAny_pure ⟨rfl, h0⟩
  · refine wpAny_bind (wpAny_rule ?_)
    show wpAny _ _ (standAt i1.pos >>= _) _ _ s
    exact wpAny_bind (wpAny_standAt (wpAny_bind (thn h fun it' s' h' => wpAny_pure ⟨rfl, h'⟩)))
end
section
variable {X : Cx}
/-- a number put in -/
def AddI (w : World) (D : Addr) (Nx : Hp → Prop) (y : V) (H : Hp) : Prop := ∃ (k : Int) (S : Int → Bool) (n : Nat), y = .int k ∧ H D = some (SetO w D S n) ∧ n + 1 < scanBound ∧ Nx (upd H D (SetO w D (fun j => S j || decide (j = k)) (if S k = true then n else n + 1)))
theorem add_int {pins : List (Addr × Obj)} {σ : L2.St} {H : Hp} {s : Shared} {D : Addr} {y : V} {u : Value} {Nx : Hp → Prop} {Q : Value → Shared → Prop} {E : Value → Shared → Prop} (I : Inv X pins σ H s) (ry : RelV y u) (a : AddI X.w D Nx y H)
    (h : ∀ s' H', Inv X pins σ H' s' → Nx H' → Q .none s') : wpAny (model X.prog X.w) X.A (call (.builtin "set.add") [.ref D, u]) Q E s := by
  obtain ⟨k, S, n, rfl, eD, room, nx⟩ := a
  obtain ⟨tk, rfl⟩ := ry
  refine setR_add (setO_get I eD) room fun h1 only R1 => ?_
  have there : ∃ o, h1.get? D = some o := let ⟨o, _, _, _, ho, _⟩ := R1; ⟨o, ho⟩
  exact h _ _ (I.write (e := D) (t' := s.toks + 1) (by rw [eD]; trivial) (.inl rfl) (fun c o hc z => (only.2 c hc).trans z) there (setO_new R1)) nx
/-- one turn of the inner loop -/
def Turn1 (w : World) (g1 : TG) (te : TE) (vs1 : List Nat) (σ : L2.St) (D : Addr) (Nx : Hp → Prop) (x : V) (H : Hp) : Prop := g1 x (wipe σ vs1) H fun σ3 H3 => wipe σ3 vs1 = wipe σ vs1 ∧ te σ3 H3 fun y H4 => AddI w D Nx y H4
/-- the inner loop, from which Nx is reached -/
def Inner (w : World) (g1 : TG) (te : TE) (vs1 : List Nat) (σ : L2.St) (D : Addr) (Nx : Hp → Prop) (J : It) (H : Hp) : Prop := ∃ W : Nat → Nat → Hp → Prop, (∃ m, W 0 m H) ∧ ∀ i m H, W i m H →
  (J.stop i H ∧ Nx H) ∨ (J.go i H ∧ ∃ Nx1 : Hp → Prop, (∀ H', Nx1 H' → ∃ m', m' < m ∧ W (i + 1) m' H') ∧ ∀ x H', J.yld i H x H' → Turn1 w g1 te vs1 σ D Nx1 x H')
def Turn0 (w : World) (g : TG) (wi1 : TI) (g1 : TG) (te : TE) (vs vs1 : List Nat) (σ : L2.St) (D : Addr) (Nx : Hp → Prop) (x : V) (H : Hp) : Prop := g x (wipe σ vs) H fun σ2 H2 => wipe σ2 vs = wipe σ vs ∧ wi1 σ2 H2 fun J H3 => Inner w g1 te vs1 σ2 D Nx J H3
def tSc2 (w : World) (wi : TI) (g : TG) (wi1 : TI) (g1 : TG) (te : TE) (vs vs1 : List Nat) : TE := fun σ H Q => wi σ H fun J H1 => ∀ D, H1 D = none → ∃ W : Nat → Nat → Hp → Prop, (∃ m, W 0 m (upd H1 D (SetO w D (fun _ => false) 0))) ∧ ∀ i m H, W i m H →
  (J.stop i H ∧ Q (.ref D) H) ∨ (J.go i H ∧ ∃ Nx : Hp → Prop, (∀ H', Nx H' → ∃ m', m' < m ∧ W (i + 1) m' H') ∧ ∀ x H', J.yld i H x H' → Turn0 w g wi1 g1 te vs vs1 σ D Nx x H')
theorem sc2_core {pins : List (Addr × Obj)} {s : Shared} {σ : L2.St} {H : Hp} {Q : VK} {Qf : Value → Shared → Prop} {elt tg iter tg1 iter1 : Expr} {sc : Scope} {own : List (Str × Nat)} {vs1 : List Nat} {p pos' : Pos} {wi wi1 : TI} {g g1 : TG} {te : TE} (I : Inv X pins σ H s)
    (hc : X.calm = true) (hN : X.N.Nodup) (hi : PI X tg iter wi) (ok : BlkOk X.N X.env.scope sc own) (hv : ∀ i ∈ vs1, i ∈ own.map (·.2))
    (hg : ∀ (s : Shared) (H : Hp) (C : Addr) (cl : List (Str × Addr)) (fp : List Addr), PG (X.blk s H sc (compEnvC sc cl C X.env) fp) tg g) (hi1 : ∀ (s : Shared) (H : Hp) (C : Addr) (cl : List (Str × Addr)) (fp : List Addr), PI (X.blk s H sc (compEnvC sc cl C X.env) fp) tg1 iter1 wi1)
    (hg1 : ∀ (s : Shared) (H : Hp) (C : Addr) (cl : List (Str × Addr)) (fp : List Addr), PG (X.blk s H sc (compEnvC sc cl C X.env) fp) tg1 g1) (he : ∀ (s : Shared) (H : Hp) (C : Addr) (cl : List (Str × Addr)) (fp : List Addr), PE (X.blk s H sc (compEnvC sc cl C X.env) fp) elt te)
    (hs : ∀ x, foldedSetIterable iter X.env x = pure x) (hs1 : ∀ env x, foldedSetIterable iter1 env x = pure x) (h : tSc2 X.w wi g wi1 g1 te (own.map (·.2)) vs1 σ H Q)
    (fin : ∀ D C s' m H', Inv X pins σ H' s' → Q (.ref D) H' → s'.heap.Ns C m → FpOk X pins H' C → compPost (model X.prog X.w) X.A X.xe none Qf (.ref D) C (.ok .next) s') :
    wpAny (model X.prog X.w) X.A (comprehension (sc2 elt tg iter tg1 iter1 sc p) sc X.env pos' (newSet (.type "set")) false (eval iter X.env) none) Qf X.xe s := by
  have clo : ∀ y ∈ sc.names, y.2 = .free → ∃ c, X.env.cells.lookup y.1 = some c := fun y hy e =>
    (ok.free y hy e).elim (fun q => I.ok.has _ (.inl q)) (fun q => I.ok.has _ (.inr q))
  refine wpAny_comprehension_free (use := none) rfl hs (closure_ok clo) ok.kind (fun y hy e => by rw [ok.uniq y hy, e]) (thn (hi.run pins s σ H _ I h) fun _ s1 first => thn first fun _ s2 got => ?_)
  obtain ⟨it, fp, tn, J, H2, e, I2, T, at0, foot, q⟩ := got
  subst e
  refine newSet_ok (newEnv_comp ?_)
  generalize eD : s2.heap.objs.size = D
  have nD : H2 D = none := I2.hok.fresh (Nat.le_of_eq eD)
  obtain ⟨W, ⟨m0, start⟩, turn⟩ := q D nD
  generalize e3 : ({ s2 with heap := s2.heap.push { cls := .type "set", dict := none, data := .set #[] 0 (.fresh 0 0 (!X.w.params.followText "set-order")) } } : Shared) = s3
  have hp3 : s3.heap = s2.heap.push { cls := .type "set", dict := none, data := .set #[] 0 (.fresh 0 0 (!X.w.params.followText "set-order")) } := by rw [← e3]
  generalize eS : upd H2 D (SetO X.w D (fun _ => false) 0) = HS at start
  have I3 : Inv X pins σ HS s3 := by
    subst e3 eD eS
    exact I2.laid (t' := s2.toks) (fun b o z => Heap.get?_push_of_some _ z) (Nat.le_refl _) (setO_new (setR_fresh X.w))
  have foot3 : ∀ b ∈ fp, FpOk X pins HS b ∧ b < s3.heap.objs.size := fun b hb => by
    obtain ⟨o, z, _⟩ := T.obj _ _ at0 b hb
    have lt := Heap.lt_size z
    have ne : b ≠ D := by rw [← eD]; exact Nat.ne_of_lt lt
    exact ⟨⟨by rw [← eS, upd_ne ne]; exact (foot b hb).1, (foot b hb).2⟩, by rw [hp3, Heap.size_push]; exact Nat.lt_succ_of_lt lt⟩
  have at3 : tn 0 s3.heap := T.keep _ _ _ at0 fun b _ o z => by rw [hp3]; exact Heap.get?_push_of_some _ z
  have I4 : Inv (X.blk s3 HS sc (compEnvC sc (cellsFrom (s3.heap.objs.size + 1) sc.names (cloFrom X.env.cells sc.names [])) s3.heap.objs.size X.env) fp) [] (wipe σ (own.map (·.2))) HS { s3 with heap := pushCells (s3.heap.push { cls := .type "dict", data := .dict #[] }) sc.names } := block_start I3 ok hN foot3
  have G := hg s3 HS s3.heap.objs.size (cellsFrom (s3.heap.objs.size + 1) sc.names (cloFrom X.env.cells sc.names [])) fp
  have S1 := hi1 s3 HS s3.heap.objs.size (cellsFrom (s3.heap.objs.size + 1) sc.names (cloFrom X.env.cells sc.names [])) fp
  have G1 := hg1 s3 HS s3.heap.objs.size (cellsFrom (s3.heap.objs.size + 1) sc.names (cloFrom X.env.cells sc.names [])) fp
  have Vx := he s3 HS s3.heap.objs.size (cellsFrom (s3.heap.objs.size + 1) sc.names (cloFrom X.env.cells sc.names [])) fp
  have none0 : ∀ b ∈ fp, HS b = none := fun b hb => (foot3 b hb).1.1
  have at4 : tn 0 (pushCells (s3.heap.push { cls := .type "dict", data := .dict #[] }) sc.names) := T.keep _ _ _ at3 fun b _ o z => pushCells_keeps _ _ _ _ (Heap.get?_push_of_some _ z)
  have locs : (compEnvC sc (cellsFrom (s3.heap.objs.size + 1) sc.names (cloFrom X.env.cells sc.names [])) s3.heap.objs.size X.env).locals = s3.heap.objs.size := rfl
  show codeAny _ _ (.compStart (sc2 elt tg iter tg1 iter1 sc p) 0 (.ref it) (.ref D) (compEnvC sc (cellsFrom (s3.heap.objs.size + 1) sc.names (cloFrom X.env.cells sc.names [])) s3.heap.objs.size X.env)) (compPost (model X.prog X.w) X.A X.xe none Qf (.ref D) s3.heap.objs.size) { s3 with heap := pushCells (s3.heap.push { cls := .type "dict", data := .dict #[] }) sc.names }
  generalize eC : compEnvC sc (cellsFrom (s3.heap.objs.size + 1) sc.names (cloFrom X.env.cells sc.names [])) s3.heap.objs.size X.env = ce at I4 G S1 G1 Vx locs ⊢
  have still : ∀ {σ' : L2.St} {H' : Hp} {s' : Shared}, Inv (X.blk s3 HS sc ce fp) [] σ' H' s' → (∀ b ∈ fp, H' b = none) → ∀ b ∈ fp, FpOk (X.blk s3 HS sc ce fp) [] H' b :=
    fun I' n b hb => ⟨n b hb, (I'.ok.exf b hb).1, I'.ok.exfs b hb, .inl hb, fun x c z => (I'.ok.exf b hb).2 x c z, fun p hp => absurd (show p ∈ ([] : List (Addr × Obj)) ++ [] from hp) (by simp)⟩
  have run : codeAny (model X.prog X.w) X.A (.compLoop (sc2 elt tg iter tg1 iter1 sc p) 0 (.ref it) (.ref D) ce) (compPost (model X.prog X.w) X.A X.xe none Qf (.ref D) s3.heap.objs.size)
      { s3 with heap := pushCells (s3.heap.push { cls := .type "dict", data := .dict #[] }) sc.names } := by
    refine sc2_loop0 (hs1 ce) (fun n s' => ∃ i H', Inv (X.blk s3 HS sc ce fp) [] (wipe σ (own.map (·.2))) H' s' ∧ tn i s'.heap ∧ (∀ b ∈ fp, H' b = none) ∧ W i n H') (fun n s5 hyp => ?_) m0 ⟨0, _, I4, at4, none0, start⟩
    obtain ⟨i, H5, I5, at5, n5, w5⟩ := hyp
    rcases turn i n H5 w5 with ⟨stop, done⟩ | ⟨go, Nx, less, step⟩
    · refine thnF (T.done (X.blk s3 HS sc ce fp) rfl rfl rfl hc i [] s5 _ H5 (fun _ _ => False) I5 (still I5 n5) at5 stop) fun r s6 last => ?_
      obtain ⟨er, I6⟩ := last
      subst er
      have I7 : Inv X pins σ H5 s6 := I3.call' (ch := fp) I6.os I6.base I6.hok I6.bare fun b hb =>
        let ⟨_, q1, _, q2, q3, q4⟩ := (foot3 b hb).1
        ⟨q2, q1, q3, q4⟩
      have nC : H5 s3.heap.objs.size = none := locs ▸ (show H5 ce.locals = none from I6.free)
      obtain ⟨m, ns, _⟩ := I6.loc
      have ns : s6.heap.Ns s3.heap.objs.size m := locs ▸ (show s6.heap.Ns ce.locals m from ns)
      exact fin D s3.heap.objs.size s6 m H5 I7 done ns (I3.fpOk (Nat.le_refl _) nC)
    · refine thnF (T.item (X.blk s3 HS sc ce fp) rfl rfl rfl hc i [] s5 _ H5 (fun _ _ => False) I5 (still I5 n5) at5 go) fun r s6 item => ?_
      obtain ⟨u, er, h6⟩ := item
      subst er
      refine thnF h6 fun _ s7 ⟨x, H7, I7, r7, y7, at7, n7⟩ => ?_
      -- the outer turn's end
      have next : ∀ {σ9 : L2.St} {H' : Hp} {s' : Shared}, (wipe σ (own.map (·.2))).length = σ9.length → (∀ (j : Nat) v, (wipe σ (own.map (·.2)))[j]? = some (some v) → σ9[j]? = some (some v)) → Inv (X.blk s3 HS sc ce fp) ([] ++ pinsAt fp s7.heap) σ9 H' s' → Nx H' →
          ∃ m, m < n ∧ ∃ i H', Inv (X.blk s3 HS sc ce fp) [] (wipe σ (own.map (·.2))) H' s' ∧ tn i s'.heap ∧ (∀ b ∈ fp, H' b = none) ∧ W i m H' := by
        intro σ9 H' s' hl hk I' nx
        obtain ⟨m1, lt, w1⟩ := less H' nx
        have pinned : ∀ b ∈ fp, ∀ o, s7.heap.get? b = some o → s'.heap.get? b = some o ∧ H' b = none := fun b hb o z =>
          let q := I'.pin (b, o) (List.mem_append_right _ (List.mem_append_right _ (mem_pinsAt hb z)))
          ⟨q.1, q.2.1⟩
        refine ⟨m1, lt, i + 1, H', (I'.unpinned (pins := [])).weak hl hk, T.keep _ _ _ at7 fun b hb o z => (pinned b hb o z).1, fun b hb => ?_, w1⟩
        obtain ⟨o, z, _⟩ := T.obj _ _ at7 b hb
        exact (pinned b hb o z).2
      refine thnF (G.run _ s7 _ H7 x u _ (I7.pinned (still I7 n7) (T.obj _ _ at7)) r7 (step x H7 y7)) fun _ s8 ⟨σ8, H8, I8, hw8, q8⟩ => ?_
      have kept : ∀ (j : Nat) v, (wipe σ (own.map (·.2)))[j]? = some (some v) → (wipe σ8 vs1)[j]? = some (some v) := fun j v z => by
        rw [← hw8] at z
        obtain ⟨z1, z2⟩ := wipe_some z
        rw [wipe_out fun m => z2 (hv j m)]
        exact z1
      -- the inner source, and its loop
      refine thnF (S1.run _ s8 σ8 H8 _ I8 q8) fun xv s9 hx => thnF hx fun _ s10 got1 => ?_
      obtain ⟨it1, fp1, tn1, J1, H10, e1, I10, T1, at10, foot1, W1, ⟨m1, w1⟩, turn1⟩ := got1
      subst e1
      have still1 : ∀ {H' : Hp}, (∀ b ∈ fp1, H' b = none) → ∀ b ∈ fp1, FpOk (X.blk s3 HS sc ce fp) ([] ++ pinsAt fp s7.heap) H' b := fun n b hb => ⟨n b hb, (foot1 b hb).2⟩
      have run1 : codeAny (model X.prog X.w) X.A (.compLoop (sc2 elt tg iter tg1 iter1 sc p) 1 (.ref it1) (.ref D) ce)
          (fun r s' => (∃ f, r = .ok f) ∧ ∃ m, m < n ∧ ∃ i H', Inv (X.blk s3 HS sc ce fp) [] (wipe σ (own.map (·.2))) H' s' ∧ tn i s'.heap ∧ (∀ b ∈ fp, H' b = none) ∧ W i m H') s10 := by
        refine sc2_loop1 (fun k s' => ∃ j H', Inv (X.blk s3 HS sc ce fp) ([] ++ pinsAt fp s7.heap) (wipe σ8 vs1) H' s' ∧ tn1 j s'.heap ∧ (∀ b ∈ fp1, H' b = none) ∧ W1 j k H') (fun k s11 hyp => ?_) m1 ⟨0, _, I10.weak (wipe_length _ _) (fun j v z => (wipe_some z).1), at10, fun b hb => (foot1 b hb).1, w1⟩
        obtain ⟨j, H11, I11, at11, n11, w11⟩ := hyp
        rcases turn1 j k H11 w11 with ⟨stop1, nx⟩ | ⟨go1, Nx1, less1, step1⟩
        · refine thnF (T1.done (X.blk s3 HS sc ce fp) rfl rfl rfl hc j _ s11 (wipe σ8 vs1) H11 (fun _ _ => False) I11 (still1 n11) at11 stop1) fun r s12 last => ?_
          obtain ⟨er, I12⟩ := last
          subst er
          exact ⟨⟨_, rfl⟩, next ((congrArg List.length hw8).symm.trans ((wipe_length _ _).trans (wipe_length _ _).symm)) kept I12 nx⟩
        · refine thnF (T1.item (X.blk s3 HS sc ce fp) rfl rfl rfl hc j _ s11 (wipe σ8 vs1) H11 (fun _ _ => False) I11 (still1 n11) at11 go1) fun r s12 item1 => ?_
          obtain ⟨u1, er, h12⟩ := item1
          subst er
          refine thnF h12 fun _ s13 ⟨x1, H13, I13, r13, y13, at13, n13⟩ => ?_
          refine thnF (G1.run _ s13 (wipe σ8 vs1) H13 x1 u1 _ (I13.pinned (still1 n13) (T1.obj _ _ at13)) r13 (step1 x1 H13 y13)) fun _ s14 ⟨σ14, H14, I14, hw14, q14⟩ => ?_
          refine thnF (Vx.run _ s14 σ14 H14 _ I14 q14) fun _ s15 ⟨y, H15, I15, ry, ad⟩ => ?_
          refine add_int (X := X.blk s3 HS sc ce fp) I15 ry ad fun s16 H16 I16 nx1 => ?_
          obtain ⟨m2, lt, w2⟩ := less1 H16 nx1
          have pinned1 : ∀ b ∈ fp1, ∀ o, s13.heap.get? b = some o → s16.heap.get? b = some o ∧ H16 b = none := fun b hb o z =>
            let q := I16.pin (b, o) (List.mem_append_right _ (List.mem_append_right _ (mem_pinsAt hb z)))
            ⟨q.1, q.2.1⟩
          refine ⟨m2, lt, j + 1, H16, I16.unpinned.weak (by rw [← hw14, wipe_length]) (fun j v z => by rw [← hw14] at z; exact (wipe_some z).1), T1.keep _ _ _ at13 fun b hb o z => (pinned1 b hb o z).1, fun b hb => ?_, w2⟩
          obtain ⟨o, z, _⟩ := T1.obj _ _ at13 b hb
          exact (pinned1 b hb o z).2
      exact sc2_start1 run1 (T1.self X.A 0 _ _ _ at10 run1)
  exact codeAny_compStart_set run (T.self X.A 0 _ _ _ at4 run)
theorem pe_sc2 {elt tg iter tg1 iter1 : Expr} {sc : Scope} {own : List (Str × Nat)} {vs1 : List Nat} {p : Pos} {wi wi1 : TI} {g g1 : TG} {te : TE} (hc : X.calm = true) (hN : X.N.Nodup) (hi : PI X tg iter wi) (ok : BlkOk X.N X.env.scope sc own) (hv : ∀ i ∈ vs1, i ∈ own.map (·.2))
    (hg : ∀ (s : Shared) (H : Hp) (C : Addr) (cl : List (Str × Addr)) (fp : List Addr), PG (X.blk s H sc (compEnvC sc cl C X.env) fp) tg g) (hi1 : ∀ (s : Shared) (H : Hp) (C : Addr) (cl : List (Str × Addr)) (fp : List Addr), PI (X.blk s H sc (compEnvC sc cl C X.env) fp) tg1 iter1 wi1)
    (hg1 : ∀ (s : Shared) (H : Hp) (C : Addr) (cl : List (Str × Addr)) (fp : List Addr), PG (X.blk s H sc (compEnvC sc cl C X.env) fp) tg1 g1) (he : ∀ (s : Shared) (H : Hp) (C : Addr) (cl : List (Str × Addr)) (fp : List Addr), PE (X.blk s H sc (compEnvC sc cl C X.env) fp) elt te)
    (hs : ∀ x, foldedSetIterable iter X.env x = pure x := by intro _; rfl) (hs1 : ∀ env x, foldedSetIterable iter1 env x = pure x := by intro _ _; rfl) : PE X (sc2 elt tg iter tg1 iter1 sc p) (tSc2 X.w wi g wi1 g1 te (own.map (·.2)) vs1) := by
  refine ⟨fun pins s σ H Q I h => ?_⟩
  rw [eval_SetComp]
  refine sc2_core I hc hN hi ok hv hg hi1 hg1 he hs hs1 h fun D C s' m H' I' q ns f => ⟨m, ns, fun h9 sb => ?_⟩
  obtain ⟨f0, f1, _, f3, f4, f5⟩ := f
  exact ⟨.ref D, H', I'.turned (t' := s'.toks) (fun b o hb z => (sb.2 b hb).trans z) f0 f1 f3 f4 f5, rfl, q⟩
/-- len of such a set -/
def rLenI (w : World) : List V → Hp → VK → Prop := fun xs H Q => ∃ (D : Addr) (S : Int → Bool) (n : Nat), xs = [.ref D] ∧ H D = some (SetO w D S n) ∧ ∀ M : List Int, M.Nodup → (∀ k, k ∈ M ↔ S k = true) → Q (.int (M.length : Nat)) H
theorem set_len {pins : List (Addr × Obj)} {σ : L2.St} {H : Hp} {s : Shared} {D : Addr} {S : Int → Bool} {n : Nat} {Q : Value → Shared → Prop} {E : Value → Shared → Prop} (I : Inv X pins σ H s) (R : SetR X.w s.heap D S n) (h : ∀ (M : List Int) t s', M.Nodup → (∀ k, k ∈ M ↔ S k = true) → Inv X pins σ H s' → Q (.int (M.length : Nat) t) s') :
    wpAny (model X.prog X.w) X.A (call (.builtin "len") [.ref D]) Q E s := by
  obtain ⟨o, es, ep, t, ho, hex, hd, _, nd, mem, hb, hf, hn, _⟩ := R
  have hb : es.size < 4096 := hb
  refine call_len_set ho hex hd hf (by omega) ?_
  have hl : es.size = (es.toList.map L2.keyOf).length := by rw [List.length_map, Array.length_toList]
  rw [hl]
  exact h _ _ _ nd (fun k => (mem k).symm) (I.tok _)
theorem cr_lenI : CallR X (.builtin "len") (rLenI X.w) := by
  intro pins s σ H xs us Q I r h
  obtain ⟨D, S, n, rfl, eD, q⟩ := h
  cases r with
  | cons r rr =>
    cases rr
    cases r
    exact set_len I (setO_get I eD) fun M t s' nd mem I' => ⟨.int (M.length : Nat), H, I', ⟨t, rfl⟩, q M nd mem⟩
/-- len(set(t)), a tuple of ints -/
def tLenTup (K : PySem.W.Frag) (ta : TE) : TE := fun σ H Q => ta σ H fun x H1 => ∃ (l : Addr) (ns : List Int), x = .ref l ∧ SqT K H1 l (ns.map V.int) ∧ ns.length ≤ 4000 ∧ ∀ M : List Int, M.Nodup → (∀ k, k ∈ M ↔ k ∈ ns) → Q (.int (M.length : Nat)) H1
theorem pe_lenTup {a : Expr} {ta : TE} {p p2 q pos : Pos} (hg : Gl X "len") (hm : X.mg "len" = none) (hg2 : Gl X "set") (hm2 : X.mg "set" = none) (ha : PE X a ta) (hc : X.calm = true)
    (na : starEach [a] X.env = (false, eval a X.env) :: starEach [] X.env := by rfl) : PE X (.Call (.Name "len" p) [.Call (.Name "set" p2) [a] [] q] [] pos) (tLenTup X.K ta) := by
  refine ⟨fun pins s σ H Q I h => Call_ (ld_blt I hg hm boot_len (PyProof.Rows.callWith_builtin1 (PyProof.Rows.args_cons ?_ rfl) rfl rfl))⟩
  refine Call_ (ld_blt I hg2 hm2 boot_set (PyProof.Rows.callWith_type1 (PyProof.Rows.args_cons (thn (ha.run pins s σ H _ I h) fun v s1 ⟨x, H1, I1, rx, l, ns, ex, hq, hl, q1⟩ => PyProof.Rows.args_nil ?_) na) na rfl))
  subst ex
  cases rx
  obtain ⟨its, rv, pt, hz⟩ := I1.tuple hq
  refine call_set_tupI ns (I1.ok.hd hc) (show s1.heap.IsTuple l its.toArray from pt) (ints_of_vals rv) (by unfold scanBound; omega) fun h1 tk c R1 _ keep => PyProof.Rows.args_nil ?_
  have I2 : Inv X pins σ H1 { s1 with heap := h1, toks := tk } := I1.kept fun b o e => keep b o e
  exact set_len I2 R1 fun M t s' nd mem I' => ⟨.int (M.length : Nat), H1, I', ⟨t, rfl⟩, q1 M nd fun k => (mem k).trans decide_eq_true_iff⟩
end
end NR

/-! How many unlike numbers a tuple has, or the rows of a tuple together; the length of a frozen dict. -/
namespace DL
open PySem PySem.Spec PyProof.Rows L2
/-- len(set(t)) -/
def dLenTup (fe : FE) : FE := fun L Q => fe L fun d L1 => ∃ ns : List Int, d = .tup (ns.map .int) ∧ ns.length ≤ 4000 ∧ ∀ M : List Int, M.Nodup → (∀ k, k ∈ M ↔ k ∈ ns) → Q (.int (M.length : Nat)) L1
/-- len({y for x in t for y in x}) -/
def dLenSc2 (vx vy : Nat) (fe : FE) : FE := fun L Q => fe L fun d L1 => vx < L1.length ∧ vy < L1.length ∧ ∃ rows : List (List Int), d = .tup (rows.map fun r => .tup (r.map .int)) ∧ rows.flatten.length ≤ 4000 ∧ ∀ M : List Int, M.Nodup → (∀ k, k ∈ M ↔ ∃ r ∈ rows, k ∈ r) → Q (.int (M.length : Nat)) L1
theorem wipe_put {σ : L2.St} {vs : List Nat} {i : Nat} {o : Option V} (h : i ∈ vs) : wipe ((wipe σ vs).set i o) vs = wipe σ vs :=
  (wipe_idem (fun j hj => List.getElem?_set_ne fun e => hj (by rw [← e]; exact h)) (List.length_set ..)).trans (wipe_twice σ vs)
theorem Lo.later {K : PySem.W.Frag} {H H2 : Hp} {F A : Fp} {pn : List (Nat × V)} {σ : L2.St} {L : Ls} (lo : Lo K H F pn σ L A) (k : ∀ a o, H a = some o → H2 a = some o) : Lo K H2 F pn σ L A ∧ Ext A H F A H2 F := by
  refine ⟨⟨lo.loc.keep (fun _ z => z) fun a o _ => k a o, ⟨fun a z => ?_, fun a z => ?_⟩, lo.pin⟩, ⟨fun _ z => z, fun _ z => .inl z, fun a o e _ => k a o e, fun a z => .inl z⟩⟩
  · obtain ⟨o, e⟩ := lo.ok.f a z
    exact ⟨o, k a o e⟩
  · obtain ⟨nf, o, e⟩ := lo.ok.a a z
    exact ⟨nf, o, k a o e⟩
theorem low_lenSc2 {K : PySem.W.Frag} {w : World} {pn : List (Nat × V)} {vs : List Nat} {vx vy : Nat} {fe : FE} {σ : L2.St} {H : Hp} {Q : VK} (hx : vx ∈ vs) (hy : vy ∈ vs) (q : low K pn (dLenSc2 vx vy fe) σ H Q) :
    NR.tSc2 w (iTup K (low K pn fe)) (gName vx) (iTup K (tVar vx)) (gName vy) (tVar vy) vs [vy] σ H fun u H2 => NR.rLenI w [u] H2 Q := by
  obtain ⟨F, A, L, R, lo, h, post⟩ := q
  refine ⟨F, A, L, _, lo, h, fun d L1 v F1 A1 H1 ⟨lx, ly, rows, ed, hl, out⟩ e1 lo1 fr => ?_⟩
  subst ed
  have ls : σ.length = L1.length := lo1.loc.length
  cases fr with
  | tup fb hb rb =>
    rename_i a us
    have hul : us.length = rows.length := by rw [rb.length, List.length_map]
    refine ⟨a, rfl, ⟨us, SqT.of hb⟩, fun D nD => ?_⟩
    have k1 : ∀ b o, H1 b = some o → upd H1 D (SetO w D (fun _ => false) 0) b = some o := fun b o e => by rw [upd_ne (ne_of_none e nD)]; exact e
    have kD : ∀ {H' : Hp} {o : HO}, (∀ b o, H1 b = some o → H' b = some o) → ∀ b u, H1 b = some u → upd H' D o b = some u := fun k b u e => by rw [upd_ne (ne_of_none e nD)]; exact k b u e
    refine ⟨fun i m H' => m = rows.length - i ∧ i ≤ rows.length ∧ ∃ S n, H' D = some (SetO w D S n) ∧ (∀ b o, H1 b = some o → H' b = some o) ∧ n ≤ (rows.take i).flatten.length ∧ ∀ k, S k = true ↔ ∃ r ∈ rows.take i, k ∈ r,
      ⟨_, rfl, Nat.zero_le _, fun _ => false, 0, upd_same, k1, Nat.zero_le _, fun k => by simp⟩, ?_⟩
    rintro i m H2 ⟨rfl, hi, S, n, eD, kp, hn, mem⟩
    have sq : SqT K H2 a us := SqT.of (kp _ _ hb)
    by_cases hlt : i < rows.length
    · refine .inr ⟨⟨us, us[i], sq, List.getElem?_eq_getElem (by omega)⟩, fun H' => (i + 1) ≤ rows.length ∧ ∃ S n, H' D = some (SetO w D S n) ∧ (∀ b o, H1 b = some o → H' b = some o) ∧ n ≤ (rows.take (i + 1)).flatten.length ∧ ∀ k, S k = true ↔ ∃ r ∈ rows.take (i + 1), k ∈ r,
        fun H' z => ⟨_, by omega, rfl, z.1, z.2⟩, fun x H3 y => ?_⟩
      obtain ⟨rfl, y⟩ := y
      have er : rows[i]? = some rows[i] := List.getElem?_eq_getElem hlt
      have et : rows.take (i + 1) = rows.take i ++ [rows[i]] := by rw [List.take_add_one, er]; rfl
      have tot : (rows.take (i + 1)).flatten.length ≤ 4000 := by
        refine Nat.le_trans ?_ hl
        conv => rhs; rw [← List.take_append_drop (i + 1) rows, List.flatten_append, List.length_append]
        omega
      have tot2 : (rows.take (i + 1)).flatten.length = (rows.take i).flatten.length + rows[i].length := by rw [et, List.flatten_append, List.length_append]; simp
      generalize rows[i] = row at er et tot2
      obtain ⟨d, ed, fd⟩ := rb.get (y us sq)
      rw [List.getElem?_map, er] at ed
      cases ed
      cases fd with
      | tup fb2 hb2 rb2 =>
        rename_i b us2
        have e2 := rb2.ofInts
        subst e2
        have sq2 : ∀ {H' : Hp}, (∀ b o, H1 b = some o → H' b = some o) → SqT K H' b (row.map V.int) := fun k => SqT.of (k _ _ hb2)
        refine ⟨wipe_put hx, .ref b, List.getElem?_set_self (by rw [wipe_length, ls]; exact lx), b, rfl, ⟨_, sq2 kp⟩, ?_⟩
        refine ⟨fun j m H' => m = row.length - j ∧ j ≤ row.length ∧ ∃ S n, H' D = some (SetO w D S n) ∧ (∀ b o, H1 b = some o → H' b = some o) ∧ n ≤ (rows.take i).flatten.length + j ∧ ∀ k, S k = true ↔ (∃ r ∈ rows.take i, k ∈ r) ∨ k ∈ row.take j,
          ⟨_, rfl, Nat.zero_le _, S, n, eD, kp, hn, fun k => by rw [mem]; simp⟩, ?_⟩
        rintro j m H4 ⟨rfl, hj, S4, n4, eD4, kp4, hn4, mem4⟩
        by_cases hjl : j < row.length
        · refine .inr ⟨⟨_, .int row[j], sq2 kp4, by rw [List.getElem?_map, List.getElem?_eq_getElem hjl]; rfl⟩, fun H' => (j + 1) ≤ row.length ∧ ∃ S n, H' D = some (SetO w D S n) ∧ (∀ b o, H1 b = some o → H' b = some o) ∧ n ≤ (rows.take i).flatten.length + (j + 1) ∧ ∀ k, S k = true ↔ (∃ r ∈ rows.take i, k ∈ r) ∨ k ∈ row.take (j + 1),
            fun H' z => ⟨_, by omega, rfl, z.1, z.2⟩, fun x H5 y5 => ?_⟩
          obtain ⟨rfl, y5⟩ := y5
          have ex := y5 _ (sq2 kp4)
          rw [List.getElem?_map, List.getElem?_eq_getElem hjl] at ex
          cases ex
          refine ⟨wipe_put (List.mem_singleton.mpr rfl), .int row[j], List.getElem?_set_self (by rw [wipe_length, List.length_set, wipe_length, ls]; exact ly), row[j], S4, n4, rfl, eD4, by unfold scanBound; omega, hjl, _, _, upd_same, kD kp4, ?_, fun k => ?_⟩
          · split <;> omega
          · have e3 : row.take (j + 1) = row.take j ++ [row[j]] := by rw [List.take_add_one, List.getElem?_eq_getElem hjl]; rfl
            rw [Bool.or_eq_true, mem4, decide_eq_true_iff, e3, List.mem_append, List.mem_singleton, or_assoc]
        · have e : j = row.length := by omega
          subst e
          refine .inl ⟨⟨_, sq2 kp4, by rw [List.length_map]; omega⟩, hlt, S4, n4, eD4, kp4, by omega, fun k => ?_⟩
          rw [mem4, et, List.take_length]
          constructor
          · rintro (⟨r, hr, hk⟩ | hk)
            · exact ⟨r, List.mem_append_left _ hr, hk⟩
            · exact ⟨row, List.mem_append_right _ (List.mem_singleton.mpr rfl), hk⟩
          · rintro ⟨r, hr, hk⟩
            rcases List.mem_append.mp hr with hr | hr
            · exact .inl ⟨r, hr, hk⟩
            · rw [List.mem_singleton.mp hr] at hk
              exact .inr hk
    · have e : i = rows.length := by omega
      subst e
      refine .inl ⟨⟨us, sq, by omega⟩, D, S, n, rfl, eD, fun M nd hM => ?_⟩
      obtain ⟨lo2, x2⟩ := lo1.later kp
      exact post _ L1 _ F1 A1 H2 (out M nd fun k => by rw [hM, mem, List.take_length]) (e1.trans x2) lo2 (.int _)
section
variable {X : Cx} {pn : List (Nat × V)} {e : Expr} {fe : FE} {p p2 q pos : Pos}
theorem d_lenTup (hc : X.calm = true) (hg : Gl X "len") (hm : X.mg "len" = none) (hg2 : Gl X "set") (hm2 : X.mg "set" = none) (he : DE X pn e fe) (na : starEach [e] X.env = (false, eval e X.env) :: starEach [] X.env := by rfl) :
    DE X pn (.Call (.Name "len" p) [.Call (.Name "set" p2) [e] [] q] [] pos) (dLenTup fe) := pe_weak (NR.pe_lenTup hg hm hg2 hm2 he hc na) fun σ H Q h => by
  obtain ⟨F, A, L, R, lo, h, post⟩ := h
  refine ⟨F, A, L, _, lo, h, fun d L1 v F1 A1 H1 ⟨ns, ed, hl, out⟩ e1 lo1 fr => ?_⟩
  subst ed
  cases fr with
  | tup fb hb rb =>
    have := rb.ofInts
    subst this
    exact ⟨_, ns, rfl, SqT.of hb, hl, fun M nd mem => post _ L1 _ F1 A1 H1 (out M nd mem) e1 lo1 (.int _)⟩
theorem d_lenSc2 {x y : Str} {sc : Scope} {own : List (Str × Nat)} {px py px2 py2 : Pos} (vx vy : Nat) (hc : X.calm = true) (hg0 : Gl X "len") (hm : X.mg "len" = none) (hN : X.N.Nodup) (he : DE X pn e fe) (ok : BlkOk X.N X.env.scope sc own) (hvx : vx ∈ lcOwn own) (hvy : vy ∈ lcOwn own)
    (gx : Blk X sc fun Y => PG Y (.Name x px) (gName vx)) (ex : Blk X sc fun Y => PE Y (.Name x px2) (tVar vx)) (gy : Blk X sc fun Y => PG Y (.Name y py) (gName vy)) (ey : Blk X sc fun Y => PE Y (.Name y py2) (tVar vy))
    (hs : ∀ z, foldedSetIterable e X.env z = pure z := by intro _; rfl) (hs1 : ∀ env z, foldedSetIterable (.Name x px2) env z = pure z := by intro _ _; rfl)
    (h1 : starEach [NR.sc2 (.Name y py2) (.Name x px) e (.Name y py) (.Name x px2) sc q] X.env = (false, eval (NR.sc2 (.Name y py2) (.Name x px) e (.Name y py) (.Name x px2) sc q) X.env) :: starEach [] X.env := by rfl) (h2 : (backTo pos (starEach [] X.env)).any (·.1) = false := by rfl) :
    DE X pn (.Call (.Name "len" p2) [NR.sc2 (.Name y py2) (.Name x px) e (.Name y py) (.Name x px2) sc q] [] pos) (dLenSc2 vx vy fe) :=
  pe_weak (pe_callB NR.cr_lenI hg0 hm boot_len (pa_cons (NR.pe_sc2 hc hN (pi_tup he) ok (fun i hi => by rw [List.mem_singleton.mp hi]; exact hvy) gx (fun s H C cl fp => pi_tup (ex s H C cl fp)) gy ey hs hs1) pa_nil h1) (by decide) (by decide) h1 h2) fun σ H Q q => low_lenSc2 hvx hvy q
end
/-! ### x += e -/
def dAddN (i : Nat) (fe : FE) : FS := fun E L => ∃ n, L[i]? = some (some (.int n)) ∧ fe L fun d L1 => ∃ m, d = .int m ∧ E.nx (L1.set i (some (.int (n + m))))
theorem d_addN {X : Cx} {pn : List (Nat × V)} {i : Nat} {x : Str} {e : Expr} {fe : FE} {p pos : Pos} (hN : X.N.Nodup) (hi : X.N[i]? = some x) (hx : Loc X.env.scope x) (hp : (pn.any fun p => p.1 == i) = false) (he : DE X pn e fe) (hf : X.fn x = true ∨ X.env.scope.names.lookup x = some .local := by first | exact .inl rfl | exact .inr rfl | assumption) :
    DS X pn (.AugAssign (.Name x p) .Add e pos) (dAddN i fe) := ps_weak (ps_aug hN hi hx he ip_add hf) fun E σ H q => by
  obtain ⟨F, A, L, D, lo, ⟨n, en, h⟩, p⟩ := q
  obtain ⟨v, B, h1, h2, _⟩ := lo.loc.get en
  have fv := h2.isFr rfl
  cases fv
  refine ⟨_, h1, F, A, L, _, lo, h, fun d L1 u F1 A1 H1 ⟨m, ed, g⟩ e1 lo1 fu => ?_⟩
  subst ed
  cases fu
  obtain ⟨A', l, s⟩ := lo1.set (.fr (.int (n + m))) (sane_no lo1.ok.f) (fun _ z => z.elim) hp
  exact ⟨n, m, rfl, rfl, p.nx _ _ F1 A' H1 g (e1.less fun a z => (s a z).elim (fun z => z.elim) id) l⟩
/-! ### len of a frozen dict -/
def rLenK : List V → Hp → VK → Prop := fun xs H Q => ∃ (p : Addr) (kvs : List (Key × V)), xs = [.ref p] ∧ H p = some (.dK kvs) ∧ Q (.int (kvs.length : Nat)) H
theorem cr_lenK {X : Cx} : CallR X (.builtin "len") rLenK := by
  intro pins s σ H xs us Q I r h
  obtain ⟨a, kvs, rfl, ha, q⟩ := h
  cases r with
  | cons r rr =>
    cases rr
    cases r
    exact d_len I (.inl ha) fun t s' I' => ⟨.int (kvs.length : Nat), H, I', ⟨t, rfl⟩, q⟩
def gLenK : List D → (D → Prop) → Prop := fun ds k => match ds with
  | [.dK kvs] => k (.int (kvs.length : Nat))
  | _ => False
theorem up_lenK {K : PySem.W.Frag} : UpA K rLenK gLenK := by
  intro H F vs ds k Q hv g ok
  match ds, g with
  | [.dK kvs], g =>
    obtain ⟨v, rfl, h⟩ := hv.one
    cases h with
    | dK f h e r => exact ⟨_, _, rfl, h, by rw [len_fst e]; exact ok.same g (.int _)⟩
end DL

/-! Words, lines, numbers as texts. -/
namespace DL
open PySem PySem.Spec PyProof.Rows L2
abbrev numS (i : Int) : Str := toString i
abbrev Sm (i : Int) : Prop := i.natAbs < 10 ^ 60
theorem tl_pos (n : Nat) : TL.tl (numS (n : Int)) = TL.numL n := TL.tl_num n
theorem tl_neg (n : Nat) : TL.tl (numS (Int.negSucc n)) = 45 :: TL.numL (n + 1) := by
  show TL.tl (Str.ofString ("-" ++ toString (n + 1))) = _
  rw [TL.tl_ofString, String.toList_append, List.map_append]
  have h := TL.tl_num (n + 1)
  rw [TL.tl_ofString] at h
  rw [show ((toString (n + 1)).toList.map Char.toNat) = TL.numL (n + 1) from h]
  rfl
theorem numS_cases (i : Int) : (∃ n : Nat, i = (n : Int) ∧ TL.tl (numS i) = TL.numL n) ∨ ∃ n : Nat, i = -((n + 1 : Nat) : Int) ∧ TL.tl (numS i) = 45 :: TL.numL (n + 1) := by
  cases i with
  | ofNat n => exact .inl ⟨n, rfl, tl_pos n⟩
  | negSucc n => exact .inr ⟨n, rfl, tl_neg n⟩
theorem numS_free {i : Int} {s : Nat} (h : s < 45) : s ∉ TL.tl (numS i) := by
  rcases numS_cases i with ⟨n, _, e⟩ | ⟨n, _, e⟩
  · rw [e]; exact TL.numL_free (by omega)
  · rw [e]; intro hm
    rcases List.mem_cons.mp hm with z | z
    · omega
    · exact TL.numL_free (by omega) z
theorem numS_ne (i : Int) : TL.tl (numS i) ≠ [] := by
  rcases numS_cases i with ⟨n, _, e⟩ | ⟨n, _, e⟩
  · rw [e]; exact TL.numL_ne n
  · rw [e]; simp
theorem numS_len {i : Int} (h : Sm i) : (numS i).length ≤ 61 := by
  rw [TL.len_tl]
  rcases numS_cases i with ⟨n, rfl, e⟩ | ⟨n, rfl, e⟩
  · rw [e]; have := TL.numL_len (n := n) (k := 60) (by decide) (by unfold Sm at h; omega); omega
  · rw [e]; have := TL.numL_len (n := n + 1) (k := 60) (by decide) (by unfold Sm at h; omega); simp only [List.length_cons]; omega
theorem int_numS {i : Int} (h : Sm i) : intText? (numS i) = some i := by
  have hl := numS_len h
  rcases numS_cases i with ⟨n, rfl, e⟩ | ⟨n, rfl, e⟩
  · rw [intText_digits (x := numS (n : Int)) (by rw [show (numS (n : Int)).cps.toList = TL.numL n from e]; exact TL.numL_digits n) (by rw [show (numS (n : Int)).cps.toList = TL.numL n from e]; exact TL.numL_ne n) (by omega)]
    rw [show (numS (n : Int)).cps.toList = TL.numL n from e, TL.numL_val]
  · rw [intText_neg (x := numS (-((n + 1 : Nat) : Int))) (cs := TL.numL (n + 1)) e (TL.numL_digits _) (TL.numL_ne _) (by omega), TL.numL_val]
theorem numS_log {i : Int} (h : Sm i) : i.natAbs.log2 < 1920 := by
  by_cases h0 : i.natAbs = 0
  · rw [h0]; decide
  · exact Nat.lt_of_lt_of_le ((Nat.log2_lt h0 (k := 200)).mpr (Nat.lt_trans h (by decide))) (by decide)
theorem numS_ok (i : Int) : PyData.strOk (numS i) = true := by
  unfold PyData.strOk
  rw [Array.all_eq_true']
  intro c hc
  have hc : c ∈ TL.tl (numS i) := by simpa [TL.tl] using hc
  have hd : ∀ (n c : Nat), c ∈ TL.numL n → c ≤ 57 := fun n c h => (TL.numL_digits n c h).2
  refine decide_eq_true ?_
  rcases numS_cases i with ⟨n, _, e⟩ | ⟨n, _, e⟩
  · rw [e] at hc; have := hd n c hc; omega
  · rw [e] at hc
    rcases List.mem_cons.mp hc with z | z
    · omega
    · have := hd _ c z; omega
theorem numS_inj {i j : Int} (h : numS i = numS j) : i = j := by
  have h := congrArg TL.tl h
  rcases numS_cases i with ⟨n, rfl, e⟩ | ⟨n, rfl, e⟩ <;> rcases numS_cases j with ⟨m, rfl, e2⟩ | ⟨m, rfl, e2⟩
  · rw [e, e2] at h; rw [TL.numL_inj h]
  · rw [e, e2] at h
    have : 45 ∈ TL.numL n := by rw [h]; exact List.mem_cons_self ..
    exact absurd this (TL.numL_free (by omega))
  · rw [e, e2] at h
    have : 45 ∈ TL.numL m := by rw [← h]; exact List.mem_cons_self ..
    exact absurd this (TL.numL_free (by omega))
  · rw [e, e2] at h
    have := TL.numL_inj (List.cons.inj h).2
    omega
/-! ### lines of words -/
abbrev lineS (ws : List Str) : Str := Txt.join " " ws
abbrev endS (x : Str) : Str := x ++ "\n"
def textS (ls : List Str) : Str := Txt.join "" (ls.map endS)
/-- words that can be read back -/
def WordOk (w : Str) : Prop := 32 ∉ TL.tl w ∧ 10 ∉ TL.tl w
theorem WordOk.num (i : Int) : WordOk (numS i) := ⟨numS_free (by decide), numS_free (by decide)⟩
theorem split_line {ws : List Str} (hne : ws ≠ []) (h : ∀ w ∈ ws, WordOk w) : Txt.split (lineS ws) " " = ws := TL.split_join (s := 32) (S := []) rfl (by decide +kernel) hne fun p hp => (h p hp).1
theorem joinL_mem {c : Nat} {S : List Nat} : ∀ {l : List (List Nat)}, c ∈ TL.joinL S l → c ∈ S ∨ ∃ p ∈ l, c ∈ p
  | [], h => by cases h
  | [p], h => .inr ⟨p, List.mem_cons_self .., h⟩
  | p :: q :: r, h => by
    rcases List.mem_append.mp h with h | h
    · exact .inr ⟨p, List.mem_cons_self .., h⟩
    · rcases List.mem_append.mp h with h | h
      · exact .inl h
      · exact (joinL_mem h).imp_right fun ⟨z, hz, hc⟩ => ⟨z, List.mem_cons_of_mem _ hz, hc⟩
theorem line_free {ws : List Str} (h : ∀ w ∈ ws, WordOk w) : 10 ∉ TL.tl (lineS ws) := fun hm => by
  unfold lineS at hm
  rw [TL.join_eq, TL.tl_join] at hm
  rcases joinL_mem hm with z | ⟨p, hp, hc⟩
  · have : (10 : Nat) ∈ [32] := z
    simp at this
  · obtain ⟨w, hw, rfl⟩ := List.mem_map.mp hp
    exact (h w hw).2 hc
theorem joinL_nil : ∀ l : List (List Nat), TL.joinL [] l = l.flatten
  | [] => rfl
  | [p] => by simp [TL.joinL]
  | p :: q :: r => by
    show p ++ ([] ++ TL.joinL [] (q :: r)) = _
    rw [joinL_nil (q :: r)]; rfl
theorem tl_text (ls : List Str) : TL.tl (textS ls) = (ls.map fun x => TL.tl x ++ [10]).flatten := by
  unfold textS
  rw [TL.join_eq, TL.tl_join, show TL.tl ("" : Str) = [] from rfl, joinL_nil, List.map_map]
  congr 1
  refine List.map_congr_left fun x _ => ?_
  show TL.tl (x ++ "\n") = _
  rw [TL.tl_append]; rfl
theorem joinL_ends : ∀ l : List (List Nat), TL.joinL [10] (l ++ [[]]) = (l.map fun x => x ++ [10]).flatten
  | [] => rfl
  | [p] => by show p ++ ([10] ++ []) = _; simp
  | p :: q :: r => by
    show p ++ ([10] ++ TL.joinL [10] ((q :: r) ++ [[]])) = _
    rw [joinL_ends (q :: r)]
    simp
theorem split_text {ls : List Str} (h : ∀ x ∈ ls, 10 ∉ TL.tl x) : Txt.split (textS ls) "\n" = ls ++ [("" : Str)] := by
  have e : textS ls = Txt.join "\n" (ls ++ [("" : Str)]) := TL.ext_tl (by
    rw [tl_text, TL.join_eq, TL.tl_join, List.map_append]
    show _ = TL.joinL [10] (ls.map TL.tl ++ [[]])
    rw [joinL_ends, List.map_map]; rfl)
  rw [e]
  refine TL.split_join (s := 10) (S := []) rfl (by decide +kernel) (by simp) fun p hp => ?_
  rcases List.mem_append.mp hp with hp | hp
  · exact h p hp
  · rw [List.mem_singleton.mp hp]; exact List.not_mem_nil
theorem line_len {ws : List Str} {k : Nat} (h : ∀ w ∈ ws, w.length ≤ k) : (lineS ws).length ≤ ws.length * (k + 1) := by
  unfold lineS
  rw [TL.join_eq]
  induction ws with
  | nil => exact Nat.zero_le _
  | cons w r ih =>
    have h1 := h w (List.mem_cons_self ..)
    have h2 := ih fun x hx => h x (List.mem_cons_of_mem _ hx)
    cases r with
    | nil => show w.length ≤ _; simp; omega
    | cons q r =>
      show ((w ++ " ") ++ Str.join " " (q :: r)).length ≤ _
      have e1 : ((w ++ " ") ++ Str.join " " (q :: r)).length = w.length + 1 + (Str.join " " (q :: r)).length := by
        rw [TL.len_tl, TL.tl_append, TL.tl_append, List.length_append, List.length_append, ← TL.len_tl, ← TL.len_tl]; rfl
      rw [e1, List.length_cons, Nat.succ_mul]
      omega
theorem sum_le {l : List Nat} {k : Nat} (h : ∀ x ∈ l, x ≤ k) : l.sum ≤ l.length * k := by
  induction l with
  | nil => exact Nat.zero_le _
  | cons a r ih =>
    have := h a (List.mem_cons_self ..)
    have := ih fun x hx => h x (List.mem_cons_of_mem _ hx)
    rw [List.sum_cons, List.length_cons, Nat.succ_mul]; omega
theorem text_len {ls : List Str} {k : Nat} (h : ∀ x ∈ ls, x.length ≤ k) : (textS ls).length ≤ ls.length * (k + 1) := by
  rw [TL.len_tl, tl_text, List.length_flatten, List.map_map]
  refine Nat.le_trans (sum_le (k := k + 1) fun x hx => ?_) (by rw [List.length_map]; exact Nat.le_refl _)
  obtain ⟨y, hy, rfl⟩ := List.mem_map.mp hx
  have := h y hy
  show (TL.tl y ++ [10]).length ≤ _
  rw [List.length_append, ← TL.len_tl]; simp; omega
/-! ### the program's tests of a number -/
theorem digits_all {l : List Nat} (h : NumText.AllDigits l) : l.all Unicode.isDigit = true := List.all_eq_true.mpr fun c hc => by
  have r := h c hc
  have : ∀ c : Fin 128, 48 ≤ c.val → c.val ≤ 57 → Unicode.isDigit c.val = true := by decide +kernel
  exact this ⟨c, by omega⟩ r.1 r.2
theorem isdigit_num (n : Nat) : Txt.isdigit (numS (n : Int)) = true := by
  unfold Txt.isdigit
  have e : TL.tl (numS (n : Int)) = TL.numL n := tl_pos n
  have h1 : (numS (n : Int)).length > 0 := by rw [TL.len_tl, e]; exact List.length_pos_iff.mpr (TL.numL_ne n)
  rw [decide_eq_true h1, Bool.true_and, ← Array.all_toList, show (numS (n : Int)).cps.toList = TL.numL n from e]
  exact digits_all (TL.numL_digits n)
theorem starts_1 (x : Str) (c : Nat) : Txt.startswith x ⟨#[c]⟩ = decide ((TL.tl x).head? = some c) := by
  obtain ⟨⟨l⟩⟩ := x
  unfold Txt.startswith Builtin.Str.subAt
  cases l with
  | nil => rfl
  | cons a r =>
    have e : (#[a] : Array Nat) = (⟨a :: r⟩ : Array Nat).extract 0 (0 + (⟨#[c]⟩ : Str).length) := by
      apply Array.ext'
      simp [Str.length]
    have hl : decide (0 + (⟨#[c]⟩ : Str).length ≤ (⟨⟨a :: r⟩⟩ : Str).length) = true := decide_eq_true (by simp [Str.length])
    rw [hl, Bool.true_and, ← e]
    show ((#[a] : Array Nat) == #[c]) = decide (some a = some c)
    by_cases h : a = c
    · subst h; simp
    · simp [h]
theorem numL_head {n : Nat} (h : 0 < n) : (TL.numL n).head? ≠ some 48 := by
  induction n using Nat.strongRecOn with
  | _ n ih =>
    by_cases h10 : n < 10
    · rw [TL.numL_lt h10]; simp; omega
    · rw [TL.numL_step (by omega)]
      have := ih (n / 10) (by omega) (by omega)
      obtain ⟨c, r, e⟩ := List.exists_cons_of_ne_nil (TL.numL_ne (n / 10))
      rw [e] at this ⊢
      exact this
def isNumB (w : Str) : Bool := Txt.isdigit w && decide ((w.length : Int) ≤ 60) && (w == "0" || !Txt.startswith w "0")
def isIntB (w : Str) : Bool := isNumB w || (Txt.startswith w "-" && w != "-0" && isNumB (cutS w (some 1) none))
theorem isNum_num {n : Nat} (h : n < 10 ^ 60) : isNumB (numS (n : Int)) = true := by
  have hl := TL.numL_len (n := n) (k := 60) (by decide) h
  unfold isNumB
  rw [isdigit_num, decide_eq_true (by rw [TL.len_tl, show TL.tl (numS (n : Int)) = TL.numL n from tl_pos n]; omega), Bool.and_self, Bool.true_and]
  by_cases h0 : n = 0
  · subst h0; rfl
  · rw [show ("0" : Str) = ⟨#[48]⟩ from rfl, starts_1, show TL.tl (numS (n : Int)) = TL.numL n from tl_pos n, decide_eq_false (numL_head (by omega))]
    simp
theorem cutS_1 {w : Str} {c : Nat} {r : List Nat} (h : TL.tl w = c :: r) : cutS w (some 1) none = ⟨r.toArray⟩ := by
  have : w = SX.S (c :: r) := TL.ext_tl h
  rw [C8.cutS_slice, this, SX.slice_from (by decide)]
  rfl
theorem isInt_num {i : Int} (h : Sm i) : isIntB (numS i) = true := by
  unfold isIntB
  rcases numS_cases i with ⟨n, rfl, e⟩ | ⟨n, rfl, e⟩
  · rw [isNum_num (by unfold Sm at h; omega)]; rfl
  · have e2 : cutS (numS (-((n + 1 : Nat) : Int))) (some 1) none = numS ((n + 1 : Nat) : Int) := by
      rw [cutS_1 e]
      exact TL.ext_tl (tl_pos (n + 1)).symm
    rw [e2, isNum_num (by unfold Sm at h; omega), show ("-" : Str) = ⟨#[45]⟩ from rfl, starts_1, e]
    have : (numS (-((n + 1 : Nat) : Int)) != "-0") = true := by
      rw [bne_iff_ne]
      intro z
      have := congrArg TL.tl z
      rw [e] at this
      have := (List.cons.inj this).2
      have h2 : TL.numL (n + 1) = TL.numL 0 := this
      have := TL.numL_inj h2
      omega
    rw [this]
    simp
end DL

/-! Irreducible words for the readings of texts. -/
namespace DL
open PySem PySem.Spec PyProof.Rows L2
theorem strsOf_strs : ∀ l : List Str, strsOf (l.map D.str) = some l
  | [] => rfl
  | i :: r => by rw [List.map_cons, strsOf, strsOf_strs r]; rfl
@[irreducible] def gJoinI : D → D → (D → Prop) → Prop := gJoin
theorem gJoin_I : gJoin = gJoinI := by unfold gJoinI; rfl
def dJoinJ (fo fe : FE) : FE := fun L Q => fo L fun x L1 => isStrD x = true ∧ fe L1 fun y L2 => gJoinI x y fun z => Q z L2
theorem dJoin_J : dJoin = dJoinJ := by funext fo fe; unfold dJoin dJoinJ; rw [gJoin_I]
theorem join_ok {a : Str} {ws : List Str} {k : D → Prop} (hl : (ws.map (·.length)).sum + ws.length * a.length ≤ 16777216) (h : k (.str (Txt.join a ws))) : gJoinI (.str a) (.lst (ws.map .str)) k := by
  rw [← gJoin_I]
  unfold gJoin
  simp only [seqOf, strsOf_strs]
  exact ⟨hl, h⟩
@[irreducible] def gBlsI (f : List Bool → Bool) : List D → (D → Prop) → Prop := gBls f
theorem gBls_I (f : List Bool → Bool) : gBls f = gBlsI f := by unfold gBlsI; rfl
theorem bls_ok {f : List Bool → Bool} {bs : List Bool} {k : D → Prop} (h : k (.bl (f bs))) : gBlsI f [.lst (bs.map .bl)] k := by
  rw [← gBls_I]
  unfold gBls
  simp only [blsOf_map]
  exact h
theorem any_deq {n : Nat} {x : D} {ds : List D} (hx : pdn n x = true) (hd : ds.all (pdn n) = true) : (ds.any fun z => deq z x) = true ↔ x ∈ ds := by
  rw [List.any_eq_true]
  constructor
  · rintro ⟨z, hz, e⟩
    rw [(deq_iff (List.all_eq_true.mp hd z hz) hx).mp e] at hz
    exact hz
  · intro h
    exact ⟨x, h, (deq_iff hx hx).mpr rfl⟩
theorem in_no {n : Nat} {x : D} {ds : List D} {k : D → Prop} (hn : n < 64) (hx : pdn n x = true) (hd : ds.all (pdn n) = true) (hm : x ∉ ds) (h : k (.bl false)) : gInBI false x (.lst ds) k := by
  rw [← gInB_I]
  refine ⟨.inr ⟨pdn_sh hx (by omega), pdn_sh (n := n + 1) (by simp only [pdn]; exact hd) (by omega)⟩, ?_⟩
  have : (ds.any fun z => deq z x) = false := Bool.eq_false_iff.mpr fun e => hm ((any_deq hx hd).mp e)
  rw [this]
  exact h
theorem eq_lsts {n : Nat} {xs ys : List D} {c : Prop} [Decidable c] {k : D → Prop} (hn : n ≤ 64) (hx : pdn n (.lst xs) = true) (hy : pdn n (.lst ys) = true) (hc : D.lst xs = D.lst ys ↔ c) (h : k (.bl (decide c))) : gEqBI false (.lst xs) (.lst ys) k := by
  refine eqB ⟨pdn_sh hx hn, pdn_sh hy hn, ?_⟩
  rw [deq_dec hx hy hc]
  exact h
theorem pdn_strs {n : Nat} {ws : List Str} (h : ∀ w ∈ ws, PyData.strOk w = true) : pdn (n + 1) (.lst (ws.map .str)) = true := by
  simp only [pdn]
  refine List.all_eq_true.mpr fun d hd => ?_
  obtain ⟨w, hw, rfl⟩ := List.mem_map.mp hd
  cases n <;> (simp only [pdn]; exact h w hw)
theorem map_str_inj {a b : List Str} (h : a.map D.str = b.map D.str) : a = b := by
  induction a generalizing b with
  | nil => cases b with
    | nil => rfl
    | cons _ _ => cases h
  | cons x a ih => cases b with
    | nil => cases h
    | cons y b =>
      have := List.cons.inj h
      rw [ih this.2, D.str.inj this.1]
end DL

/-! x + y of lists: new and owned, evaluated while owned things stand. -/
namespace DL
open PySem PySem.Spec PyProof.Rows L2
def dAddM (fa fb : FE) : FE := fun L Q => noMos L = true ∧ fa (fzAll L) fun x L1 => fb L1 fun y _ => match x, y with
  | .lst xs, .lst ys => noLL (xs ++ ys) = true ∧ xs.length + ys.length ≤ sizeLine ∧ Q (.ml (xs ++ ys)) L
  | _, _ => False
theorem frL_mono {K : PySem.W.Frag} {H : Hp} {F F' : Fp} (h : ∀ {v : V} {d : D}, Fr K H F v d → noL d = true → Fr K H F' v d) : ∀ {vs : List V} {ds : List D}, FrL K H F vs ds → noLL ds = true → FrL K H F' vs ds
  | _, _, .nil, _ => .nil
  | _, _, .cons a r, e => by
    rw [noLL, Bool.and_eq_true] at e
    exact .cons (h a e.1) (frL_mono h r e.2)
theorem d_addM {X : Cx} {pn : List (Nat × V)} {a b : Expr} {fa fb : FE} {pos : Pos} (ha : DE X pn a fa) (hb : DE X pn b fb) : DN X pn (.BinOp a .Add b pos) (dAddM fa fb) := pe_weak (pe_op op_cat ha hb) fun σ H Q q => by
  obtain ⟨F, A, L, R, lo, ⟨m, h⟩, p⟩ := q
  obtain ⟨A1, lo1, n1, back⟩ := lo_pure lo m
  refine ⟨_, A1, _, _, lo1, h, fun x L1 v F1 A2 H1 g1 e1 lo2 f1 => ⟨F1, A2, L1, _, lo2, g1, fun y L2 u F2 A3 H2 g2 e2 lo3 f2 => ?_⟩⟩
  have g := f1.ext lo2.ok e2
  cases g with
  | lst f hh r =>
    cases f2 with
    | lst f' h' r' =>
      obtain ⟨gn, gl, gr⟩ := g2
      refine ⟨_, _, _, _, rfl, rfl, hh, h', by rw [r.length, r'.length]; exact gl, fun pp np => ?_⟩
      obtain ⟨b1, b2, b3⟩ := back (e1.trans e2)
      have lo4 := b2 lo3.ok.f
      have fr := frL_mono b3 (r.append r') gn
      obtain ⟨nF, nA⟩ := lo4.ok.new np
      obtain ⟨C, oc, nc⟩ := (fr.owU (H' := H2) (o := .lst _) nF).ow
      exact newOwn lo4 np (.ml upd_same oc (nc _)) (fun b z => z.elim id fun z => (nc b z).elim) gr (p.on b1)
    | _ => exact g2.elim
  | _ => cases f2 <;> exact g2.elim
end DL

namespace LW
open PySem PySem.Spec PyProof.Rows L2 DL
def topS (i : Nat) : Stmt := PySem.Challenge.pw_norowstray_k03_rings_of_inclusions.main.body.getD i (.Pass ⟨0, 0, 0, 0⟩)
abbrev p_check_scheme : Stmt := topS 15
abbrev n_check_scheme : List Str := ["scheme", "width"]
theorem sc_check_scheme : FnScope n_check_scheme ["scheme"] (defScope p_check_scheme) := ⟨rfl, rfl, rfl, by decide +kernel, rfl, by decide +kernel, by decide +kernel⟩
abbrev p_check_book : Stmt := topS 16
abbrev n_check_book : List Str := ["scheme", "book", "dependency"]
theorem sc_check_book : FnScope n_check_book ["scheme", "book"] (defScope p_check_book) := ⟨rfl, rfl, rfl, by decide +kernel, rfl, by decide +kernel, by decide +kernel⟩
abbrev p_check_dependency : Stmt := topS 17
abbrev n_check_dependency : List Str := ["scheme", "dependency", "kind", "_", "table", "left", "right", "parts"]
theorem sc_check_dependency : FnScope n_check_dependency ["scheme", "dependency"] (defScope p_check_dependency) := ⟨rfl, rfl, rfl, by decide +kernel, rfl, by decide +kernel, by decide +kernel⟩
abbrev p_table_width : Stmt := topS 18
abbrev n_table_width : List Str := ["scheme", "table"]
theorem sc_table_width : FnScope n_table_width ["scheme", "table"] (defScope p_table_width) := ⟨rfl, rfl, rfl, by decide +kernel, rfl, by decide +kernel, by decide +kernel⟩
abbrev p_check_sets : Stmt := topS 19
abbrev n_check_sets : List Str := ["width", "sets", "columns", "at"]
theorem sc_check_sets : FnScope n_check_sets ["width", "sets"] (defScope p_check_sets) := ⟨rfl, rfl, rfl, by decide +kernel, rfl, by decide +kernel, by decide +kernel⟩
abbrev p_check_columns_there : Stmt := topS 20
abbrev n_check_columns_there : List Str := ["width", "columns", "column"]
theorem sc_check_columns_there : FnScope n_check_columns_there ["width", "columns"] (defScope p_check_columns_there) := ⟨rfl, rfl, rfl, by decide +kernel, rfl, by decide +kernel, by decide +kernel⟩
abbrev p_check_parts : Stmt := topS 21
abbrev n_check_parts : List Str := ["width", "parts", "part", "column"]
theorem sc_check_parts : FnScope n_check_parts ["width", "parts"] (defScope p_check_parts) := ⟨rfl, rfl, rfl, by decide +kernel, rfl, by decide +kernel, by decide +kernel⟩
abbrev p_check_inclusion : Stmt := topS 22
abbrev n_check_inclusion : List Str := ["scheme", "dependency", "_", "table", "columns", "other", "others"]
theorem sc_check_inclusion : FnScope n_check_inclusion ["scheme", "dependency"] (defScope p_check_inclusion) := ⟨rfl, rfl, rfl, by decide +kernel, rfl, by decide +kernel, by decide +kernel⟩
abbrev p_check_chosen_columns : Stmt := topS 23
abbrev n_check_chosen_columns : List Str := ["width", "columns"]
theorem sc_check_chosen_columns : FnScope n_check_chosen_columns ["width", "columns"] (defScope p_check_chosen_columns) := ⟨rfl, rfl, rfl, by decide +kernel, rfl, by decide +kernel, by decide +kernel⟩
abbrev p_check_no_ring : Stmt := topS 24
abbrev n_check_no_ring : List Str := ["book", "targets", "sources", "dependency", "_", "table", "other", "free", "gone"]
theorem sc_check_no_ring : FnScope n_check_no_ring ["book"] (defScope p_check_no_ring) := ⟨rfl, rfl, rfl, by decide +kernel, rfl, by decide +kernel, by decide +kernel⟩
abbrev p_check_store : Stmt := topS 25
abbrev n_check_store : List Str := ["scheme", "store", "width", "rows"]
theorem sc_check_store : FnScope n_check_store ["scheme", "store"] (defScope p_check_store) := ⟨rfl, rfl, rfl, by decide +kernel, rfl, by decide +kernel, by decide +kernel⟩
abbrev p_check_rows : Stmt := topS 26
abbrev n_check_rows : List Str := ["width", "rows", "row", "at"]
theorem sc_check_rows : FnScope n_check_rows ["width", "rows"] (defScope p_check_rows) := ⟨rfl, rfl, rfl, by decide +kernel, rfl, by decide +kernel, by decide +kernel⟩
abbrev p__law_draws : Stmt := topS 28
abbrev n__law_draws : List Str := ["script", "many", "cells", "rest", "draws", "k", "at", "once", "cell"]
theorem sc__law_draws : FnScope n__law_draws ["script", "many"] (defScope p__law_draws) := ⟨rfl, rfl, rfl, by decide +kernel, rfl, by decide +kernel, by decide +kernel⟩
abbrev p__law_take : Stmt := topS 29
abbrev n__law_take : List Str := ["draws", "many"]
theorem sc__law_take : FnScope n__law_take ["draws", "many"] (defScope p__law_take) := ⟨rfl, rfl, rfl, by decide +kernel, rfl, by decide +kernel, by decide +kernel⟩
abbrev p__law_cell : Stmt := topS 30
abbrev n__law_cell : List Str := ["script", "draws"]
theorem sc__law_cell : FnScope n__law_cell ["script", "draws"] (defScope p__law_cell) := ⟨rfl, rfl, rfl, by decide +kernel, rfl, by decide +kernel, by decide +kernel⟩
abbrev p__law_same : Stmt := topS 31
abbrev n__law_same : List Str := ["actual", "due", "k"]
theorem sc__law_same : FnScope n__law_same ["actual", "due"] (defScope p__law_same) := ⟨rfl, rfl, rfl, by decide +kernel, rfl, by decide +kernel, by decide +kernel⟩
abbrev p__law_shuffled : Stmt := topS 32
abbrev n__law_shuffled : List Str := ["draws", "row", "found", "item"]
theorem sc__law_shuffled : FnScope n__law_shuffled ["draws", "row"] (defScope p__law_shuffled) := ⟨rfl, rfl, rfl, by decide +kernel, rfl, by decide +kernel, by decide +kernel⟩
abbrev p__law_columns : Stmt := topS 33
abbrev n__law_columns : List Str := ["draws", "width", "share", "column"]
theorem sc__law_columns : FnScope n__law_columns ["draws", "width"] (defScope p__law_columns) := ⟨rfl, rfl, rfl, by decide +kernel, rfl, by decide +kernel, by decide +kernel⟩
abbrev p__law_scheme : Stmt := topS 34
abbrev n__law_scheme : List Str := ["draws", "many", "widths", "table"]
theorem sc__law_scheme : FnScope n__law_scheme ["draws"] (defScope p__law_scheme) := ⟨rfl, rfl, rfl, by decide +kernel, rfl, by decide +kernel, by decide +kernel⟩
abbrev p__law_parts : Stmt := topS 35
abbrev n__law_parts : List Str := ["draws", "width", "most", "many", "column", "rows", "k", "row"]
theorem sc__law_parts : FnScope n__law_parts ["draws", "width", "most"] (defScope p__law_parts) := ⟨rfl, rfl, rfl, by decide +kernel, rfl, by decide +kernel, by decide +kernel⟩
abbrev p__law_inclusion : Stmt := topS 36
abbrev n__law_inclusion : List Str := ["draws", "scheme", "order", "first", "table", "other", "many", "columns", "others", "column"]
theorem sc__law_inclusion : FnScope n__law_inclusion ["draws", "scheme", "order"] (defScope p__law_inclusion) := ⟨rfl, rfl, rfl, by decide +kernel, rfl, by decide +kernel, by decide +kernel⟩
abbrev p__law_dependency : Stmt := topS 37
abbrev n__law_dependency : List Str := ["draws", "scheme", "order", "kind", "table"]
theorem sc__law_dependency : FnScope n__law_dependency ["draws", "scheme", "order"] (defScope p__law_dependency) := ⟨rfl, rfl, rfl, by decide +kernel, rfl, by decide +kernel, by decide +kernel⟩
abbrev p__law_order : Stmt := topS 38
abbrev n__law_order : List Str := ["draws", "scheme", "table"]
theorem sc__law_order : FnScope n__law_order ["draws", "scheme"] (defScope p__law_order) := ⟨rfl, rfl, rfl, by decide +kernel, rfl, by decide +kernel, by decide +kernel⟩
abbrev p__law_book : Stmt := topS 39
abbrev n__law_book : List Str := ["draws", "scheme", "most", "order", "k"]
theorem sc__law_book : FnScope n__law_book ["draws", "scheme", "most"] (defScope p__law_book) := ⟨rfl, rfl, rfl, by decide +kernel, rfl, by decide +kernel, by decide +kernel⟩
abbrev p__law_error_name : Stmt := topS 40
abbrev n__law_error_name : List Str := ["e", "kinds", "names", "found", "k"]
theorem sc__law_error_name : FnScope n__law_error_name ["e"] (defScope p__law_error_name) := ⟨rfl, rfl, rfl, by decide +kernel, rfl, by decide +kernel, by decide +kernel⟩
abbrev p__law_checked : Stmt := topS 41
abbrev n__law_checked : List Str := ["check", "scheme", "thing", "found", "e"]
theorem sc__law_checked : FnScope n__law_checked ["check", "scheme", "thing"] (defScope p__law_checked) := ⟨rfl, rfl, rfl, by decide +kernel, rfl, by decide +kernel, by decide +kernel⟩
abbrev p__law_between : Stmt := topS 42
abbrev n__law_between : List Str := ["draws", "scheme", "table", "other", "many", "columns", "others", "column"]
theorem sc__law_between : FnScope n__law_between ["draws", "scheme", "table", "other"] (defScope p__law_between) := ⟨rfl, rfl, rfl, by decide +kernel, rfl, by decide +kernel, by decide +kernel⟩
abbrev p__law_has_ring : Stmt := topS 43
abbrev n__law_has_ring : List Str := ["scheme", "book", "pairs", "table", "left", "going", "dependency", "pair", "known"]
theorem sc__law_has_ring : FnScope n__law_has_ring ["scheme", "book"] (defScope p__law_has_ring) := ⟨rfl, rfl, rfl, by decide +kernel, rfl, by decide +kernel, by decide +kernel⟩
abbrev p__law_right : Stmt := topS 44
abbrev n__law_right : List Str := ["scheme", "book", "due"]
theorem sc__law_right : FnScope n__law_right ["scheme", "book"] (defScope p__law_right) := ⟨rfl, rfl, rfl, by decide +kernel, rfl, by decide +kernel, by decide +kernel⟩
abbrev p_law : Stmt := topS 45
abbrev n_law : List Str := ["script", "draws", "table", "scheme", "tables", "book", "k", "other", "houses", "ring", "order", "whole", "dependency", "at", "less"]
theorem sc_law : FnScope n_law ["script"] (defScope p_law) := ⟨rfl, rfl, rfl, by decide +kernel, rfl, by decide +kernel, by decide +kernel⟩
structure Er where
  TableError : Addr
  InvalidScheme : Addr
  InvalidBook : Addr
  InvalidStore : Addr
  BadText : Addr
  NoTable : Addr
  NoRow : Addr
  DoubledRow : Addr
  NoDependency : Addr
  Breach : Addr
  NothingToUndo : Addr
  NothingToRedo : Addr
  InvalidQuestion : Addr
structure ErOk (P : Program) (K : PySem.W.Frag) (mg : Str → Option Value) (er : Er) : Prop where
  g_TableError : mg "TableError" = some (.ref er.TableError)
  e_TableError : ErC K er.TableError
  g_InvalidScheme : mg "InvalidScheme" = some (.ref er.InvalidScheme)
  e_InvalidScheme : ErC K er.InvalidScheme
  g_InvalidBook : mg "InvalidBook" = some (.ref er.InvalidBook)
  e_InvalidBook : ErC K er.InvalidBook
  g_InvalidStore : mg "InvalidStore" = some (.ref er.InvalidStore)
  e_InvalidStore : ErC K er.InvalidStore
  g_BadText : mg "BadText" = some (.ref er.BadText)
  e_BadText : ErC K er.BadText
  g_NoTable : mg "NoTable" = some (.ref er.NoTable)
  e_NoTable : ErC K er.NoTable
  g_NoRow : mg "NoRow" = some (.ref er.NoRow)
  e_NoRow : ErC K er.NoRow
  g_DoubledRow : mg "DoubledRow" = some (.ref er.DoubledRow)
  e_DoubledRow : ErC K er.DoubledRow
  g_NoDependency : mg "NoDependency" = some (.ref er.NoDependency)
  e_NoDependency : ErC K er.NoDependency
  g_Breach : mg "Breach" = some (.ref er.Breach)
  e_Breach : ErC K er.Breach
  g_NothingToUndo : mg "NothingToUndo" = some (.ref er.NothingToUndo)
  e_NothingToUndo : ErC K er.NothingToUndo
  g_NothingToRedo : mg "NothingToRedo" = some (.ref er.NothingToRedo)
  e_NothingToRedo : ErC K er.NothingToRedo
  g_InvalidQuestion : mg "InvalidQuestion" = some (.ref er.InvalidQuestion)
  e_InvalidQuestion : ErC K er.InvalidQuestion
  q_InvalidBook : PySem.W.excIn K er.InvalidBook [.type "ValueError", .type "Exception", .type "BaseException", .type "object"] "ValueError.__new__" = true
  x_InvalidBook_TableError : PySem.W.exmOne K (.ref er.InvalidBook) (.ref er.TableError) = some true
  k_InvalidBook_InvalidScheme : PySem.W.kitOne K (.ref er.InvalidBook) (.ref er.InvalidScheme) = some false
  k_InvalidBook_InvalidBook : PySem.W.kitOne K (.ref er.InvalidBook) (.ref er.InvalidBook) = some true
  k_InvalidBook_InvalidStore : PySem.W.kitOne K (.ref er.InvalidBook) (.ref er.InvalidStore) = some false
  k_InvalidBook_BadText : PySem.W.kitOne K (.ref er.InvalidBook) (.ref er.BadText) = some false
  k_InvalidBook_NoTable : PySem.W.kitOne K (.ref er.InvalidBook) (.ref er.NoTable) = some false
  k_InvalidBook_NoRow : PySem.W.kitOne K (.ref er.InvalidBook) (.ref er.NoRow) = some false
  k_InvalidBook_DoubledRow : PySem.W.kitOne K (.ref er.InvalidBook) (.ref er.DoubledRow) = some false
  k_InvalidBook_NoDependency : PySem.W.kitOne K (.ref er.InvalidBook) (.ref er.NoDependency) = some false
  k_InvalidBook_Breach : PySem.W.kitOne K (.ref er.InvalidBook) (.ref er.Breach) = some false
  k_InvalidBook_NothingToUndo : PySem.W.kitOne K (.ref er.InvalidBook) (.ref er.NothingToUndo) = some false
  k_InvalidBook_NothingToRedo : PySem.W.kitOne K (.ref er.InvalidBook) (.ref er.NothingToRedo) = some false
  k_InvalidBook_InvalidQuestion : PySem.W.kitOne K (.ref er.InvalidBook) (.ref er.InvalidQuestion) = some false
  k_InvalidBook_ValueError : PySem.W.kitOne K (.ref er.InvalidBook) (.type "ValueError") = some true

theorem fz_of {d : DL.D} (h : isFr d = true) : fz d = d := by cases d <;> first | rfl | cases h
theorem noMo_of {d : DL.D} (h : isFr d = true) (h2 : ∀ c fs, d ≠ .mo c fs) : noMo d = true := by cases d <;> first | rfl | cases h
theorem noMo_fr {d : DL.D} (h : isFr d = true) : noMo d = true := by cases d <;> first | rfl | cases h
theorem noMoL_fr : ∀ {ds : List DL.D}, ds.all isFr = true → noMoL ds = true
  | [], _ => rfl
  | d :: r, h => by
    rw [List.all_cons, Bool.and_eq_true] at h
    rw [noMoL, noMo_fr h.1, noMoL_fr h.2]; rfl
theorem fzL_fr : ∀ {ds : List DL.D}, ds.all isFr = true → fzL ds = ds
  | [], _ => rfl
  | d :: r, h => by
    rw [List.all_cons, Bool.and_eq_true] at h
    rw [fzL, fz_of h.1, fzL_fr h.2]
theorem noMos_mlF {ds : List DL.D} {L : Ls} (hd : ds.all isFr = true) (h : noMos L = true) : noMos (some (.ml ds) :: L) = true := noMos_cons (by show noMo _ = true; unfold noMo; exact noMoL_fr hd) h
theorem all_perm {ds es : List DL.D} (p : es.Perm ds) (h : ds.all isFr = true) : es.all isFr = true := List.all_eq_true.mpr fun x hx => List.all_eq_true.mp h x (p.mem_iff.mp hx)
theorem perm_map_inv {α β : Type} {f : α → β} {l : List α} {es : List β} (p : es.Perm (l.map f)) : ∃ l' : List α, es = l'.map f ∧ l'.Perm l := by
  generalize hm : l.map f = m at p
  induction p generalizing l with
  | nil => exact ⟨l, hm.symm, .refl _⟩
  | cons x p ih =>
    cases l with
    | nil => cases hm
    | cons a l =>
      rw [List.map_cons] at hm
      cases hm
      obtain ⟨l', e, q⟩ := ih rfl
      exact ⟨a :: l', by rw [e, List.map_cons], q.cons _⟩
  | swap x y r =>
    match l, hm with
    | a :: b :: l, hm =>
      rw [List.map_cons, List.map_cons] at hm
      cases hm
      exact ⟨b :: a :: l, rfl, .swap _ _ _⟩
  | trans p1 p2 ih1 ih2 =>
    obtain ⟨l1, e1, q1⟩ := ih2 hm
    obtain ⟨l2, e2, q2⟩ := ih1 e1.symm
    exact ⟨l2, e2, q2.trans q1⟩
theorem cutD_hi {α : Type} (xs : List α) {n : Int} (h : 0 ≤ n) : DL.cutD xs none (some n) = xs.take n.toNat := by
  unfold DL.cutD HT.sIx
  simp only []
  rw [if_neg (by omega)]
  simp only [List.drop_zero, Nat.sub_zero]
  by_cases hn : n.toNat ≤ xs.length
  · congr 1; omega
  · rw [List.take_of_length_le (by omega), List.take_of_length_le (by omega)]
theorem cutD_lo {α : Type} (xs : List α) {n : Int} (h : 0 ≤ n) : DL.cutD xs (some n) none = xs.drop n.toNat := by
  unfold DL.cutD HT.sIx
  simp only []
  rw [if_neg (by omega)]
  by_cases hn : n.toNat ≤ xs.length
  · rw [List.take_of_length_le (by rw [List.length_drop]; omega)]; congr 1; omega
  · rw [List.drop_of_length_le (by omega), List.drop_of_length_le (by omega), List.take_nil]
/-- a list or a tuple of ints -/
inductive SeqI : DL.D → List Int → Prop
  | lst (l : List Int) : SeqI (lstI l) l
  | tup (l : List Int) : SeqI (tupI l) l
  | ptu (l : List Int) : SeqI (.ptu l) l
inductive SeqF : DL.D → List DL.D → Prop
  | lst (l : List DL.D) : SeqF (.lst l) l
  | tup (l : List DL.D) : SeqF (.tup l) l
theorem ins_perm {α : Type} (xs : List α) (a : α) (n : Nat) : (xs.take n ++ [a] ++ xs.drop n).Perm (xs ++ [a]) := by
  rw [List.append_assoc]
  have e2 : xs ++ [a] = (xs.take n ++ xs.drop n) ++ [a] := by rw [List.take_append_drop]
  rw [e2, List.append_assoc]
  exact List.Perm.append_left _ List.perm_append_comm
theorem take_sub {α : Type} {xs ys : List α} {i : Nat} {x : α} (h : ys[i]? = some x) (s : List.Sublist xs (ys.take i)) : List.Sublist xs (ys.take (i + 1)) := s.trans (List.take_sublist_take_left (Nat.le_succ i))
theorem take_subA {α : Type} {xs ys : List α} {i : Nat} {x : α} (h : ys[i]? = some x) (s : List.Sublist xs (ys.take i)) : List.Sublist (xs ++ [x]) (ys.take (i + 1)) := by
  rw [take_step h]; exact s.append (.refl _)
/-- rows of columns, not empty, below m -/
def RowsIn (m : Int) (n k : Nat) (rs : List (List Int)) : Prop := 0 < rs.length ∧ rs.length ≤ n ∧ ∀ r ∈ rs, r ≠ [] ∧ r.length ≤ k ∧ ∀ x ∈ r, 0 ≤ x ∧ x < m
abbrev lstL (R : List (List Int)) : List DL.D := R.map fun l => .lst (l.map .int)
theorem lstL_fr (R : List (List Int)) : (lstL R).all isFr = true := List.all_eq_true.mpr fun x hx => by
  obtain ⟨l, _, rfl⟩ := List.mem_map.mp hx; rfl
theorem lstL_len (R : List (List Int)) : (lstL R).length = R.length := List.length_map ..
theorem lstL_app (a b : List (List Int)) : lstL (a ++ b) = lstL a ++ lstL b := List.map_append
theorem lstL_get {R : List (List Int)} {i : Nat} {d : DL.D} (h : (lstL R)[i]? = some d) : ∃ r, R[i]? = some r ∧ d = .lst (r.map .int) := by
  rw [List.getElem?_map, Option.map_eq_some_iff] at h
  obtain ⟨p, h, rfl⟩ := h
  exact ⟨p, h, rfl⟩
theorem noMos_lstL {R : List (List Int)} {L : Ls} (h : noMos L = true) : noMos (some (.ml (lstL R)) :: L) = true := noMos_mlF (lstL_fr R) h
theorem noMos_ml0 {L : Ls} (h : noMos L = true) : noMos (some (.ml []) :: L) = true := noMos_cons rfl h
/-- a part as it is told: plain or not -/
def mkP (b : Bool) (p : List Int) : DL.D := bif b then .ptu p else .tup (p.map .int)
theorem mkP_fr (b : Bool) (p : List Int) : isFr (mkP b p) = true := by cases b <;> rfl
theorem mkP_noL (b : Bool) (p : List Int) : noL (mkP b p) = true := by
  cases b
  · show noLL _ = true; exact noLL_ints p
  · rfl
theorem mkP_all (b : Bool) (ps : List (List Int)) : (ps.map (mkP b)).all isFr = true := List.all_eq_true.mpr fun x hx => by
  obtain ⟨l, _, rfl⟩ := List.mem_map.mp hx; exact mkP_fr b l
theorem mkP_noLL (b : Bool) : ∀ ps : List (List Int), noLL (ps.map (mkP b)) = true
  | [] => rfl
  | p :: r => by rw [List.map_cons, noLL, mkP_noL, mkP_noLL b r]; rfl
/-- parts: ascending columns, none empty, all columns below n together -/
structure Parts (n : Int) (ps : List (List Int)) : Prop where
  ne : 0 < ps.length
  len : ps.length ≤ 12
  n7 : n ≤ 7
  ok : ∀ p ∈ ps, p ≠ [] ∧ p.Pairwise (· < ·) ∧ ∀ x ∈ p, 0 ≤ x ∧ x < n
  all : ∀ x, 0 ≤ x → x < n → ∃ p ∈ ps, x ∈ p
theorem asc_le {p : List Int} {n : Int} (h : p.Pairwise (· < ·)) (hx : ∀ x ∈ p, 0 ≤ x ∧ x < n) : p.length ≤ n.toNat := by have := asc_len h hx; omega
section
variable {P : Program} {w : World} {K : PySem.W.Frag} {mg : Str → Option Value} {base : Heap}
def sp__law_take : SpD := fun ds R => ∃ (l : List Int) (m : Int), ds = [mlI l, .int m] ∧ 0 < m ∧ ∀ (i : Int) (l' : List Int), 0 ≤ i → i < m → R (.int i) [mlI l', .int m]
theorem ok__law_take {f : Addr} {fd : FuncData} (F0 : Df K mg "_law_take" p__law_take ["draws", "many"] f fd)
    (m_int : mg "int" = none)
    (m_len : mg "len" = none) :
    FnOk P w K mg base CX0 1 f fd ["draws", "many"] (lowF K sp__law_take) := by
  refine ok_of F0.F sc__law_take [0] (by decide) (fun cdv A outer s H pn E hr hp => (d_seq (d_if (d_pureT (d_cmpT (op_eqAll (u64 hr)) up_eq (nomark _) (d_callB call_lenA up_len (by rfl) m_len PySem.boot_len (d_consA (dv 0) d_nilA)) d_int))
      (d_one (d_ret d_int))
      d_nil)
      (d_one (d_ret (d_op op_mod up_int2 (d_callTy call_int1 up_intF (by rfl) m_int boot_int (d_consA (d_lm0 0 PySem.F.plainAttrs_list PySem.F.slot_list_pop PySem.F.type_list_pop mt_pop up_pop) d_nilA)) (dv 1)))))) (fun ds R h => ?_)
  obtain ⟨l, m, rfl, hm, q⟩ := h
  refine ⟨rfl, rfl, ?_⟩
  refine ⟨by simp [noMos, noMo, noMoL_ints], dec2 (fun z => ?_) (fun z => ?_)⟩
  · exact q 0 l (Int.le_refl _) hm
  · rw [fzL_ints, List.length_map] at z
    have h1 : l.length - 1 < l.length := by omega
    refine ⟨rfl, allFr_ints l, ?_⟩
    have e : (l.map DL.D.int)[(l.map DL.D.int).length - 1]? = some (DL.D.int l[l.length - 1]) := by
      rw [List.length_map, List.getElem?_map, List.getElem?_eq_getElem h1]; rfl
    unfold gPop
    simp only [e, ← List.map_dropLast]
    exact ⟨hm, q _ _ (Int.emod_nonneg _ (by omega)) (Int.emod_lt_of_pos _ hm)⟩
def sp__law_draws : SpD := fun ds R => ∃ (ns : List Int) (m : Int), ds = [.scr ns, .int m] ∧ ns.length ≤ 63 ∧ 0 ≤ m ∧ m ≤ 5000 ∧ ∀ l : List Int, R (mlI l) [.scr ns, .int m]
theorem ok__law_draws {f : Addr} {fd : FuncData} (F0 : Df K mg "_law_draws" p__law_draws ["script", "many"] f fd)
    (m_int : mg "int" = none)
    (m_len : mg "len" = none)
    (m_list : mg "list" = none)
    (m_range : mg "range" = none) :
    FnOk P w K mg base CX0 1 f fd ["script", "many"] (lowF K sp__law_draws) := by
  refine ok_of F0.F sc__law_draws [] (by decide) (fun cdv A outer s H pn E hr hp => (d_seq (d_setLcM (i := 2) (own := [("cell", 8)]) (by rfl) sc__law_draws.nd rfl rfl (hp 2 rfl) (sw_true rfl rfl rfl (by decide +kernel)) (i_seq (dv 0)) (blkOk_by (N := n__law_draws) (sc := defScope p__law_draws) (by decide +kernel)) (by decide) (hp1 (hp 8 rfl)) (fun _ _ _ _ _ => (g_name (i := 8) sc__law_draws.nd rfl (Or.inl rfl) (hp 8 rfl))) (fun _ _ _ _ _ => d_yes) (fun _ _ _ _ _ => (d_callTy call_int1 up_intF (by rfl) m_int boot_int (d_consA (dv 8) d_nilA))))
      (d_seq (d_if (d_pureT (d_cmpT (op_eqAll (u64 hr)) up_eq (nomark _) (d_callB call_lenA up_len (by rfl) m_len PySem.boot_len (d_consA (dv 2) d_nilA)) d_int))
      (d_one (d_exp (d_lm 2 PySem.F.plainAttrs_list PySem.F.slot_list_append PySem.F.type_list_append mt_append up_app (d_consA d_int d_nilA))))
      d_nil)
      (d_seq (d_setM (i := 3) sc__law_draws.nd rfl (.inl rfl) (hp 3 rfl) (d_copyL 2 (by rfl) m_list boot_list))
      (d_seq (d_setM (i := 4) sc__law_draws.nd rfl (.inl rfl) (hp 4 rfl) d_newL)
      (d_seq (d_for [5, 6, 7] PassesOwn.never rfl (i_range1 (by rfl) m_range (d_consA (dv 1) d_nilA)) (g_name (i := 5) sc__law_draws.nd rfl (.inl rfl) (hp 5 rfl))
      (d_seq (d_set (i := 6) sc__law_draws.nd rfl (.inl rfl) (hp 6 rfl) (d_pure (d_op op_mod up_int2 (dv 5) (d_callB call_lenA up_len (by rfl) m_len PySem.boot_len (d_consA (dv 2) d_nilA)))))
      (d_one (d_if (d_pureT (d_cmpT op_ge up_cmp (nomark _) (d_ix (dv 2) (dv 6)) (d_op op_pow up_int2 d_int d_int)))
      (d_seq (d_exp (d_lm 4 PySem.F.plainAttrs_list PySem.F.slot_list_append PySem.F.type_list_append mt_append up_app (d_consA (d_pure (d_op op_mod up_int2 (d_callTy call_int1 up_intF (by rfl) m_int boot_int (d_consA (d_ix (dv 3) (dv 6)) d_nilA)) d_int)) d_nilA)))
      (d_one (d_setIx 3 (dv 6) (d_pure (d_op op_fdiv up_int2 (d_ix (dv 3) (dv 6)) d_int)))))
      (d_seq (d_set (i := 7) sc__law_draws.nd rfl (.inl rfl) (hp 7 rfl) (d_pure (d_op op_mod up_int2 (d_callTy call_int1 up_intF (by rfl) m_int boot_int (d_consA (d_op op_addAll up_add (d_op op_addAll up_add (d_op op_mulAll up_mul (d_ix (dv 2) (dv 6)) d_int) (d_op op_mulAll up_mul (dv 5) d_int)) d_int) d_nilA)) d_int)))
      (d_one (d_exp (d_lm 4 PySem.F.plainAttrs_list PySem.F.slot_list_append PySem.F.type_list_append mt_append up_app (d_consA (d_op op_mod up_int2 (d_callTy call_int1 up_intF (by rfl) m_int boot_int (d_consA (d_op op_addAll up_add (d_op op_addAll up_add (d_op op_mulAll up_mul (dv 7) (dv 7)) (d_op op_mulAll up_mul d_int (dv 7))) (dv 5)) d_nilA)) d_int) d_nilA)))))))))
      (d_seq (d_exp (d_lm0 4 PySem.F.plainAttrs_list PySem.F.slot_list_reverse PySem.F.type_list_reverse mt_reverse up_rev))
      (d_one (d_retM (dn_var 4)))))))))) (fun ds R h => ?_)
  try rewrite [gIx_I]
  obtain ⟨ns, m, rfl, hn, hm0, hm1, q⟩ := h
  refine ⟨rfl, rfl, ?_⟩
  refine ⟨small_le (by rw [List.length_map]; omega), fun i acc L => L = [some (.scr ns), some (.int m), none, none, none, none, none, none, none] ∧ acc = (ns.take i).map DL.D.int, ⟨rfl, rfl⟩, ?_, ?_⟩
  · rintro i d acc L hd ⟨rfl, rfl⟩
    obtain ⟨n, rfl, hn', e⟩ := take_map_succ hd
    exact ⟨rfl, e.symm⟩
  · rintro acc L ⟨rfl, rfl⟩
    dsimp only
    refine seq_key0 (fun L => ∃ cs : List Int, L = [some (.scr ns), some (.int m), some (mlI cs), none, none, none, none, none, none] ∧ 0 < cs.length ∧ cs.length ≤ 63) ?_ ?_
    · rintro L ⟨cs, rfl, c0, c1⟩
      refine ⟨allFr_ints cs, by omega, by omega, fun i L => ∃ rs ds : List Int, L = [some (.scr ns), some (.int m), some (mlI cs), some (mlI rs), some (mlI ds), none, none, none, none] ∧ rs.length = cs.length ∧ ds.length = i, ⟨cs, [], rfl, rfl, rfl⟩, ?_, ?_⟩
      · rintro i d L hd ⟨rs, ds, rfl, hr, hds⟩
        obtain ⟨rfl, hi⟩ := rng_get hd
        refine ⟨by (repeat' (first | exact noMos_nil | with_reducible_and_instances rfl | apply noMos_none | apply noMos_ml | apply noMos_mlA | apply noMos_rows | apply noMos_tabs | apply noMos_mls | exact rfl | refine noMos_fr rfl ?_)), by rw [fzL_ints, List.length_map]; omega, rfl, ?_⟩
        rw [fzL_ints, List.length_map]
        have ha0 := Int.emod_nonneg (0 + (i : Int)) (show (cs.length : Int) ≠ 0 by omega)
        have ha1 := Int.emod_lt_of_pos (0 + (i : Int)) (show (0 : Int) < cs.length by omega)
        refine ⟨by (repeat' (first | exact noMos_nil | with_reducible_and_instances rfl | apply noMos_none | apply noMos_ml | apply noMos_mlA | apply noMos_rows | apply noMos_tabs | apply noMos_mls | exact rfl | refine noMos_fr rfl ?_)), ix_fzI ha0 ha1 ⟨⟨by decide, by decide, by decide⟩, dec2 (fun y => ?_) (fun y => ?_)⟩⟩
        · refine ⟨rfl, by (repeat' (first | exact noMos_nil | with_reducible_and_instances rfl | apply noMos_none | apply noMos_ml | apply noMos_mlA | apply noMos_rows | apply noMos_tabs | apply noMos_mls | exact rfl | refine noMos_fr rfl ?_)), ix_fzI ha0 (by omega) ⟨(show (0 : Int) < _ by decide), rfl, allFr_ints ds, by rw [List.length_map]; exact small_lt (by omega), rfl, by (repeat' (first | exact noMos_nil | with_reducible_and_instances rfl | apply noMos_none | apply noMos_ml | apply noMos_mlA | apply noMos_rows | apply noMos_tabs | apply noMos_mls | exact rfl | refine noMos_fr rfl ?_)), ix_fzI ha0 (by omega) ⟨⟨by decide, by decide⟩, rfl, rfl, allFr_ints rs, ?_⟩⟩⟩
          have hx : ixN (rs.map DL.D.int).length ((0 + (i : Int)) % (cs.length : Int)) = some _ := ixN_ok ha0 (by rw [List.length_map]; omega)
          dsimp only
          rw [hx]
          refine ⟨rs.set ((0 + (i : Int)) % (cs.length : Int)).toNat (rs.getD ((0 + (i : Int)) % (cs.length : Int)).toNat 0 / 1000), ds ++ [rs.getD ((0 + (i : Int)) % (cs.length : Int)).toNat 0 % 1000], ?_, by rw [List.length_set]; exact hr, by rw [List.length_append, hds]; rfl⟩
          unfold mlI
          rw [List.map_set, List.map_append]
          rfl
        · refine ⟨by (repeat' (first | exact noMos_nil | with_reducible_and_instances rfl | apply noMos_none | apply noMos_ml | apply noMos_mlA | apply noMos_rows | apply noMos_tabs | apply noMos_mls | exact rfl | refine noMos_fr rfl ?_)), ix_fzI ha0 ha1 ⟨cmul_r (by decide), cmul_r (by decide), ⟨(show (0 : Int) < _ by decide), rfl, rfl, ?_⟩⟩⟩
          generalize cs.getD ((0 + (i : Int)) % (cs.length : Int)).toNat 0 = c
          have ho0 := Int.emod_nonneg (c * 48271 + (0 + (i : Int)) * 69621 + 11) (show (2147483647 : Int) ≠ 0 by decide)
          have ho1 := Int.emod_lt_of_pos (c * 48271 + (0 + (i : Int)) * 69621 + 11) (show (0 : Int) < 2147483647 by decide)
          refine ⟨cmul_r ⟨by omega, by omega⟩, cmul_l ⟨by decide, by decide⟩, (show (0 : Int) < _ by decide), allFr_ints ds, by rw [List.length_map]; exact small_lt (by omega), ?_⟩
          generalize (c * 48271 + (0 + (i : Int)) * 69621 + 11) % 2147483647 = o at ho0 ho1 ⊢
          refine ⟨rs, ds ++ [(o * o + 3 * o + (0 + (i : Int))) % 1000003], ?_, hr, by rw [List.length_append, hds]; rfl⟩
          unfold mlI
          rw [List.map_append]
          rfl
      · rintro L ⟨rs, ds, rfl, hr, hds⟩
        have h := q ds.reverse
        unfold mlI at h
        rw [List.map_reverse] at h
        exact ⟨rfl, allFr_ints ds, h⟩
    · intro key
      have e : (ns.take (ns.map DL.D.int).length).map DL.D.int = ns.map DL.D.int := by rw [List.length_map, List.take_length]
      refine ⟨by (repeat' (first | exact noMos_nil | with_reducible_and_instances rfl | apply noMos_none | apply noMos_ml | apply noMos_mlA | apply noMos_rows | apply noMos_tabs | apply noMos_mls | exact rfl | refine noMos_fr rfl ?_)), dec2 (fun z => ?_) (fun z => ?_)⟩
      · rw [fzL_ints, List.length_map, List.length_map, List.take_length] at z
        have e2 : ns = [] := List.eq_nil_of_length_eq_zero (by omega)
        subst e2
        exact ⟨rfl, rfl, by decide, key _ ⟨[0], rfl, by decide, by decide⟩⟩
      · rw [fzL_ints, List.length_map, List.length_map, List.take_length] at z
        refine key ([some (.scr ns), some (.int m), some (.ml ((ns.take (ns.map DL.D.int).length).map DL.D.int)), none, none, none, none, none, none]) ⟨ns, by rw [e], by omega, hn⟩
end

end LW

namespace LW
open PySem PySem.Spec PyProof.Rows L2 DL
theorem map_fr {α : Type} {f : α → DL.D} (hf : ∀ x, isFr (f x) = true) (g : List α) : (g.map f).all isFr = true := List.all_eq_true.mpr fun d hd => by
  obtain ⟨x, _, rfl⟩ := List.mem_map.mp hd
  exact hf x
theorem dNilG {E : DEnds} {L : Ls} (h : E.nx L) : dNil E L := h
theorem condFf {A B : Prop} (h : B) : bif false then A else B := h
theorem condTt {A B : Prop} (h : A) : bif true then A else B := h
theorem condF {A B : Prop} (h : B) : bif (!true) then A else B := h
theorem stK {g h : FS} {E : DEnds} {L : Ls} (k1 : h E L) (k2 : h E L → g { E with nx := h E } L) : dSeqI g h E L := st0 (k2 k1)
theorem nxL {f : Ls → Prop} {L : Ls} (L' : Ls) (e : L = L') (h : f L') : f L := e ▸ h
/-- what comes of a look: nothing, or an error -/
def Told (P : Prop) (R : DL.D → List DL.D → Prop) (d : DL.D) (ds : List DL.D) : Prop := (P → R .non ds) ∧ (¬ P → R d ds)
inductive Dp where
  | set (b : Bool) (t : Int) (l r : List Int)
  | joins (t : Int) (ps : List (List Int))
  | inc (t : Int) (cs : List Int) (o : Int) (os : List Int)
def setK (b : Bool) : Str := if b then "deals" else "settles"
def Dp.d : Dp → DL.D
  | .set b t l r => .tup [.str (setK b), .int t, tupI l, tupI r]
  | .joins t ps => .tup [.str "joins", .int t, .tup (ps.map tupI)]
  | .inc t cs o os => .tup [.str "within", .int t, tupI cs, .int o, tupI os]
theorem Dp.fr (s : Dp) : isFr s.d = true := by cases s <;> rfl
theorem dps_fr (ss : List Dp) : (ss.map Dp.d).all isFr = true := map_fr Dp.fr ss
theorem Dp.noN (s : Dp) : s.d ≠ .non := by cases s <;> (intro h; cases h)
/-- ascending columns below w -/
def ColsW (w : Int) (xs : List Int) : Prop := xs.Pairwise (· < ·) ∧ ∀ x ∈ xs, 0 ≤ x ∧ x < w

/-- what was told: a number, or an error -/
theorem asc_cols {xs : List Int} (h : ∀ i a b, xs[i]? = some a → xs[i + 1]? = some b → a < b) : xs.Pairwise (· < ·) := by
  induction xs with
  | nil => exact .nil
  | cons a l ih =>
    have ih := ih fun i x y h1 h2 => h (i + 1) x y h1 h2
    refine .cons (fun b hb => ?_) ih
    cases l with
    | nil => cases hb
    | cons c l =>
      have h0 := h 0 a c rfl rfl
      rcases List.mem_cons.mp hb with rfl | hb
      · exact h0
      · exact Int.lt_trans h0 ((List.pairwise_cons.mp ih).1 b hb)
def ColIn (w : Int) (xs : List Int) : Prop := ∀ x ∈ xs, 0 ≤ x ∧ x < w
def SetsR (w : Int) (xss : List (List Int)) : Prop := ∀ xs ∈ xss, ColsW w xs
/-- the parts of a join are right -/
structure PartsR (w : Int) (ps : List (List Int)) : Prop where
  ne : ps ≠ []
  full : ∀ p ∈ ps, p ≠ []
  ok : SetsR w ps
  all : ∀ x, 0 ≤ x → x < w → ∃ p ∈ ps, x ∈ p
def ChosenR (w : Int) (xs : List Int) : Prop := xs ≠ [] ∧ ColIn w xs ∧ xs.Nodup
def Tot (xss : List (List Int)) : Prop := xss.flatten.length ≤ 4000
theorem Tot.of {xss : List (List Int)} (h : Tot xss) {xs : List Int} (hx : xs ∈ xss) : xs.length ≤ 4000 := by
  obtain ⟨a, b, rfl⟩ := List.append_of_mem hx
  unfold Tot at h
  rw [List.flatten_append, List.length_append, List.flatten_cons, List.length_append] at h
  omega
theorem sub_len {α : Type} [DecidableEq α] : ∀ {l m : List α}, l.Nodup → (∀ x ∈ l, x ∈ m) → l.length ≤ m.length
  | [], _, _, _ => Nat.zero_le _
  | x :: l, m, hn, h => by
    obtain ⟨h1, h2⟩ := List.nodup_cons.mp hn
    have hx := h x (List.mem_cons_self ..)
    have ih := sub_len (l := l) (m := m.erase x) h2 fun y hy => (List.mem_erase_of_ne (fun e => h1 (by rw [← e]; exact hy))).mpr (h y (List.mem_cons_of_mem _ hy))
    rw [List.length_erase_of_mem hx] at ih
    have : 0 < m.length := List.length_pos_of_mem hx
    show l.length + 1 ≤ m.length
    omega
theorem asc_le2 {M R : List (List Int)} (h : M.Pairwise (· < ·)) (e : ∀ r, r ∈ M ↔ r ∈ R) : M.length ≤ R.length := by
  have nd : M.Nodup := List.Pairwise.imp (R := (· < ·)) (S := (· ≠ ·)) (fun {a b} hab => fun hh => NK.row_lt_irrefl a (by rw [← hh] at hab; exact hab)) h
  exact sub_len nd fun r hr => (e r).mp hr

theorem upto_nd (lo hi : Int) : (upto lo hi).Nodup := by
  unfold upto
  refine List.pairwise_map.mpr (List.nodup_range.imp fun h e => h ?_)
  omega
theorem count_all {w : Int} {ps : List (List Int)} {M : List Int} (hne : ps ≠ []) (hf : ∀ p ∈ ps, p ≠ []) (hok : SetsR w ps) (nd : M.Nodup) (hM : ∀ k, k ∈ M ↔ ∃ r ∈ ps, k ∈ r) : ((M.length : Int) = w) ↔ ∀ x, 0 ≤ x → x < w → ∃ p ∈ ps, x ∈ p := by
  have inM : ∀ x ∈ M, x ∈ upto 0 w := fun x hx => by
    obtain ⟨r, hr, hxr⟩ := (hM x).mp hx
    have := (hok r hr).2 x hxr
    exact mem_upto.mpr (by omega)
  have hw : 0 ≤ w := by
    cases ps with
    | nil => exact absurd rfl hne
    | cons p ps =>
      cases p with
      | nil => exact absurd rfl (hf _ (List.mem_cons_self ..))
      | cons x p => have := (hok _ (List.mem_cons_self ..)).2 x (List.mem_cons_self ..); omega
  have hle := sub_len nd inM
  rw [upto_length] at hle
  constructor
  · intro e x x0 x1
    refine (hM x).mp (Classical.byContradiction fun hx => ?_)
    have := sub_len (l := x :: M) (m := upto 0 w) (List.nodup_cons.mpr ⟨hx, nd⟩) fun y hy => by
      rcases List.mem_cons.mp hy with rfl | hy
      · exact mem_upto.mpr (by omega)
      · exact inM y hy
    rw [upto_length, List.length_cons] at this
    omega
  · intro h
    have nd2 : (upto 0 w).Nodup := upto_nd 0 w
    have := sub_len nd2 fun x hx => (hM x).mpr (h x (by have := mem_upto.mp hx; omega) (by have := mem_upto.mp hx; omega))
    rw [upto_length] at this
    omega
theorem fewer : ∀ {xs : List Int}, ¬ xs.Nodup → ∃ ys : List Int, ys.length < xs.length ∧ ∀ x, x ∈ ys ↔ x ∈ xs
  | [], h => absurd List.nodup_nil h
  | a :: t, h => by
    by_cases c : a ∈ t
    · exact ⟨t, Nat.lt_succ_self _, fun x => ⟨List.mem_cons_of_mem _, fun z => (List.mem_cons.mp z).elim (fun e => by rw [e]; exact c) id⟩⟩
    · obtain ⟨ys, h1, h2⟩ := fewer (xs := t) fun n => h (List.nodup_cons.mpr ⟨c, n⟩)
      exact ⟨a :: ys, Nat.succ_lt_succ h1, fun x => by rw [List.mem_cons, List.mem_cons, h2]⟩
theorem nodup_count {M xs : List Int} (nd : M.Nodup) (hM : ∀ k, k ∈ M ↔ k ∈ xs) : ((M.length : Int) = (xs.length : Int)) ↔ xs.Nodup := by
  constructor
  · intro e
    have e : M.length = xs.length := by omega
    refine Classical.byContradiction fun hn => ?_
    obtain ⟨ys, hl, hy⟩ := fewer hn
    have := sub_len nd fun x hx => (hy x).mpr ((hM x).mp hx)
    omega
  · intro h
    have a := sub_len nd fun x hx => (hM x).mp hx
    have b := sub_len h fun x hx => (hM x).mpr hx
    omega
section
variable {P : Program} {w : World} {K : PySem.W.Frag} {mg : Str → Option Value} {base : Heap}

abbrev errB (er : Er) : DL.D := .xc er.InvalidBook []
theorem ndec2 {c A B : Prop} [Decidable c] (h1 : ¬ c → A) (h2 : c → B) : bif (!decide c) then A else B := cond2 (fun h => h1 (by simpa using h)) fun h => h2 (by simpa using h)
def sp_table_width (er : Er) : SpD := fun ds R => ∃ (ws : List Int) (t : Int), ds = [tupI ws, .int t] ∧ (∀ w, 0 ≤ t → ws[t.toNat]? = some w → R (.int w) [tupI ws, .int t]) ∧ (¬ (0 ≤ t ∧ t < (ws.length : Int)) → R (errB er) [tupI ws, .int t])
theorem ok_table_width {f : Addr} {fd : FuncData} (F0 : Df K mg "table_width" p_table_width ["scheme", "table"] f fd)
    {er : Er} (ER : ErOk P K mg er)
    (m_len : mg "len" = none) :
    FnOk P w K mg base (L2N.CX P w) 1 f fd ["scheme", "table"] (lowFX K (sp_table_width er)) := by
  refine ok_ofX F0.F sc_table_width [] (by decide) (fun cdv A outer s H pn E hr hp tk hps => (x_seq (x_if (d_not (d_chainT op_le up_cmp (op_ltAll (u0 hr)) up_lt d_int (dv 1) (d_callB call_lenA up_len (by rfl) m_len PySem.boot_len (d_consA (dv 0) d_nilA))))
      (x_one (x_raise (by rfl) tk (L2N.pmk_own PySem.F.excBase_ValueError ER.q_InvalidBook ER.g_InvalidBook ER.e_InvalidBook.kp ER.e_InvalidBook.raises (by rfl))))
      x_nil)
      (x_ss (d_one (d_ret (d_ix (dv 0) (dv 1))))))) (fun ds R h => ?_)
  try rewrite [gIx_I]
  obtain ⟨ws, t, rfl, q1, q2⟩ := h
  refine ⟨rfl, rfl, ?_⟩
  have ok : ∀ (h0 : 0 ≤ t) (h1 : t < (ws.length : Int)), ∃ w, ws[t.toNat]? = some w := fun h0 h1 => ⟨_, List.getElem?_eq_getElem (by omega)⟩
  have hlm : (ws.map DL.D.int).length = ws.length := List.length_map ..
  refine dec2 (c := 0 ≤ t) (fun z0 => ?_) (fun z0 => ?_)
  · refine ndec2 (c := t < (ws.map DL.D.int).length) (fun z1 => ?_) (fun z1 => ?_)
    · rw [hlm] at z1
      exact q2 fun h => z1 h.2
    · rw [hlm] at z1
      obtain ⟨w, hw⟩ := ok z0 z1
      refine ixT (d := .int w) (atI_nat' (j := t.toNat) (by omega) (by rw [List.getElem?_map, hw]; rfl)) ?_
      exact q1 w z0 hw
  · exact q2 fun h => z0 h.1
def sp_check_columns_there (er : Er) : SpD := fun ds R => ∃ (w : Int) (xs : List Int), ds = [.int w, tupI xs] ∧ Told (ColIn w xs) R (errB er) [.int w, tupI xs]
theorem ok_check_columns_there {f : Addr} {fd : FuncData} (F0 : Df K mg "check_columns_there" p_check_columns_there ["width", "columns"] f fd)
    {er : Er} (ER : ErOk P K mg er) :
    FnOk P w K mg base (L2N.CX P w) 1 f fd ["width", "columns"] (lowFX K (sp_check_columns_there er)) := by
  refine ok_ofX F0.F sc_check_columns_there [] (by decide) (fun cdv A outer s H pn E hr hp tk hps => (x_one (x_for [2] hps rfl (i_seq (dv 1)) (g_name (i := 2) sc_check_columns_there.nd rfl (.inl rfl) (hp 2 rfl))
      (x_one (x_if (d_not (d_chainT op_le up_cmp (op_ltAll (u0 hr)) up_lt d_int (dv 2) (dv 0)))
      (x_one (x_raise (by rfl) tk (L2N.pmk_own PySem.F.excBase_ValueError ER.q_InvalidBook ER.g_InvalidBook ER.e_InvalidBook.kp ER.e_InvalidBook.raises (by rfl))))
      x_nil))))) (fun ds R h => ?_)
  obtain ⟨w, xs, rfl, q1, q2⟩ := h
  refine ⟨rfl, rfl, ?_⟩
  refine ⟨fun i L => L = [some (.int w), some (tupI xs), none] ∧ ∀ x ∈ xs.take i, 0 ≤ x ∧ x < w, ⟨rfl, fun x h => by simp at h⟩, ?_, ?_⟩
  · rintro i d L hd ⟨rfl, hp⟩
    rw [List.getElem?_map, Option.map_eq_some_iff] at hd
    obtain ⟨v, hv, rfl⟩ := hd
    refine dec2 (c := 0 ≤ v) (fun z0 => ?_) (fun z0 => ?_)
    · refine ndec2 (c := v < w) (fun z1 => ?_) (fun z1 => ?_)
      · exact q2 fun h => z1 (h v (List.mem_of_getElem? hv)).2
      · refine ⟨rfl, fun x hx => ?_⟩
        rw [take_step hv] at hx
        rcases List.mem_append.mp hx with hx | hx
        · exact hp x hx
        · rw [List.mem_singleton.mp hx]; exact ⟨z0, z1⟩
    · exact q2 fun h => z0 (h v (List.mem_of_getElem? hv)).1
  · rintro L ⟨rfl, hp⟩
    rw [List.length_map, List.take_length] at hp
    exact q1 hp
def sp_check_sets (er : Er) : SpD := fun ds R => ∃ (w : Int) (xss : List (List Int)), ds = [.int w, .tup (xss.map tupI)] ∧ Tot xss ∧ Told (SetsR w xss) R (errB er) [.int w, .tup (xss.map tupI)]
theorem ok_check_sets {f : Addr} {fd : FuncData} (F0 : Df K mg "check_sets" p_check_sets ["width", "sets"] f fd)
    {er : Er} (ER : ErOk P K mg er)
    {f_check_columns_there : Addr} {fd_check_columns_there : FuncData} (D_check_columns_there : Df K mg "check_columns_there" p_check_columns_there ["width", "columns"] f_check_columns_there fd_check_columns_there)
    (G_check_columns_there : FnOk P w K mg base (L2N.CX P w) 1 f_check_columns_there fd_check_columns_there ["width", "columns"] (lowFX K (sp_check_columns_there er)))
    (m_len : mg "len" = none)
    (m_range : mg "range" = none) :
    FnOk P w K mg base (L2N.CX P w) 2 f fd ["width", "sets"] (lowFX K (sp_check_sets er)) := by
  refine ok_ofX F0.F sc_check_sets [] (by decide) (fun cdv A outer s H pn E hr hp tk hps => (x_one (x_for [2, 3] hps rfl (i_seq (dv 1)) (g_name (i := 2) sc_check_sets.nd rfl (.inl rfl) (hp 2 rfl))
      (x_seq (x_exp (x_fz (x_callX G_check_columns_there tk (hr.mono (by decide)) (by rfl) D_check_columns_there.g D_check_columns_there.F.kp D_check_columns_there.b (xr_of (r_e (dv 0) (r_e (dv 2) r_nil))))))
      (x_one (x_for [3] hps rfl (i_range2 (by rfl) m_range (d_consA d_int (d_consA (d_callB call_lenA up_len (by rfl) m_len PySem.boot_len (d_consA (dv 2) d_nilA)) d_nilA))) (g_name (i := 3) sc_check_sets.nd rfl (.inl rfl) (hp 3 rfl))
      (x_one (x_if (d_cmpT op_ge up_cmp (nomark _) (d_ix (dv 2) (d_op op_sub up_int0 (dv 3) d_int)) (d_ix (dv 2) (dv 3)))
      (x_one (x_raise (by rfl) tk (L2N.pmk_own PySem.F.excBase_ValueError ER.q_InvalidBook ER.g_InvalidBook ER.e_InvalidBook.kp ER.e_InvalidBook.raises (by rfl))))
      x_nil)))))))) (fun ds R h => ?_)
  try rewrite [gIx_I]
  obtain ⟨w, xss, rfl, ht, q1, q2⟩ := h
  refine ⟨rfl, rfl, ?_⟩
  refine ⟨fun i L => L = [some (.int w), some (.tup (xss.map tupI)), none, none] ∧ ∀ xs ∈ xss.take i, ColsW w xs, ⟨rfl, fun x h => by simp at h⟩, ?_, ?_⟩
  · rintro i d L hd ⟨rfl, hp⟩
    rw [List.getElem?_map, Option.map_eq_some_iff] at hd
    obtain ⟨xs, hx, rfl⟩ := hd
    have hxm := List.mem_of_getElem? hx
    have hxl := ht.of hxm
    have hlm : (xs.map DL.D.int).length = xs.length := List.length_map ..
    refine ⟨w, xs, rfl, fun hin => ?_, fun hin => ?_⟩
    · refine ⟨rfl, ?_⟩
      refine ⟨⟨by decide, by decide, by omega, by omega⟩, fun j L => L = [some (.int w), some (.tup (xss.map tupI)), some (tupI xs), none] ∧ ∀ k a b, k < j → xs[k]? = some a → xs[k + 1]? = some b → a < b, ⟨rfl, fun k a b h => by omega⟩, ?_, ?_⟩
      · rintro j d L hd ⟨rfl, ha⟩
        obtain ⟨rfl, hi⟩ := rng_get hd
        have hi1 : j + 1 < xs.length := by omega
        obtain ⟨a, ea⟩ : ∃ a, xs[j]? = some a := ⟨_, List.getElem?_eq_getElem (by omega)⟩
        obtain ⟨b, eb⟩ : ∃ b, xs[j + 1]? = some b := ⟨_, List.getElem?_eq_getElem hi1⟩
        refine ixT (d := .int a) (atI_nat' (j := j) (by omega) (by rw [List.getElem?_map, ea]; rfl)) ?_
        refine ixT (d := .int b) (atI_nat' (j := j + 1) (by omega) (by rw [List.getElem?_map, eb]; rfl)) ?_
        refine dec2 (fun z => ?_) (fun z => ?_)
        · exact q2 fun h => by
            have := List.pairwise_iff_getElem.mp (h xs hxm).1 j (j + 1) (by omega) hi1 (by omega)
            rw [(List.getElem?_eq_some_iff.mp ea).2, (List.getElem?_eq_some_iff.mp eb).2] at this
            omega
        · refine ⟨rfl, fun k a' b' hj h1 h2 => ?_⟩
          by_cases e : k < j
          · exact ha k a' b' e h1 h2
          · have e : k = j := by omega
            subst e
            rw [ea] at h1
            rw [eb] at h2
            cases h1
            cases h2
            omega
      · rintro L ⟨rfl, ha⟩
        rw [rng_length] at ha
        refine ⟨rfl, fun y hy => ?_⟩
        rw [take_step hx] at hy
        rcases List.mem_append.mp hy with hy | hy
        · exact hp y hy
        · rw [List.mem_singleton.mp hy]
          refine ⟨asc_cols fun i a b h1 h2 => ha i a b ?_ h1 h2, hin⟩
          have := (List.getElem?_eq_some_iff.mp h2).1
          omega
    · exact q2 fun h => hin (h xs hxm).2
  · rintro L ⟨rfl, hp⟩
    rw [List.length_map, List.take_length] at hp
    exact q1 hp
def sp_check_chosen_columns (er : Er) : SpD := fun ds R => ∃ (w : Int) (xs : List Int), ds = [.int w, tupI xs] ∧ xs.length ≤ 4000 ∧ Told (ChosenR w xs) R (errB er) [.int w, tupI xs]
theorem ok_check_chosen_columns {f : Addr} {fd : FuncData} (F0 : Df K mg "check_chosen_columns" p_check_chosen_columns ["width", "columns"] f fd)
    {er : Er} (ER : ErOk P K mg er)
    {f_check_columns_there : Addr} {fd_check_columns_there : FuncData} (D_check_columns_there : Df K mg "check_columns_there" p_check_columns_there ["width", "columns"] f_check_columns_there fd_check_columns_there)
    (G_check_columns_there : FnOk P w K mg base (L2N.CX P w) 1 f_check_columns_there fd_check_columns_there ["width", "columns"] (lowFX K (sp_check_columns_there er)))
    (m_len : mg "len" = none)
    (m_set : mg "set" = none) :
    FnOk P w K mg base (L2N.CX P w) 2 f fd ["width", "columns"] (lowFX K (sp_check_chosen_columns er)) := by
  refine ok_ofX F0.F sc_check_chosen_columns [] (by decide) (fun cdv A outer s H pn E hr hp tk hps => (x_seq (x_if (d_not (d_tru (dv 1)))
      (x_one (x_raise (by rfl) tk (L2N.pmk_own PySem.F.excBase_ValueError ER.q_InvalidBook ER.g_InvalidBook ER.e_InvalidBook.kp ER.e_InvalidBook.raises (by rfl))))
      x_nil)
      (x_seq (x_exp (x_fz (x_callX G_check_columns_there tk (hr.mono (by decide)) (by rfl) D_check_columns_there.g D_check_columns_there.F.kp D_check_columns_there.b (xr_of (r_e (dv 0) (r_e (dv 1) r_nil))))))
      (x_one (x_if (d_cmpT (op_neAll (u64 hr)) up_ne (nomark _) (d_lenTup (by rfl) (by rfl) m_len (by rfl) m_set (dv 1)) (d_callB call_lenA up_len (by rfl) m_len PySem.boot_len (d_consA (dv 1) d_nilA)))
      (x_one (x_raise (by rfl) tk (L2N.pmk_own PySem.F.excBase_ValueError ER.q_InvalidBook ER.g_InvalidBook ER.e_InvalidBook.kp ER.e_InvalidBook.raises (by rfl))))
      x_nil))))) (fun ds R h => ?_)
  try rewrite [gNe_I]
  obtain ⟨w, xs, rfl, hl, q1, q2⟩ := h
  refine ⟨rfl, rfl, ?_⟩
  refine cond2 (fun z => ?_) (fun z => ?_)
  · exact q2 fun h => h.1 (by
      have z : (!(!(xs.map DL.D.int).isEmpty)) = true := z
      cases xs with
      | nil => rfl
      | cons a r => cases z)
  · have hne : xs ≠ [] := fun e => by subst e; cases z
    refine ⟨w, xs, rfl, fun hin => ?_, fun hin => q2 fun h => hin h.2.1⟩
    refine ⟨rfl, ?_⟩
    refine ⟨xs, rfl, hl, fun M nd hM => ?_⟩
    refine eqB ?_
    have hlm : (xs.map DL.D.int).length = xs.length := List.length_map ..
    refine ndec2 (c := ((M.length : Nat) : Int) = ((xs.map DL.D.int).length : Int)) (fun z => ?_) (fun z => ?_)
    · rw [hlm] at z
      exact q2 fun h => z ((nodup_count nd hM).mpr h.2.2)
    · rw [hlm] at z
      exact q1 ⟨hne, hin, (nodup_count nd hM).mp z⟩
def sp_check_parts (er : Er) : SpD := fun ds R => ∃ (w : Int) (ps : List (List Int)), ds = [.int w, .tup (ps.map tupI)] ∧ Tot ps ∧ Told (PartsR w ps) R (errB er) [.int w, .tup (ps.map tupI)]
theorem ok_check_parts {f : Addr} {fd : FuncData} (F0 : Df K mg "check_parts" p_check_parts ["width", "parts"] f fd)
    {er : Er} (ER : ErOk P K mg er)
    {f_check_sets : Addr} {fd_check_sets : FuncData} (D_check_sets : Df K mg "check_sets" p_check_sets ["width", "sets"] f_check_sets fd_check_sets)
    (G_check_sets : FnOk P w K mg base (L2N.CX P w) 2 f_check_sets fd_check_sets ["width", "sets"] (lowFX K (sp_check_sets er)))
    (m_len : mg "len" = none) :
    FnOk P w K mg base (L2N.CX P w) 3 f fd ["width", "parts"] (lowFX K (sp_check_parts er)) := by
  refine ok_ofX F0.F sc_check_parts [] (by decide) (fun cdv A outer s H pn E hr hp tk hps => (x_seq (x_if (d_not (d_tru (dv 1)))
      (x_one (x_raise (by rfl) tk (L2N.pmk_own PySem.F.excBase_ValueError ER.q_InvalidBook ER.g_InvalidBook ER.e_InvalidBook.kp ER.e_InvalidBook.raises (by rfl))))
      x_nil)
      (x_seq (x_for [2] hps rfl (i_seq (dv 1)) (g_name (i := 2) sc_check_parts.nd rfl (.inl rfl) (hp 2 rfl))
      (x_one (x_if (d_not (d_tru (dv 2)))
      (x_one (x_raise (by rfl) tk (L2N.pmk_own PySem.F.excBase_ValueError ER.q_InvalidBook ER.g_InvalidBook ER.e_InvalidBook.kp ER.e_InvalidBook.raises (by rfl))))
      x_nil)))
      (x_seq (x_exp (x_fz (x_callX G_check_sets tk (hr.mono (by decide)) (by rfl) D_check_sets.g D_check_sets.F.kp D_check_sets.b (xr_of (r_e (dv 0) (r_e (dv 1) r_nil))))))
      (x_one (x_if (d_cmpT (op_neAll (u64 hr)) up_ne (nomark _) (d_lenSc2 (own := [("part", 2), ("column", 3)]) 2 3 (by rfl) (by rfl) m_len sc_check_parts.nd (dv 1) (blkOk_by (N := n_check_parts) (sc := defScope p_check_parts) (by decide +kernel)) (by decide) (by decide) (fun _ _ _ _ _ => (pg_name sc_check_parts.nd rfl (Or.inl rfl))) (fun _ _ _ _ _ => (pe_var rfl (Or.inl rfl))) (fun _ _ _ _ _ => (pg_name sc_check_parts.nd rfl (Or.inl rfl))) (fun _ _ _ _ _ => (pe_var rfl (Or.inl rfl)))) (dv 0))
      (x_one (x_raise (by rfl) tk (L2N.pmk_own PySem.F.excBase_ValueError ER.q_InvalidBook ER.g_InvalidBook ER.e_InvalidBook.kp ER.e_InvalidBook.raises (by rfl))))
      x_nil)))))) (fun ds R h => ?_)
  try rewrite [gNe_I]
  obtain ⟨w, ps, rfl, ht, q1, q2⟩ := h
  refine ⟨rfl, rfl, ?_⟩
  refine cond2 (fun z => ?_) (fun z => ?_)
  · exact q2 fun h => h.ne (by
      have z : (!(!(ps.map tupI).isEmpty)) = true := z
      cases ps with
      | nil => rfl
      | cons a r => cases z)
  · have hne : ps ≠ [] := fun e => by subst e; cases z
    refine ⟨fun i L => L = [some (.int w), some (.tup (ps.map tupI)), none, none] ∧ ∀ p ∈ ps.take i, p ≠ [], ⟨rfl, fun x h => by simp at h⟩, ?_, ?_⟩
    · rintro i d L hd ⟨rfl, hp⟩
      rw [List.getElem?_map, Option.map_eq_some_iff] at hd
      obtain ⟨p, hpi, rfl⟩ := hd
      refine cond2 (fun z => ?_) (fun z => ?_)
      · exact q2 fun h => h.full p (List.mem_of_getElem? hpi) (by
          have z : (!(!(p.map DL.D.int).isEmpty)) = true := z
          cases p with
          | nil => rfl
          | cons a r => cases z)
      · refine ⟨rfl, fun x hx => ?_⟩
        rw [take_step hpi] at hx
        rcases List.mem_append.mp hx with hx | hx
        · exact hp x hx
        · rw [List.mem_singleton.mp hx]
          intro e
          subst e
          cases z
    · rintro L ⟨rfl, hp⟩
      rw [List.length_map, List.take_length] at hp
      refine ⟨w, ps, rfl, ht, fun hok => ?_, fun hok => q2 fun h => hok h.ok⟩
      refine ⟨rfl, ?_⟩
      refine nxL [some (.int w), some (.tup (ps.map tupI)), none, none] rfl ?_
      refine ⟨by show 2 < 4; decide, by show 3 < 4; decide, ps, rfl, ht, fun M nd hM => ?_⟩
      refine eqB ?_
      refine ndec2 (c := ((M.length : Nat) : Int) = w) (fun z => ?_) (fun z => ?_)
      · exact q2 fun h => z ((count_all hne hp hok nd hM).mpr h.all)
      · exact q1 ⟨hne, hp, hok, (count_all hne hp hok nd hM).mp z⟩
end

end LW

namespace LW
open PySem PySem.Spec PyProof.Rows L2 DL

def Wd (ws : List Int) (t w : Int) : Prop := 0 ≤ t ∧ ws[t.toNat]? = some w
theorem Wd.lt {ws : List Int} {t w : Int} (h : Wd ws t w) : 0 ≤ t ∧ t < (ws.length : Int) := by
  have := (List.getElem?_eq_some_iff.mp h.2).1
  have := h.1
  omega
theorem Wd.un {ws : List Int} {t w w' : Int} (h : Wd ws t w) (h' : Wd ws t w') : w = w' := by
  have := h.2
  rw [h'.2] at this
  cases this
  rfl
structure IncR (ws : List Int) (t : Int) (cs : List Int) (o : Int) (os : List Int) : Prop where
  left : ∃ w, Wd ws t w ∧ ChosenR w cs
  right : ∃ w, Wd ws o w ∧ ChosenR w os
  ne : t ≠ o
  len : cs.length = os.length
/-- a dependency is right by itself -/
def Dp.R (ws : List Int) : Dp → Prop
  | .set _ t l r => ∃ w, Wd ws t w ∧ SetsR w [l, r]
  | .joins t ps => ∃ w, Wd ws t w ∧ PartsR w ps
  | .inc t cs o os => IncR ws t cs o os
def Dp.Few : Dp → Prop
  | .set _ _ l r => Tot [l, r]
  | .joins _ ps => Tot ps
  | .inc _ cs _ os => cs.length ≤ 4000 ∧ os.length ≤ 4000
section
variable {P : Program} {w : World} {K : PySem.W.Frag} {mg : Str → Option Value} {base : Heap}

def sp_check_inclusion (er : Er) : SpD := fun ds R => ∃ (ws : List Int) (t : Int) (cs : List Int) (o : Int) (os : List Int), ds = [tupI ws, (Dp.inc t cs o os).d] ∧ cs.length ≤ 4000 ∧ os.length ≤ 4000 ∧ Told (IncR ws t cs o os) R (errB er) [tupI ws, (Dp.inc t cs o os).d]
theorem ok_check_inclusion {f : Addr} {fd : FuncData} (F0 : Df K mg "check_inclusion" p_check_inclusion ["scheme", "dependency"] f fd)
    {er : Er} (ER : ErOk P K mg er)
    {f_check_chosen_columns : Addr} {fd_check_chosen_columns : FuncData} (D_check_chosen_columns : Df K mg "check_chosen_columns" p_check_chosen_columns ["width", "columns"] f_check_chosen_columns fd_check_chosen_columns)
    (G_check_chosen_columns : FnOk P w K mg base (L2N.CX P w) 2 f_check_chosen_columns fd_check_chosen_columns ["width", "columns"] (lowFX K (sp_check_chosen_columns er)))
    {f_table_width : Addr} {fd_table_width : FuncData} (D_table_width : Df K mg "table_width" p_table_width ["scheme", "table"] f_table_width fd_table_width)
    (G_table_width : FnOk P w K mg base (L2N.CX P w) 1 f_table_width fd_table_width ["scheme", "table"] (lowFX K (sp_table_width er)))
    (m_len : mg "len" = none) :
    FnOk P w K mg base (L2N.CX P w) 3 f fd ["scheme", "dependency"] (lowFX K (sp_check_inclusion er)) := by
  refine ok_ofX F0.F sc_check_inclusion [] (by decide) (fun cdv A outer s H pn E hr hp tk hps => (x_seq (x_s (d_asg (dv 1) (g_tup (n := 5) rfl (g_conss (g_name (i := 2) sc_check_inclusion.nd rfl (.inl rfl) (hp 2 rfl)) (g_conss (g_name (i := 3) sc_check_inclusion.nd rfl (.inl rfl) (hp 3 rfl)) (g_conss (g_name (i := 4) sc_check_inclusion.nd rfl (.inl rfl) (hp 4 rfl)) (g_conss (g_name (i := 5) sc_check_inclusion.nd rfl (.inl rfl) (hp 5 rfl)) (g_conss (g_name (i := 6) sc_check_inclusion.nd rfl (.inl rfl) (hp 6 rfl)) g_nils))))))))
      (x_seq (x_exp (x_fz (x_callX G_check_chosen_columns tk (hr.mono (by decide)) (by rfl) D_check_chosen_columns.g D_check_chosen_columns.F.kp D_check_chosen_columns.b (xr_e (x_fz (x_callX G_table_width tk (hr.mono (by decide)) (by rfl) D_table_width.g D_table_width.F.kp D_table_width.b (xr_of (r_e (dv 0) (r_e (dv 3) r_nil))))) (xr_e (x_e (dv 4)) (xr_of r_nil))))))
      (x_seq (x_exp (x_fz (x_callX G_check_chosen_columns tk (hr.mono (by decide)) (by rfl) D_check_chosen_columns.g D_check_chosen_columns.F.kp D_check_chosen_columns.b (xr_e (x_fz (x_callX G_table_width tk (hr.mono (by decide)) (by rfl) D_table_width.g D_table_width.F.kp D_table_width.b (xr_of (r_e (dv 0) (r_e (dv 5) r_nil))))) (xr_e (x_e (dv 6)) (xr_of r_nil))))))
      (x_seq (x_if (d_cmpT (op_eqAll (u64 hr)) up_eq (nomark _) (dv 3) (dv 5))
      (x_one (x_raise (by rfl) tk (L2N.pmk_own PySem.F.excBase_ValueError ER.q_InvalidBook ER.g_InvalidBook ER.e_InvalidBook.kp ER.e_InvalidBook.raises (by rfl))))
      x_nil)
      (x_one (x_if (d_cmpT (op_neAll (u64 hr)) up_ne (nomark _) (d_callB call_lenA up_len (by rfl) m_len PySem.boot_len (d_consA (dv 4) d_nilA)) (d_callB call_lenA up_len (by rfl) m_len PySem.boot_len (d_consA (dv 6) d_nilA)))
      (x_one (x_raise (by rfl) tk (L2N.pmk_own PySem.F.excBase_ValueError ER.q_InvalidBook ER.g_InvalidBook ER.e_InvalidBook.kp ER.e_InvalidBook.raises (by rfl))))
      x_nil))))))) (fun ds R h => ?_)
  try rewrite [gEq_I]
  try rewrite [gNe_I]
  obtain ⟨ws, t, cs, o, os, rfl, hc, ho, q1, q2⟩ := h
  refine ⟨rfl, rfl, ?_⟩
  refine ⟨rfl, ?_⟩
  have hcm : (cs.map DL.D.int).length = cs.length := List.length_map ..
  have hom : (os.map DL.D.int).length = os.length := List.length_map ..
  refine ⟨ws, t, rfl, fun w t0 hw => ?_, fun hn => q2 fun h => hn (let ⟨_, h, _⟩ := h.left; h.lt)⟩
  refine ⟨rfl, ?_⟩
  refine ⟨w, cs, rfl, hc, fun h1 => ?_, fun h1 => q2 fun h => h1 (by
    obtain ⟨w', a, b⟩ := h.left
    rw [Wd.un ⟨t0, hw⟩ a]; exact b)⟩
  refine ⟨rfl, ?_⟩
  refine nxL [some (tupI ws), some (Dp.inc t cs o os).d, some (.str "within"), some (.int t), some (tupI cs), some (.int o), some (tupI os)] rfl ?_
  refine ⟨ws, o, rfl, fun w' o0 hw' => ?_, fun hn => q2 fun h => hn (let ⟨_, h, _⟩ := h.right; h.lt)⟩
  refine ⟨rfl, ?_⟩
  refine ⟨w', os, rfl, ho, fun h2 => ?_, fun h2 => q2 fun h => h2 (by
    obtain ⟨w', a, b⟩ := h.right
    rw [Wd.un ⟨o0, hw'⟩ a]; exact b)⟩
  refine ⟨rfl, ?_⟩
  refine nxL [some (tupI ws), some (Dp.inc t cs o os).d, some (.str "within"), some (.int t), some (tupI cs), some (.int o), some (tupI os)] rfl ?_
  refine eqB ?_
  refine dec2 (c := t = o) (fun z => q2 fun h => h.ne z) (fun z => ?_)
  refine eqB ?_
  refine ndec2 (c := ((cs.map DL.D.int).length : Int) = ((os.map DL.D.int).length : Int)) (fun z2 => ?_) (fun z2 => ?_)
  · rw [hcm, hom] at z2
    exact q2 fun h => z2 (by rw [h.len])
  · rw [hcm, hom] at z2
    exact q1 ⟨⟨w, ⟨t0, hw⟩, h1⟩, ⟨w', ⟨o0, hw'⟩, h2⟩, z, by omega⟩
def sp_check_dependency (er : Er) : SpD := fun ds R => ∃ (ws : List Int) (s : Dp), ds = [tupI ws, s.d] ∧ s.Few ∧ Told (s.R ws) R (errB er) [tupI ws, s.d]
theorem ok_check_dependency {f : Addr} {fd : FuncData} (F0 : Df K mg "check_dependency" p_check_dependency ["scheme", "dependency"] f fd)
    {er : Er} (ER : ErOk P K mg er)
    {f_check_sets : Addr} {fd_check_sets : FuncData} (D_check_sets : Df K mg "check_sets" p_check_sets ["width", "sets"] f_check_sets fd_check_sets)
    (G_check_sets : FnOk P w K mg base (L2N.CX P w) 2 f_check_sets fd_check_sets ["width", "sets"] (lowFX K (sp_check_sets er)))
    {f_table_width : Addr} {fd_table_width : FuncData} (D_table_width : Df K mg "table_width" p_table_width ["scheme", "table"] f_table_width fd_table_width)
    (G_table_width : FnOk P w K mg base (L2N.CX P w) 1 f_table_width fd_table_width ["scheme", "table"] (lowFX K (sp_table_width er)))
    {f_check_parts : Addr} {fd_check_parts : FuncData} (D_check_parts : Df K mg "check_parts" p_check_parts ["width", "parts"] f_check_parts fd_check_parts)
    (G_check_parts : FnOk P w K mg base (L2N.CX P w) 3 f_check_parts fd_check_parts ["width", "parts"] (lowFX K (sp_check_parts er)))
    {f_check_inclusion : Addr} {fd_check_inclusion : FuncData} (D_check_inclusion : Df K mg "check_inclusion" p_check_inclusion ["scheme", "dependency"] f_check_inclusion fd_check_inclusion)
    (G_check_inclusion : FnOk P w K mg base (L2N.CX P w) 3 f_check_inclusion fd_check_inclusion ["scheme", "dependency"] (lowFX K (sp_check_inclusion er))) :
    FnOk P w K mg base (L2N.CX P w) 4 f fd ["scheme", "dependency"] (lowFX K (sp_check_dependency er)) := by
  refine ok_ofX F0.F sc_check_dependency [] (by decide) (fun cdv A outer s H pn E hr hp tk hps => (x_seq (x_s (d_set (i := 2) sc_check_dependency.nd rfl (.inl rfl) (hp 2 rfl) (d_ix (dv 1) d_int)))
      (x_one (x_if (PW.pt (d_or (d_cmpT (op_eqAll (u64 hr)) up_eq (nomark _) (dv 2) d_str) (d_or1 (d_cmpT (op_eqAll (u64 hr)) up_eq (nomark _) (dv 2) d_str))))
      (x_seq (x_s (d_asg (dv 1) (g_tup (n := 4) rfl (g_conss (g_name (i := 3) sc_check_dependency.nd rfl (.inl rfl) (hp 3 rfl)) (g_conss (g_name (i := 4) sc_check_dependency.nd rfl (.inl rfl) (hp 4 rfl)) (g_conss (g_name (i := 5) sc_check_dependency.nd rfl (.inl rfl) (hp 5 rfl)) (g_conss (g_name (i := 6) sc_check_dependency.nd rfl (.inl rfl) (hp 6 rfl)) g_nils)))))))
      (x_one (x_exp (x_fz (x_callX G_check_sets tk (hr.mono (by decide)) (by rfl) D_check_sets.g D_check_sets.F.kp D_check_sets.b (xr_e (x_fz (x_callX G_table_width tk (hr.mono (by decide)) (by rfl) D_table_width.g D_table_width.F.kp D_table_width.b (xr_of (r_e (dv 0) (r_e (dv 4) r_nil))))) (xr_e (x_e (d_tup (d_consA (dv 5) (d_consA (dv 6) d_nilA)))) (xr_of r_nil))))))))
      (x_one (x_if (d_cmpT (op_eqAll (u64 hr)) up_eq (nomark _) (dv 2) d_str)
      (x_seq (x_s (d_asg (dv 1) (g_tup (n := 3) rfl (g_conss (g_name (i := 3) sc_check_dependency.nd rfl (.inl rfl) (hp 3 rfl)) (g_conss (g_name (i := 4) sc_check_dependency.nd rfl (.inl rfl) (hp 4 rfl)) (g_conss (g_name (i := 7) sc_check_dependency.nd rfl (.inl rfl) (hp 7 rfl)) g_nils))))))
      (x_one (x_exp (x_fz (x_callX G_check_parts tk (hr.mono (by decide)) (by rfl) D_check_parts.g D_check_parts.F.kp D_check_parts.b (xr_e (x_fz (x_callX G_table_width tk (hr.mono (by decide)) (by rfl) D_table_width.g D_table_width.F.kp D_table_width.b (xr_of (r_e (dv 0) (r_e (dv 4) r_nil))))) (xr_e (x_e (dv 7)) (xr_of r_nil))))))))
      (x_one (x_if (d_cmpT (op_eqAll (u64 hr)) up_eq (nomark _) (dv 2) d_str)
      (x_one (x_exp (x_fz (x_callX G_check_inclusion tk (hr.mono (by decide)) (by rfl) D_check_inclusion.g D_check_inclusion.F.kp D_check_inclusion.b (xr_of (r_e (dv 0) (r_e (dv 1) r_nil)))))))
      (x_one (x_raise (by rfl) tk (L2N.pmk_own PySem.F.excBase_ValueError ER.q_InvalidBook ER.g_InvalidBook ER.e_InvalidBook.kp ER.e_InvalidBook.raises (by rfl)))))))))))) (fun ds R h => ?_)
  try rewrite [gIx_I]
  try rewrite [gEq_I]
  obtain ⟨ws, s, rfl, hf, q1, q2⟩ := h
  cases s with
  | set b t l r =>
    refine ⟨rfl, rfl, ?_⟩
    refine ixT (d := .str (setK b)) (atI_nat' (j := 0) rfl rfl) ?_
    cases b
    · refine eqB ?_
      refine ⟨rfl, ?_⟩
      refine ⟨ws, t, rfl, fun w t0 hw => ?_, fun hn => q2 fun h => hn (let ⟨_, h, _⟩ := h; h.lt)⟩
      refine ⟨rfl, by (first | decide | (exact small_le (by simp only [List.length_cons, List.length_nil]; omega)) | (simp; done) | (simp only [List.length_cons, List.length_nil]; omega)), ?_⟩
      refine ⟨w, [l, r], rfl, hf, fun h1 => ⟨rfl, q1 ⟨w, ⟨t0, hw⟩, h1⟩⟩, fun h1 => q2 fun h => h1 (by
        obtain ⟨w', a, b⟩ := h
        rw [Wd.un ⟨t0, hw⟩ a]; exact b)⟩
    · refine eqB (eqB ?_)
      refine ⟨rfl, ?_⟩
      refine ⟨ws, t, rfl, fun w t0 hw => ?_, fun hn => q2 fun h => hn (let ⟨_, h, _⟩ := h; h.lt)⟩
      refine ⟨rfl, by (first | decide | (exact small_le (by simp only [List.length_cons, List.length_nil]; omega)) | (simp; done) | (simp only [List.length_cons, List.length_nil]; omega)), ?_⟩
      refine ⟨w, [l, r], rfl, hf, fun h1 => ⟨rfl, q1 ⟨w, ⟨t0, hw⟩, h1⟩⟩, fun h1 => q2 fun h => h1 (by
        obtain ⟨w', a, b⟩ := h
        rw [Wd.un ⟨t0, hw⟩ a]; exact b)⟩
  | joins t ps =>
    refine ⟨rfl, rfl, ?_⟩
    refine ixT (d := .str "joins") (atI_nat' (j := 0) rfl rfl) ?_
    refine eqB (eqB (eqB ?_))
    refine ⟨rfl, ?_⟩
    refine ⟨ws, t, rfl, fun w t0 hw => ?_, fun hn => q2 fun h => hn (let ⟨_, h, _⟩ := h; h.lt)⟩
    refine ⟨rfl, ?_⟩
    refine ⟨w, ps, rfl, hf, fun h1 => ⟨rfl, q1 ⟨w, ⟨t0, hw⟩, h1⟩⟩, fun h1 => q2 fun h => h1 (by
      obtain ⟨w', a, b⟩ := h
      rw [Wd.un ⟨t0, hw⟩ a]; exact b)⟩
  | inc t cs o os =>
    refine ⟨rfl, rfl, ?_⟩
    refine ixT (d := .str "within") (atI_nat' (j := 0) rfl rfl) ?_
    refine eqB (eqB (eqB (eqB ?_)))
    refine ⟨ws, t, cs, o, os, rfl, hf.1, hf.2, fun h1 => ⟨rfl, q1 h1⟩, fun h1 => q2 h1⟩
end

end LW

/-! Rings of edges, and how they are found by leaving out what nothing leads to. -/
namespace RG
/-! ### lists of pairs, asked and put to -/
def gA {α : Type} : List (Int × α) → Int → Option α
  | [], _ => none
  | (a, x) :: r, k => if a = k then some x else gA r k
def sA {α : Type} (es : List (Int × α)) (k : Int) (x : α) : List (Int × α) := match gA es k with
  | some _ => es.map fun e => if e.1 = k then (e.1, x) else e
  | none => es ++ [(k, x)]
theorem gA_app {α : Type} {k : Int} {x : α} : ∀ {es : List (Int × α)} {j : Int}, gA es k = none → gA (es ++ [(k, x)]) j = if j = k then some x else gA es j
  | [], j, _ => by
    show (if k = j then some x else none) = _
    by_cases e : j = k
    · rw [if_pos e, if_pos e.symm]
    · rw [if_neg e, if_neg fun h => e h.symm]; rfl
  | (a, y) :: r, j, h => by
    unfold gA at h
    split at h
    · cases h
    · next ha =>
      show (if a = j then some y else gA (r ++ [(k, x)]) j) = if j = k then some x else if a = j then some y else gA r j
      rw [gA_app h]
      by_cases e : j = k
      · rw [if_pos e, if_pos e, if_neg fun h => ha (h.trans e)]
      · rw [if_neg e, if_neg e]
theorem gA_map {α : Type} {k : Int} {x : α} : ∀ {es : List (Int × α)} {j : Int} {y : α}, gA es k = some y → gA (es.map fun e => if e.1 = k then (e.1, x) else e) j = if j = k then some x else gA es j := by
  have aux : ∀ {es : List (Int × α)} {j : Int}, gA (es.map fun e => if e.1 = k then (e.1, x) else e) j = if j = k then (gA es j).map fun _ => x else gA es j := by
    intro es
    induction es with
    | nil => intro j; by_cases e : j = k <;> simp [gA, e]
    | cons p r ih =>
      intro j
      obtain ⟨a, z⟩ := p
      rw [List.map_cons]
      show gA ((if a = k then (a, x) else (a, z)) :: _) j = _
      by_cases e : a = k
      · rw [if_pos e]
        show (if a = j then some x else gA _ j) = if j = k then (if a = j then some z else gA r j).map (fun _ => x) else if a = j then some z else gA r j
        rw [ih]
        by_cases ej : a = j
        · subst ej
          simp [e]
        · have : ¬ j = k := fun h => ej (e.trans h.symm)
          simp [ej, this]
      · rw [if_neg e]
        show (if a = j then some z else gA _ j) = if j = k then (if a = j then some z else gA r j).map (fun _ => x) else if a = j then some z else gA r j
        rw [ih]
        by_cases ej : a = j
        · subst ej
          simp [e]
        · simp [ej]
  intro es j y h
  rw [aux]
  by_cases e : j = k
  · rw [if_pos e, if_pos e, e, h]; rfl
  · rw [if_neg e, if_neg e]
theorem gA_sA {α : Type} (es : List (Int × α)) (k j : Int) (x : α) : gA (sA es k x) j = if j = k then some x else gA es j := by
  unfold sA
  split
  · next y h => exact gA_map h
  · next h => exact gA_app h
theorem len_sA {α : Type} (es : List (Int × α)) (k : Int) (x : α) : (sA es k x).length ≤ es.length + 1 := by
  unfold sA
  split
  · rw [List.length_map]; omega
  · rw [List.length_append]; exact Nat.le_refl _
theorem gA_none {α : Type} {k : Int} : ∀ {es : List (Int × α)}, gA es k = none ↔ k ∉ es.map Prod.fst
  | [] => by simp [gA]
  | (a, x) :: r => by
    show (if a = k then some x else gA r k) = none ↔ _
    by_cases e : a = k
    · subst e; simp
    · rw [if_neg e, gA_none]
      have : ¬ k = a := fun h => e h.symm
      simp [this]
/-- the place of a key -/
theorem gA_at {α : Type} {k : Int} {x : α} : ∀ {es : List (Int × α)}, gA es k = some x → ∃ n : Nat, es[n]? = some (k, x) ∧ ∀ m, m < n → (es.map Prod.fst)[m]? ≠ some k
  | [], h => by cases h
  | (a, y) :: r, h => by
    unfold gA at h
    split at h
    · next e => cases h; subst e; exact ⟨0, rfl, fun m hm => by omega⟩
    · next e =>
      obtain ⟨n, h1, h2⟩ := gA_at h
      refine ⟨n + 1, h1, fun m hm => ?_⟩
      cases m with
      | zero => intro h; exact e (Option.some.inj h)
      | succ m => exact h2 m (by omega)
theorem gA_set {α : Type} {k : Int} {x y : α} : ∀ {es : List (Int × α)} {n : Nat} {j : Int}, es[n]? = some (k, x) → (∀ m, m < n → (es.map Prod.fst)[m]? ≠ some k) → gA (es.set n (k, y)) j = if j = k then some y else gA es j
  | [], n, j, h, _ => by simp at h
  | (a, z) :: r, 0, j, h, _ => by
    cases h
    show (if k = j then some y else gA r j) = if j = k then some y else if k = j then some x else gA r j
    by_cases e : j = k
    · rw [if_pos e, if_pos e.symm]
    · rw [if_neg e, if_neg fun h => e h.symm, if_neg fun h => e h.symm]
  | (a, z) :: r, n + 1, j, h, g => by
    have ha : ¬ a = k := fun e => g 0 (by omega) (by rw [← e]; rfl)
    show (if a = j then some z else gA (r.set n (k, y)) j) = if j = k then some y else if a = j then some z else gA r j
    rw [gA_set (es := r) (n := n) h fun m hm => g (m + 1) (by omega)]
    by_cases e : j = k
    · rw [if_pos e, if_pos e, if_neg fun h => ha (h.trans e)]
    · rw [if_neg e, if_neg e]
theorem keys_set {α : Type} {es : List (Int × α)} {n : Nat} {k : Int} {x y : α} (h : es[n]? = some (k, x)) : (es.set n (k, y)).map Prod.fst = es.map Prod.fst := by
  rw [List.map_set]
  apply List.ext_getElem?
  intro i
  rw [List.getElem?_set]
  by_cases c : n = i
  · subst c
    rw [if_pos rfl, if_pos (by rw [List.length_map]; exact (List.getElem?_eq_some_iff.mp h).1), List.getElem?_map, h]; rfl
  · rw [if_neg c]
/-- with the key, an empty list if it is new -/
def sd (es : List (Int × List Int)) (k : Int) : List (Int × List Int) := match gA es k with
  | some _ => es
  | none => es ++ [(k, [])]
theorem gA_sd (es : List (Int × List Int)) (k j : Int) : gA (sd es k) j = if j = k then some ((gA es k).getD []) else gA es j := by
  unfold sd
  split
  · next y h =>
    by_cases e : j = k
    · rw [if_pos e, e, h]; rfl
    · rw [if_neg e]
  · next h => rw [gA_app h, h]; rfl
theorem keys_sd (es : List (Int × List Int)) (k : Int) (nd : (es.map Prod.fst).Nodup) : ((sd es k).map Prod.fst).Nodup ∧ (∀ j, j ∈ (sd es k).map Prod.fst ↔ j ∈ es.map Prod.fst ∨ j = k) ∧ (sd es k).length ≤ es.length + 1 := by
  unfold sd
  split
  · next y h =>
    have hk : k ∈ es.map Prod.fst := Classical.byContradiction fun n => by rw [gA_none.mpr n] at h; cases h
    exact ⟨nd, fun j => ⟨.inl, fun z => z.elim id fun e => by rw [e]; exact hk⟩, Nat.le_succ _⟩
  · next h =>
    have hk := gA_none.mp h
    refine ⟨?_, fun j => by rw [List.map_append, List.mem_append]; simp, by rw [List.length_append]; exact Nat.le_refl _⟩
    rw [List.map_append]
    refine List.nodup_append.mpr ⟨nd, by simp, fun a ha b hb e => ?_⟩
    have hb : b = k := by simpa using hb
    exact hk (by rw [← hb, ← e]; exact ha)
/-! ### edges -/
abbrev Ed := List (Int × Int)
def outs (E : Ed) (k : Int) : List Int := (E.filter fun e => decide (e.1 = k)).map Prod.snd
def into (E : Ed) (k : Int) : Nat := E.countP fun e => decide (e.2 = k)
def rem (E : Ed) (done : List Int) (k : Int) : Nat := E.countP fun e => decide (e.2 = k ∧ e.1 ∉ done)
def Free (E : Ed) : Prop := ∃ rank : Int → Nat, ∀ e ∈ E, rank e.1 < rank e.2
theorem rem_nil (E : Ed) (k : Int) : rem E [] k = into E k := by unfold rem into; simp
theorem rem_zero {E : Ed} {done : List Int} {k : Int} : rem E done k = 0 ↔ ∀ e ∈ E, e.2 = k → e.1 ∈ done := by
  unfold rem
  rw [List.countP_eq_zero]
  constructor
  · intro h e he ek
    have := h e he
    simp only [decide_eq_true_eq, not_and, Classical.not_not] at this
    exact this ek
  · intro h e he
    simp only [decide_eq_true_eq, not_and, Classical.not_not]
    exact h e he
theorem rem_step {done : List Int} {t : Int} (ht : t ∉ done) (k : Int) : ∀ E : Ed, rem E done k = rem E (t :: done) k + (outs E t).count k
  | [] => rfl
  | e :: E => by
    have ih := rem_step ht k E
    unfold rem outs at ih ⊢
    rw [List.countP_cons, List.countP_cons]
    by_cases e1 : e.1 = t
    · have f : (e :: E).filter (fun e => decide (e.1 = t)) = e :: E.filter fun e => decide (e.1 = t) := List.filter_cons_of_pos (p := fun e : Int × Int => decide (e.1 = t)) (decide_eq_true e1)
      have a2 : decide (e.2 = k ∧ e.1 ∉ t :: done) = false := by simp [e1]
      rw [f, List.map_cons, List.count_cons, a2]
      by_cases e2 : e.2 = k
      · have a1 : decide (e.2 = k ∧ e.1 ∉ done) = true := decide_eq_true ⟨e2, by rw [e1]; exact ht⟩
        have a3 : (e.2 == k) = true := by simpa using e2
        rw [a1, a3]
        simp only [if_true, Bool.false_eq_true, if_false]
        omega
      · have a1 : decide (e.2 = k ∧ e.1 ∉ done) = false := decide_eq_false fun z => e2 z.1
        have a3 : (e.2 == k) = false := by simpa using e2
        rw [a1, a3]
        simp only [Bool.false_eq_true, if_false]
        omega
    · have f : (e :: E).filter (fun e => decide (e.1 = t)) = E.filter fun e => decide (e.1 = t) := List.filter_cons_of_neg (p := fun e : Int × Int => decide (e.1 = t)) (by simpa using e1)
      have a : (decide (e.2 = k ∧ e.1 ∉ done)) = decide (e.2 = k ∧ e.1 ∉ t :: done) := by
        congr 1
        simp [e1]
      rw [f, a]
      omega
theorem into_pos {E : Ed} {t o : Int} (h : o ∈ outs E t) : into E o ≠ 0 := by
  unfold outs at h
  obtain ⟨e, he, rfl⟩ := List.mem_map.mp h
  unfold into
  intro z
  rw [List.countP_eq_zero] at z
  exact z e (List.mem_filter.mp he).1 (by simp)
theorem outs_mem {E : Ed} {t o : Int} (h : o ∈ outs E t) : (t, o) ∈ E := by
  unfold outs at h
  obtain ⟨e, he, rfl⟩ := List.mem_map.mp h
  have := List.mem_filter.mp he
  have e1 : e.1 = t := of_decide_eq_true this.2
  rw [← e1]
  exact this.1
/-- in an order that the edges climb, the last first -/
def Good (E : Ed) : List Int → Prop
  | [] => True
  | v :: d => (∀ e ∈ E, e.2 = v → e.1 ∈ d) ∧ Good E d
def rk : List Int → Int → Nat
  | [], _ => 0
  | v :: d, k => if k = v then d.length + 1 else rk d k
theorem rk_le : ∀ (d : List Int) (k : Int), rk d k ≤ d.length
  | [], _ => Nat.le_refl _
  | v :: d, k => by
    unfold rk
    have := rk_le d k
    split <;> simp only [List.length_cons] <;> omega
theorem Good.pred {E : Ed} : ∀ {d : List Int}, Good E d → ∀ e ∈ E, e.2 ∈ d → e.1 ∈ d
  | v :: d, ⟨h1, h2⟩, e, he, hm => by
    rcases List.mem_cons.mp hm with z | z
    · exact List.mem_cons_of_mem _ (h1 e he z)
    · exact List.mem_cons_of_mem _ (h2.pred e he z)
theorem Good.rk {E : Ed} : ∀ {d : List Int}, Good E d → d.Nodup → ∀ e ∈ E, e.2 ∈ d → rk d e.1 < rk d e.2
  | v :: d, ⟨h1, h2⟩, nd, e, he, hm => by
    obtain ⟨n1, n2⟩ := List.nodup_cons.mp nd
    have ne : ∀ x, x ∈ d → ¬ x = v := fun x hx z => n1 (by rw [← z]; exact hx)
    show RG.rk (v :: d) e.1 < RG.rk (v :: d) e.2
    unfold RG.rk
    by_cases z : e.2 = v
    · have h := h1 e he z
      rw [if_pos z, if_neg (ne _ h)]
      have := rk_le d e.1
      omega
    · have hm : e.2 ∈ d := (List.mem_cons.mp hm).resolve_left z
      rw [if_neg z, if_neg (ne _ (h2.pred e he hm))]
      exact h2.rk n2 e he hm
theorem sub_lenI : ∀ {l m : List Int}, l.Nodup → (∀ x ∈ l, x ∈ m) → l.length ≤ m.length
  | [], m, _, _ => Nat.zero_le _
  | a :: l, m, nd, h => by
    obtain ⟨n1, n2⟩ := List.nodup_cons.mp nd
    have ha := h a (List.mem_cons_self ..)
    have := sub_lenI (l := l) (m := m.erase a) n2 fun x hx => (List.mem_erase_of_ne fun e => n1 (by rw [← e]; exact hx)).mpr (h x (List.mem_cons_of_mem _ hx))
    rw [List.length_erase_of_mem ha] at this
    have := List.length_pos_of_mem ha
    rw [List.length_cons]
    omega
/-- left out as many as there are: no ring; fewer: one -/
theorem told {E : Ed} {N done : List Int} (nN : N.Nodup) (hN : ∀ k, k ∈ N ↔ ∃ e ∈ E, e.1 = k ∨ e.2 = k) (nd : done.Nodup) (sub : ∀ k ∈ done, k ∈ N) (good : Good E done) (all : ∀ k ∈ N, rem E done k = 0 → k ∈ done) : done.length = N.length ↔ Free E := by
  constructor
  · intro e
    have cov : ∀ k ∈ N, k ∈ done := fun k hk => Classical.byContradiction fun n => by
      have := sub_lenI (l := k :: done) (m := N) (List.nodup_cons.mpr ⟨n, nd⟩) fun x hx => by
        rcases List.mem_cons.mp hx with rfl | hx
        · exact hk
        · exact sub x hx
      rw [List.length_cons] at this
      omega
    exact ⟨RG.rk done, fun e he => good.rk nd e he (cov _ ((hN _).mpr ⟨e, he, .inr rfl⟩))⟩
  · rintro ⟨rank, hr⟩
    have cov : ∀ (n : Nat) k, k ∈ N → rank k < n → k ∈ done := by
      intro n
      induction n with
      | zero => intro k _ h; omega
      | succ n ih =>
        intro k hk h
        refine all k hk (rem_zero.mpr fun e he ek => ih _ ((hN _).mpr ⟨e, he, .inl rfl⟩) ?_)
        have := hr e he
        rw [ek] at this
        omega
    have h1 := sub_lenI nN fun k hk => cov (rank k + 1) k hk (Nat.lt_succ_self _)
    have h2 := sub_lenI nd sub
    omega
/-! ### the two dicts, edge by edge -/
structure Ph (E : Ed) (tg : List (Int × List Int)) (src : List (Int × Int)) : Prop where
  nd : (tg.map Prod.fst).Nodup
  mem : ∀ k, k ∈ tg.map Prod.fst ↔ ∃ e ∈ E, e.1 = k ∨ e.2 = k
  out : ∀ k l, gA tg k = some l → l = outs E k
  cnt : ∀ k, gA src k = if into E k = 0 then none else some (into E k : Int)
  l1 : tg.length ≤ 2 * E.length
  l2 : src.length ≤ E.length
theorem Ph.nil : Ph [] [] [] := ⟨.nil, fun k => by simp, fun k l h => (by cases h), fun k => rfl, Nat.le_refl _, Nat.le_refl _⟩
theorem outs_app (E : Ed) (a b k : Int) : outs (E ++ [(a, b)]) k = if k = a then outs E k ++ [b] else outs E k := by
  unfold outs
  rw [List.filter_append, List.map_append]
  by_cases e : k = a
  · subst e; simp
  · have : ¬ a = k := fun h => e h.symm
    simp [e, this]
theorem into_app (E : Ed) (a b k : Int) : into (E ++ [(a, b)]) k = if k = b then into E k + 1 else into E k := by
  unfold into
  rw [List.countP_append]
  by_cases e : k = b
  · subst e; simp
  · have : ¬ b = k := fun h => e h.symm
    simp [e, this]
theorem Ph.step {E : Ed} {tg : List (Int × List Int)} {src : List (Int × Int)} (h : Ph E tg src) (a b : Int) {n : Nat} {l : List Int} (hn : (sd tg a)[n]? = some (a, l)) (hm : ∀ m, m < n → ((sd tg a).map Prod.fst)[m]? ≠ some a) :
    l = (gA tg a).getD [] ∧ Ph (E ++ [(a, b)]) (sd ((sd tg a).set n (a, l ++ [b])) b) (sA src b ((gA src b).getD 0 + 1)) := by
  obtain ⟨k1, k2, k3⟩ := keys_sd tg a h.nd
  have kk := keys_set (y := l ++ [b]) hn
  obtain ⟨j1, j2, j3⟩ := keys_sd ((sd tg a).set n (a, l ++ [b])) b (by rw [kk]; exact k1)
  have el : l = (gA tg a).getD [] := by
    have q := gA_sd tg a a
    rw [if_pos rfl] at q
    have q2 := gA_set (y := l) (j := a) hn hm
    rw [if_pos rfl] at q2
    have q3 : (sd tg a).set n (a, l) = sd tg a := by
      apply List.ext_getElem?
      intro i
      rw [List.getElem?_set]
      by_cases c : n = i
      · subst c
        rw [if_pos rfl, if_pos (List.getElem?_eq_some_iff.mp hn).1, hn]
      · rw [if_neg c]
    rw [q3, q] at q2
    exact (Option.some.inj q2).symm
  have ela : l = outs E a := by
    rw [el]
    cases e : gA tg a with
    | some l' => exact h.out a l' e
    | none =>
      have := gA_none.mp e
      rw [h.mem] at this
      unfold outs
      rw [List.filter_eq_nil_iff.mpr fun e he => by
        simp only [decide_eq_true_eq]
        exact fun z => this ⟨e, he, .inl z⟩]
      rfl
  refine ⟨el, j1, fun k => ?_, fun k l' hk => ?_, fun k => ?_, ?_, ?_⟩
  · rw [j2, kk, k2, h.mem]
    constructor
    · rintro ((⟨e, he, z⟩ | rfl) | rfl)
      · exact ⟨e, List.mem_append_left _ he, z⟩
      · exact ⟨(k, b), List.mem_append_right _ (List.mem_singleton.mpr rfl), .inl rfl⟩
      · exact ⟨(a, k), List.mem_append_right _ (List.mem_singleton.mpr rfl), .inr rfl⟩
    · rintro ⟨e, he, z⟩
      rcases List.mem_append.mp he with he | he
      · exact .inl (.inl ⟨e, he, z⟩)
      · rw [List.mem_singleton.mp he] at z
        exact z.elim (fun z => .inl (.inr z.symm)) fun z => .inr z.symm
  · rw [gA_sd, gA_set hn hm, gA_set hn hm, gA_sd, gA_sd] at hk
    rw [outs_app]
    have base : ∀ k', k' ≠ a → ∀ l', (gA tg k').getD [] = l' → l' = outs E k' := fun k' hk' l' e => by
      subst e
      cases e : gA tg k' with
      | some l' => exact h.out k' l' e
      | none =>
        have := gA_none.mp e
        rw [h.mem] at this
        unfold outs
        rw [List.filter_eq_nil_iff.mpr fun e he => by
          simp only [decide_eq_true_eq]
          exact fun z => this ⟨e, he, .inl z⟩]
        rfl
    by_cases e1 : k = a
    · subst e1
      rw [if_pos rfl, ← ela]
      by_cases e2 : k = b
      · subst e2
        rw [if_pos rfl, if_pos rfl] at hk
        exact (Option.some.inj hk).symm
      · rw [if_neg e2, if_pos rfl] at hk
        exact (Option.some.inj hk).symm
    · rw [if_neg e1]
      by_cases e2 : k = b
      · subst e2
        rw [if_pos rfl, if_neg e1, if_neg e1] at hk
        exact base k e1 l' (Option.some.inj hk)
      · rw [if_neg e2, if_neg e1, if_neg e1] at hk
        exact h.out k l' hk
  · rw [gA_sA, into_app, h.cnt, h.cnt]
    by_cases e : k = b
    · subst e
      rw [if_pos rfl, if_pos rfl, if_neg (show ¬ (into E k + 1 = 0) by omega)]
      congr 1
      split
      · next z => rw [z]; rfl
      · next z => show (into E k : Int) + 1 = _; omega
    · rw [if_neg e, if_neg e]
  · rw [List.length_append]
    rw [List.length_set] at j3
    have := h.l1
    show _ ≤ 2 * (E.length + 1)
    omega
  · have := len_sA src b ((gA src b).getD 0 + 1)
    have := h.l2
    rw [List.length_append]
    show _ ≤ E.length + 1
    omega
/-! ### leaving out -/
/-- behind the choice of t, j of its targets are done -/
structure Kn (E : Ed) (N : List Int) (src : List (Int × Int)) (free done : List Int) (p : List Int) : Prop where
  src : ∀ k, gA src k = if into E k = 0 then none else some ((rem E done k + (0 : Int)) + (p.count k : Int))
  nd : (free ++ done).Nodup
  sub : ∀ k, k ∈ free ∨ k ∈ done → k ∈ N
  zero : ∀ k ∈ N, (k ∈ free ∨ k ∈ done) ↔ rem E done k + p.count k = 0
  good : Good E done
theorem Kn.start {E : Ed} {N free : List Int} {src : List (Int × Int)} (hs : ∀ k, gA src k = if into E k = 0 then none else some (into E k : Int)) (nN : N.Nodup) (hf : free = N.filter fun k => decide (into E k = 0)) : Kn E N src free [] [] := by
  subst hf
  refine ⟨fun k => ?_, by rw [List.append_nil]; exact nN.filter _, fun k hk => ?_, fun k hk => ?_, trivial⟩
  · rw [hs, rem_nil]; simp
  · rcases hk with hk | hk
    · exact (List.mem_filter.mp hk).1
    · cases hk
  · rw [rem_nil, List.mem_filter, List.count_nil]
    simp [hk]
/-- the last of the free is taken -/
theorem Kn.take {E : Ed} {N free done : List Int} {src : List (Int × Int)} {t : Int} (h : Kn E N src (free ++ [t]) done []) : Kn E N src free (t :: done) (outs E t) := by
  have nd := h.nd
  have p : ((free ++ [t]) ++ done).Perm (free ++ t :: done) := by rw [List.append_assoc]; exact List.Perm.refl _
  have nd2 := p.nodup_iff.mp nd
  have ht : t ∉ done := fun z => (List.nodup_cons.mp ((List.nodup_append.mp nd2).2.1)).1 z
  have mm : ∀ k, (k ∈ free ∨ k ∈ t :: done) ↔ (k ∈ free ++ [t] ∨ k ∈ done) := fun k => by
    rw [List.mem_append, List.mem_cons, List.mem_singleton, or_assoc]
  have hz := h.zero t (h.sub t (.inl (by simp)))
  rw [List.count_nil, Nat.add_zero] at hz
  refine ⟨fun k => ?_, nd2, fun k hk => h.sub k ((mm k).mp hk), fun k hk => ?_, ⟨fun e he ek => rem_zero.mp (hz.mp (.inl (by simp))) e he ek, h.good⟩⟩
  · rw [h.src, rem_step ht k E, List.count_nil]
    congr 2
  · rw [mm, h.zero k hk, rem_step ht k E, List.count_nil, Nat.add_zero]
/-- one of its targets -/
theorem Kn.one {E : Ed} {N free done p : List Int} {src : List (Int × Int)} {o : Int} (h : Kn E N src free done (o :: p)) (ho : o ∈ N) (hi : into E o ≠ 0) : ∃ n : Int, gA src o = some n ∧ (n - 1 = 0 → Kn E N (sA src o (n - 1)) (free ++ [o]) done p) ∧ (n - 1 ≠ 0 → Kn E N (sA src o (n - 1)) free done p) := by
  have c1 : (o :: p).count o = p.count o + 1 := by rw [List.count_cons]; simp
  have c2 : ∀ k, k ≠ o → (o :: p).count k = p.count k := fun k hk => by
    rw [List.count_cons, if_neg (by simpa using fun e => hk e.symm)]; rfl
  have out := h.zero o ho
  rw [c1] at out
  have nfd : ¬ (o ∈ free ∨ o ∈ done) := fun z => by have := out.mp z; omega
  have hs := h.src o
  rw [if_neg hi, c1] at hs
  have src : ∀ n : Int, n = (rem E done o + (0 : Int)) + ((p.count o + 1 : Nat) : Int) → ∀ k, gA (sA src o (n - 1)) k = if into E k = 0 then none else some ((rem E done k + (0 : Int)) + (p.count k : Int)) := fun n en k => by
    rw [gA_sA]
    by_cases e : k = o
    · subst e
      rw [if_pos rfl, if_neg hi, en]
      congr 1
      omega
    · rw [if_neg e, h.src, c2 k e]
  refine ⟨_, hs, fun z => ⟨src _ rfl, ?_, fun k hk => ?_, fun k hk => ?_, h.good⟩, fun z => ⟨src _ rfl, h.nd, h.sub, fun k hk => ?_, h.good⟩⟩
  · have p1 : ((free ++ [o]) ++ done).Perm (o :: (free ++ done)) := by
      rw [List.append_assoc]
      exact List.perm_middle
    exact p1.nodup_iff.mpr (List.nodup_cons.mpr ⟨fun z => nfd (List.mem_append.mp z), h.nd⟩)
  · rw [List.mem_append, List.mem_singleton] at hk
    rcases hk with (hk | rfl) | hk
    · exact h.sub k (.inl hk)
    · exact ho
    · exact h.sub k (.inr hk)
  · rw [List.mem_append, List.mem_singleton]
    by_cases e : k = o
    · subst e
      exact ⟨fun _ => by omega, fun _ => .inl (.inr rfl)⟩
    · rw [← c2 k e, ← h.zero k hk]
      exact ⟨fun z => z.elim (fun z => z.elim .inl fun z => absurd z e) .inr, fun z => z.elim (fun z => .inl (.inl z)) .inr⟩
  · by_cases e : k = o
    · subst e
      exact ⟨fun z => absurd z nfd, fun w => absurd (by omega) z⟩
    · rw [← c2 k e]
      exact h.zero k hk
end RG

namespace LW
open PySem PySem.Spec PyProof.Rows L2 DL

open RG in
/-! ### the two dicts as values -/
abbrev kdD (e : Int × Int) : Key × DL.D := (.inl e.1, .int e.2)
abbrev klD (e : Int × List Int) : Key × DL.D := (.inl e.1, .ml (e.2.map .int))
abbrev kfD (e : Int × List Int) : Key × DL.D := (.inl e.1, .lst (e.2.map .int))
abbrev srcD (src : List (Int × Int)) : DL.D := .mK (src.map kdD)
abbrev tgD (tg : List (Int × List Int)) : DL.D := .mK (tg.map klD)
theorem dget_m {α : Type} (f : α → DL.D) (k : Int) : ∀ es : List (Int × α), dget (es.map fun e => ((.inl e.1 : Key), f e.2)) (.inl k) = (RG.gA es k).map f
  | [] => rfl
  | (a, x) :: r => by
    rw [List.map_cons]
    show (List.find? (fun kv => decide (kv.1 = (.inl k : Key))) (((.inl a : Key), f x) :: _)).map (·.2) = (if a = k then some x else RG.gA r k).map f
    by_cases e : a = k
    · subst e
      rw [if_pos rfl, List.find?_cons_of_pos (by simp)]; rfl
    · rw [if_neg e, List.find?_cons_of_neg (by simpa using e)]
      exact dget_m f k r
theorem any_m {α : Type} (f : α → DL.D) (k : Int) : ∀ es : List (Int × α), ((es.map fun e => ((.inl e.1 : Key), f e.2)).any fun e => decide (e.1 = (.inl k : Key))) = (RG.gA es k).isSome
  | [] => rfl
  | (a, x) :: r => by
    rw [List.map_cons, List.any_cons, any_m f k r]
    show (decide ((.inl a : Key) = .inl k) || _) = (if a = k then some x else RG.gA r k).isSome
    by_cases e : a = k
    · subst e; simp
    · simp [e]
theorem putD_m {α : Type} (f : α → DL.D) (k : Int) (x : α) (es : List (Int × α)) : putD (es.map fun e => ((.inl e.1 : Key), f e.2)) (.inl k) (f x) = (RG.sA es k x).map fun e => ((.inl e.1 : Key), f e.2) := by
  unfold putD RG.sA
  rw [any_m]
  cases h : RG.gA es k with
  | none =>
    rw [if_neg (by simp), List.map_append]; rfl
  | some y =>
    rw [if_pos (show (some y).isSome = true from rfl), List.map_map]
    show _ = List.map _ (List.map _ es)
    rw [List.map_map]
    refine List.map_congr_left fun e _ => ?_
    show (if (.inl e.1 : Key) = .inl k then ((.inl e.1 : Key), f x) else _) = _
    by_cases c : e.1 = k
    · rw [if_pos (congrArg _ c)]
      show _ = (fun e => ((.inl e.1 : Key), f e.2)) (if e.1 = k then (e.1, x) else e)
      rw [if_pos c]
    · rw [if_neg fun h => c (Sum.inl.inj h)]
      show _ = (fun e => ((.inl e.1 : Key), f e.2)) (if e.1 = k then (e.1, x) else e)
      rw [if_neg c]
theorem sdD_m (k : Int) (es : List (Int × List Int)) : sdD (es.map klD) (.inl k) = (RG.sd es k).map klD := by
  unfold sdD RG.sd
  rw [show dget (es.map klD) (.inl k) = (RG.gA es k).map (fun l => DL.D.ml (l.map .int)) from dget_m (fun l => DL.D.ml (l.map .int)) k es]
  cases h : RG.gA es k with
  | none => rw [if_neg (by simp), List.map_append]; rfl
  | some y => rw [if_pos (by simp)]
theorem fzK_src : ∀ src : List (Int × Int), fzK (src.map kdD) = src.map kdD
  | [] => rfl
  | e :: r => by
    show fzK (((.inl e.1 : Key), DL.D.int e.2) :: r.map kdD) = _
    rw [fzK, fzK_src r]; rfl
theorem fz_src (src : List (Int × Int)) : fz (srcD src) = .dK (src.map kdD) := by simp only [fz, fzK_src]
theorem noMoK_src : ∀ src : List (Int × Int), noMoK (src.map kdD) = true
  | [] => rfl
  | e :: r => by
    show noMoK (((.inl e.1 : Key), DL.D.int e.2) :: r.map kdD) = true
    rw [noMoK, noMoK_src r]; rfl
theorem noMo_src (src : List (Int × Int)) : noMo (srcD src) = true := by simp only [noMo, noMoK_src]
theorem fzK_tg : ∀ tg : List (Int × List Int), fzK (tg.map klD) = tg.map kfD
  | [] => rfl
  | e :: r => by
    show fzK (((.inl e.1 : Key), DL.D.ml (e.2.map .int)) :: r.map klD) = _
    rw [fzK, fzK_tg r, fz_mlI]; rfl
theorem fz_tg (tg : List (Int × List Int)) : fz (tgD tg) = .dK (tg.map kfD) := by simp only [fz, fzK_tg]
theorem noMoK_tg : ∀ tg : List (Int × List Int), noMoK (tg.map klD) = true
  | [] => rfl
  | e :: r => by
    show noMoK (((.inl e.1 : Key), DL.D.ml (e.2.map .int)) :: r.map klD) = true
    rw [noMoK, noMoK_tg r, noMo_mlI]; rfl
theorem noMo_tg (tg : List (Int × List Int)) : noMo (tgD tg) = true := by simp only [noMo, noMoK_tg]
theorem src_fr (src : List (Int × Int)) : ((src.map kdD).map Prod.snd).all isFr = true := by
  rw [List.map_map]
  exact map_fr (fun _ => rfl) src
/-! ### the edges of a book -/
def Dp.edge : Dp → Option (Int × Int)
  | .inc t _ o _ => some (t, o)
  | _ => none
def edges (bs : List Dp) : RG.Ed := bs.filterMap Dp.edge
theorem edges_len (bs : List Dp) : (edges bs).length ≤ bs.length := List.length_filterMap_le ..
theorem edges_step {bs : List Dp} {i : Nat} {s : Dp} (h : bs[i]? = some s) : edges (bs.take (i + 1)) = edges (bs.take i) ++ s.edge.toList := by
  unfold edges
  rw [List.take_add_one, h, List.filterMap_append]
  congr 1
theorem var_at {L : Ls} {i : Nat} {d : DL.D} {Q : DL.D → Ls → Prop} (e : L[i]? = some (some d)) (hf : isFr d = true) (h : Q d L) : dVar i L Q := by
  unfold dVar
  rw [e]
  show bif isFr d then Q d L else False
  rw [hf]; exact h
theorem c_at {L : Ls} {d : DL.D} {Q : DL.D → Ls → Prop} (h : Q d L) : dC d L Q := h
theorem ask_src {src : List (Int × Int)} {o : Int} {k : Option DL.D → Prop} (h : k ((RG.gA src o).map DL.D.int)) : gAsk (.int o) (fz (srcD src)) k := by
  rw [fz_src]
  show k (dget (src.map kdD) (.inl o))
  rw [show dget (src.map kdD) (.inl o) = (RG.gA src o).map DL.D.int from dget_m DL.D.int o src]
  exact h
theorem pureT_st {f : FT} {L : Ls} {Q : Bool → Ls → Prop} (L' : Ls) (hn : noMos L = true) (e : fzAll L = L') (h : f L' fun x _ => Q x L) : dPureT f L Q := ⟨hn, by rw [e]; exact h⟩
theorem notIn_src {src : List (Int × Int)} {o : Int} {k : DL.D → Prop} (h : k (.bl (!(RG.gA src o).isSome))) : gInBI true (.int o) (fz (srcD src)) k := by
  rw [← gInB_I, fz_src]
  show k (.bl (!(dget (src.map kdD) (.inl o)).isSome))
  rw [show dget (src.map kdD) (.inl o) = (RG.gA src o).map DL.D.int from dget_m DL.D.int o src, Option.isSome_map]
  exact h
theorem dix_src {src : List (Int × Int)} {o n : Int} {k : DL.D → Prop} (hg : RG.gA src o = some n) (h : k (.int n)) : gDix (fz (srcD src)) (.int o) k := by
  unfold gDix
  refine ask_src ?_
  rw [hg]
  exact h
theorem dix_tg {tg : List (Int × List Int)} {t : Int} {l : List Int} {k : DL.D → Prop} (hg : RG.gA tg t = some l) (h : k (.lst (l.map .int))) : gDix (.dK (tg.map kfD)) (.int t) k := by
  unfold gDix
  show (match dget (tg.map kfD) (.inl t) with | some d => k d | none => False)
  rw [show dget (tg.map kfD) (.inl t) = (RG.gA tg t).map (fun l => DL.D.lst (l.map .int)) from dget_m (fun l => DL.D.lst (l.map .int)) t tg, hg]
  exact h
theorem subK_ok {L : Ls} {src : List (Int × Int)} {o n : Int} {E : DEnds} (h2 : L[2]? = some (some (srcD src))) (h6 : L[6]? = some (some (.int o))) (hg : RG.gA src o = some n) (hl : src.length < 100000) (q : E.nx (L.set 2 (some (srcD (RG.sA src o (n - 1)))))) : dSubK 2 (dVar 6) (dC (.int 1)) E L := by
  have hd : dget (src.map kdD) (.inl o) = some (.int n) := by
    rw [show dget (src.map kdD) (.inl o) = (RG.gA src o).map DL.D.int from dget_m DL.D.int o src, hg]; rfl
  unfold dSubK
  refine ⟨by unfold isMK; rw [h2], var_at h6 rfl ?_⟩
  simp only [h2, DL.keyOf]
  refine ⟨src_fr src, ?_⟩
  simp only [hd]
  refine ⟨h2, small_lt (by rw [List.length_map]; exact hl), ?_⟩
  rw [show putD (src.map kdD) (.inl o) (.int (n - 1)) = (RG.sA src o (n - 1)).map kdD from putD_m DL.D.int o (n - 1) src]
  exact q
theorem pop_ok {xs : List Int} {t : Int} {k : DL.D → List DL.D → Prop} (h : k (.int t) (xs.map .int)) : gPop ((xs ++ [t]).map .int) [] k := by
  unfold gPop
  have e : ((xs ++ [t]).map DL.D.int)[((xs ++ [t]).map DL.D.int).length - 1]? = some (.int t) := by simp
  have e2 : ((xs ++ [t]).map DL.D.int).dropLast = xs.map .int := by simp
  simp only [e, e2]
  exact h
theorem keys_at {tg : List (Int × List Int)} {i : Nat} {d : DL.D} (h : ((tg.map klD).map fun e => keyD e.1)[i]? = some d) : ∃ k, (tg.map Prod.fst)[i]? = some k ∧ d = .int k := by
  rw [List.map_map, List.getElem?_map] at h
  rw [List.getElem?_map]
  cases q : tg[i]? with
  | none => rw [q] at h; cases h
  | some p => rw [q] at h; exact ⟨p.1, rfl, (Option.some.inj h).symm⟩
abbrev OkO (o : Option DL.D) : Prop := (match o with | some d => noMo d | none => true) = true
theorem len_sAs {es : List (Int × Int)} {k y x : Int} (h : RG.gA es k = some y) : (RG.sA es k x).length = es.length := by
  unfold RG.sA
  rw [h]
  exact List.length_map ..
theorem getB {tg : List (Int × List Int)} {k : Int} {n : Nat} {l : List Int} (h : tg[n]? = some (k, l)) (g : ∀ m, m < n → (tg.map Prod.fst)[m]? ≠ some k) : AtKey (tg.map klD) (.inl k) n (.ml (l.map .int)) := by
  refine ⟨by rw [List.getElem?_map, h]; rfl, fun m hm e => g m hm ?_⟩
  rw [List.map_map, List.getElem?_map] at e
  rw [List.getElem?_map]
  cases q : tg[m]? with
  | none => rw [q] at e; cases e
  | some p =>
    rw [q] at e
    have e := Option.some.inj e
    have e : (.inl p.1 : Key) = .inl k := e
    exact congrArg some (Sum.inl.inj e)
section
variable {P : Program} {w : World} {K : PySem.W.Frag} {mg : Str → Option Value} {base : Heap}

def sp_check_no_ring (er : Er) : SpD := fun ds R => ∃ bs : List Dp, ds = [.tup (bs.map Dp.d)] ∧ bs.length ≤ 4000 ∧ Told (RG.Free (edges bs)) R (errB er) [.tup (bs.map Dp.d)]
theorem ok_check_no_ring {f : Addr} {fd : FuncData} (F0 : Df K mg "check_no_ring" p_check_no_ring ["book"] f fd)
    {er : Er} (ER : ErOk P K mg er)
    (m_len : mg "len" = none) :
    FnOk P w K mg base (L2N.CX P w) 1 f fd ["book"] (lowFX K (sp_check_no_ring er)) := by
  refine ok_ofX F0.F sc_check_no_ring [] (by decide) (fun cdv A outer s H pn E hr hp tk hps => (x_seq (x_s (d_setM (i := 1) sc_check_no_ring.nd rfl (.inl rfl) (hp 1 rfl) d_newK))
      (x_seq (x_s (d_setM (i := 2) sc_check_no_ring.nd rfl (.inr rfl) (hp 2 rfl) d_newK))
      (x_seq (x_s (d_for [3, 4, 5, 6] hps rfl (i_seq (dv 0)) (g_name (i := 3) sc_check_no_ring.nd rfl (.inl rfl) (hp 3 rfl))
      (d_one (d_if (d_cmpT (op_eqAll (u64 hr)) up_eq (nomark _) (d_ix (dv 3) d_int) d_str)
      (d_seq (d_asg (dv 3) (g_tup (n := 5) rfl (g_conss (g_name (i := 4) sc_check_no_ring.nd rfl (.inl rfl) (hp 4 rfl)) (g_conss (g_name (i := 5) sc_check_no_ring.nd rfl (.inl rfl) (hp 5 rfl)) (g_conss (g_name (i := 4) sc_check_no_ring.nd rfl (.inl rfl) (hp 4 rfl)) (g_conss (g_name (i := 6) sc_check_no_ring.nd rfl (.inl rfl) (hp 6 rfl)) (g_conss (g_name (i := 4) sc_check_no_ring.nd rfl (.inl rfl) (hp 4 rfl)) g_nils)))))))
      (d_seq (d_exp (d_sdApp 1 (dv 5) (dv 6)))
      (d_seq (d_sdNew 1 (dv 6))
      (d_one (d_put 2 (u1 hr) (dv 6) (d_pure (d_op op_addAll up_add (d_getOr (u1 hr) (dv 2) (dv 6) d_int) d_int)))))))
      d_nil))))
      (x_seq (x_s (d_setLcK (own := [("table", 5)]) (i := 7) 1 (by rfl) sc_check_no_ring.nd rfl rfl (hp 7 rfl) (sw_true rfl rfl rfl (by decide +kernel)) (blkOk_by (N := n_check_no_ring) (sc := defScope p_check_no_ring) (by decide +kernel)) (by decide) (fun v => (have hp := hpin hp 1 v; (hp1 (hp 5 rfl)))) (fun v => (have hp := hpin hp 1 v; (fun _ _ _ _ _ => (g_name (i := 5) sc_check_no_ring.nd rfl (Or.inl rfl) (hp 5 rfl))))) (fun v => (have hp := hpin hp 1 v; (fun _ _ _ _ _ => (d_one' (d_cmpT (op_notInAll (u65 hr)) up_notIn (by rfl) (dv 5) (dv 2)))))) (fun v => (have hp := hpin hp 1 v; (fun _ _ _ _ _ => (dv 5))))))
      (x_seq (x_s (d_set (i := 8) sc_check_no_ring.nd rfl (.inl rfl) (hp 8 rfl) d_int))
      (x_fzO (i := 1) (x_seq (x_s (d_while [] hps (d_pureT (d_tru (dv 7)))
      (d_seq (d_addN (i := 8) sc_check_no_ring.nd rfl (.inl rfl) (hp 8 rfl) d_int)
      (d_seq (d_set (i := 5) sc_check_no_ring.nd rfl (.inl rfl) (hp 5 rfl) (d_lm0 7 PySem.F.plainAttrs_list PySem.F.slot_list_pop PySem.F.type_list_pop mt_pop up_pop))
      (d_one (d_for [] hps rfl (i_seq (d_dix (u1 hr) (dv 1) (dv 5) (fun _ _ => rfl))) (g_name (i := 6) sc_check_no_ring.nd rfl (.inl rfl) (hp 6 rfl))
      (d_seq (d_subK 2 (u1 hr) (dv 6) d_int)
      (d_one (d_if (d_pureT (d_cmpT (op_eqAll (u64 hr)) up_eq (nomark _) (d_dix (u1 hr) (dv 2) (dv 6) (fun _ _ => rfl)) d_int))
      (d_one (d_exp (d_lm 7 PySem.F.plainAttrs_list PySem.F.slot_list_append PySem.F.type_list_append mt_append up_app (d_consA (dv 6) d_nilA))))
      d_nil)))))))))
      (x_one (x_if (d_cmpT (op_neAll (u64 hr)) up_ne (nomark _) (dv 8) (d_callB cr_lenK up_lenK (by rfl) m_len PySem.boot_len (d_consA (dv 1) d_nilA)))
      (x_one (x_raise (by rfl) tk (L2N.pmk_own PySem.F.excBase_ValueError ER.q_InvalidBook ER.g_InvalidBook ER.e_InvalidBook.kp ER.e_InvalidBook.raises (by rfl))))
      x_nil)))))))))) (fun ds R h => ?_)
  try rewrite [gIx_I]
  try rewrite [gNotIn_I]
  try rewrite [gEq_I]
  try rewrite [gNe_I]
  try rewrite [dSeq_I]
  obtain ⟨bs, rfl, hl, q1, q2⟩ := h
  refine ⟨rfl, rfl, ?_⟩
  refine st0 ?_
  refine st [some (.tup (bs.map Dp.d)), some (tgD []), none, none, none, none, none, none, none] rfl ?_
  refine st [some (.tup (bs.map Dp.d)), some (tgD []), some (srcD []), none, none, none, none, none, none] rfl ?_
  have hel := edges_len bs
  refine ⟨fun i L => ∃ tg src, L = [some (.tup (bs.map Dp.d)), some (tgD tg), some (srcD src), none, none, none, none, none, none] ∧ RG.Ph (edges (bs.take i)) tg src, ⟨[], [], rfl, RG.Ph.nil⟩, ?_, ?_⟩
  · rintro i d L hd ⟨tg, src, rfl, ph⟩
    rw [List.getElem?_map, Option.map_eq_some_iff] at hd
    obtain ⟨s, hs, rfl⟩ := hd
    have es := edges_step hs
    have hil : (edges (bs.take i)).length ≤ 4000 := Nat.le_trans (edges_len _) (by rw [List.length_take]; omega)
    cases s with
    | set b t l r =>
      refine ixT (d := .str (setK b)) (atI_nat' (j := 0) rfl rfl) ?_
      refine eqB ?_
      cases b
      all_goals exact ⟨tg, src, rfl, by rw [es]; show RG.Ph (_ ++ []) _ _; rw [List.append_nil]; exact ph⟩
    | joins t ps =>
      refine ixT (d := .str "joins") (atI_nat' (j := 0) rfl rfl) ?_
      refine eqB ?_
      exact ⟨tg, src, rfl, by rw [es]; show RG.Ph (_ ++ []) _ _; rw [List.append_nil]; exact ph⟩
    | inc t cs o os =>
      refine ixT (d := .str "within") (atI_nat' (j := 0) rfl rfl) ?_
      refine eqB ?_
      have sl1 := ph.l1
      have sl2 := ph.l2
      obtain ⟨l0, hl0⟩ : ∃ l, RG.gA (RG.sd tg t) t = some l := ⟨_, by rw [RG.gA_sd, if_pos rfl]⟩
      obtain ⟨n, hn, hm⟩ := RG.gA_at hl0
      obtain ⟨el, ph'⟩ := ph.step t o hn hm
      have hll : l0.length ≤ 4000 := by
        cases e : RG.gA tg t with
        | none => rw [el, e]; exact Nat.zero_le _
        | some l =>
          rw [el, e, ph.out t l e]
          show (List.map Prod.snd _).length ≤ _
          rw [List.length_map]
          exact Nat.le_trans (List.length_filter_le ..) hil
      refine st0 ⟨rfl, ?_⟩
      refine st [some (.tup (bs.map Dp.d)), some (tgD tg), some (srcD src), some (Dp.inc t cs o os).d, some (tupI os), some (.int t), some (.int o), none, none] rfl ?_
      have hno : ∀ tg src : List _, noMos [some (.tup (bs.map Dp.d)), some (tgD tg), some (srcD src), some (Dp.inc t cs o os).d, some (tupI os), some (.int t), some (.int o), none, none] = true := fun tg src => noMos_cons rfl (noMos_cons (noMo_tg tg) (noMos_cons (noMo_src src) rfl))
      refine ⟨rfl, small_lt (by rw [List.length_map]; omega), n, l0.map .int, ?_, allFr_ints l0, ?_, rfl, small_lt (by rw [List.length_map]; omega), ?_⟩
      · rw [sdD_m]; exact getB hn hm
      · show noMos [_, some (.mK (sdD (tg.map klD) (.inl t))), _, _, _, _, _, _, _] = true
        rw [sdD_m]
        exact hno _ _
      generalize htg2 : (RG.sd tg t).set n (t, l0 ++ [o]) = tg2 at ph'
      have e1 : (sdD (tg.map klD) (.inl t)).set n ((.inl t : Key), DL.D.ml (l0.map .int ++ [.int o])) = tg2.map klD := by
        rw [sdD_m, ← htg2, List.map_set]
        show _ = List.set _ n ((.inl t : Key), DL.D.ml ((l0 ++ [o]).map .int))
        rw [List.map_append]; rfl
      have hl2 : tg2.length ≤ tg.length + 1 := by
        rw [← htg2, List.length_set]
        exact (RG.keys_sd tg t ph.nd).2.2
      refine st [some (.tup (bs.map Dp.d)), some (tgD tg2), some (srcD src), some (Dp.inc t cs o os).d, some (tupI os), some (.int t), some (.int o), none, none] (Eq.trans rfl (congrArg (fun z9 : List (Key × DL.D) => [some (DL.D.tup (bs.map Dp.d)), some (DL.D.mK z9), some (srcD src), some (Dp.inc t cs o os).d, some (tupI os), some (DL.D.int t), some (DL.D.int o), none, none]) e1)) ?_
      refine ⟨rfl, small_lt (by rw [List.length_map]; omega), ?_⟩
      refine nxL [some (.tup (bs.map Dp.d)), some (tgD (RG.sd tg2 o)), some (srcD src), some (Dp.inc t cs o os).d, some (tupI os), some (.int t), some (.int o), none, none] (Eq.trans rfl (congrArg (fun z9 : List (Key × DL.D) => [some (DL.D.tup (bs.map Dp.d)), some (DL.D.mK z9), some (srcD src), some (Dp.inc t cs o os).d, some (tupI os), some (DL.D.int t), some (DL.D.int o), none, none]) (sdD_m o tg2))) ?_
      refine ⟨hno _ _, rfl, ?_⟩
      have hget : ((RG.gA src o).map DL.D.int).getD (.int 0) = DL.D.int ((RG.gA src o).getD 0) := by
        cases RG.gA src o <;> rfl
      refine var_at (d := .int o) rfl rfl ?_
      refine c_at (ask_src ?_)
      dsimp only
      rw [hget]
      refine ⟨rfl, rfl, src_fr src, small_lt (by rw [List.length_map]; omega), ?_⟩
      refine ⟨RG.sd tg2 o, RG.sA src o ((RG.gA src o).getD 0 + 1), Eq.trans rfl (congrArg (fun z9 : List (Key × DL.D) => [some (DL.D.tup (bs.map Dp.d)), some (tgD (RG.sd tg2 o)), some (DL.D.mK z9), none, none, none, none, none, none]) (putD_m DL.D.int o ((RG.gA src o).getD 0 + 1) src)), by rw [es]; exact ph'⟩
  · rintro L ⟨tg, src, rfl, ph⟩
    rw [List.length_map, List.take_length] at ph
    generalize hE : edges bs = E at ph q1 q2 hel
    have hN1 := ph.l1
    have hN2 := ph.l2
    have nN := ph.nd
    have hNl : (tg.map Prod.fst).length = tg.length := List.length_map ..
    refine st [some (.tup (bs.map Dp.d)), some (tgD tg), some (srcD src), none, none, none, none, none, none] rfl ?_
    refine ⟨tg.map klD, rfl, noMos_cons rfl (noMos_cons rfl (noMos_cons (noMo_src src) rfl)), ?_⟩
    refine ⟨small_le (by rw [List.length_map, List.length_map]; omega), fun i acc L => ∃ x : Option DL.D, L = [some (.tup (bs.map Dp.d)), none, some (fz (srcD src)), none, none, x, none, none, none] ∧ acc = ((((tg.map Prod.fst).take i).filter fun k => decide (RG.into E k = 0)).map DL.D.int), ⟨_, rfl, rfl⟩, ?_, ?_⟩
    · rintro i d acc L hd ⟨x, rfl, rfl⟩
      obtain ⟨k, hk, rfl⟩ := keys_at hd
      refine notIn_src (o := k) ?_
      have hs := ph.cnt k
      refine cond2 (fun z => ?_) (fun z => ?_)
      · have z : (!(RG.gA src k).isSome) = true := z
        have h0 : RG.into E k = 0 := by
          by_cases h : RG.into E k = 0
          · exact h
          · rw [hs, if_neg h] at z; cases z
        refine ⟨_, rfl, ?_⟩
        rw [take_step hk, List.filter_append, List.filter_cons_of_pos (p := fun k => decide (RG.into E k = 0)) (decide_eq_true h0), List.map_append]; rfl
      · have z : (!(RG.gA src k).isSome) = false := z
        have h0 : ¬ RG.into E k = 0 := fun h => by rw [hs, if_pos h] at z; cases z
        refine ⟨_, rfl, ?_⟩
        rw [take_step hk, List.filter_append, List.filter_cons_of_neg (p := fun k => decide (RG.into E k = 0)) (by simpa using h0)]; simp
    · rintro acc L ⟨x, rfl, rfl⟩
      rw [List.length_map, List.length_map, ← hNl, List.take_length]
      obtain ⟨free, hfree⟩ : ∃ f, f = (tg.map Prod.fst).filter fun k => decide (RG.into E k = 0) := ⟨_, rfl⟩
      rw [← hfree]
      have kn0 := RG.Kn.start (src := src) ph.cnt nN hfree
      refine ⟨_, rfl, List.all_eq_true.mpr fun d hd => by obtain ⟨k, _, rfl⟩ := List.mem_map.mp hd; rfl, ?_⟩
      refine st [some (.tup (bs.map Dp.d)), some (tgD tg), some (srcD src), none, none, none, none, some (mlI free), none] rfl ?_
      show dFz 1 _ _ [some (.tup (bs.map Dp.d)), some (tgD tg), some (srcD src), none, none, none, none, some (mlI free), some (.int 0)]
      refine ⟨noMo_tg tg, ?_⟩
      refine nxL [some (.tup (bs.map Dp.d)), some (.dK (tg.map kfD)), some (srcD src), none, none, none, none, some (mlI free), some (.int 0)] (Eq.trans rfl (congrArg (fun z9 : DL.D => [some (DL.D.tup (bs.map Dp.d)), some z9, some (srcD src), none, none, none, none, some (mlI free), some (DL.D.int 0)]) (fz_tg tg))) ?_
      refine st0 ?_
      have outN : ∀ (t o : Int), o ∈ RG.outs E t → o ∈ tg.map Prod.fst := fun t o h => (ph.mem o).mpr ⟨_, RG.outs_mem h, .inr rfl⟩
      have lenN : ∀ {xs : List Int}, xs.Nodup → (∀ k ∈ xs, k ∈ tg.map Prod.fst) → xs.length ≤ 8000 := fun nd h => by
        have := RG.sub_lenI nd h
        omega
      refine ⟨fun m L => ∃ (src : List (Int × Int)) (free done : List Int) (x5 x6 : Option DL.D), L = [some (.tup (bs.map Dp.d)), some (.dK (tg.map kfD)), some (srcD src), none, none, x5, x6, some (mlI free), some (.int (done.length : Nat))] ∧ RG.Kn E (tg.map Prod.fst) src free done [] ∧ src.length ≤ 4000 ∧ OkO x5 ∧ OkO x6 ∧ m = (tg.map Prod.fst).length - done.length, ⟨_, src, free, [], none, none, rfl, kn0, by omega, rfl, rfl, rfl⟩, ?_⟩
      rintro m L ⟨src, free, done, x5, x6, rfl, kn, hsl, hx5, hx6, rfl⟩
      have hdn : done.length ≤ 8000 := lenN (List.nodup_append.mp kn.nd).2.1 fun k hk => kn.sub k (.inr hk)
      refine pureT_st [some (.tup (bs.map Dp.d)), some (.dK (tg.map kfD)), some (fz (srcD src)), none, none, x5.map fz, x6.map fz, some (.lst (free.map .int)), some (.int (done.length : Nat))] (noMos_cons rfl (noMos_cons rfl (noMos_cons (noMo_src src) (noMos_none (noMos_none (noMos_cons hx5 (noMos_cons hx6 (noMos_cons (noMo_mlI free) rfl)))))))) (Eq.trans rfl (congrArg (fun z9 : DL.D => [some (DL.D.tup (bs.map Dp.d)), some (DL.D.dK (tg.map kfD)), some (fz (srcD src)), none, none, x5.map fz, x6.map fz, some z9, some (DL.D.int (done.length : Nat))]) (fz_mlI free))) ?_
      refine cond2 (fun z => ?_) (fun z => ?_)
      · have z : (!(free.map DL.D.int).isEmpty) = true := z
        have hne : free ≠ [] := fun e => by subst e; cases z
        obtain ⟨fr, t, rfl⟩ : ∃ fr t, free = fr ++ [t] := ⟨free.dropLast, free.getLast hne, (List.dropLast_concat_getLast hne).symm⟩
        have kt := kn.take
        have htN := kn.sub t (.inl (by simp))
        have hg : RG.gA tg t = some (RG.outs E t) := by
          cases e : RG.gA tg t with
          | none => exact absurd htN (RG.gA_none.mp e)
          | some l => rw [ph.out t l e]
        have hdl : (t :: done).length ≤ (tg.map Prod.fst).length := RG.sub_lenI (List.nodup_append.mp kt.nd).2.1 fun k hk => kt.sub k (.inr hk)
        have hol : (RG.outs E t).length ≤ 4000 := by
          unfold RG.outs
          rw [List.length_map]
          exact Nat.le_trans (List.length_filter_le ..) (by omega)
        refine st0 ⟨_, rfl, _, rfl, ?_⟩
        refine st [some (.tup (bs.map Dp.d)), some (.dK (tg.map kfD)), some (srcD src), none, none, x5, x6, some (mlI (fr ++ [t])), some (.int ((done.length : Nat) + 1))] rfl ⟨rfl, allFr_ints _, pop_ok ?_⟩
        refine nxL [some (.tup (bs.map Dp.d)), some (.dK (tg.map kfD)), some (srcD src), none, none, some (.int t), x6, some (mlI fr), some (.int ((done.length : Nat) + 1))] rfl ?_
        refine dix_tg hg ?_
        refine ⟨fun j L => ∃ (src : List (Int × Int)) (fr : List Int) (x6 : Option DL.D), L = [some (.tup (bs.map Dp.d)), some (.dK (tg.map kfD)), some (srcD src), none, none, some (.int t), x6, some (mlI fr), some (.int ((done.length : Nat) + 1))] ∧ RG.Kn E (tg.map Prod.fst) src fr (t :: done) ((RG.outs E t).drop j) ∧ src.length ≤ 4000 ∧ OkO x6, ⟨src, fr, x6, rfl, kt, hsl, hx6⟩, ?_, ?_⟩
        · rintro j d L hd ⟨src, fr, x6, rfl, kj, hsl, hx6⟩
          rw [List.getElem?_map, Option.map_eq_some_iff] at hd
          obtain ⟨o, ho, rfl⟩ := hd
          have hom := List.mem_of_getElem? ho
          have hdr : (RG.outs E t).drop j = o :: (RG.outs E t).drop (j + 1) := by
            obtain ⟨h1, h2⟩ := List.getElem?_eq_some_iff.mp ho
            rw [← h2]
            exact List.drop_eq_getElem_cons h1
          rw [hdr] at kj
          obtain ⟨n, hn, k0, k1⟩ := kj.one (outN t o hom) (RG.into_pos hom)
          have hfl : fr.length ≤ 8000 := lenN (List.nodup_append.mp kj.nd).1 fun k hk => kj.sub k (.inl hk)
          refine st0 ?_
          refine subK_ok rfl rfl hn (by omega) ?_
          have hl2 : (RG.sA src o (n - 1)).length ≤ 4000 := by rw [len_sAs hn]; exact hsl
          have hg2 : RG.gA (RG.sA src o (n - 1)) o = some (n - 1) := by rw [RG.gA_sA, if_pos rfl]
          show dIf (dPureT _) _ _ _ [some (.tup (bs.map Dp.d)), some (.dK (tg.map kfD)), some (srcD (RG.sA src o (n - 1))), none, none, some (.int t), some (.int o), some (mlI fr), some (.int ((done.length : Nat) + 1))]
          refine pureT_st [some (.tup (bs.map Dp.d)), some (.dK (tg.map kfD)), some (fz (srcD (RG.sA src o (n - 1)))), none, none, some (.int t), some (.int o), some (fz (mlI fr)), some (.int ((done.length : Nat) + 1))] (show noMos [some (.tup (bs.map Dp.d)), some (.dK (tg.map kfD)), some (srcD (RG.sA src o (n - 1))), none, none, some (.int t), some (.int o), some (mlI fr), some (.int ((done.length : Nat) + 1))] = true from noMos_cons rfl (noMos_cons rfl (noMos_cons (noMo_src _) (noMos_none (noMos_none (noMos_cons rfl (noMos_cons rfl (noMos_cons (noMo_mlI fr) rfl)))))))) rfl ?_
          refine dix_src hg2 ?_
          refine eqB ?_
          refine dec2 (c := n - 1 = 0) (fun z => ?_) (fun z => ?_)
          · refine ⟨rfl, allFr_ints _, small_lt (by rw [List.length_map]; omega), ?_⟩
            exact ⟨_, fr ++ [o], _, Eq.trans rfl (congrArg (fun z9 : List DL.D => [some (DL.D.tup (bs.map Dp.d)), some (DL.D.dK (tg.map kfD)), some (srcD (RG.sA src o (n - 1))), none, none, some (DL.D.int t), some (DL.D.int o), some (DL.D.ml z9), some (DL.D.int ((done.length : Nat) + 1))]) (show fr.map DL.D.int ++ [.int o] = (fr ++ [o]).map .int by rw [List.map_append]; rfl)), k0 z, hl2, rfl⟩
          · exact ⟨_, fr, _, rfl, k1 z, hl2, rfl⟩
        · rintro L ⟨src, fr, x6, rfl, kj, hsl, hx6⟩
          rw [List.length_map, List.drop_length] at kj
          refine ⟨_, ?_, src, fr, t :: done, some (.int t), x6, Eq.trans rfl (congrArg (fun z9 : Int => [some (DL.D.tup (bs.map Dp.d)), some (DL.D.dK (tg.map kfD)), some (srcD src), none, none, some (DL.D.int t), x6, some (mlI fr), some (DL.D.int z9)]) (show ((done.length : Nat) : Int) + 1 = (((t :: done).length : Nat) : Int) by rw [List.length_cons]; omega)), kj, hsl, rfl, hx6, rfl⟩
          rw [List.length_cons] at hdl ⊢
          omega
      · have z : (!(free.map DL.D.int).isEmpty) = false := z
        have hemp : free = [] := by
          cases free with
          | nil => rfl
          | cons a r => cases z
        subst hemp
        have key := RG.told nN ph.mem (List.nodup_append.mp kn.nd).2.1 (fun k hk => kn.sub k (.inr hk)) kn.good fun k hk h0 => ((kn.zero k hk).mpr (by rw [h0]; rfl)).elim (fun h => (by cases h)) id
        refine nxL [some (.tup (bs.map Dp.d)), some (.dK (tg.map kfD)), some (srcD src), none, none, x5, x6, some (mlI []), some (.int (done.length : Nat))] rfl ?_
        refine eqB ?_
        have hkl : (tg.map kfD).length = (tg.map Prod.fst).length := by rw [List.length_map, List.length_map]
        refine ndec2 (c := ((done.length : Nat) : Int) = (((tg.map kfD).length : Nat) : Int)) (fun z => ?_) (fun z => ?_)
        · exact q2 fun h => z (by rw [hkl, key.mpr h])
        · exact q1 (key.mp (by omega))
end

end LW

namespace LW
open PySem PySem.Spec PyProof.Rows L2 DL
structure PartsW (w : Int) (ps : List (List Int)) : Prop where
  len : ps.length ≤ 4
  ok : ∀ p ∈ ps, p ≠ [] ∧ ColsW w p
  all : ∀ x, 0 ≤ x → x < w → ∃ p ∈ ps, x ∈ p
structure SchB (ws : List Int) : Prop where
  pos : 0 < ws.length
  len : ws.length ≤ 12
  ok : ∀ x ∈ ws, 1 ≤ x ∧ x ≤ 7
/-- a row on its way to be a part -/
structure RowM (w : Int) (p : List Int) : Prop where
  nd : p.Nodup
  ok : ∀ x ∈ p, 0 ≤ x ∧ x < w
theorem RowM.len {w : Int} {p : List Int} (h : RowM w p) (hw : w ≤ 7) : p.length ≤ 7 := by
  have := sub_len (m := upto 0 7) h.nd fun x hx => mem_upto.mpr (by have := h.ok x hx; omega)
  rw [upto_length] at this
  omega
theorem sort_cols {w : Int} {p ns : List Int} (h : RowM w p) (hp : ns.Perm p) (hs : ns.Pairwise (· ≤ ·)) : ColsW w ns := by
  refine ⟨?_, fun x hx => h.ok x (hp.mem_iff.mp hx)⟩
  have nd : ns.Nodup := hp.nodup_iff.mpr h.nd
  exact (List.pairwise_and_iff.mpr ⟨hs, nd⟩).imp fun ⟨a, b⟩ => by omega
theorem mls_noM (ps : List (List Int)) : noMo (.ml (ps.map fun p => DL.D.ml (p.map .int))) = true := by
  unfold noMo
  induction ps with
  | nil => rfl
  | cons p r ih =>
    rw [List.map_cons, noMoL, ih, Bool.and_true]
    unfold noMo
    exact noMoL_ints p
abbrev mls (ps : List (List Int)) : DL.D := .ml (ps.map fun p => DL.D.ml (p.map .int))
theorem appIx0 {j : Nat} {fi fv : FE} {L : Ls} {Q : DL.D → Ls → Prop} (h : dAppIx j fi fv L Q) : dAppIxI j fi fv L Q := by rw [← dAppIx_I]; exact h
theorem set_app {ps : List (List Int)} {n : Nat} {p : List Int} {c : Int} (h : ps[n]? = some p) : (ps.map fun p => DL.D.ml (p.map .int)).set n (.ml (p.map .int ++ [.int c])) = (ps.set n (p ++ [c])).map fun p => DL.D.ml (p.map .int) := by rw [List.map_set, List.map_append]; rfl
section
variable {P : Program} {w : World} {K : PySem.W.Frag} {mg : Str → Option Value} {base : Heap}

def BookR (ws : List Int) (bs : List Dp) : Prop := (∀ s ∈ bs, s.R ws) ∧ RG.Free (edges bs)
def sp_check_book (er : Er) : SpD := fun ds R => ∃ (ws : List Int) (bs : List Dp), ds = [tupI ws, .tup (bs.map Dp.d)] ∧ bs.length ≤ 4000 ∧ (∀ s ∈ bs, s.Few) ∧ Told (BookR ws bs) R (errB er) [tupI ws, .tup (bs.map Dp.d)]
theorem ok_check_book {f : Addr} {fd : FuncData} (F0 : Df K mg "check_book" p_check_book ["scheme", "book"] f fd)
    {er : Er} (ER : ErOk P K mg er)
    {f_check_dependency : Addr} {fd_check_dependency : FuncData} (D_check_dependency : Df K mg "check_dependency" p_check_dependency ["scheme", "dependency"] f_check_dependency fd_check_dependency)
    (G_check_dependency : FnOk P w K mg base (L2N.CX P w) 4 f_check_dependency fd_check_dependency ["scheme", "dependency"] (lowFX K (sp_check_dependency er)))
    {f_check_no_ring : Addr} {fd_check_no_ring : FuncData} (D_check_no_ring : Df K mg "check_no_ring" p_check_no_ring ["book"] f_check_no_ring fd_check_no_ring)
    (G_check_no_ring : FnOk P w K mg base (L2N.CX P w) 1 f_check_no_ring fd_check_no_ring ["book"] (lowFX K (sp_check_no_ring er))) :
    FnOk P w K mg base (L2N.CX P w) 5 f fd ["scheme", "book"] (lowFX K (sp_check_book er)) := by
  refine ok_ofX F0.F sc_check_book [] (by decide) (fun cdv A outer s H pn E hr hp tk hps => (x_seq (x_for [2] hps rfl (i_seq (dv 1)) (g_name (i := 2) sc_check_book.nd rfl (.inl rfl) (hp 2 rfl))
      (x_one (x_exp (x_fz (x_callX G_check_dependency tk (hr.mono (by decide)) (by rfl) D_check_dependency.g D_check_dependency.F.kp D_check_dependency.b (xr_of (r_e (dv 0) (r_e (dv 2) r_nil))))))))
      (x_one (x_exp (x_fz (x_callX G_check_no_ring tk (hr.mono (by decide)) (by rfl) D_check_no_ring.g D_check_no_ring.F.kp D_check_no_ring.b (xr_of (r_e (dv 1) r_nil)))))))) (fun ds R h => ?_)
  obtain ⟨ws, bs, rfl, hl, hf, q1, q2⟩ := h
  refine ⟨rfl, rfl, ?_⟩
  refine ⟨fun i L => L = [some (tupI ws), some (.tup (bs.map Dp.d)), none] ∧ ∀ s ∈ bs.take i, s.R ws, ⟨rfl, fun x h => by simp at h⟩, ?_, ?_⟩
  · rintro i d L hd ⟨rfl, hp⟩
    rw [List.getElem?_map, Option.map_eq_some_iff] at hd
    obtain ⟨s, hs, rfl⟩ := hd
    have hsm := List.mem_of_getElem? hs
    have fin : ∀ h1 : s.R ws, ∀ x ∈ bs.take (i + 1), x.R ws := fun h1 x hx => by
      rw [take_step hs] at hx
      rcases List.mem_append.mp hx with hx | hx
      · exact hp x hx
      · rw [List.mem_singleton.mp hx]; exact h1
    cases s
    all_goals exact ⟨ws, _, rfl, hf _ hsm, fun h1 => ⟨rfl, rfl, fin h1⟩, fun h1 => q2 fun h => h1 (h.1 _ hsm)⟩
  · rintro L ⟨rfl, hp⟩
    rw [List.length_map, List.take_length] at hp
    exact ⟨bs, rfl, hl, fun h1 => ⟨rfl, q1 ⟨hp, h1⟩⟩, fun h1 => q2 fun h => h1 h.2⟩
def sp__law_shuffled : SpD := fun ds R => ∃ (l : List Int) (c : DL.D) (cs : List DL.D), ds = [mlI l, c] ∧ SeqF c cs ∧ cs.all isFr = true ∧ cs.length ≤ 1000 ∧ ∀ (xs : List DL.D) (l' : List Int), xs.Perm cs → R (.ml xs) [mlI l', c]
theorem ok__law_shuffled {f : Addr} {fd : FuncData} (F0 : Df K mg "_law_shuffled" p__law_shuffled ["draws", "row"] f fd)
    {f__law_take : Addr} {fd__law_take : FuncData} (D__law_take : Df K mg "_law_take" p__law_take ["draws", "many"] f__law_take fd__law_take)
    (G__law_take : FnOk P w K mg base CX0 1 f__law_take fd__law_take ["draws", "many"] (lowF K sp__law_take))
    (m_len : mg "len" = none) :
    FnOk P w K mg base CX0 2 f fd ["draws", "row"] (lowF K sp__law_shuffled) := by
  refine ok_of F0.F sc__law_shuffled [0] (by decide) (fun cdv A outer s H pn E hr hp => (d_seq (d_setM (i := 2) sc__law_shuffled.nd rfl (.inl rfl) (hp 2 rfl) d_newL)
      (d_seq (d_for [3] PassesOwn.never rfl (i_seq (dv 1)) (g_name (i := 3) sc__law_shuffled.nd rfl (.inl rfl) (hp 3 rfl))
      (d_one (d_exp (d_lm 2 PySem.F.plainAttrs_list PySem.F.slot_list_insert PySem.F.type_list_insert mt_insert up_ins (d_consA (d_fzE (d_call G__law_take (hr.mono (by decide)) (by rfl) D__law_take.g D__law_take.F.kp D__law_take.b pass0 (r_s 0 (r_e (d_pure (d_op op_addAll up_add (d_callB call_lenA up_len (by rfl) m_len PySem.boot_len (d_consA (dv 2) d_nilA)) d_int)) r_nil)))) (d_consA (dv 3) d_nilA))))))
      (d_one (d_retM (dn_var 2)))))) (fun ds R h => ?_)
  obtain ⟨l, c, cs, rfl, hc, hf, hl, q⟩ := h
  cases hc
  all_goals
    refine ⟨rfl, rfl, ?_⟩
    refine ⟨fun i L => ∃ (l : List Int) (xs : List DL.D), L = [some (mlI l), some _, some (.ml xs), none] ∧ xs.Perm (cs.take i), ⟨l, [], rfl, .refl _⟩, ?_, ?_⟩
    · rintro i d L hd ⟨l, xs, rfl, hx⟩
      have hfx : xs.all isFr = true := all_perm hx (List.all_eq_true.mpr fun y hy => List.all_eq_true.mp hf y (List.mem_of_mem_take hy))
      have hdf : isFr d = true := List.all_eq_true.mp hf d (List.mem_of_getElem? hd)
      have hlx : xs.length ≤ 1000 := by rw [hx.length_eq]; exact Nat.le_trans (List.length_take_le' ..) hl
      refine ⟨rfl, ⟨noMos_ml (noMos_fr rfl (noMos_mlF hfx (noMos_fr (noMo_fr hdf) rfl))), rfl, l, _, rfl, by rw [fzL_fr hfx]; omega, fun j l' j0 j1 => ⟨rfl, ?_⟩⟩⟩
      rw [fzL_fr hfx] at j1
      show (bif isFr d then _ else False)
      rw [hdf]
      refine ⟨hfx, small_lt (by omega), j0, by omega, l', xs.take j.toNat ++ [d] ++ xs.drop j.toNat, rfl, ?_⟩
      rw [take_step hd]
      exact (ins_perm xs d j.toNat).trans (List.Perm.append_right _ hx)
    · rintro L ⟨l', xs, rfl, hx⟩
      rw [List.take_length] at hx
      exact q xs l' hx
def sp__law_parts : SpD := fun ds R => ∃ (l : List Int) (w m : Int), ds = [mlI l, .int w, .int m] ∧ 0 ≤ w ∧ w ≤ 7 ∧ 0 < m ∧ m ≤ 4 ∧ ∀ (ps : List (List Int)) (l' : List Int), PartsW w ps → R (.tup (ps.map tupI)) [mlI l', .int w, .int m]
theorem ok__law_parts {f : Addr} {fd : FuncData} (F0 : Df K mg "_law_parts" p__law_parts ["draws", "width", "most"] f fd)
    {f__law_take : Addr} {fd__law_take : FuncData} (D__law_take : Df K mg "_law_take" p__law_take ["draws", "many"] f__law_take fd__law_take)
    (G__law_take : FnOk P w K mg base CX0 1 f__law_take fd__law_take ["draws", "many"] (lowF K sp__law_take))
    (m_len : mg "len" = none)
    (m_range : mg "range" = none)
    (m_sorted : mg "sorted" = none)
    (m_tuple : mg "tuple" = none) :
    FnOk P w K mg base CX0 2 f fd ["draws", "width", "most"] (lowF K sp__law_parts) := by
  refine ok_of F0.F sc__law_parts [0] (by decide) (fun cdv A outer s H pn E hr hp => (d_seq (d_set (i := 3) sc__law_parts.nd rfl (.inl rfl) (hp 3 rfl) (d_op op_addAll up_add d_int (d_fzE (d_call G__law_take (hr.mono (by decide)) (by rfl) D__law_take.g D__law_take.F.kp D__law_take.b pass0 (r_s 0 (r_e (dv 2) r_nil))))))
      (d_seq (d_setLcO (i := 5) (own := [("k", 6)]) (by rfl) sc__law_parts.nd rfl rfl (hp 5 rfl) (sw_true rfl rfl rfl (by decide +kernel)) (i_range1 (by rfl) m_range (d_consA (dv 3) d_nilA)) (blkOk_by (N := n__law_parts) (sc := defScope p__law_parts) (by decide +kernel)) (by decide) (hp1 (hp 6 rfl)) (fun _ _ _ _ _ => (g_name (i := 6) sc__law_parts.nd rfl (Or.inl rfl) (hp 6 rfl))) (fun _ _ _ _ _ => d_yes) (fun _ _ _ _ _ => (d_lcM (own := [("column", 4)]) (by rfl) sc__law_parts.nd (i_range1 (by rfl) m_range (d_consA (dv 1) d_nilA)) (blkOk_by (by rfl)) (by decide) (hp1 (hp 4 rfl)) (fun _ _ _ _ _ => (g_name (i := 4) sc__law_parts.nd rfl (Or.inl rfl) (hp 4 rfl))) (fun _ _ _ _ _ => (d_one' (d_cmpT (op_ltAll (u0 hr)) up_lt (nomark _) (d_fzE (d_call G__law_take (hr.mono (by decide)) (by rfl) D__law_take.g D__law_take.F.kp D__law_take.b pass0 (r_s 0 (r_e d_int r_nil)))) d_int))) (fun _ _ _ _ _ => (dv 4)))))
      (d_seq (d_for [4] PassesOwn.never rfl (i_range1 (by rfl) m_range (d_consA (dv 1) d_nilA)) (g_name (i := 4) sc__law_parts.nd rfl (.inr rfl) (hp 4 rfl))
      (d_one (d_if (d_pureT (d_cmpT (op_eqAll (u64 hr)) up_eq (nomark _) (d_callB call_lenA up_len (by rfl) m_len PySem.boot_len (d_consA (d_lc (own := [("row", 7)]) (by rfl) sc__law_parts.nd (i_seq (dv 5)) (blkOk_by (N := n__law_parts) (sc := defScope p__law_parts) (by decide +kernel)) (by decide) (hp1 (hp 7 rfl)) (fun _ _ _ _ _ => (g_name (i := 7) sc__law_parts.nd rfl (Or.inl rfl) (hp 7 rfl))) (fun _ _ _ _ _ => (d_one' (d_cmpT (op_inAll (u65 hr)) up_in (by rfl) (dv 4) (dv 7)))) (fun _ _ _ _ _ => (dv 7))) d_nilA)) d_int))
      (d_one (d_exp (d_appIx 5 (d_fzE (d_call G__law_take (hr.mono (by decide)) (by rfl) D__law_take.g D__law_take.F.kp D__law_take.b pass0 (r_s 0 (r_e (dv 3) r_nil)))) (dv 4))))
      d_nil)))
      (d_one (d_ret (d_pure (d_callTy call_tuple_of up_tupF (by rfl) m_tuple boot_tuple (d_consA (d_lc (own := [("row", 7)]) (by rfl) sc__law_parts.nd (i_seq (dv 5)) (blkOk_by (N := n__law_parts) (sc := defScope p__law_parts) (by decide +kernel)) (by decide) (hp1 (hp 7 rfl)) (fun _ _ _ _ _ => (g_name (i := 7) sc__law_parts.nd rfl (Or.inl rfl) (hp 7 rfl))) (fun _ _ _ _ _ => (d_one' (d_cmpT op_gt up_cmp (nomark _) (d_callB call_lenA up_len (by rfl) m_len PySem.boot_len (d_consA (dv 7) d_nilA)) d_int))) (fun _ _ _ _ _ => (d_callTy call_tuple_of up_tupF (by rfl) m_tuple boot_tuple (d_consA (d_callB cr_sortedI up_sortI (by rfl) m_sorted boot_sorted (d_consA (dv 7) d_nilA)) d_nilA)))) d_nilA))))))))) (fun ds R h => ?_)
  try rewrite [gIn_I]
  try rewrite [dAppIx_I]
  try rewrite [gSortI_J]
  try rewrite [dSeq_I]
  try rewrite [dRet_I]
  obtain ⟨l, w, m, rfl, h0, h1, m0, m1, q⟩ := h
  refine ⟨rfl, rfl, ?_⟩
  refine st0 ⟨l, m, rfl, m0, fun j l1 j0 j1 => ⟨rfl, ?_⟩⟩
  refine st [some (mlI l1), some (.int w), some (.int m), some (.int (1 + j)), none, none, none, none] rfl ?_
  refine ⟨by omega, by omega, small_le (by rw [rng_length]; omega), fun i acc L => ∃ (l : List Int) (ps : List (List Int)) (y : Option DL.D), L = [some (mlI l), some (.int w), some (.int m), some (.int (1 + j)), none, none, y, none] ∧ acc = (ps.map fun p => DL.D.ml (p.map .int)) ∧ ps.length = i ∧ ∀ p ∈ ps, RowM w p, ⟨l1, [], _, rfl, rfl, rfl, fun p h => (by cases h)⟩, ?_, ?_⟩
  · rintro i d acc L hd ⟨l2, ps, y, rfl, rfl, hl, hp⟩
    obtain ⟨rfl, hi⟩ := rng_get hd
    refine ⟨by omega, by omega, small_le (by rw [rng_length]; omega), fun c acc L => ∃ (l xs : List Int) (x : Option DL.D), L = [some (mlI l), some (.int w), some (.int m), some (.int (1 + j)), x, none, some (.int (0 + (i : Int))), none] ∧ acc = xs.map DL.D.int ∧ xs.Pairwise (· < ·) ∧ ∀ x ∈ xs, 0 ≤ x ∧ x < (c : Int) ∧ x < w, ⟨l2, [], _, rfl, rfl, .nil, fun x h => (by cases h)⟩, ?_, ?_⟩
    · rintro c d acc L hd ⟨l3, xs, x, rfl, rfl, ha, hx⟩
      obtain ⟨rfl, hc⟩ := rng_get hd
      refine ⟨l3, 5, rfl, by decide, fun k l4 k0 k1 => ⟨rfl, ?_⟩⟩
      refine dec2 (fun z => ?_) (fun z => ?_)
      · refine ⟨l4, xs ++ [(0 + (c : Int))], _, rfl, by rw [List.map_append]; rfl, ?_, ?_⟩
        · refine List.pairwise_append.mpr ⟨ha, List.pairwise_singleton _ _, fun a ha b hb => ?_⟩
          rw [List.mem_singleton.mp hb]
          have := hx a ha; omega
        · intro x hx'
          rcases List.mem_append.mp hx' with hx' | hx'
          · have := hx x hx'; omega
          · rw [List.mem_singleton.mp hx']; omega
      · exact ⟨l4, xs, _, rfl, rfl, ha, fun x hx' => by have := hx x hx'; omega⟩
    · rintro acc L ⟨l3, xs, x, rfl, rfl, ha, hx⟩
      refine ⟨l3, ps ++ [xs], _, rfl, by rw [List.map_append]; rfl, by rw [List.length_append, hl]; rfl, fun p h => ?_⟩
      rcases List.mem_append.mp h with h | h
      · exact hp p h
      · rw [List.mem_singleton.mp h]
        exact ⟨ha.imp fun h => by omega, fun x h => by have := hx x h; omega⟩
  · rintro acc L ⟨l2, ps, y, rfl, rfl, hl, hp⟩
    rw [rng_length] at hl
    refine st [some (mlI l2), some (.int w), some (.int m), some (.int (1 + j)), none, some (mls ps), none, none] rfl ?_
    have hps : ps.length ≤ 4 := by omega
    refine ⟨by omega, by omega, fun c L => ∃ (l : List Int) (ps : List (List Int)), L = [some (mlI l), some (.int w), some (.int m), some (.int (1 + j)), none, some (mls ps), none, none] ∧ ps.length = (1 + j).toNat ∧ (∀ p ∈ ps, RowM w p) ∧ ∀ x, 0 ≤ x → x < (c : Int) → ∃ p ∈ ps, x ∈ p, ⟨l2, ps, rfl, by omega, hp, fun x a b => by omega⟩, ?_, ?_⟩
    · rintro c d L hd ⟨l, ps, rfl, hl, hp, hc⟩
      obtain ⟨rfl, hcw⟩ := rng_get hd
      have hno : ∀ (l : List Int) (o : Ls), noMos o = true → noMos (some (mlI l) :: some (.int w) :: some (.int m) :: some (.int (1 + j)) :: some (.int (0 + (c : Int))) :: some (mls ps) :: o) = true := fun l o h => noMos_cons (noMo_mlI l) (noMos_cons rfl (noMos_cons rfl (noMos_cons rfl (noMos_cons rfl (noMos_cons (mls_noM ps) h)))))
      have hfz : ∀ o : Ls, fzAll (some (mlI l) :: some (.int w) :: some (.int m) :: some (.int (1 + j)) :: some (.int (0 + (c : Int))) :: some (mls ps) :: o) = some (.lst (l.map .int)) :: some (.int w) :: some (.int m) :: some (.int (1 + j)) :: some (.int (0 + (c : Int))) :: some (.lst (ps.map fun p => DL.D.lst (p.map .int))) :: fzAll o := fun o => by
        show some (fz (mlI l)) :: some (.int w) :: some (.int m) :: some (.int (1 + j)) :: some (.int (0 + (c : Int))) :: some (.lst (fzL (ps.map fun p => DL.D.ml (p.map .int)))) :: fzAll o = _
        rw [fz_mlI, fzL_mls]
      show dIf (dPureT _) _ _ _ [some (mlI l), some (.int w), some (.int m), some (.int (1 + j)), some (.int (0 + (c : Int))), some (mls ps), none, none]
      refine pureT_st _ (hno l _ rfl) (hfz _) ?_
      refine ⟨small_le (by rw [List.length_map]; omega), fun i acc L => ∃ (x : Option DL.D) (rs : List (List Int)), L = [some (.lst (l.map DL.D.int)), some (.int w), some (.int m), some (.int (1 + j)), some (.int (0 + (c : Int))), some (.lst (ps.map fun p => DL.D.lst (p.map .int))), none, x] ∧ acc = rs.map lstI ∧ rs = (ps.take i).filter (fun p => decide ((0 + (c : Int)) ∈ p)), ⟨_, [], rfl, rfl, rfl⟩, ?_, ?_⟩
      · rintro i d acc L hd ⟨x, rs, rfl, rfl, er⟩
        rw [List.getElem?_map, Option.map_eq_some_iff] at hd
        obtain ⟨p, hpi, rfl⟩ := hd
        refine in_lstI ?_
        refine cond2 (fun z => ?_) (fun z => ?_)
        · have z : decide ((0 + (c : Int)) ∈ p) = true := z
          refine ⟨_, rs ++ [p], rfl, by rw [List.map_append]; rfl, ?_⟩
          rw [take_step hpi, List.filter_append, ← er, List.filter_cons_of_pos (p := fun p => decide ((0 + (c : Int)) ∈ p)) z]; rfl
        · have z : decide ((0 + (c : Int)) ∈ p) = false := z
          refine ⟨_, rs, rfl, rfl, ?_⟩
          rw [take_step hpi, List.filter_append, ← er, List.filter_cons_of_neg (p := fun p => decide ((0 + (c : Int)) ∈ p)) (by show ¬ decide ((0 + (c : Int)) ∈ p) = true; rw [z]; decide)]; simp
      · rintro acc L ⟨x, rs, rfl, rfl, er⟩
        rw [List.length_map, List.take_length] at er
        refine dec2 (fun z => ?_) (fun z => ?_)
        · have z : ((rs.map lstI).length : Int) = 0 := z
          rw [List.length_map] at z
          refine appIx0 ?_
          refine ⟨rfl, l, 1 + j, rfl, by omega, fun f l2 f0 f1 => ⟨rfl, ?_⟩⟩
          have hx : ixN (ps.map fun p => DL.D.ml (p.map .int)).length f = some f.toNat := ixN_ok f0 (by rw [List.length_map]; omega)
          obtain ⟨pf, epf⟩ : ∃ p, ps[f.toNat]? = some p := ⟨_, List.getElem?_eq_getElem (by omega)⟩
          have hy : (ps.map fun p => DL.D.ml (p.map .int))[f.toNat]? = some (.ml (pf.map .int)) := by rw [List.getElem?_map, epf]; rfl
          have hpf := hp pf (List.mem_of_getElem? epf)
          have hnew : (0 + (c : Int)) ∉ pf := fun hm => by
            have : pf ∈ rs := by rw [er]; exact List.mem_filter.mpr ⟨List.mem_of_getElem? epf, decide_eq_true hm⟩
            have := List.length_pos_of_mem this
            omega
          have hfl := hpf.len h1
          dsimp only
          show (match ixN (ps.map fun p => DL.D.ml (p.map .int)).length f with | some n => _ | none => False)
          rw [hx]
          show (match (ps.map fun p => DL.D.ml (p.map .int))[f.toNat]? with | some (.ml ys) => _ | _ => False)
          rw [hy]
          refine ⟨allFr_ints pf, hno l2 _ rfl, rfl, small_lt (by rw [List.length_map]; omega), l2, ps.set f.toNat (pf ++ [0 + (c : Int)]), congrArg (fun z9 : List DL.D => [some (mlI l2), some (DL.D.int w), some (DL.D.int m), some (DL.D.int (1 + j)), none, some (DL.D.ml z9), none, none]) (set_app epf), by rw [List.length_set]; exact hl, fun p h => ?_, fun x a b => ?_⟩
          · rcases List.mem_or_eq_of_mem_set h with h | rfl
            · exact hp p h
            · refine ⟨List.nodup_append.mpr ⟨hpf.nd, by simp, fun a ha b hb e => ?_⟩, fun x hx => ?_⟩
              · rw [List.mem_singleton.mp hb] at e
                rw [e] at ha
                exact hnew ha
              · rcases List.mem_append.mp hx with hx | hx
                · exact hpf.ok x hx
                · rw [List.mem_singleton.mp hx]; omega
          · have hset : pf ++ [0 + (c : Int)] ∈ ps.set f.toNat (pf ++ [0 + (c : Int)]) := List.mem_of_getElem? (List.getElem?_set_self (by omega))
            by_cases e : x < (c : Int)
            · obtain ⟨p, hp1, hp2⟩ := hc x a e
              obtain ⟨i, hi⟩ := List.mem_iff_getElem?.mp hp1
              by_cases e2 : i = f.toNat
              · subst e2
                rw [epf] at hi
                cases hi
                exact ⟨_, hset, List.mem_append_left _ hp2⟩
              · exact ⟨p, List.mem_of_getElem? (i := i) (by rw [List.getElem?_set_ne (fun h => e2 h.symm)]; exact hi), hp2⟩
            · have e : x = 0 + (c : Int) := by omega
              exact ⟨_, hset, by rw [e]; simp⟩
        · have z : ¬ ((rs.map lstI).length : Int) = 0 := z
          rw [List.length_map] at z
          refine ⟨l, ps, rfl, hl, hp, fun x a b => ?_⟩
          by_cases e : x < (c : Int)
          · exact hc x a e
          · have e : x = 0 + (c : Int) := by omega
            subst e
            obtain ⟨p, hp1⟩ := List.exists_mem_of_ne_nil rs fun e => z (by rw [e]; rfl)
            rw [er] at hp1
            have := List.mem_filter.mp hp1
            exact ⟨p, this.1, of_decide_eq_true this.2⟩
    · rintro L ⟨l, ps, rfl, hl, hp, hc⟩
      rw [rng_length] at hc
      refine stR [some (mlI l), some (.int w), some (.int m), some (.int (1 + j)), none, some (mls ps), none, none] rfl ?_
      refine ⟨noMos_cons (noMo_mlI l) (noMos_cons rfl (noMos_cons rfl (noMos_cons rfl (noMos_cons rfl (noMos_cons (mls_noM ps) rfl))))), ?_⟩
      have e0 : fzAll [some (mlI l), some (.int w), some (.int m), some (.int (1 + j)), none, some (mls ps), none, none] = [some (.lst (l.map .int)), some (.int w), some (.int m), some (.int (1 + j)), none, some (.lst (ps.map fun p => DL.D.lst (p.map .int))), none, none] := by
        show [some (fz (mlI l)), some (DL.D.int w), some (DL.D.int m), some (DL.D.int (1 + j)), none, some (.lst (fzL (ps.map fun p => DL.D.ml (p.map .int)))), none, none] = _
        rw [fz_mlI, fzL_mls]
      rw [e0]
      refine ⟨small_le (by rw [List.length_map]; omega), fun i acc L => ∃ (x : Option DL.D) (rs : List (List Int)), L = [some (.lst (l.map DL.D.int)), some (.int w), some (.int m), some (.int (1 + j)), none, some (.lst (ps.map fun p => DL.D.lst (p.map .int))), none, x] ∧ acc = rs.map tupI ∧ rs.length ≤ i ∧ (∀ r ∈ rs, r ≠ [] ∧ ColsW w r) ∧ ∀ p ∈ ps.take i, ∀ x ∈ p, ∃ r ∈ rs, x ∈ r, ⟨_, [], rfl, rfl, Nat.le_refl _, fun p h => (by cases h), fun p h => by simp at h⟩, ?_, ?_⟩
      · rintro i d acc L hd ⟨x, rs, rfl, rfl, hr1, hr2, hr3⟩
        rw [List.getElem?_map, Option.map_eq_some_iff] at hd
        obtain ⟨p, hpi, rfl⟩ := hd
        have hpm := hp p (List.mem_of_getElem? hpi)
        refine dec2 (fun z => ?_) (fun z => ?_)
        · have z : 0 < ((p.map DL.D.int).length : Int) := z
          rw [List.length_map] at z
          refine srtJ_ok fun ns n1 n2 => ?_
          refine ⟨_, rs ++ [ns], rfl, by rw [List.map_append]; rfl, by rw [List.length_append]; show rs.length + 1 ≤ i + 1; omega, fun r hr => ?_, fun p' hp' x hx => ?_⟩
          · rcases List.mem_append.mp hr with hr | hr
            · exact hr2 r hr
            · rw [List.mem_singleton.mp hr]
              exact ⟨fun e => by have := n1.length_eq; rw [e] at this; simp at this; omega, sort_cols hpm n1 n2⟩
          · rw [take_step hpi] at hp'
            rcases List.mem_append.mp hp' with hp' | hp'
            · obtain ⟨r, a, b⟩ := hr3 p' hp' x hx
              exact ⟨r, List.mem_append_left _ a, b⟩
            · rw [List.mem_singleton.mp hp'] at hx
              exact ⟨ns, by simp, n1.mem_iff.mpr hx⟩
        · have z : ¬ 0 < ((p.map DL.D.int).length : Int) := z
          rw [List.length_map] at z
          refine ⟨_, rs, rfl, rfl, by omega, hr2, fun p' hp' x hx => ?_⟩
          rw [take_step hpi] at hp'
          rcases List.mem_append.mp hp' with hp' | hp'
          · exact hr3 p' hp' x hx
          · rw [List.mem_singleton.mp hp'] at hx
            have := List.length_pos_of_mem hx
            omega
      · rintro acc L ⟨x, rs, rfl, rfl, hr1, hr2, hr3⟩
        rw [List.length_map] at hr1 hr3
        rw [List.take_length] at hr3
        have hnl : noL (.tup (rs.map tupI)) = true := by
          show noLL (rs.map tupI) = true
          exact noLL_rows rs
        exact ⟨hnl, q rs l ⟨by omega, hr2, fun x a b => by
          obtain ⟨p, hp1, hp2⟩ := hc x a (by omega)
          exact hr3 p hp1 x hp2⟩⟩
end

def DpW (ss os : List Int) : Dp → Prop
  | .set _ t l r => ∃ w, 0 ≤ t ∧ ss[t.toNat]? = some w ∧ ColsW w l ∧ ColsW w r
  | .joins t ps => ∃ w, 0 ≤ t ∧ ss[t.toNat]? = some w ∧ PartsW w ps
  | .inc t cs o xs => ∃ (i j : Nat) (wt wo : Int), i < j ∧ os[i]? = some t ∧ os[j]? = some o ∧ 0 ≤ t ∧ 0 ≤ o ∧ ss[t.toNat]? = some wt ∧ ss[o.toNat]? = some wo ∧ cs.length = xs.length ∧ 0 < cs.length ∧ RowM wt cs ∧ RowM wo xs
theorem RowM.of_perm {w : Int} {l : List Int} (h : l.Perm (upto 0 w)) (n : Nat) : RowM w (l.take n) := ⟨(h.nodup_iff.mpr ((upto_asc 0 w).imp fun h e => by omega)).sublist (List.take_sublist ..), fun x hx => by
  have := mem_upto.mp (h.mem_iff.mp (List.mem_of_mem_take hx))
  omega⟩
theorem getD_some {l : List Int} {i : Int} (h0 : 0 ≤ i) (h1 : i < l.length) : l[i.toNat]? = some (l.getD i.toNat 0) := by
  rw [List.getD_eq_getElem?_getD, List.getElem?_eq_getElem (by omega)]; rfl
section
variable {P : Program} {w : World} {K : PySem.W.Frag} {mg : Str → Option Value} {base : Heap}
def sp__law_inclusion : SpD := fun ds R => ∃ (l ss os : List Int), ds = [mlI l, tupI ss, lstI os] ∧ SchB ss ∧ os.Perm (upto 0 ss.length) ∧ 1 < ss.length ∧ ∀ (s : Dp) (l' : List Int), DpW ss os s → R s.d [mlI l', tupI ss, lstI os]
theorem ok__law_inclusion {f : Addr} {fd : FuncData} (F0 : Df K mg "_law_inclusion" p__law_inclusion ["draws", "scheme", "order"] f fd)
    {f__law_take : Addr} {fd__law_take : FuncData} (D__law_take : Df K mg "_law_take" p__law_take ["draws", "many"] f__law_take fd__law_take)
    (G__law_take : FnOk P w K mg base CX0 1 f__law_take fd__law_take ["draws", "many"] (lowF K sp__law_take))
    {f__law_shuffled : Addr} {fd__law_shuffled : FuncData} (D__law_shuffled : Df K mg "_law_shuffled" p__law_shuffled ["draws", "row"] f__law_shuffled fd__law_shuffled)
    (G__law_shuffled : FnOk P w K mg base CX0 2 f__law_shuffled fd__law_shuffled ["draws", "row"] (lowF K sp__law_shuffled))
    (m_len : mg "len" = none)
    (m_min : mg "min" = none)
    (m_range : mg "range" = none)
    (m_tuple : mg "tuple" = none) :
    FnOk P w K mg base CX0 3 f fd ["draws", "scheme", "order"] (lowF K sp__law_inclusion) := by
  refine ok_of F0.F sc__law_inclusion [0] (by decide) (fun cdv A outer s H pn E hr hp => (d_seq (d_set (i := 3) sc__law_inclusion.nd rfl (.inl rfl) (hp 3 rfl) (d_fzE (d_call G__law_take (hr.mono (by decide)) (by rfl) D__law_take.g D__law_take.F.kp D__law_take.b pass0 (r_s 0 (r_e (d_op op_sub up_int0 (d_callB call_lenA up_len (by rfl) m_len PySem.boot_len (d_consA (dv 2) d_nilA)) d_int) r_nil)))))
      (d_seq (d_set (i := 4) sc__law_inclusion.nd rfl (.inl rfl) (hp 4 rfl) (d_ix (dv 2) (dv 3)))
      (d_seq (d_set (i := 5) sc__law_inclusion.nd rfl (.inl rfl) (hp 5 rfl) (d_ix (dv 2) (d_op op_addAll up_add (d_op op_addAll up_add (dv 3) d_int) (d_fzE (d_call G__law_take (hr.mono (by decide)) (by rfl) D__law_take.g D__law_take.F.kp D__law_take.b pass0 (r_s 0 (r_e (d_op op_sub up_int0 (d_op op_sub up_int0 (d_callB call_lenA up_len (by rfl) m_len PySem.boot_len (d_consA (dv 2) d_nilA)) d_int) (dv 3)) r_nil)))))))
      (d_seq (d_set (i := 6) sc__law_inclusion.nd rfl (.inl rfl) (hp 6 rfl) (d_op op_addAll up_add d_int (d_fzE (d_call G__law_take (hr.mono (by decide)) (by rfl) D__law_take.g D__law_take.F.kp D__law_take.b pass0 (r_s 0 (r_e (d_callB (call_min2 (by rfl)) up_ints2 (by rfl) m_min (by decide +kernel) (d_consA (d_ix (dv 1) (dv 4)) (d_consA (d_ix (dv 1) (dv 5)) d_nilA))) r_nil))))))
      (d_seq (d_set (i := 7) sc__law_inclusion.nd rfl (.inl rfl) (hp 7 rfl) (d_slice (d_fzE (d_call G__law_shuffled (hr.mono (by decide)) (by rfl) D__law_shuffled.g D__law_shuffled.F.kp D__law_shuffled.b pass0 (r_s 0 (r_e (d_lc (own := [("column", 9)]) (by rfl) sc__law_inclusion.nd (i_range1 (by rfl) m_range (d_consA (d_ix (dv 1) (dv 4)) d_nilA)) (blkOk_by (N := n__law_inclusion) (sc := defScope p__law_inclusion) (by decide +kernel)) (by decide) (hp1 (hp 9 rfl)) (fun _ _ _ _ _ => (g_name (i := 9) sc__law_inclusion.nd rfl (Or.inl rfl) (hp 9 rfl))) (fun _ _ _ _ _ => d_yes) (fun _ _ _ _ _ => (dv 9))) r_nil)))) d_noP (d_part (dv 6))))
      (d_seq (d_set (i := 8) sc__law_inclusion.nd rfl (.inl rfl) (hp 8 rfl) (d_slice (d_fzE (d_call G__law_shuffled (hr.mono (by decide)) (by rfl) D__law_shuffled.g D__law_shuffled.F.kp D__law_shuffled.b pass0 (r_s 0 (r_e (d_lc (own := [("column", 9)]) (by rfl) sc__law_inclusion.nd (i_range1 (by rfl) m_range (d_consA (d_ix (dv 1) (dv 5)) d_nilA)) (blkOk_by (N := n__law_inclusion) (sc := defScope p__law_inclusion) (by decide +kernel)) (by decide) (hp1 (hp 9 rfl)) (fun _ _ _ _ _ => (g_name (i := 9) sc__law_inclusion.nd rfl (Or.inl rfl) (hp 9 rfl))) (fun _ _ _ _ _ => d_yes) (fun _ _ _ _ _ => (dv 9))) r_nil)))) d_noP (d_part (dv 6))))
      (d_one (d_ret (d_tup (d_consA d_str (d_consA (dv 4) (d_consA (d_callTy call_tuple_of up_tupF (by rfl) m_tuple boot_tuple (d_consA (dv 7) d_nilA)) (d_consA (dv 5) (d_consA (d_callTy call_tuple_of up_tupF (by rfl) m_tuple boot_tuple (d_consA (dv 8) d_nilA)) d_nilA))))))))))))))) (fun ds R h => ?_)
  try rewrite [gIx_I]
  try rewrite [dSeq_I]
  try rewrite [dRet_I]
  obtain ⟨l, ss, os, rfl, hs, ho, h2, q⟩ := h
  refine ⟨rfl, rfl, ?_⟩
  have hl : os.length = ss.length := by have := ho.length_eq; rw [upto_length] at this; omega
  have hb : ∀ i : Int, 0 ≤ i → i < os.length → 0 ≤ os.getD i.toNat 0 ∧ os.getD i.toNat 0 < ss.length := fun i h0 h1 => mem_upto.mp (ho.mem_iff.mp (DL.getD_mem h0 h1))
  have em : ((os.map DL.D.int).length : Int) = os.length := by rw [List.length_map]
  refine st0 ⟨l, _, rfl, by rw [em]; omega, fun i l1 i0 i1 => ⟨rfl, ?_⟩⟩
  rw [em] at i1
  refine st [some (mlI l1), some (tupI ss), some (lstI os), some (.int i), none, none, none, none, none, none] rfl ?_
  obtain ⟨t0, t1⟩ := hb i (by omega) (by omega)
  have et := getD_some (l := os) (i := i) i0 (by omega)
  have wt := hs.ok _ (DL.getD_mem (d := 0) t0 t1)
  have ewt := getD_some (l := ss) t0 t1
  refine ix_lstI (i := i) (by omega) (by omega) ?_
  generalize os.getD i.toNat 0 = t at t0 t1 wt et ewt ⊢
  generalize ss.getD t.toNat 0 = wtv at wt ewt
  refine st [some (mlI l1), some (tupI ss), some (lstI os), some (.int i), some (.int t), none, none, none, none, none] rfl ?_
  refine ⟨l1, _, rfl, by rw [em]; omega, fun j l2 j0 j1 => ⟨rfl, ?_⟩⟩
  rw [em] at j1
  obtain ⟨o0, o1⟩ := hb (i + 1 + j) (by omega) (by omega)
  have eo := getD_some (l := os) (i := i + 1 + j) (by omega) (by omega)
  have wo := hs.ok _ (DL.getD_mem (d := 0) o0 o1)
  have ewo := getD_some (l := ss) o0 o1
  refine ix_lstI (i := i + 1 + j) (by omega) (by omega) ?_
  generalize os.getD (i + 1 + j).toNat 0 = o at o0 o1 wo eo ewo ⊢
  generalize ss.getD o.toNat 0 = wov at wo ewo
  have at1 : atI (ss.map DL.D.int) t = some (.int wtv) := atI_nat' (j := t.toNat) (by omega) (by rw [List.getElem?_map, ewt]; rfl)
  have at2 : atI (ss.map DL.D.int) o = some (.int wov) := atI_nat' (j := o.toNat) (by omega) (by rw [List.getElem?_map, ewo]; rfl)
  refine st [some (mlI l2), some (tupI ss), some (lstI os), some (.int i), some (.int t), some (.int o), none, none, none, none] rfl ?_
  refine ixT at1 ?_
  refine ixT at2 ?_
  refine ⟨l2, _, rfl, ?_, fun m l3 m0 m1 => ⟨rfl, ?_⟩⟩
  · split <;> omega
  have m2 : m < wtv ∧ m < wov := by split at m1 <;> omega
  refine st [some (mlI l3), some (tupI ss), some (lstI os), some (.int i), some (.int t), some (.int o), some (.int (1 + m)), none, none, none] rfl ?_
  refine ixT at1 ?_
  refine ⟨by omega, by omega, small_le (by rw [rng_length]; omega), fun k acc L => ∃ (x : Option DL.D), L = [some (mlI l3), some (tupI ss), some (lstI os), some (.int i), some (.int t), some (.int o), some (.int (1 + m)), none, none, x] ∧ acc = ((upto 0 wtv).take k).map DL.D.int, ⟨_, rfl, rfl⟩, ?_, ?_⟩
  · rintro k d acc L hd ⟨x, rfl, rfl⟩
    obtain ⟨rfl, hi⟩ := rng_get hd
    exact ⟨_, rfl, by have := (upto_stepD (f := fun k => k) hi).symm; simpa using this⟩
  rintro acc L ⟨x, rfl, rfl⟩
  have e1 : ((upto 0 wtv).take (rng 0 wtv).length).map DL.D.int = (upto 0 wtv).map .int := by
    rw [List.take_of_length_le (by rw [upto_length, rng_length]; omega)]
  rw [e1]
  refine ⟨l3, .lst ((upto 0 wtv).map .int), (upto 0 wtv).map .int, rfl, .lst _, allFr_ints _, by rw [List.length_map, upto_length]; omega, fun xs l4 hx => ?_⟩
  obtain ⟨xs, rfl, hx1⟩ := perm_map_inv hx
  refine ⟨noMo_mlI xs, ?_⟩
  rw [show fz (DL.D.ml (xs.map .int)) = .lst (xs.map .int) from fz_mlI xs]
  refine st [some (mlI l4), some (tupI ss), some (lstI os), some (.int i), some (.int t), some (.int o), some (.int (1 + m)), some (lstI (xs.take (1 + m).toNat)), none, none] (by
    have : DL.cutD (xs.map DL.D.int) none (some (1 + m)) = (xs.take (1 + m).toNat).map .int := by rw [cutD_hi _ (by omega), List.map_take]
    exact Eq.trans rfl (congrArg (fun z9 : List DL.D => [some (mlI l4), some (tupI ss), some (lstI os), some (DL.D.int i), some (DL.D.int t), some (DL.D.int o), some (DL.D.int (1 + m)), some (DL.D.lst z9), none, none]) this)) ?_
  refine ixT at2 ?_
  refine ⟨by omega, by omega, small_le (by rw [rng_length]; omega), fun k acc L => ∃ (x : Option DL.D), L = [some (mlI l4), some (tupI ss), some (lstI os), some (.int i), some (.int t), some (.int o), some (.int (1 + m)), some (lstI (xs.take (1 + m).toNat)), none, x] ∧ acc = ((upto 0 wov).take k).map DL.D.int, ⟨_, rfl, rfl⟩, ?_, ?_⟩
  · rintro k d acc L hd ⟨x, rfl, rfl⟩
    obtain ⟨rfl, hi⟩ := rng_get hd
    exact ⟨_, rfl, by have := (upto_stepD (f := fun k => k) hi).symm; simpa using this⟩
  rintro acc L ⟨x, rfl, rfl⟩
  have e2 : ((upto 0 wov).take (rng 0 wov).length).map DL.D.int = (upto 0 wov).map .int := by
    rw [List.take_of_length_le (by rw [upto_length, rng_length]; omega)]
  rw [e2]
  refine ⟨l4, .lst ((upto 0 wov).map .int), (upto 0 wov).map .int, rfl, .lst _, allFr_ints _, by rw [List.length_map, upto_length]; omega, fun ys l5 hy => ?_⟩
  obtain ⟨ys, rfl, hy1⟩ := perm_map_inv hy
  refine ⟨noMo_mlI ys, ?_⟩
  rw [show fz (DL.D.ml (ys.map .int)) = .lst (ys.map .int) from fz_mlI ys]
  refine stR [some (mlI l5), some (tupI ss), some (lstI os), some (.int i), some (.int t), some (.int o), some (.int (1 + m)), some (lstI (xs.take (1 + m).toNat)), some (lstI (ys.take (1 + m).toNat)), none] (by
    have : DL.cutD (ys.map DL.D.int) none (some (1 + m)) = (ys.take (1 + m).toNat).map .int := by rw [cutD_hi _ (by omega), List.map_take]
    exact Eq.trans rfl (congrArg (fun z9 : List DL.D => [some (mlI l5), some (tupI ss), some (lstI os), some (DL.D.int i), some (DL.D.int t), some (DL.D.int o), some (DL.D.int (1 + m)), some (lstI (xs.take (1 + m).toNat)), some (DL.D.lst z9), none]) this)) ?_
  have hxl : xs.length = wtv.toNat := by have := hx1.length_eq; rw [upto_length] at this; omega
  have hyl : ys.length = wov.toNat := by have := hy1.length_eq; rw [upto_length] at this; omega
  refine ⟨by (first | decide | (exact small_le (by simp only [List.length_cons, List.length_nil]; omega)) | (simp; done) | (simp only [List.length_cons, List.length_nil]; omega)), ?_⟩
  refine q (.inc t (xs.take (1 + m).toNat) o (ys.take (1 + m).toNat)) l5 ⟨i.toNat, (i + 1 + j).toNat, wtv, wov, by omega, et, eo, t0, o0, ewt, ewo, ?_, ?_, .of_perm hx1 _, .of_perm hy1 _⟩
  · rw [List.length_take, List.length_take]; omega
  · rw [List.length_take]; omega
def sp__law_order : SpD := fun ds R => ∃ (l ss : List Int), ds = [mlI l, tupI ss] ∧ SchB ss ∧ ∀ (os l' : List Int), os.Perm (upto 0 ss.length) → R (lstI os) [mlI l', tupI ss]
theorem ok__law_order {f : Addr} {fd : FuncData} (F0 : Df K mg "_law_order" p__law_order ["draws", "scheme"] f fd)
    {f__law_shuffled : Addr} {fd__law_shuffled : FuncData} (D__law_shuffled : Df K mg "_law_shuffled" p__law_shuffled ["draws", "row"] f__law_shuffled fd__law_shuffled)
    (G__law_shuffled : FnOk P w K mg base CX0 2 f__law_shuffled fd__law_shuffled ["draws", "row"] (lowF K sp__law_shuffled))
    (m_len : mg "len" = none)
    (m_range : mg "range" = none) :
    FnOk P w K mg base CX0 3 f fd ["draws", "scheme"] (lowF K sp__law_order) := by
  refine ok_of F0.F sc__law_order [0] (by decide) (fun cdv A outer s H pn E hr hp => (d_one (d_ret (d_fzE (d_call G__law_shuffled (hr.mono (by decide)) (by rfl) D__law_shuffled.g D__law_shuffled.F.kp D__law_shuffled.b pass0 (r_s 0 (r_e (d_lc (own := [("table", 2)]) (by rfl) sc__law_order.nd (i_range1 (by rfl) m_range (d_consA (d_callB call_lenA up_len (by rfl) m_len PySem.boot_len (d_consA (dv 1) d_nilA)) d_nilA)) (blkOk_by (N := n__law_order) (sc := defScope p__law_order) (by decide +kernel)) (by decide) (hp1 (hp 2 rfl)) (fun _ _ _ _ _ => (g_name (i := 2) sc__law_order.nd rfl (Or.inl rfl) (hp 2 rfl))) (fun _ _ _ _ _ => d_yes) (fun _ _ _ _ _ => (dv 2))) r_nil))))))) (fun ds R h => ?_)
  obtain ⟨l, ss, rfl, hs, q⟩ := h
  refine ⟨rfl, rfl, ?_⟩
  have hl := hs.len
  have em : ((ss.map DL.D.int).length : Int) = ss.length := by rw [List.length_map]
  refine ⟨by omega, by omega, small_le (by rw [rng_length]; omega), fun k acc L => ∃ (x : Option DL.D), L = [some (mlI l), some (tupI ss), x] ∧ acc = ((upto 0 (ss.length : Int)).take k).map DL.D.int, ⟨_, rfl, rfl⟩, ?_, ?_⟩
  · rintro k d acc L hd ⟨x, rfl, rfl⟩
    rw [em] at hd
    obtain ⟨rfl, hi⟩ := rng_get hd
    exact ⟨_, rfl, by have := (upto_stepD (f := fun k => k) hi).symm; simpa using this⟩
  rintro acc L ⟨x, rfl, rfl⟩
  have e1 : ((upto 0 (ss.length : Int)).take (rng 0 ((ss.map DL.D.int).length : Int)).length).map DL.D.int = (upto 0 (ss.length : Int)).map .int := by
    rw [List.take_of_length_le (by rw [upto_length, rng_length]; omega)]
  rw [e1]
  refine ⟨l, .lst ((upto 0 (ss.length : Int)).map .int), (upto 0 (ss.length : Int)).map .int, rfl, .lst _, allFr_ints _, by rw [List.length_map, upto_length]; omega, fun xs l4 hx => ?_⟩
  obtain ⟨xs, rfl, hx1⟩ := perm_map_inv hx
  refine ⟨noMo_mlI xs, ?_⟩
  rw [show fz (DL.D.ml (xs.map .int)) = .lst (xs.map .int) from fz_mlI xs]
  exact q xs l4 hx1

/-- an inclusion between two tables that there are -/
structure IncS (ss : List Int) (t : Int) (cs : List Int) (o : Int) (xs : List Int) : Prop where
  left : ∃ w, Wd ss t w ∧ RowM w cs
  right : ∃ w, Wd ss o w ∧ RowM w xs
  len : cs.length = xs.length
  pos : 0 < cs.length
def sp__law_between : SpD := fun ds R => ∃ (l ss : List Int) (t o : Int), ds = [mlI l, tupI ss, .int t, .int o] ∧ SchB ss ∧ 0 ≤ t ∧ t < (ss.length : Int) ∧ 0 ≤ o ∧ o < (ss.length : Int) ∧ ∀ (cs xs l' : List Int), IncS ss t cs o xs → R (Dp.inc t cs o xs).d [mlI l', tupI ss, .int t, .int o]
theorem ok__law_between {f : Addr} {fd : FuncData} (F0 : Df K mg "_law_between" p__law_between ["draws", "scheme", "table", "other"] f fd)
    {f__law_take : Addr} {fd__law_take : FuncData} (D__law_take : Df K mg "_law_take" p__law_take ["draws", "many"] f__law_take fd__law_take)
    (G__law_take : FnOk P w K mg base CX0 1 f__law_take fd__law_take ["draws", "many"] (lowF K sp__law_take))
    {f__law_shuffled : Addr} {fd__law_shuffled : FuncData} (D__law_shuffled : Df K mg "_law_shuffled" p__law_shuffled ["draws", "row"] f__law_shuffled fd__law_shuffled)
    (G__law_shuffled : FnOk P w K mg base CX0 2 f__law_shuffled fd__law_shuffled ["draws", "row"] (lowF K sp__law_shuffled))
    (m_min : mg "min" = none)
    (m_range : mg "range" = none)
    (m_tuple : mg "tuple" = none) :
    FnOk P w K mg base CX0 3 f fd ["draws", "scheme", "table", "other"] (lowF K sp__law_between) := by
  refine ok_of F0.F sc__law_between [0] (by decide) (fun cdv A outer s H pn E hr hp => (d_seq (d_set (i := 4) sc__law_between.nd rfl (.inl rfl) (hp 4 rfl) (d_op op_addAll up_add d_int (d_fzE (d_call G__law_take (hr.mono (by decide)) (by rfl) D__law_take.g D__law_take.F.kp D__law_take.b pass0 (r_s 0 (r_e (d_callB (call_min2 (by rfl)) up_ints2 (by rfl) m_min (by decide +kernel) (d_consA (d_ix (dv 1) (dv 2)) (d_consA (d_ix (dv 1) (dv 3)) d_nilA))) r_nil))))))
      (d_seq (d_set (i := 5) sc__law_between.nd rfl (.inl rfl) (hp 5 rfl) (d_slice (d_fzE (d_call G__law_shuffled (hr.mono (by decide)) (by rfl) D__law_shuffled.g D__law_shuffled.F.kp D__law_shuffled.b pass0 (r_s 0 (r_e (d_lc (own := [("column", 7)]) (by rfl) sc__law_between.nd (i_range1 (by rfl) m_range (d_consA (d_ix (dv 1) (dv 2)) d_nilA)) (blkOk_by (N := n__law_between) (sc := defScope p__law_between) (by decide +kernel)) (by decide) (hp1 (hp 7 rfl)) (fun _ _ _ _ _ => (g_name (i := 7) sc__law_between.nd rfl (Or.inl rfl) (hp 7 rfl))) (fun _ _ _ _ _ => d_yes) (fun _ _ _ _ _ => (dv 7))) r_nil)))) d_noP (d_part (dv 4))))
      (d_seq (d_set (i := 6) sc__law_between.nd rfl (.inl rfl) (hp 6 rfl) (d_slice (d_fzE (d_call G__law_shuffled (hr.mono (by decide)) (by rfl) D__law_shuffled.g D__law_shuffled.F.kp D__law_shuffled.b pass0 (r_s 0 (r_e (d_lc (own := [("column", 7)]) (by rfl) sc__law_between.nd (i_range1 (by rfl) m_range (d_consA (d_ix (dv 1) (dv 3)) d_nilA)) (blkOk_by (N := n__law_between) (sc := defScope p__law_between) (by decide +kernel)) (by decide) (hp1 (hp 7 rfl)) (fun _ _ _ _ _ => (g_name (i := 7) sc__law_between.nd rfl (Or.inl rfl) (hp 7 rfl))) (fun _ _ _ _ _ => d_yes) (fun _ _ _ _ _ => (dv 7))) r_nil)))) d_noP (d_part (dv 4))))
      (d_one (d_ret (d_tup (d_consA d_str (d_consA (dv 2) (d_consA (d_callTy call_tuple_of up_tupF (by rfl) m_tuple boot_tuple (d_consA (dv 5) d_nilA)) (d_consA (dv 3) (d_consA (d_callTy call_tuple_of up_tupF (by rfl) m_tuple boot_tuple (d_consA (dv 6) d_nilA)) d_nilA)))))))))))) (fun ds R h => ?_)
  try rewrite [gIx_I]
  try rewrite [dSeq_I]
  try rewrite [dRet_I]
  obtain ⟨l, ss, t, o, rfl, hs, t0, t1, o0, o1, q⟩ := h
  refine ⟨rfl, rfl, ?_⟩
  have wt := hs.ok _ (DL.getD_mem (d := 0) t0 t1)
  have ewt := getD_some (l := ss) t0 t1
  have wo := hs.ok _ (DL.getD_mem (d := 0) o0 o1)
  have ewo := getD_some (l := ss) o0 o1
  generalize ss.getD t.toNat 0 = wtv at wt ewt
  generalize ss.getD o.toNat 0 = wov at wo ewo
  have at1 : atI (ss.map DL.D.int) t = some (.int wtv) := atI_nat' (j := t.toNat) (by omega) (by rw [List.getElem?_map, ewt]; rfl)
  have at2 : atI (ss.map DL.D.int) o = some (.int wov) := atI_nat' (j := o.toNat) (by omega) (by rw [List.getElem?_map, ewo]; rfl)
  refine st0 ?_
  refine ixT at1 ?_
  refine ixT at2 ?_
  refine ⟨l, _, rfl, ?_, fun m l3 m0 m1 => ⟨rfl, ?_⟩⟩
  · split <;> omega
  have m2 : m < wtv ∧ m < wov := by split at m1 <;> omega
  refine st [some (mlI l3), some (tupI ss), some (.int t), some (.int o), some (.int (1 + m)), none, none, none] rfl ?_
  refine ixT at1 ?_
  refine ⟨by omega, by omega, small_le (by rw [rng_length]; omega), fun k acc L => ∃ (x : Option DL.D), L = [some (mlI l3), some (tupI ss), some (.int t), some (.int o), some (.int (1 + m)), none, none, x] ∧ acc = ((upto 0 wtv).take k).map DL.D.int, ⟨_, rfl, rfl⟩, ?_, ?_⟩
  · rintro k d acc L hd ⟨x, rfl, rfl⟩
    obtain ⟨rfl, hi⟩ := rng_get hd
    exact ⟨_, rfl, by have := (upto_stepD (f := fun k => k) hi).symm; simpa using this⟩
  rintro acc L ⟨x, rfl, rfl⟩
  have e1 : ((upto 0 wtv).take (rng 0 wtv).length).map DL.D.int = (upto 0 wtv).map .int := by
    rw [List.take_of_length_le (by rw [upto_length, rng_length]; omega)]
  rw [e1]
  refine ⟨l3, .lst ((upto 0 wtv).map .int), (upto 0 wtv).map .int, rfl, .lst _, allFr_ints _, by rw [List.length_map, upto_length]; omega, fun xs l4 hx => ?_⟩
  obtain ⟨xs, rfl, hx1⟩ := perm_map_inv hx
  refine ⟨noMo_mlI xs, ?_⟩
  rw [show fz (DL.D.ml (xs.map .int)) = .lst (xs.map .int) from fz_mlI xs]
  refine st [some (mlI l4), some (tupI ss), some (.int t), some (.int o), some (.int (1 + m)), some (lstI (xs.take (1 + m).toNat)), none, none] (by
    have : DL.cutD (xs.map DL.D.int) none (some (1 + m)) = (xs.take (1 + m).toNat).map .int := by rw [cutD_hi _ (by omega), List.map_take]
    exact Eq.trans rfl (congrArg (fun z9 : List DL.D => [some (mlI l4), some (tupI ss), some (DL.D.int t), some (DL.D.int o), some (DL.D.int (1 + m)), some (DL.D.lst z9), none, none]) this)) ?_
  refine ixT at2 ?_
  refine ⟨by omega, by omega, small_le (by rw [rng_length]; omega), fun k acc L => ∃ (x : Option DL.D), L = [some (mlI l4), some (tupI ss), some (.int t), some (.int o), some (.int (1 + m)), some (lstI (xs.take (1 + m).toNat)), none, x] ∧ acc = ((upto 0 wov).take k).map DL.D.int, ⟨_, rfl, rfl⟩, ?_, ?_⟩
  · rintro k d acc L hd ⟨x, rfl, rfl⟩
    obtain ⟨rfl, hi⟩ := rng_get hd
    exact ⟨_, rfl, by have := (upto_stepD (f := fun k => k) hi).symm; simpa using this⟩
  rintro acc L ⟨x, rfl, rfl⟩
  have e2 : ((upto 0 wov).take (rng 0 wov).length).map DL.D.int = (upto 0 wov).map .int := by
    rw [List.take_of_length_le (by rw [upto_length, rng_length]; omega)]
  rw [e2]
  refine ⟨l4, .lst ((upto 0 wov).map .int), (upto 0 wov).map .int, rfl, .lst _, allFr_ints _, by rw [List.length_map, upto_length]; omega, fun ys l5 hy => ?_⟩
  obtain ⟨ys, rfl, hy1⟩ := perm_map_inv hy
  refine ⟨noMo_mlI ys, ?_⟩
  rw [show fz (DL.D.ml (ys.map .int)) = .lst (ys.map .int) from fz_mlI ys]
  refine stR [some (mlI l5), some (tupI ss), some (.int t), some (.int o), some (.int (1 + m)), some (lstI (xs.take (1 + m).toNat)), some (lstI (ys.take (1 + m).toNat)), none] (by
    have : DL.cutD (ys.map DL.D.int) none (some (1 + m)) = (ys.take (1 + m).toNat).map .int := by rw [cutD_hi _ (by omega), List.map_take]
    exact Eq.trans rfl (congrArg (fun z9 : List DL.D => [some (mlI l5), some (tupI ss), some (DL.D.int t), some (DL.D.int o), some (DL.D.int (1 + m)), some (lstI (xs.take (1 + m).toNat)), some (DL.D.lst z9), none]) this)) ?_
  have hxl : xs.length = wtv.toNat := by have := hx1.length_eq; rw [upto_length] at this; omega
  have hyl : ys.length = wov.toNat := by have := hy1.length_eq; rw [upto_length] at this; omega
  refine ⟨by (first | decide | (exact small_le (by simp only [List.length_cons, List.length_nil]; omega)) | (simp; done) | (simp only [List.length_cons, List.length_nil]; omega)), ?_⟩
  refine q (xs.take (1 + m).toNat) (ys.take (1 + m).toNat) l5 ⟨⟨wtv, ⟨t0, ewt⟩, .of_perm hx1 _⟩, ⟨wov, ⟨o0, ewo⟩, .of_perm hy1 _⟩, ?_, ?_⟩
  · rw [List.length_take, List.length_take]; omega
  · rw [List.length_take]; omega
end

end LW

/-! Rings found by taking out those from which nothing leads on. -/
namespace RG
def stepL (E : Ed) (S : List Int) : List Int := S.filter fun v => decide (v ∈ (E.filter fun e => decide (e.2 ∈ S)).map Prod.fst)
def itL (E : Ed) (N : List Int) : Nat → List Int
  | 0 => N
  | k + 1 => stepL E (itL E N k)
theorem mem_step {E : Ed} {S : List Int} {v : Int} : v ∈ stepL E S ↔ v ∈ S ∧ ∃ u ∈ S, (v, u) ∈ E := by
  unfold stepL
  rw [List.mem_filter, decide_eq_true_eq, List.mem_map]
  refine and_congr_right fun _ => ⟨?_, ?_⟩
  · rintro ⟨e, he, rfl⟩
    have := List.mem_filter.mp he
    exact ⟨e.2, of_decide_eq_true this.2, this.1⟩
  · rintro ⟨u, hu, he⟩
    exact ⟨(v, u), List.mem_filter.mpr ⟨he, decide_eq_true hu⟩, rfl⟩
theorem itL_sub {E : Ed} {N : List Int} {v : Int} {k : Nat} : ∀ {m : Nat}, k ≤ m → v ∈ itL E N m → v ∈ itL E N k
  | 0, h, hv => by have : k = 0 := by omega
                   subst this; exact hv
  | m + 1, h, hv => by
    by_cases e : k = m + 1
    · subst e; exact hv
    · exact itL_sub (m := m) (by omega) (mem_step.mp hv).1
theorem itL_fix {E : Ed} {N : List Int} {k : Nat} (h : (itL E N (k + 1)).length = (itL E N k).length) : ∀ d, itL E N (k + d) = itL E N k
  | 0 => rfl
  | d + 1 => by
    have e : itL E N (k + 1) = itL E N k := by
      show stepL E (itL E N k) = _
      have h : (stepL E (itL E N k)).length = _ := h
      unfold stepL at h ⊢
      exact List.filter_eq_self.mpr (List.length_filter_eq_length_iff.mp h)
    show stepL E (itL E N (k + d)) = _
    rw [itL_fix h d]
    exact e
theorem itL_drop {E : Ed} {N : List Int} : ∀ n : Nat, (∃ k, k < n ∧ (itL E N (k + 1)).length = (itL E N k).length) ∨ (itL E N n).length + n ≤ N.length
  | 0 => .inr (Nat.le_refl _)
  | n + 1 => by
    rcases itL_drop n with ⟨k, hk, e⟩ | h
    · exact .inl ⟨k, by omega, e⟩
    · have hle : (itL E N (n + 1)).length ≤ (itL E N n).length := List.length_filter_le ..
      by_cases e : (itL E N (n + 1)).length = (itL E N n).length
      · exact .inl ⟨n, by omega, e⟩
      · exact .inr (by omega)
theorem has_max (f : Int → Nat) : ∀ {S : List Int}, S ≠ [] → ∃ v ∈ S, ∀ u ∈ S, f u ≤ f v
  | [a], _ => ⟨a, List.mem_cons_self .., fun u hu => by rw [List.mem_singleton.mp hu]; exact Nat.le_refl _⟩
  | a :: b :: r, _ => by
    obtain ⟨v, hv, h⟩ := has_max f (S := b :: r) (by simp)
    by_cases c : f a ≤ f v
    · exact ⟨v, List.mem_cons_of_mem _ hv, fun u hu => (List.mem_cons.mp hu).elim (fun e => by rw [e]; exact c) (h u)⟩
    · exact ⟨a, List.mem_cons_self .., fun u hu => (List.mem_cons.mp hu).elim (fun e => by rw [e]; exact Nat.le_refl _) fun hu => by have := h u hu; omega⟩
theorem left_told {E : Ed} {N : List Int} (hN : ∀ e ∈ E, e.1 ∈ N ∧ e.2 ∈ N) {n : Nat} (hn : N.length ≤ n) : itL E N n = [] ↔ Free E := by
  constructor
  · intro h
    have up : ∀ k (e : Int × Int), e ∈ E → e.2 ∈ itL E N k → e.1 ∈ itL E N (k + 1) := by
      intro k
      induction k with
      | zero => intro e he h2; exact mem_step.mpr ⟨(hN e he).1, e.2, h2, he⟩
      | succ k ih => intro e he h2; exact mem_step.mpr ⟨ih e he (itL_sub (Nat.le_succ k) h2), e.2, h2, he⟩
    refine ⟨fun v => n + 1 - (List.range (n + 1)).countP fun k => decide (v ∈ itL E N k), fun e he => ?_⟩
    have h1 : (List.range (n + 1)).countP (fun k => decide (e.2 ∈ itL E N k)) = (List.range n).countP fun k => decide (e.2 ∈ itL E N k) := by
      rw [List.range_succ, List.countP_append, List.countP_singleton, if_neg (by rw [h]; simp)]; rfl
    have h2 : (List.range (n + 1)).countP (fun k => decide (e.1 ∈ itL E N k)) = ((List.range n).countP fun k => decide (e.1 ∈ itL E N (k + 1))) + 1 := by
      rw [List.range_succ_eq_map, List.countP_cons, if_pos (decide_eq_true (show e.1 ∈ itL E N 0 from (hN e he).1)), List.countP_map]; rfl
    have h3 : ((List.range n).countP fun k => decide (e.2 ∈ itL E N k)) ≤ (List.range n).countP fun k => decide (e.1 ∈ itL E N (k + 1)) := List.countP_mono_left fun k _ h => decide_eq_true (up k e he (of_decide_eq_true h))
    have h4 : (List.range (n + 1)).countP (fun k => decide (e.1 ∈ itL E N k)) ≤ n + 1 := Nat.le_trans List.countP_le_length (by rw [List.length_range]; exact Nat.le_refl _)
    show n + 1 - _ < n + 1 - _
    omega
  · rintro ⟨rank, hr⟩
    refine Classical.byContradiction fun hne => ?_
    rcases itL_drop (E := E) (N := N) n with ⟨k, hk, e⟩ | h
    · have fx := itL_fix e
      have e1 : itL E N n = itL E N k := by
        have := fx (n - k)
        rwa [show k + (n - k) = n by omega] at this
      rw [e1] at hne
      obtain ⟨v, hv, hm⟩ := has_max rank hne
      have hv2 : v ∈ itL E N (k + 1) := by rw [fx 1]; exact hv
      obtain ⟨u, hu, he⟩ := (mem_step.mp hv2).2
      have := hm u hu
      have := hr _ he
      simp only at this
      omega
    · exact hne (List.length_eq_zero_iff.mp (by omega))
end RG

namespace LW
open PySem PySem.Spec PyProof.Rows L2 DL
abbrev names8 : List Str := ["InvalidScheme", "InvalidBook", "InvalidStore", "BadText", "NoTable", "NoRow", "DoubledRow", "NoDependency"]
abbrev names11 : List Str := ["InvalidScheme", "InvalidBook", "InvalidStore", "BadText", "NoTable", "NoRow", "DoubledRow", "NoDependency", "Breach", "NothingToUndo", "NothingToRedo", "InvalidQuestion"]
theorem eqSb {x y : Str} {k : DL.D → Prop} (q : k (.bl (decide (x = y)))) : gEqBI false (.str x) (.str y) k := eqB q
theorem eqS {x y : Str} {k : DL.D → Prop} (h : x = y) (q : k (.bl true)) : gEqBI false (.str x) (.str y) k := eqB (by
  show k (.bl (decide (x = y)))
  rw [decide_eq_true h]; exact q)
theorem eqSn {x y : Str} {k : DL.D → Prop} (h : x ≠ y) (q : k (.bl false)) : gEqBI false (.str x) (.str y) k := eqB (by
  show k (.bl (decide (x = y)))
  rw [decide_eq_false h]; exact q)
theorem neS {x y : Str} {k : DL.D → Prop} (h : x = y) (q : k (.bl false)) : gEqBI true (.str x) (.str y) k := eqB (by
  show k (.bl (!decide (x = y)))
  rw [decide_eq_true h]; exact q)
theorem eqIb {x y : Int} {k : DL.D → Prop} (q : k (.bl (decide (x = y)))) : gEqBI false (.int x) (.int y) k := eqB q

abbrev pairD (e : Int × Int) : DL.D := .tup [.int e.1, .int e.2]
theorem take_all {α : Type} {l : List α} {n : Nat} (h : n = l.length) : l.take n = l := List.take_of_length_le (by omega)
section
variable {P : Program} {w : World} {K : PySem.W.Frag} {mg : Str → Option Value} {base : Heap}

def sp__law_error_name (er : Er) : SpD := fun ds R => ds = [.er er.InvalidBook []] ∧ R (.str "InvalidBook") [.er er.InvalidBook []]
theorem ok__law_error_name {f : Addr} {fd : FuncData} (F0 : Df K mg "_law_error_name" p__law_error_name ["e"] f fd)
    {er : Er} (ER : ErOk P K mg er)
    (m_ValueError : mg "ValueError" = none)
    (m_int : mg "int" = none)
    (m_isinstance : mg "isinstance" = none)
    (m_len : mg "len" = none)
    (m_range : mg "range" = none) :
    FnE P w K mg base CX0 1 f fd ["e"] (lowF K (sp__law_error_name er)) := by
  refine ok_ofE F0.F sc__law_error_name (fun cdv A outer s H pn E hot hr hp => (d_seq (d_if (d_not (d_tst (d_isB (K := K) rfl (T := "ValueError") (by rfl) m_ValueError PyProof.Rows.Boot.«ValueError» (by rfl) m_isinstance (dv 0))))
      (d_one (d_ret d_str))
      d_nil)
      (d_seq (d_setM (i := 1) sc__law_error_name.nd rfl (.inr rfl) (hp 1) (d_lstM (d_consA (d_isE (K := K) rfl (by rfl) ER.g_InvalidScheme (by rfl) m_isinstance (dv 0)) (d_consA (d_isE (K := K) rfl (by rfl) ER.g_InvalidBook (by rfl) m_isinstance (dv 0)) (d_consA (d_isE (K := K) rfl (by rfl) ER.g_InvalidStore (by rfl) m_isinstance (dv 0)) (d_consA (d_isE (K := K) rfl (by rfl) ER.g_BadText (by rfl) m_isinstance (dv 0)) d_nilA))))))
      (d_seq (d_setM (i := 1) sc__law_error_name.nd rfl (.inr rfl) (hp 1) (d_addM (dv 1) (d_lst (d_consA (d_isE (K := K) rfl (by rfl) ER.g_NoTable (by rfl) m_isinstance (dv 0)) (d_consA (d_isE (K := K) rfl (by rfl) ER.g_NoRow (by rfl) m_isinstance (dv 0)) (d_consA (d_isE (K := K) rfl (by rfl) ER.g_DoubledRow (by rfl) m_isinstance (dv 0)) (d_consA (d_isE (K := K) rfl (by rfl) ER.g_NoDependency (by rfl) m_isinstance (dv 0)) d_nilA)))))))
      (d_seq (d_setM (i := 1) sc__law_error_name.nd rfl (.inr rfl) (hp 1) (d_addM (dv 1) (d_lst (d_consA (d_isE (K := K) rfl (by rfl) ER.g_Breach (by rfl) m_isinstance (dv 0)) (d_consA (d_isE (K := K) rfl (by rfl) ER.g_NothingToUndo (by rfl) m_isinstance (dv 0)) (d_consA (d_isE (K := K) rfl (by rfl) ER.g_NothingToRedo (by rfl) m_isinstance (dv 0)) d_nilA))))))
      (d_seq (d_exp (d_lm 1 PySem.F.plainAttrs_list PySem.F.slot_list_append PySem.F.type_list_append mt_append up_app (d_consA (d_isE (K := K) rfl (by rfl) ER.g_InvalidQuestion (by rfl) m_isinstance (dv 0)) d_nilA)))
      (d_seq (d_set (i := 2) sc__law_error_name.nd rfl (.inr rfl) (hp 2) (d_lst (d_consA d_str (d_consA d_str (d_consA d_str (d_consA d_str (d_consA d_str (d_consA d_str (d_consA d_str (d_consA d_str d_nilA))))))))))
      (d_seq (d_set (i := 2) sc__law_error_name.nd rfl (.inr rfl) (hp 2) (d_op op_addAll up_add (dv 2) (d_lst (d_consA d_str (d_consA d_str (d_consA d_str (d_consA d_str d_nilA)))))))
      (d_seq (d_setLcH (i := 3) (own := [("k", 4)]) hot sc__law_error_name.nd rfl rfl (hp 3) (sw_true rfl rfl rfl (by decide +kernel)) (i_rangeH (by rfl) m_range (d_consA d_int d_nilA)) (blkOk_by (N := n__law_error_name) (sc := defScope p__law_error_name) (by decide +kernel)) (by decide) (hp1 (hp 4)) (fun _ _ _ _ _ => (g_name (i := 4) sc__law_error_name.nd rfl (Or.inl rfl) (hp 4))) (fun _ _ _ _ _ => (d_one' (d_tru (d_ixM 1 (dv 4))))) (fun _ _ _ _ _ => (d_ix (dv 2) (dv 4))))
      (d_one (d_ret (d_join d_str (d_op op_addAll up_add (dv 3) (d_op op_mulAll up_mul (d_lst (d_consA d_str d_nilA)) (d_callTy call_int1 up_intF (by rfl) m_int boot_int (d_consA (d_cmp (op_eqAll (u64W hr)) up_eq (nomark _) (d_callB call_lenA up_len (by rfl) m_len PySem.boot_len (d_consA (dv 3) d_nilA)) d_int) d_nilA)))))))))))))))) (fun ds R h => ?_)
  try rewrite [gIx_I]
  try rewrite [dJoin_J]
  try rewrite [dSeq_I]
  try rewrite [dRet_I]
  obtain ⟨rfl, q⟩ := h
  have C := ER.e_InvalidBook
  have kat : ∀ i < 12, ([false, true, false, false, false, false, false, false, false, false, false, false] : List Bool)[i]? = some (decide (i = 1)) := by decide
  refine ⟨rfl, rfl, ?_⟩
  refine st0 ⟨true, ⟨C, ER.k_InvalidBook_ValueError⟩, ?_⟩
  refine st [some (DL.D.er er.InvalidBook []), none, none, none, none] rfl ?_
  refine ⟨false, ⟨C, ER.k_InvalidBook_InvalidScheme⟩, true, ⟨C, ER.k_InvalidBook_InvalidBook⟩, false, ⟨C, ER.k_InvalidBook_InvalidStore⟩, false, ⟨C, ER.k_InvalidBook_BadText⟩, by (first | decide | (exact small_le (by simp only [List.length_cons, List.length_nil]; omega)) | (simp; done) | (simp only [List.length_cons, List.length_nil]; omega)), ?_⟩
  refine st [some (DL.D.er er.InvalidBook []), some (.ml ([false, true, false, false].map .bl)), none, none, none] rfl ?_
  refine ⟨rfl, false, ⟨C, ER.k_InvalidBook_NoTable⟩, false, ⟨C, ER.k_InvalidBook_NoRow⟩, false, ⟨C, ER.k_InvalidBook_DoubledRow⟩, false, ⟨C, ER.k_InvalidBook_NoDependency⟩, by (first | decide | (exact small_le (by simp only [List.length_cons, List.length_nil]; omega)) | (simp; done) | (simp only [List.length_cons, List.length_nil]; omega)), rfl, by (first | decide | (exact small_le (by simp only [List.length_cons, List.length_nil]; omega)) | (simp; done) | (simp only [List.length_cons, List.length_nil]; omega)), ?_⟩
  refine st [some (DL.D.er er.InvalidBook []), some (.ml ([false, true, false, false, false, false, false, false].map .bl)), none, none, none] rfl ?_
  refine ⟨rfl, false, ⟨C, ER.k_InvalidBook_Breach⟩, false, ⟨C, ER.k_InvalidBook_NothingToUndo⟩, false, ⟨C, ER.k_InvalidBook_NothingToRedo⟩, by (first | decide | (exact small_le (by simp only [List.length_cons, List.length_nil]; omega)) | (simp; done) | (simp only [List.length_cons, List.length_nil]; omega)), rfl, by (first | decide | (exact small_le (by simp only [List.length_cons, List.length_nil]; omega)) | (simp; done) | (simp only [List.length_cons, List.length_nil]; omega)), ?_⟩
  refine st [some (DL.D.er er.InvalidBook []), some (.ml ([false, true, false, false, false, false, false, false, false, false, false].map .bl)), none, none, none] rfl ?_
  refine ⟨rfl, false, ⟨C, ER.k_InvalidBook_InvalidQuestion⟩, rfl, small_lt (by decide), ?_⟩
  refine st [some (DL.D.er er.InvalidBook []), some (.ml ([false, true, false, false, false, false, false, false, false, false, false, false].map .bl)), none, none, none] rfl ?_
  refine ⟨by (first | decide | (exact small_le (by simp only [List.length_cons, List.length_nil]; omega)) | (simp; done) | (simp only [List.length_cons, List.length_nil]; omega)), ?_⟩
  refine st [some (DL.D.er er.InvalidBook []), some (.ml ([false, true, false, false, false, false, false, false, false, false, false, false].map .bl)), some (.lst (names8.map .str)), none, none] rfl ?_
  refine ⟨by (first | decide | (exact small_le (by simp only [List.length_cons, List.length_nil]; omega)) | (simp; done) | (simp only [List.length_cons, List.length_nil]; omega)), by (first | decide | (exact small_le (by simp only [List.length_cons, List.length_nil]; omega)) | (simp; done) | (simp only [List.length_cons, List.length_nil]; omega)), ?_⟩
  refine st [some (DL.D.er er.InvalidBook []), some (.ml ([false, true, false, false, false, false, false, false, false, false, false, false].map .bl)), some (.lst (names11.map .str)), none, none] rfl ?_
  refine ⟨by decide, by decide, small_le (by decide), fun i acc L => ∃ x : Option DL.D, L = [some (DL.D.er er.InvalidBook []), some (.ml ([false, true, false, false, false, false, false, false, false, false, false, false].map .bl)), some (.lst (names11.map .str)), none, x] ∧ acc = (if i ≤ 1 then [] else [DL.D.str "InvalidBook"]), ⟨_, rfl, rfl⟩, ?_, ?_⟩
  · rintro i d acc L hd ⟨x, rfl, rfl⟩
    obtain ⟨rfl, hi⟩ := rng_get hd
    have e1 : (([false, true, false, false, false, false, false, false, false, false, false, false] : List Bool).map DL.D.bl)[i]? = some (.bl (decide (i = 1))) := by rw [List.getElem?_map, kat i (by omega)]; rfl
    refine ⟨rfl, atM_ok rfl rfl (atI_nat' (j := i) (by omega) e1) ?_⟩
    refine dec2 (fun z => ?_) (fun z => ?_)
    · subst z
      refine ixL (d := .str "InvalidBook") (atI_nat' (j := 1) rfl rfl) ?_
      exact ⟨_, rfl, rfl⟩
    · refine ⟨_, rfl, ?_⟩
      by_cases h3 : i ≤ 1
      · rw [if_pos h3, if_pos (by omega)]
      · rw [if_neg h3, if_neg (by omega)]
  · rintro acc L ⟨x, rfl, rfl⟩
    have e2 : (if (rng 0 12).length ≤ 1 then [] else [DL.D.str "InvalidBook"]) = [.str "InvalidBook"] := by rw [rng_length]; rfl
    rw [e2]
    refine stR [some (DL.D.er er.InvalidBook []), some (.ml ([false, true, false, false, false, false, false, false, false, false, false, false].map .bl)), some (.lst (names11.map .str)), some (.lst [.str "InvalidBook"]), none] rfl ?_
    refine ⟨rfl, by (first | decide | (exact small_le (by simp only [List.length_cons, List.length_nil]; omega)) | (simp; done) | (simp only [List.length_cons, List.length_nil]; omega)), ⟨by decide, by decide, by (first | decide | (exact small_le (by simp only [List.length_cons, List.length_nil]; omega)) | (simp; done) | (simp only [List.length_cons, List.length_nil]; omega)), by (first | decide | (exact small_le (by simp only [List.length_cons, List.length_nil]; omega)) | (simp; done) | (simp only [List.length_cons, List.length_nil]; omega)), ?_⟩⟩
    refine join_ok (ws := ["InvalidBook"]) (by decide) ?_
    exact q

def sp__law_checked (er : Er) : SpD := fun ds R => ∃ (ws : List Int) (bs : List Dp), ds = [.str "book", tupI ws, .tup (bs.map Dp.d)] ∧ bs.length ≤ 4000 ∧ (∀ s ∈ bs, s.Few) ∧ (BookR ws bs → R (.str "taken") [.str "book", tupI ws, .tup (bs.map Dp.d)]) ∧ (¬ BookR ws bs → R (.str "raised InvalidBook") [.str "book", tupI ws, .tup (bs.map Dp.d)])
theorem ok__law_checked {f : Addr} {fd : FuncData} (F0 : Df K mg "_law_checked" p__law_checked ["check", "scheme", "thing"] f fd)
    {er : Er} (ER : ErOk P K mg er)
    {f_check_book : Addr} {fd_check_book : FuncData} (D_check_book : Df K mg "check_book" p_check_book ["scheme", "book"] f_check_book fd_check_book)
    (G_check_book : FnOk P w K mg base (L2N.CX P w) 5 f_check_book fd_check_book ["scheme", "book"] (lowFX K (sp_check_book er)))
    {f__law_error_name : Addr} {fd__law_error_name : FuncData} (D__law_error_name : Df K mg "_law_error_name" p__law_error_name ["e"] f__law_error_name fd__law_error_name)
    (G__law_error_name : FnE P w K mg base CX0 1 f__law_error_name fd__law_error_name ["e"] (lowF K (sp__law_error_name er))) :
    FnOk P w K mg base CX0 6 f fd ["check", "scheme", "thing"] (lowF K (sp__law_checked er)) := by
  refine ok_of F0.F sc__law_checked [] (by decide) (fun cdv A outer s H pn E hr hp => (d_seq (d_noX (x_tryH rfl rfl takes_no (fun W' pn' xe' tk hps => (x_one (x_if (d_cmpT (op_eqAll (u64 hr)) up_eq (nomark _) (dv 0) d_str)
      (x_one (x_s d_never))
      (x_one (x_if (d_cmpT (op_eqAll (u64 hr)) up_eq (nomark _) (dv 0) d_str)
      (x_one (x_set (i := 3) sc__law_checked.nd rfl (.inl rfl) (hp 3 rfl) (x_fz (x_callX G_check_book tk (hr.mono (by decide)) (by rfl) D_check_book.g D_check_book.F.kp D_check_book.b (xr_of (r_e (dv 1) (r_e (dv 2) r_nil)))))))
      (x_one (x_s d_never)))))))
      (c_asE (K := K) (i := 4) rfl rfl rfl rfl sc__law_checked.nd rfl rfl ⟨by rfl, by decide, .inl ER.g_TableError⟩ (hp 4 rfl) (fun ea _ => (d_one (d_ret (d_op op_addAll up_add d_str (d_fzE (d_callE (i := 4) (a := ea) G__law_error_name (Room.any (hr.mono (by decide)) rfl rfl) rfl (List.mem_cons_self ..) (by rfl) D__law_error_name.g D__law_error_name.F.kp D__law_error_name.b)))))) (c_nil rfl rfl))))
      (d_seq (d_if (d_cmpT op_isN up_isN (nomark _) (dv 3) d_non)
      (d_one (d_ret d_str))
      d_nil)
      (d_one (d_ret d_str))))) (fun ds R h => ?_)
  try rewrite [gEq_I]
  try rewrite [gNe_I]
  obtain ⟨ws, bs, rfl, hl, hf, q1, q2⟩ := h
  refine ⟨rfl, rfl, ?_⟩
  refine eqSn (x := "book") (y := "scheme") (by decide +kernel) ?_
  refine condFf (A := True) ?_
  refine eqS rfl ?_
  refine condTt (B := True) ?_
  refine ⟨ws, bs, rfl, hl, hf, fun h => ?_, fun h => ?_⟩
  · exact ⟨rfl, q1 h⟩
  · refine .inl ⟨ER.x_InvalidBook_TableError, (by show 4 < 5; decide), ⟨_, _, rfl⟩, ⟨rfl, ?_⟩⟩
    refine ⟨rfl, by (first | decide | (exact small_le (by simp only [List.length_cons, List.length_nil]; omega)) | (simp; done) | (simp only [List.length_cons, List.length_nil]; omega)), ?_⟩
    have e : ("raised " : Str) ++ "InvalidBook" = "raised InvalidBook" := by decide +kernel
    show R (.str (("raised " : Str) ++ "InvalidBook")) _
    rw [e]
    exact q2 h

def sp__law_has_ring : SpD := fun ds R => ∃ (ss : List Int) (bs : List Dp), ds = [tupI ss, .lst (bs.map Dp.d)] ∧ ss.length ≤ 12 ∧ bs.length ≤ 100 ∧ (∀ e ∈ edges bs, e.1 ∈ upto 0 (ss.length : Int) ∧ e.2 ∈ upto 0 (ss.length : Int)) ∧ ∀ b : Bool, (b = true ↔ ¬ RG.Free (edges bs)) → R (.bl b) [tupI ss, .lst (bs.map Dp.d)]
theorem ok__law_has_ring {f : Addr} {fd : FuncData} (F0 : Df K mg "_law_has_ring" p__law_has_ring ["scheme", "book"] f fd)
    (m_len : mg "len" = none)
    (m_range : mg "range" = none) :
    FnOk P w K mg base CX0 1 f fd ["scheme", "book"] (lowF K sp__law_has_ring) := by
  refine ok_of F0.F sc__law_has_ring [] (by decide) (fun cdv A outer s H pn E hr hp => (d_seq (d_setLc (i := 2) (own := [("dependency", 6)]) (by rfl) sc__law_has_ring.nd rfl rfl (hp 2 rfl) (sw_true rfl rfl rfl (by decide +kernel)) (i_seq (dv 1)) (blkOk_by (N := n__law_has_ring) (sc := defScope p__law_has_ring) (by decide +kernel)) (by decide) (hp1 (hp 6 rfl)) (fun _ _ _ _ _ => (g_name (i := 6) sc__law_has_ring.nd rfl (Or.inl rfl) (hp 6 rfl))) (fun _ _ _ _ _ => (d_one' (d_cmpT (op_eqAll (u64 hr)) up_eq (nomark _) (d_ix (dv 6) d_int) d_str))) (fun _ _ _ _ _ => (d_tup (d_consA (d_ix (dv 6) d_int) (d_consA (d_ix (dv 6) d_int) d_nilA)))))
      (d_seq (d_set (i := 4) sc__law_has_ring.nd rfl (.inr rfl) (hp 4 rfl) (d_lc (own := [("table", 3)]) (by rfl) sc__law_has_ring.nd (i_range1 (by rfl) m_range (d_consA (d_callB call_lenA up_len (by rfl) m_len PySem.boot_len (d_consA (dv 0) d_nilA)) d_nilA)) (blkOk_by (N := n__law_has_ring) (sc := defScope p__law_has_ring) (by decide +kernel)) (by decide) (hp1 (hp 3 rfl)) (fun _ _ _ _ _ => (g_name (i := 3) sc__law_has_ring.nd rfl (Or.inl rfl) (hp 3 rfl))) (fun _ _ _ _ _ => d_yes) (fun _ _ _ _ _ => (dv 3))))
      (d_seq (d_for [3, 5] PassesOwn.never rfl (i_range1 (by rfl) m_range (d_consA (d_callB call_lenA up_len (by rfl) m_len PySem.boot_len (d_consA (dv 0) d_nilA)) d_nilA)) (g_name (i := 3) sc__law_has_ring.nd rfl (.inl rfl) (hp 3 rfl))
      (d_seq (d_set (i := 5) sc__law_has_ring.nd rfl (.inr rfl) (hp 5 rfl) (d_lc (own := [("pair", 7)]) (by rfl) sc__law_has_ring.nd (i_seq (dv 2)) (blkOk_by (N := n__law_has_ring) (sc := defScope p__law_has_ring) (by decide +kernel)) (by decide) (hp1 (hp 7 rfl)) (fun _ _ _ _ _ => (g_name (i := 7) sc__law_has_ring.nd rfl (Or.inl rfl) (hp 7 rfl))) (fun _ _ _ _ _ => (d_one' (d_cmpT (op_inAll (u65 hr)) up_in (by rfl) (d_ix (dv 7) d_int) (dv 4)))) (fun _ _ _ _ _ => (d_ix (dv 7) d_int))))
      (d_one (d_set (i := 4) sc__law_has_ring.nd rfl (.inr rfl) (hp 4 rfl) (d_lc (own := [("known", 8)]) (by rfl) sc__law_has_ring.nd (i_seq (dv 4)) (blkOk_by (N := n__law_has_ring) (sc := defScope p__law_has_ring) (by decide +kernel)) (by decide) (hp1 (hp 8 rfl)) (fun _ _ _ _ _ => (g_name (i := 8) sc__law_has_ring.nd rfl (Or.inl rfl) (hp 8 rfl))) (fun _ _ _ _ _ => (d_one' (d_cmpT (op_inAll (u65 hr)) up_in (by rfl) (dv 8) (dv 5)))) (fun _ _ _ _ _ => (dv 8)))))))
      (d_one (d_ret (d_cmp op_gt up_cmp (nomark _) (d_callB call_lenA up_len (by rfl) m_len PySem.boot_len (d_consA (dv 4) d_nilA)) d_int))))))) (fun ds R h => ?_)
  try rewrite [gIx_I]
  try rewrite [gIn_I]
  try rewrite [dSeq_I]
  try rewrite [dRet_I]
  obtain ⟨ss, bs, rfl, hl1, hl2, hN, q⟩ := h
  refine ⟨rfl, rfl, ?_⟩
  have em : ((ss.map DL.D.int).length : Int) = ss.length := by rw [List.length_map]
  refine st0 ?_
  refine ⟨small_le (by rw [List.length_map]; omega), fun i acc L => ∃ x : Option DL.D, L = [some (tupI ss), some (.lst (bs.map Dp.d)), none, none, none, none, x, none, none] ∧ acc = (edges (bs.take i)).map pairD, ⟨_, rfl, rfl⟩, ?_, ?_⟩
  · rintro i d acc L hd ⟨x, rfl, rfl⟩
    rw [List.getElem?_map, Option.map_eq_some_iff] at hd
    obtain ⟨s, hs, rfl⟩ := hd
    have es := edges_step hs
    cases s with
    | set b t l r =>
      refine ixT (d := .str (setK b)) (atI_nat' (j := 0) rfl rfl) ?_
      cases b
      all_goals exact ⟨_, rfl, by rw [es]; show _ = List.map pairD (_ ++ []); rw [List.append_nil]⟩
    | joins t ps =>
      refine ixT (d := .str "joins") (atI_nat' (j := 0) rfl rfl) ?_
      exact ⟨_, rfl, by rw [es]; show _ = List.map pairD (_ ++ []); rw [List.append_nil]⟩
    | inc t cs o os =>
      refine ixT (d := .str "within") (atI_nat' (j := 0) rfl rfl) ?_
      refine ixT (d := .int t) (atI_nat' (j := 1) rfl rfl) ?_
      refine ixT (d := .int o) (atI_nat' (j := 3) rfl rfl) ?_
      exact ⟨by (first | decide | (exact small_le (by simp only [List.length_cons, List.length_nil]; omega)) | (simp; done) | (simp only [List.length_cons, List.length_nil]; omega)), _, rfl, by rw [es, List.map_append]; rfl⟩
  rintro acc L ⟨x, rfl, rfl⟩
  rw [List.length_map, List.take_length]
  have hel : (edges bs).length ≤ 100 := Nat.le_trans (edges_len bs) hl2
  generalize edges bs = E at hN q hel
  refine st [some (tupI ss), some (.lst (bs.map Dp.d)), some (.lst (E.map pairD)), none, none, none, none, none, none] rfl ?_
  refine ⟨by omega, by omega, small_le (by rw [rng_length]; omega), fun i acc L => ∃ x : Option DL.D, L = [some (tupI ss), some (.lst (bs.map Dp.d)), some (.lst (E.map pairD)), x, none, none, none, none, none] ∧ acc = ((upto 0 (ss.length : Int)).take i).map DL.D.int, ⟨_, rfl, rfl⟩, ?_, ?_⟩
  · rintro i d acc L hd ⟨x, rfl, rfl⟩
    rw [em] at hd
    obtain ⟨rfl, hi⟩ := rng_get hd
    exact ⟨_, rfl, by have := (upto_stepD (f := fun k => k) hi).symm; simpa using this⟩
  rintro acc L ⟨x, rfl, rfl⟩
  have e1 : ((upto 0 (ss.length : Int)).take (rng 0 ((ss.map DL.D.int).length : Int)).length).map DL.D.int = (upto 0 (ss.length : Int)).map .int := by
    rw [List.take_of_length_le (by rw [upto_length, rng_length]; omega)]
  rw [e1]
  refine st [some (tupI ss), some (.lst (bs.map Dp.d)), some (.lst (E.map pairD)), none, some (lstI (RG.itL E (upto 0 (ss.length : Int)) 0)), none, none, none, none] rfl ?_
  have hlen : ∀ k, (RG.itL E (upto 0 (ss.length : Int)) k).length ≤ 12 := fun k => by
    induction k with
    | zero => show (upto 0 (ss.length : Int)).length ≤ 12; rw [upto_length]; omega
    | succ k ih => exact Nat.le_trans (List.length_filter_le ..) ih
  refine ⟨by omega, by omega, fun i L => L = [some (tupI ss), some (.lst (bs.map Dp.d)), some (.lst (E.map pairD)), none, some (lstI (RG.itL E (upto 0 (ss.length : Int)) i)), none, none, none, none], rfl, ?_, ?_⟩
  · rintro i d L hd rfl
    obtain ⟨rfl, hi⟩ := rng_get hd
    have hS := hlen i
    have hnx : RG.itL E (upto 0 (ss.length : Int)) (i + 1) = RG.stepL E (RG.itL E (upto 0 (ss.length : Int)) i) := rfl
    generalize RG.itL E (upto 0 (ss.length : Int)) i = S at hS hnx ⊢
    refine st0 ?_
    refine ⟨small_le (by rw [List.length_map]; omega), fun j acc L => ∃ x : Option DL.D, L = [some (tupI ss), some (.lst (bs.map Dp.d)), some (.lst (E.map pairD)), some (.int (0 + (i : Int))), some (lstI S), none, none, x, none] ∧ acc = (((E.take j).filter fun e => decide (e.2 ∈ S)).map Prod.fst).map DL.D.int, ⟨_, rfl, rfl⟩, ?_, ?_⟩
    · rintro j d acc L hd ⟨x, rfl, rfl⟩
      rw [List.getElem?_map, Option.map_eq_some_iff] at hd
      obtain ⟨e, he, rfl⟩ := hd
      refine ixT (d := .int e.2) (atI_nat' (j := 1) rfl rfl) ?_
      refine in_lstI ?_
      refine cond2 (fun z => ?_) (fun z => ?_)
      · have z : decide (e.2 ∈ S) = true := z
        refine ixT (d := .int e.1) (atI_nat' (j := 0) rfl rfl) ?_
        refine ⟨_, rfl, ?_⟩
        rw [take_step he, List.filter_append, List.filter_cons_of_pos (p := fun e : Int × Int => decide (e.2 ∈ S)) z, List.map_append, List.map_append]; rfl
      · have z : decide (e.2 ∈ S) = false := z
        refine ⟨_, rfl, ?_⟩
        rw [take_step he, List.filter_append, List.filter_cons_of_neg (p := fun e : Int × Int => decide (e.2 ∈ S)) (by rw [z]; decide)]; simp
    rintro acc L ⟨x, rfl, rfl⟩
    rw [List.length_map, List.take_length]
    obtain ⟨G, hG⟩ : ∃ G, G = (E.filter fun e => decide (e.2 ∈ S)).map Prod.fst := ⟨_, rfl⟩
    rw [← hG]
    refine nxL [some (tupI ss), some (.lst (bs.map Dp.d)), some (.lst (E.map pairD)), some (.int (0 + (i : Int))), some (lstI S), some (lstI G), none, none, none] rfl ?_
    refine ⟨small_le (by rw [List.length_map]; omega), fun j acc L => ∃ x : Option DL.D, L = [some (tupI ss), some (.lst (bs.map Dp.d)), some (.lst (E.map pairD)), some (.int (0 + (i : Int))), some (lstI S), some (lstI G), none, none, x] ∧ acc = ((S.take j).filter fun v => decide (v ∈ G)).map DL.D.int, ⟨_, rfl, rfl⟩, ?_, ?_⟩
    · rintro j d acc L hd ⟨x, rfl, rfl⟩
      rw [List.getElem?_map, Option.map_eq_some_iff] at hd
      obtain ⟨v, hv, rfl⟩ := hd
      refine in_lstI ?_
      refine cond2 (fun z => ?_) (fun z => ?_)
      · have z : decide (v ∈ G) = true := z
        refine ⟨_, rfl, ?_⟩
        rw [take_step hv, List.filter_append, List.filter_cons_of_pos (p := fun v => decide (v ∈ G)) z, List.map_append]; rfl
      · have z : decide (v ∈ G) = false := z
        refine ⟨_, rfl, ?_⟩
        rw [take_step hv, List.filter_append, List.filter_cons_of_neg (p := fun v => decide (v ∈ G)) (by rw [z]; decide)]; simp
    rintro acc L ⟨x, rfl, rfl⟩
    rw [List.length_map, List.take_length]
    have e9 : (S.filter fun v => decide (v ∈ G)) = RG.itL E (upto 0 (ss.length : Int)) (i + 1) := by rw [hnx, hG]; rfl
    rw [e9]
    rfl
  · rintro L rfl
    rw [rng_length]
    refine stR [some (tupI ss), some (.lst (bs.map Dp.d)), some (.lst (E.map pairD)), none, some (lstI (RG.itL E (upto 0 (ss.length : Int)) _)), none, none, none, none] rfl ?_
    refine q _ ?_
    have key := RG.left_told hN (n := ((((ss.map DL.D.int).length : Int)) - 0).toNat) (by rw [upto_length, em]; exact Nat.le_refl _)
    refine ⟨fun h hf => ?_, fun h => ?_⟩
    · rw [key.mpr hf] at h
      cases h
    · have hne : RG.itL E (upto 0 (ss.length : Int)) _ ≠ [] := fun e => h (key.mp e)
      refine decide_eq_true ?_
      rw [List.length_map]
      have := List.length_pos_iff.mpr hne
      omega
end

theorem mem_edges {bs : List Dp} {e : Int × Int} (h : e ∈ edges bs) : ∃ cs os, Dp.inc e.1 cs e.2 os ∈ bs := by
  unfold edges at h
  obtain ⟨s, hs, he⟩ := List.mem_filterMap.mp h
  cases s with
  | set b t l r => cases he
  | joins t ps => cases he
  | inc t cs o os => cases he; exact ⟨cs, os, hs⟩
theorem edges_in {ss : List Int} {bs : List Dp} (h : ∀ s ∈ bs, s.R ss) : ∀ e ∈ edges bs, e.1 ∈ upto 0 (ss.length : Int) ∧ e.2 ∈ upto 0 (ss.length : Int) := fun e he => by
  obtain ⟨cs, os, hm⟩ := mem_edges he
  have hr : IncR ss e.1 cs e.2 os := h _ hm
  obtain ⟨w, h1, _⟩ := hr.left
  obtain ⟨w', h2, _⟩ := hr.right
  exact ⟨mem_upto.mpr h1.lt, mem_upto.mpr h2.lt⟩
section
variable {P : Program} {w : World} {K : PySem.W.Frag} {mg : Str → Option Value} {base : Heap}

def sp__law_right (er : Er) : SpD := fun ds R => ∃ (ss : List Int) (bs : List Dp), ds = [tupI ss, .lst (bs.map Dp.d)] ∧ ss.length ≤ 12 ∧ bs.length ≤ 100 ∧ (∀ s ∈ bs, s.R ss ∧ s.Few) ∧ R (.bl true) [tupI ss, .lst (bs.map Dp.d)]
theorem ok__law_right {f : Addr} {fd : FuncData} (F0 : Df K mg "_law_right" p__law_right ["scheme", "book"] f fd)
    {er : Er} (ER : ErOk P K mg er)
    {f__law_has_ring : Addr} {fd__law_has_ring : FuncData} (D__law_has_ring : Df K mg "_law_has_ring" p__law_has_ring ["scheme", "book"] f__law_has_ring fd__law_has_ring)
    (G__law_has_ring : FnOk P w K mg base CX0 1 f__law_has_ring fd__law_has_ring ["scheme", "book"] (lowF K sp__law_has_ring))
    {f__law_checked : Addr} {fd__law_checked : FuncData} (D__law_checked : Df K mg "_law_checked" p__law_checked ["check", "scheme", "thing"] f__law_checked fd__law_checked)
    (G__law_checked : FnOk P w K mg base CX0 6 f__law_checked fd__law_checked ["check", "scheme", "thing"] (lowF K (sp__law_checked er)))
    (m_int : mg "int" = none)
    (m_tuple : mg "tuple" = none) :
    FnOk P w K mg base CX0 7 f fd ["scheme", "book"] (lowF K (sp__law_right er)) := by
  refine ok_of F0.F sc__law_right [] (by decide) (fun cdv A outer s H pn E hr hp => (d_seq (d_set (i := 2) sc__law_right.nd rfl (.inl rfl) (hp 2 rfl) (d_ix (d_lst (d_consA d_str (d_consA d_str d_nilA))) (d_callTy call_int1 up_intF (by rfl) m_int boot_int (d_consA (d_fzE (d_call G__law_has_ring (hr.mono (by decide)) (by rfl) D__law_has_ring.g D__law_has_ring.F.kp D__law_has_ring.b pass0 (r_e (dv 0) (r_e (dv 1) r_nil)))) d_nilA))))
      (d_one (d_ret (d_cmp (op_eqAll (u64 hr)) up_eq (nomark _) (d_fzE (d_call G__law_checked (hr.mono (by decide)) (by rfl) D__law_checked.g D__law_checked.F.kp D__law_checked.b pass0 (r_e d_str (r_e (dv 0) (r_e (d_callTy call_tuple_of up_tupF (by rfl) m_tuple boot_tuple (d_consA (dv 1) d_nilA)) r_nil))))) (dv 2)))))) (fun ds R h => ?_)
  try rewrite [gIx_I]
  try rewrite [gEq_I]
  try rewrite [gNe_I]
  obtain ⟨ss, bs, rfl, h1, h2, hs, q⟩ := h
  refine ⟨rfl, rfl, ?_⟩
  refine ⟨by (first | decide | (exact small_le (by simp only [List.length_cons, List.length_nil]; omega)) | (simp; done) | (simp only [List.length_cons, List.length_nil]; omega)), ss, bs, rfl, h1, h2, edges_in fun s h => (hs s h).1, fun b hb => ⟨rfl, ?_⟩⟩
  cases b with
  | false =>
    have hf : RG.Free (edges bs) := Classical.byContradiction fun n => by have := hb.mpr n; cases this
    refine ixL (d := .str "taken") (atI_nat' (j := 0) rfl rfl) ?_
    refine ⟨ss, bs, rfl, by omega, fun s h => (hs s h).2, fun _ => ⟨rfl, ?_⟩, fun h => (h ⟨fun s h => (hs s h).1, hf⟩).elim⟩
    refine eqS rfl ?_
    exact q
  | true =>
    have hf : ¬ RG.Free (edges bs) := hb.mp rfl
    refine ixL (d := .str "raised InvalidBook") (atI_nat' (j := 1) rfl rfl) ?_
    refine ⟨ss, bs, rfl, by omega, fun s h => (hs s h).2, fun h => (hf h.2).elim, fun _ => ⟨rfl, ?_⟩⟩
    refine eqS rfl ?_
    exact q
end

end LW

namespace LW
open PySem PySem.Spec PyProof.Rows L2 DL

theorem cut_lo {α : Type} {f : α → DL.D} {xs : List α} {n : Nat} : DL.cutD (xs.map f) none (some (n : Int)) = (xs.take n).map f := by rw [cutD_hi _ (by omega), List.map_take]; rfl
theorem cut_up {α : Type} {f : α → DL.D} {xs : List α} {n : Nat} {i : Int} (h : i = (n : Int)) : DL.cutD (xs.map f) (some i) none = (xs.drop n).map f := by
  subst h
  rw [cutD_lo _ (by omega), List.map_drop]; rfl
theorem fz_mlF {ds : List DL.D} (h : ds.all isFr = true) : fz (.ml ds) = .lst ds := by simp only [fz, fzL_fr h]
theorem noMo_mlF {ds : List DL.D} (h : ds.all isFr = true) : noMo (.ml ds) = true := by unfold noMo; exact noMoL_fr h
def QD (ss : List Int) (s : Dp) : Prop := s.R ss ∧ s.Few
theorem RowM.chosen {w : Int} {p : List Int} (h : RowM w p) (hp : 0 < p.length) : ChosenR w p := ⟨fun e => by rw [e] at hp; simp at hp, h.ok, h.nd⟩
theorem wd7 {ss : List Int} {t w : Int} (hs : SchB ss) (h : Wd ss t w) : 1 ≤ w ∧ w ≤ 7 := hs.ok w (List.mem_of_getElem? h.2)
theorem IncS.q {ss : List Int} {t : Int} {cs : List Int} {o : Int} {xs : List Int} (h : IncS ss t cs o xs) (hs : SchB ss) (ne : t ≠ o) : QD ss (.inc t cs o xs) := by
  obtain ⟨⟨w, hw, h1⟩, ⟨w', hw', h2⟩, hl, hp⟩ := h
  have a := h1.len (wd7 hs hw).2
  have b := h2.len (wd7 hs hw').2
  exact ⟨⟨⟨w, hw, h1.chosen hp⟩, ⟨w', hw', h2.chosen (by omega)⟩, ne, hl⟩, ⟨by omega, by omega⟩⟩
theorem ColsW.row {w : Int} {p : List Int} (h : ColsW w p) : RowM w p := ⟨h.1.imp fun a => by omega, h.2⟩
theorem PartsW.q {ss : List Int} {t w : Int} {ps : List (List Int)} (h : PartsW w ps) (hs : SchB ss) (hw : Wd ss t w) : QD ss (.joins t ps) := by
  have h7 := wd7 hs hw
  refine ⟨⟨w, hw, ⟨fun e => ?_, fun p hp => (h.ok p hp).1, fun p hp => (h.ok p hp).2, h.all⟩⟩, ?_⟩
  · obtain ⟨p, hp, _⟩ := h.all 0 (by omega) (by omega)
    rw [e] at hp
    cases hp
  · show ps.flatten.length ≤ 4000
    have h4 := h.len
    have : ∀ (ps : List (List Int)), (∀ p ∈ ps, p.length ≤ 7) → ps.flatten.length ≤ 7 * ps.length := by
      intro ps
      induction ps with
      | nil => intro _; exact Nat.le_refl _
      | cons p ps ih =>
        intro hp
        have := ih fun q hq => hp q (List.mem_cons_of_mem _ hq)
        have := hp p (List.mem_cons_self ..)
        rw [List.flatten_cons, List.length_append, List.length_cons]
        omega
    have := this ps fun p hp => (h.ok p hp).2.row.len h7.2
    omega
theorem DpW.q {ss os : List Int} {s : Dp} (h : DpW ss os s) (hs : SchB ss) (nd : os.Nodup) : QD ss s := by
  cases s with
  | set b t l r =>
    obtain ⟨w, h0, hw, h1, h2⟩ := h
    have h7 := wd7 hs ⟨h0, hw⟩
    have a := h1.row.len h7.2
    have b := h2.row.len h7.2
    refine ⟨⟨w, ⟨h0, hw⟩, fun xs hx => ?_⟩, ?_⟩
    · rcases List.mem_cons.mp hx with rfl | hx
      · exact h1
      · rw [List.mem_singleton.mp hx]; exact h2
    · show [l, r].flatten.length ≤ 4000
      simp only [List.flatten_cons, List.flatten_nil, List.length_append, List.length_nil]
      omega
  | joins t ps =>
    obtain ⟨w, h0, hw, h1⟩ := h
    exact h1.q hs ⟨h0, hw⟩
  | inc t cs o xs =>
    obtain ⟨i, j, wt, wo, hij, hi, hj, t0, o0, ht, ho, hl, hp, h1, h2⟩ := h
    refine IncS.q ⟨⟨wt, ⟨t0, ht⟩, h1⟩, ⟨wo, ⟨o0, ho⟩, h2⟩, hl, hp⟩ hs fun e => ?_
    subst e
    obtain ⟨a, ea⟩ := List.getElem?_eq_some_iff.mp hi
    obtain ⟨b, eb⟩ := List.getElem?_eq_some_iff.mp hj
    have := List.pairwise_iff_getElem.mp nd i j a b hij
    exact this (by rw [ea, eb])
theorem upto_nodup (n : Int) : (upto 0 n).Nodup := upto_nd 0 n
/-- the tables of a ring, one behind the other; the edge to the one at j -/
def rg (hs : List Int) (j : Nat) : Int × Int := (hs.getD ((j + hs.length - 1) % hs.length) 0, hs.getD j 0)
theorem idx_inj {hs : List Int} (nd : hs.Nodup) {i j : Nat} (hi : i < hs.length) (hj : j < hs.length) (e : hs.getD i 0 = hs.getD j 0) : i = j := by
  rw [List.getD_eq_getElem?_getD, List.getD_eq_getElem?_getD, List.getElem?_eq_getElem hi, List.getElem?_eq_getElem hj] at e
  exact (List.getElem_inj nd).mp e
theorem ring_not {hs : List Int} (h2 : 2 ≤ hs.length) {E : RG.Ed} (hE : ∀ j, j < hs.length → rg hs j ∈ E) : ¬ RG.Free E := by
  rintro ⟨rank, hr⟩
  have up : ∀ j, j < hs.length → rank (hs.getD 0 0) + j ≤ rank (hs.getD j 0) := by
    intro j
    induction j with
    | zero => intro _; exact Nat.le_refl _
    | succ j ih =>
      intro hj
      have a := ih (by omega)
      have b := hr _ (hE (j + 1) hj)
      have e : (j + 1 + hs.length - 1) % hs.length = j := by
        rw [show j + 1 + hs.length - 1 = j + hs.length by omega, Nat.add_mod_right, Nat.mod_eq_of_lt (by omega)]
      unfold rg at b
      rw [e] at b
      simp only at b
      omega
  have a := up (hs.length - 1) (by omega)
  have b := hr _ (hE 0 (by omega))
  have e : (0 + hs.length - 1) % hs.length = hs.length - 1 := by rw [Nat.zero_add, Nat.mod_eq_of_lt (by omega)]
  unfold rg at b
  rw [e] at b
  simp only at b
  omega
theorem ring_less {hs : List Int} (nd : hs.Nodup) {at_ : Nat} (ha : at_ < hs.length) {E : RG.Ed} (hE : ∀ e ∈ E, ∃ j, j < hs.length ∧ j ≠ at_ ∧ e = rg hs j) : RG.Free E := by
  have pos : ∀ j, j < hs.length → hs.idxOf (hs.getD j 0) = j := fun j hj => by
    have hm : hs.getD j 0 ∈ hs := by rw [List.getD_eq_getElem?_getD, List.getElem?_eq_getElem hj]; exact List.getElem_mem hj
    have h1 := List.idxOf_lt_length_of_mem hm
    refine idx_inj nd h1 hj ?_
    rw [List.getD_eq_getElem?_getD, List.getElem?_eq_getElem h1, Option.getD_some, List.getElem_idxOf]
  refine ⟨fun v => if at_ ≤ hs.idxOf v then hs.idxOf v - at_ else hs.idxOf v + hs.length - at_, fun e he => ?_⟩
  obtain ⟨j, hj, hne, rfl⟩ := hE e he
  unfold rg
  simp only
  rw [pos j hj]
  by_cases h0 : j = 0
  · subst h0
    have e : (0 + hs.length - 1) % hs.length = hs.length - 1 := by rw [Nat.zero_add, Nat.mod_eq_of_lt (by omega)]
    rw [e, pos _ (by omega), if_pos (by omega), if_neg (by omega)]
    omega
  · have e : (j + hs.length - 1) % hs.length = j - 1 := by
      rw [show j + hs.length - 1 = j - 1 + hs.length by omega, Nat.add_mod_right, Nat.mod_eq_of_lt (by omega)]
    rw [e, pos _ (by omega)]
    by_cases c : at_ ≤ j - 1
    · rw [if_pos c, if_pos (by omega)]; omega
    · rw [if_neg c, if_neg (by omega)]; omega
theorem other_ok {i n m : Int} {F : DL.D → Ls → Prop} {L : Ls} (e : n = m) (h : F (.int (i % m)) L) : (fun z => F z L) ((fun i j => DL.D.int (i % j)) i n) := by
  subst e; exact h
theorem mod_ne {n t r : Int} (h0 : 0 ≤ t) (h1 : t < n) (r0 : 0 ≤ r) (r1 : r < n - 1) : t ≠ (t + 1 + r) % n := by
  intro e
  by_cases c : t + 1 + r < n
  · rw [Int.emod_eq_of_lt (by omega) c] at e; omega
  · have : (t + 1 + r) % n = t + 1 + r - n := by
      rw [← Int.sub_emod_right (t + 1 + r) n, Int.emod_eq_of_lt (by omega) (by omega)]
    omega

end LW

namespace LW
open PySem PySem.Spec PyProof.Rows L2 DL
section
variable {P : Program} {w : World} {K : PySem.W.Frag} {mg : Str → Option Value} {base : Heap}

def sp_law : SpD := fun ds R => ∃ ns : List Int, ds = [.scr ns] ∧ ns.length ≤ 63 ∧ R (.bl true) [.scr ns]
theorem ok_law {f : Addr} {fd : FuncData} (F0 : Df K mg "law" p_law ["script"] f fd)
    {er : Er} (ER : ErOk P K mg er)
    {f__law_draws : Addr} {fd__law_draws : FuncData} (D__law_draws : Df K mg "_law_draws" p__law_draws ["script", "many"] f__law_draws fd__law_draws)
    (G__law_draws : FnOk P w K mg base CX0 1 f__law_draws fd__law_draws ["script", "many"] (lowF K sp__law_draws))
    {f__law_take : Addr} {fd__law_take : FuncData} (D__law_take : Df K mg "_law_take" p__law_take ["draws", "many"] f__law_take fd__law_take)
    (G__law_take : FnOk P w K mg base CX0 1 f__law_take fd__law_take ["draws", "many"] (lowF K sp__law_take))
    {f__law_between : Addr} {fd__law_between : FuncData} (D__law_between : Df K mg "_law_between" p__law_between ["draws", "scheme", "table", "other"] f__law_between fd__law_between)
    (G__law_between : FnOk P w K mg base CX0 3 f__law_between fd__law_between ["draws", "scheme", "table", "other"] (lowF K sp__law_between))
    {f__law_parts : Addr} {fd__law_parts : FuncData} (D__law_parts : Df K mg "_law_parts" p__law_parts ["draws", "width", "most"] f__law_parts fd__law_parts)
    (G__law_parts : FnOk P w K mg base CX0 2 f__law_parts fd__law_parts ["draws", "width", "most"] (lowF K sp__law_parts))
    {f__law_shuffled : Addr} {fd__law_shuffled : FuncData} (D__law_shuffled : Df K mg "_law_shuffled" p__law_shuffled ["draws", "row"] f__law_shuffled fd__law_shuffled)
    (G__law_shuffled : FnOk P w K mg base CX0 2 f__law_shuffled fd__law_shuffled ["draws", "row"] (lowF K sp__law_shuffled))
    {f__law_order : Addr} {fd__law_order : FuncData} (D__law_order : Df K mg "_law_order" p__law_order ["draws", "scheme"] f__law_order fd__law_order)
    (G__law_order : FnOk P w K mg base CX0 3 f__law_order fd__law_order ["draws", "scheme"] (lowF K sp__law_order))
    {f__law_inclusion : Addr} {fd__law_inclusion : FuncData} (D__law_inclusion : Df K mg "_law_inclusion" p__law_inclusion ["draws", "scheme", "order"] f__law_inclusion fd__law_inclusion)
    (G__law_inclusion : FnOk P w K mg base CX0 3 f__law_inclusion fd__law_inclusion ["draws", "scheme", "order"] (lowF K sp__law_inclusion))
    {f__law_right : Addr} {fd__law_right : FuncData} (D__law_right : Df K mg "_law_right" p__law_right ["scheme", "book"] f__law_right fd__law_right)
    (G__law_right : FnOk P w K mg base CX0 7 f__law_right fd__law_right ["scheme", "book"] (lowF K (sp__law_right er)))
    {f__law_checked : Addr} {fd__law_checked : FuncData} (D__law_checked : Df K mg "_law_checked" p__law_checked ["check", "scheme", "thing"] f__law_checked fd__law_checked)
    (G__law_checked : FnOk P w K mg base CX0 6 f__law_checked fd__law_checked ["check", "scheme", "thing"] (lowF K (sp__law_checked er)))
    (m_int : mg "int" = none)
    (m_len : mg "len" = none)
    (m_range : mg "range" = none)
    (m_tuple : mg "tuple" = none) :
    FnOk P w K mg base CX0 8 f fd ["script"] (lowF K sp_law) := by
  refine ok_of F0.F sc_law [] (by decide) (fun cdv A outer s H pn E hr hp => (d_seq (d_setM (i := 1) sc_law.nd rfl (.inr rfl) (hp 1 rfl) (d_call G__law_draws (hr.mono (by decide)) (by rfl) D__law_draws.g D__law_draws.F.kp D__law_draws.b pass0 (r_e (dv 0) (r_e d_int r_nil))))
      (d_seq (d_set (i := 3) sc_law.nd rfl (.inr rfl) (hp 3 rfl) (d_callTy call_tuple_of up_tupF (by rfl) m_tuple boot_tuple (d_consA (d_lc (own := [("table", 2)]) (by rfl) sc_law.nd (i_range1 (by rfl) m_range (d_consA (d_ix (d_lst (d_consA (d_op op_addAll up_add d_int (d_fzE (d_call G__law_take (hr.mono (by decide)) (by rfl) D__law_take.g D__law_take.F.kp D__law_take.b pass0 (r_s 1 (r_e d_int r_nil))))) (d_consA d_int d_nilA))) (d_op op_fdiv up_int2 (d_fzE (d_call G__law_take (hr.mono (by decide)) (by rfl) D__law_take.g D__law_take.F.kp D__law_take.b pass0 (r_s 1 (r_e d_int r_nil)))) d_int)) d_nilA)) (blkOk_by (N := n_law) (sc := defScope p_law) (by decide +kernel)) (by decide) (hp1 (hp 2 rfl)) (fun _ _ _ _ _ => (g_name (i := 2) sc_law.nd rfl (Or.inl rfl) (hp 2 rfl))) (fun _ _ _ _ _ => d_yes) (fun _ _ _ _ _ => (d_op op_addAll up_add d_int (d_fzE (d_call G__law_take (hr.mono (by decide)) (by rfl) D__law_take.g D__law_take.F.kp D__law_take.b pass0 (r_s 1 (r_e d_int r_nil))))))) d_nilA)))
      (d_seq (d_setLc (i := 4) (own := [("table", 2)]) (by rfl) sc_law.nd rfl rfl (hp 4 rfl) (sw_true rfl rfl rfl (by decide +kernel)) (i_range1 (by rfl) m_range (d_consA (d_callB call_lenA up_len (by rfl) m_len PySem.boot_len (d_consA (dv 3) d_nilA)) d_nilA)) (blkOk_by (N := n_law) (sc := defScope p_law) (by decide +kernel)) (by decide) (hp1 (hp 2 rfl)) (fun _ _ _ _ _ => (g_name (i := 2) sc_law.nd rfl (Or.inl rfl) (hp 2 rfl))) (fun _ _ _ _ _ => d_yes) (fun _ _ _ _ _ => (dv 2)))
      (d_seq (d_setM (i := 5) sc_law.nd rfl (.inl rfl) (hp 5 rfl) d_newL)
      (d_seq (d_for [2, 6, 7] PassesOwn.never rfl (i_range1 (by rfl) m_range (d_consA (d_fzE (d_call G__law_take (hr.mono (by decide)) (by rfl) D__law_take.g D__law_take.F.kp D__law_take.b pass0 (r_s 1 (r_e d_int r_nil)))) d_nilA)) (g_name (i := 6) sc_law.nd rfl (.inl rfl) (hp 6 rfl))
      (d_seq (d_set (i := 2) sc_law.nd rfl (.inl rfl) (hp 2 rfl) (d_fzE (d_call G__law_take (hr.mono (by decide)) (by rfl) D__law_take.g D__law_take.F.kp D__law_take.b pass0 (r_s 1 (r_e (d_callB call_lenA up_len (by rfl) m_len PySem.boot_len (d_consA (dv 3) d_nilA)) r_nil)))))
      (d_seq (d_set (i := 7) sc_law.nd rfl (.inl rfl) (hp 7 rfl) (d_op op_mod up_int2 (d_callTy call_int1 up_intF (by rfl) m_int boot_int (d_consA (d_op op_addAll up_add (d_op op_addAll up_add (dv 2) d_int) (d_fzE (d_call G__law_take (hr.mono (by decide)) (by rfl) D__law_take.g D__law_take.F.kp D__law_take.b pass0 (r_s 1 (r_e (d_op op_sub up_int0 (d_callB call_lenA up_len (by rfl) m_len PySem.boot_len (d_consA (dv 3) d_nilA)) d_int) r_nil))))) d_nilA)) (d_callB call_lenA up_len (by rfl) m_len PySem.boot_len (d_consA (dv 3) d_nilA))))
      (d_one (d_exp (d_lm 5 PySem.F.plainAttrs_list PySem.F.slot_list_append PySem.F.type_list_append mt_append up_app (d_consA (d_fzE (d_call G__law_between (hr.mono (by decide)) (by rfl) D__law_between.g D__law_between.F.kp D__law_between.b pass0 (r_s 1 (r_e (dv 3) (r_e (dv 2) (r_e (dv 7) r_nil)))))) d_nilA)))))))
      (d_seq (d_for [6] PassesOwn.never rfl (i_range1 (by rfl) m_range (d_consA (d_fzE (d_call G__law_take (hr.mono (by decide)) (by rfl) D__law_take.g D__law_take.F.kp D__law_take.b pass0 (r_s 1 (r_e d_int r_nil)))) d_nilA)) (g_name (i := 6) sc_law.nd rfl (.inl rfl) (hp 6 rfl))
      (d_seq (d_set (i := 2) sc_law.nd rfl (.inl rfl) (hp 2 rfl) (d_fzE (d_call G__law_take (hr.mono (by decide)) (by rfl) D__law_take.g D__law_take.F.kp D__law_take.b pass0 (r_s 1 (r_e (d_callB call_lenA up_len (by rfl) m_len PySem.boot_len (d_consA (dv 3) d_nilA)) r_nil)))))
      (d_one (d_exp (d_lm 5 PySem.F.plainAttrs_list PySem.F.slot_list_insert PySem.F.type_list_insert mt_insert up_ins (d_consA (d_fzE (d_call G__law_take (hr.mono (by decide)) (by rfl) D__law_take.g D__law_take.F.kp D__law_take.b pass0 (r_s 1 (r_e (d_pure (d_op op_addAll up_add (d_callB call_lenA up_len (by rfl) m_len PySem.boot_len (d_consA (dv 5) d_nilA)) d_int)) r_nil)))) (d_consA (d_tup (d_consA d_str (d_consA (dv 2) (d_consA (d_fzE (d_call G__law_parts (hr.mono (by decide)) (by rfl) D__law_parts.g D__law_parts.F.kp D__law_parts.b pass0 (r_s 1 (r_e (d_ix (dv 3) (dv 2)) (r_e d_int r_nil))))) d_nilA)))) d_nilA)))))))
      (d_seq (d_if (d_pureT (d_not (d_tst (d_fzE (d_call G__law_right (hr.mono (by decide)) (by rfl) D__law_right.g D__law_right.F.kp D__law_right.b pass0 (r_e (dv 3) (r_e (dv 5) r_nil)))))))
      (d_one (d_ret d_bl))
      d_nil)
      (d_seq (d_set (i := 8) sc_law.nd rfl (.inr rfl) (hp 8 rfl) (d_slice (d_fzE (d_call G__law_shuffled (hr.mono (by decide)) (by rfl) D__law_shuffled.g D__law_shuffled.F.kp D__law_shuffled.b pass0 (r_s 1 (r_e (dv 4) r_nil)))) d_noP (d_part (d_op op_addAll up_add d_int (d_fzE (d_call G__law_take (hr.mono (by decide)) (by rfl) D__law_take.g D__law_take.F.kp D__law_take.b pass0 (r_s 1 (r_e (d_op op_sub up_int0 (d_callB call_lenA up_len (by rfl) m_len PySem.boot_len (d_consA (dv 3) d_nilA)) d_int) r_nil))))))))
      (d_seq (d_setLc (i := 9) (own := [("k", 6)]) (by rfl) sc_law.nd rfl rfl (hp 9 rfl) (sw_true rfl rfl rfl (by decide +kernel)) (i_range1 (by rfl) m_range (d_consA (d_callB call_lenA up_len (by rfl) m_len PySem.boot_len (d_consA (dv 8) d_nilA)) d_nilA)) (blkOk_by (N := n_law) (sc := defScope p_law) (by decide +kernel)) (by decide) (hp1 (hp 6 rfl)) (fun _ _ _ _ _ => (g_name (i := 6) sc_law.nd rfl (Or.inl rfl) (hp 6 rfl))) (fun _ _ _ _ _ => d_yes) (fun _ _ _ _ _ => (d_fzE (d_call G__law_between (hr.mono (by decide)) (by rfl) D__law_between.g D__law_between.F.kp D__law_between.b pass0 (r_s 1 (r_e (dv 3) (r_e (d_ix (dv 8) (d_op op_sub up_int0 (dv 6) d_int)) (r_e (d_ix (dv 8) (dv 6)) r_nil))))))))
      (d_seq (d_set (i := 10) sc_law.nd rfl (.inr rfl) (hp 10 rfl) (d_fzE (d_call G__law_order (hr.mono (by decide)) (by rfl) D__law_order.g D__law_order.F.kp D__law_order.b pass0 (r_s 1 (r_e (dv 3) r_nil)))))
      (d_seq (d_setLcM (i := 11) (own := [("k", 6)]) (by rfl) sc_law.nd rfl rfl (hp 11 rfl) (sw_true rfl rfl rfl (by decide +kernel)) (i_range1 (by rfl) m_range (d_consA (d_fzE (d_call G__law_take (hr.mono (by decide)) (by rfl) D__law_take.g D__law_take.F.kp D__law_take.b pass0 (r_s 1 (r_e d_int r_nil)))) d_nilA)) (blkOk_by (N := n_law) (sc := defScope p_law) (by decide +kernel)) (by decide) (hp1 (hp 6 rfl)) (fun _ _ _ _ _ => (g_name (i := 6) sc_law.nd rfl (Or.inl rfl) (hp 6 rfl))) (fun _ _ _ _ _ => d_yes) (fun _ _ _ _ _ => (d_fzE (d_call G__law_inclusion (hr.mono (by decide)) (by rfl) D__law_inclusion.g D__law_inclusion.F.kp D__law_inclusion.b pass0 (r_s 1 (r_e (dv 3) (r_e (dv 10) r_nil)))))))
      (d_seq (d_for [12] PassesOwn.never rfl (i_seq (dv 9)) (g_name (i := 12) sc_law.nd rfl (.inl rfl) (hp 12 rfl))
      (d_one (d_exp (d_lm 11 PySem.F.plainAttrs_list PySem.F.slot_list_insert PySem.F.type_list_insert mt_insert up_ins (d_consA (d_fzE (d_call G__law_take (hr.mono (by decide)) (by rfl) D__law_take.g D__law_take.F.kp D__law_take.b pass0 (r_s 1 (r_e (d_pure (d_op op_addAll up_add (d_callB call_lenA up_len (by rfl) m_len PySem.boot_len (d_consA (dv 11) d_nilA)) d_int)) r_nil)))) (d_consA (dv 12) d_nilA))))))
      (d_seq (d_set (i := 13) sc_law.nd rfl (.inl rfl) (hp 13 rfl) (d_fzE (d_call G__law_take (hr.mono (by decide)) (by rfl) D__law_take.g D__law_take.F.kp D__law_take.b pass0 (r_s 1 (r_e (d_callB call_lenA up_len (by rfl) m_len PySem.boot_len (d_consA (dv 9) d_nilA)) r_nil)))))
      (d_seq (d_set (i := 14) sc_law.nd rfl (.inl rfl) (hp 14 rfl) (d_op op_addAll up_add (d_slice (dv 9) d_noP (d_part (dv 13))) (d_slice (dv 9) (d_part (d_op op_addAll up_add (dv 13) d_int)) d_noP)))
      (d_seq (d_if (d_pureT (PW.pt (d_or (d_cmpT (op_neAll (u64 hr)) up_ne (nomark _) (d_fzE (d_call G__law_checked (hr.mono (by decide)) (by rfl) D__law_checked.g D__law_checked.F.kp D__law_checked.b pass0 (r_e d_str (r_e (dv 3) (r_e (d_callTy call_tuple_of up_tupF (by rfl) m_tuple boot_tuple (d_consA (dv 9) d_nilA)) r_nil))))) d_str) (d_or1 (d_not (d_tst (d_fzE (d_call G__law_right (hr.mono (by decide)) (by rfl) D__law_right.g D__law_right.F.kp D__law_right.b pass0 (r_e (dv 3) (r_e (dv 11) r_nil))))))))))
      (d_one (d_ret d_bl))
      d_nil)
      (d_one (d_ret (d_pure (d_andV (d_cmp (op_eqAll (u64 hr)) up_eq (nomark _) (d_fzE (d_call G__law_checked (hr.mono (by decide)) (by rfl) D__law_checked.g D__law_checked.F.kp D__law_checked.b pass0 (r_e d_str (r_e (dv 3) (r_e (d_callTy call_tuple_of up_tupF (by rfl) m_tuple boot_tuple (d_consA (dv 14) d_nilA)) r_nil))))) d_str) (d_oneV (d_fzE (d_call G__law_right (hr.mono (by decide)) (by rfl) D__law_right.g D__law_right.F.kp D__law_right.b pass0 (r_e (dv 3) (r_e (d_op op_addAll up_add (dv 14) (dv 11)) r_nil))))))))))))))))))))))))) (fun ds R h => ?_)
  try rewrite [gIx_I]
  try rewrite [dSeq_I]
  try rewrite [dRet_I]
  try rewrite [gEq_I]
  try rewrite [gNe_I]
  obtain ⟨ns, rfl, hn, q⟩ := h
  refine ⟨rfl, rfl, ?_⟩
  refine st0 ⟨ns, 900, rfl, hn, by decide, by decide, fun l => ?_⟩
  refine st [some (.scr ns), some (mlI l), none, none, none, none, none, none, none, none, none, none, none, none, none] rfl ?_
  refine ⟨l, 5, rfl, by decide, fun j l1 j0 j1 => ⟨rfl, by (first | decide | (exact small_le (by simp only [List.length_cons, List.length_nil]; omega)) | (simp; done) | (simp only [List.length_cons, List.length_nil]; omega)), l1, 8, rfl, by decide, fun k l2 k0 k1 => ⟨rfl, ?_⟩⟩⟩
  refine ⟨by show (0 : Int) < 7 ∧ (7 : Int) < 1073741824; decide, ?_⟩
  refine ix_lstI (xs := [2 + j, 12]) (by omega) (by show _ < ((2 : Nat) : Int); omega) ?_
  obtain ⟨m, em0, hm⟩ : ∃ m : Int, m = [2 + j, 12].getD (k / 7).toNat 0 ∧ 2 ≤ m ∧ m ≤ 12 := by
    refine ⟨_, rfl, ?_⟩
    have := DL.getD_mem (d := (0 : Int)) (xs := [2 + j, 12]) (i := k / 7) (by omega) (by show _ < ((2 : Nat) : Int); omega)
    simp only [List.mem_cons, List.not_mem_nil, or_false] at this
    omega
  rw [← em0]
  refine ⟨by omega, by omega, small_le (by rw [rng_length]; omega), fun i acc L => ∃ (l ss : List Int) (x : Option DL.D), L = [some (.scr ns), some (mlI l), x, none, none, none, none, none, none, none, none, none, none, none, none] ∧ acc = ss.map DL.D.int ∧ ss.length = i ∧ ∀ x ∈ ss, 1 ≤ x ∧ x ≤ 4, ⟨l2, [], _, rfl, rfl, rfl, fun x h => (by cases h)⟩, ?_, ?_⟩
  · rintro i d acc L hd ⟨l3, ss, x, rfl, rfl, hl, hw⟩
    obtain ⟨rfl, hi⟩ := rng_get hd
    refine ⟨l3, 4, rfl, by decide, fun a l4 a0 a1 => ⟨rfl, l4, ss ++ [1 + a], _, rfl, by rw [List.map_append]; rfl, by rw [List.length_append, hl]; rfl, fun y hy => ?_⟩⟩
    rcases List.mem_append.mp hy with hy | hy
    · exact hw y hy
    · rw [List.mem_singleton.mp hy]; omega
  rintro acc L ⟨l3, ss, x, rfl, rfl, hl, hw⟩
  rw [rng_length] at hl
  have hss : SchB ss := ⟨by omega, by omega, fun x hx => by have := hw x hx; omega⟩
  have hn2 : 2 ≤ ss.length := by omega
  have hn12 : ss.length ≤ 12 := hss.len
  have em : ((ss.map DL.D.int).length : Int) = ss.length := by rw [List.length_map]
  clear hw hl em0 hm
  refine st [some (.scr ns), some (mlI l3), none, some (tupI ss), none, none, none, none, none, none, none, none, none, none, none] rfl ?_
  refine ⟨by omega, by omega, small_le (by rw [rng_length]; omega), fun i acc L => ∃ x : Option DL.D, L = [some (.scr ns), some (mlI l3), x, some (tupI ss), none, none, none, none, none, none, none, none, none, none, none] ∧ acc = ((upto 0 (ss.length : Int)).take i).map DL.D.int, ⟨_, rfl, rfl⟩, ?_, ?_⟩
  · rintro i d acc L hd ⟨x, rfl, rfl⟩
    rw [em] at hd
    obtain ⟨rfl, hi⟩ := rng_get hd
    exact ⟨_, rfl, by have := (upto_stepD (f := fun k => k) hi).symm; simpa using this⟩
  rintro acc L ⟨x, rfl, rfl⟩
  have e1 : ((upto 0 (ss.length : Int)).take (rng 0 ((ss.map DL.D.int).length : Int)).length).map DL.D.int = (upto 0 (ss.length : Int)).map .int := by
    rw [List.take_of_length_le (by rw [upto_length, rng_length]; omega)]
  rw [e1]
  refine st [some (.scr ns), some (mlI l3), none, some (tupI ss), some (lstI (upto 0 (ss.length : Int))), none, none, none, none, none, none, none, none, none, none] rfl ?_
  refine st [some (.scr ns), some (mlI l3), none, some (tupI ss), some (lstI (upto 0 (ss.length : Int))), some (.ml []), none, none, none, none, none, none, none, none, none] rfl ?_
  refine ⟨l3, 9, rfl, by decide, fun n l4 n0 n1 => ⟨rfl, by omega, by omega, fun i L => ∃ (l : List Int) (bs : List Dp), L = [some (.scr ns), some (mlI l), none, some (tupI ss), some (lstI (upto 0 (ss.length : Int))), some (.ml (bs.map Dp.d)), none, none, none, none, none, none, none, none, none] ∧ bs.length ≤ i ∧ ∀ s ∈ bs, QD ss s, ⟨l4, [], rfl, Nat.le_refl _, fun s h => (by cases h)⟩, ?_, ?_⟩⟩
  · rintro i d L hd ⟨l, bs, rfl, hb, hq⟩
    obtain ⟨rfl, hi⟩ := rng_get hd
    refine st0 ⟨l, _, rfl, by rw [em]; omega, fun t l5 t0 t1 => ⟨rfl, ?_⟩⟩
    rw [em] at t1
    refine st [some (.scr ns), some (mlI l5), some (.int t), some (tupI ss), some (lstI (upto 0 (ss.length : Int))), some (.ml (bs.map Dp.d)), some (.int (0 + (i : Int))), none, none, none, none, none, none, none, none] rfl ?_
    refine ⟨l5, _, rfl, by rw [em]; omega, fun r l6 r0 r1 => ⟨rfl, by show (0 : Int) < _; rw [em]; omega, ?_⟩⟩
    rw [em] at r1
    dsimp only
    rw [em]
    refine nxL [some (.scr ns), some (mlI l6), some (.int t), some (tupI ss), some (lstI (upto 0 (ss.length : Int))), some (.ml (bs.map Dp.d)), some (.int (0 + (i : Int))), some (.int ((t + 1 + r) % (ss.length : Int))), none, none, none, none, none, none, none] rfl ?_
    have hne := mod_ne (n := (ss.length : Int)) t0 t1 r0 r1
    have o0 : 0 ≤ (t + 1 + r) % (ss.length : Int) := Int.emod_nonneg _ (by omega)
    have o1 : (t + 1 + r) % (ss.length : Int) < ss.length := Int.emod_lt_of_pos _ (by omega)
    generalize (t + 1 + r) % (ss.length : Int) = o at hne o0 o1 ⊢
    refine ⟨rfl, l6, ss, t, o, rfl, hss, t0, t1, o0, o1, fun cs xs l7 hi => ⟨rfl, dps_fr bs, small_lt (by rw [List.length_map]; omega), ?_⟩⟩
    refine ⟨l7, bs ++ [.inc t cs o xs], Eq.trans rfl (congrArg (fun z9 : List DL.D => [some (DL.D.scr ns), some (mlI l7), none, some (tupI ss), some (lstI (upto 0 (ss.length : Int))), some (DL.D.ml z9), none, none, none, none, none, none, none, none, none]) (show bs.map Dp.d ++ [fz (Dp.inc t cs o xs).d] = List.map Dp.d (bs ++ [.inc t cs o xs]) by first | (rw [List.map_append]; rfl) | (simp only [List.map_append, List.map_cons, List.map_nil, List.map_take, List.map_drop]; rfl))), by rw [List.length_append]; show _ + 1 ≤ _; omega, fun s hs => ?_⟩
    rcases List.mem_append.mp hs with hs | hs
    · exact hq s hs
    · rw [List.mem_singleton.mp hs]; exact hi.q hss hne
  rintro L ⟨l, bs, rfl, hb, hq⟩
  rw [rng_length] at hb
  have hb : bs.length ≤ 8 := by omega
  refine st0 ⟨l, 4, rfl, by decide, fun n l4 n0 n1 => ⟨rfl, by omega, by omega, fun i L => ∃ (l : List Int) (bs : List Dp) (x : Option DL.D), L = [some (.scr ns), some (mlI l), x, some (tupI ss), some (lstI (upto 0 (ss.length : Int))), some (.ml (bs.map Dp.d)), none, none, none, none, none, none, none, none, none] ∧ OkO x ∧ bs.length ≤ 8 + i ∧ ∀ s ∈ bs, QD ss s, ⟨l4, bs, none, rfl, rfl, hb, hq⟩, ?_, ?_⟩⟩
  · rintro i d L hd ⟨l, bs, x, rfl, hx, hb, hq⟩
    obtain ⟨rfl, hi⟩ := rng_get hd
    refine st0 ⟨l, _, rfl, by rw [em]; omega, fun t l5 t0 t1 => ⟨rfl, ?_⟩⟩
    rw [em] at t1
    obtain ⟨w, hw⟩ : ∃ w, ss[t.toNat]? = some w := ⟨_, List.getElem?_eq_getElem (by omega)⟩
    have h7 := wd7 hss ⟨t0, hw⟩
    have hbs : bs.length ≤ 11 := by omega
    refine nxL [some (.scr ns), some (mlI l5), some (.int t), some (tupI ss), some (lstI (upto 0 (ss.length : Int))), some (.ml (bs.map Dp.d)), some (.int (0 + (i : Int))), none, none, none, none, none, none, none, none] rfl ?_
    refine ⟨rfl, ⟨noMos_fr rfl (noMos_cons (noMo_mlI l5) (noMos_fr rfl (noMos_fr rfl (noMos_fr rfl (noMos_mlF (dps_fr bs) (noMos_fr rfl rfl)))))), rfl, l5, _, rfl, by rw [fzL_fr (dps_fr bs), List.length_map]; omega, fun p l6 p0 p1 => ⟨rfl, ?_⟩⟩⟩
    rw [fzL_fr (dps_fr bs), List.length_map] at p1
    refine ixT (d := .int w) (atI_nat' (j := t.toNat) (by omega) (by rw [List.getElem?_map, hw]; rfl)) ?_
    refine ⟨l6, w, 3, rfl, by omega, h7.2, by decide, by decide, fun ps l7 hps => ⟨rfl, ?_⟩⟩
    refine ⟨by (first | decide | (exact small_le (by simp only [List.length_cons, List.length_nil]; omega)) | (simp; done) | (simp only [List.length_cons, List.length_nil]; omega)), dps_fr bs, small_lt (by rw [List.length_map]; omega), p0, by omega, ?_⟩
    refine ⟨l7, bs.take p.toNat ++ [.joins t ps] ++ bs.drop p.toNat, _, Eq.trans rfl (congrArg (fun z9 : List DL.D => [some (DL.D.scr ns), some (mlI l7), some (DL.D.int t), some (tupI ss), some (lstI (upto 0 (ss.length : Int))), some (DL.D.ml z9), none, none, none, none, none, none, none, none, none]) (show (bs.map Dp.d).take p.toNat ++ [DL.D.tup [.str "joins", .int t, fz (DL.D.tup (ps.map tupI))]] ++ (bs.map Dp.d).drop p.toNat = List.map Dp.d (bs.take p.toNat ++ [.joins t ps] ++ bs.drop p.toNat) by first | (rw [List.map_append]; rfl) | (simp only [List.map_append, List.map_cons, List.map_nil, List.map_take, List.map_drop]; rfl))), rfl, ?_, fun s hs => ?_⟩
    · rw [(ins_perm bs (Dp.joins t ps) p.toNat).length_eq, List.length_append]; show _ + 1 ≤ _; omega
    · rcases List.mem_append.mp ((ins_perm bs (Dp.joins t ps) p.toNat).mem_iff.mp hs) with hs | hs
      · exact hq s hs
      · rw [List.mem_singleton.mp hs]; exact hps.q hss ⟨t0, hw⟩
  rintro L ⟨l, bs, x2, rfl, hx2, hb, hq⟩
  rw [rng_length] at hb
  have hb : bs.length ≤ 11 := by omega
  refine st0 ?_
  refine pureT_st [some (.scr ns), some (fz (mlI l)), x2.map fz, some (tupI ss), some (lstI (upto 0 (ss.length : Int))), some (.lst (bs.map Dp.d)), none, none, none, none, none, none, none, none, none] (show noMos [some (.scr ns), some (mlI l), x2, some (tupI ss), some (lstI (upto 0 (ss.length : Int))), some (.ml (bs.map Dp.d)), none, none, none, none, none, none, none, none, none] = true from noMos_fr rfl (noMos_cons (noMo_mlI l) (noMos_cons hx2 (noMos_fr rfl (noMos_fr rfl (noMos_mlF (dps_fr bs) rfl)))))) (Eq.trans rfl (congrArg (fun z9 : DL.D => [some (DL.D.scr ns), some (fz (mlI l)), x2.map fz, some (tupI ss), some (lstI (upto 0 (ss.length : Int))), some z9, none, none, none, none, none, none, none, none, none]) (fz_mlF (dps_fr bs)))) ?_
  refine ⟨ss, bs, rfl, hn12, by omega, hq, rfl, ?_⟩
  refine condF (A := True) ?_
  refine dNilG ?_
  refine nxL [some (.scr ns), some (mlI l), x2, some (tupI ss), some (lstI (upto 0 (ss.length : Int))), some (.ml (bs.map Dp.d)), none, none, none, none, none, none, none, none, none] rfl ?_
  refine st0 ?_
  refine ⟨l, .lst ((upto 0 (ss.length : Int)).map .int), (upto 0 (ss.length : Int)).map .int, rfl, .lst _, allFr_ints _, by rw [List.length_map, upto_length]; omega, fun xs l4 hx => ?_⟩
  obtain ⟨xs, rfl, hx1⟩ := perm_map_inv hx
  refine ⟨noMo_mlI xs, ?_⟩
  rw [show fz (DL.D.ml (xs.map .int)) = .lst (xs.map .int) from fz_mlI xs]
  refine ⟨l4, _, rfl, by rw [em]; omega, fun a l5 a0 a1 => ⟨rfl, ?_⟩⟩
  rw [em] at a1
  have hxl : xs.length = ss.length := by have := hx1.length_eq; rw [upto_length] at this; omega
  have hxn : xs.Nodup := hx1.nodup_iff.mpr (upto_nodup _)
  obtain ⟨hs, ehs⟩ : ∃ hs, hs = xs.take (2 + a).toNat := ⟨_, rfl⟩
  have hcut : DL.cutD (xs.map DL.D.int) none (some (2 + a)) = hs.map .int := by rw [cutD_hi _ (by omega), ehs, List.map_take]
  have hsl : hs.length = (2 + a).toNat := by rw [ehs, List.length_take]; omega
  have hsn : hs.Nodup := by rw [ehs]; exact hxn.sublist (List.take_sublist ..)
  have hsm : ∀ x ∈ hs, 0 ≤ x ∧ x < (ss.length : Int) := fun x hx => by
    rw [ehs] at hx
    have := mem_upto.mp (hx1.mem_iff.mp (List.mem_of_mem_take hx))
    omega
  have h2 : 2 ≤ hs.length := by omega
  have h12 : hs.length ≤ 12 := by omega
  clear ehs
  refine st [some (.scr ns), some (mlI l5), x2, some (tupI ss), some (lstI (upto 0 (ss.length : Int))), some (.ml (bs.map Dp.d)), none, none, some (lstI hs), none, none, none, none, none, none] (Eq.trans rfl (congrArg (fun z9 : List DL.D => [some (DL.D.scr ns), some (mlI l5), x2, some (tupI ss), some (lstI (upto 0 (ss.length : Int))), some (DL.D.ml (bs.map Dp.d)), none, none, some (DL.D.lst z9), none, none, none, none, none, none]) hcut)) ?_
  clear hcut
  have emh : ((hs.map DL.D.int).length : Int) = hs.length := by rw [List.length_map]
  refine ⟨by omega, by omega, small_le (by rw [rng_length]; omega), fun i acc L => ∃ (l : List Int) (rs : List Dp) (x : Option DL.D), L = [some (.scr ns), some (mlI l), x2, some (tupI ss), some (lstI (upto 0 (ss.length : Int))), some (.ml (bs.map Dp.d)), x, none, some (lstI hs), none, none, none, none, none, none] ∧ acc = rs.map Dp.d ∧ rs.length = i ∧ ∀ j s, rs[j]? = some s → ∃ cs xs, s = .inc (rg hs j).1 cs (rg hs j).2 xs ∧ QD ss s, ⟨l5, [], _, rfl, rfl, rfl, fun j s h => (by simp at h)⟩, ?_, ?_⟩
  · rintro i d acc L hd ⟨l, rs, x, rfl, rfl, hl, hr⟩
    rw [emh] at hd
    obtain ⟨rfl, hi⟩ := rng_get hd
    have hih : i < hs.length := by omega
    have mm : ∀ j, j < hs.length → hs.getD j 0 ∈ hs := fun j hj => by rw [List.getD_eq_getElem?_getD, List.getElem?_eq_getElem hj]; exact List.getElem_mem hj
    have g1 : ∀ j, j < hs.length → (hs.map DL.D.int)[j]? = some (.int (hs.getD j 0)) := fun j hj => by rw [List.getElem?_map, List.getElem?_eq_getElem hj, List.getD_eq_getElem?_getD, List.getElem?_eq_getElem hj]; rfl
    have hp : (i + hs.length - 1) % hs.length < hs.length := Nat.mod_lt _ (by omega)
    have hat1 : atI (hs.map DL.D.int) (0 + (i : Int) - 1) = some (.int (rg hs i).1) := by
      unfold rg
      by_cases h0 : i = 0
      · subst h0
        have e : (0 + hs.length - 1) % hs.length = hs.length - 1 := by rw [Nat.zero_add, Nat.mod_eq_of_lt (by omega)]
        rw [e, show (0 + ((0 : Nat) : Int) - 1) = -1 by omega, atI_last (by rw [List.length_map]; omega), ← List.getElem?_eq_getElem, List.length_map]
        exact g1 _ (by omega)
      · have e : (i + hs.length - 1) % hs.length = i - 1 := by
          rw [show i + hs.length - 1 = i - 1 + hs.length by omega, Nat.add_mod_right, Nat.mod_eq_of_lt (by omega)]
        rw [e]
        exact atI_nat' (j := i - 1) (by omega) (g1 _ (by omega))
    have hat2 : atI (hs.map DL.D.int) (0 + (i : Int)) = some (.int (rg hs i).2) := atI_nat' (j := i) (by omega) (g1 i hih)
    have hne : (rg hs i).1 ≠ (rg hs i).2 := fun e => by
      have := idx_inj hsn hp hih e
      by_cases h0 : i = 0
      · subst h0
        rw [Nat.zero_add, Nat.mod_eq_of_lt (by omega)] at this
        omega
      · rw [show i + hs.length - 1 = i - 1 + hs.length by omega, Nat.add_mod_right, Nat.mod_eq_of_lt (by omega)] at this
        omega
    have m1 := hsm _ (mm _ hp)
    have m2 := hsm _ (mm _ hih)
    have m1 : 0 ≤ (rg hs i).1 ∧ (rg hs i).1 < (ss.length : Int) := m1
    have m2 : 0 ≤ (rg hs i).2 ∧ (rg hs i).2 < (ss.length : Int) := m2
    refine ixL hat1 ?_
    refine ixL hat2 ?_
    refine ⟨l, ss, (rg hs i).1, (rg hs i).2, rfl, hss, m1.1, m1.2, m2.1, m2.2, fun cs xs l6 hinc => ⟨rfl, l6, rs ++ [.inc (rg hs i).1 cs (rg hs i).2 xs], _, rfl, by rw [List.map_append]; rfl, by rw [List.length_append, hl]; rfl, fun j s hj => ?_⟩⟩
    by_cases c : j < rs.length
    · rw [List.getElem?_append_left c] at hj
      exact hr j s hj
    · rw [List.getElem?_append_right (by omega)] at hj
      have hj0 : j - rs.length = 0 := by
        have := (List.getElem?_eq_some_iff.mp hj).1
        simp at this
        omega
      rw [hj0] at hj
      have hji : j = i := by omega
      cases hj
      exact ⟨cs, xs, by rw [hji], hinc.q hss hne⟩
  rintro acc L ⟨l6, rs, x, rfl, rfl, hl, hr⟩
  rw [rng_length, emh] at hl
  have hrl : rs.length = hs.length := by omega
  have hrq : ∀ s ∈ rs, QD ss s := fun s h => by
    obtain ⟨j, hj⟩ := List.mem_iff_getElem?.mp h
    obtain ⟨_, _, _, h⟩ := hr j s hj
    exact h
  have emr : ((rs.map Dp.d).length : Int) = rs.length := by rw [List.length_map]
  refine st [some (.scr ns), some (mlI l6), x2, some (tupI ss), some (lstI (upto 0 (ss.length : Int))), some (.ml (bs.map Dp.d)), none, none, some (lstI hs), some (.lst (rs.map Dp.d)), none, none, none, none, none] rfl ?_
  refine ⟨l6, ss, rfl, hss, fun os l7 ho => ⟨rfl, ?_⟩⟩
  have hon : os.Nodup := ho.nodup_iff.mpr (upto_nodup _)
  refine st [some (.scr ns), some (mlI l7), x2, some (tupI ss), some (lstI (upto 0 (ss.length : Int))), some (.ml (bs.map Dp.d)), none, none, some (lstI hs), some (.lst (rs.map Dp.d)), some (lstI os), none, none, none, none] rfl ?_
  refine ⟨l7, 4, rfl, by decide, fun n l8 n0 n1 => ⟨rfl, by omega, by omega, small_le (by rw [rng_length]; omega), fun i acc L => ∃ (l : List Int) (ws : List Dp) (x : Option DL.D), L = [some (.scr ns), some (mlI l), x2, some (tupI ss), some (lstI (upto 0 (ss.length : Int))), some (.ml (bs.map Dp.d)), x, none, some (lstI hs), some (.lst (rs.map Dp.d)), some (lstI os), none, none, none, none] ∧ acc = ws.map Dp.d ∧ ws.length = i ∧ ∀ s ∈ ws, QD ss s, ⟨l8, [], _, rfl, rfl, rfl, fun s h => (by cases h)⟩, ?_, ?_⟩⟩
  · rintro i d acc L hd ⟨l, ws, x, rfl, rfl, hl, hq⟩
    obtain ⟨rfl, hi⟩ := rng_get hd
    refine ⟨l, ss, os, rfl, hss, ho, by omega, fun s l9 hd => ?_⟩
    have hqs := hd.q hss hon
    have fin : ∀ y ∈ ws ++ [s], QD ss y := fun y hy => by
      rcases List.mem_append.mp hy with hy | hy
      · exact hq y hy
      · rw [List.mem_singleton.mp hy]; exact hqs
    cases s
    all_goals exact ⟨rfl, l9, ws ++ [_], _, rfl, by rw [List.map_append]; rfl, by rw [List.length_append, hl]; rfl, fin⟩
  rintro acc L ⟨l9, ws, x, rfl, rfl, hwl, hwq⟩
  rw [rng_length] at hwl
  refine st [some (.scr ns), some (mlI l9), x2, some (tupI ss), some (lstI (upto 0 (ss.length : Int))), some (.ml (bs.map Dp.d)), none, none, some (lstI hs), some (.lst (rs.map Dp.d)), some (lstI os), some (.ml (ws.map Dp.d)), none, none, none] rfl ?_
  refine ⟨fun i L => ∃ (l : List Int) (ws : List Dp), L = [some (.scr ns), some (mlI l), x2, some (tupI ss), some (lstI (upto 0 (ss.length : Int))), some (.ml (bs.map Dp.d)), none, none, some (lstI hs), some (.lst (rs.map Dp.d)), some (lstI os), some (.ml (ws.map Dp.d)), none, none, none] ∧ ws.length ≤ 3 + i ∧ ∀ s ∈ ws, QD ss s, ⟨l9, ws, rfl, by omega, hwq⟩, ?_, ?_⟩
  · rintro i d L hd ⟨l, ws, rfl, hwl, hwq⟩
    rw [List.getElem?_map, Option.map_eq_some_iff] at hd
    obtain ⟨s, hs9, rfl⟩ := hd
    have hi9 := (List.getElem?_eq_some_iff.mp hs9).1
    have hqs := hrq s (List.mem_of_getElem? hs9)
    have fin : ∀ p : Nat, ∀ y ∈ ws.take p ++ [s] ++ ws.drop p, QD ss y := fun p y hy => by
      rcases List.mem_append.mp ((ins_perm ws s p).mem_iff.mp hy) with hy | hy
      · exact hwq y hy
      · rw [List.mem_singleton.mp hy]; exact hqs
    have finl : ∀ p : Nat, (ws.take p ++ [s] ++ ws.drop p).length ≤ 3 + (i + 1) := fun p => by
      rw [(ins_perm ws s p).length_eq, List.length_append]; show _ + 1 ≤ _; omega
    cases s
    all_goals
      refine ⟨rfl, ⟨noMos_fr rfl (noMos_cons (noMo_mlI l) (noMos_cons hx2 (noMos_fr rfl (noMos_fr rfl (noMos_mlF (dps_fr bs) (noMos_none (noMos_none (noMos_fr rfl (noMos_fr rfl (noMos_fr rfl (noMos_mlF (dps_fr ws) (noMos_fr rfl rfl)))))))))))), rfl, l, _, rfl, by rw [fzL_fr (dps_fr ws), List.length_map]; omega, fun p l2 p0 p1 => ⟨rfl, ?_⟩⟩⟩
      rw [fzL_fr (dps_fr ws), List.length_map] at p1
      refine ⟨dps_fr ws, small_lt (by rw [List.length_map]; omega), p0, by omega, ?_⟩
      refine ⟨l2, ws.take p.toNat ++ [_] ++ ws.drop p.toNat, Eq.trans rfl (congrArg (fun z9 : List DL.D => [some (DL.D.scr ns), some (mlI l2), x2, some (tupI ss), some (lstI (upto 0 (ss.length : Int))), some (DL.D.ml (bs.map Dp.d)), none, none, some (lstI hs), some (DL.D.lst (rs.map Dp.d)), some (lstI os), some (DL.D.ml z9), none, none, none]) (show (ws.map Dp.d).take p.toNat ++ [Dp.d _] ++ (ws.map Dp.d).drop p.toNat = List.map Dp.d (ws.take p.toNat ++ [_] ++ ws.drop p.toNat) by simp only [List.map_append, List.map_cons, List.map_nil, List.map_take, List.map_drop])), finl _, fin _⟩
  rintro L ⟨l, ws, rfl, hwl, hwq⟩
  rw [List.length_map] at hwl
  have hwl : ws.length ≤ 15 := by omega
  refine st0 ⟨l, _, rfl, by rw [emr]; omega, fun a9 l2 a0 a1 => ⟨rfl, ?_⟩⟩
  rw [emr] at a1
  obtain ⟨a, rfl⟩ : ∃ n : Nat, a9 = (n : Int) := ⟨a9.toNat, by omega⟩
  have har : a < rs.length := by omega
  refine st [some (.scr ns), some (mlI l2), x2, some (tupI ss), some (lstI (upto 0 (ss.length : Int))), some (.ml (bs.map Dp.d)), none, none, some (lstI hs), some (.lst (rs.map Dp.d)), some (lstI os), some (.ml (ws.map Dp.d)), none, some (.int (a : Int)), none] rfl ?_
  refine ⟨small_le (by rw [cut_lo, cut_up (n := a + 1) (by omega), List.length_map, List.length_map, List.length_take, List.length_drop]; omega), ?_⟩
  have e : DL.cutD (rs.map Dp.d) none (some (a : Int)) ++ DL.cutD (rs.map Dp.d) (some ((a : Int) + 1)) none = (rs.take a ++ rs.drop (a + 1)).map Dp.d := by
    rw [cut_lo, cut_up (n := a + 1) (by omega), List.map_append]
  obtain ⟨ls, els⟩ : ∃ ls, ls = rs.take a ++ rs.drop (a + 1) := ⟨_, rfl⟩
  rw [← els] at e
  have hrl2 : ls.length ≤ 12 := by rw [els, List.length_append, List.length_take, List.length_drop]; omega
  have hlq : ∀ s ∈ ls, QD ss s := fun s hs => by
    rw [els] at hs
    rcases List.mem_append.mp hs with hs | hs
    · exact hrq s (List.mem_of_mem_take hs)
    · exact hrq s (List.mem_of_mem_drop hs)
  have hnot : ¬ RG.Free (edges rs) := ring_not h2 fun j hj => by
    obtain ⟨s, hs⟩ : ∃ s, rs[j]? = some s := ⟨_, List.getElem?_eq_getElem (by omega)⟩
    obtain ⟨cs, xs, rfl, _⟩ := hr j s hs
    exact List.mem_filterMap.mpr ⟨_, List.mem_of_getElem? hs, rfl⟩
  have hfree : RG.Free (edges ls) := ring_less hsn (at_ := a) (by omega) fun e he => by
    obtain ⟨cs, xs, hm⟩ := mem_edges he
    rw [els] at hm
    have two : ∃ j, j ≠ a ∧ rs[j]? = some (.inc e.1 cs e.2 xs) := by
      rcases List.mem_append.mp hm with hm | hm
      · obtain ⟨j, hj⟩ := List.mem_iff_getElem?.mp hm
        rw [List.getElem?_take] at hj
        split at hj
        · exact ⟨j, by omega, hj⟩
        · cases hj
      · obtain ⟨j, hj⟩ := List.mem_iff_getElem?.mp hm
        rw [List.getElem?_drop] at hj
        exact ⟨a + 1 + j, by omega, hj⟩
    obtain ⟨j, hja, hj⟩ := two
    obtain ⟨cs', xs', e2, _⟩ := hr j _ hj
    injection e2 with e3 e4 e5 e6
    exact ⟨j, by have := (List.getElem?_eq_some_iff.mp hj).1; omega, hja, Prod.ext e3 e5⟩
  refine st [some (.scr ns), some (mlI l2), x2, some (tupI ss), some (lstI (upto 0 (ss.length : Int))), some (.ml (bs.map Dp.d)), none, none, some (lstI hs), some (.lst (rs.map Dp.d)), some (lstI os), some (.ml (ws.map Dp.d)), none, some (.int (a : Int)), some (.lst (ls.map Dp.d))] (Eq.trans rfl (congrArg (fun z9 : List DL.D => [some (DL.D.scr ns), some (mlI l2), x2, some (tupI ss), some (lstI (upto 0 (ss.length : Int))), some (DL.D.ml (bs.map Dp.d)), none, none, some (lstI hs), some (DL.D.lst (rs.map Dp.d)), some (lstI os), some (DL.D.ml (ws.map Dp.d)), none, some (DL.D.int (a : Int)), some (DL.D.lst z9)]) e)) ?_
  clear e els
  have hno : noMos [some (.scr ns), some (mlI l2), x2, some (tupI ss), some (lstI (upto 0 (ss.length : Int))), some (.ml (bs.map Dp.d)), none, none, some (lstI hs), some (.lst (rs.map Dp.d)), some (lstI os), some (.ml (ws.map Dp.d)), none, some (.int (a : Int)), some (.lst (ls.map Dp.d))] = true := noMos_fr rfl (noMos_cons (noMo_mlI l2) (noMos_cons hx2 (noMos_fr rfl (noMos_fr rfl (noMos_mlF (dps_fr bs) (noMos_none (noMos_none (noMos_fr rfl (noMos_fr rfl (noMos_fr rfl (noMos_mlF (dps_fr ws) (noMos_none (noMos_fr rfl (noMos_fr rfl rfl))))))))))))))
  have hfz : fzAll [some (.scr ns), some (mlI l2), x2, some (tupI ss), some (lstI (upto 0 (ss.length : Int))), some (.ml (bs.map Dp.d)), none, none, some (lstI hs), some (.lst (rs.map Dp.d)), some (lstI os), some (.ml (ws.map Dp.d)), none, some (.int (a : Int)), some (.lst (ls.map Dp.d))] = [some (.scr ns), some (fz (mlI l2)), x2.map fz, some (tupI ss), some (lstI (upto 0 (ss.length : Int))), some (fz (.ml (bs.map Dp.d))), none, none, some (lstI hs), some (.lst (rs.map Dp.d)), some (lstI os), some (.lst (ws.map Dp.d)), none, some (.int (a : Int)), some (.lst (ls.map Dp.d))] := Eq.trans rfl (congrArg (fun z9 : DL.D => [some (DL.D.scr ns), some (fz (mlI l2)), x2.map fz, some (tupI ss), some (lstI (upto 0 (ss.length : Int))), some (fz (.ml (bs.map Dp.d))), none, none, some (lstI hs), some (DL.D.lst (rs.map Dp.d)), some (lstI os), some z9, none, some (DL.D.int (a : Int)), some (DL.D.lst (ls.map Dp.d))]) (fz_mlF (dps_fr ws)))
  refine pureT_st [some (.scr ns), some (fz (mlI l2)), x2.map fz, some (tupI ss), some (lstI (upto 0 (ss.length : Int))), some (fz (.ml (bs.map Dp.d))), none, none, some (lstI hs), some (.lst (rs.map Dp.d)), some (lstI os), some (.lst (ws.map Dp.d)), none, some (.int (a : Int)), some (.lst (ls.map Dp.d))] hno hfz ?_
  refine ⟨ss, rs, rfl, by omega, fun s h => (hrq s h).2, fun h => (hnot h.2).elim, fun _ => ⟨rfl, ?_⟩⟩
  refine neS rfl ?_
  refine condFf (A := True) ?_
  refine ⟨ss, ws, rfl, hn12, by omega, hwq, rfl, ?_⟩
  refine condF (A := True) ?_
  refine dNilG ?_
  refine nxL [some (.scr ns), some (mlI l2), x2, some (tupI ss), some (lstI (upto 0 (ss.length : Int))), some (.ml (bs.map Dp.d)), none, none, some (lstI hs), some (.lst (rs.map Dp.d)), some (lstI os), some (.ml (ws.map Dp.d)), none, some (.int (a : Int)), some (.lst (ls.map Dp.d))] rfl ?_
  refine stR [some (.scr ns), some (mlI l2), x2, some (tupI ss), some (lstI (upto 0 (ss.length : Int))), some (.ml (bs.map Dp.d)), none, none, some (lstI hs), some (.lst (rs.map Dp.d)), some (lstI os), some (.ml (ws.map Dp.d)), none, some (.int (a : Int)), some (.lst (ls.map Dp.d))] rfl ⟨hno, ?_⟩
  rw [hfz]
  refine ⟨ss, ls, rfl, by omega, fun s h => (hlq s h).2, fun _ => ⟨rfl, ?_⟩, fun h => (h ⟨fun s h => (hlq s h).1, hfree⟩).elim⟩
  refine eqS rfl ?_
  refine ⟨small_le (by rw [List.length_map, List.length_map]; omega), ss, ls ++ ws, by rw [List.map_append], hn12, by rw [List.length_append]; omega, fun s hs => ?_, rfl, rfl, ?_⟩
  · rcases List.mem_append.mp hs with hs | hs
    · exact hlq s hs
    · exact hwq s hs
  exact q
end

end LW

/-! A law's own head: the script comes in, true goes out. -/
namespace DL
open PySem PySem.Spec PyProof.Rows L2
def spLaw : SpD := fun ds R => ∃ ns : List Int, ds = [.scr ns] ∧ ns.length ≤ 63 ∧ R (.bl true) [.scr ns]
theorem law_low {K : PySem.W.Frag} {H : Hp} {a : Addr} {ns : List Int} {E : XK} (hS : SqL K H a (ns.map V.int)) (hl : ns.length ≤ 63) : lowF K spLaw [.ref a] H (fun v _ => v = .bl true) E := by
  have fin : ∀ F : Fp, Fr K H F (.ref a) (.scr ns) → (∀ x, F x → ∃ o, H x = some o) → lowF K spLaw [.ref a] H (fun v _ => v = .bl true) E := fun F f hF => by
    refine ⟨F, _, [.scr ns], fun d _ => d = .bl true, .df (.fr f) .nil (fun _ z => z.elim), ⟨hF, fun x z => ?_⟩, ⟨ns, rfl, hl, rfl⟩, ?_⟩
    · rcases z with z | z <;> exact z.elim
    · rintro d ds' v F' A' B H' rfl _ _ ow _ _
      cases ow with
      | fr h => cases h; rfl
  rcases hS with h | ⟨o, its, n, h1, h2, h3, h4, h5, h6⟩
  · refine fin (fun x => x = a) (.scr rfl h) fun x e => ?_
    subst e
    rcases h with h | ⟨o, h⟩
    · exact ⟨_, h⟩
    · exact ⟨_, h⟩
  · exact fin (fun _ => False) (.scrK fun H' => .inr ⟨o, its, n, h1, h2, h3, h4, h5, h6⟩) fun x z => z.elim
theorem law_any {P : Program} {w : World} {K : PySem.W.Frag} {mg : Str → Option Value} {base : Heap} {k : Nat} {f : Addr} {fd : FuncData} {ps : List Str} {sp : SpD} (F : FnOk P w K mg base CX0 k f fd ps (lowF K sp)) (h : ∀ ds R, spLaw ds R → sp ds R) : FnOk P w K mg base CX0 k f fd ps (lowF K spLaw) :=
  F.imp fun vs H Q E ⟨F, A, ds, R, l, s, q, p⟩ => ⟨F, A, ds, R, l, s, h ds R q, p⟩
theorem df_mk {K : PySem.W.Frag} {mg : Str → Option Value} {h : Heap} {x : Str} {st : Stmt} {ps : List Str} {f : Addr} {oc : Value} {od an : Option Addr} {osl : Array (Option Value)} {kV doc pm cdv ct : Value} (X : K.In h) (G : h.Ns mainGlobals mg)
    (hb : ∀ (kV doc pm : Value) (an : Option Addr) (cdv ct : Value) (us : List Value), us.length = ps.length → bindArgs (PySem.W.fnOf x x (defArgs st) (defBody st) (defScope st) .none kV doc pm an cdv ct) ⟨us, []⟩ = pure (ps.zip us))
    (a : PySem.W.nsIn K mainGlobals x = some (some (.ref f))) (l : K.lookup f = some ⟨oc, od, .func (PySem.W.fnOf x x (defArgs st) (defBody st) (defScope st) .none kV doc pm an cdv ct), osl⟩)
    (c : PySem.W.codeIn K cdv x = true) (k : PySem.W.keepIn K (.ref f) = true) : Df K mg x st ps f (PySem.W.fnOf x x (defArgs st) (defBody st) (defScope st) .none kV doc pm an cdv ct) :=
  ⟨fun_mk l c k, (fun_mk (st := st) l c k).binds hb, PySem.W.mg_of X G a⟩
end DL

namespace LW
open PySem PySem.Spec PyProof.Rows PySem.Calls L2 DL
theorem all_mk {l : PySem.W.OpenLaw} {w : World} {K : PySem.W.Frag} {h : Heap} {mg : Str → Option Value} {fa f1 f2 f3 f4 f5 f6 f7 f8 f9 f10 f11 f12 f13 f14 f15 f16 f17 f18 f19 f20 f21 : Addr} (X : K.In h) (G : h.Ns mainGlobals mg) (hfa : mg "law" = some (.ref fa))
    {od1 an1 od2 an2 od3 an3 od4 an4 od5 an5 od6 an6 od7 an7 od8 an8 od9 an9 od10 an10 od11 an11 od12 an12 od13 an13 od14 an14 od15 an15 od16 an16 od17 an17 od18 an18 od19 an19 od20 an20 od21 an21 : Option Addr}
    {sl1 sl2 sl3 sl4 sl5 sl6 sl7 sl8 sl9 sl10 sl11 sl12 sl13 sl14 sl15 sl16 sl17 sl18 sl19 sl20 sl21 : Array (Option Value)}
    {oc1 kV1 dc1 pm1 cd1 ct1 oc2 kV2 dc2 pm2 cd2 ct2 oc3 kV3 dc3 pm3 cd3 ct3 oc4 kV4 dc4 pm4 cd4 ct4 oc5 kV5 dc5 pm5 cd5 ct5 oc6 kV6 dc6 pm6 cd6 ct6 oc7 kV7 dc7 pm7 cd7 ct7 oc8 kV8 dc8 pm8 cd8 ct8 oc9 kV9 dc9 pm9 cd9 ct9 oc10 kV10 dc10 pm10 cd10 ct10 oc11 kV11 dc11 pm11 cd11 ct11 oc12 kV12 dc12 pm12 cd12 ct12 oc13 kV13 dc13 pm13 cd13 ct13 oc14 kV14 dc14 pm14 cd14 ct14 oc15 kV15 dc15 pm15 cd15 ct15 oc16 kV16 dc16 pm16 cd16 ct16 oc17 kV17 dc17 pm17 cd17 ct17 oc18 kV18 dc18 pm18 cd18 ct18 oc19 kV19 dc19 pm19 cd19 ct19 oc20 kV20 dc20 pm20 cd20 ct20 oc21 kV21 dc21 pm21 cd21 ct21 : Value} {C_TableError C_InvalidScheme C_InvalidBook C_InvalidStore C_BadText C_NoTable C_NoRow C_DoubledRow C_NoDependency C_Breach C_NothingToUndo C_NothingToRedo C_InvalidQuestion : Addr}
    (ca_TableError : PySem.W.nsIn K mainGlobals "TableError" = some (some (.ref C_TableError))) (cb_TableError : erB K C_TableError = true)
    (ca_InvalidScheme : PySem.W.nsIn K mainGlobals "InvalidScheme" = some (some (.ref C_InvalidScheme))) (cb_InvalidScheme : erB K C_InvalidScheme = true)
    (ca_InvalidBook : PySem.W.nsIn K mainGlobals "InvalidBook" = some (some (.ref C_InvalidBook))) (cb_InvalidBook : erB K C_InvalidBook = true)
    (ca_InvalidStore : PySem.W.nsIn K mainGlobals "InvalidStore" = some (some (.ref C_InvalidStore))) (cb_InvalidStore : erB K C_InvalidStore = true)
    (ca_BadText : PySem.W.nsIn K mainGlobals "BadText" = some (some (.ref C_BadText))) (cb_BadText : erB K C_BadText = true)
    (ca_NoTable : PySem.W.nsIn K mainGlobals "NoTable" = some (some (.ref C_NoTable))) (cb_NoTable : erB K C_NoTable = true)
    (ca_NoRow : PySem.W.nsIn K mainGlobals "NoRow" = some (some (.ref C_NoRow))) (cb_NoRow : erB K C_NoRow = true)
    (ca_DoubledRow : PySem.W.nsIn K mainGlobals "DoubledRow" = some (some (.ref C_DoubledRow))) (cb_DoubledRow : erB K C_DoubledRow = true)
    (ca_NoDependency : PySem.W.nsIn K mainGlobals "NoDependency" = some (some (.ref C_NoDependency))) (cb_NoDependency : erB K C_NoDependency = true)
    (ca_Breach : PySem.W.nsIn K mainGlobals "Breach" = some (some (.ref C_Breach))) (cb_Breach : erB K C_Breach = true)
    (ca_NothingToUndo : PySem.W.nsIn K mainGlobals "NothingToUndo" = some (some (.ref C_NothingToUndo))) (cb_NothingToUndo : erB K C_NothingToUndo = true)
    (ca_NothingToRedo : PySem.W.nsIn K mainGlobals "NothingToRedo" = some (some (.ref C_NothingToRedo))) (cb_NothingToRedo : erB K C_NothingToRedo = true)
    (ca_InvalidQuestion : PySem.W.nsIn K mainGlobals "InvalidQuestion" = some (some (.ref C_InvalidQuestion))) (cb_InvalidQuestion : erB K C_InvalidQuestion = true)
    (cq_InvalidBook : PySem.W.excIn K C_InvalidBook [.type "ValueError", .type "Exception", .type "BaseException", .type "object"] "ValueError.__new__" = true)
    (exm_InvalidBook_TableError : PySem.W.exmOne K (.ref C_InvalidBook) (.ref C_TableError) = some true)
    (kit_InvalidBook_InvalidScheme : PySem.W.kitOne K (.ref C_InvalidBook) (.ref C_InvalidScheme) = some false)
    (kit_InvalidBook_InvalidBook : PySem.W.kitOne K (.ref C_InvalidBook) (.ref C_InvalidBook) = some true)
    (kit_InvalidBook_InvalidStore : PySem.W.kitOne K (.ref C_InvalidBook) (.ref C_InvalidStore) = some false)
    (kit_InvalidBook_BadText : PySem.W.kitOne K (.ref C_InvalidBook) (.ref C_BadText) = some false)
    (kit_InvalidBook_NoTable : PySem.W.kitOne K (.ref C_InvalidBook) (.ref C_NoTable) = some false)
    (kit_InvalidBook_NoRow : PySem.W.kitOne K (.ref C_InvalidBook) (.ref C_NoRow) = some false)
    (kit_InvalidBook_DoubledRow : PySem.W.kitOne K (.ref C_InvalidBook) (.ref C_DoubledRow) = some false)
    (kit_InvalidBook_NoDependency : PySem.W.kitOne K (.ref C_InvalidBook) (.ref C_NoDependency) = some false)
    (kit_InvalidBook_Breach : PySem.W.kitOne K (.ref C_InvalidBook) (.ref C_Breach) = some false)
    (kit_InvalidBook_NothingToUndo : PySem.W.kitOne K (.ref C_InvalidBook) (.ref C_NothingToUndo) = some false)
    (kit_InvalidBook_NothingToRedo : PySem.W.kitOne K (.ref C_InvalidBook) (.ref C_NothingToRedo) = some false)
    (kit_InvalidBook_InvalidQuestion : PySem.W.kitOne K (.ref C_InvalidBook) (.ref C_InvalidQuestion) = some false)
    (kit_InvalidBook_ValueError : PySem.W.kitOne K (.ref C_InvalidBook) (.type "ValueError") = some true)
    (a1 : PySem.W.nsIn K mainGlobals "_law_draws" = some (some (.ref f1))) (l1 : K.lookup f1 = some ⟨oc1, od1, .func (PySem.W.fnOf "_law_draws" "_law_draws" (defArgs p__law_draws) (defBody p__law_draws) (defScope p__law_draws) .none kV1 dc1 pm1 an1 cd1 ct1), sl1⟩) (c1 : PySem.W.codeIn K cd1 "_law_draws" = true) (k1 : PySem.W.keepIn K (.ref f1) = true)
    (a2 : PySem.W.nsIn K mainGlobals "_law_take" = some (some (.ref f2))) (l2 : K.lookup f2 = some ⟨oc2, od2, .func (PySem.W.fnOf "_law_take" "_law_take" (defArgs p__law_take) (defBody p__law_take) (defScope p__law_take) .none kV2 dc2 pm2 an2 cd2 ct2), sl2⟩) (c2 : PySem.W.codeIn K cd2 "_law_take" = true) (k2 : PySem.W.keepIn K (.ref f2) = true)
    (a3 : PySem.W.nsIn K mainGlobals "_law_shuffled" = some (some (.ref f3))) (l3 : K.lookup f3 = some ⟨oc3, od3, .func (PySem.W.fnOf "_law_shuffled" "_law_shuffled" (defArgs p__law_shuffled) (defBody p__law_shuffled) (defScope p__law_shuffled) .none kV3 dc3 pm3 an3 cd3 ct3), sl3⟩) (c3 : PySem.W.codeIn K cd3 "_law_shuffled" = true) (k3 : PySem.W.keepIn K (.ref f3) = true)
    (a4 : PySem.W.nsIn K mainGlobals "_law_between" = some (some (.ref f4))) (l4 : K.lookup f4 = some ⟨oc4, od4, .func (PySem.W.fnOf "_law_between" "_law_between" (defArgs p__law_between) (defBody p__law_between) (defScope p__law_between) .none kV4 dc4 pm4 an4 cd4 ct4), sl4⟩) (c4 : PySem.W.codeIn K cd4 "_law_between" = true) (k4 : PySem.W.keepIn K (.ref f4) = true)
    (a5 : PySem.W.nsIn K mainGlobals "_law_parts" = some (some (.ref f5))) (l5 : K.lookup f5 = some ⟨oc5, od5, .func (PySem.W.fnOf "_law_parts" "_law_parts" (defArgs p__law_parts) (defBody p__law_parts) (defScope p__law_parts) .none kV5 dc5 pm5 an5 cd5 ct5), sl5⟩) (c5 : PySem.W.codeIn K cd5 "_law_parts" = true) (k5 : PySem.W.keepIn K (.ref f5) = true)
    (a6 : PySem.W.nsIn K mainGlobals "_law_order" = some (some (.ref f6))) (l6 : K.lookup f6 = some ⟨oc6, od6, .func (PySem.W.fnOf "_law_order" "_law_order" (defArgs p__law_order) (defBody p__law_order) (defScope p__law_order) .none kV6 dc6 pm6 an6 cd6 ct6), sl6⟩) (c6 : PySem.W.codeIn K cd6 "_law_order" = true) (k6 : PySem.W.keepIn K (.ref f6) = true)
    (a7 : PySem.W.nsIn K mainGlobals "_law_inclusion" = some (some (.ref f7))) (l7 : K.lookup f7 = some ⟨oc7, od7, .func (PySem.W.fnOf "_law_inclusion" "_law_inclusion" (defArgs p__law_inclusion) (defBody p__law_inclusion) (defScope p__law_inclusion) .none kV7 dc7 pm7 an7 cd7 ct7), sl7⟩) (c7 : PySem.W.codeIn K cd7 "_law_inclusion" = true) (k7 : PySem.W.keepIn K (.ref f7) = true)
    (a8 : PySem.W.nsIn K mainGlobals "_law_has_ring" = some (some (.ref f8))) (l8 : K.lookup f8 = some ⟨oc8, od8, .func (PySem.W.fnOf "_law_has_ring" "_law_has_ring" (defArgs p__law_has_ring) (defBody p__law_has_ring) (defScope p__law_has_ring) .none kV8 dc8 pm8 an8 cd8 ct8), sl8⟩) (c8 : PySem.W.codeIn K cd8 "_law_has_ring" = true) (k8 : PySem.W.keepIn K (.ref f8) = true)
    (a9 : PySem.W.nsIn K mainGlobals "check_columns_there" = some (some (.ref f9))) (l9 : K.lookup f9 = some ⟨oc9, od9, .func (PySem.W.fnOf "check_columns_there" "check_columns_there" (defArgs p_check_columns_there) (defBody p_check_columns_there) (defScope p_check_columns_there) .none kV9 dc9 pm9 an9 cd9 ct9), sl9⟩) (c9 : PySem.W.codeIn K cd9 "check_columns_there" = true) (k9 : PySem.W.keepIn K (.ref f9) = true)
    (a10 : PySem.W.nsIn K mainGlobals "check_sets" = some (some (.ref f10))) (l10 : K.lookup f10 = some ⟨oc10, od10, .func (PySem.W.fnOf "check_sets" "check_sets" (defArgs p_check_sets) (defBody p_check_sets) (defScope p_check_sets) .none kV10 dc10 pm10 an10 cd10 ct10), sl10⟩) (c10 : PySem.W.codeIn K cd10 "check_sets" = true) (k10 : PySem.W.keepIn K (.ref f10) = true)
    (a11 : PySem.W.nsIn K mainGlobals "table_width" = some (some (.ref f11))) (l11 : K.lookup f11 = some ⟨oc11, od11, .func (PySem.W.fnOf "table_width" "table_width" (defArgs p_table_width) (defBody p_table_width) (defScope p_table_width) .none kV11 dc11 pm11 an11 cd11 ct11), sl11⟩) (c11 : PySem.W.codeIn K cd11 "table_width" = true) (k11 : PySem.W.keepIn K (.ref f11) = true)
    (a12 : PySem.W.nsIn K mainGlobals "check_parts" = some (some (.ref f12))) (l12 : K.lookup f12 = some ⟨oc12, od12, .func (PySem.W.fnOf "check_parts" "check_parts" (defArgs p_check_parts) (defBody p_check_parts) (defScope p_check_parts) .none kV12 dc12 pm12 an12 cd12 ct12), sl12⟩) (c12 : PySem.W.codeIn K cd12 "check_parts" = true) (k12 : PySem.W.keepIn K (.ref f12) = true)
    (a13 : PySem.W.nsIn K mainGlobals "check_chosen_columns" = some (some (.ref f13))) (l13 : K.lookup f13 = some ⟨oc13, od13, .func (PySem.W.fnOf "check_chosen_columns" "check_chosen_columns" (defArgs p_check_chosen_columns) (defBody p_check_chosen_columns) (defScope p_check_chosen_columns) .none kV13 dc13 pm13 an13 cd13 ct13), sl13⟩) (c13 : PySem.W.codeIn K cd13 "check_chosen_columns" = true) (k13 : PySem.W.keepIn K (.ref f13) = true)
    (a14 : PySem.W.nsIn K mainGlobals "check_inclusion" = some (some (.ref f14))) (l14 : K.lookup f14 = some ⟨oc14, od14, .func (PySem.W.fnOf "check_inclusion" "check_inclusion" (defArgs p_check_inclusion) (defBody p_check_inclusion) (defScope p_check_inclusion) .none kV14 dc14 pm14 an14 cd14 ct14), sl14⟩) (c14 : PySem.W.codeIn K cd14 "check_inclusion" = true) (k14 : PySem.W.keepIn K (.ref f14) = true)
    (a15 : PySem.W.nsIn K mainGlobals "check_dependency" = some (some (.ref f15))) (l15 : K.lookup f15 = some ⟨oc15, od15, .func (PySem.W.fnOf "check_dependency" "check_dependency" (defArgs p_check_dependency) (defBody p_check_dependency) (defScope p_check_dependency) .none kV15 dc15 pm15 an15 cd15 ct15), sl15⟩) (c15 : PySem.W.codeIn K cd15 "check_dependency" = true) (k15 : PySem.W.keepIn K (.ref f15) = true)
    (a16 : PySem.W.nsIn K mainGlobals "check_no_ring" = some (some (.ref f16))) (l16 : K.lookup f16 = some ⟨oc16, od16, .func (PySem.W.fnOf "check_no_ring" "check_no_ring" (defArgs p_check_no_ring) (defBody p_check_no_ring) (defScope p_check_no_ring) .none kV16 dc16 pm16 an16 cd16 ct16), sl16⟩) (c16 : PySem.W.codeIn K cd16 "check_no_ring" = true) (k16 : PySem.W.keepIn K (.ref f16) = true)
    (a17 : PySem.W.nsIn K mainGlobals "check_book" = some (some (.ref f17))) (l17 : K.lookup f17 = some ⟨oc17, od17, .func (PySem.W.fnOf "check_book" "check_book" (defArgs p_check_book) (defBody p_check_book) (defScope p_check_book) .none kV17 dc17 pm17 an17 cd17 ct17), sl17⟩) (c17 : PySem.W.codeIn K cd17 "check_book" = true) (k17 : PySem.W.keepIn K (.ref f17) = true)
    (a18 : PySem.W.nsIn K mainGlobals "_law_error_name" = some (some (.ref f18))) (l18 : K.lookup f18 = some ⟨oc18, od18, .func (PySem.W.fnOf "_law_error_name" "_law_error_name" (defArgs p__law_error_name) (defBody p__law_error_name) (defScope p__law_error_name) .none kV18 dc18 pm18 an18 cd18 ct18), sl18⟩) (c18 : PySem.W.codeIn K cd18 "_law_error_name" = true) (k18 : PySem.W.keepIn K (.ref f18) = true)
    (a19 : PySem.W.nsIn K mainGlobals "_law_checked" = some (some (.ref f19))) (l19 : K.lookup f19 = some ⟨oc19, od19, .func (PySem.W.fnOf "_law_checked" "_law_checked" (defArgs p__law_checked) (defBody p__law_checked) (defScope p__law_checked) .none kV19 dc19 pm19 an19 cd19 ct19), sl19⟩) (c19 : PySem.W.codeIn K cd19 "_law_checked" = true) (k19 : PySem.W.keepIn K (.ref f19) = true)
    (a20 : PySem.W.nsIn K mainGlobals "_law_right" = some (some (.ref f20))) (l20 : K.lookup f20 = some ⟨oc20, od20, .func (PySem.W.fnOf "_law_right" "_law_right" (defArgs p__law_right) (defBody p__law_right) (defScope p__law_right) .none kV20 dc20 pm20 an20 cd20 ct20), sl20⟩) (c20 : PySem.W.codeIn K cd20 "_law_right" = true) (k20 : PySem.W.keepIn K (.ref f20) = true)
    (a21 : PySem.W.nsIn K mainGlobals "law" = some (some (.ref f21))) (l21 : K.lookup f21 = some ⟨oc21, od21, .func (PySem.W.fnOf "law" "law" (defArgs p_law) (defBody p_law) (defScope p_law) .none kV21 dc21 pm21 an21 cd21 ct21), sl21⟩) (c21 : PySem.W.codeIn K cd21 "law" = true) (k21 : PySem.W.keepIn K (.ref f21) = true)
    (z1 : PySem.W.nsIn K mainGlobals "ValueError" = some none)
    (z2 : PySem.W.nsIn K mainGlobals "int" = some none)
    (z3 : PySem.W.nsIn K mainGlobals "isinstance" = some none)
    (z4 : PySem.W.nsIn K mainGlobals "len" = some none)
    (z5 : PySem.W.nsIn K mainGlobals "list" = some none)
    (z6 : PySem.W.nsIn K mainGlobals "min" = some none)
    (z7 : PySem.W.nsIn K mainGlobals "range" = some none)
    (z8 : PySem.W.nsIn K mainGlobals "set" = some none)
    (z9 : PySem.W.nsIn K mainGlobals "sorted" = some none)
    (z10 : PySem.W.nsIn K mainGlobals "tuple" = some none) :
    ∃ fd : FuncData, (∀ (s : Shared) (v : Value), BindsTo s fd ⟨[v], []⟩ [("script", v)]) ∧ ∀ base : Heap, K.In base → base.Ns mainGlobals mg → FnOk l.prog w K mg base CX0 8 fa fd ["script"] (lowF K DL.spLaw) := by
  have e := hfa.symm.trans (PySem.W.mg_of X G a21)
  cases e
  have D__law_draws := df_mk (st := p__law_draws) (ps := ["script", "many"]) X G (fun _ _ _ _ _ _ us hl => match us, hl with | [_, _], _ => rfl) a1 l1 c1 k1
  have D__law_take := df_mk (st := p__law_take) (ps := ["draws", "many"]) X G (fun _ _ _ _ _ _ us hl => match us, hl with | [_, _], _ => rfl) a2 l2 c2 k2
  have D__law_shuffled := df_mk (st := p__law_shuffled) (ps := ["draws", "row"]) X G (fun _ _ _ _ _ _ us hl => match us, hl with | [_, _], _ => rfl) a3 l3 c3 k3
  have D__law_between := df_mk (st := p__law_between) (ps := ["draws", "scheme", "table", "other"]) X G (fun _ _ _ _ _ _ us hl => match us, hl with | [_, _, _, _], _ => rfl) a4 l4 c4 k4
  have D__law_parts := df_mk (st := p__law_parts) (ps := ["draws", "width", "most"]) X G (fun _ _ _ _ _ _ us hl => match us, hl with | [_, _, _], _ => rfl) a5 l5 c5 k5
  have D__law_order := df_mk (st := p__law_order) (ps := ["draws", "scheme"]) X G (fun _ _ _ _ _ _ us hl => match us, hl with | [_, _], _ => rfl) a6 l6 c6 k6
  have D__law_inclusion := df_mk (st := p__law_inclusion) (ps := ["draws", "scheme", "order"]) X G (fun _ _ _ _ _ _ us hl => match us, hl with | [_, _, _], _ => rfl) a7 l7 c7 k7
  have D__law_has_ring := df_mk (st := p__law_has_ring) (ps := ["scheme", "book"]) X G (fun _ _ _ _ _ _ us hl => match us, hl with | [_, _], _ => rfl) a8 l8 c8 k8
  have D_check_columns_there := df_mk (st := p_check_columns_there) (ps := ["width", "columns"]) X G (fun _ _ _ _ _ _ us hl => match us, hl with | [_, _], _ => rfl) a9 l9 c9 k9
  have D_check_sets := df_mk (st := p_check_sets) (ps := ["width", "sets"]) X G (fun _ _ _ _ _ _ us hl => match us, hl with | [_, _], _ => rfl) a10 l10 c10 k10
  have D_table_width := df_mk (st := p_table_width) (ps := ["scheme", "table"]) X G (fun _ _ _ _ _ _ us hl => match us, hl with | [_, _], _ => rfl) a11 l11 c11 k11
  have D_check_parts := df_mk (st := p_check_parts) (ps := ["width", "parts"]) X G (fun _ _ _ _ _ _ us hl => match us, hl with | [_, _], _ => rfl) a12 l12 c12 k12
  have D_check_chosen_columns := df_mk (st := p_check_chosen_columns) (ps := ["width", "columns"]) X G (fun _ _ _ _ _ _ us hl => match us, hl with | [_, _], _ => rfl) a13 l13 c13 k13
  have D_check_inclusion := df_mk (st := p_check_inclusion) (ps := ["scheme", "dependency"]) X G (fun _ _ _ _ _ _ us hl => match us, hl with | [_, _], _ => rfl) a14 l14 c14 k14
  have D_check_dependency := df_mk (st := p_check_dependency) (ps := ["scheme", "dependency"]) X G (fun _ _ _ _ _ _ us hl => match us, hl with | [_, _], _ => rfl) a15 l15 c15 k15
  have D_check_no_ring := df_mk (st := p_check_no_ring) (ps := ["book"]) X G (fun _ _ _ _ _ _ us hl => match us, hl with | [_], _ => rfl) a16 l16 c16 k16
  have D_check_book := df_mk (st := p_check_book) (ps := ["scheme", "book"]) X G (fun _ _ _ _ _ _ us hl => match us, hl with | [_, _], _ => rfl) a17 l17 c17 k17
  have D__law_error_name := df_mk (st := p__law_error_name) (ps := ["e"]) X G (fun _ _ _ _ _ _ us hl => match us, hl with | [_], _ => rfl) a18 l18 c18 k18
  have D__law_checked := df_mk (st := p__law_checked) (ps := ["check", "scheme", "thing"]) X G (fun _ _ _ _ _ _ us hl => match us, hl with | [_, _, _], _ => rfl) a19 l19 c19 k19
  have D__law_right := df_mk (st := p__law_right) (ps := ["scheme", "book"]) X G (fun _ _ _ _ _ _ us hl => match us, hl with | [_, _], _ => rfl) a20 l20 c20 k20
  have D_law := df_mk (st := p_law) (ps := ["script"]) X G (fun _ _ _ _ _ _ us hl => match us, hl with | [_], _ => rfl) a21 l21 c21 k21
  have m_ValueError := PySem.W.mg_none_of X G z1
  have m_int := PySem.W.mg_none_of X G z2
  have m_isinstance := PySem.W.mg_none_of X G z3
  have m_len := PySem.W.mg_none_of X G z4
  have m_list := PySem.W.mg_none_of X G z5
  have m_min := PySem.W.mg_none_of X G z6
  have m_range := PySem.W.mg_none_of X G z7
  have m_set := PySem.W.mg_none_of X G z8
  have m_sorted := PySem.W.mg_none_of X G z9
  have m_tuple := PySem.W.mg_none_of X G z10
  obtain ⟨er, eE⟩ : ∃ er : Er, er = ⟨C_TableError, C_InvalidScheme, C_InvalidBook, C_InvalidStore, C_BadText, C_NoTable, C_NoRow, C_DoubledRow, C_NoDependency, C_Breach, C_NothingToUndo, C_NothingToRedo, C_InvalidQuestion⟩ := ⟨_, rfl⟩
  have ER : ErOk l.prog K mg er := by
    subst eE
    exact {
      g_TableError := PySem.W.mg_of X G ca_TableError
      e_TableError := erB_ok cb_TableError
      g_InvalidScheme := PySem.W.mg_of X G ca_InvalidScheme
      e_InvalidScheme := erB_ok cb_InvalidScheme
      g_InvalidBook := PySem.W.mg_of X G ca_InvalidBook
      e_InvalidBook := erB_ok cb_InvalidBook
      g_InvalidStore := PySem.W.mg_of X G ca_InvalidStore
      e_InvalidStore := erB_ok cb_InvalidStore
      g_BadText := PySem.W.mg_of X G ca_BadText
      e_BadText := erB_ok cb_BadText
      g_NoTable := PySem.W.mg_of X G ca_NoTable
      e_NoTable := erB_ok cb_NoTable
      g_NoRow := PySem.W.mg_of X G ca_NoRow
      e_NoRow := erB_ok cb_NoRow
      g_DoubledRow := PySem.W.mg_of X G ca_DoubledRow
      e_DoubledRow := erB_ok cb_DoubledRow
      g_NoDependency := PySem.W.mg_of X G ca_NoDependency
      e_NoDependency := erB_ok cb_NoDependency
      g_Breach := PySem.W.mg_of X G ca_Breach
      e_Breach := erB_ok cb_Breach
      g_NothingToUndo := PySem.W.mg_of X G ca_NothingToUndo
      e_NothingToUndo := erB_ok cb_NothingToUndo
      g_NothingToRedo := PySem.W.mg_of X G ca_NothingToRedo
      e_NothingToRedo := erB_ok cb_NothingToRedo
      g_InvalidQuestion := PySem.W.mg_of X G ca_InvalidQuestion
      e_InvalidQuestion := erB_ok cb_InvalidQuestion
      q_InvalidBook := cq_InvalidBook
      x_InvalidBook_TableError := exm_InvalidBook_TableError
      k_InvalidBook_InvalidScheme := kit_InvalidBook_InvalidScheme
      k_InvalidBook_InvalidBook := kit_InvalidBook_InvalidBook
      k_InvalidBook_InvalidStore := kit_InvalidBook_InvalidStore
      k_InvalidBook_BadText := kit_InvalidBook_BadText
      k_InvalidBook_NoTable := kit_InvalidBook_NoTable
      k_InvalidBook_NoRow := kit_InvalidBook_NoRow
      k_InvalidBook_DoubledRow := kit_InvalidBook_DoubledRow
      k_InvalidBook_NoDependency := kit_InvalidBook_NoDependency
      k_InvalidBook_Breach := kit_InvalidBook_Breach
      k_InvalidBook_NothingToUndo := kit_InvalidBook_NothingToUndo
      k_InvalidBook_NothingToRedo := kit_InvalidBook_NothingToRedo
      k_InvalidBook_InvalidQuestion := kit_InvalidBook_InvalidQuestion
      k_InvalidBook_ValueError := kit_InvalidBook_ValueError
    }
  refine ⟨PySem.W.fnOf "law" "law" (defArgs p_law) (defBody p_law) (defScope p_law) .none kV21 dc21 pm21 an21 cd21 ct21, fun s v => .of_eq rfl, fun base _ _ => ?_⟩
  have G__law_draws : FnOk l.prog w K mg base CX0 1 _ _ ["script", "many"] (lowF K sp__law_draws) := ok__law_draws D__law_draws m_int m_len m_list m_range
  have G__law_take : FnOk l.prog w K mg base CX0 1 _ _ ["draws", "many"] (lowF K sp__law_take) := ok__law_take D__law_take m_int m_len
  have G__law_shuffled : FnOk l.prog w K mg base CX0 2 _ _ ["draws", "row"] (lowF K sp__law_shuffled) := ok__law_shuffled D__law_shuffled D__law_take G__law_take m_len
  have G__law_between : FnOk l.prog w K mg base CX0 3 _ _ ["draws", "scheme", "table", "other"] (lowF K sp__law_between) := ok__law_between D__law_between D__law_take G__law_take D__law_shuffled G__law_shuffled m_min m_range m_tuple
  have G__law_parts : FnOk l.prog w K mg base CX0 2 _ _ ["draws", "width", "most"] (lowF K sp__law_parts) := ok__law_parts D__law_parts D__law_take G__law_take m_len m_range m_sorted m_tuple
  have G__law_order : FnOk l.prog w K mg base CX0 3 _ _ ["draws", "scheme"] (lowF K sp__law_order) := ok__law_order D__law_order D__law_shuffled G__law_shuffled m_len m_range
  have G__law_inclusion : FnOk l.prog w K mg base CX0 3 _ _ ["draws", "scheme", "order"] (lowF K sp__law_inclusion) := ok__law_inclusion D__law_inclusion D__law_take G__law_take D__law_shuffled G__law_shuffled m_len m_min m_range m_tuple
  have G__law_has_ring : FnOk l.prog w K mg base CX0 1 _ _ ["scheme", "book"] (lowF K sp__law_has_ring) := ok__law_has_ring D__law_has_ring m_len m_range
  have G_check_columns_there : FnOk l.prog w K mg base (L2N.CX l.prog w) 1 _ _ ["width", "columns"] (lowFX K (sp_check_columns_there er)) := ok_check_columns_there D_check_columns_there ER
  have G_check_sets : FnOk l.prog w K mg base (L2N.CX l.prog w) 2 _ _ ["width", "sets"] (lowFX K (sp_check_sets er)) := ok_check_sets D_check_sets ER D_check_columns_there G_check_columns_there m_len m_range
  have G_table_width : FnOk l.prog w K mg base (L2N.CX l.prog w) 1 _ _ ["scheme", "table"] (lowFX K (sp_table_width er)) := ok_table_width D_table_width ER m_len
  have G_check_parts : FnOk l.prog w K mg base (L2N.CX l.prog w) 3 _ _ ["width", "parts"] (lowFX K (sp_check_parts er)) := ok_check_parts D_check_parts ER D_check_sets G_check_sets m_len
  have G_check_chosen_columns : FnOk l.prog w K mg base (L2N.CX l.prog w) 2 _ _ ["width", "columns"] (lowFX K (sp_check_chosen_columns er)) := ok_check_chosen_columns D_check_chosen_columns ER D_check_columns_there G_check_columns_there m_len m_set
  have G_check_inclusion : FnOk l.prog w K mg base (L2N.CX l.prog w) 3 _ _ ["scheme", "dependency"] (lowFX K (sp_check_inclusion er)) := ok_check_inclusion D_check_inclusion ER D_check_chosen_columns G_check_chosen_columns D_table_width G_table_width m_len
  have G_check_dependency : FnOk l.prog w K mg base (L2N.CX l.prog w) 4 _ _ ["scheme", "dependency"] (lowFX K (sp_check_dependency er)) := ok_check_dependency D_check_dependency ER D_check_sets G_check_sets D_table_width G_table_width D_check_parts G_check_parts D_check_inclusion G_check_inclusion
  have G_check_no_ring : FnOk l.prog w K mg base (L2N.CX l.prog w) 1 _ _ ["book"] (lowFX K (sp_check_no_ring er)) := ok_check_no_ring D_check_no_ring ER m_len
  have G_check_book : FnOk l.prog w K mg base (L2N.CX l.prog w) 5 _ _ ["scheme", "book"] (lowFX K (sp_check_book er)) := ok_check_book D_check_book ER D_check_dependency G_check_dependency D_check_no_ring G_check_no_ring
  have G__law_error_name : FnE l.prog w K mg base CX0 1 _ _ ["e"] (lowF K (sp__law_error_name er)) := ok__law_error_name D__law_error_name ER m_ValueError m_int m_isinstance m_len m_range
  have G__law_checked : FnOk l.prog w K mg base CX0 6 _ _ ["check", "scheme", "thing"] (lowF K (sp__law_checked er)) := ok__law_checked D__law_checked ER D_check_book G_check_book D__law_error_name G__law_error_name
  have G__law_right : FnOk l.prog w K mg base CX0 7 _ _ ["scheme", "book"] (lowF K (sp__law_right er)) := ok__law_right D__law_right ER D__law_has_ring G__law_has_ring D__law_checked G__law_checked m_int m_tuple
  have G_law : FnOk l.prog w K mg base CX0 8 _ _ ["script"] (lowF K sp_law) := ok_law D_law ER D__law_draws G__law_draws D__law_take G__law_take D__law_between G__law_between D__law_parts G__law_parts D__law_shuffled G__law_shuffled D__law_order G__law_order D__law_inclusion G__law_inclusion D__law_right G__law_right D__law_checked G__law_checked m_int m_len m_range m_tuple
  exact law_any G_law fun _ _ h => h
end LW
open PySem PySem.W PyProof.Rows
set_option maxHeartbeats 0 in
theorem PySem.Challenge.cw_norowstray_k03_rings_of_inclusions_holds : PySem.Challenge.rw_norowstray_k03_rings_of_inclusions.Holds := by
  w_on; o_law; k_head; (case hw => w_witness2)
  k_fill
  refine L2.walk_of (l := PySem.Challenge.rw_norowstray_k03_rings_of_inclusions) (n := 63) (k := 8) (x := "script") (CX := fun _ => L2.CX0) (sp := fun w => DL.lowF _ DL.spLaw) rfl (by decide) rfl ⟨rfl, by decide, by decide⟩ (fun w h Y => PySem.W.kIn_of Y) ?F (fun _ _ a ns hl _ hS => DL.law_low hS hl) (fun _ _ _ _ _ h => h)
  case F =>
    intro w mg fa h KX G hmg
    refine' LW.all_mk KX G hmg ?ca_TableError ?cb_TableError ?ca_InvalidScheme ?cb_InvalidScheme ?ca_InvalidBook ?cb_InvalidBook ?ca_InvalidStore ?cb_InvalidStore ?ca_BadText ?cb_BadText ?ca_NoTable ?cb_NoTable ?ca_NoRow ?cb_NoRow ?ca_DoubledRow ?cb_DoubledRow ?ca_NoDependency ?cb_NoDependency ?ca_Breach ?cb_Breach ?ca_NothingToUndo ?cb_NothingToUndo ?ca_NothingToRedo ?cb_NothingToRedo ?ca_InvalidQuestion ?cb_InvalidQuestion ?cq_InvalidBook ?exm_InvalidBook_TableError ?kit_InvalidBook_InvalidScheme ?kit_InvalidBook_InvalidBook ?kit_InvalidBook_InvalidStore ?kit_InvalidBook_BadText ?kit_InvalidBook_NoTable ?kit_InvalidBook_NoRow ?kit_InvalidBook_DoubledRow ?kit_InvalidBook_NoDependency ?kit_InvalidBook_Breach ?kit_InvalidBook_NothingToUndo ?kit_InvalidBook_NothingToRedo ?kit_InvalidBook_InvalidQuestion ?kit_InvalidBook_ValueError ?a1 ?l1 ?c1 ?k1 ?a2 ?l2 ?c2 ?k2 ?a3 ?l3 ?c3 ?k3 ?a4 ?l4 ?c4 ?k4 ?a5 ?l5 ?c5 ?k5 ?a6 ?l6 ?c6 ?k6 ?a7 ?l7 ?c7 ?k7 ?a8 ?l8 ?c8 ?k8 ?a9 ?l9 ?c9 ?k9 ?a10 ?l10 ?c10 ?k10 ?a11 ?l11 ?c11 ?k11 ?a12 ?l12 ?c12 ?k12 ?a13 ?l13 ?c13 ?k13 ?a14 ?l14 ?c14 ?k14 ?a15 ?l15 ?c15 ?k15 ?a16 ?l16 ?c16 ?k16 ?a17 ?l17 ?c17 ?k17 ?a18 ?l18 ?c18 ?k18 ?a19 ?l19 ?c19 ?k19 ?a20 ?l20 ?c20 ?k20 ?a21 ?l21 ?c21 ?k21 ?z1 ?z2 ?z3 ?z4 ?z5 ?z6 ?z7 ?z8 ?z9 ?z10
    (case ca_TableError => k_is)
    (case cb_TableError => kernel_rfl)
    (case ca_InvalidScheme => k_is)
    (case cb_InvalidScheme => kernel_rfl)
    (case ca_InvalidBook => k_is)
    (case cb_InvalidBook => kernel_rfl)
    (case ca_InvalidStore => k_is)
    (case cb_InvalidStore => kernel_rfl)
    (case ca_BadText => k_is)
    (case cb_BadText => kernel_rfl)
    (case ca_NoTable => k_is)
    (case cb_NoTable => kernel_rfl)
    (case ca_NoRow => k_is)
    (case cb_NoRow => kernel_rfl)
    (case ca_DoubledRow => k_is)
    (case cb_DoubledRow => kernel_rfl)
    (case ca_NoDependency => k_is)
    (case cb_NoDependency => kernel_rfl)
    (case ca_Breach => k_is)
    (case cb_Breach => kernel_rfl)
    (case ca_NothingToUndo => k_is)
    (case cb_NothingToUndo => kernel_rfl)
    (case ca_NothingToRedo => k_is)
    (case cb_NothingToRedo => kernel_rfl)
    (case ca_InvalidQuestion => k_is)
    (case cb_InvalidQuestion => kernel_rfl)
    (case cq_InvalidBook => k_exc)
    (case exm_InvalidBook_TableError => kernel_rfl)
    (case kit_InvalidBook_InvalidScheme => kernel_rfl)
    (case kit_InvalidBook_InvalidBook => kernel_rfl)
    (case kit_InvalidBook_InvalidStore => kernel_rfl)
    (case kit_InvalidBook_BadText => kernel_rfl)
    (case kit_InvalidBook_NoTable => kernel_rfl)
    (case kit_InvalidBook_NoRow => kernel_rfl)
    (case kit_InvalidBook_DoubledRow => kernel_rfl)
    (case kit_InvalidBook_NoDependency => kernel_rfl)
    (case kit_InvalidBook_Breach => kernel_rfl)
    (case kit_InvalidBook_NothingToUndo => kernel_rfl)
    (case kit_InvalidBook_NothingToRedo => kernel_rfl)
    (case kit_InvalidBook_InvalidQuestion => kernel_rfl)
    (case kit_InvalidBook_ValueError => kernel_rfl)
    (case a1 => k_is)
    (case l1 => k_is)
    (case c1 => k_is)
    (case k1 => k_is)
    (case a2 => k_is)
    (case l2 => k_is)
    (case c2 => k_is)
    (case k2 => k_is)
    (case a3 => k_is)
    (case l3 => k_is)
    (case c3 => k_is)
    (case k3 => k_is)
    (case a4 => k_is)
    (case l4 => k_is)
    (case c4 => k_is)
    (case k4 => k_is)
    (case a5 => k_is)
    (case l5 => k_is)
    (case c5 => k_is)
    (case k5 => k_is)
    (case a6 => k_is)
    (case l6 => k_is)
    (case c6 => k_is)
    (case k6 => k_is)
    (case a7 => k_is)
    (case l7 => k_is)
    (case c7 => k_is)
    (case k7 => k_is)
    (case a8 => k_is)
    (case l8 => k_is)
    (case c8 => k_is)
    (case k8 => k_is)
    (case a9 => k_is)
    (case l9 => k_is)
    (case c9 => k_is)
    (case k9 => k_is)
    (case a10 => k_is)
    (case l10 => k_is)
    (case c10 => k_is)
    (case k10 => k_is)
    (case a11 => k_is)
    (case l11 => k_is)
    (case c11 => k_is)
    (case k11 => k_is)
    (case a12 => k_is)
    (case l12 => k_is)
    (case c12 => k_is)
    (case k12 => k_is)
    (case a13 => k_is)
    (case l13 => k_is)
    (case c13 => k_is)
    (case k13 => k_is)
    (case a14 => k_is)
    (case l14 => k_is)
    (case c14 => k_is)
    (case k14 => k_is)
    (case a15 => k_is)
    (case l15 => k_is)
    (case c15 => k_is)
    (case k15 => k_is)
    (case a16 => k_is)
    (case l16 => k_is)
    (case c16 => k_is)
    (case k16 => k_is)
    (case a17 => k_is)
    (case l17 => k_is)
    (case c17 => k_is)
    (case k17 => k_is)
    (case a18 => k_is)
    (case l18 => k_is)
    (case c18 => k_is)
    (case k18 => k_is)
    (case a19 => k_is)
    (case l19 => k_is)
    (case c19 => k_is)
    (case k19 => k_is)
    (case a20 => k_is)
    (case l20 => k_is)
    (case c20 => k_is)
    (case k20 => k_is)
    (case a21 => k_is)
    (case l21 => k_is)
    (case c21 => k_is)
    (case k21 => k_is)
    (case z1 => k_is)
    (case z2 => k_is)
    (case z3 => k_is)
    (case z4 => k_is)
    (case z5 => k_is)
    (case z6 => k_is)
    (case z7 => k_is)
    (case z8 => k_is)
    (case z9 => k_is)
    (case z10 => k_is)

