import PyProof.Rows.All
import Wide.All
import OpenK.AllK
import Wide.FinOn
import HandS.ForMost
import HandS.More
import HandS.TupMul
import HandS.TupAny
import HandS.IsInst
import HandS.Codes
import HandS.TupSets
import HandS.DictTup
import KE.SortData
import KE.KDictKeyed
import HandS.DictComp
import HandS.SetBool
import HandS.Deep
import HandS.Style
import PySem.Challenge.RW_norowstray_k24_whole_inclusions
set_option Elab.async false
set_option linter.all false
set_option maxRecDepth 100000
set_option maxHeartbeats 4000000
/-! Rules of our own over the layer: sorted of a set of tuples of ints of either sign. -/
namespace NR
open PySem PySem.Spec PyProof.Rows L2

/-- what is a permutation of a map is a map of a permutation -/
theorem PermMap.lift {α β : Type} {f : α → β} : ∀ {vs us : List β}, vs.Perm us → ∀ {L : List α}, us = L.map f → ∃ L1 : List α, vs = L1.map f ∧ L1.Perm L := by
  intro vs us h
  induction h with
  | nil =>
    intro L e
    cases L with
    | nil => exact ⟨[], rfl, .nil⟩
    | cons x r => cases e
  | cons x _ ih =>
    intro L e
    cases L with
    | nil => cases e
    | cons y r =>
      injection e with e1 e2
      obtain ⟨L1, h1, h2⟩ := ih e2
      exact ⟨y :: L1, by rw [List.map_cons, ← h1, e1], h2.cons y⟩
  | swap x y l =>
    intro L e
    match L, e with
    | a :: b :: r, e =>
      injection e with e1 e2
      injection e2 with e2 e3
      exact ⟨b :: a :: r, by rw [List.map_cons, List.map_cons, ← e1, ← e2, ← e3], .swap a b r⟩
  | trans _ _ ih1 ih2 =>
    intro L e
    obtain ⟨L2, h1, h2⟩ := ih2 e
    obtain ⟨L3, h3, h4⟩ := ih1 h1
    exact ⟨L3, h3, h4.trans h2⟩
/-- a pair of an address and its tuple, as data -/
def encP (p : Addr × List Int) : PyData := .tuple (p.2.map .int)
theorem encP_le (p q : Addr × List Int) : PySem.W.dataLe false encP p q = decide (p.2 ≤ q.2) := by
  show (!PySem.W.dataLt (encP q) (encP p)) = _
  unfold encP
  rw [PySem.W.dataLt_tuple]
  show (!PySem.W.rowLt (q.2.map .int) (p.2.map .int)) = _
  rw [PySem.W.dataLt_ints]
  by_cases h : q.2 < p.2
  · rw [decide_eq_true h, decide_eq_false (fun r => List.not_lt.mpr r h)]
    rfl
  · rw [decide_eq_false h, decide_eq_true (List.not_lt.mp h)]
    rfl
theorem encP_depth (p : Addr × List Int) : (encP p).depth ≤ 1 := by
  unfold encP
  simp only [PyData.depth]
  rw [PySem.W.depth_ints]
  exact Nat.le_refl _
theorem list_lt_of_le {a b : List Int} (h : a ≤ b) (n : a ≠ b) : a < b := by
  rcases List.le_iff_lt_or_eq.mp h with z | z
  · exact z
  · exact absurd z n

section
variable {P : Program} {w : World} {A : Around} {E : Value → Shared → Prop} {s : Shared}
theorem reads_row {h : Heap} {k : List Int} {b : Addr} (x : L2.IsT P w h k b) : ∃ as, Reads h (.ref b) (.tuple (k.map .int)) as ∧ ∀ c, (∀ o, h.get? c = some o → o.cls = .type "list") → c ∉ as := by
  obtain ⟨o, items, n, ho, hc, hd, hi⟩ := x
  have go : ∀ (k : List Int) (vs : List Value), ItemsAre (intKind P w) k vs → ReadsAll h vs (k.map .int) [] := by
    intro k vs hi
    induction hi with
    | nil => exact .nil
    | @cons a v ks vs' hv _ ih =>
      obtain ⟨t, rfl⟩ := Value.isInt_shape hv
      exact .cons (.int a t) ih
  exact ⟨[], .tuple ho hc hd (go k _ hi), fun c _ hm => by cases hm⟩

/-- sorted of such a set, from the set's own table -/
theorem sorted_set_ints {a : Addr} {L : List (Addr × List Int)} {es : Array (Int × Value)} {ep : Nat} {t : SetTable} {Q : Value → Shared → Prop} (R : L2.SetTR P w s.heap a L es ep t) (hh : A.handled = none) (hu : A.units + 64 < cLine)
    (hne : ∀ p ∈ L, p.2 ≠ [])
    (hQ : ∀ s' p (out : Array Value) (c : Nat) (L' : List (Addr × List Int)), (∀ b o, s.heap.get? b = some o → s'.heap.get? b = some o) → s'.gens = s.gens → s'.os = s.os → s.heap.objs.size ≤ p →
      s'.heap.get? p = some (seqObj "list" out c) → out.toList = L'.map (fun q => Value.ref q.1) → L'.Perm L → L'.Pairwise (fun q r => q.2 < r.2) → Q (.ref p) s') :
    wpAny (model P w) A (call (.builtin "sorted") [.ref a]) Q E s := by
  have hob := R.ob
  have few := R.few
  have nL : L.Nodup := L2.nodup_of_map R.nd
  obtain ⟨o, ho, hex, hd⟩ := hob
  refine Calls.call_function_entry kind_sorted plain_sorted entry_sorted (args_sorted1 _) ?_; unfold Builtin.«sorted»
  refine wpAny_bind (m := checkCount "sorted" 1 1 _) (wpAny_pure ?_)
  refine wpAny_bind (L2.collect_set (A := A.in1) hh ⟨o, ho, hex.1, hd⟩ R.fits (by have z := R.size; unfold scanBound; omega) R.tab.ris R.led fun s1 vs keep hz hg hos pm => ?_)
  -- the values collected are the addresses of the set's rows
  have er : es.toList.map (·.2) = L.map fun q => Value.ref q.1 := by
    rw [R.rows]; unfold L2.rowsOf; rw [List.map_map]; rfl
  rw [er] at pm
  obtain ⟨L1, e1, p1⟩ : ∃ L1 : List (Addr × List Int), vs = L1.map (fun q => Value.ref q.1) ∧ L1.Perm L := PermMap.lift pm rfl
  subst e1
  have vl : (L1.map fun q => Value.ref q.1).length < 64 := by rw [List.length_map, p1.length_eq]; exact few
  refine wpAny_bind (wpAny_newList ?_ (by rw [sizeLine_eq]; omega))
  have atL : (s1.heap.push (seqObj "list" (L1.map fun q => Value.ref q.1).toArray 0)).get? s1.heap.objs.size = some (seqObj "list" (L1.map fun q => Value.ref q.1).toArray 0) := Heap.get?_push_size _ rfl
  have kp : ∀ b u, s1.heap.get? b = some u → (s1.heap.push (seqObj "list" (L1.map fun q => Value.ref q.1).toArray 0)).get? b = some u := fun b u e => Heap.get?_push_of_some _ e
  have rd : ∀ q ∈ L1, ∃ as, Reads (s1.heap.push (seqObj "list" (L1.map fun q => Value.ref q.1).toArray 0)) (.ref q.1) (encP q) as ∧ s1.heap.objs.size ∉ as := fun q hq => by
    obtain ⟨as, r1, r2⟩ := reads_row (P := P) (w := w) (L2.isT_keep (R.tup q (p1.mem_iff.mp hq)) fun b u e => kp b u (keep b u e))
    exact ⟨as, r1, r2 _ fun o e => by rw [atL] at e; cases e; rfl⟩
  have each : ∀ l : List (Addr × List Int), (∀ q ∈ l, q ∈ L1) → PySem.W.EachIs (fun v q => v = Value.ref q.1 ∧ q ∈ L1) (l.map fun q => Value.ref q.1) l := by
    intro l hl
    induction l with
    | nil => exact .nil
    | cons q r ih => exact .cons ⟨rfl, hl q (List.mem_cons_self ..)⟩ (ih fun x hx => hl x (List.mem_cons_of_mem _ hx))
  have e1 := each L1 fun _ h => h
  refine wpAny_bind (wpAny_holding (PySem.W.list_sort_data (s := { s1 with heap := s1.heap.push (seqObj "list" (L1.map fun q => Value.ref q.1).toArray 0) }) (enc := encP) atL e1 (e1.mono fun v q h => by rw [h.1]; exact rd q h.2)
    (PySem.W.AllAlike.of fun b b' => by unfold encP; simp only [PySem.W.alike]; exact PySem.W.alike_ints _ _) (.inl fun d hd => ?_) (by rw [List.length_map] at vl; rw [sizeLine_eq]; omega)
    (fun b _ => by have h1 := encP_depth b; have h2 : A.in1.units = A.units + 1 := rfl; omega) fun out ol eo => ?_))
  · obtain ⟨q, hq, rfl⟩ := List.mem_map.mp hd
    unfold encP
    cases z : q.2 with
    | nil => exact absurd z (hne q (p1.mem_iff.mp hq))
    | cons x r => exact ⟨_, _, rfl⟩
  · obtain ⟨c, hc⟩ := sortedHeap_at (vs := L1.map fun q => Value.ref q.1) (out := out.toArray) atL
    have eout : out = (L1.mergeSort (PySem.W.dataLe false encP)).map fun q => Value.ref q.1 := by
      have go : ∀ (us : List Value) (l : List (Addr × List Int)), PySem.W.EachIs (fun v q => v = Value.ref q.1 ∧ q ∈ L1) us l → us = l.map fun q => Value.ref q.1 := by
        intro us l h
        induction h with
        | nil => rfl
        | cons h _ ih => rw [List.map_cons, ← ih, h.1]
      exact go _ _ eo
    have pS : (L1.mergeSort (PySem.W.dataLe false encP)).Perm L1 := List.mergeSort_perm _ _
    have nS : ((L1.mergeSort (PySem.W.dataLe false encP)).map (·.2)).Nodup := ((pS.trans p1).map (·.2)).nodup_iff.mpr R.nd
    have ord : (L1.mergeSort (PySem.W.dataLe false encP)).Pairwise fun q r => q.2 < r.2 := by
      have z := PySem.W.sort_pairwise (le := PySem.W.dataLe false encP) (PySem.W.sortLe_total _ _ _) L1
      have n2 : (L1.mergeSort (PySem.W.dataLe false encP)).Pairwise fun q r => q.2 ≠ r.2 := List.pairwise_map.mp nS
      refine (z.and n2).imp fun {q r} h => ?_
      obtain ⟨h1, h2⟩ := h
      rw [encP_le] at h1
      exact list_lt_of_le (of_decide_eq_true h1) h2
    refine wpAny_pure ⟨_, rfl, hQ _ s1.heap.objs.size out.toArray c (L1.mergeSort (PySem.W.dataLe false encP)) (fun b u e => ?_) hg hos hz hc (by rw [List.toList_toArray]; exact eout) (pS.trans p1) ord⟩
    have k1 := keep b u e
    have lt := Heap.lt_size k1
    show (sortedHeap (s1.heap.push (seqObj "list" (L1.map fun q => Value.ref q.1).toArray 0)) s1.heap.objs.size (L1.map fun q => Value.ref q.1) out.toArray).get? b = some u
    rw [sortedHeap_old (Nat.ne_of_lt lt) (by rw [size_push']; exact Nat.lt_succ_of_lt lt)]
    exact kp b u k1
end

section
variable {X : Cx}
/-- sorted(set), tuples of ints of either sign, none of them empty -/
def rSrtI (K : PySem.W.Frag) (P : Program) (w : World) : List V → Hp → VK → Prop := fun vs H Q => ∃ (a : Addr) (L : List (Addr × List Int)), vs = [V.ref a] ∧ H a = some (SetTO P w a L) ∧ (∀ p ∈ L, SqT K H p.1 (p.2.map V.int)) ∧ (∀ p ∈ L, p.2 ≠ []) ∧
  ∀ (M : List (Addr × List Int)) (p : Addr), M.Perm L → M.Pairwise (fun q r => q.2 < r.2) → H p = none → Q (.ref p) (upd H p (.lst (M.map fun q => V.ref q.1)))
theorem cr_srtI (hc : X.calm = true) (hu : X.A.units + 64 < cLine) : CallR X (.builtin "sorted") (rSrtI X.K X.prog X.w) := by
  intro pins s σ H vs us Q I r h
  obtain ⟨a, L, rfl, ha, hk, hne, q⟩ := h
  have R0 : L2.SetT0 X.prog X.w s.heap a L := (I.hok a _ ha).1
  obtain ⟨es, ep, t, R⟩ := R0.full fun p hp => L2.Inv.isT I (hk p hp)
  rw [L2.Vals.ref1 r]
  refine sorted_set_ints R (I.ok.hd hc) hu hne fun s' p out c M kept gg oo new at' eo pm ord => ?_
  have few : M.length < 64 := by rw [pm.length_eq]; exact R.few
  have fits : (M.map fun q => V.ref q.1).length ≤ sizeLine := by rw [List.length_map, sizeLine_eq]; omega
  have nH : H p = none := I.hok.fresh new
  have vals : Vals (M.map fun q => V.ref q.1) out.toList := by rw [eo]; exact L2.vals_of_refs M
  cases s' with
  | mk hp' g' d' t' o' =>
    cases oo
    have J : L2.Inv X pins σ (upd H p (.lst (M.map fun q => V.ref q.1))) { s with heap := hp', gens := g', drawn := d', toks := t' } :=
      I.call (ch := []) (Un.laid kept new nH) (I.hok.laid kept new ⟨fits, out.toList, c, vals, at'⟩) (by have z : g' = s.gens := gg; rw [z]; exact I.bare) (fun _ z => nomatch z)
    exact ⟨.ref p, _, J, rfl, q M p pm ord nH⟩
end

/-! ### d.setdefault(k, x), the keys tuples -/
def tDSetT (td ty tx : TE) : TE := fun σ H Q => td σ H fun x H1 => ∃ a, x = .ref a ∧ IsD H1 a ∧ ty σ H1 fun y H2 => tx σ H2 fun z H3 => ∃ (kvs : List (List L2.Key × V)) (k : List L2.Key) (b : Addr), H3 a = some (.dT kvs) ∧ y = .ref b ∧ H3 b = some (.tup (k.map kV)) ∧ kvs.length < sizeLine ∧
  (∀ v, valV kvs k = some v → Q v H3) ∧ (valV kvs k = none → Q z (upd H3 a (.dT (putK kvs k z))))
section
variable {X : Cx} {o e f : Expr} {td ty tx : TE} {apos cpos : Pos}
theorem pe_dsett (hu : X.A.units + 1 < cLine) (ho : PE X o td) (he : PE X e ty) (hf : PE X f tx) (m : M2 X o "setdefault" apos e f cpos) : PE X (.Call (.Attribute o "setdefault" apos) [e, f] [] cpos) (tDSetT td ty tx) := by
  refine ⟨fun pins s σ H Q I h => ?_⟩
  refine wpAny_Call_method m.base m.few m.line PySem.F.plainAttrs_dict PySem.F.slot_dict_setdefault PySem.F.type_dict_setdefault (thn (ho.run pins s σ H _ I h) fun u s1 ⟨x, H1, I1, rx, a, ex, isd, q1⟩ => ?_)
  subst ex
  cases (show u = Value.ref a from rx)
  obtain ⟨t1, t2, _⟩ := isD_at I1 isd
  refine ⟨t1, t2, ?_⟩
  rw [m.trees]
  refine Calls.callWith_builtin rfl (Calls.evalArgs_plain (Calls.spliced_cons (thn (he.run pins s1 σ H1 _ I1 q1) fun iv s2 ⟨y, H2, I2, ry, q2⟩ => Calls.spliced_cons (thn (hf.run pins s2 σ H2 _ I2 q2) fun fv s3 ⟨z, H3, I3, rz, kvs, k, b, ea, ey, eb, hl, q3, q4⟩ => Calls.spliced_nil ?_))))
  subst ey
  cases (show iv = Value.ref b from ry)
  obtain ⟨zz, hd, xs, rel, dd⟩ := dt_of I3.hok ea
  have lxs : xs.length ≤ sizeLine := by rw [← Paired.length rel]; exact zz
  refine call_setdefault_heap (knd := tupleKind (mixKind X.prog X.w)) (k := k) (tupleKind_room_in1 hu) (key_of I3.hok eb) hd dd (fun p hp => ?_) (fun hn h' dd' same => ?_) lxs
  · have r := rel.val k
    rw [hp] at r
    cases ev : valV kvs k with
    | none => rw [ev] at r; exact (show False from r).elim
    | some v0 =>
      rw [ev] at r
      exact ⟨v0, H3, I3.tok _, r, q3 v0 ev⟩
  · have r := rel.val k
    rw [hn] at r
    cases ev : valV kvs k with
    | some v0 => rw [ev] at r; exact (show False from r).elim
    | none =>
      have l2 : (putK kvs k z).length ≤ sizeLine := by have := length_putK kvs k z; omega
      obtain ⟨q0, es, ep, g1, g2, g3, g4, _, g5⟩ := dd'
      have J := d_write (ob := .dT (putK kvs k z)) (t' := s3.toks + (tupleKind (mixKind X.prog X.w)).draws k) I3 (by rw [ea]; exact True.intro) same ⟨q0, g1⟩ ⟨l2, hd, _, (rel.put k eb rz).keeps (fun c ys ec => by
        rw [upd_ne (ne_of ec ea (fun z => nomatch z))]; exact ec), q0, es, ep, g1, g2, g3, g4, g5⟩
      exact ⟨z, _, J, rz, q4 ev⟩
end

/-! ### set(rows), rows a tuple of tuples of ints -/
abbrev freshSet (w : World) : Obj := { cls := .type "set", dict := none, data := .set #[] 0 (.fresh 0 0 (!w.params.followText "set-order")) }
abbrev hpSet (w : World) (h : Heap) : Heap := h.push (freshSet w)
section
variable {P : Program} {w : World} {A : Around} {E : Value → Shared → Prop} {s : Shared}
theorem get_none {h : Heap} {b : Addr} (hb : h.objs.size ≤ b) : h.get? b = none := by
  cases q : h.get? b with
  | none => rfl
  | some o => exact absurd (Nat.lt_of_lt_of_le (Heap.lt_size q) hb) (Nat.lt_irrefl _)
/-- the set is filled -/
def Filled (P : Program) (w : World) (s : Shared) (ks : List (Addr × List Int)) (r : Value) (s2 : Shared) : Prop := r = .none ∧ ∃ h' tk L es ep t, s2 = { s with heap := h', toks := tk } ∧ L2.SetTR P w h' s.heap.objs.size L es ep t ∧ L2.Got ks ks.length L ∧ ∀ b o, s.heap.get? b = some o → h'.get? b = some o
set_option maxHeartbeats 8000000 in
theorem call_set_rows {l : Addr} {items : Array Value} (ks : List (Addr × List Int)) {Q : Value → Shared → Prop} (hh : A.handled = none) (hl : s.heap.IsTuple l items) (hit : items.toList = ks.map fun p => Value.ref p.1)
    (hk : ∀ p ∈ ks, L2.IsT P w s.heap p.2 p.1) (hfew : ks.length < 64) (hu : A.units + 3 < cLine)
    (h : ∀ (h' : Heap) (tk : Nat) L es ep t, L2.SetTR P w h' s.heap.objs.size L es ep t → L2.Got ks ks.length L → (∀ b o, s.heap.get? b = some o → h'.get? b = some o) → Q (.ref s.heap.objs.size) { s with heap := h', toks := tk }) :
    wpAny (model P w) A (call (.type "set") [.ref l]) Q E s := by
  have isz : items.size = ks.length := by have q := congrArg List.length hit; rw [Array.length_toList, List.length_map] at q; exact q
  obtain ⟨c, tl, hmro⟩ := F.called_set.mro
  have a1 := F.called_set.made; have a2 := F.called_set.sub; have a3 := F.called_set.notType; have a4 := F.called_set.canCreate; have a5 := F.typeCall_set_1 (.ref l)
  refine wpAny_call (codeAny_of_tree ?_); show wpAny _ _ (callAny (.type "set") _) _ _ _
  refine wpAny_pure ⟨Code.quiet_builtin _ (by decide +kernel), codeAny_builtin F.entry_type_call ?_⟩; rw [Around.under_plain (weight_type_call_type "set" [.ref l] []) rfl]
  repeat (any_goals (first | assumption | wp_step))
  refine codeAny_mono (L2.code_set_led1 (.ref l) (E := E) (Q₁ := fun obj s₁ => obj = .ref s.heap.objs.size ∧ s₁ = { s with heap := hpSet w s.heap }) ⟨rfl, rfl⟩) fun r s₁ hr => ?_
  cases r with
  | error e => exact hr
  | ok fl =>
    cases fl with
    | ret obj =>
      obtain ⟨rfl, rfl⟩ := hr
      have atS : (hpSet w s.heap).get? s.heap.objs.size = some (freshSet w) := Heap.get?_push_size _ rfl
      have isS : Shared.TypeIs { s with heap := hpSet w s.heap } (.ref s.heap.objs.size) "set" := ⟨_, atS, rfl⟩
      have b1 := F.called_set.init.lookup; have b2 := F.called_set.init.bind (.ref s.heap.objs.size)
      repeat (any_goals (first | assumption | wp_step))
      refine codeAny_mono (codeAny_call_builtin (R := wants (Filled P w s ks) E) F.called_set.init.plain F.entry_set_init (check_set_init_1 isS ?_)) fun r₂ s₂ hr₂ => ?_
      · obtain ⟨ol, hol, hcl, nl, hdl⟩ := hl
        obtain ⟨ocls, odict, odata, oslots⟩ := ol
        simp only at hcl hdl
        subst hcl hdl
        have atl : (hpSet w s.heap).get? l = some { cls := .type "tuple", dict := odict, data := .seq items nl, slots := oslots } := Heap.get?_push_of_some _ hol
        have c1 := F.sub_tuple_set; have c2 := F.sub_tuple_frozenset
        have c3 : (Value.type "tuple" == Value.type "dict") = false := by decide
        have tl1 : (hpSet w s.heap).IsTuple l items := ⟨_, atl, rfl, nl, rfl⟩
        unfold Builtin.«set.__init__» noKeywords Builtin.Frozenset.updateFrom
        generalize hPI : pyIter = PI
        wp_walk
        subst hPI
        refine wpAny_pyIter_tuple tl1 ?_; refine wpAny_bind (wpAny_runValue ?_)
        have hlS : l < s.heap.objs.size := Heap.lt_size hol
        have hh3 : A.in1.in1.in1.handled = none := by simp [hh]
        have sz1 : (hpSet w s.heap).objs.size = s.heap.objs.size + 1 := Heap.size_push ..
        have nI : l ≠ (hpSet w s.heap).objs.size := by rw [sz1]; exact Nat.ne_of_lt (Nat.lt_succ_of_lt hlS)
        have nF : s.heap.objs.size ∉ [(hpSet w s.heap).objs.size, l] := by
          rw [sz1]; simp only [List.mem_cons, List.not_mem_nil, or_false, not_or]; exact ⟨Nat.ne_of_lt (Nat.lt_succ_self _), Nat.ne_of_gt hlS⟩
        have val : ∀ (i : Nat) (v : Value), items[i]? = some v → ∃ p, ks[i]? = some p ∧ v = .ref p.1 := fun i v hv => by
          have q : items.toList[i]? = some v := by rw [Array.getElem?_toList]; exact hv
          rw [hit, List.getElem?_map] at q
          cases hq : ks[i]? with
          | none => rw [hq] at q; cases q
          | some p => rw [hq] at q; exact ⟨p, rfl, (Option.some.inj q).symm⟩
        refine L2.set_update_tups ((Walks.tuple hh3 _ l nI items).toS) s.heap.objs.size nF ks isz hfew val s.heap hk (get_none (Nat.le_refl _)) (fun b hb => get_none (by rw [List.mem_singleton.mp hb, sz1]; exact Nat.le_succ _)) hu (items.size - 0) 0 _ (by omega) (Nat.zero_le _)
          ⟨⟨_, Heap.get?_push_size _ rfl, rfl, rfl⟩, (tl1.push _)⟩ (fun b o e => Heap.get?_push_of_some _ (Heap.get?_push_of_some _ e)) ⟨[], #[], 0, _, L2.setTR_fresh (Heap.get?_push_of_some _ atS), L2.Got.zero ks⟩ ?hR
        case hR =>
          intro s' L es ep t hm fin got kept
          obtain ⟨h', g2, d', tk', os'⟩ := s'
          cases (show g2 = s.gens from hm.gens); cases (show d' = s.drawn from hm.drawn); cases (show os' = s.os from hm.os)
          show wpAny _ _ _ _ _ _
          refine wpAny_pure ?_
          show wpAny _ _ (ret Value.none) _ _ _
          rw [isz] at got
          exact wpAny_pure ⟨rfl, h', tk', L, es, ep, t, rfl, fin, got, kept⟩
      · cases r₂ with
        | error e => exact hr₂
        | ok fl₂ =>
          cases fl₂ with
          | ret r =>
            obtain ⟨rfl, h', tk, L, es, ep, t, rfl, fin, got, kept⟩ := hr₂
            repeat (any_goals (first | assumption | wp_step))
            exact h _ _ _ _ _ _ fin got kept
          | _ => exact hr₂.elim
    | _ => exact hr.elim
end
section
variable {X : Cx}
/-- set(rows), a list or a tuple of tuples of ints -/
def rSetR (K : PySem.W.Frag) (P : Program) (w : World) : List V → Hp → VK → Prop := fun xs H Q => ∃ (l : Addr) (ks : List (Addr × List Int)), xs = [V.ref l] ∧ (SqL K H l (ks.map fun p => V.ref p.1) ∨ SqT K H l (ks.map fun p => V.ref p.1)) ∧ (∀ p ∈ ks, SqT K H p.1 (p.2.map V.int)) ∧ ks.length < 64 ∧
  ∀ a L, H a = none → (∀ p ∈ L, p ∈ ks) → (∀ p ∈ ks, p.2 ∈ L.map (·.2)) → Q (.ref a) (upd H a (SetTO P w a L))
theorem cr_setR (hc : X.calm = true) (hu : X.A.units + 64 < cLine) : CallR X (.type "set") (rSetR X.K X.prog X.w) := by
  intro pins s σ H xs us Q I r h
  obtain ⟨l, ks, rfl, hl | hl, hk, hf, q⟩ := h
  · exact L2.cr_setOfT hc hu pins s σ H _ us Q I r ⟨l, ks, rfl, hl, hk, hf, q⟩
  · rw [L2.Vals.ref1 r]
    obtain ⟨its, rv, pl, hz⟩ := I.tuple hl
    have nH : H s.heap.objs.size = none := I.hok.fresh (Nat.le_refl _)
    refine call_set_rows (P := X.prog) (w := X.w) ks (I.ok.hd hc) pl (by simpa using L2.refs_of_vals rv) (fun p hp => L2.Inv.isT I (hk p hp)) hf (by omega) fun h' tk L es ep t R g k => ?_
    refine ⟨.ref s.heap.objs.size, upd H s.heap.objs.size (SetTO X.prog X.w s.heap.objs.size L), I.laid (t' := tk) k (Nat.le_refl _) (L2.setTO_new R.t0), rfl, q _ L nH (fun p hp => List.mem_of_mem_take (g.sub p hp)) fun p hp => g.all p (by rw [List.take_length]; exact hp)⟩
end
end NR

/-! What the law's helpers keep: everything but the one list of draws. -/
namespace NK
open PySem PySem.Spec PyProof.Rows L2

/-- all that was tracked stays, but for what stands at d -/
def KB (d : Addr) (H H' : Hp) : Prop := ∀ b o, b ≠ d → H b = some o → H' b = some o
theorem KB.refl {d : Addr} {H : Hp} : KB d H H := fun _ _ _ h => h
theorem KB.trans {d : Addr} {H H1 H2 : Hp} (a : KB d H H1) (b : KB d H1 H2) : KB d H H2 := fun c o n h => b c o n (a c o n h)
theorem KB.same {d : Addr} {H H' : Hp} (s : Same H H') : KB d H H' := fun b o _ h => s b o h
theorem KB.at {d : Addr} {H : Hp} {o : HO} : KB d H (upd H d o) := fun b _ n h => by
  rw [upd_ne n]
  exact h
/-- a store at a place that was free at the start -/
theorem KB.put {d p : Addr} {H H' : Hp} {o : HO} (k : KB d H H') (n : H p = none) : KB d H (upd H' p o) := fun b x nb h => by
  rw [upd_ne (ne_of_none h n)]
  exact k b x nb h
theorem KB.new {d p : Addr} {H : Hp} {o : HO} (n : H p = none) : KB d H (upd H p o) := KB.refl.put n
theorem KB.free {d p : Addr} {H H' : Hp} (k : KB d H H') (n : H' p = none) (hp : p ≠ d) : H p = none := by
  cases q : H p with
  | none => rfl
  | some o =>
    rw [k p o hp q] at n
    cases n
theorem Same.put {p : Addr} {H H' : Hp} {o : HO} (k : Same H H') (n : H p = none) : Same H (upd H' p o) := fun b x h => by
  rw [upd_ne (ne_of_none h n)]
  exact k b x h
theorem same_upd {H : Hp} {p : Addr} {o : HO} (h : H p = none) : Same H (upd H p o) := fun b x e => by
  rw [upd_ne (ne_of_none e h)]
  exact e

/-- a comprehension's turn without a test -/
theorem yesT {σ : L2.St} {H : Hp} {A B : Bool → Hp → Prop} (h : A true H) : tYes σ H (fun b H3 => if b = true then A b H3 else B b H3) := by
  show (if true = true then A true H else B true H)
  rw [if_pos rfl]
  exact h
/-- the draws: a list of ints, not too long -/
def Dr (H : Hp) (d : Addr) : Prop := ∃ ds : List Int, H d = some (.lst (ds.map V.int)) ∧ ds.length ≤ 2000
theorem Dr.upd {H : Hp} {d p : Addr} {o : HO} (D : Dr H d) (n : d ≠ p) : Dr (upd H p o) d := by
  obtain ⟨ds, e, l⟩ := D
  exact ⟨ds, by rw [upd_ne n]; exact e, l⟩
theorem Dr.ne {H : Hp} {d p : Addr} (D : Dr H d) (n : H p = none) : d ≠ p := by
  obtain ⟨ds, e, l⟩ := D
  exact ne_of_none e n
theorem Dr.new {H : Hp} {d p : Addr} {o : HO} (D : Dr H d) (n : H p = none) : Dr (L2.upd H p o) d := D.upd (D.ne n)

/-- one goes on: the draws are still draws, all else stays -/
structure Go (d : Addr) (H H' : Hp) : Prop where
  kb : KB d H H'
  dr : Dr H' d
theorem Go.refl {d : Addr} {H : Hp} (D : Dr H d) : Go d H H := ⟨.refl, D⟩
theorem Go.trans {d : Addr} {H H1 H2 : Hp} (a : Go d H H1) (b : Go d H1 H2) : Go d H H2 := ⟨a.kb.trans b.kb, b.dr⟩
theorem Go.put {d p : Addr} {H H' : Hp} {o : HO} (g : Go d H H') (n : H p = none) (hp : d ≠ p) : Go d H (upd H' p o) := ⟨g.kb.put n, g.dr.upd hp⟩
theorem Go.new {d p : Addr} {H H' : Hp} {o : HO} (g : Go d H H') (n : H' p = none) : Go d H (upd H' p o) :=
  ⟨g.kb.put (g.kb.free n (g.dr.ne n).symm), g.dr.new n⟩
theorem Go.free {d p : Addr} {H H' : Hp} (g : Go d H H') (n : H' p = none) : H p = none := g.kb.free n (g.dr.ne n).symm
theorem Go.keep {d p : Addr} {H H' : Hp} {o : HO} (g : Go d H H') (h : H p = some o) (n : p ≠ d) : H' p = some o := g.kb p o n h
theorem Go.keepT {d p : Addr} {H H' : Hp} {xs : List V} (g : Go d H H') (D : Dr H d) (h : H p = some (.tup xs)) : H' p = some (.tup xs) := by
  obtain ⟨ds, e, _⟩ := D
  exact g.kb p _ (ne_of h e (fun z => by cases z)) h

/-- a tuple stays -/
theorem SqT.go {K : PySem.W.Frag} {d a : Addr} {H H' : Hp} {xs : List V} (g : Go d H H') (D : Dr H d) (h : SqT K H a xs) : SqT K H' a xs := by
  obtain ⟨ds, e, _⟩ := D
  rcases h with (h | ⟨o, h⟩) | h
  · exact .inl (.inl (g.kb a _ (ne_of h e (fun z => by cases z)) h))
  · exact .inl (.inr ⟨o, g.kb a _ (ne_of h e (fun z => by cases z)) h⟩)
  · exact .inr h
theorem SqT.same {K : PySem.W.Frag} {a : Addr} {H H' : Hp} {xs : List V} (s : Same H H') (h : SqT K H a xs) : SqT K H' a xs := by
  rcases h with (h | ⟨o, h⟩) | h
  · exact .inl (.inl (s a _ h))
  · exact .inl (.inr ⟨o, s a _ h⟩)
  · exact .inr h

/-- a tuple stays where a list is changed -/
theorem SqT.putL {K : PySem.W.Frag} {a p : Addr} {H : Hp} {xs ys zs : List V} (e : H p = some (.lst ys)) (h : SqT K H a xs) : SqT K (upd H p (.lst zs)) a xs := by
  rcases h with (h | ⟨o, h⟩) | h
  · exact .inl (.inl (by rw [upd_ne (ne_of h e (fun z => by cases z))]; exact h))
  · exact .inl (.inr ⟨o, by rw [upd_ne (ne_of h e (fun z => by cases z))]; exact h⟩)
  · exact .inr h
/-- the script: a list that is read, beside the draws -/
def Scr (K : PySem.W.Frag) (H : Hp) (d a : Addr) (xs : List V) : Prop := (Rd H a (.lst xs) ∧ a ≠ d) ∨ ∀ H' : Hp, SqL K H' a xs
theorem Scr.seq {K : PySem.W.Frag} {H : Hp} {d a : Addr} {xs : List V} (h : Scr K H d a xs) : SqL K H a xs := by
  rcases h with h | h
  · exact .inl h.1
  · exact h H
theorem Scr.go {K : PySem.W.Frag} {H H' : Hp} {d a : Addr} {xs : List V} (g : KB d H H') (h : Scr K H d a xs) : Scr K H' d a xs := by
  rcases h with ⟨h | ⟨o, h⟩, n⟩ | h
  · exact .inl ⟨.inl (g _ _ n h), n⟩
  · exact .inl ⟨.inr ⟨o, g _ _ n h⟩, n⟩
  · exact .inr h
theorem Scr.of {K : PySem.W.Frag} {H H' : Hp} {d a : Addr} {xs : List V} (s : Same H H') (n : H d = none) (h : SqL K H a xs) : Scr K H' d a xs := by
  rcases h with (h | ⟨o, h⟩) | h
  · exact .inl ⟨.inl (s _ _ h), ne_of_none h n⟩
  · exact .inl ⟨.inr ⟨o, s _ _ h⟩, ne_of_none h n⟩
  · exact .inr fun _ => .inr h

/-! ### data that never changes: ints, texts, tuples of such -/
mutual
inductive Im (K : PySem.W.Frag) (H : Hp) : V → PyData → Prop
  | int (i : Int) : Im K H (.int i) (.int i)
  | str (x : Str) : Im K H (.str x) (.str x)
  | tup {a : Addr} {xs : List V} {ds : List PyData} : H a = some (.tup xs) → ImAll K H xs ds → Im K H (.ref a) (.tuple ds)
inductive ImAll (K : PySem.W.Frag) (H : Hp) : List V → List PyData → Prop
  | nil : ImAll K H [] []
  | cons {v : V} {vs : List V} {d : PyData} {ds : List PyData} : Im K H v d → ImAll K H vs ds → ImAll K H (v :: vs) (d :: ds)
end
mutual
theorem Im.map {K : PySem.W.Frag} {H H' : Hp} (f : ∀ a xs, H a = some (.tup xs) → H' a = some (.tup xs)) : ∀ {v : V} {d : PyData}, Im K H v d → Im K H' v d
  | _, _, .int i => .int i
  | _, _, .str x => .str x
  | _, _, .tup h r => .tup (f _ _ h) (ImAll.map f r)
theorem ImAll.map {K : PySem.W.Frag} {H H' : Hp} (f : ∀ a xs, H a = some (.tup xs) → H' a = some (.tup xs)) : ∀ {vs : List V} {ds : List PyData}, ImAll K H vs ds → ImAll K H' vs ds
  | _, _, .nil => .nil
  | _, _, .cons h r => .cons (Im.map f h) (ImAll.map f r)
end
theorem Im.go {K : PySem.W.Frag} {d : Addr} {H H' : Hp} {v : V} {t : PyData} (g : Go d H H') (D : Dr H d) (h : Im K H v t) : Im K H' v t := h.map fun _ _ q => g.keepT D q
theorem ImAll.go {K : PySem.W.Frag} {d : Addr} {H H' : Hp} {v : List V} {t : List PyData} (g : Go d H H') (D : Dr H d) (h : ImAll K H v t) : ImAll K H' v t := h.map fun _ _ q => g.keepT D q
theorem Im.same {K : PySem.W.Frag} {H H' : Hp} {v : V} {t : PyData} (s : Same H H') (h : Im K H v t) : Im K H' v t := h.map fun _ _ q => s _ _ q
theorem ImAll.same {K : PySem.W.Frag} {H H' : Hp} {v : List V} {t : List PyData} (s : Same H H') (h : ImAll K H v t) : ImAll K H' v t := h.map fun _ _ q => s _ _ q
/-- a tuple stays where a list or a dict is changed -/
theorem tup_put {a p : Addr} {H : Hp} {xs : List V} {o u : HO} (e : H p = some u) (nu : ∀ ys, u ≠ .tup ys) (h : H a = some (.tup xs)) : upd H p o a = some (.tup xs) := by
  rw [upd_ne (ne_of h e (fun z => nu xs z.symm))]
  exact h
theorem Im.put {K : PySem.W.Frag} {p : Addr} {H : Hp} {v : V} {t : PyData} {o u : HO} (e : H p = some u) (nu : ∀ ys, u ≠ .tup ys) (h : Im K H v t) : Im K (upd H p o) v t := h.map fun _ _ q => tup_put e nu q
theorem ImAll.put {K : PySem.W.Frag} {p : Addr} {H : Hp} {v : List V} {t : List PyData} {o u : HO} (e : H p = some u) (nu : ∀ ys, u ≠ .tup ys) (h : ImAll K H v t) : ImAll K (upd H p o) v t := h.map fun _ _ q => tup_put e nu q
theorem ImAll.length {K : PySem.W.Frag} {H : Hp} : ∀ {vs : List V} {ds : List PyData}, ImAll K H vs ds → vs.length = ds.length
  | _, _, .nil => rfl
  | _, _, .cons _ r => congrArg (· + 1) r.length
theorem ImAll.append {K : PySem.W.Frag} {H : Hp} : ∀ {vs us : List V} {ds es : List PyData}, ImAll K H vs ds → ImAll K H us es → ImAll K H (vs ++ us) (ds ++ es)
  | _, _, _, _, .nil, q => q
  | _, _, _, _, .cons h r, q => .cons h (ImAll.append r q)
theorem ImAll.get {K : PySem.W.Frag} {H : Hp} : ∀ {vs : List V} {ds : List PyData} {i : Nat} {v : V}, ImAll K H vs ds → vs[i]? = some v → ∃ t, ds[i]? = some t ∧ Im K H v t
  | _, _, i, v, .nil, h => by simp at h
  | _, _, 0, v, .cons h r, e => ⟨_, rfl, by cases (Option.some.inj e); exact h⟩
  | _, _, i + 1, v, .cons h r, e => r.get (i := i) e
theorem ImAll.ints {K : PySem.W.Frag} {H : Hp} : ∀ (l : List Int), ImAll K H (l.map V.int) (l.map PyData.int)
  | [] => .nil
  | i :: r => .cons (.int i) (ImAll.ints r)
theorem ImAll.ofInts {K : PySem.W.Frag} {H : Hp} : ∀ {vs : List V} {l : List Int}, ImAll K H vs (l.map PyData.int) → vs = l.map V.int
  | _, [], .nil => rfl
  | _, i :: r, .cons h q => by
    cases h
    rw [ImAll.ofInts q]
    rfl
mutual
theorem Im.dp {K : PySem.W.Frag} {H : Hp} : ∀ {v : V} {d : PyData}, Im K H v d → Dp K H v d
  | _, _, .int i => .int i
  | _, _, .str x => .str x
  | _, _, .tup h r => .tup (SqT.of h) (ImAll.dp r)
theorem ImAll.dp {K : PySem.W.Frag} {H : Hp} : ∀ {vs : List V} {ds : List PyData}, ImAll K H vs ds → DpAll K H vs ds
  | _, _, .nil => .nil
  | _, _, .cons h r => .cons (Im.dp h) (ImAll.dp r)
end

/-! ### dependencies as data -/
inductive Dep where
  | two (deals : Bool) (t : Int) (l r : List Int)
  | joins (t : Int) (ps : List (List Int))
  | within (t : Int) (c : List Int) (o : Int) (u : List Int)
def intsD (l : List Int) : PyData := .tuple (l.map .int)
def partsD (ps : List (List Int)) : PyData := .tuple (ps.map intsD)
def kindS (deals : Bool) : Str := if deals then "deals" else "settles"
def Dep.data : Dep → PyData
  | .two k t l r => .tuple [.str (kindS k), .int t, intsD l, intsD r]
  | .joins t ps => .tuple [.str "joins", .int t, partsD ps]
  | .within t c o u => .tuple [.str "within", .int t, intsD c, .int o, intsD u]
def bookD (b : List Dep) : PyData := .tuple (b.map Dep.data)
/-- small enough to be written -/
def Sm (i : Int) : Prop := 0 ≤ i ∧ i < 10 ^ 61
def SmL (l : List Int) : Prop := l.length ≤ 30 ∧ ∀ i ∈ l, Sm i
def Dep.Sm : Dep → Prop
  | .two _ t l r => NK.Sm t ∧ SmL l ∧ SmL r
  | .joins t ps => NK.Sm t ∧ ps.length ≤ 30 ∧ ∀ p ∈ ps, SmL p
  | .within t c o u => NK.Sm t ∧ SmL c ∧ NK.Sm o ∧ SmL u
/-- a set of columns as a tuple -/
theorem Im.ints {K : PySem.W.Frag} {H : Hp} {a : Addr} {l : List Int} (h : H a = some (.tup (l.map V.int))) : Im K H (.ref a) (intsD l) := .tup h (.ints l)
theorem Im.toInts {K : PySem.W.Frag} {H : Hp} {v : V} {l : List Int} (h : Im K H v (intsD l)) : ∃ a, v = .ref a ∧ H a = some (.tup (l.map V.int)) := by
  cases h with
  | tup h r => exact ⟨_, rfl, by rw [← ImAll.ofInts r]; exact h⟩
/-! ### rows, tables, stores as data -/
def rowsD (R : List (List Int)) : PyData := .tuple (R.map intsD)
def storeD (S : List (List (List Int))) : PyData := .tuple (S.map rowsD)
/-- rows of one width, ascending, each once -/
structure Tab (n : Int) (R : List (List Int)) : Prop where
  asc : R.Pairwise (· < ·)
  len : ∀ r ∈ R, (r.length : Int) = n
/-- the rows of a table by their addresses -/
theorem Im.rows {K : PySem.W.Frag} {H : Hp} {v : V} {R : List (List Int)} (h : Im K H v (rowsD R)) : ∃ (a : Addr) (ks : List (Addr × List Int)), v = .ref a ∧ H a = some (.tup (ks.map fun p => V.ref p.1)) ∧ ks.map (·.2) = R ∧ ∀ p ∈ ks, H p.1 = some (.tup (p.2.map V.int)) := by
  cases h with
  | tup h r =>
    rename_i a xs
    have go : ∀ (R : List (List Int)) (xs : List V), ImAll K H xs (R.map intsD) → ∃ ks : List (Addr × List Int), xs = ks.map (fun p => V.ref p.1) ∧ ks.map (·.2) = R ∧ ∀ p ∈ ks, H p.1 = some (.tup (p.2.map V.int)) := by
      intro R
      induction R with
      | nil =>
        intro xs h
        cases h
        exact ⟨[], rfl, rfl, fun p hp => (by cases hp)⟩
      | cons x R ih =>
        intro xs h
        cases h with
        | cons h1 h2 =>
          obtain ⟨b, rfl, hb⟩ := h1.toInts
          obtain ⟨ks, rfl, e2, h3⟩ := ih _ h2
          refine ⟨(b, x) :: ks, rfl, by rw [List.map_cons, e2], fun p hp => ?_⟩
          rcases List.mem_cons.mp hp with rfl | hp
          · exact hb
          · exact h3 p hp
    obtain ⟨ks, rfl, e2, h3⟩ := go R xs r
    exact ⟨a, ks, rfl, h, e2, h3⟩
theorem ImAll.rows {K : PySem.W.Frag} {H : Hp} : ∀ (ks : List (Addr × List Int)), (∀ p ∈ ks, H p.1 = some (.tup (p.2.map V.int))) → ImAll K H (ks.map fun p => V.ref p.1) ((ks.map (·.2)).map intsD)
  | [], _ => .nil
  | p :: ks, h => .cons (Im.ints (h p (List.mem_cons_self ..))) (ImAll.rows ks fun q hq => h q (List.mem_cons_of_mem _ hq))
end NK

namespace NK
open PySem PySem.Spec PyProof.Rows L2
/-! ### order of rows -/
theorem lexLt_eq : ∀ xs ys : List Int, HT.lexLt xs ys = decide (xs < ys)
  | [], [] => by simp [HT.lexLt]
  | [], y :: ys => by simp [HT.lexLt]
  | x :: xs, [] => by simp [HT.lexLt]
  | x :: xs, y :: ys => by
    rw [HT.lexLt_cons]
    by_cases h : x = y
    · rw [if_pos h, lexLt_eq xs ys]
      simp [h, List.cons_lt_cons_iff]
    · rw [if_neg h]
      simp [h, List.cons_lt_cons_iff]
theorem row_le_total (a b : List Int) : a ≤ b ∨ b ≤ a := List.le_total a b
theorem row_le_trans {a b c : List Int} (h : a ≤ b) (k : b ≤ c) : a ≤ c := List.le_trans h k
theorem row_le_antisymm {a b : List Int} (h : a ≤ b) (k : b ≤ a) : a = b := List.le_antisymm h k
theorem row_le_refl (a : List Int) : a ≤ a := List.le_refl a
theorem row_not_lt {a b : List Int} : ¬ a < b ↔ b ≤ a := List.not_lt
theorem row_lt_le {a b : List Int} (h : a < b) : a ≤ b := List.le_of_lt h
theorem row_lt_irrefl (a : List Int) : ¬ a < a := List.lt_irrefl a
theorem row_le_lt {a b : List Int} (h : a ≤ b) : ¬ b < a := List.not_lt.mpr h
/-! ### least breaches of functional dependencies -/
def prj (l : List Int) (a : List Int) : List Int := l.map fun c => a.getD c.toNat 0
def Bad (l r a b : List Int) : Prop := prj l a = prj l b ∧ prj r a ≠ prj r b
instance (l r a b : List Int) : Decidable (Bad l r a b) := inferInstanceAs (Decidable (_ ∧ _))
theorem Bad.symm {l r a b : List Int} (h : Bad l r a b) : Bad l r b a := ⟨h.1.symm, fun e => h.2 e.symm⟩
def Br (l r : List Int) (T : List (List Int)) : Option (List Int × List Int) → Prop
  | none => ∀ a ∈ T, ∀ b ∈ T, ¬ Bad l r a b
  | some (a, b) => a ∈ T ∧ b ∈ T ∧ Bad l r a b ∧ (∀ a' ∈ T, ∀ b' ∈ T, Bad l r a' b' → a ≤ a') ∧ ∀ b' ∈ T, Bad l r a b' → b ≤ b'
theorem Br.one {l r : List Int} {T : List (List Int)} {o o' : Option (List Int × List Int)} (h : Br l r T o) (h' : Br l r T o') : o = o' := by
  match o, o', h, h' with
  | none, none, _, _ => rfl
  | none, some (a, b), h, ⟨ha, hb, hB, _⟩ => exact absurd hB (h a ha b hb)
  | some (a, b), none, ⟨ha, hb, hB, _⟩, h => exact absurd hB (h a ha b hb)
  | some (a, b), some (a', b'), ⟨ha, hb, hB, m1, m2⟩, ⟨ha', hb', hB', m1', m2'⟩ =>
    have e : a = a' := row_le_antisymm (m1 a' ha' b' hb' hB') (m1' a ha b hb hB)
    subst e
    have e2 : b = b' := row_le_antisymm (m2 b' hb' hB') (m2' b hb hB)
    rw [e2]
/-- the first row with the same left -/
def Fst (l : List Int) (T : List (List Int)) (x f : List Int) : Prop := f ∈ T ∧ prj l f = prj l x ∧ ∀ a ∈ T, prj l a = prj l x → f ≤ a
theorem Br.keepL {l r : List Int} {T : List (List Int)} {x f : List Int} {o : Option (List Int × List Int)} (h : Br l r T o) (hx : ∀ a ∈ T, a ≤ x) (hf : Fst l (T ++ [x]) x f) (e : prj r f = prj r x) : Br l r (T ++ [x]) o := by
  have key : ∀ a ∈ T, Bad l r a x → Bad l r f a ∧ f ∈ T := fun a ha hB => by
    have h1 : Bad l r f a := ⟨by rw [hf.2.1, hB.1], fun z => hB.2 (by rw [← z, e])⟩
    refine ⟨h1, ?_⟩
    rcases List.mem_append.mp hf.1 with z | z
    · exact z
    · rw [List.mem_singleton.mp z] at h1 hf
      have h2 : x ≤ a := hf.2.2 a (List.mem_append_left _ ha) hB.1
      have h3 : a = x := row_le_antisymm (hx a ha) h2
      exact absurd (by rw [h3]) hB.2
  match o, h with
  | none, h =>
    intro a ha b hb hB
    rcases List.mem_append.mp ha with ha | ha <;> rcases List.mem_append.mp hb with hb | hb
    · exact h a ha b hb hB
    · rw [List.mem_singleton.mp hb] at hB
      obtain ⟨k1, k2⟩ := key a ha hB
      exact h f k2 a ha k1
    · rw [List.mem_singleton.mp ha] at hB
      obtain ⟨k1, k2⟩ := key b hb hB.symm
      exact h f k2 b hb k1
    · rw [List.mem_singleton.mp ha, List.mem_singleton.mp hb] at hB
      exact hB.2 rfl
  | some (a0, b0), ⟨ha, hb, hB, m1, m2⟩ =>
    refine ⟨List.mem_append_left _ ha, List.mem_append_left _ hb, hB, fun a' ha' b' hb' hB' => ?_, fun b' hb' hB' => ?_⟩
    · rcases List.mem_append.mp ha' with ha' | ha'
      · rcases List.mem_append.mp hb' with hb' | hb'
        · exact m1 a' ha' b' hb' hB'
        · rw [List.mem_singleton.mp hb'] at hB'
          obtain ⟨k1, k2⟩ := key a' ha' hB'
          exact row_le_trans (m1 f k2 a' ha' k1) (hf.2.2 a' (List.mem_append_left _ ha') hB'.1)
      · rw [List.mem_singleton.mp ha']
        exact hx a0 ha
    · rcases List.mem_append.mp hb' with hb' | hb'
      · exact m2 b' hb' hB'
      · rw [List.mem_singleton.mp hb']
        exact hx b0 hb
theorem Br.newL {l r : List Int} {T : List (List Int)} {x f : List Int} {o : Option (List Int × List Int)} (h : Br l r T o) (hx : ∀ a ∈ T, a ≤ x) (hf : Fst l (T ++ [x]) x f) (e : prj r f ≠ prj r x) (hlt : ∀ a b, o = some (a, b) → f < a) : Br l r (T ++ [x]) (some (f, x)) := by
  have fT : f ∈ T := by
    rcases List.mem_append.mp hf.1 with z | z
    · exact z
    · exact absurd (by rw [List.mem_singleton.mp z]) e
  refine ⟨hf.1, List.mem_append_right _ (List.mem_singleton.mpr rfl), ⟨hf.2.1, e⟩, fun a' ha' b' hb' hB' => ?_, fun b' hb' hB' => ?_⟩
  · rcases List.mem_append.mp ha' with ha' | ha'
    · rcases List.mem_append.mp hb' with hb' | hb'
      · match o, h with
        | none, h => exact absurd hB' (h a' ha' b' hb')
        | some (a, b), ⟨_, _, _, m1, _⟩ => exact row_le_trans (row_lt_le (hlt a b rfl)) (m1 a' ha' b' hb' hB')
      · rw [List.mem_singleton.mp hb'] at hB'
        exact hf.2.2 a' (List.mem_append_left _ ha') hB'.1
    · rw [List.mem_singleton.mp ha']
      exact hx f fT
  · rcases List.mem_append.mp hb' with hb' | hb'
    · match o, h with
      | none, h => exact absurd hB' (h f fT b' hb')
      | some (a, b), ⟨_, _, _, m1, _⟩ => exact absurd (hlt a b rfl) (row_le_lt (m1 f fT b' hb' hB'))
    · rw [List.mem_singleton.mp hb']
      exact row_le_refl x
theorem Br.oldL {l r : List Int} {T : List (List Int)} {x f a b : List Int} (h : Br l r T (some (a, b))) (hx : ∀ a ∈ T, a ≤ x) (hf : Fst l (T ++ [x]) x f) (hlt : ¬ f < a) : Br l r (T ++ [x]) (some (a, b)) := by
  obtain ⟨ha, hb, hB, m1, m2⟩ := h
  refine ⟨List.mem_append_left _ ha, List.mem_append_left _ hb, hB, fun a' ha' b' hb' hB' => ?_, fun b' hb' hB' => ?_⟩
  · rcases List.mem_append.mp ha' with ha' | ha'
    · rcases List.mem_append.mp hb' with hb' | hb'
      · exact m1 a' ha' b' hb' hB'
      · rw [List.mem_singleton.mp hb'] at hB'
        exact row_le_trans (row_not_lt.mp hlt) (hf.2.2 a' (List.mem_append_left _ ha') hB'.1)
    · rw [List.mem_singleton.mp ha']
      exact hx a ha
  · rcases List.mem_append.mp hb' with hb' | hb'
    · exact m2 b' hb' hB'
    · rw [List.mem_singleton.mp hb']
      exact hx b hb
/-- the law's own search: rows up to i without a breach, and then one -/
theorem Br.found {l r : List Int} {T : List (List Int)} (asc : T.Pairwise (· < ·)) {i j : Nat} {a b : List Int} (hi : T[i]? = some a) (hj : T[j]? = some b) (h1 : ∀ a' ∈ T.take i, ∀ b' ∈ T, ¬ Bad l r a' b') (h2 : ∀ b' ∈ T.take j, ¬ Bad l r a b') (hB : Bad l r a b) : Br l r T (some (a, b)) := by
  have split : ∀ {i : Nat} {a a' : List Int}, T[i]? = some a → a' ∈ T → a' ∈ T.take i ∨ a ≤ a' := by
    intro i a a' hi ha'
    obtain ⟨k, hk, rfl⟩ := List.getElem_of_mem ha'
    obtain ⟨hi', rfl⟩ := List.getElem?_eq_some_iff.mp hi
    by_cases z : k < i
    · refine .inl ?_
      have : (T.take i)[k]? = some T[k] := by rw [List.getElem?_take, if_pos z, List.getElem?_eq_getElem hk]
      exact List.mem_of_getElem? this
    · refine .inr ?_
      rcases Nat.lt_or_eq_of_le (Nat.not_lt.mp z) with y | y
      · exact row_lt_le (List.pairwise_iff_getElem.mp asc i k hi' hk y)
      · subst y
        exact row_le_refl _
  refine ⟨List.mem_of_getElem? hi, List.mem_of_getElem? hj, hB, fun a' ha' b' hb' hB' => ?_, fun b' hb' hB' => ?_⟩
  · rcases split hi ha' with z | z
    · exact absurd hB' (h1 a' z b' hb')
    · exact z
  · rcases split hj hb' with z | z
    · exact absurd hB' (h2 b' z)
    · exact z
end NK

/-! {k: v for x in t}, the keys tuples of ints and texts -/
namespace NR
open PySem PySem.Spec PyProof.Rows L2
section
variable {X : Cx}
/-- a pair put into a dict whose keys are tuples -/
theorem put_rows {pins : List (Addr × Obj)} {σ : L2.St} {H : Hp} {s : Shared} {E : Value → Shared → Prop} {D b : Addr} {kvs : List (List L2.Key × V)} {k : List L2.Key} {y v : V} {u r : Value} {Q : Unit → Shared → Prop} (hu : X.A.units + 1 < cLine)
    (I : Inv X pins σ H s) (eD : H D = some (.dT kvs)) (room : kvs.length < sizeLine) (ey : y = .ref b) (eb : H b = some (.tup (k.map kV))) (ry : RelV y u) (rv : RelV v r) (h : ∀ s', Inv X pins σ (upd H D (.dT (putK kvs k v))) s' → Q () s') :
    wpAny (model X.prog X.w) X.A (dictSet D u r) Q E s := by
  subst ey
  cases (show u = Value.ref b from ry)
  obtain ⟨le, nsys, xs, rel, dh⟩ := dt_of I.hok eD
  have lx : xs.length ≤ sizeLine := by rw [← Paired.length rel]; exact le
  have lp := length_putK kvs k v
  refine wpAny_dictSet_heap (knd := tupleKind (mixKind X.prog X.w)) (k := k) (hsz := lx) (show X.A.units < cLine from Nat.lt_of_succ_lt hu) (key_of I.hok eb) dh fun h1 dh1 only => h _ ?_
  obtain ⟨o, es, ep, d1, d2, d3, d4, _, d5⟩ := dh1
  exact d_write I (by rw [eD]; exact True.intro) only ⟨o, d1⟩ ⟨by omega, nsys, _, (rel.put k eb rv).keeps fun c ys ec => by
    rw [upd_ne (ne_of ec eD (fun z => nomatch z))]
    exact ec, o, es, ep, d1, d2, d3, d4, d5⟩
/-- one pair more -/
def Pairs (D : Addr) (Nx : Hp → Prop) (y z : V) (H : Hp) : Prop := ∃ kvs k b, y = .ref b ∧ H D = some (.dT kvs) ∧ H b = some (.tup (k.map kV)) ∧ kvs.length < sizeLine ∧ Nx (upd H D (.dT (putK kvs k z)))
/-- a turn of such a comprehension -/
def Turn (g : TG) (tt : TT) (tk tv : TE) (vs : List Nat) (σ : L2.St) (D : Addr) (Nx : Hp → Prop) (x : V) (H : Hp) : Prop := g x (wipe σ vs) H fun σ2 H2 => wipe σ2 vs = wipe σ vs ∧ tt σ2 H2 fun b H3 =>
  if b = true then tk σ2 H3 fun y H4 => tv σ2 H4 fun z H5 => Pairs D Nx y z H5 else Nx H3
def tDcT (wi : TI) (g : TG) (tt : TT) (tk tv : TE) (vs : List Nat) : TE := fun σ H Q => wi σ H fun J H1 => ∀ D, H1 D = none → ∃ W : Nat → Nat → Hp → Prop, (∃ m, W 0 m (upd H1 D (.dT []))) ∧ ∀ i m H, W i m H →
  (J.stop i H ∧ Q (.ref D) H) ∨ (J.go i H ∧ ∃ Nx : Hp → Prop, (∀ H', Nx H' → ∃ m', m' < m ∧ W (i + 1) m' H') ∧ ∀ x H', J.yld i H x H' → Turn g tt tk tv vs σ D Nx x H')
theorem dcT_core {pins : List (Addr × Obj)} {s : Shared} {σ : L2.St} {H : Hp} {Q : VK} {use : Option (Value → Sem Unit)} {Qf : Value → Shared → Prop} {kx vx tg iter : Expr} {ifs : List Expr} {scope : Scope} {own : List (Str × Nat)} {pos pos' : Pos} {wi : TI} {g : TG} {tt : TT} {tk tv : TE} (I : Inv X pins σ H s)
    (hc : X.calm = true) (hN : X.N.Nodup) (hu : X.A.units + 1 < cLine) (hi : PI X tg iter wi) (ok : BlkOk X.N X.env.scope scope own)
    (hg : ∀ (s : Shared) (H : Hp) (C : Addr) (cl : List (Str × Addr)) (fp : List Addr), PG (X.blk s H scope (compEnvC scope cl C X.env) fp) tg g) (ht : ∀ (s : Shared) (H : Hp) (C : Addr) (cl : List (Str × Addr)) (fp : List Addr), PTs (X.blk s H scope (compEnvC scope cl C X.env) fp) ifs tt)
    (hk : ∀ (s : Shared) (H : Hp) (C : Addr) (cl : List (Str × Addr)) (fp : List Addr), PE (X.blk s H scope (compEnvC scope cl C X.env) fp) kx tk)
    (he : ∀ (s : Shared) (H : Hp) (C : Addr) (cl : List (Str × Addr)) (fp : List Addr), PE (X.blk s H scope (compEnvC scope cl C X.env) fp) vx tv) (hs : ∀ x, foldedSetIterable iter X.env x = pure x)
    (h : tDcT wi g tt tk tv (own.map (·.2)) σ H Q)
    (fin : ∀ D C s' m H', Inv X pins σ H' s' → Q (.ref D) H' → s'.heap.Ns C m → FpOk X pins H' C → compPost (model X.prog X.w) X.A X.xe use Qf (.ref D) C (.ok .next) s') :
    wpAny (model X.prog X.w) X.A (comprehension (.DictComp kx vx [⟨tg, iter, ifs, 0⟩] scope pos) scope X.env pos' newDict false (eval iter X.env) use) Qf X.xe s := by
  have clo : ∀ y ∈ scope.names, y.2 = .free → ∃ c, X.env.cells.lookup y.1 = some c := fun y hy e =>
    (ok.free y hy e).elim (fun q => I.ok.has _ (.inl q)) (fun q => I.ok.has _ (.inr q))
  refine wpAny_comprehension_free (use := use) rfl hs (closure_ok clo) ok.kind (fun y hy e => by rw [ok.uniq y hy, e]) (thn (hi.run pins s σ H _ I h) fun _ s1 first => thn first fun _ s2 got => ?_)
  obtain ⟨it, fp, tn, J, H2, e, I2, T, at0, foot, q⟩ := got
  subst e
  -- the new dict
  refine wpAny_newObj_type (newEnv_comp ?_)
  generalize eD : s2.heap.objs.size = D
  have nD : H2 D = none := I2.hok.fresh (Nat.le_of_eq eD)
  obtain ⟨W, ⟨m0, start⟩, turn⟩ := q D nD
  generalize e3 : ({ s2 with heap := s2.heap.push { cls := .type "dict", data := .dict #[] } } : Shared) = s3
  have hp3 : s3.heap = s2.heap.push { cls := .type "dict", data := .dict #[] } := by rw [← e3]
  have I3 : Inv X pins σ (upd H2 D (.dT [])) s3 := by
    subst e3 eD
    exact I2.laid (t' := s2.toks) (fun b o z => Heap.get?_push_of_some _ z) (Nat.le_refl _) (dt_empty s2.heap I2.big)
  have foot3 : ∀ b ∈ fp, FpOk X pins (upd H2 D (.dT [])) b ∧ b < s3.heap.objs.size := fun b hb => by
    obtain ⟨o, z, _⟩ := T.obj _ _ at0 b hb
    have lt := Heap.lt_size z
    have ne : b ≠ D := by rw [← eD]; exact Nat.ne_of_lt lt
    exact ⟨⟨by rw [upd_ne ne]; exact (foot b hb).1, (foot b hb).2⟩, by rw [hp3, Heap.size_push]; exact Nat.lt_succ_of_lt lt⟩
  have at3 : tn 0 s3.heap := T.keep _ _ _ at0 fun b _ o z => by rw [hp3]; exact Heap.get?_push_of_some _ z
  -- the block
  have I4 : Inv (X.blk s3 (upd H2 D (.dT [])) scope (compEnvC scope (cellsFrom (s3.heap.objs.size + 1) scope.names (cloFrom X.env.cells scope.names [])) s3.heap.objs.size X.env) fp) [] (wipe σ (own.map (·.2))) (upd H2 D (.dT [])) { s3 with heap := pushCells (s3.heap.push { cls := .type "dict", data := .dict #[] }) scope.names } := block_start I3 ok hN foot3
  have G := hg s3 (upd H2 D (.dT [])) s3.heap.objs.size (cellsFrom (s3.heap.objs.size + 1) scope.names (cloFrom X.env.cells scope.names [])) fp
  have Tt := ht s3 (upd H2 D (.dT [])) s3.heap.objs.size (cellsFrom (s3.heap.objs.size + 1) scope.names (cloFrom X.env.cells scope.names [])) fp
  have Kx := hk s3 (upd H2 D (.dT [])) s3.heap.objs.size (cellsFrom (s3.heap.objs.size + 1) scope.names (cloFrom X.env.cells scope.names [])) fp
  have Vx := he s3 (upd H2 D (.dT [])) s3.heap.objs.size (cellsFrom (s3.heap.objs.size + 1) scope.names (cloFrom X.env.cells scope.names [])) fp
  have none0 : ∀ b ∈ fp, (upd H2 D (.dT [])) b = none := fun b hb => (foot3 b hb).1.1
  have at4 : tn 0 (pushCells (s3.heap.push { cls := .type "dict", data := .dict #[] }) scope.names) := T.keep _ _ _ at3 fun b _ o z => pushCells_keeps _ _ _ _ (Heap.get?_push_of_some _ z)
  have locs : (compEnvC scope (cellsFrom (s3.heap.objs.size + 1) scope.names (cloFrom X.env.cells scope.names [])) s3.heap.objs.size X.env).locals = s3.heap.objs.size := rfl
  show codeAny _ _ (.compStart (.DictComp kx vx [⟨tg, iter, ifs, 0⟩] scope pos) 0 (.ref it) (.ref D) (compEnvC scope (cellsFrom (s3.heap.objs.size + 1) scope.names (cloFrom X.env.cells scope.names [])) s3.heap.objs.size X.env)) (compPost (model X.prog X.w) X.A X.xe use Qf (.ref D) s3.heap.objs.size) { s3 with heap := pushCells (s3.heap.push { cls := .type "dict", data := .dict #[] }) scope.names }
  generalize eC : compEnvC scope (cellsFrom (s3.heap.objs.size + 1) scope.names (cloFrom X.env.cells scope.names [])) s3.heap.objs.size X.env = ce at I4 G Tt Kx Vx locs ⊢
  have still : ∀ {σ' : L2.St} {H' : Hp} {s' : Shared}, Inv (X.blk s3 (upd H2 D (.dT [])) scope ce fp) [] σ' H' s' → (∀ b ∈ fp, H' b = none) → ∀ b ∈ fp, FpOk (X.blk s3 (upd H2 D (.dT [])) scope ce fp) [] H' b :=
    fun I' n b hb => ⟨n b hb, (I'.ok.exf b hb).1, I'.ok.exfs b hb, .inl hb, fun x c z => (I'.ok.exf b hb).2 x c z, fun p hp => absurd (show p ∈ ([] : List (Addr × Obj)) ++ [] from hp) (by simp)⟩
  have run : codeAny (model X.prog X.w) X.A (.compLoop (.DictComp kx vx [⟨tg, iter, ifs, 0⟩] scope pos) 0 (.ref it) (.ref D) ce) (compPost (model X.prog X.w) X.A X.xe use Qf (.ref D) s3.heap.objs.size)
      { s3 with heap := pushCells (s3.heap.push { cls := .type "dict", data := .dict #[] }) scope.names } := by
    refine compLoop_anyD (fun n s' => ∃ i H', Inv (X.blk s3 (upd H2 D (.dT [])) scope ce fp) [] (wipe σ (own.map (·.2))) H' s' ∧ tn i s'.heap ∧ (∀ b ∈ fp, H' b = none) ∧ W i n H') (fun n s5 hyp => ?_) m0 ⟨0, _, I4, at4, none0, start⟩
    obtain ⟨i, H5, I5, at5, n5, w5⟩ := hyp
    rcases turn i n H5 w5 with ⟨stop, done⟩ | ⟨go, Nx, less, step⟩
    · refine thnF (T.done (X.blk s3 (upd H2 D (.dT [])) scope ce fp) rfl rfl rfl hc i [] s5 _ H5 (fun _ _ => False) I5 (still I5 n5) at5 stop) fun r s6 last => ?_
      obtain ⟨er, I6⟩ := last
      subst er
      have I7 : Inv X pins σ H5 s6 := I3.call' (ch := fp) I6.os I6.base I6.hok I6.bare fun b hb =>
        let ⟨_, q1, _, q2, q3, q4⟩ := (foot3 b hb).1
        ⟨q2, q1, q3, q4⟩
      have nC : H5 s3.heap.objs.size = none := locs ▸ (show H5 ce.locals = none from I6.free)
      obtain ⟨m, ns, _⟩ := I6.loc
      have ns : s6.heap.Ns s3.heap.objs.size m := locs ▸ (show s6.heap.Ns ce.locals m from ns)
      exact fin D s3.heap.objs.size s6 m H5 I7 done ns (I3.fpOk (Nat.le_refl _) nC)
    · refine thnF (T.item (X.blk s3 (upd H2 D (.dT [])) scope ce fp) rfl rfl rfl hc i [] s5 _ H5 (fun _ _ => False) I5 (still I5 n5) at5 go) fun r s6 item => ?_
      obtain ⟨u, er, h6⟩ := item
      subst er
      refine thnF h6 fun _ s7 ⟨x, H7, I7, r7, y7, at7, n7⟩ => ?_
      -- what the turn leaves
      have next : ∀ {σ8 : L2.St} {H' : Hp} {s' : Shared}, wipe σ8 (own.map (·.2)) = wipe σ (own.map (·.2)) → Inv (X.blk s3 (upd H2 D (.dT [])) scope ce fp) ([] ++ pinsAt fp s7.heap) σ8 H' s' → Nx H' →
          ∃ m, m < n ∧ ∃ i H', Inv (X.blk s3 (upd H2 D (.dT [])) scope ce fp) [] (wipe σ (own.map (·.2))) H' s' ∧ tn i s'.heap ∧ (∀ b ∈ fp, H' b = none) ∧ W i m H' := by
        intro σ8 H' s' hw I' nx
        obtain ⟨m1, lt, w1⟩ := less H' nx
        have pinned : ∀ b ∈ fp, ∀ o, s7.heap.get? b = some o → s'.heap.get? b = some o ∧ H' b = none := fun b hb o z =>
          let q := I'.pin (b, o) (List.mem_append_right _ (List.mem_append_right _ (mem_pinsAt hb z)))
          ⟨q.1, q.2.1⟩
        refine ⟨m1, lt, i + 1, H', (I'.unpinned (pins := [])).weak (by rw [← wipe_length σ8 (own.map (·.2)), hw]) (fun j v z => (wipe_some (show (wipe σ8 (own.map (·.2)))[j]? = some (some v) by rw [hw]; exact z)).1), T.keep _ _ _ at7 fun b hb o z => (pinned b hb o z).1, fun b hb => ?_, w1⟩
        obtain ⟨o, z, _⟩ := T.obj _ _ at7 b hb
        exact (pinned b hb o z).2
      refine thnF (G.run _ s7 _ H7 x u _ (I7.pinned (still I7 n7) (T.obj _ _ at7)) r7 (step x H7 y7)) fun _ s8 ⟨σ8, H8, I8, hw8, q8⟩ => ?_
      refine thnF (Tt.run _ s8 σ8 H8 _ I8 q8) fun b s9 ⟨H9, I9, q9⟩ => ?_
      cases b with
      | false => exact next hw8 I9 q9
      | true =>
        refine thnF (Kx.run _ s9 σ8 H9 _ I9 q9) fun _ s10 ⟨y, H10, I10, ry, q10⟩ => thnF (Vx.run _ s10 σ8 H10 _ I10 q10) fun _ s11 ⟨z, H11, I11, rz, kvs, k, b, ey, eD11, eb11, room, nx⟩ => ?_
        exact put_rows (X := X.blk s3 (upd H2 D (.dT [])) scope ce fp) hu I11 eD11 room ey eb11 ry rz fun s12 I12 => next hw8 I12 nx
  exact codeAny_compStart_dict run (T.self X.A 0 _ _ _ at4 run)
theorem pe_dcT {kx vx tg iter : Expr} {ifs : List Expr} {scope : Scope} {own : List (Str × Nat)} {pos : Pos} {wi : TI} {g : TG} {tt : TT} {tk tv : TE} (hc : X.calm = true) (hN : X.N.Nodup) (hu : X.A.units + 1 < cLine) (hi : PI X tg iter wi) (ok : BlkOk X.N X.env.scope scope own)
    (hg : ∀ (s : Shared) (H : Hp) (C : Addr) (cl : List (Str × Addr)) (fp : List Addr), PG (X.blk s H scope (compEnvC scope cl C X.env) fp) tg g) (ht : ∀ (s : Shared) (H : Hp) (C : Addr) (cl : List (Str × Addr)) (fp : List Addr), PTs (X.blk s H scope (compEnvC scope cl C X.env) fp) ifs tt)
    (hk : ∀ (s : Shared) (H : Hp) (C : Addr) (cl : List (Str × Addr)) (fp : List Addr), PE (X.blk s H scope (compEnvC scope cl C X.env) fp) kx tk)
    (he : ∀ (s : Shared) (H : Hp) (C : Addr) (cl : List (Str × Addr)) (fp : List Addr), PE (X.blk s H scope (compEnvC scope cl C X.env) fp) vx tv) (hs : ∀ x, foldedSetIterable iter X.env x = pure x := by intro _; rfl) :
    PE X (.DictComp kx vx [⟨tg, iter, ifs, 0⟩] scope pos) (tDcT wi g tt tk tv (own.map (·.2))) := by
  refine ⟨fun pins s σ H Q I h => ?_⟩
  rw [arm_eval_DictComp]
  refine dcT_core I hc hN hu hi ok hg ht hk he hs h fun D C s' m H' I' q ns f => ⟨m, ns, fun h9 sb => ?_⟩
  obtain ⟨f0, f1, _, f3, f4, f5⟩ := f
  exact ⟨.ref D, H', I'.turned (t' := s'.toks) (fun b o hb z => (sb.2 b hb).trans z) f0 f1 f3 f4 f5, rfl, q⟩
/-- the value goes straight to a local name -/
theorem sw_dict {kx vx : Expr} {gs : List Comprehension} {scope : Scope} {pos py : Pos} {y : Str} {l : Nat} {env : Env} (hk : env.scope.kind = .function) (hy : env.scope.names.lookup y = some .local) (hl : (py.line == pos.line) = true)
    (ha : (scope.names.any fun (n, k) => n == y && (k == .local || k == .cell)) = false) : swapsWith (.DictComp kx vx gs scope pos) (some (.Name y py)) l env = pure true := by
  have e1 : env.kindOf y = some .local := hy
  have e2 : env.blockKind = .function := by unfold Env.blockKind; rw [hk]; rfl
  unfold swapsWith
  simp only [e2, e1, ha, Expr.pos, hl]
  rfl
theorem ps_setDcT {i : Nat} {y : Str} {py : Pos} {kx vx tg iter : Expr} {ifs : List Expr} {scope : Scope} {own : List (Str × Nat)} {pos spos : Pos} {wi : TI} {g : TG} {tt : TT} {tk tv : TE} (hc : X.calm = true) (hN : X.N.Nodup) (hu : X.A.units + 1 < cLine) (hy : X.N[i]? = some y) (hyl : X.env.scope.names.lookup y = some .local)
    (hsw : swapsWith (.DictComp kx vx [⟨tg, iter, ifs, 0⟩] scope pos) (some (.Name y py)) spos.line X.env = pure true) (hi : PI X tg iter wi) (ok : BlkOk X.N X.env.scope scope own)
    (hg : ∀ (s : Shared) (H : Hp) (C : Addr) (cl : List (Str × Addr)) (fp : List Addr), PG (X.blk s H scope (compEnvC scope cl C X.env) fp) tg g) (ht : ∀ (s : Shared) (H : Hp) (C : Addr) (cl : List (Str × Addr)) (fp : List Addr), PTs (X.blk s H scope (compEnvC scope cl C X.env) fp) ifs tt)
    (hk : ∀ (s : Shared) (H : Hp) (C : Addr) (cl : List (Str × Addr)) (fp : List Addr), PE (X.blk s H scope (compEnvC scope cl C X.env) fp) kx tk)
    (he : ∀ (s : Shared) (H : Hp) (C : Addr) (cl : List (Str × Addr)) (fp : List Addr), PE (X.blk s H scope (compEnvC scope cl C X.env) fp) vx tv) (hs : ∀ x, foldedSetIterable iter X.env x = pure x := by intro _; rfl) :
    PS X (.Assign [.Name y py] (.DictComp kx vx [⟨tg, iter, ifs, 0⟩] scope pos) spos) (tAsg (tDcT wi g tt tk tv (own.map (·.2))) (gName i)) := by
  refine ⟨fun pins s σ H D I h => ?_⟩
  rw [exec_Assign_Name_used _ _ _ _ hsw]
  refine wpAny_bind (wpAny_standAt (wpAny_bind ?_))
  show wpAny _ X.A (do let _ ← comprehension (.DictComp kx vx [⟨tg, iter, ifs, 0⟩] scope pos) scope X.env (firstIterPos [⟨tg, iter, ifs, 0⟩] pos) newDict false (eval iter X.env) (some (assign (.Name y py) X.env))) _ _ s
  have h0 : tDcT wi g tt tk tv (own.map (·.2)) σ H (fun x H1 => gName i x σ H1 D.nx) := h
  refine wpAny_bind (thn (dcT_core (Qf := fun _ s' => SP X pins D .next s') I hc hN hu hi ok hg ht hk he hs h0 fun L C s' m H' I' q ns f => ?_) fun _ s' done => wpAny_pure (wpAny_pure done))
  show wpAny _ _ (assign (.Name y py) X.env (.ref L)) _ _ _
  refine wpAny_assign_Name (store_ok2 (v := V.ref L) I' hN hy (.inl hyl) rfl (fun s2 I2 one => ?_) (.inr hyl))
  obtain ⟨a, sb, place⟩ := one
  obtain ⟨f0, f1, _, f3, f4, f5⟩ := f
  have ne : C ≠ a := place.elim (fun z => by rw [z]; exact f1) (fun z e => f4 y a z e.symm)
  exact ⟨m, ns.sameBut sb ne, fun h3 sb3 => ⟨_, H', I2.turned (t' := s2.toks) (fun b o hb z => (sb3.2 b hb).trans z) f0 f1 f3 f4 f5, q⟩⟩
/-- .. over a tuple that stays as it is -/
theorem dcT_tup {K : PySem.W.Frag} {a : Addr} {xs : List V} {g : TG} {tt : TT} {tk tv : TE} {vs : List Nat} {σ : L2.St} {H1 : Hp} {D : Addr} {Qd : Hp → Prop} (Pv : Nat → Hp → Prop) (h0 : Pv 0 (upd H1 D (.dT []))) (hl : ∀ i H, i ≤ xs.length → Pv i H → SqT K H a xs)
    (hs : ∀ i x H, xs[i]? = some x → Pv i H → Turn g tt tk tv vs σ D (Pv (i + 1)) x H) (hd : ∀ H, Pv xs.length H → Qd H) :
    ∃ W : Nat → Nat → Hp → Prop, (∃ m, W 0 m (upd H1 D (.dT []))) ∧ ∀ i m H, W i m H →
      ((Itt K a).stop i H ∧ Qd H) ∨ ((Itt K a).go i H ∧ ∃ Nx : Hp → Prop, (∀ H', Nx H' → ∃ m', m' < m ∧ W (i + 1) m' H') ∧ ∀ x H', (Itt K a).yld i H x H' → Turn g tt tk tv vs σ D Nx x H') := by
  refine ⟨fun i m H => i + m = xs.length ∧ Pv i H, ⟨xs.length, Nat.zero_add _, h0⟩, fun i m H ⟨sum, p⟩ => ?_⟩
  have there := hl i H (by omega) p
  rcases Nat.eq_zero_or_pos m with rfl | pos
  · have e : i = xs.length := by omega
    subst e
    exact .inl ⟨⟨xs, there, Nat.le_refl _⟩, hd H p⟩
  · have lt : i < xs.length := by omega
    refine .inr ⟨⟨xs, xs[i], there, by simp [lt]⟩, Pv (i + 1), fun H' p' => ⟨m - 1, by omega, by omega, p'⟩, fun x H' y => ?_⟩
    obtain ⟨rfl, y⟩ := y
    exact hs i x _ (y xs there) p
end
end NR

/-! {e for x in t}, tuples of ints; sorted of tuples of ints, empty ones too -/
namespace NR
open PySem PySem.Spec PyProof.Rows L2 PpSet
section
variable {P : Program} {w : World} {A : Around} {E : Value → Shared → Prop} {s : Shared}
/-- s.add(row) -/
theorem call_add_row {a x : Addr} {k : List Int} {L : List (Addr × List Int)} {es : Array (Int × Value)} {ep : Nat} {t : SetTable} {Q : Value → Shared → Prop} (R : L2.SetTR P w s.heap a L es ep t) (hx : L2.IsT P w s.heap k x) (hu : A.units + 1 < cLine) (few : L.length + 1 < 64)
    (hQ : ∀ h' tk L' es' ep' t', Heap.SameBut a s.heap h' → L2.SetTR P w h' a L' es' ep' t' → (k ∈ L.map (·.2) → L' = L) → (k ∉ L.map (·.2) → L'.Perm ((x, k) :: L)) → Q .none { s with heap := h', toks := tk }) :
    wpAny (model P w) A (call (.builtin "set.add") [.ref a, .ref x]) Q E s := by
  have isS : s.TypeIs (.ref a) "set" := let ⟨o, ho, hex, _⟩ := R.ob; ⟨o, ho, hex.1⟩
  refine wpAny_call_entry F.slot_set_add isS F.entry_set_add ?_ (F.args_set_add_2 _ _)
  unfold Builtin.«set.add» Builtin.Frozenset.oneOther
  simp only [List.isEmpty_nil, bind_assoc]
  unfold Builtin.Frozenset.addrOf setAdd
  refine wpAny_bind (wpAny_pure ?_)
  try dsimp only
  refine wpAny_bind (wpAny_pure ?_)
  try dsimp only
  refine wpAny_bind ?_
  refine wpAny_holding ?_
  refine wpAny_bind (wpAny_pyHash_tuple (knd := intKind P w) (show A.in1.units < cLine from hu) hx ?_)
  refine L2.add_at (s := { s with toks := s.toks + (k.length + 1) }) R hx (show A.in1.units < cLine from hu) few fun b h' L' es' ep' t' sb R' same more => ?_
  show wpAny _ _ (ret Value.none) _ _ _
  exact wpAny_pure ⟨_, rfl, hQ h' _ L' es' ep' t' sb R' same more⟩
end
section
variable {X : Cx}
/-- a row put into a set of rows -/
theorem add_row {pins : List (Addr × Obj)} {σ : L2.St} {H : Hp} {s : Shared} {E : Value → Shared → Prop} {D b : Addr} {L : List (Addr × List Int)} {k : List Int} {y : V} {u : Value} {Q : Value → Shared → Prop} (hu : X.A.units + 1 < cLine)
    (I : Inv X pins σ H s) (eD : H D = some (SetTO X.prog X.w D L)) (hL : ∀ p ∈ L, SqT X.K H p.1 (p.2.map V.int)) (room : L.length + 1 < 64) (ey : y = .ref b) (eb : H b = some (.tup (k.map V.int))) (ry : RelV y u)
    (h : ∀ s' L', (k ∈ L.map (·.2) → L' = L) → (k ∉ L.map (·.2) → L'.Perm ((b, k) :: L)) → Inv X pins σ (upd H D (SetTO X.prog X.w D L')) s' → Q .none s') :
    wpAny (model X.prog X.w) X.A (call (.builtin "set.add") [.ref D, u]) Q E s := by
  subst ey
  cases (show u = Value.ref b from ry)
  have R0 : L2.SetT0 X.prog X.w s.heap D L := (I.hok D _ eD).1
  obtain ⟨es, ep, t, R⟩ := R0.full fun p hp => L2.Inv.isT I (hL p hp)
  refine call_add_row R (L2.Inv.isT I (SqT.of eb)) hu room fun h1 tk L' es' ep' t' only R' same more => ?_
  have there : ∃ o, h1.get? D = some o := let ⟨o, ho, _⟩ := R'.ob; ⟨o, ho⟩
  exact h _ L' same more (I.write (e := D) (t' := tk) (by rw [eD]; trivial) (.inl rfl) (fun c o hc z => (only.2 c hc).trans z) there (L2.setTO_new R'.t0))
/-- a turn of such a comprehension -/
def AddsS (P : Program) (w : World) (K : PySem.W.Frag) (D : Addr) (Nx : Hp → Prop) (y : V) (H : Hp) : Prop := ∃ (L : List (Addr × List Int)) (k : List Int) (b : Addr), y = .ref b ∧ H D = some (SetTO P w D L) ∧ (∀ p ∈ L, SqT K H p.1 (p.2.map V.int)) ∧ H b = some (.tup (k.map V.int)) ∧ L.length + 1 < 64 ∧
  ∀ L', (k ∈ L.map (·.2) → L' = L) → (k ∉ L.map (·.2) → L'.Perm ((b, k) :: L)) → Nx (upd H D (SetTO P w D L'))
def TurnS (P : Program) (w : World) (K : PySem.W.Frag) (g : TG) (tt : TT) (te : TE) (vs : List Nat) (σ : L2.St) (D : Addr) (Nx : Hp → Prop) (x : V) (H : Hp) : Prop := g x (wipe σ vs) H fun σ2 H2 => wipe σ2 vs = wipe σ vs ∧ tt σ2 H2 fun b H3 =>
  if b = true then te σ2 H3 fun y H4 => AddsS P w K D Nx y H4 else Nx H3
def tScT (P : Program) (w : World) (K : PySem.W.Frag) (wi : TI) (g : TG) (tt : TT) (te : TE) (vs : List Nat) : TE := fun σ H Q => wi σ H fun J H1 => ∀ D, H1 D = none → ∃ W : Nat → Nat → Hp → Prop, (∃ m, W 0 m (upd H1 D (SetTO P w D []))) ∧ ∀ i m H, W i m H →
  (J.stop i H ∧ Q (.ref D) H) ∨ (J.go i H ∧ ∃ Nx : Hp → Prop, (∀ H', Nx H' → ∃ m', m' < m ∧ W (i + 1) m' H') ∧ ∀ x H', J.yld i H x H' → TurnS P w K g tt te vs σ D Nx x H')
theorem scT_core {pins : List (Addr × Obj)} {s : Shared} {σ : L2.St} {H : Hp} {Q : VK} {use : Option (Value → Sem Unit)} {Qf : Value → Shared → Prop} {elt tg iter : Expr} {ifs : List Expr} {scope : Scope} {own : List (Str × Nat)} {pos pos' : Pos} {wi : TI} {g : TG} {tt : TT} {te : TE} (I : Inv X pins σ H s)
    (hc : X.calm = true) (hN : X.N.Nodup) (hu : X.A.units + 1 < cLine) (hi : PI X tg iter wi) (ok : BlkOk X.N X.env.scope scope own)
    (hg : ∀ (s : Shared) (H : Hp) (C : Addr) (cl : List (Str × Addr)) (fp : List Addr), PG (X.blk s H scope (compEnvC scope cl C X.env) fp) tg g) (ht : ∀ (s : Shared) (H : Hp) (C : Addr) (cl : List (Str × Addr)) (fp : List Addr), PTs (X.blk s H scope (compEnvC scope cl C X.env) fp) ifs tt)
    (he : ∀ (s : Shared) (H : Hp) (C : Addr) (cl : List (Str × Addr)) (fp : List Addr), PE (X.blk s H scope (compEnvC scope cl C X.env) fp) elt te) (hs : ∀ x, foldedSetIterable iter X.env x = pure x)
    (h : tScT X.prog X.w X.K wi g tt te (own.map (·.2)) σ H Q)
    (fin : ∀ D C s' m H', Inv X pins σ H' s' → Q (.ref D) H' → s'.heap.Ns C m → FpOk X pins H' C → compPost (model X.prog X.w) X.A X.xe use Qf (.ref D) C (.ok .next) s') :
    wpAny (model X.prog X.w) X.A (comprehension (.SetComp elt [⟨tg, iter, ifs, 0⟩] scope pos) scope X.env pos' (newSet (.type "set")) false (eval iter X.env) use) Qf X.xe s := by
  have clo : ∀ y ∈ scope.names, y.2 = .free → ∃ c, X.env.cells.lookup y.1 = some c := fun y hy e =>
    (ok.free y hy e).elim (fun q => I.ok.has _ (.inl q)) (fun q => I.ok.has _ (.inr q))
  refine wpAny_comprehension_free (use := use) rfl hs (closure_ok clo) ok.kind (fun y hy e => by rw [ok.uniq y hy, e]) (thn (hi.run pins s σ H _ I h) fun _ s1 first => thn first fun _ s2 got => ?_)
  obtain ⟨it, fp, tn, J, H2, e, I2, T, at0, foot, q⟩ := got
  subst e
  -- the new dict
  refine newSet_ok (newEnv_comp ?_)
  generalize eD : s2.heap.objs.size = D
  have nD : H2 D = none := I2.hok.fresh (Nat.le_of_eq eD)
  obtain ⟨W, ⟨m0, start⟩, turn⟩ := q D nD
  generalize e3 : ({ s2 with heap := s2.heap.push (freshSet X.w) } : Shared) = s3
  have hp3 : s3.heap = s2.heap.push (freshSet X.w) := by rw [← e3]
  have I3 : Inv X pins σ (upd H2 D (SetTO X.prog X.w D [])) s3 := by
    subst e3 eD
    exact I2.laid (t' := s2.toks) (fun b o z => Heap.get?_push_of_some _ z) (Nat.le_refl _) (L2.setTO_new (L2.setTR_fresh (P := X.prog) (w := X.w) (Heap.get?_push_size _ rfl)).t0)
  have foot3 : ∀ b ∈ fp, FpOk X pins (upd H2 D (SetTO X.prog X.w D [])) b ∧ b < s3.heap.objs.size := fun b hb => by
    obtain ⟨o, z, _⟩ := T.obj _ _ at0 b hb
    have lt := Heap.lt_size z
    have ne : b ≠ D := by rw [← eD]; exact Nat.ne_of_lt lt
    exact ⟨⟨by rw [upd_ne ne]; exact (foot b hb).1, (foot b hb).2⟩, by rw [hp3, Heap.size_push]; exact Nat.lt_succ_of_lt lt⟩
  have at3 : tn 0 s3.heap := T.keep _ _ _ at0 fun b _ o z => by rw [hp3]; exact Heap.get?_push_of_some _ z
  -- the block
  have I4 : Inv (X.blk s3 (upd H2 D (SetTO X.prog X.w D [])) scope (compEnvC scope (cellsFrom (s3.heap.objs.size + 1) scope.names (cloFrom X.env.cells scope.names [])) s3.heap.objs.size X.env) fp) [] (wipe σ (own.map (·.2))) (upd H2 D (SetTO X.prog X.w D [])) { s3 with heap := pushCells (s3.heap.push { cls := .type "dict", data := .dict #[] }) scope.names } := block_start I3 ok hN foot3
  have G := hg s3 (upd H2 D (SetTO X.prog X.w D [])) s3.heap.objs.size (cellsFrom (s3.heap.objs.size + 1) scope.names (cloFrom X.env.cells scope.names [])) fp
  have Tt := ht s3 (upd H2 D (SetTO X.prog X.w D [])) s3.heap.objs.size (cellsFrom (s3.heap.objs.size + 1) scope.names (cloFrom X.env.cells scope.names [])) fp
  have Vx := he s3 (upd H2 D (SetTO X.prog X.w D [])) s3.heap.objs.size (cellsFrom (s3.heap.objs.size + 1) scope.names (cloFrom X.env.cells scope.names [])) fp
  have none0 : ∀ b ∈ fp, (upd H2 D (SetTO X.prog X.w D [])) b = none := fun b hb => (foot3 b hb).1.1
  have at4 : tn 0 (pushCells (s3.heap.push { cls := .type "dict", data := .dict #[] }) scope.names) := T.keep _ _ _ at3 fun b _ o z => pushCells_keeps _ _ _ _ (Heap.get?_push_of_some _ z)
  have locs : (compEnvC scope (cellsFrom (s3.heap.objs.size + 1) scope.names (cloFrom X.env.cells scope.names [])) s3.heap.objs.size X.env).locals = s3.heap.objs.size := rfl
  show codeAny _ _ (.compStart (.SetComp elt [⟨tg, iter, ifs, 0⟩] scope pos) 0 (.ref it) (.ref D) (compEnvC scope (cellsFrom (s3.heap.objs.size + 1) scope.names (cloFrom X.env.cells scope.names [])) s3.heap.objs.size X.env)) (compPost (model X.prog X.w) X.A X.xe use Qf (.ref D) s3.heap.objs.size) { s3 with heap := pushCells (s3.heap.push { cls := .type "dict", data := .dict #[] }) scope.names }
  generalize eC : compEnvC scope (cellsFrom (s3.heap.objs.size + 1) scope.names (cloFrom X.env.cells scope.names [])) s3.heap.objs.size X.env = ce at I4 G Tt Vx locs ⊢
  have still : ∀ {σ' : L2.St} {H' : Hp} {s' : Shared}, Inv (X.blk s3 (upd H2 D (SetTO X.prog X.w D [])) scope ce fp) [] σ' H' s' → (∀ b ∈ fp, H' b = none) → ∀ b ∈ fp, FpOk (X.blk s3 (upd H2 D (SetTO X.prog X.w D [])) scope ce fp) [] H' b :=
    fun I' n b hb => ⟨n b hb, (I'.ok.exf b hb).1, I'.ok.exfs b hb, .inl hb, fun x c z => (I'.ok.exf b hb).2 x c z, fun p hp => absurd (show p ∈ ([] : List (Addr × Obj)) ++ [] from hp) (by simp)⟩
  have run : codeAny (model X.prog X.w) X.A (.compLoop (.SetComp elt [⟨tg, iter, ifs, 0⟩] scope pos) 0 (.ref it) (.ref D) ce) (compPost (model X.prog X.w) X.A X.xe use Qf (.ref D) s3.heap.objs.size)
      { s3 with heap := pushCells (s3.heap.push { cls := .type "dict", data := .dict #[] }) scope.names } := by
    refine compLoopS_any (fun n s' => ∃ i H', Inv (X.blk s3 (upd H2 D (SetTO X.prog X.w D [])) scope ce fp) [] (wipe σ (own.map (·.2))) H' s' ∧ tn i s'.heap ∧ (∀ b ∈ fp, H' b = none) ∧ W i n H') (fun n s5 hyp => ?_) m0 ⟨0, _, I4, at4, none0, start⟩
    obtain ⟨i, H5, I5, at5, n5, w5⟩ := hyp
    rcases turn i n H5 w5 with ⟨stop, done⟩ | ⟨go, Nx, less, step⟩
    · refine thnF (T.done (X.blk s3 (upd H2 D (SetTO X.prog X.w D [])) scope ce fp) rfl rfl rfl hc i [] s5 _ H5 (fun _ _ => False) I5 (still I5 n5) at5 stop) fun r s6 last => ?_
      obtain ⟨er, I6⟩ := last
      subst er
      have I7 : Inv X pins σ H5 s6 := I3.call' (ch := fp) I6.os I6.base I6.hok I6.bare fun b hb =>
        let ⟨_, q1, _, q2, q3, q4⟩ := (foot3 b hb).1
        ⟨q2, q1, q3, q4⟩
      have nC : H5 s3.heap.objs.size = none := locs ▸ (show H5 ce.locals = none from I6.free)
      obtain ⟨m, ns, _⟩ := I6.loc
      have ns : s6.heap.Ns s3.heap.objs.size m := locs ▸ (show s6.heap.Ns ce.locals m from ns)
      exact fin D s3.heap.objs.size s6 m H5 I7 done ns (I3.fpOk (Nat.le_refl _) nC)
    · refine thnF (T.item (X.blk s3 (upd H2 D (SetTO X.prog X.w D [])) scope ce fp) rfl rfl rfl hc i [] s5 _ H5 (fun _ _ => False) I5 (still I5 n5) at5 go) fun r s6 item => ?_
      obtain ⟨u, er, h6⟩ := item
      subst er
      refine thnF h6 fun _ s7 ⟨x, H7, I7, r7, y7, at7, n7⟩ => ?_
      -- what the turn leaves
      have next : ∀ {σ8 : L2.St} {H' : Hp} {s' : Shared}, wipe σ8 (own.map (·.2)) = wipe σ (own.map (·.2)) → Inv (X.blk s3 (upd H2 D (SetTO X.prog X.w D [])) scope ce fp) ([] ++ pinsAt fp s7.heap) σ8 H' s' → Nx H' →
          ∃ m, m < n ∧ ∃ i H', Inv (X.blk s3 (upd H2 D (SetTO X.prog X.w D [])) scope ce fp) [] (wipe σ (own.map (·.2))) H' s' ∧ tn i s'.heap ∧ (∀ b ∈ fp, H' b = none) ∧ W i m H' := by
        intro σ8 H' s' hw I' nx
        obtain ⟨m1, lt, w1⟩ := less H' nx
        have pinned : ∀ b ∈ fp, ∀ o, s7.heap.get? b = some o → s'.heap.get? b = some o ∧ H' b = none := fun b hb o z =>
          let q := I'.pin (b, o) (List.mem_append_right _ (List.mem_append_right _ (mem_pinsAt hb z)))
          ⟨q.1, q.2.1⟩
        refine ⟨m1, lt, i + 1, H', (I'.unpinned (pins := [])).weak (by rw [← wipe_length σ8 (own.map (·.2)), hw]) (fun j v z => (wipe_some (show (wipe σ8 (own.map (·.2)))[j]? = some (some v) by rw [hw]; exact z)).1), T.keep _ _ _ at7 fun b hb o z => (pinned b hb o z).1, fun b hb => ?_, w1⟩
        obtain ⟨o, z, _⟩ := T.obj _ _ at7 b hb
        exact (pinned b hb o z).2
      refine thnF (G.run _ s7 _ H7 x u _ (I7.pinned (still I7 n7) (T.obj _ _ at7)) r7 (step x H7 y7)) fun _ s8 ⟨σ8, H8, I8, hw8, q8⟩ => ?_
      refine thnF (Tt.run _ s8 σ8 H8 _ I8 q8) fun b s9 ⟨H9, I9, q9⟩ => ?_
      cases b with
      | false => exact next hw8 I9 q9
      | true =>
        refine thnF (Vx.run _ s9 σ8 H9 _ I9 q9) fun _ s10 ⟨y, H10, I10, ry, L, k, b, ey, eD10, hL, eb10, room, nx⟩ => ?_
        exact add_row (X := X.blk s3 (upd H2 D (SetTO X.prog X.w D [])) scope ce fp) hu I10 eD10 hL room ey eb10 ry fun s11 L' h1 h2 I11 => next hw8 I11 (nx L' h1 h2)
  exact codeAny_compStart_set run (T.self X.A 0 _ _ _ at4 run)
theorem pe_scT {elt tg iter : Expr} {ifs : List Expr} {scope : Scope} {own : List (Str × Nat)} {pos : Pos} {wi : TI} {g : TG} {tt : TT} {te : TE} (hc : X.calm = true) (hN : X.N.Nodup) (hu : X.A.units + 1 < cLine) (hi : PI X tg iter wi) (ok : BlkOk X.N X.env.scope scope own)
    (hg : ∀ (s : Shared) (H : Hp) (C : Addr) (cl : List (Str × Addr)) (fp : List Addr), PG (X.blk s H scope (compEnvC scope cl C X.env) fp) tg g) (ht : ∀ (s : Shared) (H : Hp) (C : Addr) (cl : List (Str × Addr)) (fp : List Addr), PTs (X.blk s H scope (compEnvC scope cl C X.env) fp) ifs tt)
    (he : ∀ (s : Shared) (H : Hp) (C : Addr) (cl : List (Str × Addr)) (fp : List Addr), PE (X.blk s H scope (compEnvC scope cl C X.env) fp) elt te) (hs : ∀ x, foldedSetIterable iter X.env x = pure x := by intro _; rfl) :
    PE X (.SetComp elt [⟨tg, iter, ifs, 0⟩] scope pos) (tScT X.prog X.w X.K wi g tt te (own.map (·.2))) := by
  refine ⟨fun pins s σ H Q I h => ?_⟩
  rw [eval_SetComp]
  refine scT_core I hc hN hu hi ok hg ht he hs h fun D C s' m H' I' q ns f => ⟨m, ns, fun h9 sb => ?_⟩
  obtain ⟨f0, f1, _, f3, f4, f5⟩ := f
  exact ⟨.ref D, H', I'.turned (t' := s'.toks) (fun b o hb z => (sb.2 b hb).trans z) f0 f1 f3 f4 f5, rfl, q⟩
end
end NR

namespace NR
open PySem PySem.Spec PyProof.Rows L2
/-- a set comprehension over a tuple that stays as it is -/
theorem scT_tup {P : Program} {w : World} {K : PySem.W.Frag} {a : Addr} {xs : List V} {g : TG} {tt : TT} {te : TE} {vs : List Nat} {σ : L2.St} {H1 : Hp} {D : Addr} {Qd : Hp → Prop} (Pv : Nat → Hp → Prop) (h0 : Pv 0 (upd H1 D (SetTO P w D []))) (hl : ∀ i H, i ≤ xs.length → Pv i H → SqT K H a xs)
    (hs : ∀ i x H, xs[i]? = some x → Pv i H → TurnS P w K g tt te vs σ D (Pv (i + 1)) x H) (hd : ∀ H, Pv xs.length H → Qd H) :
    ∃ W : Nat → Nat → Hp → Prop, (∃ m, W 0 m (upd H1 D (SetTO P w D []))) ∧ ∀ i m H, W i m H →
      ((Itt K a).stop i H ∧ Qd H) ∨ ((Itt K a).go i H ∧ ∃ Nx : Hp → Prop, (∀ H', Nx H' → ∃ m', m' < m ∧ W (i + 1) m' H') ∧ ∀ x H', (Itt K a).yld i H x H' → TurnS P w K g tt te vs σ D Nx x H') := by
  refine ⟨fun i m H => i + m = xs.length ∧ Pv i H, ⟨xs.length, Nat.zero_add _, h0⟩, fun i m H ⟨sum, p⟩ => ?_⟩
  have there := hl i H (by omega) p
  rcases Nat.eq_zero_or_pos m with rfl | pos
  · have e : i = xs.length := by omega
    subst e
    exact .inl ⟨⟨xs, there, Nat.le_refl _⟩, hd H p⟩
  · have lt : i < xs.length := by omega
    refine .inr ⟨⟨xs, xs[i], there, by simp [lt]⟩, Pv (i + 1), fun H' p' => ⟨m - 1, by omega, by omega, p'⟩, fun x H' y => ?_⟩
    obtain ⟨rfl, y⟩ := y
    exact hs i x _ (y xs there) p
section
variable {P : Program} {w : World} {A : Around} {E : Value → Shared → Prop} {s : Shared}
/-- one value, or none, is sorted already -/
theorem sorts_short {vs : List Value} {ds : List PyData} (e : PySem.W.EachIs (fun v d => ∃ as, Reads s.heap v d as) vs ds) (hal : PySem.W.AllAlike ds) (short : vs.length ≤ 1) (hn : ∀ d, d ∈ ds → d ≠ .none) (hu : ∀ d, d ∈ ds → A.units + d.depth < cLine) :
    PySem.W.SortsAt P w A s (PySem.W.dataKind s.heap ds) vs := by
  refine ⟨fun v hv => ?_, general', fun E x y a b Q ha hb hq => ?_, fun two => absurd two (by omega)⟩
  · obtain ⟨d, hd, as, r⟩ := e.left v hv
    exact ⟨_, PySem.W.dataKind_some hal hd r⟩
  · obtain ⟨d, as, hd, ra, rfl⟩ := PySem.W.dataKind_inv ha
    obtain ⟨d', as', hd', rb, rfl⟩ := PySem.W.dataKind_inv hb
    exact PySem.W.oneLt_alike (f := false) (fun h => nomatch h) ra rb (hal d hd d' hd') (hn d hd) (Nat.lt_of_le_of_lt (Nat.add_le_add_left (Nat.min_le_left _ _) _) (hu d hd)) hq
theorem sorts_any {vs : List Value} {ds : List PyData} (e : PySem.W.EachIs (fun v d => ∃ as, Reads s.heap v d as) vs ds) (hal : PySem.W.AllAlike ds) (hk : PySem.W.Sortable ds ∨ (vs.length ≤ 1 ∧ ∀ d, d ∈ ds → d ≠ .none)) (hu : ∀ d, d ∈ ds → A.units + d.depth < cLine) :
    PySem.W.SortsAt P w A s (PySem.W.dataKind s.heap ds) vs := hk.elim (fun h => .data e hal h hu) fun h => sorts_short e hal h.1 h.2 hu
theorem list_sort_any {β : Type} {R : Value → β → Prop} {enc : β → PyData} {vs : List Value} {bs : List β} {a : Addr} {n : Nat} {Q : Value → Shared → Prop} (ho : s.heap.get? a = some (seqObj "list" vs.toArray n)) (e : PySem.W.EachIs R vs bs)
    (er : PySem.W.EachIs (fun v b => ∃ as, Reads s.heap v (enc b) as ∧ a ∉ as) vs bs) (hal : PySem.W.AllAlike (bs.map enc)) (hk : PySem.W.Sortable (bs.map enc) ∨ (bs.length ≤ 1 ∧ ∀ d, d ∈ bs.map enc → d ≠ .none)) (hL : bs.length ≤ sizeLine)
    (hu : ∀ b, b ∈ bs → A.units + 1 + (enc b).depth < cLine) (h : ∀ out, out.length = bs.length → PySem.W.EachIs R out (bs.mergeSort (PySem.W.dataLe false enc)) → Q .none { s with heap := sortedHeap s.heap a vs (List.toArray out) }) :
    wpAny (model P w) A (call (.builtin "list.sort") [.ref a]) Q E s := by
  have er' : PySem.W.EachIs (fun v b => ∃ as, Reads (PySem.W.sortingHeap s.heap a vs) v (enc b) as) vs bs :=
    PySem.W.each_keepBut (h' := PySem.W.sortingHeap s.heap a vs) (fun _ _ hb q => PySem.W.sortingHeap_old hb q) (fun o q => by rw [ho] at q; rw [← Option.some.inj q]) hal er
  refine wpAny_call_entry slot_list_sort ⟨_, ho, rfl⟩ entry_list_sort (PySem.W.list_sort_vals (κ := PySem.W.dataKind (PySem.W.sortingHeap s.heap a vs) (bs.map enc)) ho
    (sorts_any (s := { s with heap := PySem.W.sortingHeap s.heap a vs }) (PySem.W.each_map (R := fun v d => ∃ as, Reads (PySem.W.sortingHeap s.heap a vs) v d as) enc er') hal (by rw [e.length]; exact hk) (PySem.W.bound_map hu)) (by rw [e.length]; exact hL) ⟨.none, rfl, ?_⟩) (args_list_sort _)
  exact h _ (by rw [PySem.W.sortVals_length false rfl]; exact e.length) (PySem.W.sortVals_data false e er' hal)
/-- sorted of such a set, from the set's own table -/
theorem sorted_set_any {a : Addr} {L : List (Addr × List Int)} {es : Array (Int × Value)} {ep : Nat} {t : SetTable} {Q : Value → Shared → Prop} (R : L2.SetTR P w s.heap a L es ep t) (hh : A.handled = none) (hu : A.units + 64 < cLine)
    (hne : (∀ p ∈ L, p.2 ≠ []) ∨ L.length ≤ 1)
    (hQ : ∀ s' p (out : Array Value) (c : Nat) (L' : List (Addr × List Int)), (∀ b o, s.heap.get? b = some o → s'.heap.get? b = some o) → s'.gens = s.gens → s'.os = s.os → s.heap.objs.size ≤ p →
      s'.heap.get? p = some (seqObj "list" out c) → out.toList = L'.map (fun q => Value.ref q.1) → L'.Perm L → L'.Pairwise (fun q r => q.2 < r.2) → Q (.ref p) s') :
    wpAny (model P w) A (call (.builtin "sorted") [.ref a]) Q E s := by
  have hob := R.ob
  have few := R.few
  have nL : L.Nodup := L2.nodup_of_map R.nd
  obtain ⟨o, ho, hex, hd⟩ := hob
  refine Calls.call_function_entry kind_sorted plain_sorted entry_sorted (args_sorted1 _) ?_; unfold Builtin.«sorted»
  refine wpAny_bind (m := checkCount "sorted" 1 1 _) (wpAny_pure ?_)
  refine wpAny_bind (L2.collect_set (A := A.in1) hh ⟨o, ho, hex.1, hd⟩ R.fits (by have z := R.size; unfold scanBound; omega) R.tab.ris R.led fun s1 vs keep hz hg hos pm => ?_)
  -- the values collected are the addresses of the set's rows
  have er : es.toList.map (·.2) = L.map fun q => Value.ref q.1 := by
    rw [R.rows]; unfold L2.rowsOf; rw [List.map_map]; rfl
  rw [er] at pm
  obtain ⟨L1, e1, p1⟩ : ∃ L1 : List (Addr × List Int), vs = L1.map (fun q => Value.ref q.1) ∧ L1.Perm L := PermMap.lift pm rfl
  subst e1
  have vl : (L1.map fun q => Value.ref q.1).length < 64 := by rw [List.length_map, p1.length_eq]; exact few
  refine wpAny_bind (wpAny_newList ?_ (by rw [sizeLine_eq]; omega))
  have atL : (s1.heap.push (seqObj "list" (L1.map fun q => Value.ref q.1).toArray 0)).get? s1.heap.objs.size = some (seqObj "list" (L1.map fun q => Value.ref q.1).toArray 0) := Heap.get?_push_size _ rfl
  have kp : ∀ b u, s1.heap.get? b = some u → (s1.heap.push (seqObj "list" (L1.map fun q => Value.ref q.1).toArray 0)).get? b = some u := fun b u e => Heap.get?_push_of_some _ e
  have rd : ∀ q ∈ L1, ∃ as, Reads (s1.heap.push (seqObj "list" (L1.map fun q => Value.ref q.1).toArray 0)) (.ref q.1) (encP q) as ∧ s1.heap.objs.size ∉ as := fun q hq => by
    obtain ⟨as, r1, r2⟩ := reads_row (P := P) (w := w) (L2.isT_keep (R.tup q (p1.mem_iff.mp hq)) fun b u e => kp b u (keep b u e))
    exact ⟨as, r1, r2 _ fun o e => by rw [atL] at e; cases e; rfl⟩
  have each : ∀ l : List (Addr × List Int), (∀ q ∈ l, q ∈ L1) → PySem.W.EachIs (fun v q => v = Value.ref q.1 ∧ q ∈ L1) (l.map fun q => Value.ref q.1) l := by
    intro l hl
    induction l with
    | nil => exact .nil
    | cons q r ih => exact .cons ⟨rfl, hl q (List.mem_cons_self ..)⟩ (ih fun x hx => hl x (List.mem_cons_of_mem _ hx))
  have e1 := each L1 fun _ h => h
  refine wpAny_bind (wpAny_holding (list_sort_any (s := { s1 with heap := s1.heap.push (seqObj "list" (L1.map fun q => Value.ref q.1).toArray 0) }) (enc := encP) atL e1 (e1.mono fun v q h => by rw [h.1]; exact rd q h.2)
    (PySem.W.AllAlike.of fun b b' => by unfold encP; simp only [PySem.W.alike]; exact PySem.W.alike_ints _ _) (hne.elim (fun hne => .inl (.inl fun d hd => ?_)) fun short => .inr ⟨by rw [p1.length_eq]; exact short, fun d hd => ?_⟩) (by rw [List.length_map] at vl; rw [sizeLine_eq]; omega)
    (fun b _ => by have h1 := encP_depth b; have h2 : A.in1.units = A.units + 1 := rfl; omega) fun out ol eo => ?_))
  · obtain ⟨q, hq, rfl⟩ := List.mem_map.mp hd
    unfold encP
    cases z : q.2 with
    | nil => exact absurd z (hne q (p1.mem_iff.mp hq))
    | cons x r => exact ⟨_, _, rfl⟩
  · obtain ⟨q, hq, rfl⟩ := List.mem_map.mp hd
    unfold encP
    exact fun e => by cases e
  · obtain ⟨c, hc⟩ := sortedHeap_at (vs := L1.map fun q => Value.ref q.1) (out := out.toArray) atL
    have eout : out = (L1.mergeSort (PySem.W.dataLe false encP)).map fun q => Value.ref q.1 := by
      have go : ∀ (us : List Value) (l : List (Addr × List Int)), PySem.W.EachIs (fun v q => v = Value.ref q.1 ∧ q ∈ L1) us l → us = l.map fun q => Value.ref q.1 := by
        intro us l h
        induction h with
        | nil => rfl
        | cons h _ ih => rw [List.map_cons, ← ih, h.1]
      exact go _ _ eo
    have pS : (L1.mergeSort (PySem.W.dataLe false encP)).Perm L1 := List.mergeSort_perm _ _
    have nS : ((L1.mergeSort (PySem.W.dataLe false encP)).map (·.2)).Nodup := ((pS.trans p1).map (·.2)).nodup_iff.mpr R.nd
    have ord : (L1.mergeSort (PySem.W.dataLe false encP)).Pairwise fun q r => q.2 < r.2 := by
      have z := PySem.W.sort_pairwise (le := PySem.W.dataLe false encP) (PySem.W.sortLe_total _ _ _) L1
      have n2 : (L1.mergeSort (PySem.W.dataLe false encP)).Pairwise fun q r => q.2 ≠ r.2 := List.pairwise_map.mp nS
      refine (z.and n2).imp fun {q r} h => ?_
      obtain ⟨h1, h2⟩ := h
      rw [encP_le] at h1
      exact list_lt_of_le (of_decide_eq_true h1) h2
    refine wpAny_pure ⟨_, rfl, hQ _ s1.heap.objs.size out.toArray c (L1.mergeSort (PySem.W.dataLe false encP)) (fun b u e => ?_) hg hos hz hc (by rw [List.toList_toArray]; exact eout) (pS.trans p1) ord⟩
    have k1 := keep b u e
    have lt := Heap.lt_size k1
    show (sortedHeap (s1.heap.push (seqObj "list" (L1.map fun q => Value.ref q.1).toArray 0)) s1.heap.objs.size (L1.map fun q => Value.ref q.1) out.toArray).get? b = some u
    rw [sortedHeap_old (Nat.ne_of_lt lt) (by rw [size_push']; exact Nat.lt_succ_of_lt lt)]
    exact kp b u k1
end

section
variable {X : Cx}
/-- sorted(set), tuples of ints of either sign, none of them empty, or one alone -/
def rSrtA (K : PySem.W.Frag) (P : Program) (w : World) : List V → Hp → VK → Prop := fun vs H Q => ∃ (a : Addr) (L : List (Addr × List Int)), vs = [V.ref a] ∧ H a = some (SetTO P w a L) ∧ (∀ p ∈ L, SqT K H p.1 (p.2.map V.int)) ∧ ((∀ p ∈ L, p.2 ≠ []) ∨ L.length ≤ 1) ∧
  ∀ (M : List (Addr × List Int)) (p : Addr), M.Perm L → M.Pairwise (fun q r => q.2 < r.2) → H p = none → Q (.ref p) (upd H p (.lst (M.map fun q => V.ref q.1)))
theorem cr_srtA (hc : X.calm = true) (hu : X.A.units + 64 < cLine) : CallR X (.builtin "sorted") (rSrtA X.K X.prog X.w) := by
  intro pins s σ H vs us Q I r h
  obtain ⟨a, L, rfl, ha, hk, hne, q⟩ := h
  have R0 : L2.SetT0 X.prog X.w s.heap a L := (I.hok a _ ha).1
  obtain ⟨es, ep, t, R⟩ := R0.full fun p hp => L2.Inv.isT I (hk p hp)
  rw [L2.Vals.ref1 r]
  refine sorted_set_any R (I.ok.hd hc) hu hne fun s' p out c M kept gg oo new at' eo pm ord => ?_
  have few : M.length < 64 := by rw [pm.length_eq]; exact R.few
  have fits : (M.map fun q => V.ref q.1).length ≤ sizeLine := by rw [List.length_map, sizeLine_eq]; omega
  have nH : H p = none := I.hok.fresh new
  have vals : Vals (M.map fun q => V.ref q.1) out.toList := by rw [eo]; exact L2.vals_of_refs M
  cases s' with
  | mk hp' g' d' t' o' =>
    cases oo
    have J : L2.Inv X pins σ (upd H p (.lst (M.map fun q => V.ref q.1))) { s with heap := hp', gens := g', drawn := d', toks := t' } :=
      I.call (ch := []) (Un.laid kept new nH) (I.hok.laid kept new ⟨fits, out.toList, c, vals, at'⟩) (by have z : g' = s.gens := gg; rw [z]; exact I.bare) (fun _ z => nomatch z)
    exact ⟨.ref p, _, J, rfl, q M p pm ord nH⟩
end

end NR

/-! sorted of a list of tuples of ints -/
namespace NR
open PySem PySem.Spec PyProof.Rows L2
section
variable {P : Program} {w : World} {A : Around} {E : Value → Shared → Prop} {s : Shared}
theorem each_refs (ks : List (Addr × List Int)) : ∀ l : List (Addr × List Int), (∀ q ∈ l, q ∈ ks) → PySem.W.EachIs (fun v q => v = Value.ref q.1 ∧ q ∈ ks) (l.map fun q => Value.ref q.1) l := by
  intro l hl
  induction l with
  | nil => exact .nil
  | cons q r ih => exact .cons ⟨rfl, hl q (List.mem_cons_self ..)⟩ (ih fun x hx => hl x (List.mem_cons_of_mem _ hx))
theorem call_sorted_rows {l : Addr} (ks : List (Addr × List Int)) {Q : Value → Shared → Prop} (hl : s.heap.IsList l (ks.map fun p => Value.ref p.1).toArray) (hk : ∀ p ∈ ks, L2.IsT P w s.heap p.2 p.1) (nd : (ks.map (·.2)).Nodup) (hne : (∀ p ∈ ks, p.2 ≠ []) ∨ ks.length ≤ 1)
    (few : ks.length < 64) (hu : A.units + 64 < cLine)
    (hQ : ∀ (h' : Heap) (out : Array Value) (c : Nat) (M : List (Addr × List Int)), (∀ b o, s.heap.get? b = some o → h'.get? b = some o) → h'.get? (s.heap.objs.size + 1) = some (seqObj "list" out c) → out.toList = M.map (fun q => Value.ref q.1) → M.Perm ks → M.Pairwise (fun q r => q.2 < r.2) →
      Q (.ref (s.heap.objs.size + 1)) { s with heap := h' }) : wpAny (model P w) A (call (.builtin "sorted") [.ref l]) Q E s := by
  have e1 := each_refs ks ks fun _ h => h
  generalize hvs : (ks.map fun p => Value.ref p.1) = vs at hl e1
  have vl : vs.length = ks.length := by rw [← hvs, List.length_map]
  have er : PySem.W.EachIs (fun v q => ∃ as, Reads (PySem.W.sortingHeap (PySem.W.copyHeap s.heap vs) (s.heap.objs.size + 1) vs) v (encP q) as) vs ks := e1.mono fun v q h => by
    rw [h.1]
    obtain ⟨as, r1, _⟩ := reads_row (P := P) (w := w) (L2.isT_keep (hk q h.2) fun b u e => PySem.W.sorting_copy_old (vs := vs) e)
    exact ⟨as, r1⟩
  have hal : PySem.W.AllAlike (ks.map encP) := PySem.W.AllAlike.of fun b b' => by unfold encP; simp only [PySem.W.alike]; exact PySem.W.alike_ints _ _
  have dep : ∀ d, d ∈ ks.map encP → A.in1.in1.units + d.depth < cLine := fun d hd => by
    obtain ⟨q, _, rfl⟩ := List.mem_map.mp hd
    have h1 := encP_depth q
    have h2 : A.in1.in1.units = A.units + 1 + 1 := rfl
    omega
  have hz : vs.length ≤ sizeLine := by rw [vl, sizeLine_eq]; omega
  refine PySem.W.sorted_vals hl (sorts_any (s := { s with heap := PySem.W.sortingHeap (PySem.W.copyHeap s.heap vs) (s.heap.objs.size + 1) vs }) (PySem.W.each_map (R := fun v d => ∃ as, Reads (PySem.W.sortingHeap (PySem.W.copyHeap s.heap vs) (s.heap.objs.size + 1) vs) v d as) encP er) hal
    (hne.elim (fun hne => .inl (.inl fun d hd => ?_)) fun short => .inr ⟨by rw [vl]; exact short, fun d hd => ?_⟩) dep) hz ?_
  · obtain ⟨q, hq, rfl⟩ := List.mem_map.mp hd
    unfold encP
    cases z : q.2 with
    | nil => exact absurd z (hne q hq)
    | cons x r => exact ⟨_, _, rfl⟩
  · obtain ⟨q, hq, rfl⟩ := List.mem_map.mp hd
    unfold encP
    exact fun e => by cases e
  · have eo := PySem.W.sortVals_data false e1 er hal
    obtain ⟨c, hc⟩ := sortedAll_at s.heap vs (PySem.W.sortVals (PySem.W.dataKind (PySem.W.sortingHeap (PySem.W.copyHeap s.heap vs) (s.heap.objs.size + 1) vs) (ks.map encP)) false vs vs).toArray
    generalize PySem.W.sortVals (PySem.W.dataKind (PySem.W.sortingHeap (PySem.W.copyHeap s.heap vs) (s.heap.objs.size + 1) vs) (ks.map encP)) false vs vs = out at eo hc
    have eout : out = (ks.mergeSort (PySem.W.dataLe false encP)).map fun q => Value.ref q.1 := by
      have go : ∀ (us : List Value) (l : List (Addr × List Int)), PySem.W.EachIs (fun v q => v = Value.ref q.1 ∧ q ∈ ks) us l → us = l.map fun q => Value.ref q.1 := by
        intro us l h
        induction h with
        | nil => rfl
        | cons h _ ih => rw [List.map_cons, ← ih, h.1]
      exact go _ _ eo
    have pS : (ks.mergeSort (PySem.W.dataLe false encP)).Perm ks := List.mergeSort_perm _ _
    have nS : ((ks.mergeSort (PySem.W.dataLe false encP)).map (·.2)).Nodup := (pS.map (·.2)).nodup_iff.mpr nd
    have ord : (ks.mergeSort (PySem.W.dataLe false encP)).Pairwise fun q r => q.2 < r.2 := by
      have z := PySem.W.sort_pairwise (le := PySem.W.dataLe false encP) (PySem.W.sortLe_total _ _ _) ks
      have n2 : (ks.mergeSort (PySem.W.dataLe false encP)).Pairwise fun q r => q.2 ≠ r.2 := List.pairwise_map.mp nS
      refine (z.and n2).imp fun {q r} h => ?_
      obtain ⟨h1, h2⟩ := h
      rw [encP_le] at h1
      exact list_lt_of_le (of_decide_eq_true h1) h2
    exact hQ _ out.toArray c _ (fun b o e => sortedAll_old e) hc (by rw [List.toList_toArray]; exact eout) pS ord
end
section
variable {X : Cx}
/-- sorted(list), tuples of ints, no two alike -/
def rSrtL (K : PySem.W.Frag) : List V → Hp → VK → Prop := fun vs H Q => ∃ (a : Addr) (ks : List (Addr × List Int)), vs = [V.ref a] ∧ SqL K H a (ks.map fun p => V.ref p.1) ∧ (∀ p ∈ ks, SqT K H p.1 (p.2.map V.int)) ∧ (ks.map (·.2)).Nodup ∧ ((∀ p ∈ ks, p.2 ≠ []) ∨ ks.length ≤ 1) ∧ ks.length < 64 ∧
  ∀ (M : List (Addr × List Int)) (p : Addr), M.Perm ks → M.Pairwise (fun q r => q.2 < r.2) → H p = none → Q (.ref p) (upd H p (.lst (M.map fun q => V.ref q.1)))
theorem cr_srtL (hu : X.A.units + 64 < cLine) : CallR X (.builtin "sorted") (rSrtL X.K) := by
  intro pins s σ H vs us Q I r h
  obtain ⟨a, ks, rfl, ha, hk, nd, hne, few, q⟩ := h
  obtain ⟨its, rv, hl, _⟩ := I.list ha
  rw [L2.Vals.ref1 r]
  have ei : its = ks.map fun p => Value.ref p.1 := L2.refs_of_vals rv
  subst ei
  refine call_sorted_rows (P := X.prog) (w := X.w) ks hl.isList (fun p hp => L2.Inv.isT I (hk p hp)) nd hne few hu fun h' out c M kept at' eo pm ord => ?_
  have fits : (M.map fun q => V.ref q.1).length ≤ sizeLine := by rw [List.length_map, pm.length_eq, sizeLine_eq]; omega
  have vals : Vals (M.map fun q => V.ref q.1) out.toList := by rw [eo]; exact L2.vals_of_refs M
  exact ⟨.ref _, upd H (s.heap.objs.size + 1) (.lst (M.map fun q => V.ref q.1)), I.laid (t' := s.toks) kept (Nat.le_succ _) ⟨fits, out.toList, c, vals, at'⟩, rfl, q M _ pm ord (I.hok.fresh (Nat.le_succ _))⟩
end
end NR

namespace NK
open PySem PySem.Spec PyProof.Rows L2
/-! ### the text -/
def topS (i : Nat) : Stmt := PySem.Challenge.pw_norowstray_k24_whole_inclusions.main.body.getD i (.Pass ⟨0, 0, 0, 0⟩)
abbrev p_values_at : Stmt := topS 1
abbrev p_parts_of : Stmt := topS 2
abbrev p_first_rows : Stmt := topS 4
abbrev p_connected_order : Stmt := topS 5
abbrev p_count_shared : Stmt := topS 6
abbrev p_some_made_row : Stmt := topS 7
abbrev p_first_made_row : Stmt := topS 8
abbrev p_chosen_rows : Stmt := topS 9
abbrev p_look_of : Stmt := topS 11
abbrev p_grouped : Stmt := topS 12
abbrev p_keeps : Stmt := topS 14
abbrev p_least_breach : Stmt := topS 15
abbrev p_settled_breach : Stmt := topS 16
abbrev p_inclusion_breach : Stmt := topS 17
abbrev p_joined_breach : Stmt := topS 18
abbrev p_projection : Stmt := topS 20
abbrev sDraws : Stmt := topS 22
abbrev sTake : Stmt := topS 23
abbrev sCell : Stmt := topS 24
abbrev sSame : Stmt := topS 25
abbrev sShuf : Stmt := topS 26
abbrev sCols : Stmt := topS 27
abbrev sScheme : Stmt := topS 28
abbrev sParts : Stmt := topS 29
abbrev sIncl : Stmt := topS 30
abbrev sDep : Stmt := topS 31
abbrev sOrder : Stmt := topS 32
abbrev sBook : Stmt := topS 33
abbrev sWide : Stmt := topS 34
abbrev sNarrow : Stmt := topS 35
abbrev sRows : Stmt := topS 36
abbrev sStore : Stmt := topS 37
abbrev sNeeded : Stmt := topS 38
abbrev sSome : Stmt := topS 39
abbrev sAsc : Stmt := topS 40
abbrev sLaw : Stmt := topS 41
theorem scDraws : FnScope ["script", "many", "cells", "rest", "draws", "k", "at", "once", "cell"] ["script", "many"] (defScope sDraws) := ⟨rfl, rfl, rfl, by decide +kernel, rfl, by decide +kernel, by decide +kernel⟩
theorem scTake : FnScope ["draws", "many"] ["draws", "many"] (defScope sTake) := ⟨rfl, rfl, rfl, by decide +kernel, rfl, by decide +kernel, by decide +kernel⟩
theorem scCell : FnScope ["script", "draws"] ["script", "draws"] (defScope sCell) := ⟨rfl, rfl, rfl, by decide +kernel, rfl, by decide +kernel, by decide +kernel⟩

section
variable {P : Program} {w : World} {K : PySem.W.Frag} {mg : Str → Option Value} {base : Heap}
/-! ### a draw -/
def spTake : Sp := fun vs H Q _ => ∃ (d : Addr) (m : Int), vs = [.ref d, .int m] ∧ 0 < m ∧ Dr H d ∧ ∀ H' (i : Int), Go d H H' → 0 ≤ i → i < m → Q (.int i) H'
theorem ok_take {f : Addr} {fd : FuncData} {k : Nat} (F : Fun K "_law_take" "_law_take" sTake f fd) (ml : mg "len" = none) (mi : mg "int" = none) : FnOk P w K mg base CX0 (k + 1) f fd ["draws", "many"] spTake := by
  refine F.ok scTake (fun vs H Q E h => ?_) (fun cdv A outer s H vs Q E hr h => ?_)
  · obtain ⟨d, m, rfl, _⟩ := h
    rfl
  · obtain ⟨d, m, rfl, hm, D, q⟩ := h
    obtain ⟨ds, e, hl⟩ := id D
    refine ⟨_, pss_cons (ps_if (pt_cmpR op_eq (pe_callB call_len_seq (by rfl) ml PySem.boot_len (pa_cons (pv 0) pa_nil)) pe_int (nomark _)) (pss_one (ps_ret pe_int)) pss_nil)
      (pss_one (ps_ret (pe_op op_mod (pe_callTy call_int1 (by rfl) mi boot_int (pa_cons (pe_bm0 PySem.F.plainAttrs_list PySem.F.slot_list_pop PySem.F.type_list_pop mt_pop (pv 0)) pa_nil)) (pv 1)))), ?_⟩
    refine ⟨.ref d, rfl, d, ds.map V.int, rfl, .inl (SqL.of e), rfl, _, rfl, ite2 (fun z => ?_) (fun z => ?_)⟩
    · exact q H 0 (.refl D) (Int.le_refl _) hm
    · have hn : ds.length ≠ 0 := fun y => z (by rw [List.length_map, y]; exact decide_eq_true rfl)
      have h1 : ds.length - 1 < ds.length := by omega
      refine ⟨.ref d, rfl, .inl ⟨rfl, _, SqL.of e⟩, d, ds.map V.int, .int ds[ds.length - 1], rfl, rfl, e, ?_, .inl ⟨_, rfl, .int m, rfl, _, _, rfl, rfl, hm, ?_⟩⟩
      · rw [List.length_map, List.getElem?_map, List.getElem?_eq_getElem h1]
        rfl
      · refine q _ _ ⟨.at, ds.dropLast, by rw [upd_same, List.map_dropLast], by rw [List.length_dropLast]; omega⟩ (Int.emod_nonneg _ (by omega)) (Int.emod_lt_of_pos _ hm)

/-! ### a cell of the script -/
def spCell (K : PySem.W.Frag) : Sp := fun vs H Q _ => ∃ (a d : Addr) (ns : List Int), vs = [.ref a, .ref d] ∧ Scr K H d a (ns.map V.int) ∧ Dr H d ∧ ∀ H' (i : Int), Go d H H' → Q (.int i) H'
theorem ok_cell {f fT : Addr} {fd fdT : FuncData} (F : Fun K "_law_cell" "_law_cell" sCell f fd) (FT : Fun K "_law_take" "_law_take" sTake fT fdT) (bT : Binds K fdT ["draws", "many"] []) (gT : mg "_law_take" = some (.ref fT)) (ml : mg "len" = none) (mi : mg "int" = none) :
    FnOk P w K mg base CX0 2 f fd ["script", "draws"] (spCell K) := by
  have GT : FnOk P w K mg base CX0 1 fT fdT ["draws", "many"] spTake := ok_take FT ml mi
  refine F.ok scCell (fun vs H Q E h => ?_) (fun cdv A outer s H vs Q E hr h => ?_)
  · obtain ⟨a, d, ns, rfl, _⟩ := h
    rfl
  · obtain ⟨a, d, ns, rfl, hS, D, q⟩ := h
    refine ⟨_, pss_cons (ps_if (pt_cmpR op_eq (pe_callB call_len_seq (by rfl) ml PySem.boot_len (pa_cons (pv 0) pa_nil)) pe_int (nomark _)) (pss_one (ps_ret pe_int)) pss_nil)
      (pss_one (ps_ret (pe_callTy call_int1 (by rfl) mi boot_int (pa_cons (pe_ix ix_list (pv 0) (pe_call GT hr (by rfl) gT FT.kp bT .nil pass0 (pa_cons (pv 1) (pa_cons (pe_callB call_len_seq (by rfl) ml PySem.boot_len (pa_cons (pv 0) pa_nil)) pa_nil))) (fun _ _ => rfl)) pa_nil)))), ?_⟩
    refine ⟨.ref a, rfl, a, ns.map V.int, rfl, .inl hS.seq, rfl, _, rfl, ite2 (fun z => ?_) (fun z => ?_)⟩
    · exact q H 0 (.refl D)
    · have hn : ns.length ≠ 0 := fun y => z (by rw [List.length_map, y]; exact decide_eq_true rfl)
      refine ⟨.ref a, rfl, .ref d, rfl, .ref a, rfl, a, ns.map V.int, rfl, .inl hS.seq, d, _, rfl, by rw [List.length_map]; omega, D, fun H' i g h0 h1 => ?_⟩
      rw [List.length_map] at h1
      have h2 : i.toNat < ns.length := by omega
      refine ⟨a, ns.map V.int, i, .int ns[i.toNat], rfl, rfl, (hS.go g.kb).seq, at_of (by omega : i = (i.toNat : Int)) ?_, .inl ⟨_, rfl, q H' _ g⟩⟩
      rw [List.getElem?_map, List.getElem?_eq_getElem h2]
      rfl

/-! ### all draws -/
def spDraws (K : PySem.W.Frag) : Sp := fun vs H Q _ => ∃ (a : Addr) (ns : List Int) (m : Int), vs = [.ref a, .int m] ∧ SqL K H a (ns.map V.int) ∧ ns.length ≤ 63 ∧ 0 ≤ m ∧ m ≤ 2000 ∧ ∀ H' d, Same H H' → H d = none → Dr H' d → Q (.ref d) H'
theorem ok_draws {f : Addr} {fd : FuncData} {k : Nat} (F : Fun K "_law_draws" "_law_draws" sDraws f fd) (ml : mg "len" = none) (mi : mg "int" = none) (ms : mg "list" = none) (mr : mg "range" = none) : FnOk P w K mg base CX0 (k + 1) f fd ["script", "many"] (spDraws K) := by
  refine F.ok scDraws (fun vs H Q E h => ?_) (fun cdv A outer s H vs Q E hr h => ?_)
  · obtain ⟨a, ns, m, rfl, _⟩ := h
    rfl
  · obtain ⟨a, ns, m, rfl, hS, hlen, hm0, hm, q⟩ := h
    refine ⟨_, pss_cons (ps_setLc (i := 2) (own := [("cell", 8)]) (g := gName 8) (by rfl) scDraws.nd rfl rfl (sw_true rfl rfl rfl (by decide +kernel)) (pi_list (pv 0))
          (blkOk_by (N := ["script", "many", "cells", "rest", "draws", "k", "at", "once", "cell"]) (sc := defScope sDraws) (by decide +kernel)) (fun _ _ _ _ _ => pg_name (i := 8) scDraws.nd rfl (Or.inl rfl)) (fun _ _ _ _ _ => pts_nil)
          (fun _ _ _ _ _ => pe_callTy call_int1 (by rfl) mi boot_int (pa_cons (pv 8) pa_nil)))
      (C8.pss_cut (ps_if (pt_cmpR op_eq (pe_callB call_len_seq (by rfl) ml PySem.boot_len (pa_cons (pv 2) pa_nil)) pe_int (nomark _))
          (pss_one (ps_expr (pe_bm PySem.F.plainAttrs_list PySem.F.slot_list_append PySem.F.type_list_append mt_append (pv 2) (pa_cons pe_int pa_nil)))) pss_nil)
      (pss_cons (ps_set (i := 3) scDraws.nd rfl (.inl rfl) (pe_callTy call_list_of (by rfl) ms boot_list (pa_cons (pv 2) pa_nil)))
      (pss_cons (ps_set (i := 4) scDraws.nd rfl (.inl rfl) (pe_lst pa_nil))
      (pss_cons (ps_for PassesOwn.never rfl (pi_range1 rfl mr (pa_cons (pv 1) pa_nil)) (pg_name (i := 5) scDraws.nd rfl (.inl rfl))
        (pss_cons (ps_set (i := 6) scDraws.nd rfl (.inl rfl) (pe_op op_mod (pv 5) (pe_callB call_len_seq (by rfl) ml PySem.boot_len (pa_cons (pv 2) pa_nil))))
        (pss_one (ps_if (pt_cmpR op_ge (pe_ix ix_list (pv 2) (pv 6) (fun _ _ => rfl)) (pe_op op_pow pe_int pe_int) (nomark _))
          (pss_cons (ps_expr (pe_bm PySem.F.plainAttrs_list PySem.F.slot_list_append PySem.F.type_list_append mt_append (pv 4) (pa_cons (pe_op op_mod (pe_callTy call_int1 (by rfl) mi boot_int (pa_cons (pe_ix ix_list (pv 3) (pv 6) (fun _ _ => rfl)) pa_nil)) pe_int) pa_nil)))
          (pss_one (ps_asg (pe_op op_fdiv (pe_ix ix_list (pv 3) (pv 6) (fun _ _ => rfl)) pe_int) (pg_sub (pv 3) (pv 6) set_list))))
          (pss_cons (ps_set (i := 7) scDraws.nd rfl (.inl rfl) (pe_op op_mod (pe_callTy call_int1 (by rfl) mi boot_int (pa_cons (pe_op op_add (pe_op op_add (pe_op op_mul (pe_ix ix_list (pv 2) (pv 6) (fun _ _ => rfl)) pe_int) (pe_op op_mul (pv 5) pe_int)) pe_int) pa_nil)) pe_int))
          (pss_one (ps_expr (pe_bm PySem.F.plainAttrs_list PySem.F.slot_list_append PySem.F.type_list_append mt_append (pv 4)
            (pa_cons (pe_op op_mod (pe_callTy call_int1 (by rfl) mi boot_int (pa_cons (pe_op op_add (pe_op op_add (pe_op op_mul (pv 7) (pv 7)) (pe_op op_mul pe_int (pv 7))) (pv 5)) pa_nil)) pe_int) pa_nil)))))))))
      (pss_cons (ps_expr (pe_bm0 PySem.F.plainAttrs_list PySem.F.slot_list_reverse PySem.F.type_list_reverse mt_reverse (pv 4)))
      (pss_one (ps_ret (pv 4)))))))), ?_⟩
    -- cells
    refine ⟨.ref a, rfl, a, rfl, ⟨_, hS⟩, fun C nC => lc_list (K := K) (a := a) (xs := ns.map V.int) (fun i H' => Same H H' ∧ ∃ zs : List Int, H' C = some (.lst (zs.map V.int)) ∧ zs.length = i)
      ⟨same_upd nC, [], upd_same, rfl⟩ (fun i H' _ h => h.1.seq hS) (fun i x H' hx hP => ?_) (fun H1 hP => ?_)⟩
    · obtain ⟨sm, zs, eC, ez⟩ := hP
      have hi : i < ns.length := by
        obtain ⟨h1, _⟩ := List.getElem?_eq_some_iff.mp hx
        rw [List.length_map] at h1
        exact h1
      have ex : x = .int ns[i] := by
        rw [List.getElem?_map, List.getElem?_eq_getElem hi] at hx
        exact (Option.some.inj hx).symm
      subst ex
      refine ⟨rfl, yesT ?_⟩
      refine ⟨.int ns[i], rfl, .inl ⟨_, rfl, zs.map V.int, eC, ?_, ?_⟩⟩
      · rw [List.length_map, ez]
        exact small1000 (by omega)
      · exact ⟨fun b o e => by rw [upd_ne (ne_of_none e nC)]; exact sm b o e, zs ++ [ns[i]], by rw [upd_same, List.map_append]; rfl, by rw [List.length_append, ez]; rfl⟩
    · obtain ⟨sm1, zs, eC, ez⟩ := hP
      rw [List.length_map] at ez
      -- not empty
      refine ⟨fun σ H2 => σ = [some (.ref a), some (.int m), some (.ref C), none, none, none, none, none, none] ∧ Same H H2 ∧ ∃ cs : List Int, H2 C = some (.lst (cs.map V.int)) ∧ 0 < cs.length ∧ cs.length ≤ 63, ?_, fun σ H2 hM => ?_⟩
      · refine ⟨.ref C, rfl, C, _, rfl, .inl (SqL.of eC), rfl, _, rfl, ite2 (fun z => ?_) (fun z => ?_)⟩
        · refine ⟨.ref C, rfl, .inl ⟨rfl, _, SqL.of eC⟩, C, _, _, rfl, rfl, eC, ?_, ?_⟩
          · rw [List.length_map]
            exact small1000 (by omega)
          · refine ⟨rfl, fun b o e => by rw [upd_ne (ne_of_none e nC)]; exact sm1 b o e, zs ++ [0], by rw [upd_same, List.map_append]; rfl, by rw [List.length_append]; exact Nat.succ_pos _, ?_⟩
            have e0 : zs.length = 0 := by
              have y := of_decide_eq_true z
              have y2 := V.int.inj y
              rw [List.length_map] at y2
              omega
            rw [List.length_append, e0]
            decide
        · refine ⟨rfl, sm1, zs, eC, ?_, by omega⟩
          rcases Nat.eq_zero_or_pos zs.length with y | y
          · exact absurd (by rw [List.length_map, y]; exact decide_eq_true rfl) z
          · exact y
      · obtain ⟨rfl, sm2, cs, eC2, c0, c1⟩ := hM
        -- rest, draws
        refine ⟨.ref C, rfl, C, _, rfl, .inl (SqL.of eC2), fun R nR => ⟨Nat.zero_le _, fun D nD => ?_⟩⟩
        have nCR : C ≠ R := ne_of_none eC2 nR
        have nDR : D ≠ R := fun z => by
          rw [z, upd_same] at nD
          cases nD
        have nCD : C ≠ D := ne_of_none (by rw [upd_ne nCR]; exact eC2) nD
        have nRH : H R = none := sm2.free nR
        have nDH : H D = none := sm2.free (by rw [upd_ne nDR] at nD; exact nD)
        have eCD : (upd (upd H2 R (.lst (cs.map V.int))) D (.lst [])) C = some (.lst (cs.map V.int)) := by
          rw [upd_ne nCD, upd_ne nCR]
          exact eC2
        refine ⟨.int m, rfl, m, rfl, by omega, by omega, for_range (n := m.toNat) (fun i σ H3 => ∃ y5 y6 y7, σ = [some (.ref a), some (.int m), some (.ref C), some (.ref R), some (.ref D), y5, y6, y7, none] ∧ Same H H3 ∧
            H3 C = some (.lst (cs.map V.int)) ∧ (∃ rs : List Int, H3 R = some (.lst (rs.map V.int)) ∧ rs.length = cs.length) ∧ ∃ ds : List Int, H3 D = some (.lst (ds.map V.int)) ∧ ds.length = i)
          ⟨none, none, none, rfl, Same.put (Same.put sm2 nRH) nDH, eCD, ⟨cs, by rw [upd_ne nDR.symm, upd_same], rfl⟩, [], by rw [upd_same]; rfl, rfl⟩ (fun i σ H3 hi hP => ?_) (fun σ H3 hP => ?_)⟩
        · obtain ⟨y5, y6, y7, rfl, sm3, eC3, ⟨rs, eR, hrs⟩, ds, eD, hds⟩ := hP
          have hc : (0 : Int) < ((cs.map V.int).length : Nat) := by
            rw [List.length_map]
            omega
          -- at
          refine ⟨.int (0 + (i : Int)), rfl, .ref C, rfl, C, _, rfl, .inl (SqL.of eC3), _, _, rfl, rfl, hc, ?_⟩
          have ha0 := Int.emod_nonneg (0 + (i : Int)) (show (((cs.map V.int).length : Nat) : Int) ≠ 0 by omega)
          have ha1 := Int.emod_lt_of_pos (0 + (i : Int)) hc
          dsimp only
          generalize (0 + (i : Int)) % (((cs.map V.int).length : Nat) : Int) = z at ha0 ha1 ⊢
          rw [List.length_map] at ha1
          obtain ⟨j, rfl⟩ := Int.eq_ofNat_of_zero_le ha0
          have hj : j < cs.length := by omega
          have hj2 : j < rs.length := by omega
          have gC : (cs.map V.int)[j]? = some (.int cs[j]) := by
            rw [List.getElem?_map, List.getElem?_eq_getElem hj]
            rfl
          have gR : (rs.map V.int)[j]? = some (.int rs[j]) := by
            rw [List.getElem?_map, List.getElem?_eq_getElem hj2]
            rfl
          have hz : (ds.map V.int).length < sizeLine := by
            rw [List.length_map, hds]
            exact Nat.lt_of_lt_of_le (show i < 2000 by omega) (by decide)
          have nRD : R ≠ D := nDR.symm
          refine ⟨.ref C, rfl, .int (j : Int), rfl, C, _, _, .int cs[j], rfl, rfl, SqL.of eC3, atI_nat gC, 10, 18, rfl, rfl, ⟨by decide, by decide, by decide⟩, _, _, rfl, rfl, _, rfl, ite2 (fun _ => ?_) (fun hlt => ?_)⟩
          · refine ⟨.ref D, rfl, .inl ⟨rfl, _, SqL.of eD⟩, .ref R, rfl, .int (j : Int), rfl, R, _, _, .int rs[j], rfl, rfl, SqL.of eR, atI_nat gR, .inl ⟨_, rfl, _, _, rfl, rfl, (by show (0 : Int) < 1000; decide), D, _, _, rfl, rfl, eD, hz, ?_⟩⟩
            have eR2 : (upd H3 D (.lst (ds.map V.int ++ [V.int (rs[j] % 1000)]))) R = some (.lst (rs.map V.int)) := by
              rw [upd_ne nRD]
              exact eR
            refine ⟨.ref R, rfl, .int (j : Int), rfl, R, _, _, .int rs[j], rfl, rfl, SqL.of eR2, atI_nat gR, _, _, rfl, rfl, ⟨by decide, by decide⟩, .ref R, rfl, .int (j : Int), rfl, R, _, _, j, rfl, rfl, eR2, ?_, ?_⟩
            · unfold ixN
              rw [if_pos (by omega), if_pos (by rw [List.length_map]; omega)]
              rfl
            · refine ⟨_, _, _, rfl, Same.put (Same.put sm3 nDH) nRH, ?_, ⟨rs.set j (rs[j] / 1000), ?_, by rw [List.length_set]; exact hrs⟩, ds ++ [rs[j] % 1000], ?_, by rw [List.length_append, hds]; rfl⟩
              · rw [upd_ne nCR, upd_ne nCD]
                exact eC3
              · rw [upd_same, List.map_set]
              · rw [upd_ne nDR, upd_same, List.map_append]
                rfl
          · refine ⟨.ref C, rfl, .int (j : Int), rfl, C, _, _, .int cs[j], rfl, rfl, SqL.of eC3, atI_nat gC, _, _, rfl, rfl, .inr ⟨by decide, by decide⟩, .int (0 + (i : Int)), rfl, _, _, rfl, rfl, .inr ⟨by decide, by decide⟩, _, _, rfl, rfl, _, _, rfl, rfl, .inl ⟨_, rfl, _, _, rfl, rfl, (by show (0 : Int) < 2147483647; decide), ?_⟩⟩
            have ho0 := Int.emod_nonneg (cs[j] * 48271 + (0 + (i : Int)) * 69621 + 11) (show (2147483647 : Int) ≠ 0 by decide)
            have ho1 := Int.emod_lt_of_pos (cs[j] * 48271 + (0 + (i : Int)) * 69621 + 11) (show (0 : Int) < 2147483647 by decide)
            dsimp only
            generalize (cs[j] * 48271 + (0 + (i : Int)) * 69621 + 11) % 2147483647 = o at ho0 ho1 ⊢
            refine ⟨.ref D, rfl, .inl ⟨rfl, _, SqL.of eD⟩, .int o, rfl, .int o, rfl, _, _, rfl, rfl, .inl ⟨by omega, by omega⟩, .int o, rfl, _, _, rfl, rfl, .inl ⟨by decide, by decide⟩, _, _, rfl, rfl, .int (0 + (i : Int)), rfl, _, _, rfl, rfl, .inl ⟨_, rfl, _, _, rfl, rfl, (by show (0 : Int) < 1000003; decide), D, _, _, rfl, rfl, eD, hz, ?_⟩⟩
            refine ⟨_, _, _, rfl, Same.put sm3 nDH, ?_, ⟨rs, ?_, hrs⟩, ds ++ [(o * o + 3 * o + (0 + (i : Int))) % 1000003], ?_, by rw [List.length_append, hds]; rfl⟩
            · rw [upd_ne nCD]
              exact eC3
            · rw [upd_ne nRD]
              exact eR
            · rw [upd_same, List.map_append]
              rfl
        · obtain ⟨y5, y6, y7, rfl, sm3, eC3, _, ds, eD, hds⟩ := hP
          refine ⟨.ref D, rfl, .inl ⟨rfl, _, SqL.of eD⟩, D, _, rfl, rfl, eD, .ref D, rfl, q _ D (Same.put sm3 nDH) nDH ⟨ds.reverse, by rw [upd_same, List.map_reverse], by rw [List.length_reverse]; omega⟩⟩
end

abbrev nCols : List Str := ["draws", "width", "share", "column"]
abbrev nScheme : List Str := ["draws", "many", "widths", "table"]
theorem scShuf : FnScope ["draws", "row", "found", "item"] ["draws", "row"] (defScope sShuf) := ⟨rfl, rfl, rfl, by decide +kernel, rfl, by decide +kernel, by decide +kernel⟩
theorem scCols : FnScope nCols ["draws", "width"] (defScope sCols) := ⟨rfl, rfl, rfl, by decide +kernel, rfl, by decide +kernel, by decide +kernel⟩
theorem scScheme : FnScope nScheme ["draws"] (defScope sScheme) := ⟨rfl, rfl, rfl, by decide +kernel, rfl, by decide +kernel, by decide +kernel⟩

/-- the readings, named (within a comprehension the context is another one, its written part the same) -/
abbrev rLenS (K : PySem.W.Frag) : List V → Hp → VK → Prop := fun xs H Q => ∃ p ys, xs = [.ref p] ∧ (SqL K H p ys ∨ SqT K H p ys) ∧ Q (.int ys.length) H
abbrev rTupOf (K : PySem.W.Frag) : List V → Hp → VK → Prop := fun xs H Q => ∃ p ys, xs = [.ref p] ∧ ((SqL K H p ys ∧ ∀ l, H l = none → Q (.ref l) (upd H l (.tup ys))) ∨ (SqT K H p ys ∧ Q (.ref p) H))
/-- what the helpers of a law stand on: the draw's def, and the built-ins by name -/
structure Hlp (K : PySem.W.Frag) (mg : Str → Option Value) (fT : Addr) (fdT : FuncData) : Prop where
  FT : Fun K "_law_take" "_law_take" sTake fT fdT
  bT : Binds K fdT ["draws", "many"] []
  gT : mg "_law_take" = some (.ref fT)
  len : mg "len" = none
  int : mg "int" = none
  range : mg "range" = none
  tuple : mg "tuple" = none
  list : mg "list" = none
  sorted : mg "sorted" = none
  min : mg "min" = none

section
variable {P : Program} {w : World} {K : PySem.W.Frag} {mg : Str → Option Value} {base : Heap}
theorem take_in {l : List Int} {H : Hp} {D : Addr} {i : Int} (e : H D = some (.lst (l.map V.int))) (h0 : 0 ≤ i) (h1 : i < (l.length : Int)) : ∃ (x : Int), x ∈ l ∧ atI (l.map V.int) i = some (.int x) := by
  have h2 : i.toNat < l.length := by omega
  refine ⟨l[i.toNat], List.getElem_mem h2, at_of (by omega : i = (i.toNat : Int)) ?_⟩
  rw [List.getElem?_map, List.getElem?_eq_getElem h2]
  rfl
/-! ### a set of columns -/
def Cols (w : Int) (cs : List Int) : Prop := cs.Pairwise (· < ·) ∧ (∀ c ∈ cs, 0 ≤ c ∧ c < w) ∧ (cs.length : Int) ≤ w
def spCols : Sp := fun vs H Q _ => ∃ (d : Addr) (n : Int), vs = [.ref d, .int n] ∧ 0 ≤ n ∧ n ≤ 20 ∧ Dr H d ∧
  ∀ H' p (cs : List Int), Go d H H' → H p = none → H' p = some (.tup (cs.map V.int)) → Cols n cs → Q (.ref p) H'
theorem ok_cols {f fT : Addr} {fd fdT : FuncData} (T : Hlp K mg fT fdT) (F : Fun K "_law_columns" "_law_columns" sCols f fd) : FnOk P w K mg base CX0 2 f fd ["draws", "width"] spCols := by
  have GT : FnOk P w K mg base CX0 1 fT fdT ["draws", "many"] spTake := ok_take T.FT T.len T.int
  refine F.ok scCols (fun vs H Q E h => ?_) (fun cdv A outer s H vs Q E hr h => ?_)
  · obtain ⟨d, n, rfl, _⟩ := h
    rfl
  · obtain ⟨d, n, rfl, h0, h1, D, q⟩ := h
    refine ⟨_, pss_cons (ps_set (i := 2) scCols.nd rfl (.inr rfl) (pe_ix ix_list (pe_lst (pa_cons pe_int (pa_cons pe_int (pa_cons pe_int pa_nil)))) (pe_call GT hr (by rfl) T.gT T.FT.kp T.bT .nil pass0 (pa_cons (pv 0) (pa_cons pe_int pa_nil))) (fun _ _ => rfl)))
      (pss_one (ps_ret (pe_callTy call_tuple_of (by rfl) T.tuple boot_tuple (pa_cons
        (pe_lc (own := [("column", 3)]) (g := gName 3) (by rfl) scCols.nd (pi_range1 rfl T.range (pa_cons (pv 1) pa_nil)) (blkOk_by (N := nCols) (sc := defScope sCols) (by decide +kernel))
          (fun _ _ _ _ _ => pg_name (i := 3) scCols.nd rfl (Or.inl rfl))
          (fun _ _ _ _ _ => pts_one (pt_cmpR op_lt (pe_call GT hr (by rfl) T.gT T.FT.kp T.bT .nil pass0 (pa_cons (pv 0) (pa_cons pe_int pa_nil))) (pv 2) (nomark _)))
          (fun _ _ _ _ _ => pv 3)) pa_nil)))), ?_⟩
    -- share
    refine ⟨by show 3 ≤ sizeLine; decide, fun l nl => ?_⟩
    have g1 : Go d H (upd H l (.lst [.int 2, .int 3, .int 4])) := (Go.refl D).new nl
    refine ⟨.ref d, rfl, d, 3, rfl, by decide, g1.dr, fun H2 z g2 z0 z1 => ?_⟩
    have el : H2 l = some (.lst (([2, 3, 4] : List Int).map V.int)) := g2.keep (by rw [upd_same]; rfl) (D.ne nl).symm
    obtain ⟨sh, _, es⟩ := take_in el z0 (by exact z1)
    refine ⟨l, _, z, .int sh, rfl, rfl, SqL.of el, es, ?_⟩
    have g12 := g1.trans g2
    -- the comprehension
    refine ⟨.int n, rfl, n, rfl, by omega, by omega, fun C nC => lc_range (lo := 0) (n := n.toNat) (fun i H3 => Go d H H3 ∧ ∃ cs : List Int, H3 C = some (.lst (cs.map V.int)) ∧ Cols i cs)
      ⟨g12.new nC, [], by rw [upd_same]; rfl, .nil, fun c hc => (by cases hc), (by simp)⟩ (fun i H3 hi hP => ?_) (fun H3 hP => ?_)⟩
    · obtain ⟨g3, cs, eC, hc⟩ := hP
      have nCd : C ≠ d := (g12.dr.ne nC).symm
      have nCH : H C = none := g12.free nC
      refine ⟨rfl, .ref d, rfl, d, 6, rfl, by decide, g3.dr, fun H4 z g4 z0 z1 => ?_⟩
      have eC4 : H4 C = some (.lst (cs.map V.int)) := g4.keep eC nCd
      refine ⟨.int sh, rfl, _, _, rfl, rfl, _, rfl, ite2 (fun _ => ?_) (fun _ => ?_)⟩
      · refine ⟨.int (0 + (i : Int)), rfl, cs.map V.int, eC4, ?_, (g3.trans g4).put nCH nCd.symm, cs ++ [0 + (i : Int)], by rw [upd_same, List.map_append]; rfl, ?_⟩
        · rw [List.length_map]
          exact small1000 (by have := hc.2.2; omega)
        · refine ⟨List.pairwise_append.mpr ⟨hc.1, List.pairwise_singleton .., fun x hx y hy => ?_⟩, fun c h => ?_, ?_⟩
          · rw [List.mem_singleton.mp hy]
            have := hc.2.1 x hx
            omega
          · rcases List.mem_append.mp h with h | h
            · have := hc.2.1 c h
              omega
            · rw [List.mem_singleton.mp h]
              omega
          · rw [List.length_append]
            have := hc.2.2
            show ((cs.length + 1 : Nat) : Int) ≤ _
            omega
      · exact ⟨g3.trans g4, cs, eC4, hc.1, fun c h => by have := hc.2.1 c h; omega, by have := hc.2.2; omega⟩
    · obtain ⟨g3, cs, eC, hc⟩ := hP
      refine ⟨C, _, rfl, .inl ⟨SqL.of eC, fun p np => ?_⟩⟩
      have en : ((n.toNat : Nat) : Int) = n := by omega
      rw [en] at hc
      exact q _ p cs (g3.new np) (g3.free np) upd_same hc
/-! ### a scheme -/
def Widths (b : Int) (ws : List Int) : Prop := 1 ≤ ws.length ∧ ws.length ≤ 12 ∧ ∀ x ∈ ws, 1 ≤ x ∧ x ≤ b
def spScheme : Sp := fun vs H Q _ => ∃ (d : Addr), vs = [.ref d] ∧ Dr H d ∧
  ∀ H' p (ws : List Int), Go d H H' → H p = none → H' p = some (.tup (ws.map V.int)) → Widths 7 ws → ws.length ≤ 6 → Q (.ref p) H'
theorem ok_scheme {f fT : Addr} {fd fdT : FuncData} (T : Hlp K mg fT fdT) (F : Fun K "_law_scheme" "_law_scheme" sScheme f fd) : FnOk P w K mg base CX0 2 f fd ["draws"] spScheme := by
  have GT : FnOk P w K mg base CX0 1 fT fdT ["draws", "many"] spTake := ok_take T.FT T.len T.int
  refine F.ok scScheme (fun vs H Q E h => ?_) (fun cdv A outer s H vs Q E hr h => ?_)
  · obtain ⟨d, rfl, _⟩ := h
    rfl
  · obtain ⟨d, rfl, D, q⟩ := h
    refine ⟨_, pss_cons (ps_set (i := 1) scScheme.nd rfl (.inl rfl) (pe_ix ix_list (pe_lst (pa_cons pe_int (pa_cons pe_int (pa_cons pe_int (pa_cons pe_int pa_nil))))) (pe_call GT hr (by rfl) T.gT T.FT.kp T.bT .nil pass0 (pa_cons (pv 0) (pa_cons pe_int pa_nil))) (fun _ _ => rfl)))
      (pss_cons (ps_set (i := 2) scScheme.nd rfl (.inr rfl) (pe_lst (pa_cons pe_int (pa_cons pe_int (pa_cons pe_int (pa_cons pe_int (pa_cons pe_int (pa_cons pe_int pa_nil))))))))
      (C8.pss_cut (ps_if (pt_cmpR op_eq (pe_call GT hr (by rfl) T.gT T.FT.kp T.bT .nil pass0 (pa_cons (pv 0) (pa_cons pe_int pa_nil))) pe_int (nomark _))
          (pss_cons (ps_set (i := 1) scScheme.nd rfl (.inl rfl) pe_int) (pss_one (ps_set (i := 2) scScheme.nd rfl (.inr rfl) (pe_lst (pa_cons pe_int (pa_cons pe_int (pa_cons pe_int (pa_cons pe_int (pa_cons pe_int (pa_cons pe_int pa_nil)))))))))) pss_nil)
      (pss_one (ps_ret (pe_callTy call_tuple_of (by rfl) T.tuple boot_tuple (pa_cons
        (pe_lc (own := [("table", 3)]) (g := gName 3) (by rfl) scScheme.nd (pi_range1 rfl T.range (pa_cons (pv 1) pa_nil)) (blkOk_by (N := nScheme) (sc := defScope sScheme) (by decide +kernel))
          (fun _ _ _ _ _ => pg_name (i := 3) scScheme.nd rfl (Or.inl rfl)) (fun _ _ _ _ _ => pts_nil)
          (fun _ _ _ _ _ => pe_ix (r := rIxL K) ix_list (pv 2) (pe_call GT hr (by rfl) T.gT T.FT.kp T.bT .nil pass0 (pa_cons (pv 0) (pa_cons pe_int pa_nil))) (fun _ _ => rfl))) pa_nil)))))), ?_⟩
    -- many
    refine ⟨by show 4 ≤ sizeLine; decide, fun l nl => ?_⟩
    have g1 : Go d H (upd H l (.lst [.int 1, .int 2, .int 2, .int 3])) := (Go.refl D).new nl
    refine ⟨.ref d, rfl, d, 4, rfl, by decide, g1.dr, fun H2 z g2 z0 z1 => ?_⟩
    have el : H2 l = some (.lst (([1, 2, 2, 3] : List Int).map V.int)) := g2.keep (by rw [upd_same]; rfl) (D.ne nl).symm
    obtain ⟨m, hm, es⟩ := take_in el z0 (by exact z1)
    refine ⟨l, _, z, .int m, rfl, rfl, SqL.of el, es, ?_⟩
    have g12 := g1.trans g2
    have hm2 : 1 ≤ m ∧ m ≤ 6 := (show ∀ m ∈ ([1, 2, 2, 3] : List Int), 1 ≤ m ∧ m ≤ 6 by decide) m hm
    -- widths
    refine ⟨by show 6 ≤ sizeLine; decide, fun W nW => ?_⟩
    have g3 := g12.new (o := .lst (([3, 2, 4, 3, 1, 3] : List Int).map V.int)) nW
    refine ⟨fun σ H4 => ∃ (m : Int) (W : Addr) (ws : List Int), σ = [some (.ref d), some (.int m), some (.ref W), none] ∧ 1 ≤ m ∧ m ≤ 6 ∧ Go d H H4 ∧ H4 W = some (.lst (ws.map V.int)) ∧ W ≠ d ∧ ws.length = 6 ∧ ∀ x ∈ ws, 1 ≤ x ∧ x ≤ 7, ?_, fun σ H4 hM => ?_⟩
    · refine ⟨.ref d, rfl, d, 12, rfl, by decide, g3.dr, fun H4 z g4 _ _ => ⟨rfl, _, rfl, ite2 (fun _ => ?_) (fun _ => ?_)⟩⟩
      · refine ⟨by show 6 ≤ sizeLine; decide, fun W2 nW2 => ?_⟩
        have g34 := g3.trans g4
        refine ⟨6, W2, [7, 5, 3, 1, 2, 6], rfl, by decide, by decide, g34.new nW2, by rw [upd_same]; rfl, (g34.dr.ne nW2).symm, rfl, by decide⟩
      · exact ⟨m, W, [3, 2, 4, 3, 1, 3], rfl, hm2.1, hm2.2, g3.trans g4, g4.keep (by rw [upd_same]; rfl) (g12.dr.ne nW).symm, (g12.dr.ne nW).symm, rfl, by decide⟩
    · obtain ⟨m, W, ws, rfl, m0, m1, g5, eW, nWd, hl, hw⟩ := hM
      refine ⟨.int m, rfl, m, rfl, by omega, by omega, fun C nC => lc_range (lo := 0) (n := m.toNat) (fun i H3 => Go d H H3 ∧ H3 W = some (.lst (ws.map V.int)) ∧ ∃ xs : List Int, H3 C = some (.lst (xs.map V.int)) ∧ xs.length = i ∧ ∀ x ∈ xs, 1 ≤ x ∧ x ≤ 7)
        ⟨g5.new nC, by rw [upd_ne (ne_of_none eW nC)]; exact eW, [], by rw [upd_same]; rfl, rfl, fun c hc => (by cases hc)⟩ (fun i H3 hi hP => ?_) (fun H3 hP => ?_)⟩
      · obtain ⟨g6, eW3, xs, eC, hx, hb⟩ := hP
        have nCd : C ≠ d := (g5.dr.ne nC).symm
        refine ⟨rfl, yesT ?_⟩
        refine ⟨.ref W, rfl, .ref d, rfl, d, 6, rfl, by decide, g6.dr, fun H4 z g4 z0 z1 => ?_⟩
        have eW4 := g4.keep eW3 nWd
        obtain ⟨y, hy, es⟩ := take_in eW4 z0 (by rw [hl]; exact z1)
        have eC4 := g4.keep eC nCd
        refine ⟨W, _, z, .int y, rfl, rfl, SqL.of eW4, es, xs.map V.int, eC4, ?_, (g6.trans g4).put (g5.free nC) nCd.symm, ?_, xs ++ [y], by rw [upd_same, List.map_append]; rfl, by rw [List.length_append, hx]; rfl, fun c h => ?_⟩
        · rw [List.length_map]
          exact small1000 (by omega)
        · rw [upd_ne (ne_of_none eW nC)]
          exact eW4
        · rcases List.mem_append.mp h with h | h
          · exact hb c h
          · rw [List.mem_singleton.mp h]
            exact hw y hy
      · obtain ⟨g6, _, xs, eC, hx, hb⟩ := hP
        exact ⟨C, _, rfl, .inl ⟨SqL.of eC, fun p np => q _ p xs (g6.new np) (g6.free np) upd_same ⟨by omega, by omega, hb⟩ (by omega)⟩⟩

end
section
variable {P : Program} {w : World} {K : PySem.W.Frag} {mg : Str → Option Value} {base : Heap}
/-! ### a row in a drawn order -/
def spShuf : Sp := fun vs H Q _ => ∃ (d r : Addr) (ns : List Int), vs = [.ref d, .ref r] ∧ H r = some (.lst (ns.map V.int)) ∧ r ≠ d ∧ ns.length ≤ 50 ∧ Dr H d ∧
  ∀ H' p (ms : List Int), Go d H H' → H p = none → H' p = some (.lst (ms.map V.int)) → ms.Perm ns → Q (.ref p) H'
theorem ok_shuf {f fT : Addr} {fd fdT : FuncData} (T : Hlp K mg fT fdT) (F : Fun K "_law_shuffled" "_law_shuffled" sShuf f fd) : FnOk P w K mg base CX0 2 f fd ["draws", "row"] spShuf := by
  have GT : FnOk P w K mg base CX0 1 fT fdT ["draws", "many"] spTake := ok_take T.FT T.len T.int
  refine F.ok scShuf (fun vs H Q E h => ?_) (fun cdv A outer s H vs Q E hr h => ?_)
  · obtain ⟨d, r, ns, rfl, _⟩ := h
    rfl
  · obtain ⟨d, r, ns, rfl, er, nrd, hlen, D, q⟩ := h
    refine ⟨_, pss_cons (ps_set (i := 2) scShuf.nd rfl (.inl rfl) (pe_lst pa_nil))
      (pss_cons (ps_for PassesOwn.never rfl (pi_list (pv 1)) (pg_name (i := 3) scShuf.nd rfl (.inl rfl))
        (pss_one (ps_expr (pe_bm PySem.F.plainAttrs_list PySem.F.slot_list_insert PySem.F.type_list_insert mt_insert (pv 2)
          (pa_cons (pe_call GT hr (by rfl) T.gT T.FT.kp T.bT .nil pass0 (pa_cons (pv 0) (pa_cons (pe_op op_add (pe_callB call_len_seq (by rfl) T.len PySem.boot_len (pa_cons (pv 2) pa_nil)) pe_int) pa_nil))) (pa_cons (pv 3) pa_nil))))))
      (pss_one (ps_ret (pv 2)))), ?_⟩
    refine ⟨Nat.zero_le _, fun p np => ?_⟩
    have ndp : d ≠ p := D.ne np
    refine ⟨.ref r, rfl, r, rfl, ⟨_, SqL.of (by rw [upd_ne (ne_of_none er np)]; exact er)⟩, for_list (K := K) (a := r) (xs := ns.map V.int) (fun i σ H3 => ∃ y3, σ = [some (.ref d), some (.ref r), some (.ref p), y3] ∧ Go d H H3 ∧ ∃ ms : List Int, H3 p = some (.lst (ms.map V.int)) ∧ ms.Perm (ns.take i))
      ⟨none, rfl, (Go.refl D).new np, [], by rw [upd_same]; rfl, .nil⟩ (fun i σ H3 _ hP => ?_) (fun i x σ H3 hx hP => ?_) (fun σ H3 hP => ?_)⟩
    · obtain ⟨y3, rfl, g, _⟩ := hP
      exact SqL.of (g.keep er nrd)
    · obtain ⟨y3, rfl, g, ms, ep, pm⟩ := hP
      have hi : i < ns.length := by
        obtain ⟨h1, _⟩ := List.getElem?_eq_some_iff.mp hx
        rw [List.length_map] at h1
        exact h1
      have ex : x = .int ns[i] := by
        rw [List.getElem?_map, List.getElem?_eq_getElem hi] at hx
        exact (Option.some.inj hx).symm
      subst ex
      have hml : ms.length = i := by
        rw [pm.length_eq, List.length_take]
        omega
      refine ⟨.ref p, rfl, .inl ⟨rfl, _, SqL.of ep⟩, .ref d, rfl, .ref p, rfl, p, _, rfl, .inl (SqL.of ep), _, _, rfl, rfl, d, _, rfl, by omega, g.dr, fun H4 z g4 z0 z1 => ?_⟩
      rw [List.length_map, hml] at z1
      have ep4 : H4 p = some (.lst (ms.map V.int)) := g4.keep ep ndp.symm
      refine ⟨.int ns[i], rfl, p, _, z, .int ns[i], rfl, rfl, ep4, ?_, z0, by omega, ?_⟩
      · rw [List.length_map, hml]
        exact small1000 (by omega)
      · refine ⟨_, rfl, (g.trans g4).put np ndp, ms.take z.toNat ++ [ns[i]] ++ ms.drop z.toNat, ?_, ?_⟩
        · rw [upd_same, List.map_append, List.map_append, List.map_take, List.map_drop]
          rfl
        · rw [List.take_add_one, List.getElem?_eq_getElem hi]
          show (ms.take z.toNat ++ [ns[i]] ++ ms.drop z.toNat).Perm (ns.take i ++ [ns[i]])
          have h1 : (ms.take z.toNat ++ [ns[i]] ++ ms.drop z.toNat).Perm ([ns[i]] ++ (ms.take z.toNat ++ ms.drop z.toNat)) := by
            rw [← List.append_assoc]
            exact List.Perm.append_right _ List.perm_append_comm
          rw [List.take_append_drop] at h1
          exact (h1.trans List.perm_append_comm).trans (List.Perm.append_right _ pm)
    · obtain ⟨y3, rfl, g, ms, ep, pm⟩ := hP
      rw [List.length_map, List.take_length] at pm
      exact ⟨.ref p, rfl, q H3 p ms g np ep pm⟩

end
end NK

namespace NK
open PySem PySem.Spec PyProof.Rows L2
abbrev nWide : List Str := ["draws", "cell", "many", "base", "k"]
abbrev nRows : List Str := ["draws", "width", "most", "wide", "rows", "k", "column"]
abbrev nStore : List Str := ["draws", "scheme", "most", "wide", "width"]
theorem scWide : FnScope nWide ["draws", "cell"] (defScope sWide) := ⟨rfl, rfl, rfl, by decide +kernel, rfl, by decide +kernel, by decide +kernel⟩
theorem scRows : FnScope nRows ["draws", "width", "most", "wide"] (defScope sRows) := ⟨rfl, rfl, rfl, by decide +kernel, rfl, by decide +kernel, by decide +kernel⟩
theorem scStore : FnScope nStore ["draws", "scheme", "most", "wide"] (defScope sStore) := ⟨rfl, rfl, rfl, by decide +kernel, rfl, by decide +kernel, by decide +kernel⟩
theorem take_len {α : Type} {l : List α} {m : Nat} (h1 : 1 ≤ m) (h2 : l ≠ []) : 1 ≤ (l.take m).length := by
  rw [List.length_take]
  have : 1 ≤ l.length := by
    cases l with
    | nil => exact absurd rfl h2
    | cons x r => exact Nat.succ_le_succ (Nat.zero_le _)
  omega
theorem cutTake (xs : List V) (m : Nat) : cutV xs none (some (m : Int)) = xs.take m := by
  unfold cutV
  rw [HT.sIx_none, HT.sIx_nat, List.drop_zero, Nat.sub_zero]
  by_cases h : m ≤ xs.length
  · rw [Nat.min_eq_left h]
  · rw [Nat.min_eq_right (by omega), List.take_length, List.take_of_length_le (by omega)]
theorem sub_len {α : Type} [DecidableEq α] : ∀ {l m : List α}, l.Nodup → (∀ x ∈ l, x ∈ m) → l.length ≤ m.length
  | [], _, _, _ => Nat.zero_le _
  | x :: l, m, hn, h => by
    obtain ⟨h1, h2⟩ := List.nodup_cons.mp hn
    have hx := h x (List.mem_cons_self ..)
    have ih := sub_len (l := l) (m := m.erase x) h2 fun y hy => (List.mem_erase_of_ne (fun e => h1 (by rw [← e]; exact hy))).mpr (h y (List.mem_cons_of_mem _ hy))
    rw [List.length_erase_of_mem hx] at ih
    have : 0 < m.length := List.length_pos_of_mem hx
    show l.length + 1 ≤ m.length
    omega
theorem asc_nodup {M : List (Addr × List Int)} (h : M.Pairwise fun q r => q.2 < r.2) : M.Nodup := List.Pairwise.imp (S := fun a b => a ≠ b) (fun {a b} hlt e => row_lt_irrefl b.2 (by rw [e] at hlt; exact hlt)) h
section
variable {P : Program} {w : World} {K : PySem.W.Frag} {mg : Str → Option Value} {base : Heap}
/-! ### some values -/
def spWide : Sp := fun vs H Q _ => ∃ (d : Addr) (c : Int), vs = [.ref d, .int c] ∧ Dr H d ∧ ∀ H' p (ws : List Int), Go d H H' → H p = none → H' p = some (.lst (ws.map V.int)) → 1 ≤ ws.length → ws.length ≤ 5 → Q (.ref p) H'
theorem ok_wide {f fT : Addr} {fd fdT : FuncData} (T : Hlp K mg fT fdT) (F : Fun K "_law_wide" "_law_wide" sWide f fd) : FnOk P w K mg base CX0 2 f fd ["draws", "cell"] spWide := by
  have GT : FnOk P w K mg base CX0 1 fT fdT ["draws", "many"] spTake := ok_take T.FT T.len T.int
  refine F.ok scWide (fun vs H Q E h => ?_) (fun cdv A outer s H vs Q E hr h => ?_)
  · obtain ⟨d, c, rfl, _⟩ := h
    rfl
  · obtain ⟨d, c, rfl, D, q⟩ := h
    refine ⟨_, pss_cons (ps_set (i := 2) scWide.nd rfl (.inl rfl) (pe_ix ix_list (pe_lst (pa_cons pe_int (pa_cons pe_int (pa_cons pe_int (pa_cons pe_int pa_nil))))) (pe_call GT hr (by rfl) T.gT T.FT.kp T.bT .nil pass0 (pa_cons (pv 0) (pa_cons pe_int pa_nil))) (fun _ _ => rfl)))
      (pss_cons (ps_set (i := 3) scWide.nd rfl (.inr rfl) (pe_ix ix_list (pe_lst (pa_cons pe_int (pa_cons pe_int (pa_cons (pe_un un_neg pe_int) (pa_cons (pv 1) pa_nil))))) (pe_call GT hr (by rfl) T.gT T.FT.kp T.bT .nil pass0 (pa_cons (pv 0) (pa_cons pe_int pa_nil))) (fun _ _ => rfl)))
      (pss_cons (ps_if (pt_cmpR op_eq (pe_call GT hr (by rfl) T.gT T.FT.kp T.bT .nil pass0 (pa_cons (pv 0) (pa_cons pe_int pa_nil))) pe_int (nomark _))
          (pss_one (ps_ret (pe_slice sl_list (pe_lst (pa_cons pe_int (pa_cons pe_int (pa_cons pe_int (pa_cons pe_int (pa_cons (pv 3) pa_nil)))))) po_none (po_some (pv 2))))) pss_nil)
      (pss_one (ps_ret (pe_lc (own := [("k", 4)]) (g := gName 4) (by rfl) scWide.nd (pi_range1 rfl T.range (pa_cons (pv 2) pa_nil)) (blkOk_by (N := nWide) (sc := defScope sWide) (by decide +kernel))
          (fun _ _ _ _ _ => pg_name (i := 4) scWide.nd rfl (Or.inl rfl)) (fun _ _ _ _ _ => pts_nil) (fun _ _ _ _ _ => pe_op op_add (pv 3) (pv 4))))))), ?_⟩
    refine ⟨by show 4 ≤ sizeLine; decide, fun l nl => ?_⟩
    have g1 : Go d H (upd H l (.lst [.int 2, .int 2, .int 3, .int 5])) := (Go.refl D).new nl
    refine ⟨.ref d, rfl, d, 4, rfl, by decide, g1.dr, fun H2 z g2 z0 z1 => ?_⟩
    have el : H2 l = some (.lst (([2, 2, 3, 5] : List Int).map V.int)) := g2.keep (by rw [upd_same]; rfl) (D.ne nl).symm
    obtain ⟨m, hm, es⟩ := take_in el z0 (by exact z1)
    have hm2 : 2 ≤ m ∧ m ≤ 5 := (show ∀ m ∈ ([2, 2, 3, 5] : List Int), 2 ≤ m ∧ m ≤ 5 by decide) m hm
    refine ⟨l, _, z, .int m, rfl, rfl, SqL.of el, es, ?_⟩
    have g12 := g1.trans g2
    refine ⟨2, rfl, .int c, rfl, by show 4 ≤ sizeLine; decide, fun l2 nl2 => ?_⟩
    have g3 : Go d H (upd H2 l2 (.lst [.int 0, .int 0, .int (-2), .int c])) := g12.new nl2
    refine ⟨.ref d, rfl, d, 4, rfl, by decide, g3.dr, fun H4 z2 g4 y0 y1 => ?_⟩
    have el2 : H4 l2 = some (.lst (([0, 0, -2, c] : List Int).map V.int)) := g4.keep (by rw [upd_same]; rfl) (g12.dr.ne nl2).symm
    obtain ⟨b, hb, es2⟩ := take_in el2 y0 (by exact y1)
    refine ⟨l2, _, z2, .int b, rfl, rfl, SqL.of el2, es2, ?_⟩
    have g14 := g3.trans g4
    obtain ⟨M, rfl⟩ := Int.eq_ofNat_of_zero_le (show 0 ≤ m by omega)
    refine ⟨.ref d, rfl, d, 5, rfl, by decide, g14.dr, fun H5 z5 g5 _ _ => ⟨rfl, _, rfl, ite2 (fun _ => ?_) (fun _ => ?_)⟩⟩
    · have g15 := g14.trans g5
      refine ⟨.int b, rfl, by show 5 ≤ sizeLine; decide, fun l3 nl3 => ⟨.int (M : Int), rfl, (M : Int), rfl, l3, _, rfl, SqL.of upd_same, fun p np => ?_⟩⟩
      rw [cutTake]
      refine q _ p (([0, 11, 1, 111, b] : List Int).take M) ((g15.new nl3).new np) ((g15.new nl3).free np) ?_ (take_len (by omega) (by simp)) (by rw [List.length_take]; omega)
      rw [upd_same, List.map_take]
      rfl
    · have g15 := g14.trans g5
      refine ⟨.int (M : Int), rfl, (M : Int), rfl, by omega, by omega, fun C nC => lc_range (lo := 0) (n := ((M : Int)).toNat) (fun i H6 => Go d H H6 ∧ ∃ ws : List Int, H6 C = some (.lst (ws.map V.int)) ∧ ws.length = i)
        ⟨g15.new nC, [], by rw [upd_same]; rfl, rfl⟩ (fun i H6 hi hP => ?_) (fun H6 hP => ?_)⟩
      · obtain ⟨g6, ws, eC, hl⟩ := hP
        refine ⟨rfl, yesT ⟨.int b, rfl, .int (0 + (i : Int)), rfl, _, _, rfl, rfl, _, eC, ?_, g6.put (g15.free nC) (g15.dr.ne nC), ws ++ [b + (0 + (i : Int))], ?_, by rw [List.length_append, hl]; rfl⟩⟩
        · rw [List.length_map, hl]
          exact small1000 (by omega)
        · rw [upd_same, List.map_append]
          rfl
      · obtain ⟨g6, ws, eC, hl⟩ := hP
        exact q _ C ws g6 (g15.free nC) eC (by omega) (by omega)

/-! ### rows -/
def spRows (K : PySem.W.Frag) : Sp := fun vs H Q _ => ∃ (d W : Addr) (n m : Int) (ws : List Int), vs = [.ref d, .int n, .int m, .ref W] ∧ 1 ≤ n ∧ n ≤ 13 ∧ 0 ≤ m ∧ m ≤ 20 ∧ H W = some (.lst (ws.map V.int)) ∧ 1 ≤ ws.length ∧ W ≠ d ∧ Dr H d ∧
  ∀ H' p (R : List (List Int)), Go d H H' → H p = none → Im K H' (.ref p) (rowsD R) → Tab n R → R.length ≤ 20 → Q (.ref p) H'
theorem ok_rows {f fT : Addr} {fd fdT : FuncData} (T : Hlp K mg fT fdT) (mset : mg "set" = none) (F : Fun K "_law_rows" "_law_rows" sRows f fd) : FnOk P w K mg base CX0 2 f fd ["draws", "width", "most", "wide"] (spRows K) := by
  have GT : FnOk P w K mg base CX0 1 fT fdT ["draws", "many"] spTake := ok_take T.FT T.len T.int
  refine F.ok scRows (fun vs H Q E h => ?_) (fun cdv A outer s H vs Q E hr h => ?_)
  · obtain ⟨d, W, n, m, ws, rfl, _⟩ := h
    rfl
  · obtain ⟨d, W, n, m, ws, rfl, n0, n1, m0, m1, eW, w1, nWd, D, q⟩ := h
    refine ⟨_, pss_cons (ps_set (i := 4) scRows.nd rfl (.inl rfl) (pe_lst pa_nil))
      (pss_cons (ps_for PassesOwn.never rfl (pi_range1 rfl T.range (pa_cons (pe_call GT hr (by rfl) T.gT T.FT.kp T.bT .nil pass0 (pa_cons (pv 0) (pa_cons (pe_op op_add (pv 2) pe_int) pa_nil))) pa_nil)) (pg_name (i := 5) scRows.nd rfl (.inl rfl))
        (pss_one (ps_expr (pe_bm PySem.F.plainAttrs_list PySem.F.slot_list_append PySem.F.type_list_append mt_append (pv 4) (pa_cons (pe_callTy call_tuple_of (by rfl) T.tuple boot_tuple (pa_cons
          (pe_lc (own := [("column", 6)]) (g := gName 6) (by rfl) scRows.nd (pi_range1 rfl T.range (pa_cons (pv 1) pa_nil)) (blkOk_by (N := nRows) (sc := defScope sRows) (by decide +kernel))
            (fun _ _ _ _ _ => pg_name (i := 6) scRows.nd rfl (Or.inl rfl)) (fun _ _ _ _ _ => pts_nil)
            (fun _ _ _ _ _ => pe_ix (r := rIxL K) ix_list (pv 3) (pe_call GT hr (by rfl) T.gT T.FT.kp T.bT .nil pass0 (pa_cons (pv 0) (pa_cons (pe_callB (r := rLenS K) call_len_seq (by rfl) T.len PySem.boot_len (pa_cons (pv 3) pa_nil)) pa_nil))) (fun _ _ => rfl))) pa_nil)) pa_nil)))))
      (pss_one (ps_ret (pe_callTy call_tuple_of (by rfl) T.tuple boot_tuple (pa_cons (pe_callB (NR.cr_srtI rfl hr.units) (by rfl) T.sorted boot_sorted (pa_cons (pe_callTy (NR.cr_setR rfl hr.units) (by rfl) mset (by decide +kernel) (pa_cons (pv 4) pa_nil)) pa_nil)) pa_nil))))), ?_⟩
    refine ⟨Nat.zero_le _, fun p np => ?_⟩
    have g1 : Go d H (upd H p (.lst [])) := (Go.refl D).new np
    have npd : p ≠ d := (D.ne np).symm
    have npW : W ≠ p := ne_of_none eW np
    refine ⟨.ref d, rfl, .int m, rfl, _, _, rfl, rfl, d, _, rfl, by omega, g1.dr, fun H2 z g2 z0 z1 => ?_⟩
    have g12 := g1.trans g2
    refine ⟨z, rfl, by omega, by omega, for_range (lo := 0) (n := z.toNat) (fun i σ H3 => ∃ y5 y6, σ = [some (.ref d), some (.int n), some (.int m), some (.ref W), some (.ref p), y5, y6] ∧ Go d H H3 ∧ H3 W = some (.lst (ws.map V.int)) ∧
        ∃ ks : List (Addr × List Int), H3 p = some (.lst (ks.map fun k => V.ref k.1)) ∧ ks.length = i ∧ ∀ k ∈ ks, H3 k.1 = some (.tup (k.2.map V.int)) ∧ (k.2.length : Int) = n)
      ⟨none, none, rfl, g12, g2.keep (by rw [upd_ne npW]; exact eW) nWd, [], g2.keep (by rw [upd_same]; rfl) npd, rfl, fun k hk => (by cases hk)⟩ (fun i σ H3 hi hP => ?_) (fun σ H3 hP => ?_)⟩
    · obtain ⟨y5, y6, rfl, g3, eW3, ks, ep, hkl, hks⟩ := hP
      refine ⟨.ref p, rfl, .inl ⟨rfl, _, SqL.of ep⟩, .int n, rfl, n, rfl, by omega, by omega, fun C nC => lc_range (lo := 0) (n := n.toNat) (fun j H4 => Go d H3 H4 ∧ ∃ xs : List Int, H4 C = some (.lst (xs.map V.int)) ∧ xs.length = j)
        ⟨(Go.refl g3.dr).new nC, [], by rw [upd_same]; rfl, rfl⟩ (fun j H4 hj hP => ?_) (fun H4 hP => ?_)⟩
      · obtain ⟨g4, xs, eC, hxl⟩ := hP
        have eW4 := g4.keep eW3 nWd
        have nCd : C ≠ d := (g3.dr.ne nC).symm
        refine ⟨rfl, yesT ⟨.ref W, rfl, .ref d, rfl, .ref W, rfl, W, _, rfl, .inl (SqL.of eW4), d, _, rfl, by rw [List.length_map]; omega, g4.dr, fun H5 c g5 c0 c1 => ?_⟩⟩
        rw [List.length_map] at c1
        have eW5 := g5.keep eW4 nWd
        obtain ⟨x, hx, es⟩ := take_in eW5 c0 c1
        refine ⟨W, _, c, .int x, rfl, rfl, SqL.of eW5, es, _, g5.keep eC nCd, ?_, (g4.trans g5).put nC nCd.symm, xs ++ [x], ?_, by rw [List.length_append, hxl]; rfl⟩
        · rw [List.length_map, hxl]
          exact small1000 (by omega)
        · rw [upd_same, List.map_append]
          rfl
      · obtain ⟨g4, xs, eC, hxl⟩ := hP
        refine ⟨C, _, rfl, .inl ⟨SqL.of eC, fun t nt => ?_⟩⟩
        have ep4 := g4.keep ep npd
        have g4t := g4.new (o := HO.tup (xs.map V.int)) nt
        have ept : (upd H4 t (.tup (xs.map V.int))) p = some (.lst (ks.map fun k => V.ref k.1)) := by
          rw [upd_ne (ne_of_none ep4 nt)]
          exact ep4
        refine ⟨p, _, _, rfl, rfl, ept, ?_, ?_⟩
        · rw [List.length_map, hkl]
          exact small1000 (by omega)
        · have eWt : (upd H4 t (.tup (xs.map V.int))) W = some (.lst (ws.map V.int)) := by
            have e := g4.keep eW3 nWd
            rw [upd_ne (ne_of_none e nt)]
            exact e
          refine ⟨_, _, rfl, (g3.trans g4t).put np npd.symm, by rw [upd_ne npW]; exact eWt, ks ++ [(t, xs)], ?_, by rw [List.length_append, hkl]; rfl, fun k hk => ?_⟩
          · rw [upd_same, List.map_append]
            rfl
          · rcases List.mem_append.mp hk with hk | hk
            · exact ⟨tup_put ept (fun ys e => by cases e) (g4t.keepT g3.dr (hks k hk).1), (hks k hk).2⟩
            · rw [List.mem_singleton.mp hk]
              exact ⟨tup_put ept (fun ys e => by cases e) upd_same, by show ((xs.length : Nat) : Int) = n; omega⟩
    · obtain ⟨y5, y6, rfl, g3, eW3, ks, ep, hkl, hks⟩ := hP
      refine ⟨.ref p, rfl, p, ks, rfl, .inl (SqL.of ep), fun k hk => SqT.of (hks k hk).1, by omega, fun a L na hsub hcov => ?_⟩
      have sa := same_upd (o := SetTO P w a L) na
      refine ⟨a, L, rfl, upd_same, fun k hk => SqT.of (sa _ _ (hks k (hsub k hk)).1), fun k hk e => ?_, fun M b pm asc nb => ⟨b, _, rfl, .inl ⟨SqL.of upd_same, fun t nt => ?_⟩⟩⟩
      · have := (hks k (hsub k hk)).2
        rw [e] at this
        have e2 : (0 : Int) = n := this
        omega
      · have sb := sa.trans (same_upd (o := HO.lst (M.map fun k => V.ref k.1)) nb)
        have st := sb.trans (same_upd (o := HO.tup (M.map fun k => V.ref k.1)) nt)
        have hM : ∀ k ∈ M, k ∈ ks := fun k hk => hsub k (pm.mem_iff.mp hk)
        refine q _ t (M.map (·.2)) (((g3.new na).new nb).new nt) (((g3.new na).new nb).free nt) (.tup upd_same (ImAll.rows M fun k hk => st _ _ (hks k (hM k hk)).1)) ⟨List.pairwise_map.mpr asc, fun r hr => ?_⟩ ?_
        · obtain ⟨k, hk, rfl⟩ := List.mem_map.mp hr
          exact (hks k (hM k hk)).2
        · rw [List.length_map]
          have := sub_len (asc_nodup asc) hM
          omega

/-! ### a store -/
structure Sto (ws : List Int) (b : Nat) (S : List (List (List Int))) : Prop where
  len : S.length = ws.length
  tab : ∀ (i : Nat) (n : Int) (R : List (List Int)), ws[i]? = some n → S[i]? = some R → Tab n R ∧ R.length ≤ b
def spStore (K : PySem.W.Frag) : Sp := fun vs H Q _ => ∃ (d s W : Addr) (m : Int) (sw ws : List Int), vs = [.ref d, .ref s, .int m, .ref W] ∧ H s = some (.tup (sw.map V.int)) ∧ Widths 13 sw ∧ 0 ≤ m ∧ m ≤ 20 ∧ H W = some (.lst (ws.map V.int)) ∧ 1 ≤ ws.length ∧ W ≠ d ∧ Dr H d ∧
  ∀ H' p (S : List (List (List Int))), Go d H H' → H p = none → Im K H' (.ref p) (storeD S) → Sto sw 20 S → Q (.ref p) H'
theorem ok_store {f fT fR : Addr} {fd fdT fdR : FuncData} (T : Hlp K mg fT fdT) (mset : mg "set" = none) (F : Fun K "_law_store" "_law_store" sStore f fd) (FR : Fun K "_law_rows" "_law_rows" sRows fR fdR) (bR : Binds K fdR ["draws", "width", "most", "wide"] []) (gR : mg "_law_rows" = some (.ref fR)) :
    FnOk P w K mg base CX0 3 f fd ["draws", "scheme", "most", "wide"] (spStore K) := by
  have GR : FnOk P w K mg base CX0 2 fR fdR ["draws", "width", "most", "wide"] (spRows K) := ok_rows T mset FR
  refine F.ok scStore (fun vs H Q E h => ?_) (fun cdv A outer s H vs Q E hr h => ?_)
  · obtain ⟨d, s, W, m, sw, ws, rfl, _⟩ := h
    rfl
  · obtain ⟨d, sc, W, m, sw, ws, rfl, es, hsw, m0, m1, eW, w1, nWd, D, q⟩ := h
    refine ⟨_, pss_one (ps_ret (pe_callTy call_tuple_of (by rfl) T.tuple boot_tuple (pa_cons
        (pe_lc (own := [("width", 4)]) (g := gName 4) (by rfl) scStore.nd (pi_tup (pv 1)) (blkOk_by (N := nStore) (sc := defScope sStore) (by decide +kernel))
          (fun _ _ _ _ _ => pg_name (i := 4) scStore.nd rfl (Or.inl rfl)) (fun _ _ _ _ _ => pts_nil)
          (fun _ _ _ _ _ => pe_call GR hr (by rfl) gR FR.kp bR .nil pass0 (pa_cons (pv 0) (pa_cons (pv 4) (pa_cons (pv 2) (pa_cons (pv 3) pa_nil)))))) pa_nil))), ?_⟩
    refine ⟨.ref sc, rfl, sc, rfl, ⟨_, SqT.of es⟩, fun C nC => lc_tup (K := K) (a := sc) (xs := sw.map V.int) (fun i H3 => Go d H H3 ∧ ∃ (acc : List V) (S : List (List (List Int))), H3 C = some (.lst acc) ∧ ImAll K H3 acc (S.map rowsD) ∧ Sto (sw.take i) 20 S)
      ⟨(Go.refl D).new nC, [], [], upd_same, .nil, rfl, fun i n R h1 h2 => (by simp at h2)⟩ (fun i H3 _ h => SqT.of (h.1.keepT D es)) (fun i x H3 hx hP => ?_) (fun H3 hP => ?_)⟩
    · obtain ⟨g3, acc, S, eC, im, hS⟩ := hP
      have hi : i < sw.length := by
        obtain ⟨h1, _⟩ := List.getElem?_eq_some_iff.mp hx
        rw [List.length_map] at h1
        exact h1
      have ex : x = .int sw[i] := by
        rw [List.getElem?_map, List.getElem?_eq_getElem hi] at hx
        exact (Option.some.inj hx).symm
      subst ex
      have nCd : C ≠ d := (D.ne nC).symm
      have hwi := hsw.2.2 sw[i] (List.getElem_mem hi)
      refine ⟨rfl, yesT ⟨.ref d, rfl, .int sw[i], rfl, .int m, rfl, .ref W, rfl, d, W, sw[i], m, ws, rfl, hwi.1, hwi.2, m0, m1, g3.keep eW nWd, w1, nWd, g3.dr, fun H4 p R g4 np ir tR lR => ?_⟩⟩
      have eC4 := g4.keep eC nCd
      have hal := im.length
      have hSl := hS.len
      rw [List.length_map] at hal
      rw [List.length_take] at hSl
      refine ⟨acc, eC4, small1000 (by have := hsw.2.1; omega), (g3.trans g4).put nC nCd.symm, acc ++ [.ref p], S ++ [R], upd_same, ?_, ?_, fun j n R' h1 h2 => ?_⟩
      · rw [List.map_append]
        exact ((im.go g4 g3.dr).put eC4 (fun ys e => by cases e)).append (.cons (ir.put eC4 (fun ys e => by cases e)) .nil)
      · rw [List.length_append, List.length_take]
        show S.length + 1 = _
        omega
      · have hSi : S.length = i := by omega
        rw [List.getElem?_append] at h2
        by_cases z : j < S.length
        · rw [if_pos z] at h2
          refine hS.tab j n R' ?_ h2
          rw [List.getElem?_take, if_pos (by omega)] at h1 ⊢
          exact h1
        · rw [if_neg z] at h2
          have e0 : j - S.length = 0 := by
            rcases Nat.eq_zero_or_pos (j - S.length) with y | y
            · exact y
            · rw [List.getElem?_eq_none (by show 1 ≤ _; omega)] at h2
              cases h2
          rw [e0] at h2
          have eR : R = R' := Option.some.inj h2
          have ej : j = i := by omega
          subst ej
          rw [List.getElem?_take, if_pos (by omega), List.getElem?_eq_getElem hi] at h1
          have en : sw[j] = n := Option.some.inj h1
          rw [← eR, ← en]
          exact ⟨tR, lR⟩
    · obtain ⟨g3, acc, S, eC, im, hS⟩ := hP
      rw [List.length_map, List.take_length] at hS
      exact ⟨C, _, rfl, .inl ⟨SqL.of eC, fun p np => q _ p S (g3.new np) (g3.free np) (.tup upd_same (im.same (same_upd np))) hS⟩⟩
end
end NK

namespace NK
open PySem PySem.Spec PyProof.Rows L2
/-! ### rows by their columns; data compared -/
theorem canLay_ints : ∀ l : List Int, PyData.canLayAll0 (l.map PyData.int) = true
  | [] => by simp [PyData.canLayAll0]
  | i :: l => by
    show PyData.canLayAll0 (PyData.int i :: l.map PyData.int) = true
    simp only [PyData.canLayAll0, PyData.canLay0, canLay_ints l, Bool.and_self]
theorem shaped_tup (l : List Int) : SeqAt.shaped (intsD l) = true := by
  show (PyData.canLay0 (.tuple (l.map .int)) && decide (PyData.depth (.tuple (l.map .int)) ≤ 64)) = true
  rw [Bool.and_eq_true]
  refine ⟨?_, decide_eq_true ?_⟩
  · simp only [PyData.canLay0]
    exact canLay_ints l
  · simp only [PyData.depth]
    rw [PySem.W.depth_ints]
    decide
theorem shaped_lst (l : List Int) : SeqAt.shaped (.list (l.map .int)) = true := by
  show (PyData.canLay0 (.list (l.map .int)) && decide (PyData.depth (.list (l.map .int)) ≤ 64)) = true
  rw [Bool.and_eq_true]
  refine ⟨?_, decide_eq_true ?_⟩
  · simp only [PyData.canLay0]
    exact canLay_ints l
  · simp only [PyData.depth]
    rw [PySem.W.depth_ints]
    decide
theorem eqvAll_ints : ∀ a b : List Int, PyData.eqvAll (a.map .int) (b.map .int) = decide (a = b)
  | [], [] => by simp [PyData.eqvAll]
  | [], _ :: _ => by simp [PyData.eqvAll]
  | _ :: _, [] => by simp [PyData.eqvAll]
  | x :: a, y :: b => by
    show PyData.eqvAll (PyData.int x :: a.map .int) (PyData.int y :: b.map .int) = _
    rw [PyData.eqvAll, eqvAll_ints a b]
    simp only [PyData.eqv]
    by_cases h : x = y <;> by_cases k : a = b <;> simp [h, k]
theorem eqv_tup (a b : List Int) : PyData.eqv (intsD a) (intsD b) = decide (a = b) := by
  show PyData.eqv (.tuple (a.map .int)) (.tuple (b.map .int)) = _
  simp only [PyData.eqv]
  exact eqvAll_ints a b
theorem eqv_lst (a b : List Int) : PyData.eqv (.list (a.map .int)) (.list (b.map .int)) = decide (a = b) := by
  simp only [PyData.eqv]
  exact eqvAll_ints a b
theorem Dp.tupI {K : PySem.W.Frag} {H : Hp} {a : Addr} {l : List Int} (h : H a = some (.tup (l.map V.int))) : Dp K H (.ref a) (intsD l) := (Im.ints (K := K) h).dp
theorem dpAll_ints {K : PySem.W.Frag} {H : Hp} (l : List Int) : DpAll K H (l.map V.int) (l.map PyData.int) := (ImAll.ints l).dp
theorem Dp.lstI {K : PySem.W.Frag} {H : Hp} {a : Addr} {l : List Int} (h : H a = some (.lst (l.map V.int))) : Dp K H (.ref a) (.list (l.map .int)) := .lst (SqL.of h) (dpAll_ints l)
/-- columns of a row -/
def In (n : Int) (l : List Int) : Prop := l.length ≤ 20 ∧ ∀ c ∈ l, 0 ≤ c ∧ c < n
theorem In.of {n : Int} {l : List Int} (h : Cols n l) (hn : n ≤ 20) : In n l := ⟨by have := h.2.2; omega, h.2.1⟩
theorem col_get {l : List Int} {c : Int} (h0 : 0 ≤ c) (h1 : c < (l.length : Int)) : atI (l.map V.int) c = some (.int (l.getD c.toNat 0)) := by
  have h2 : c.toNat < l.length := by omega
  refine at_of (by omega : c = (c.toNat : Int)) ?_
  rw [List.getElem?_map, List.getElem?_eq_getElem h2, List.getD_eq_getElem?_getD, List.getElem?_eq_getElem h2]
  rfl
theorem keys_eq (x : List Int) : (x.map (Sum.inl : Int → Int ⊕ Str)).map kV = x.map V.int := by
  rw [List.map_map]
  rfl
theorem inl_inj {a b : List Int} (h : a.map (Sum.inl : Int → Int ⊕ Str) = b.map Sum.inl) : a = b := (List.map_inj_right (fun _ _ e => Sum.inl.inj e)).mp h
/-- what a search for a breach hands back -/
def Res (K : PySem.W.Frag) (H : Hp) : Option (List Int × List Int) → V → Prop
  | none, v => v = .non
  | some (x, y), v => Im K H v (.tuple [intsD x, intsD y])
/-- .. by the addresses of two rows -/
def Prs (ks : List (Addr × List Int)) (H : Hp) : Option (List Int × List Int) → V → Prop
  | none, v => v = .non
  | some (x, y), v => ∃ p q1 q2, v = .ref p ∧ H p = some (.tup [.ref q1, .ref q2]) ∧ (q1, x) ∈ ks ∧ (q2, y) ∈ ks
theorem Prs.same {ks : List (Addr × List Int)} {H H' : Hp} {o : Option (List Int × List Int)} {v : V} (s : ∀ a xs, H a = some (.tup xs) → H' a = some (.tup xs)) (h : Prs ks H o v) : Prs ks H' o v := by
  match o, h with
  | none, h => exact h
  | some (x, y), ⟨p, q1, q2, e, hp, h1, h2⟩ => exact ⟨p, q1, q2, e, s _ _ hp, h1, h2⟩
theorem Prs.res {K : PySem.W.Frag} {ks : List (Addr × List Int)} {H : Hp} {o : Option (List Int × List Int)} {v : V} (hk : ∀ p ∈ ks, H p.1 = some (.tup (p.2.map V.int))) (h : Prs ks H o v) : Res K H o v := by
  match o, h with
  | none, h => exact h
  | some (x, y), ⟨p, q1, q2, e, hp, h1, h2⟩ =>
    subst e
    exact .tup hp (.cons (Im.ints (hk _ h1)) (.cons (Im.ints (hk _ h2)) .nil))
theorem Im.storeGet {K : PySem.W.Frag} {H : Hp} {v : V} {S : List (List (List Int))} {i : Nat} {R : List (List Int)} (h : Im K H v (storeD S)) (hi : S[i]? = some R) : ∃ a xs u, v = .ref a ∧ H a = some (.tup xs) ∧ xs[i]? = some u ∧ Im K H u (rowsD R) := by
  cases h with
  | tup h r =>
    rename_i a xs
    have hl := r.length
    rw [List.length_map] at hl
    obtain ⟨h1, _⟩ := List.getElem?_eq_some_iff.mp hi
    have h2 : i < xs.length := by omega
    obtain ⟨t, e, im⟩ := r.get (List.getElem?_eq_getElem h2)
    rw [List.getElem?_map, hi] at e
    cases e
    exact ⟨a, xs, _, rfl, h, List.getElem?_eq_getElem h2, im⟩
section
variable {P : Program} {w : World} {K : PySem.W.Frag} {mg : Str → Option Value} {base : Heap}
/-! ### the program: a row's values -/
theorem scVals : FnScope ["row", "columns", "column"] ["row", "columns"] (defScope p_values_at) := ⟨rfl, rfl, rfl, by decide +kernel, rfl, by decide +kernel, by decide +kernel⟩
def spVals : Sp := fun vs H Q _ => ∃ (a c : Addr) (x l : List Int), vs = [.ref a, .ref c] ∧ H a = some (.tup (x.map V.int)) ∧ H c = some (.tup (l.map V.int)) ∧ In x.length l ∧ ∀ H' p, Same H H' → H p = none → H' p = some (.tup ((prj l x).map V.int)) → Q (.ref p) H'
theorem ok_vals {f : Addr} {fd : FuncData} {k : Nat} (mt : mg "tuple" = none) (F : Fun K "values_at" "values_at" p_values_at f fd) : FnOk P w K mg base CX0 (k + 1) f fd ["row", "columns"] spVals := by
  refine F.ok scVals (fun vs H Q E h => ?_) (fun cdv A outer s H vs Q E hr h => ?_)
  · obtain ⟨a, c, x, l, rfl, _⟩ := h
    rfl
  · obtain ⟨a, c, x, l, rfl, ea, ec, hl, q⟩ := h
    refine ⟨_, pss_one (ps_ret (pe_callTy call_tuple_of (by rfl) mt boot_tuple (pa_cons
        (pe_lc (own := [("column", 2)]) (g := gName 2) (by rfl) scVals.nd (pi_tup (pv 1)) (blkOk_by (N := ["row", "columns", "column"]) (sc := defScope p_values_at) (by decide +kernel))
          (fun _ _ _ _ _ => pg_name (i := 2) scVals.nd rfl (Or.inl rfl)) (fun _ _ _ _ _ => pts_nil)
          (fun _ _ _ _ _ => pe_ix (r := rIxT K) ix_tup (pv 0) (pv 2) (fun _ _ => rfl))) pa_nil))), ?_⟩
    refine ⟨.ref c, rfl, c, rfl, ⟨_, SqT.of ec⟩, fun C nC => lc_tup (K := K) (a := c) (xs := l.map V.int) (fun i H3 => Same H H3 ∧ H3 C = some (.lst ((prj (l.take i) x).map V.int)))
      ⟨same_upd nC, upd_same⟩ (fun i H3 _ h => SqT.of (h.1 _ _ ec)) (fun i y H3 hy hP => ?_) (fun H3 hP => ?_)⟩
    · obtain ⟨s3, eC⟩ := hP
      have hi : i < l.length := by
        obtain ⟨h1, _⟩ := List.getElem?_eq_some_iff.mp hy
        rw [List.length_map] at h1
        exact h1
      have ex : y = .int l[i] := by
        rw [List.getElem?_map, List.getElem?_eq_getElem hi] at hy
        exact (Option.some.inj hy).symm
      subst ex
      have hc := hl.2 _ (List.getElem_mem hi)
      refine ⟨rfl, yesT ⟨.ref a, rfl, .int l[i], rfl, a, _, _, _, rfl, rfl, SqT.of (s3 _ _ ea), col_get hc.1 hc.2, _, eC, ?_, Same.put s3 nC, ?_⟩⟩
      · unfold prj
        rw [List.length_map, List.length_map, List.length_take]
        exact small1000 (by have := hl.1; omega)
      · rw [upd_same, List.take_add_one, List.getElem?_eq_getElem hi]
        unfold prj
        rw [Option.toList_some, List.map_append, List.map_append]
        rfl
    · obtain ⟨s3, eC⟩ := hP
      rw [List.length_map, List.take_length] at eC
      exact ⟨C, _, rfl, .inl ⟨SqL.of eC, fun p np => q _ p (s3.trans (same_upd np)) (s3.free np) upd_same⟩⟩

end
end NK

namespace NK
open PySem PySem.Spec PyProof.Rows L2
/-! ### inclusions as data, and the first row that strays -/
theorem Im.inc {K : PySem.W.Frag} {H : Hp} {v : V} {t u : Int} {l r : List Int} (h : Im K H v (Dep.within t l u r).data) : ∃ a b c, v = .ref a ∧ H a = some (.tup [.str "within", .int t, .ref b, .int u, .ref c]) ∧ H b = some (.tup (l.map V.int)) ∧ H c = some (.tup (r.map V.int)) := by
  cases h with
  | tup h q =>
    cases q with
    | cons q1 q =>
      cases q with
      | cons q2 q =>
        cases q with
        | cons q3 q =>
          cases q with
          | cons q4 q =>
            cases q with
            | cons q5 q =>
              cases q
              cases q1
              cases q2
              cases q4
              obtain ⟨b, rfl, hb⟩ := q3.toInts
              obtain ⟨c, rfl, hc⟩ := q5.toInts
              exact ⟨_, b, c, rfl, h, hb, hc⟩
def stray (l r : List Int) (R' : List (List Int)) (x : List Int) : Bool := !decide (prj l x ∈ R'.map (prj r))
def wbr (l r : List Int) (R R' : List (List Int)) : Option (List Int) := R.find? (stray l r R')
/-- a row, or none, as a tuple of one row -/
def One (K : PySem.W.Frag) (H : Hp) : Option (List Int) → V → Prop
  | none, v => v = .non
  | some x, v => Im K H v (.tuple [intsD x])
theorem One.same {K : PySem.W.Frag} {H H' : Hp} {o : Option (List Int)} {v : V} (s : Same H H') (h : One K H o v) : One K H' o v := by
  match o, h with
  | none, h => exact h
  | some x, h => exact Im.same s h
theorem One.isN {K : PySem.W.Frag} {H : Hp} {o : Option (List Int)} {v : V} (h : One K H o v) : decide (v = V.non) = o.isNone := by
  match o, h with
  | none, h =>
    cases (show v = .non from h)
    rfl
  | some x, h =>
    cases (show Im K H v _ from h)
    rfl
/-- what the dict of the other table's values tells -/
structure Vals (r : List Int) (R : List (List Int)) (kvs : List (List L2.Key × V)) : Prop where
  len : kvs.length ≤ R.length
  mem : ∀ k, (valV kvs (k.map Sum.inl)).isSome = decide (k ∈ R.map (prj r))
theorem Vals.nil {r : List Int} : Vals r [] [] := ⟨Nat.le_refl _, fun k => rfl⟩
theorem Vals.put {r : List Int} {R : List (List Int)} {kvs : List (List L2.Key × V)} {x : List Int} {v : V} (h : Vals r R kvs) : Vals r (R ++ [x]) (putK kvs ((prj r x).map Sum.inl) v) := by
  refine ⟨?_, fun k => ?_⟩
  · have := length_putK kvs ((prj r x).map Sum.inl) v
    have := h.len
    rw [List.length_append]
    show _ ≤ R.length + 1
    omega
  · rw [valV_put]
    by_cases e : k = prj r x
    · subst e
      rw [if_pos rfl]
      symm
      apply decide_eq_true
      rw [List.map_append]
      exact List.mem_append_right _ (List.mem_singleton.mpr rfl)
    · rw [if_neg (fun z => e (inl_inj z)), h.mem k]
      congr 1
      rw [List.map_append, List.mem_append]
      exact propext ⟨Or.inl, fun z => z.elim id fun z => absurd (List.mem_singleton.mp z) e⟩
abbrev nIncB : List Str := ["rows", "columns", "other_rows", "others", "row", "there"]
theorem scIncB : FnScope nIncB ["rows", "columns", "other_rows", "others"] (defScope p_inclusion_breach) := ⟨rfl, rfl, rfl, by decide +kernel, rfl, by decide +kernel, by decide +kernel⟩
section
variable {P : Program} {w : World} {K : PySem.W.Frag} {mg : Str → Option Value} {base : Heap}
theorem nth_row {ks : List (Addr × List Int)} {i : Nat} {x : V} (h : (ks.map fun p => V.ref p.1)[i]? = some x) : ∃ (hi : i < ks.length), x = .ref ks[i].1 := by
  obtain ⟨h1, _⟩ := List.getElem?_eq_some_iff.mp h
  rw [List.length_map] at h1
  rw [List.getElem?_map, List.getElem?_eq_getElem h1] at h
  exact ⟨h1, (Option.some.inj h).symm⟩
theorem take_next {α β : Type} {ks : List α} {i : Nat} (f : α → β) (hi : i < ks.length) : (ks.take (i + 1)).map f = (ks.take i).map f ++ [f ks[i]] := by
  rw [List.take_add_one, List.getElem?_eq_getElem hi, List.map_append]
  rfl
theorem wbr_at {l r : List Int} {ks : List (Addr × List Int)} {R' : List (List Int)} {i : Nat} (hi : i < ks.length) (hno : ∀ x ∈ (ks.take i).map (·.2), stray l r R' x = false) (hs : stray l r R' ks[i].2 = true) : wbr l r (ks.map (·.2)) R' = some ks[i].2 := by
  have e : ks.map (·.2) = (ks.take i).map (·.2) ++ (ks[i].2 :: (ks.drop (i + 1)).map (·.2)) := by
    rw [← List.map_cons (f := fun p : Addr × List Int => p.2) (a := ks[i]), ← List.drop_eq_getElem_cons hi, ← List.map_append, List.take_append_drop]
  unfold wbr
  rw [e, List.find?_append, List.find?_eq_none.mpr (fun x hx => by rw [hno x hx]; decide), Option.none_or, List.find?_cons, hs]
/-! ### the program: the least breach of an inclusion -/
def spIncB (K : PySem.W.Frag) : Sp := fun vs H Q _ => ∃ (v u : V) (lc rc : Addr) (R R' : List (List Int)) (n n' : Int) (l r : List Int), vs = [v, .ref lc, u, .ref rc] ∧ Im K H v (rowsD R) ∧ Im K H u (rowsD R') ∧ (∀ x ∈ R, (x.length : Int) = n) ∧ (∀ x ∈ R', (x.length : Int) = n') ∧ R'.length ≤ 100 ∧ H lc = some (.tup (l.map V.int)) ∧ H rc = some (.tup (r.map V.int)) ∧ In n l ∧ In n' r ∧
  ∀ H' w, Same H H' → One K H' (wbr l r R R') w → Q w H'
theorem ok_incB {f fV : Addr} {fd fdV : FuncData} (mt : mg "tuple" = none) (F : Fun K "inclusion_breach" "inclusion_breach" p_inclusion_breach f fd) (FV : Fun K "values_at" "values_at" p_values_at fV fdV) (bV : Binds K fdV ["row", "columns"] []) (gV : mg "values_at" = some (.ref fV)) :
    FnOk P w K mg base CX0 2 f fd ["rows", "columns", "other_rows", "others"] (spIncB K) := by
  have GV : FnOk P w K mg base CX0 1 fV fdV ["row", "columns"] spVals := ok_vals mt FV
  refine F.ok scIncB (fun vs H Q E h => ?_) (fun cdv A outer s H vs Q E hr h => ?_)
  · obtain ⟨v, u, lc, rc, R, R', n, n', l, r, rfl, _⟩ := h
    rfl
  · obtain ⟨v, u, lc, rc, R, R', n, n', l, r, rfl, iv, iu, hR, hR', hl', el, er, hl, hrr, q⟩ := h
    obtain ⟨a, ks, rfl, ea, eR, hks⟩ := iv.rows
    obtain ⟨a', ks', rfl, ea', eR', hks'⟩ := iu.rows
    subst eR eR'
    rw [List.length_map] at hl'
    refine ⟨_, pss_cons (NR.ps_setDcT (i := 5) (own := [("row", 4)]) (g := gName 4) (by rfl) scIncB.nd (hu_of hr) rfl rfl (NR.sw_dict rfl rfl rfl (by decide +kernel)) (pi_tup (pv 2)) (blkOk_by (N := nIncB) (sc := defScope p_inclusion_breach) (by decide +kernel))
        (fun _ _ _ _ _ => pg_name (i := 4) scIncB.nd rfl (Or.inl rfl)) (fun _ _ _ _ _ => pts_nil)
        (fun _ _ _ _ _ => pe_call GV hr (by rfl) gV FV.kp bV .nil pass0 (pa_cons (pv 4) (pa_cons (pv 3) pa_nil))) (fun _ _ _ _ _ => pe_bl))
      (pss_cons (ps_for PassesOwn.never rfl (pi_tup (pv 0)) (pg_name (i := 4) scIncB.nd rfl (.inl rfl))
        (pss_one (ps_if (pt_cmp (pc_dnotin (hu_of hr) (pe_call GV hr (by rfl) gV FV.kp bV .nil pass0 (pa_cons (pv 4) (pa_cons (pv 1) pa_nil))) (pv 5))) (pss_one (ps_ret (pe_tup (pa_cons (pv 4) pa_nil)))) pss_nil)))
      (pss_one (ps_ret pe_non))), ?_⟩
    refine ⟨.ref a', rfl, a', rfl, ⟨_, SqT.of ea'⟩, fun D nD => NR.dcT_tup (K := K) (a := a') (xs := ks'.map fun p => V.ref p.1) (fun i H3 => Same H H3 ∧ ∃ kvs, H3 D = some (.dT kvs) ∧ Vals r ((ks'.take i).map (·.2)) kvs)
      ⟨same_upd nD, [], upd_same, Vals.nil⟩ (fun i H3 _ h => SqT.of (h.1 _ _ ea')) (fun i x H3 hx hP => ?_) (fun H3 hP => ?_)⟩
    · obtain ⟨s3, kvs, eD, hV⟩ := hP
      obtain ⟨hi, rfl⟩ := nth_row hx
      have hk := hks' _ (List.getElem_mem hi)
      have hn := hR' _ (List.mem_map.mpr ⟨_, List.getElem_mem hi, rfl⟩)
      refine ⟨rfl, yesT ⟨.ref ks'[i].1, rfl, .ref rc, rfl, ks'[i].1, rc, ks'[i].2, r, rfl, s3 _ _ hk, s3 _ _ er, by rw [hn]; exact hrr, fun H4 p s4 np ep => ?_⟩⟩
      refine ⟨kvs, (prj r ks'[i].2).map Sum.inl, p, rfl, s4 _ _ eD, by rw [keys_eq]; exact ep, ?_, Same.put (s3.trans s4) nD, _, upd_same, ?_⟩
      · have := hV.len
        rw [List.length_map, List.length_take] at this
        exact small1000 (by omega)
      · rw [take_next _ hi]
        exact hV.put
    · obtain ⟨s3, kvs, eD, hV⟩ := hP
      rw [List.length_map, List.take_length] at hV
      refine ⟨.ref a, rfl, a, rfl, ⟨_, SqT.of (s3 _ _ ea)⟩, for_tup (K := K) (a := a) (xs := ks.map fun p => V.ref p.1) (fun i σ H4 => ∃ y4, σ = [some (.ref a), some (.ref lc), some (.ref a'), some (.ref rc), y4, some (.ref D)] ∧ Same H H4 ∧ H4 D = some (.dT kvs) ∧ ∀ x ∈ (ks.take i).map (·.2), stray l r (ks'.map (·.2)) x = false)
        ⟨_, rfl, s3, eD, fun x hx => (by cases hx)⟩ (fun i σ H4 _ hP => by obtain ⟨_, _, s4, _⟩ := hP; exact SqT.of (s4 _ _ ea)) (fun i x σ H4 hx hP => ?_) (fun σ H4 hP => ?_)⟩
      · obtain ⟨y4, rfl, s4, eD4, hno⟩ := hP
        obtain ⟨hi, rfl⟩ := nth_row hx
        have hk := hks _ (List.getElem_mem hi)
        have hn := hR _ (List.mem_map.mpr ⟨_, List.getElem_mem hi, rfl⟩)
        refine ⟨.ref ks[i].1, rfl, .ref lc, rfl, ks[i].1, lc, ks[i].2, l, rfl, s4 _ _ hk, s4 _ _ el, by rw [hn]; exact hl, fun H5 p s5 np ep => ?_⟩
        refine ⟨.ref D, rfl, D, valV kvs ((prj l ks[i].2).map Sum.inl), rfl, DGet.t (s5 _ _ eD4) (by rw [keys_eq]; exact ep), ?_⟩
        have est : (!(valV kvs ((prj l ks[i].2).map (Sum.inl : Int → Int ⊕ Str))).isSome) = stray l r (ks'.map (·.2)) ks[i].2 := by
          rw [hV.mem]
          rfl
        rw [est]
        refine ⟨_, rfl, ite2 (fun hs => ?_) (fun hs => ?_)⟩
        · refine ⟨.ref ks[i].1, rfl, by show 1 ≤ sizeLine; decide, fun t nt => ?_⟩
          have s6 := same_upd (o := HO.tup [V.ref ks[i].1]) nt
          refine q _ _ ((s4.trans s5).trans s6) ?_
          rw [wbr_at hi hno hs]
          exact .tup upd_same (.cons (Im.ints (s6 _ _ (s5 _ _ (s4 _ _ hk)))) .nil)
        · refine ⟨_, rfl, s4.trans s5, s5 _ _ eD4, fun x hx => ?_⟩
          rw [take_next _ hi] at hx
          rcases List.mem_append.mp hx with hx | hx
          · exact hno x hx
          · rw [List.mem_singleton.mp hx]
            exact Bool.eq_false_iff.mpr hs
      · obtain ⟨y4, rfl, s4, _, hno⟩ := hP
        rw [List.length_map, List.take_length] at hno
        refine q H4 _ s4 ?_
        have ew : wbr l r (ks.map (·.2)) (ks'.map (·.2)) = none := by
          unfold wbr
          exact List.find?_eq_none.mpr fun x hx => by rw [hno x hx]; decide
        rw [ew]
        rfl
end
end NK

namespace NK
open PySem PySem.Spec PyProof.Rows L2
/-! ### the program: least_breach and keeps of an inclusion -/
theorem scLB : FnScope ["scheme", "store", "dependency", "kind", "rows"] ["scheme", "store", "dependency"] (defScope p_least_breach) := ⟨rfl, rfl, rfl, by decide +kernel, rfl, by decide +kernel, by decide +kernel⟩
/-- an inclusion, and the two tables that it speaks of -/
structure IncDep (K : PySem.W.Frag) (H : Hp) (st dp : V) (t : Int) (l : List Int) (u : Int) (r : List Int) (n n' : Int) (R R' : List (List Int)) (S : List (List (List Int))) : Prop where
  st : Im K H st (storeD S)
  dp : Im K H dp (Dep.within t l u r).data
  t0 : 0 ≤ t
  u0 : 0 ≤ u
  tR : S[t.toNat]? = some R
  uR : S[u.toNat]? = some R'
  hR : ∀ x ∈ R, (x.length : Int) = n
  hR' : ∀ x ∈ R', (x.length : Int) = n'
  len : R.length ≤ 100
  len' : R'.length ≤ 100
  hl : In n l
  hr : In n' r
  ll : l.length = r.length
theorem IncDep.same {K : PySem.W.Frag} {H H' : Hp} {st dp : V} {t u : Int} {l r : List Int} {n n' : Int} {R R' : List (List Int)} {S : List (List (List Int))} (s : Same H H') (h : IncDep K H st dp t l u r n n' R R' S) : IncDep K H' st dp t l u r n n' R R' S :=
  ⟨h.st.same s, h.dp.same s, h.t0, h.u0, h.tR, h.uR, h.hR, h.hR', h.len, h.len', h.hl, h.hr, h.ll⟩
section
variable {P : Program} {w : World} {K : PySem.W.Frag} {mg : Str → Option Value} {base : Heap}
def spLB (K : PySem.W.Frag) : Sp := fun vs H Q _ => ∃ (s st dp : V) (t u : Int) (l r : List Int) (n n' : Int) (R R' : List (List Int)) (S : List (List (List Int))), vs = [s, st, dp] ∧ IncDep K H st dp t l u r n n' R R' S ∧ ∀ H' v, Same H H' → One K H' (wbr l r R R') v → Q v H'
theorem ok_lb {f fV fB : Addr} {fd fdV fdB : FuncData} (mt : mg "tuple" = none) (F : Fun K "least_breach" "least_breach" p_least_breach f fd) (FV : Fun K "values_at" "values_at" p_values_at fV fdV) (bV : Binds K fdV ["row", "columns"] []) (gV : mg "values_at" = some (.ref fV))
    (FB : Fun K "inclusion_breach" "inclusion_breach" p_inclusion_breach fB fdB) (bB : Binds K fdB ["rows", "columns", "other_rows", "others"] []) (gB : mg "inclusion_breach" = some (.ref fB)) :
    FnOk P w K mg base CX0 3 f fd ["scheme", "store", "dependency"] (spLB K) := by
  have GB : FnOk P w K mg base CX0 2 fB fdB ["rows", "columns", "other_rows", "others"] (spIncB K) := ok_incB mt FB FV bV gV
  refine F.ok scLB (fun vs H Q E h => ?_) (fun cdv A outer s H vs Q E hr h => ?_)
  · obtain ⟨s, st, dp, t, u, l, r, n, n', R, R', S, rfl, _⟩ := h
    rfl
  · obtain ⟨sc, st, dp, t, u, l, r, n, n', R, R', S, rfl, hD, q⟩ := h
    obtain ⟨d, lc, rc, rfl, ed, el, er⟩ := hD.dp.inc
    obtain ⟨sa, xs, v, rfl, es, ev, iv⟩ := hD.st.storeGet hD.tR
    obtain ⟨sa', xs', v', e2, es', ev', iv'⟩ := hD.st.storeGet hD.uR
    cases e2
    cases es.symm.trans es'
    have et : t = ((t.toNat : Nat) : Int) := by have := hD.t0; omega
    have eu : u = ((u.toNat : Nat) : Int) := by have := hD.u0; omega
    refine ⟨_, pss_cons (ps_set (i := 3) scLB.nd rfl (.inl rfl) (pe_ix ix_tup (pv 2) pe_int (fun _ _ => rfl)))
      (pss_cons (ps_set (i := 4) scLB.nd rfl (.inl rfl) (pe_ix ix_tup (pv 1) (pe_ix ix_tup (pv 2) pe_int (fun _ _ => rfl)) (fun _ _ => rfl)))
      (pss_cons (ps_if (pt_cmpR op_eq (pv 3) pe_str (nomark _)) (pss_one ps_never) pss_nil)
      (pss_cons (ps_if (pt_cmpR op_eq (pv 3) pe_str (nomark _)) (pss_one (ps_ret (pe_call GB hr (by rfl) gB FB.kp bB .nil pass0 (pa_cons (pv 4) (pa_cons (pe_ix ix_tup (pv 2) pe_int (fun _ _ => rfl)) (pa_cons (pe_ix ix_tup (pv 1) (pe_ix ix_tup (pv 2) pe_int (fun _ _ => rfl)) (fun _ _ => rfl))
          (pa_cons (pe_ix ix_tup (pv 2) pe_int (fun _ _ => rfl)) pa_nil))))))) pss_nil)
      (pss_one ps_never)))), ?_⟩
    refine ⟨.ref d, rfl, d, _, 0, .str "within", rfl, rfl, SqT.of ed, atI_nat (j := 0) rfl, ?_⟩
    refine ⟨.ref sa, rfl, .ref d, rfl, d, _, 1, .int t, rfl, rfl, SqT.of ed, atI_nat (j := 1) rfl, sa, xs, t, v, rfl, rfl, SqT.of es, at_of et ev, ?_⟩
    refine ⟨.str "within", rfl, rfl, _, rfl, iteF ?_⟩
    refine ⟨.str "within", rfl, rfl, _, rfl, iteT ?_⟩
    refine ⟨v, rfl, .ref d, rfl, d, _, 2, .ref lc, rfl, rfl, SqT.of ed, atI_nat (j := 2) rfl, .ref sa, rfl, .ref d, rfl, d, _, 3, .int u, rfl, rfl, SqT.of ed, atI_nat (j := 3) rfl, sa, xs, u, v', rfl, rfl, SqT.of es, at_of eu ev',
      .ref d, rfl, d, _, 4, .ref rc, rfl, rfl, SqT.of ed, atI_nat (j := 4) rfl, ?_⟩
    exact ⟨v, v', lc, rc, R, R', n, n', l, r, rfl, iv, iv', hD.hR, hD.hR', hD.len', el, er, hD.hl, hD.hr, q⟩
abbrev nKeeps : List Str := ["scheme", "store", "dependency", "table", "parts", "choices", "present", "part", "row"]
theorem scKeeps : FnScope nKeeps ["scheme", "store", "dependency"] (defScope p_keeps) := ⟨rfl, rfl, rfl, by decide +kernel, rfl, by decide +kernel, by decide +kernel⟩
def spKeeps (K : PySem.W.Frag) : Sp := fun vs H Q _ => ∃ (s st dp : V) (t u : Int) (l r : List Int) (n n' : Int) (R R' : List (List Int)) (S : List (List (List Int))), vs = [s, st, dp] ∧ IncDep K H st dp t l u r n n' R R' S ∧ ∀ H', Same H H' → Q (.bl (wbr l r R R').isNone) H'
theorem ok_keeps {f fV fB fL : Addr} {fd fdV fdB fdL : FuncData} (mt : mg "tuple" = none) (F : Fun K "keeps" "keeps" p_keeps f fd) (FV : Fun K "values_at" "values_at" p_values_at fV fdV) (bV : Binds K fdV ["row", "columns"] []) (gV : mg "values_at" = some (.ref fV))
    (FB : Fun K "inclusion_breach" "inclusion_breach" p_inclusion_breach fB fdB) (bB : Binds K fdB ["rows", "columns", "other_rows", "others"] []) (gB : mg "inclusion_breach" = some (.ref fB))
    (FL : Fun K "least_breach" "least_breach" p_least_breach fL fdL) (bL : Binds K fdL ["scheme", "store", "dependency"] []) (gL : mg "least_breach" = some (.ref fL)) :
    FnOk P w K mg base CX0 4 f fd ["scheme", "store", "dependency"] (spKeeps K) := by
  have GL : FnOk P w K mg base CX0 3 fL fdL ["scheme", "store", "dependency"] (spLB K) := ok_lb mt FL FV bV gV FB bB gB
  refine F.ok scKeeps (fun vs H Q E h => ?_) (fun cdv A outer s H vs Q E hr h => ?_)
  · obtain ⟨s, st, dp, t, u, l, r, n, n', R, R', S, rfl, _⟩ := h
    rfl
  · obtain ⟨sc, st, dp, t, u, l, r, n, n', R, R', S, rfl, hD, q⟩ := h
    obtain ⟨d, lc, rc, rfl, ed, el, er⟩ := hD.dp.inc
    refine ⟨_, pss_cons (ps_if (pt_cmpR op_notIn_seq (pe_ix ix_tup (pv 2) pe_int (fun _ _ => rfl)) (pe_tup (pa_cons pe_str (pa_cons pe_str pa_nil))) (by rfl)) (pss_one (ps_ret (pe_cmpR op_isN (pe_call GL hr (by rfl) gL FL.kp bL .nil pass0 (pa_cons (pv 0) (pa_cons (pv 1) (pa_cons (pv 2) pa_nil)))) pe_non (nomark _)))) pss_nil)
      (pss_cons ps_never (pss_cons ps_never (pss_cons ps_never (pss_cons ps_never (pss_one ps_never))))), ?_⟩
    refine ⟨.ref d, rfl, d, _, 0, .str "within", rfl, rfl, SqT.of ed, atI_nat (j := 0) rfl, by show 2 ≤ sizeLine; decide, fun t1 n1 => ?_⟩
    have s1 := same_upd (o := HO.tup [.str (Str.ofString "deals"), .str (Str.ofString "joins")]) n1
    refine ⟨t1, _, rfl, .inr (SqT.of upd_same), rfl, rfl, _, rfl, ?_⟩
    refine iteT ⟨sc, rfl, st, rfl, .ref d, rfl, sc, st, .ref d, t, u, l, r, n, n', R, R', S, rfl, hD.same s1, fun H' v s2 hO => ?_⟩
    refine ⟨rfl, ?_⟩
    rw [hO.isN]
    exact q H' (s1.trans s2)
end
end NK

namespace NK
open PySem PySem.Spec PyProof.Rows L2
abbrev nIncl : List Str := ["draws", "scheme", "order", "first", "table", "other", "many", "columns", "others", "column"]
abbrev nOrder : List Str := ["draws", "scheme", "table"]
theorem scIncl : FnScope nIncl ["draws", "scheme", "order"] (defScope sIncl) := ⟨rfl, rfl, rfl, by decide +kernel, rfl, by decide +kernel, by decide +kernel⟩
def upTo (n : Nat) : List Int := (List.range n).map Int.ofNat
theorem upTo_succ (n : Nat) : upTo (n + 1) = upTo n ++ [0 + (n : Int)] := by
  unfold upTo
  rw [List.range_succ, List.map_append]
  show _ ++ [(n : Int)] = _
  rw [Int.zero_add]
theorem upTo_len (n : Nat) : (upTo n).length = n := by
  unfold upTo
  rw [List.length_map, List.length_range]
theorem upTo_mem {n : Nat} {x : Int} (h : x ∈ upTo n) : 0 ≤ x ∧ x < n := by
  obtain ⟨y, hy, rfl⟩ := List.mem_map.mp h
  have := List.mem_range.mp hy
  constructor
  · exact Int.natCast_nonneg _
  · show ((y : Nat) : Int) < n
    omega
theorem cut_take (xs : List V) (m : Nat) : cutV xs none (some (m : Int)) = xs.take m := by
  unfold cutV
  rw [HT.sIx_none, HT.sIx_nat, List.drop_zero, Nat.sub_zero]
  by_cases h : m ≤ xs.length
  · rw [Nat.min_eq_left h]
  · rw [Nat.min_eq_right (by omega), List.take_length, List.take_of_length_le (by omega)]
theorem item_of {l : List Int} {i : Int} (h0 : 0 ≤ i) (h1 : i < (l.length : Int)) : ∃ (x : Int), x ∈ l ∧ atI (l.map V.int) i = some (.int x) := by
  have h2 : i.toNat < l.length := by omega
  refine ⟨l[i.toNat], List.getElem_mem h2, at_of (by omega : i = (i.toNat : Int)) ?_⟩
  rw [List.getElem?_map, List.getElem?_eq_getElem h2]
  rfl
theorem upTo_nodup (n : Nat) : (upTo n).Nodup := List.Pairwise.map _ (fun a b h e => h (Int.ofNat.inj e)) List.nodup_range
theorem item_at {l : List Int} {i : Int} (h0 : 0 ≤ i) (h1 : i < (l.length : Int)) : ∃ (x : Int), x ∈ l ∧ atI (l.map V.int) i = some (.int x) ∧ l[i.toNat]? = some x := by
  have h2 : i.toNat < l.length := by omega
  refine ⟨l[i.toNat], List.getElem_mem h2, at_of (by omega : i = (i.toNat : Int)) ?_, List.getElem?_eq_getElem h2⟩
  rw [List.getElem?_map, List.getElem?_eq_getElem h2]
  rfl
section
variable {P : Program} {w : World} {K : PySem.W.Frag} {mg : Str → Option Value} {base : Heap}
/-! ### an inclusion -/
def spIncl (K : PySem.W.Frag) : Sp := fun vs H Q _ => ∃ (d s o : Addr) (ws os : List Int), vs = [.ref d, .ref s, .ref o] ∧ SqT K H s (ws.map V.int) ∧ Widths 13 ws ∧ H o = some (.lst (os.map V.int)) ∧ o ≠ d ∧ os.length ≤ 12 ∧ 2 ≤ os.length ∧ (∀ x ∈ os, 0 ≤ x ∧ x < ws.length) ∧ Dr H d ∧
  ∀ H' p (t u : Int) (l r : List Int) (n n' : Int), Go d H H' → Im K H' (.ref p) (Dep.within t l u r).data → 0 ≤ t → 0 ≤ u → ws[t.toNat]? = some n → ws[u.toNat]? = some n' → In n l → In n' r → l.length = r.length → 1 ≤ l.length → (∃ i j : Nat, i < j ∧ os[i]? = some t ∧ os[j]? = some u) → l.Nodup → r.Nodup → Q (.ref p) H'
theorem ok_incl {f fT fS : Addr} {fd fdT fdS : FuncData} (T : Hlp K mg fT fdT) (F : Fun K "_law_inclusion" "_law_inclusion" sIncl f fd) (FS : Fun K "_law_shuffled" "_law_shuffled" sShuf fS fdS) (bS : Binds K fdS ["draws", "row"] []) (gS : mg "_law_shuffled" = some (.ref fS)) :
    FnOk P w K mg base CX0 3 f fd ["draws", "scheme", "order"] (spIncl K) := by
  have GT : FnOk P w K mg base CX0 1 fT fdT ["draws", "many"] spTake := ok_take T.FT T.len T.int
  have GS : FnOk P w K mg base CX0 2 fS fdS ["draws", "row"] spShuf := ok_shuf T FS
  refine F.ok scIncl (fun vs H Q E h => ?_) (fun cdv A outer s H vs Q E hr h => ?_)
  · obtain ⟨d, s, o, ws, os, rfl, _⟩ := h
    rfl
  · obtain ⟨d, sc, o, ws, os, rfl, hS, hw, eo, nod, hlen, h2, hos, D, q⟩ := h
    have hr1 := hr.mono (show 1 ≤ 2 by decide)
    refine ⟨_, pss_cons (ps_set (i := 3) scIncl.nd rfl (.inl rfl) (pe_call GT hr1 (by rfl) T.gT T.FT.kp T.bT .nil pass0 (pa_cons (pv 0) (pa_cons (pe_op op_sub (pe_callB call_len_seq (by rfl) T.len PySem.boot_len (pa_cons (pv 2) pa_nil)) pe_int) pa_nil))))
      (pss_cons (ps_set (i := 4) scIncl.nd rfl (.inl rfl) (pe_ix ix_list (pv 2) (pv 3) (fun _ _ => rfl)))
      (pss_cons (ps_set (i := 5) scIncl.nd rfl (.inl rfl) (pe_ix ix_list (pv 2) (pe_op op_add (pe_op op_add (pv 3) pe_int) (pe_call GT hr1 (by rfl) T.gT T.FT.kp T.bT .nil pass0 (pa_cons (pv 0) (pa_cons (pe_op op_sub (pe_op op_sub (pe_callB call_len_seq (by rfl) T.len PySem.boot_len (pa_cons (pv 2) pa_nil)) pe_int) (pv 3)) pa_nil)))) (fun _ _ => rfl)))
      (pss_cons (ps_set (i := 6) scIncl.nd rfl (.inl rfl) (pe_op op_add pe_int (pe_call GT hr1 (by rfl) T.gT T.FT.kp T.bT .nil pass0 (pa_cons (pv 0) (pa_cons (pe_callB (call_min2 rfl) (by rfl) T.min boot_min (pa_cons (pe_ix ix_tup (pv 1) (pv 4) (fun _ _ => rfl)) (pa_cons (pe_ix ix_tup (pv 1) (pv 5) (fun _ _ => rfl)) pa_nil))) pa_nil)))))
      (pss_cons (ps_set (i := 7) scIncl.nd rfl (.inl rfl) (pe_slice sl_list (pe_call GS hr (by rfl) gS FS.kp bS .nil pass0 (pa_cons (pv 0) (pa_cons
          (pe_lc (own := [("column", 9)]) (g := gName 9) (by rfl) scIncl.nd (pi_range1 rfl T.range (pa_cons (pe_ix ix_tup (pv 1) (pv 4) (fun _ _ => rfl)) pa_nil)) (blkOk_by (N := nIncl) (sc := defScope sIncl) (by decide +kernel))
            (fun _ _ _ _ _ => pg_name (i := 9) scIncl.nd rfl (Or.inl rfl)) (fun _ _ _ _ _ => pts_nil) (fun _ _ _ _ _ => pv 9)) pa_nil))) po_none (po_some (pv 6))))
      (pss_cons (ps_set (i := 8) scIncl.nd rfl (.inl rfl) (pe_slice sl_list (pe_call GS hr (by rfl) gS FS.kp bS .nil pass0 (pa_cons (pv 0) (pa_cons
          (pe_lc (own := [("column", 9)]) (g := gName 9) (by rfl) scIncl.nd (pi_range1 rfl T.range (pa_cons (pe_ix ix_tup (pv 1) (pv 5) (fun _ _ => rfl)) pa_nil)) (blkOk_by (N := nIncl) (sc := defScope sIncl) (by decide +kernel))
            (fun _ _ _ _ _ => pg_name (i := 9) scIncl.nd rfl (Or.inl rfl)) (fun _ _ _ _ _ => pts_nil) (fun _ _ _ _ _ => pv 9)) pa_nil))) po_none (po_some (pv 6))))
      (pss_one (ps_ret (pe_tup (pa_cons pe_str (pa_cons (pv 4) (pa_cons (pe_callTy call_tuple_of (by rfl) T.tuple boot_tuple (pa_cons (pv 7) pa_nil)) (pa_cons (pv 5) (pa_cons (pe_callTy call_tuple_of (by rfl) T.tuple boot_tuple (pa_cons (pv 8) pa_nil)) pa_nil))))))))))))), ?_⟩
    -- first
    refine ⟨.ref d, rfl, .ref o, rfl, o, _, rfl, .inl (SqL.of eo), _, _, rfl, rfl, d, _, rfl, by rw [List.length_map]; omega, D, fun H1 a g1 a0 a1 => ?_⟩
    rw [List.length_map] at a1
    have eo1 := g1.keep eo nod
    obtain ⟨t, ht, et, ot⟩ := item_at (l := os) a0 (by omega)
    refine ⟨.ref o, rfl, .int a, rfl, o, _, a, .int t, rfl, rfl, SqL.of eo1, et, ?_⟩
    -- other
    refine ⟨.ref o, rfl, .int a, rfl, _, _, rfl, rfl, .ref d, rfl, .ref o, rfl, o, _, rfl, .inl (SqL.of eo1), _, _, rfl, rfl, .int a, rfl, _, _, rfl, rfl, d, _, rfl, by rw [List.length_map]; omega, g1.dr, fun H2 b g2 b0 b1 => ?_⟩
    rw [List.length_map] at b1
    have eo2 := g2.keep eo1 nod
    have g12 := g1.trans g2
    obtain ⟨u, hu, eu, ou⟩ := item_at (l := os) (i := a + 1 + b) (by omega) (by omega)
    refine ⟨_, _, rfl, rfl, o, _, _, .int u, rfl, rfl, SqL.of eo2, eu, ?_⟩
    have ht2 := hos t ht
    have hu2 := hos u hu
    obtain ⟨x, hx, ex, wx⟩ := item_at (l := ws) ht2.1 ht2.2
    obtain ⟨y, hy, ey, wy⟩ := item_at (l := ws) hu2.1 hu2.2
    have hx2 := hw.2.2 x hx
    have hy2 := hw.2.2 y hy
    have hwl : ws.length ≤ 12 := hw.2.1
    -- many
    refine ⟨.ref d, rfl, .ref sc, rfl, .int t, rfl, sc, _, t, .int x, rfl, rfl, SqT.go g12 D hS, ex, .ref sc, rfl, .int u, rfl, sc, _, u, .int y, rfl, rfl, SqT.go g12 D hS, ey, x, y, rfl, d, _, rfl, by split <;> omega, g2.dr, fun H3 m g3 m0 m1 => ?_⟩
    have g13 := g12.trans g3
    refine ⟨_, _, rfl, rfl, ?_⟩
    dsimp only
    generalize hM : 1 + m = M
    obtain ⟨M, rfl⟩ := Int.eq_ofNat_of_zero_le (show 0 ≤ M by omega)
    -- columns
    refine ⟨.ref d, rfl, .ref sc, rfl, .int t, rfl, sc, _, t, .int x, rfl, rfl, SqT.go g13 D hS, ex, x, rfl, by omega, by omega, fun C nC => lc_range (lo := 0) (n := x.toNat) (fun i H4 => Go d H H4 ∧ H4 C = some (.lst ((upTo i).map V.int)))
      ⟨g13.new nC, by rw [upd_same]; rfl⟩ (fun i H4 hi hP => ?_) (fun H4 hP => ?_)⟩
    · obtain ⟨g4, eC⟩ := hP
      refine ⟨rfl, yesT ⟨.int (0 + (i : Int)), rfl, _, eC, ?_, g4.put (g13.free nC) (g13.dr.ne nC), ?_⟩⟩
      · rw [List.length_map, upTo_len]
        exact small1000 (by omega)
      · rw [upd_same, upTo_succ, List.map_append]
        rfl
    · obtain ⟨g4, eC⟩ := hP
      refine ⟨d, C, upTo x.toNat, rfl, eC, (g13.dr.ne nC).symm, by rw [upTo_len]; omega, g4.dr, fun H5 p1 c1 g5 np1 e1 pm1 => ?_⟩
      have g15 := g4.trans g5
      refine ⟨.int (M : Int), rfl, (M : Int), rfl, p1, _, rfl, SqL.of e1, fun q1 nq1 => ?_⟩
      rw [cut_take, ← List.map_take]
      have g16 := g15.new (o := .lst ((c1.take M).map V.int)) nq1
      have nq1d : q1 ≠ d := (g15.dr.ne nq1).symm
      -- others
      refine ⟨.ref d, rfl, .ref sc, rfl, .int u, rfl, sc, _, u, .int y, rfl, rfl, SqT.go g16 D hS, ey, y, rfl, by omega, by omega, fun C2 nC2 => lc_range (lo := 0) (n := y.toNat) (fun i H6 => Go d H H6 ∧ H6 q1 = some (.lst ((c1.take M).map V.int)) ∧ H6 C2 = some (.lst ((upTo i).map V.int)))
        ⟨g16.new nC2, by rw [upd_ne (ne_of_none upd_same nC2), upd_same], by rw [upd_same]; rfl⟩ (fun i H6 hi hP => ?_) (fun H6 hP => ?_)⟩
      · obtain ⟨g6, eq1, eC2⟩ := hP
        refine ⟨rfl, yesT ⟨.int (0 + (i : Int)), rfl, _, eC2, ?_, g6.put (g16.free nC2) (g16.dr.ne nC2), ?_, ?_⟩⟩
        · rw [List.length_map, upTo_len]
          exact small1000 (by omega)
        · rw [upd_ne (ne_of_none upd_same nC2)]
          exact eq1
        · rw [upd_same, upTo_succ, List.map_append]
          rfl
      · obtain ⟨g6, eq1, eC2⟩ := hP
        refine ⟨d, C2, upTo y.toNat, rfl, eC2, (g16.dr.ne nC2).symm, by rw [upTo_len]; omega, g6.dr, fun H7 p2 c2 g7 np2 e2 pm2 => ?_⟩
        have g17 := g6.trans g7
        have eq7 := g7.keep eq1 nq1d
        refine ⟨.int (M : Int), rfl, (M : Int), rfl, p2, _, rfl, SqL.of e2, fun q2 nq2 => ?_⟩
        rw [cut_take, ← List.map_take]
        have s8 := same_upd (o := HO.lst ((c2.take M).map V.int)) nq2
        -- the tuple
        refine ⟨.int t, rfl, .ref q1, rfl, q1, _, rfl, .inl ⟨SqL.of (s8 _ _ eq7), fun t1 nt1 => ?_⟩⟩
        have s9 := same_upd (o := HO.tup ((c1.take M).map V.int)) nt1
        refine ⟨.int u, rfl, .ref q2, rfl, q2, _, rfl, .inl ⟨SqL.of (s9 _ _ upd_same), fun t2 nt2 => ?_⟩⟩
        have s10 := same_upd (o := HO.tup ((c2.take M).map V.int)) nt2
        refine ⟨by show 5 ≤ sizeLine; decide, fun p np => ?_⟩
        have s11 := same_upd (o := HO.tup [.str "within", .int t, .ref t1, .int u, .ref t2]) np
        have g20 := (((g17.new (o := HO.lst ((c2.take M).map V.int)) nq2).new (o := HO.tup ((c1.take M).map V.int)) nt1).new (o := HO.tup ((c2.take M).map V.int)) nt2).new (o := HO.tup [.str "within", .int t, .ref t1, .int u, .ref t2]) np
        have hc1 := pm1.length_eq
        have hc2 := pm2.length_eq
        rw [upTo_len] at hc1 hc2
        refine q _ p t u (c1.take M) (c2.take M) x y g20 ?_ ht2.1 hu2.1 wx wy ⟨by rw [List.length_take]; omega, fun z hz => ?_⟩ ⟨by rw [List.length_take]; omega, fun z hz => ?_⟩ ?_ ?_ ?_ ?_ ?_
        · exact .tup upd_same (.cons (.str _) (.cons (.int _) (.cons (Im.ints (s11 _ _ (s10 _ _ upd_same))) (.cons (.int _) (.cons (Im.ints (s11 _ _ upd_same)) .nil)))))
        · have := upTo_mem (pm1.mem_iff.mp (List.mem_of_mem_take hz))
          omega
        · have := upTo_mem (pm2.mem_iff.mp (List.mem_of_mem_take hz))
          omega
        · rw [List.length_take, List.length_take]
          have h1 : M ≤ x.toNat := by split at m1 <;> omega
          have h2 : M ≤ y.toNat := by split at m1 <;> omega
          omega
        · rw [List.length_take]
          omega
        · exact ⟨a.toNat, (a + 1 + b).toNat, by omega, ot, ou⟩
        · exact (List.take_sublist M c1).nodup (pm1.nodup_iff.mpr (upTo_nodup _))
        · exact (List.take_sublist M c2).nodup (pm2.nodup_iff.mpr (upTo_nodup _))
end
end NK

namespace NK
open PySem PySem.Spec PyProof.Rows L2
theorem u65 {k : Nat} {A : Around} (r : Room k A) : A.units + 65 < cLine := by have := r.un; omega
/-- the values of rows in columns, each once, in ascending order -/
structure Prj (l : List Int) (R M : List (List Int)) : Prop where
  asc : M.Pairwise (· < ·)
  mem : ∀ y, y ∈ M ↔ y ∈ R.map (prj l)
theorem asc_ext : ∀ {M N : List (List Int)}, M.Pairwise (· < ·) → N.Pairwise (· < ·) → (∀ y, y ∈ M ↔ y ∈ N) → M = N
  | [], [], _, _, _ => rfl
  | [], b :: N, _, _, h => by cases (h b).mpr (List.mem_cons_self ..)
  | a :: M, [], _, _, h => by cases (h a).mp (List.mem_cons_self ..)
  | a :: M, b :: N, hM, hN, h => by
    rw [List.pairwise_cons] at hM hN
    have e : a = b := by
      rcases List.mem_cons.mp ((h a).mp (List.mem_cons_self ..)) with e | ha
      · exact e
      · rcases List.mem_cons.mp ((h b).mpr (List.mem_cons_self ..)) with e | hb
        · exact e.symm
        · exact absurd (List.lt_trans (hN.1 a ha) (hM.1 b hb)) (row_lt_irrefl b)
    subst e
    rw [asc_ext hM.2 hN.2 fun y => ⟨fun hy => ?_, fun hy => ?_⟩]
    · rcases List.mem_cons.mp ((h y).mp (List.mem_cons_of_mem _ hy)) with e | z
      · subst e
        exact absurd (hM.1 _ hy) (row_lt_irrefl _)
      · exact z
    · rcases List.mem_cons.mp ((h y).mpr (List.mem_cons_of_mem _ hy)) with e | z
      · subst e
        exact absurd (hN.1 _ hy) (row_lt_irrefl _)
      · exact z
theorem Prj.one {l : List Int} {R M N : List (List Int)} (a : Prj l R M) (b : Prj l R N) : M = N := asc_ext a.asc b.asc fun y => (a.mem y).trans (b.mem y).symm
theorem nodup_short : ∀ {L : List (List Int)}, L.Nodup → (∀ x ∈ L, x = []) → L.length ≤ 1
  | [], _, _ => Nat.zero_le _
  | [_], _, _ => Nat.le_refl _
  | a :: b :: L, h, e => by
    rw [List.nodup_cons] at h
    exact absurd (by rw [e a (List.mem_cons_self ..), e b (by simp)]; exact List.mem_cons_self ..) h.1
/-- rows of one width have values that are all empty or none -/
theorem empty_or {l : List Int} {L : List (List Int)} (nd : L.Nodup) (h : ∀ y ∈ L, y.length = l.length) : (∀ y ∈ L, y ≠ []) ∨ L.length ≤ 1 := by
  cases l with
  | nil => exact .inr (nodup_short nd fun y hy => List.eq_nil_of_length_eq_zero (h y hy))
  | cons a l => exact .inl fun y hy e => by have := h y hy; rw [e] at this; cases this
theorem scProj : FnScope ["rows", "columns", "row"] ["rows", "columns"] (defScope p_projection) := ⟨rfl, rfl, rfl, by decide +kernel, rfl, by decide +kernel, by decide +kernel⟩
section
variable {P : Program} {w : World} {K : PySem.W.Frag} {mg : Str → Option Value} {base : Heap}
def spProj (K : PySem.W.Frag) : Sp := fun vs H Q _ => ∃ (a c : Addr) (ks : List (Addr × List Int)) (n : Int) (l : List Int), vs = [.ref a, .ref c] ∧ H a = some (.tup (ks.map fun p => V.ref p.1)) ∧ (∀ p ∈ ks, H p.1 = some (.tup (p.2.map V.int)) ∧ (p.2.length : Int) = n) ∧ ks.length < 63 ∧ H c = some (.tup (l.map V.int)) ∧ In n l ∧
  ∀ H' v M, Same H H' → Im K H' v (rowsD M) → Prj l (ks.map (·.2)) M → Q v H'
theorem ok_proj {f fV : Addr} {fd fdV : FuncData} (mt : mg "tuple" = none) (mso : mg "sorted" = none) (F : Fun K "projection" "projection" p_projection f fd) (FV : Fun K "values_at" "values_at" p_values_at fV fdV) (bV : Binds K fdV ["row", "columns"] []) (gV : mg "values_at" = some (.ref fV)) :
    FnOk P w K mg base CX0 2 f fd ["rows", "columns"] (spProj K) := by
  have GV : FnOk P w K mg base CX0 1 fV fdV ["row", "columns"] spVals := ok_vals mt FV
  refine F.ok scProj (fun vs H Q E h => ?_) (fun cdv A outer s H vs Q E hr h => ?_)
  · obtain ⟨a, c, ks, n, l, rfl, _⟩ := h
    rfl
  · obtain ⟨a, c, ks, n, l, rfl, ea, hks, few, ec, hl, q⟩ := h
    refine ⟨_, pss_one (ps_ret (pe_callTy call_tuple_of (by rfl) mt boot_tuple (pa_cons (pe_callB (NR.cr_srtA rfl hr.units) (by rfl) mso boot_sorted (pa_cons
        (NR.pe_scT (own := [("row", 2)]) (g := gName 2) (by rfl) scProj.nd (hu_of hr) (pi_tup (pv 0)) (blkOk_by (N := ["rows", "columns", "row"]) (sc := defScope p_projection) (by decide +kernel))
          (fun _ _ _ _ _ => pg_name (i := 2) scProj.nd rfl (Or.inl rfl)) (fun _ _ _ _ _ => pts_nil) (fun _ _ _ _ _ => pe_call GV hr (by rfl) gV FV.kp bV .nil pass0 (pa_cons (pv 2) (pa_cons (pv 1) pa_nil)))) pa_nil)) pa_nil))), ?_⟩
    refine ⟨.ref a, rfl, a, rfl, ⟨_, SqT.of ea⟩, fun D nD => NR.scT_tup (P := P) (w := w) (K := K) (a := a) (xs := ks.map fun p => V.ref p.1) (fun i H3 => Same H H3 ∧ ∃ L, H3 D = some (SetTO P w D L) ∧ (∀ p ∈ L, H3 p.1 = some (.tup (p.2.map V.int)) ∧ p.1 ≠ D) ∧ L.length ≤ i ∧ (L.map (·.2)).Nodup ∧ ∀ y, y ∈ L.map (·.2) ↔ y ∈ (ks.take i).map fun p => prj l p.2)
      ⟨same_upd nD, [], upd_same, fun p hp => (by cases hp), Nat.le_refl _, List.nodup_nil, fun y => Iff.rfl⟩ (fun i H3 _ h => SqT.of (h.1 _ _ ea)) (fun i x H3 hx hP => ?_) (fun H3 hP => ?_)⟩
    · obtain ⟨s3, L, eD, hL, hLl, nd, mem⟩ := hP
      obtain ⟨hi, rfl⟩ := nth_row hx
      have hk := hks _ (List.getElem_mem hi)
      refine ⟨rfl, yesT ⟨.ref ks[i].1, rfl, .ref c, rfl, ks[i].1, c, ks[i].2, l, rfl, s3 _ _ hk.1, s3 _ _ ec, by rw [hk.2]; exact hl, fun H4 p s4 np ep => ?_⟩⟩
      have npD : p ≠ D := fun e => by rw [e, eD] at np; cases np
      refine ⟨L, prj l ks[i].2, p, rfl, s4 _ _ eD, fun p hp => SqT.of (s4 _ _ (hL p hp).1), ep, by omega, fun L' same more => ?_⟩
      have s5 : Same H (upd H4 D (SetTO P w D L')) := Same.put (s3.trans s4) nD
      by_cases hin : prj l ks[i].2 ∈ L.map (·.2)
      · rw [same hin] at s5 ⊢
        refine ⟨s5, L, upd_same, fun p hp => ⟨by rw [upd_ne (hL p hp).2]; exact s4 _ _ (hL p hp).1, (hL p hp).2⟩, by omega, nd, fun y => ?_⟩
        rw [take_next _ hi, List.mem_append, mem]
        exact ⟨Or.inl, fun z => z.elim id fun z => by rw [List.mem_singleton.mp z, ← mem]; exact hin⟩
      · have pm := more hin
        refine ⟨s5, L', upd_same, fun p' hp => ?_, by rw [pm.length_eq]; exact Nat.succ_le_succ hLl, ?_, fun y => ?_⟩
        · rcases List.mem_cons.mp (pm.mem_iff.mp hp) with e | hp
          · rw [e, upd_ne npD]
            exact ⟨ep, npD⟩
          · rw [upd_ne (hL p' hp).2]
            exact ⟨s4 _ _ (hL p' hp).1, (hL p' hp).2⟩
        · rw [(pm.map (·.2)).nodup_iff]
          exact List.nodup_cons.mpr ⟨hin, nd⟩
        · rw [(pm.map (·.2)).mem_iff, take_next _ hi, List.mem_append]
          show y ∈ prj l ks[i].2 :: L.map (·.2) ↔ _
          rw [List.mem_cons, mem, List.mem_singleton]
          exact ⟨fun z => z.elim .inr .inl, fun z => z.elim .inr .inl⟩
    · obtain ⟨s3, L, eD, hL, hLl, nd, mem⟩ := hP
      rw [List.length_map, List.take_length] at mem
      have hlen : ∀ y ∈ L.map (·.2), y.length = l.length := fun y hy => by
        obtain ⟨p, _, rfl⟩ := List.mem_map.mp ((mem y).mp hy)
        unfold prj
        rw [List.length_map]
      have hne : (∀ p ∈ L, p.2 ≠ []) ∨ L.length ≤ 1 := by
        rcases empty_or nd hlen with h | h
        · exact .inl fun p hp => h _ (List.mem_map.mpr ⟨p, hp, rfl⟩)
        · rw [List.length_map] at h
          exact .inr h
      refine ⟨D, L, rfl, eD, fun p hp => SqT.of (hL p hp).1, hne, fun M b pm asc nb => ⟨b, _, rfl, .inl ⟨SqL.of upd_same, fun t2 nt2 => ?_⟩⟩⟩
      have s4 := (same_upd (o := HO.lst (M.map fun k => V.ref k.1)) nb).trans (same_upd (o := HO.tup (M.map fun k => V.ref k.1)) nt2)
      refine q _ _ (M.map (·.2)) (s3.trans s4) (.tup upd_same (ImAll.rows M fun k hk => s4 _ _ (hL k (pm.mem_iff.mp hk)).1)) ⟨List.pairwise_map.mpr asc, fun y => ?_⟩
      rw [(pm.map (·.2)).mem_iff, mem, List.map_map]
      exact Iff.rfl
end
end NK

namespace NK
open PySem PySem.Spec PyProof.Rows L2
theorem Go.ofSame {d : Addr} {H H' : Hp} (s : Same H H') (D : Dr H d) : Go d H H' := by
  obtain ⟨ds, e, l⟩ := D
  exact ⟨.same s, ds, s _ _ e, l⟩
theorem cutDrop (xs : List V) (m : Nat) : cutV xs (some (m : Int)) none = xs.drop m := by
  unfold cutV
  rw [HT.sIx_none, HT.sIx_nat]
  by_cases h : m ≤ xs.length
  · rw [Nat.min_eq_left h, List.take_of_length_le (by rw [List.length_drop]; omega)]
  · rw [Nat.min_eq_right (by omega), List.drop_eq_nil_of_le (by omega), List.drop_eq_nil_of_le (by omega), List.take_nil]
theorem cutAll {xs : List V} {lo hi : Option Int} (h : HT.sIx xs.length 0 lo = 0 ∧ HT.sIx xs.length xs.length hi = xs.length) : cutV xs lo hi = xs := by
  unfold cutV
  rw [h.1, h.2, List.drop_zero, Nat.sub_zero, List.take_length]
theorem ImAll.set {K : PySem.W.Frag} {H : Hp} {v : V} {d : PyData} (h : Im K H v d) : ∀ {vs : List V} {ds : List PyData} (i : Nat), ImAll K H vs ds → ImAll K H (vs.set i v) (ds.set i d)
  | _, _, _, .nil => .nil
  | _, _, 0, .cons _ r => .cons h r
  | _, _, i + 1, .cons g r => .cons g (ImAll.set h i r)
section
variable {X : Cx}
/-- t[lo:hi] and t + u of tuples, whether the object is new or one of the old ones -/
def rSlU (K : PySem.W.Frag) : V → Option Int → Option Int → Hp → VK → Prop := fun x lo hi H Q => ∃ a xs, x = .ref a ∧ H a = some (.tup xs) ∧ ∀ p H1, Same H H1 → H1 p = some (.tup (cutV xs lo hi)) → Q (.ref p) H1
theorem sl_tupU : SlR X (rSlU X.K) := by
  intro pins s σ H x v vl vu lo hi sl Q I rx hs pl pu h
  obtain ⟨a, xs, rfl, ha, q⟩ := h
  exact sl_tupA pins s σ H _ v vl vu lo hi sl Q I rx hs pl pu ⟨a, xs, rfl, SqT.of ha, fun hw => q a H (Same.refl H) (by rw [cutAll hw]; exact ha), fun _ p np => q p _ (same_upd np) upd_same⟩
def rCatU (K : PySem.W.Frag) : R2 := fun x y H Q => ∃ a b xs ys, x = .ref a ∧ y = .ref b ∧ H a = some (.tup xs) ∧ H b = some (.tup ys) ∧ xs.length + ys.length ≤ 100000 ∧ ∀ p H1, Same H H1 → H1 p = some (.tup (xs ++ ys)) → Q (.ref p) H1
theorem op_catU : OpR X (binaryOp .Add) (rCatU X.K) := by
  intro pins s σ H x y v u Q I rx ry h
  obtain ⟨a, b, xs, ys, rfl, rfl, ha, hb, hz, q⟩ := h
  refine op_catA pins s σ H _ _ v u Q I rx ry ⟨a, b, xs, ys, rfl, rfl, SqT.of ha, SqT.of hb, Nat.le_trans hz (by decide), fun e => q b H (Same.refl H) ?_, fun _ e => q a H (Same.refl H) ?_, fun _ _ p np => q p _ (same_upd np) upd_same⟩
  · rw [e, List.nil_append]
    exact hb
  · rw [e, List.append_nil]
    exact ha
end
/-- all stays but the draws and one list -/
structure Kp (d A : Addr) (H H' : Hp) : Prop where
  kb : ∀ b o, b ≠ d → b ≠ A → H b = some o → H' b = some o
  dr : Dr H' d
theorem Kp.refl {d A : Addr} {H : Hp} (D : Dr H d) : Kp d A H H := ⟨fun _ _ _ _ h => h, D⟩
theorem Kp.go {d A : Addr} {H H1 H2 : Hp} (k : Kp d A H H1) (g : Go d H1 H2) : Kp d A H H2 := ⟨fun b o n m h => g.kb b o n (k.kb b o n m h), g.dr⟩
theorem Kp.put {d A p : Addr} {H H1 : Hp} {o : HO} (k : Kp d A H H1) (n : p = A ∨ H p = none) (hp : d ≠ p) : Kp d A H (upd H1 p o) := ⟨fun b x nb mb h => by
  rw [upd_ne (fun e => by
    subst e
    rcases n with n | n
    · exact mb n
    · rw [h] at n
      cases n)]
  exact k.kb b x nb mb h, k.dr.upd hp⟩
theorem Kp.free {d A p : Addr} {H H1 : Hp} (k : Kp d A H H1) (n : H1 p = none) (hd : p ≠ d) (hA : p ≠ A) : H p = none := by
  cases e : H p with
  | none => rfl
  | some o =>
    rw [k.kb p o hd hA e] at n
    cases n
theorem Kp.keepT {d A : Addr} {H H1 : Hp} {ys : List V} (k : Kp d A H H1) (D : Dr H d) (eA : H A = some (.lst ys)) {b : Addr} {xs : List V} (h : H b = some (.tup xs)) : H1 b = some (.tup xs) := by
  obtain ⟨ds, e, _⟩ := D
  exact k.kb b _ (fun z => by rw [z, e] at h; cases h) (fun z => by rw [z, eA] at h; cases h) h
theorem IncDep.map {K : PySem.W.Frag} {H H' : Hp} {st dp : V} {t u : Int} {l r : List Int} {n n' : Int} {R R' : List (List Int)} {S : List (List (List Int))} (s : ∀ a xs, H a = some (.tup xs) → H' a = some (.tup xs)) (h : IncDep K H st dp t l u r n n' R R' S) : IncDep K H' st dp t l u r n n' R R' S :=
  ⟨h.st.map s, h.dp.map s, h.t0, h.u0, h.tR, h.uR, h.hR, h.hR', h.len, h.len', h.hl, h.hr, h.ll⟩
theorem set_at {α : Type} {S : List α} {i : Nat} {R : α} (h : i < S.length) : (S.set i R)[i]? = some R := by
  rw [List.getElem?_set, if_pos rfl, if_pos h]
/-- another store, with other rows in the second table -/
theorem IncDep.setU {K : PySem.W.Frag} {H H' : Hp} {st dp v : V} {t u : Int} {l r : List Int} {n n' : Int} {R R' R2 : List (List Int)} {S : List (List (List Int))} (s : Same H H') (h : IncDep K H st dp t l u r n n' R R' S) (hn : t.toNat = u.toNat → n = n')
    (im : Im K H' v (storeD (S.set u.toNat R2))) (tab : Tab n' R2) (len : R2.length ≤ 100) : ∃ R1, IncDep K H' v dp t l u r n n' R1 R2 (S.set u.toNat R2) := by
  have hu : u.toNat < S.length := (List.getElem?_eq_some_iff.mp h.uR).1
  by_cases e : t.toNat = u.toNat
  · refine ⟨R2, im, h.dp.same s, h.t0, h.u0, by rw [e]; exact set_at hu, set_at hu, fun x hx => ?_, tab.len, len, len, h.hl, h.hr, h.ll⟩
    rw [hn e]
    exact tab.len x hx
  · exact ⟨R, im, h.dp.same s, h.t0, h.u0, by rw [List.getElem?_set, if_neg (fun z => e z.symm)]; exact h.tR, set_at hu, h.hR, tab.len, h.len, len, h.hl, h.hr, h.ll⟩
theorem getD_mem {l : List Int} {i : Nat} (h : i < l.length) : l.getD i 0 ∈ l := by
  rw [List.getD_eq_getElem?_getD, List.getElem?_eq_getElem h]
  exact List.getElem_mem h
theorem ixN_of {n : Nat} {c : Int} (h0 : 0 ≤ c) (h1 : c < (n : Int)) : ixN n c = some c.toNat := by
  unfold ixN
  rw [if_pos h0, if_pos h1]
/-- over a tuple, within a block: the reading names no block -/
theorem pi_tupK {X : Cx} {K : PySem.W.Frag} (hK : X.K = K) {tg l : Expr} {tl : TE} (hl : PE X l tl) : PI X tg l (iTup K tl) := hK ▸ pi_tup hl
/-- the turns of [row[column] for column in columns] -/
theorem lc_prj {K : PySem.W.Frag} {σ : L2.St} {H1 : Hp} {D t c : Addr} {z l : List Int} {j v : Nat} {Qd : Hp → Prop} (hw : ∀ x : V, wipe ((wipe σ [v]).set v (some x)) [v] = wipe σ [v]) (hj : ∀ x : V, ((wipe σ [v]).set v (some x))[j]? = some (some (.ref t))) (hv : ∀ x : V, ((wipe σ [v]).set v (some x))[v]? = some (some x))
    (ht : H1 t = some (.tup (z.map V.int))) (hc : H1 c = some (.tup (l.map V.int))) (hz : In z.length l) (nD : H1 D = none) (hq : ∀ H2, Same H1 H2 → H2 D = some (.lst ((prj l z).map V.int)) → Qd H2) :
    ∃ W : Nat → Nat → Hp → Prop, (∃ m, W 0 m (upd H1 D (.lst []))) ∧ ∀ i' m H, W i' m H → ((Itt K c).stop i' H ∧ Qd H) ∨ ((Itt K c).go i' H ∧ ∃ Nx : Hp → Prop, (∀ H', Nx H' → ∃ m', m' < m ∧ W (i' + 1) m' H') ∧ ∀ x H', (Itt K c).yld i' H x H' → gName v x (wipe σ [v]) H' fun σ2 H2 => wipe σ2 [v] = wipe σ [v] ∧ tYes σ2 H2 fun bb H3 =>
      if bb = true then tOp (rIxT K) (tVar j) (tVar v) σ2 H3 fun y H4 => ∃ acc, H4 D = some (.lst acc) ∧ acc.length < sizeLine ∧ Nx (upd H4 D (.lst (acc ++ [y]))) else Nx H3) := by
  refine lc_tup (K := K) (a := c) (xs := l.map V.int) (fun i H' => Same H1 H' ∧ H' D = some (.lst ((prj (l.take i) z).map V.int)))
    ⟨same_upd nD, upd_same⟩ (fun i H' _ h => SqT.of (h.1 _ _ hc)) (fun i x H' hx hP => ?_) (fun H2 hP => ?_)
  · obtain ⟨sm, eD⟩ := hP
    have hi : i < l.length := by
      obtain ⟨h1, _⟩ := List.getElem?_eq_some_iff.mp hx
      rw [List.length_map] at h1
      exact h1
    have ex : x = .int l[i] := by
      rw [List.getElem?_map, List.getElem?_eq_getElem hi] at hx
      exact (Option.some.inj hx).symm
    subst ex
    have hci := hz.2 _ (List.getElem_mem hi)
    refine ⟨hw _, yesT ⟨.ref t, hj _, .int l[i], hv _, t, _, _, _, rfl, rfl, SqT.of (sm _ _ ht), col_get hci.1 hci.2, _, eD, ?_, Same.put sm nD, ?_⟩⟩
    · unfold prj
      rw [List.length_map, List.length_map, List.length_take]
      exact small1000 (by have := hz.1; omega)
    · rw [upd_same, List.take_add_one, List.getElem?_eq_getElem hi]
      unfold prj
      rw [Option.toList_some, List.map_append, List.map_append]
      rfl
  · obtain ⟨sm, eD⟩ := hP
    rw [List.length_map, List.take_length] at eD
    exact hq H2 sm eD
abbrev nNeeded : List Str := ["draws", "store", "dependency", "widths", "wide", "rows", "row", "made", "k", "other", "column"]
theorem scNeeded : FnScope nNeeded ["draws", "store", "dependency", "widths", "wide"] (defScope sNeeded) := ⟨rfl, rfl, rfl, by decide +kernel, rfl, by decide +kernel, by decide +kernel⟩
structure Df (K : PySem.W.Frag) (mg : Str → Option Value) (x : Str) (st : Stmt) (ps : List Str) (f : Addr) (fd : FuncData) : Prop where
  F : Fun K x x st f fd
  b : Binds K fd ps []
  g : mg x = some (.ref f)
section
variable {P : Program} {w : World} {K : PySem.W.Frag} {mg : Str → Option Value} {base : Heap}
/-! ### the law: the rows that an inclusion needs put in -/
def spNeeded (K : PySem.W.Frag) : Sp := fun vs H Q _ => ∃ (d sc W : Addr) (v dp : V) (sw ws : List Int) (t u : Int) (l r : List Int) (n n' : Int) (R R' : List (List Int)) (S : List (List (List Int))), vs = [.ref d, v, dp, .ref sc, .ref W] ∧ IncDep K H v dp t l u r n n' R R' S ∧ H sc = some (.tup (sw.map V.int)) ∧ sw[u.toNat]? = some n' ∧
  H W = some (.lst (ws.map V.int)) ∧ 1 ≤ ws.length ∧ W ≠ d ∧ Dr H d ∧ 1 ≤ n' ∧ n' ≤ 13 ∧ R.length + R'.length < 64 ∧ S.length ≤ 100 ∧
  ∀ H' v' R2, Go d H H' → Im K H' v' (storeD (S.set u.toNat R2)) → Tab n' R2 → R2.length ≤ R'.length + R.length → Q v' H'
theorem ok_needed {f f1 : Addr} {fd d1 : FuncData} (T : Hlp K mg f1 d1) (mset : mg "set" = none) (F : Fun K "_law_needed" "_law_needed" sNeeded f fd) : FnOk P w K mg base CX0 2 f fd ["draws", "store", "dependency", "widths", "wide"] (spNeeded K) := by
  have GT : FnOk P w K mg base CX0 1 f1 d1 ["draws", "many"] spTake := ok_take T.FT T.len T.int
  refine F.ok scNeeded (fun vs H Q E h => ?_) (fun cdv A outer s H vs Q E hr h => ?_)
  · obtain ⟨d, sc, W, v, dp, sw, ws, t, u, l, r, n, n', R, R', S, rfl, _⟩ := h
    rfl
  · obtain ⟨d, sc, W, v, dp, sw, ws, t, u, l, r, n, n', R, R', S, rfl, hD, esc, hn', eW, w1, nWd, D, n1, n13, hfew, hSl, q⟩ := h
    obtain ⟨dpa, lc, rc, rfl, edp, el, er⟩ := hD.dp.inc
    obtain ⟨sa, xs, v0, rfl, es, ev, iv⟩ := hD.st.storeGet hD.tR
    obtain ⟨sa', xs', v', e2, es', ev', iv'⟩ := hD.st.storeGet hD.uR
    cases e2
    cases es.symm.trans es'
    obtain ⟨ra, ks, rfl, era, eR, hks⟩ := iv.rows
    obtain ⟨ra', ks', rfl, era', eR', hks'⟩ := iv'.rows
    have hR := hD.hR
    have hR' := hD.hR'
    have hl := hD.hl
    have hr' := hD.hr
    have hll := hD.ll
    have t0 := hD.t0
    have u0 := hD.u0
    have uS : u.toNat < S.length := (List.getElem?_eq_some_iff.mp hD.uR).1
    have im := hD.st
    clear hD
    subst eR eR'
    rw [List.length_map, List.length_map] at hfew
    have et : t = ((t.toNat : Nat) : Int) := by omega
    obtain ⟨Un, rfl⟩ := Int.eq_ofNat_of_zero_le u0
    rw [Int.toNat_natCast] at ev' hn' uS q
    have hl20 := hl.1
    refine ⟨_, pss_cons (ps_set (i := 5) scNeeded.nd rfl (.inl rfl) (pe_lst pa_nil))
      (C8.pss_cut (ps_for PassesOwn.never rfl (pi_tup (pe_ix ix_tup (pv 1) (pe_ix ix_tup (pv 2) pe_int (fun _ _ => rfl)) (fun _ _ => rfl))) (pg_name (i := 6) scNeeded.nd rfl (.inl rfl))
        (pss_cons (ps_setLc (i := 7) (own := [("column", 10)]) (g := gName 10) (by rfl) scNeeded.nd rfl rfl (sw_true rfl rfl rfl (by decide +kernel)) (pi_range1 rfl T.range (pa_cons (pe_ix ix_tup (pv 3) (pe_ix ix_tup (pv 2) pe_int (fun _ _ => rfl)) (fun _ _ => rfl)) pa_nil))
            (blkOk_by (N := nNeeded) (sc := defScope sNeeded) (by decide +kernel)) (fun _ _ _ _ _ => pg_name (i := 10) scNeeded.nd rfl (Or.inl rfl)) (fun _ _ _ _ _ => pts_nil)
            (fun _ _ _ _ _ => pe_ix (r := rIxL K) ix_list (pv 4) (pe_call GT hr (by rfl) T.gT T.FT.kp T.bT .nil pass0 (pa_cons (pv 0) (pa_cons (pe_callB (r := rLenS K) call_len_seq (by rfl) T.len PySem.boot_len (pa_cons (pv 4) pa_nil)) pa_nil))) (fun _ _ => rfl)))
        (pss_cons (ps_for PassesOwn.never rfl (pi_range1 rfl T.range (pa_cons (pe_callB call_len_seq (by rfl) T.len PySem.boot_len (pa_cons (pe_ix ix_tup (pv 2) pe_int (fun _ _ => rfl)) pa_nil)) pa_nil)) (pg_name (i := 8) scNeeded.nd rfl (.inl rfl))
          (pss_one (ps_asg (pe_ix ix_tup (pv 6) (pe_ix ix_tup (pe_ix ix_tup (pv 2) pe_int (fun _ _ => rfl)) (pv 8) (fun _ _ => rfl)) (fun _ _ => rfl)) (pg_sub (pv 7) (pe_ix ix_tup (pe_ix ix_tup (pv 2) pe_int (fun _ _ => rfl)) (pv 8) (fun _ _ => rfl)) set_list))))
        (pss_one (ps_expr (pe_bm PySem.F.plainAttrs_list PySem.F.slot_list_append PySem.F.type_list_append mt_append (pv 5) (pa_cons (pe_callTy call_tuple_of (by rfl) T.tuple boot_tuple (pa_cons (pv 7) pa_nil)) pa_nil)))))))
      (pss_cons (ps_set (i := 9) scNeeded.nd rfl (.inl rfl) (pe_ix ix_tup (pv 2) pe_int (fun _ _ => rfl)))
      (pss_one (ps_ret (pe_op op_catU (pe_op op_catU (pe_slice sl_tupU (pv 1) po_none (po_some (pv 9)))
          (pe_tup (pa_cons (pe_callTy call_tuple_of (by rfl) T.tuple boot_tuple (pa_cons (pe_callB (NR.cr_srtI rfl hr.units) (by rfl) T.sorted boot_sorted (pa_cons (pe_callTy (NR.cr_setR rfl hr.units) (by rfl) mset (by decide +kernel)
            (pa_cons (pe_op op_cat (pe_callTy call_list_of (by rfl) T.list boot_list (pa_cons (pe_ix ix_tup (pv 1) (pv 9) (fun _ _ => rfl)) pa_nil)) (pv 5)) pa_nil)) pa_nil)) pa_nil)) pa_nil)))
          (pe_slice sl_tupU (pv 1) (po_some (pe_op op_add (pv 9) pe_int)) po_none)))))), ?_⟩
    -- rows
    refine ⟨Nat.zero_le _, fun A nA => ?_⟩
    have sA := same_upd (o := HO.lst []) nA
    have nAd : A ≠ d := (D.ne nA).symm
    have eA0 : upd H A (.lst []) A = some (.lst []) := upd_same
    have D0 : Dr (upd H A (.lst [])) d := (Go.ofSame sA D).dr
    have nWA : W ≠ A := ne_of_none eW nA
    generalize upd H A (.lst []) = H0 at sA eA0 D0
    refine ⟨fun σ H => ∃ (z6 z7 z8 z10 : Option V) (ms : List (Addr × List Int)), σ = [some (.ref d), some (.ref sa), some (.ref dpa), some (.ref sc), some (.ref W), some (.ref A), z6, z7, z8, none, z10] ∧ Kp d A H0 H ∧ H A = some (.lst (ms.map fun p => V.ref p.1)) ∧ ms.length = ks.length ∧
        (∀ m ∈ ms, H m.1 = some (.tup (m.2.map V.int)) ∧ (m.2.length : Int) = n'), ?_, fun σ H1 hM => ?_⟩
    · refine ⟨.ref sa, rfl, .ref dpa, rfl, dpa, _, 1, .int t, rfl, rfl, SqT.of (sA _ _ edp), atI_nat (j := 1) rfl, sa, xs, t, .ref ra, rfl, rfl, SqT.of (sA _ _ es), at_of et ev, ra, rfl, ⟨_, SqT.of (sA _ _ era)⟩, for_tup (K := K) (a := ra) (xs := ks.map fun p => V.ref p.1) (fun j σ H => ∃ (z6 z7 z8 z10 : Option V) (ms : List (Addr × List Int)), σ = [some (.ref d), some (.ref sa), some (.ref dpa), some (.ref sc), some (.ref W), some (.ref A), z6, z7, z8, none, z10] ∧ Kp d A H0 H ∧ H A = some (.lst (ms.map fun p => V.ref p.1)) ∧ ms.length = j ∧
          (∀ m ∈ ms, H m.1 = some (.tup (m.2.map V.int)) ∧ (m.2.length : Int) = n'))
        ⟨_, _, _, _, [], rfl, Kp.refl D0, eA0, rfl, fun m hm => (by cases hm)⟩ (fun j σ H _ hP => by obtain ⟨_, _, _, _, _, _, k, _⟩ := hP; exact SqT.of (k.keepT D0 eA0 (sA _ _ era))) (fun j x σ H1 hx hP => ?_) (fun σ H1 hP => ?_)⟩
      · obtain ⟨z6, z7, z8, z10, ms, rfl, k, eA, hml, hms⟩ := hP
        obtain ⟨hj, rfl⟩ := nth_row hx
        have hkn := hR _ (List.mem_map.mpr ⟨_, List.getElem_mem hj, rfl⟩)
        have hkj := hks _ (List.getElem_mem hj)
        have hnu : (sw.map V.int)[Un]? = some (.int n') := by
          rw [List.getElem?_map, hn']
          rfl
        have T0 : ∀ {H' : Hp}, Kp d A H0 H' → ∀ {b : Addr} {xs : List V}, H b = some (.tup xs) → H' b = some (.tup xs) := fun k b xs e => k.keepT D0 eA0 (sA _ _ e)
        refine ⟨.ref sc, rfl, .ref dpa, rfl, dpa, _, 3, .int (Un : Int), rfl, rfl, SqT.of (T0 k edp), atI_nat (j := 3) rfl, sc, _, (Un : Int), .int n', rfl, rfl, SqT.of (T0 k esc), at_of rfl hnu, n', rfl, by omega, by omega, fun C nC => ?_⟩
        have nCd : C ≠ d := (k.dr.ne nC).symm
        have nCA : C ≠ A := fun e => by rw [e, eA] at nC; cases nC
        have n0C := k.free nC nCd nCA
        refine lc_range (lo := 0) (n := n'.toNat) (fun j2 H' => Kp d A H0 H' ∧ H' A = some (.lst (ms.map fun p => V.ref p.1)) ∧ (∀ m ∈ ms, H' m.1 = some (.tup (m.2.map V.int)) ∧ (m.2.length : Int) = n') ∧ ∃ vs : List Int, H' C = some (.lst (vs.map V.int)) ∧ vs.length = j2)
          ⟨k.put (.inr n0C) nCd.symm, by rw [upd_ne nCA.symm]; exact eA, fun m hm => ⟨same_upd nC _ _ (hms m hm).1, (hms m hm).2⟩, [], by rw [upd_same]; rfl, rfl⟩ (fun j2 H' hj2 hP => ?_) (fun H' hP => ?_)
        · obtain ⟨k', eA', hms', vs, eC, hvl⟩ := hP
          have eW' := k'.kb W _ nWd nWA (sA _ _ eW)
          refine ⟨rfl, yesT ⟨.ref W, rfl, .ref d, rfl, .ref W, rfl, W, _, rfl, .inl (SqL.of eW'), d, _, rfl, by rw [List.length_map]; omega, k'.dr, fun H'' z g z0 z1 => ?_⟩⟩
          rw [List.length_map] at z1
          have eW'' := g.keep eW' nWd
          obtain ⟨y, hy, ey⟩ := take_in eW'' z0 z1
          have eC' := g.keep eC nCd
          refine ⟨W, _, z, .int y, rfl, rfl, SqL.of eW'', ey, _, eC', ?_, (k'.go g).put (.inr n0C) nCd.symm, by rw [upd_ne nCA.symm]; exact g.keep eA' nAd, fun m hm => ⟨tup_put eC' (fun ys e => by cases e) (g.keepT k'.dr (hms' m hm).1), (hms' m hm).2⟩, vs ++ [y], by rw [upd_same, List.map_append]; rfl, by rw [List.length_append, hvl]; rfl⟩
          rw [List.length_map]
          exact small1000 (by omega)
        · obtain ⟨k', eA', hms', vs, eC, hvl⟩ := hP
          refine ⟨.ref dpa, rfl, dpa, _, 2, .ref lc, rfl, rfl, SqT.of (T0 k' edp), atI_nat (j := 2) rfl, lc, _, rfl, .inr (SqT.of (T0 k' el)), _, rfl, ?_⟩
          rw [List.length_map]
          refine ⟨by omega, by omega, for_range (lo := 0) (n := ((l.length : Nat) : Int).toNat) (fun j2 σ H'' => ∃ (z8 : Option V), σ = [some (.ref d), some (.ref sa), some (.ref dpa), some (.ref sc), some (.ref W), some (.ref A), some (.ref ks[j].1), some (.ref C), z8, none, z10] ∧ Kp d A H0 H'' ∧ H'' A = some (.lst (ms.map fun p => V.ref p.1)) ∧ (∀ m ∈ ms, H'' m.1 = some (.tup (m.2.map V.int)) ∧ (m.2.length : Int) = n') ∧ ∃ vs : List Int, H'' C = some (.lst (vs.map V.int)) ∧ vs.length = n'.toNat)
            ⟨_, rfl, k', eA', hms', vs, eC, hvl⟩ (fun j2 σ H2 hj2 hP => ?_) (fun σ H2 hP => ?_)⟩
          · obtain ⟨z8, rfl, k2, eA2, hms2, vs2, eC2, hv2⟩ := hP
            rw [Int.toNat_natCast] at hj2
            have hcl := hl.2 _ (getD_mem (show (0 + (j2 : Int)).toNat < l.length by omega))
            have hcr := hr'.2 _ (getD_mem (show (0 + (j2 : Int)).toNat < r.length by omega))
            refine ⟨.ref ks[j].1, rfl, .ref dpa, rfl, dpa, _, 2, .ref lc, rfl, rfl, SqT.of (T0 k2 edp), atI_nat (j := 2) rfl, .int (0 + (j2 : Int)), rfl, lc, _, _, _, rfl, rfl, SqT.of (T0 k2 el), col_get (by omega) (by omega), ks[j].1, _, _, _, rfl, rfl, SqT.of (T0 k2 hkj), col_get hcl.1 (by rw [hkn]; exact hcl.2),
              .ref C, rfl, .ref dpa, rfl, dpa, _, 4, .ref rc, rfl, rfl, SqT.of (T0 k2 edp), atI_nat (j := 4) rfl, .int (0 + (j2 : Int)), rfl, rc, _, _, _, rfl, rfl, SqT.of (T0 k2 er), col_get (by omega) (by omega),
              C, _, _, _, rfl, rfl, eC2, ixN_of hcr.1 (by rw [List.length_map]; omega), ?_⟩
            exact ⟨_, rfl, k2.put (.inr n0C) nCd.symm, by rw [upd_ne nCA.symm]; exact eA2, fun m hm => ⟨tup_put eC2 (fun ys e => by cases e) (hms2 m hm).1, (hms2 m hm).2⟩, vs2.set _ _, by rw [upd_same, List.map_set], by rw [List.length_set]; exact hv2⟩
          · obtain ⟨z8, rfl, k2, eA2, hms2, vs2, eC2, hv2⟩ := hP
            refine ⟨.ref A, rfl, .inl ⟨rfl, _, SqL.of eA2⟩, .ref C, rfl, C, _, rfl, .inl ⟨SqL.of eC2, fun mo nmo => ?_⟩⟩
            have smo := same_upd (o := HO.tup (vs2.map V.int)) nmo
            have eA3 := smo _ _ eA2
            refine ⟨A, _, _, rfl, rfl, eA3, ?_, _, _, _, _, ms ++ [(mo, vs2)], rfl, (k2.go (.ofSame smo k2.dr)).put (.inl rfl) nAd.symm, by rw [upd_same, List.map_append]; rfl, by rw [List.length_append, hml]; rfl, fun m hm => ?_⟩
            · rw [List.length_map]
              exact small1000 (by omega)
            · rcases List.mem_append.mp hm with hm | hm
              · exact ⟨tup_put eA3 (fun ys e => by cases e) (smo _ _ (hms2 m hm).1), (hms2 m hm).2⟩
              · rw [List.mem_singleton.mp hm]
                exact ⟨tup_put eA3 (fun ys e => by cases e) upd_same, by show (vs2.length : Int) = n'; omega⟩
      · obtain ⟨z6, z7, z8, z10, ms, rfl, k, eA, hml, hms⟩ := hP
        rw [List.length_map] at hml
        exact ⟨_, _, _, _, ms, rfl, k, eA, hml, hms⟩
    · obtain ⟨z6, z7, z8, z10, ms, rfl, k, eA, hml, hms⟩ := hM
      have T0 : ∀ {b : Addr} {xs : List V}, H b = some (.tup xs) → H1 b = some (.tup xs) := fun e => k.keepT D0 eA0 (sA _ _ e)
      have hxl : xs.length = S.length := by
        cases im with
        | tup h r =>
          cases es.symm.trans h
          have := r.length
          rw [List.length_map] at this
          exact this
      refine ⟨.ref dpa, rfl, dpa, _, 3, .int (Un : Int), rfl, rfl, SqT.of (T0 edp), atI_nat (j := 3) rfl, ?_⟩
      refine ⟨.ref sa, rfl, .int (Un : Int), rfl, (Un : Int), rfl, sa, xs, rfl, T0 es, fun p1 H2 s2 e2 => ?_⟩
      rw [cutTake] at e2
      refine ⟨.ref sa, rfl, .int (Un : Int), rfl, sa, xs, (Un : Int), .ref ra', rfl, rfl, SqT.of (s2 _ _ (T0 es)), at_of rfl ev', ra', _, rfl, .inr (SqT.of (s2 _ _ (T0 era'))), fun L nL => ?_⟩
      have s3 := s2.trans (same_upd (o := HO.lst (ks'.map fun p => V.ref p.1)) nL)
      refine ⟨.ref A, rfl, L, A, _, _, rfl, rfl, upd_same, s3 _ _ eA, by rw [List.length_map, List.length_map, sizeLine_eq]; omega, fun L2 nL2 => ?_⟩
      rw [← List.map_append]
      have s4 := s3.trans (same_upd (o := HO.lst ((ks' ++ ms).map fun p => V.ref p.1)) nL2)
      have all : ∀ m ∈ ks' ++ ms, H1 m.1 = some (.tup (m.2.map V.int)) ∧ (m.2.length : Int) = n' := fun m hm => by
        rcases List.mem_append.mp hm with hm | hm
        · exact ⟨T0 (hks' m hm), hR' _ (List.mem_map.mpr ⟨_, hm, rfl⟩)⟩
        · exact hms m hm
      refine ⟨L2, ks' ++ ms, rfl, .inl (SqL.of upd_same), fun p hp => SqT.of (s4 _ _ (all p hp).1), by rw [List.length_append]; omega, fun a Ls na hsub hcov => ?_⟩
      have s5 := s4.trans (same_upd (o := SetTO P w a Ls) na)
      refine ⟨a, Ls, rfl, upd_same, fun p hp => SqT.of (s5 _ _ (all p (hsub p hp)).1), fun p hp e => ?_, fun M b pm asc nb => ⟨b, _, rfl, .inl ⟨SqL.of upd_same, fun t2 nt2 => ?_⟩⟩⟩
      · have := (all p (hsub p hp)).2
        rw [e] at this
        have e2 : (0 : Int) = n' := this
        omega
      have sb := (same_upd (o := HO.lst (M.map fun k => V.ref k.1)) nb).trans (same_upd (o := HO.tup (M.map fun k => V.ref k.1)) nt2)
      have s6 := s5.trans sb
      have hM : ∀ k ∈ M, k ∈ ks' ++ ms := fun k hk => hsub k (pm.mem_iff.mp hk)
      refine ⟨by show 1 ≤ sizeLine; decide, fun t3 nt3 => ?_⟩
      have s7 := same_upd (o := HO.tup [.ref t2]) nt3
      have e1 := s7 _ _ (sb _ _ (same_upd na _ _ (same_upd nL2 _ _ (same_upd nL _ _ e2))))
      have s17 := s6.trans s7
      refine ⟨p1, t3, xs.take Un, [.ref t2], rfl, rfl, e1, upd_same, by rw [List.length_take]; show _ + 1 ≤ _; omega, fun p4 H4 s8 e8 => ?_⟩
      have s18 := s17.trans s8
      refine ⟨.ref sa, rfl, .int (Un : Int), rfl, _, _, rfl, rfl, _, rfl, sa, xs, rfl, s18 _ _ (T0 es), fun p5 H5 s9 e9 => ?_⟩
      have ez : ((Un : Int) + 1) = ((Un + 1 : Nat) : Int) := by omega
      rw [ez, cutDrop] at e9
      refine ⟨p4, p5, _, _, rfl, rfl, s9 _ _ e8, e9, ?_, fun p6 H6 s10 e10 => ?_⟩
      · rw [List.length_append, List.length_take, List.length_drop]
        show _ + 1 + _ ≤ _
        omega
      have s19 := s18.trans (s9.trans s10)
      have et6 : H6 t2 = some (.tup (M.map fun k => V.ref k.1)) := (s9.trans s10) _ _ (s8 _ _ (s7 _ _ upd_same))
      have iR : Im K H6 (.ref t2) (rowsD (M.map (·.2))) := .tup et6 (ImAll.rows M fun k hk => s19 _ _ (all k (hM k hk)).1)
      have gA : Go d H H1 := ⟨fun b o nb e => by
        by_cases eb : b = A
        · rw [eb, nA] at e
          cases e
        · exact k.kb b o nb eb (sA _ _ e), k.dr⟩
      refine q H6 (.ref p6) (M.map (·.2)) (gA.trans (.ofSame s19 k.dr)) ?_ ⟨List.pairwise_map.mpr asc, fun x hx => ?_⟩ ?_
      · have im1 := im.map fun a xs e => s19 _ _ (T0 e)
        cases im1 with
        | tup h r =>
          cases (s19 _ _ (T0 es)).symm.trans h
          refine .tup (xs := xs.set Un (.ref t2)) ?_ ?_
          · rw [e10, List.set_eq_take_append_cons_drop, if_pos (by omega), List.append_assoc]
            rfl
          · rw [List.map_set]
            exact ImAll.set iR Un r
      · obtain ⟨k, hk, rfl⟩ := List.mem_map.mp hx
        exact (all k (hM k hk)).2
      · have := sub_len (asc_nodup asc) hM
        rw [List.length_append, hml] at this
        rw [List.length_map, List.length_map, List.length_map]
        exact this
end
end NK

namespace NK
open PySem PySem.Spec PyProof.Rows L2
/-! ### inclusions by their pairs of columns -/
theorem prj_eq_iff {x y : List Int} : ∀ {l r : List Int}, l.length = r.length → (prj l x = prj r y ↔ ∀ p ∈ l.zip r, x.getD p.1.toNat 0 = y.getD p.2.toNat 0)
  | [], [], _ => ⟨fun _ p hp => (by cases hp), fun _ => rfl⟩
  | [], _ :: _, h => by cases h
  | _ :: _, [], h => by cases h
  | a :: l, b :: r, h => by
    show (x.getD a.toNat 0 :: prj l x = y.getD b.toNat 0 :: prj r y) ↔ ∀ p ∈ (a, b) :: l.zip r, _
    rw [List.cons.injEq, prj_eq_iff (Nat.succ.inj h), List.forall_mem_cons]
theorem wbr_none {l r : List Int} {R R' : List (List Int)} (hll : l.length = r.length) : (wbr l r R R').isNone = true ↔ ∀ x ∈ R, ∃ y ∈ R', ∀ p ∈ l.zip r, x.getD p.1.toNat 0 = y.getD p.2.toNat 0 := by
  rw [Option.isNone_iff_eq_none]
  unfold wbr
  rw [List.find?_eq_none]
  constructor
  · intro h x hx
    have hs := h x hx
    unfold stray at hs
    have hm : prj l x ∈ R'.map (prj r) := by
      by_cases z : prj l x ∈ R'.map (prj r)
      · exact z
      · rw [decide_eq_false z] at hs
        exact absurd rfl hs
    obtain ⟨y, hy, e⟩ := List.mem_map.mp hm
    exact ⟨y, hy, (prj_eq_iff hll).mp e.symm⟩
  · intro h x hx
    obtain ⟨y, hy, e⟩ := h x hx
    have hm : prj l x ∈ R'.map (prj r) := List.mem_map.mpr ⟨y, hy, ((prj_eq_iff hll).mpr e).symm⟩
    unfold stray
    rw [decide_eq_true hm]
    decide
theorem wbr_less {l r l' r' : List Int} {R R' : List (List Int)} (h1 : l.length = r.length) (h2 : l'.length = r'.length) (h : ∀ q ∈ l'.zip r', q ∈ l.zip r) (k : (wbr l r R R').isNone = true) : (wbr l' r' R R').isNone = true := by
  rw [wbr_none h2]
  intro x hx
  obtain ⟨y, hy, e⟩ := (wbr_none h1).mp k x hx
  exact ⟨y, hy, fun p hp => e p (h p hp)⟩
theorem wbr_same {l r l' r' : List Int} {R R' : List (List Int)} (h1 : l.length = r.length) (h2 : l'.length = r'.length) (h : ∀ q ∈ l'.zip r', q ∈ l.zip r) (g : ∀ q ∈ l.zip r, q ∈ l'.zip r') : (wbr l' r' R R').isNone = (wbr l r R R').isNone := by
  rw [Bool.eq_iff_iff]
  exact ⟨wbr_less h2 h1 g, wbr_less h1 h2 h⟩
/-- one inclusion behind another one -/
theorem wbr_trans {l r v l' : List Int} {R0 R1 R2 : List (List Int)} {m : Nat} (h1 : l.length = r.length) (hv : (r.take m).length = v.length) (a : (wbr l r R0 R1).isNone = true) (b : (wbr (r.take m) v R1 R2).isNone = true) (hl : l' = l.take m) : (wbr l' v R0 R2).isNone = true := by
  subst hl
  have hlv : (l.take m).length = v.length := by rw [← hv, List.length_take, List.length_take, h1]
  rw [wbr_none hlv]
  intro x hx
  obtain ⟨y, hy, e⟩ := (wbr_none h1).mp a x hx
  obtain ⟨z, hz, e2⟩ := (wbr_none hv).mp b y hy
  refine ⟨z, hz, (prj_eq_iff hlv).mp ?_⟩
  rw [← (prj_eq_iff hv).mpr e2]
  have e3 := (prj_eq_iff h1).mpr e
  have e4 := congrArg (List.take m) e3
  unfold prj at e4 ⊢
  rw [← List.map_take, ← List.map_take] at e4
  exact e4
theorem zip_get {l r : List Int} (h : l.length = r.length) {q : Int × Int} : q ∈ l.zip r ↔ ∃ i, i < l.length ∧ q = (l.getD i 0, r.getD i 0) := by
  constructor
  · intro hq
    obtain ⟨i, hi, e⟩ := List.getElem_of_mem hq
    have hi2 : i < l.length := by rw [List.length_zip] at hi; omega
    refine ⟨i, hi2, ?_⟩
    rw [← e, List.getElem_zip, List.getD_eq_getElem?_getD, List.getD_eq_getElem?_getD, List.getElem?_eq_getElem hi2, List.getElem?_eq_getElem (by omega)]
    rfl
  · rintro ⟨i, hi, rfl⟩
    have hz : i < (l.zip r).length := by rw [List.length_zip]; omega
    have e : (l.zip r)[i] = (l.getD i 0, r.getD i 0) := by
      rw [List.getElem_zip, List.getD_eq_getElem?_getD, List.getD_eq_getElem?_getD, List.getElem?_eq_getElem hi, List.getElem?_eq_getElem (by omega)]
      rfl
    rw [← e]
    exact List.getElem_mem hz
theorem zip_maps {α : Type} (f g : α → Int) : ∀ M : List α, (M.map f).zip (M.map g) = M.map fun k => (f k, g k)
  | [] => rfl
  | a :: M => by
    show (f a, g a) :: (M.map f).zip (M.map g) = _
    rw [zip_maps f g M]
    rfl
abbrev nSome : List Str := ["draws", "dependency", "keep", "order", "columns", "k"]
theorem scSome : FnScope nSome ["draws", "dependency", "keep"] (defScope sSome) := ⟨rfl, rfl, rfl, by decide +kernel, rfl, by decide +kernel, by decide +kernel⟩
abbrev nAsc : List Str := ["dependency", "pairs", "k", "pair"]
theorem scAsc : FnScope nAsc ["dependency"] (defScope sAsc) := ⟨rfl, rfl, rfl, by decide +kernel, rfl, by decide +kernel, by decide +kernel⟩
section
variable {P : Program} {w : World} {K : PySem.W.Frag} {mg : Str → Option Value} {base : Heap}
/-- the turns of [part[k] for k in order], the part one of the inclusion's -/
theorem lc_pick {σ : L2.St} {H1 : Hp} {D dp c o : Addr} {xs : List V} {l os : List Int} {j v m : Nat} {Qd : Hp → Prop} (hw : ∀ x : V, wipe ((wipe σ [v]).set v (some x)) [v] = wipe σ [v]) (hj : ∀ x : V, ((wipe σ [v]).set v (some x))[j]? = some (some (.ref dp))) (hv : ∀ x : V, ((wipe σ [v]).set v (some x))[v]? = some (some x))
    (hd : H1 dp = some (.tup xs)) (hm : xs[m]? = some (.ref c)) (hc : H1 c = some (.tup (l.map V.int))) (ho : H1 o = some (.lst (os.map V.int))) (hz : In l.length os) (nD : H1 D = none) (hq : ∀ H2, Same H1 H2 → H2 D = some (.lst ((prj os l).map V.int)) → Qd H2) {tk : TE} (htk : tk = fun σ H Q => Q (V.int (m : Int)) H) :
    ∃ W : Nat → Nat → Hp → Prop, (∃ m, W 0 m (upd H1 D (.lst []))) ∧ ∀ i' m H, W i' m H → ((Itl K o).stop i' H ∧ Qd H) ∨ ((Itl K o).go i' H ∧ ∃ Nx : Hp → Prop, (∀ H', Nx H' → ∃ m', m' < m ∧ W (i' + 1) m' H') ∧ ∀ x H', (Itl K o).yld i' H x H' → gName v x (wipe σ [v]) H' fun σ2 H2 => wipe σ2 [v] = wipe σ [v] ∧ tYes σ2 H2 fun bb H3 =>
      if bb = true then tOp (rIxT K) (tOp (rIxT K) (tVar j) tk) (tVar v) σ2 H3 fun y H4 => ∃ acc, H4 D = some (.lst acc) ∧ acc.length < sizeLine ∧ Nx (upd H4 D (.lst (acc ++ [y]))) else Nx H3) := by
  subst htk
  refine lc_list (K := K) (a := o) (xs := os.map V.int) (fun i H' => Same H1 H' ∧ H' D = some (.lst ((prj (os.take i) l).map V.int)))
    ⟨same_upd nD, upd_same⟩ (fun i H' _ h => SqL.of (h.1 _ _ ho)) (fun i x H' hx hP => ?_) (fun H2 hP => ?_)
  · obtain ⟨sm, eD⟩ := hP
    have hi : i < os.length := by
      obtain ⟨h1, _⟩ := List.getElem?_eq_some_iff.mp hx
      rw [List.length_map] at h1
      exact h1
    have ex : x = .int os[i] := by
      rw [List.getElem?_map, List.getElem?_eq_getElem hi] at hx
      exact (Option.some.inj hx).symm
    subst ex
    have hci := hz.2 _ (List.getElem_mem hi)
    refine ⟨hw _, yesT ⟨.ref dp, hj _, dp, xs, (m : Int), .ref c, rfl, rfl, SqT.of (sm _ _ hd), at_of rfl hm, .int os[i], hv _, c, _, _, _, rfl, rfl, SqT.of (sm _ _ hc), col_get hci.1 hci.2, _, eD, ?_, Same.put sm nD, ?_⟩⟩
    · unfold prj
      rw [List.length_map, List.length_map, List.length_take]
      exact small1000 (by have := hz.1; omega)
    · rw [upd_same, List.take_add_one, List.getElem?_eq_getElem hi]
      unfold prj
      rw [Option.toList_some, List.map_append, List.map_append]
      rfl
  · obtain ⟨sm, eD⟩ := hP
    rw [List.length_map, List.take_length] at eD
    exact hq H2 sm eD
end
end NK

namespace NK
open PySem PySem.Spec PyProof.Rows L2
section
variable {P : Program} {w : World} {K : PySem.W.Frag} {mg : Str → Option Value} {base : Heap}
/-! ### the law: the pairs of an inclusion in another order, perhaps some of them alone -/
def spSome (K : PySem.W.Frag) : Sp := fun vs H Q _ => ∃ (d dp : Addr) (b : Bool) (t u : Int) (l r : List Int), vs = [.ref d, .ref dp, .bl b] ∧ Im K H (.ref dp) (Dep.within t l u r).data ∧ l.length = r.length ∧ 1 ≤ l.length ∧ l.length ≤ 20 ∧ Dr H d ∧
  ∀ H' p l' r' os, Go d H H' → Im K H' (.ref p) (Dep.within t l' u r').data → l' = prj os l → r' = prj os r → In l.length os → (∀ q ∈ l'.zip r', q ∈ l.zip r) → (b = true → ∀ q ∈ l.zip r, q ∈ l'.zip r') → Q (.ref p) H'
theorem ok_some {f f1 fS : Addr} {fd d1 fdS : FuncData} (T : Hlp K mg f1 d1) (F : Fun K "_law_some" "_law_some" sSome f fd) (DS : Df K mg "_law_shuffled" sShuf ["draws", "row"] fS fdS) : FnOk P w K mg base CX0 3 f fd ["draws", "dependency", "keep"] (spSome K) := by
  have GT : FnOk P w K mg base CX0 1 f1 d1 ["draws", "many"] spTake := ok_take T.FT T.len T.int
  have GS : FnOk P w K mg base CX0 2 fS fdS ["draws", "row"] spShuf := ok_shuf T DS.F
  refine F.ok scSome (fun vs H Q E h => ?_) (fun cdv A outer s H vs Q E hr h => ?_)
  · obtain ⟨d, dp, b, t, u, l, r, rfl, _⟩ := h
    rfl
  · obtain ⟨d, dp, b, t, u, l, r, rfl, im, hll, h1, h20, D, q⟩ := h
    obtain ⟨dpa, lc, rc, e, edp, el, er⟩ := im.inc
    cases e
    have hr1 := hr.mono (show 1 ≤ 2 by decide)
    refine ⟨_, pss_cons (ps_set (i := 3) scSome.nd rfl (.inl rfl) (pe_call GS hr (by rfl) DS.g DS.F.kp DS.b .nil pass0 (pa_cons (pv 0) (pa_cons
          (pe_lc (own := [("k", 5)]) (g := gName 5) (by rfl) scSome.nd (pi_range1 rfl T.range (pa_cons (pe_callB call_len_seq (by rfl) T.len PySem.boot_len (pa_cons (pe_ix ix_tup (pv 1) pe_int (fun _ _ => rfl)) pa_nil)) pa_nil)) (blkOk_by (N := nSome) (sc := defScope sSome) (by decide +kernel))
            (fun _ _ _ _ _ => pg_name (i := 5) scSome.nd rfl (Or.inl rfl)) (fun _ _ _ _ _ => pts_nil) (fun _ _ _ _ _ => pv 5)) pa_nil))))
      (C8.pss_cut (ps_if (pt_not (pt_val (pv 2))) (pss_one (ps_set (i := 3) scSome.nd rfl (.inl rfl) (pe_slice sl_list (pv 3) po_none (po_some (pe_op op_add pe_int (pe_call GT hr1 (by rfl) T.gT T.FT.kp T.bT .nil pass0 (pa_cons (pv 0) (pa_cons (pe_callB call_len_seq (by rfl) T.len PySem.boot_len (pa_cons (pv 3) pa_nil)) pa_nil)))))))) pss_nil)
      (pss_cons (ps_set (i := 4) scSome.nd rfl (.inl rfl) (pe_callTy call_tuple_of (by rfl) T.tuple boot_tuple (pa_cons
          (pe_lc (own := [("k", 5)]) (g := gName 5) (by rfl) scSome.nd (pi_list (pv 3)) (blkOk_by (N := nSome) (sc := defScope sSome) (by decide +kernel)) (fun _ _ _ _ _ => pg_name (i := 5) scSome.nd rfl (Or.inl rfl)) (fun _ _ _ _ _ => pts_nil)
            (fun _ _ _ _ _ => pe_ix (r := rIxT K) ix_tup (pe_ix (r := rIxT K) ix_tup (pv 1) pe_int (fun _ _ => rfl)) (pv 5) (fun _ _ => rfl))) pa_nil)))
      (pss_one (ps_ret (pe_tup (pa_cons pe_str (pa_cons (pe_ix ix_tup (pv 1) pe_int (fun _ _ => rfl)) (pa_cons (pv 4) (pa_cons (pe_ix ix_tup (pv 1) pe_int (fun _ _ => rfl)) (pa_cons (pe_callTy call_tuple_of (by rfl) T.tuple boot_tuple (pa_cons
          (pe_lc (own := [("k", 5)]) (g := gName 5) (by rfl) scSome.nd (pi_list (pv 3)) (blkOk_by (N := nSome) (sc := defScope sSome) (by decide +kernel)) (fun _ _ _ _ _ => pg_name (i := 5) scSome.nd rfl (Or.inl rfl)) (fun _ _ _ _ _ => pts_nil)
            (fun _ _ _ _ _ => pe_ix (r := rIxT K) ix_tup (pe_ix (r := rIxT K) ix_tup (pv 1) pe_int (fun _ _ => rfl)) (pv 5) (fun _ _ => rfl))) pa_nil)) pa_nil)))))))))), ?_⟩
    -- order
    refine ⟨.ref d, rfl, .ref dp, rfl, dp, _, 2, .ref lc, rfl, rfl, SqT.of edp, atI_nat (j := 2) rfl, lc, _, rfl, .inr (SqT.of el), _, rfl, ?_⟩
    rw [List.length_map]
    refine ⟨by omega, by omega, fun C nC => lc_range (lo := 0) (n := ((l.length : Nat) : Int).toNat) (fun j H' => Go d H H' ∧ H' C = some (.lst ((upTo j).map V.int)))
      ⟨(Go.refl D).new nC, by rw [upd_same]; rfl⟩ (fun j H' hj hP => ?_) (fun H' hP => ?_)⟩
    · obtain ⟨g', eC⟩ := hP
      rw [Int.toNat_natCast] at hj
      refine ⟨rfl, yesT ⟨.int (0 + (j : Int)), rfl, _, eC, ?_, g'.put nC (D.ne nC), ?_⟩⟩
      · rw [List.length_map, upTo_len]
        exact small1000 (by omega)
      · rw [upd_same, upTo_succ, List.map_append]
        rfl
    · obtain ⟨g', eC⟩ := hP
      rw [Int.toNat_natCast] at eC
      refine ⟨d, C, upTo l.length, rfl, eC, (D.ne nC).symm, by rw [upTo_len]; omega, g'.dr, fun H2 o1 os1 g2 no1 eo1 pm => ?_⟩
      have g02 := g'.trans g2
      have hb1 : ∀ k ∈ os1, 0 ≤ k ∧ k < (l.length : Int) := fun k hk => upTo_mem (pm.mem_iff.mp hk)
      have hl1 : os1.length = l.length := by rw [pm.length_eq, upTo_len]
      refine ⟨fun σ H3 => ∃ (o : Addr) (os : List Int), σ = [some (.ref d), some (.ref dp), some (.bl b), some (.ref o), none, none] ∧ Go d H H3 ∧ H3 o = some (.lst (os.map V.int)) ∧ In l.length os ∧ (b = true → os = os1), ?_, fun σ H3 hM => ?_⟩
      · refine ⟨.bl b, rfl, b, rfl, ?_⟩
        cases b with
        | true => exact iteF ⟨o1, os1, rfl, g02, eo1, ⟨by omega, hb1⟩, fun _ => rfl⟩
        | false =>
          refine iteT ⟨.ref o1, rfl, ?_⟩
          refine ⟨.ref d, rfl, .ref o1, rfl, o1, _, rfl, .inl (SqL.of eo1), d, _, rfl, by rw [List.length_map]; omega, g2.dr, fun H3 m g3 m0 m1 => ?_⟩
          have eo3 := g3.keep eo1 ((g'.dr.ne no1).symm)
          refine ⟨_, _, rfl, rfl, ?_⟩
          dsimp only
          obtain ⟨M, hM⟩ := Int.eq_ofNat_of_zero_le (show 0 ≤ 1 + m by omega)
          rw [hM]
          refine ⟨(M : Int), rfl, o1, _, rfl, SqL.of eo3, fun o2 no2 => ?_⟩
          rw [cutTake, ← List.map_take]
          exact ⟨o2, os1.take M, rfl, (g02.trans g3).new no2, upd_same, ⟨by rw [List.length_take]; omega, fun k hk => hb1 k (List.mem_of_mem_take hk)⟩, fun e => by cases e⟩
      · obtain ⟨o, os, rfl, g3, eo, hos, hkeep⟩ := hM
        have edp3 := g3.keepT D edp
        have el3 := g3.keepT D el
        have er3 := g3.keepT D er
        have hos2 : In r.length os := by rw [← hll]; exact hos
        refine ⟨.ref o, rfl, o, rfl, ⟨_, SqL.of eo⟩, fun C1 nC1 => lc_pick (m := 2) (fun _ => rfl) (fun _ => rfl) (fun _ => rfl) edp3 rfl el3 eo hos nC1 (fun H4 s4 eC1 => ?_) rfl⟩
        refine ⟨C1, _, rfl, .inl ⟨SqL.of eC1, fun p1 np1 => ?_⟩⟩
        have s5 := s4.trans (same_upd (o := HO.tup ((prj os l).map V.int)) np1)
        have ep1 : upd H4 p1 (HO.tup ((prj os l).map V.int)) p1 = some (.tup ((prj os l).map V.int)) := upd_same
        generalize upd H4 p1 (HO.tup ((prj os l).map V.int)) = H5 at s5 ep1
        refine ⟨.ref dp, rfl, dp, _, 1, .int t, rfl, rfl, SqT.of (s5 _ _ edp3), atI_nat (j := 1) rfl, .ref p1, rfl, .ref dp, rfl, dp, _, 3, .int u, rfl, rfl, SqT.of (s5 _ _ edp3), atI_nat (j := 3) rfl, .ref o, rfl, o, rfl, ⟨_, SqL.of (s5 _ _ eo)⟩, fun C2 nC2 =>
          lc_pick (m := 4) (fun _ => rfl) (fun _ => rfl) (fun _ => rfl) (s5 _ _ edp3) rfl (s5 _ _ er3) (s5 _ _ eo) hos2 nC2 (fun H6 s6 eC2 => ?_) rfl⟩
        refine ⟨C2, _, rfl, .inl ⟨SqL.of eC2, fun p2 np2 => ?_⟩⟩
        have s7 := same_upd (o := HO.tup ((prj os r).map V.int)) np2
        refine ⟨by show 5 ≤ sizeLine; decide, fun p np => ?_⟩
        have s8 := same_upd (o := HO.tup [.str "within", .int t, .ref p1, .int u, .ref p2]) np
        have zip : (prj os l).zip (prj os r) = os.map fun k => (l.getD k.toNat 0, r.getD k.toNat 0) := by
          unfold prj
          exact zip_maps _ _ os
        refine q _ p (prj os l) (prj os r) os (g3.trans (.ofSame (((s5.trans s6).trans s7).trans s8) g3.dr)) (.tup upd_same (.cons (.str _) (.cons (.int _) (.cons (Im.ints (s8 _ _ (s7 _ _ (s6 _ _ ep1)))) (.cons (.int _) (.cons (Im.ints (s8 _ _ upd_same)) .nil)))))) rfl rfl hos (fun x hx => ?_) (fun hb x hx => ?_)
        · rw [zip] at hx
          obtain ⟨k, hk, rfl⟩ := List.mem_map.mp hx
          have := hos.2 k hk
          exact (zip_get hll).mpr ⟨k.toNat, by omega, rfl⟩
        · obtain ⟨i, hi, rfl⟩ := (zip_get hll).mp hx
          rw [zip, hkeep hb]
          refine List.mem_map.mpr ⟨(i : Int), pm.mem_iff.mpr ?_, rfl⟩
          exact List.mem_map.mpr ⟨i, List.mem_range.mpr hi, rfl⟩
end
end NK

namespace NK
open PySem PySem.Spec PyProof.Rows L2
theorem pairs_zip {l r : List Int} (h : l.length = r.length) : (List.range l.length).map (fun i => [l.getD i 0, r.getD i 0]) = (l.zip r).map fun p => [p.1, p.2] := by
  refine List.ext_getElem (by rw [List.length_map, List.length_range, List.length_map, List.length_zip]; omega) fun i h1 h2 => ?_
  rw [List.length_map, List.length_range] at h1
  rw [List.getElem_map, List.getElem_map, List.getElem_range, List.getElem_zip, List.getD_eq_getElem?_getD, List.getD_eq_getElem?_getD, List.getElem?_eq_getElem h1, List.getElem?_eq_getElem (by omega)]
  rfl
theorem pairs_nodup {l r : List Int} (nd : l.Nodup) (h : l.length = r.length) : ((List.range l.length).map (fun i => [l.getD i 0, r.getD i 0])).Nodup := by
  have e : ((List.range l.length).map (fun i => [l.getD i 0, r.getD i 0])).map (fun x => x.getD 0 0) = l := by
    rw [List.map_map]
    refine List.ext_getElem (by rw [List.length_map, List.length_range]) fun i h1 h2 => ?_
    rw [List.getElem_map, List.getElem_range]
    show l.getD i 0 = l[i]
    rw [List.getD_eq_getElem?_getD, List.getElem?_eq_getElem h2]
    rfl
  refine L2.nodup_of_map (f := fun x : List Int => x.getD 0 0) ?_
  rw [e]
  exact nd
section
variable {P : Program} {w : World} {K : PySem.W.Frag} {mg : Str → Option Value} {base : Heap}
/-! ### the law: the pairs of an inclusion in ascending order -/
def spAsc (K : PySem.W.Frag) : Sp := fun vs H Q _ => ∃ (dp : Addr) (t u : Int) (l r : List Int), vs = [.ref dp] ∧ Im K H (.ref dp) (Dep.within t l u r).data ∧ l.length = r.length ∧ l.length ≤ 20 ∧ l.Nodup ∧
  ∀ H' p l' r', Same H H' → Im K H' (.ref p) (Dep.within t l' u r').data → l'.length = r'.length → l'.length = l.length → (∀ q, q ∈ l'.zip r' ↔ q ∈ l.zip r) → Q (.ref p) H'
/-- the turns of [pair[m] for pair in pairs] -/
theorem lc_part {σ : L2.St} {H1 : Hp} {D o : Addr} {M : List (Addr × List Int)} {v m : Nat} {Qd : Hp → Prop} (hw : ∀ x : V, wipe ((wipe σ [v]).set v (some x)) [v] = wipe σ [v]) (hv : ∀ x : V, ((wipe σ [v]).set v (some x))[v]? = some (some x))
    (ho : H1 o = some (.lst (M.map fun p => V.ref p.1))) (hM : ∀ k ∈ M, H1 k.1 = some (.tup (k.2.map V.int)) ∧ m < k.2.length) (hl : M.length ≤ 100) (nD : H1 D = none) (hq : ∀ H2, Same H1 H2 → H2 D = some (.lst ((M.map fun k => k.2.getD m 0).map V.int)) → Qd H2) {tk : TE} (htk : tk = fun σ H Q => Q (V.int (m : Int)) H) :
    ∃ W : Nat → Nat → Hp → Prop, (∃ m, W 0 m (upd H1 D (.lst []))) ∧ ∀ i' m H, W i' m H → ((Itl K o).stop i' H ∧ Qd H) ∨ ((Itl K o).go i' H ∧ ∃ Nx : Hp → Prop, (∀ H', Nx H' → ∃ m', m' < m ∧ W (i' + 1) m' H') ∧ ∀ x H', (Itl K o).yld i' H x H' → gName v x (wipe σ [v]) H' fun σ2 H2 => wipe σ2 [v] = wipe σ [v] ∧ tYes σ2 H2 fun bb H3 =>
      if bb = true then tOp (rIxT K) (tVar v) tk σ2 H3 fun y H4 => ∃ acc, H4 D = some (.lst acc) ∧ acc.length < sizeLine ∧ Nx (upd H4 D (.lst (acc ++ [y]))) else Nx H3) := by
  subst htk
  refine lc_list (K := K) (a := o) (xs := M.map fun p => V.ref p.1) (fun i H' => Same H1 H' ∧ H' D = some (.lst (((M.take i).map fun k => k.2.getD m 0).map V.int)))
    ⟨same_upd nD, upd_same⟩ (fun i H' _ h => SqL.of (h.1 _ _ ho)) (fun i x H' hx hP => ?_) (fun H2 hP => ?_)
  · obtain ⟨sm, eD⟩ := hP
    obtain ⟨hi, rfl⟩ := nth_row hx
    have hk := hM _ (List.getElem_mem hi)
    refine ⟨hw _, yesT ⟨.ref M[i].1, hv _, M[i].1, _, (m : Int), _, rfl, rfl, SqT.of (sm _ _ hk.1), col_get (by omega) (by omega), _, eD, ?_, Same.put sm nD, ?_⟩⟩
    · rw [List.length_map, List.length_map, List.length_take]
      exact small1000 (by omega)
    · rw [upd_same, take_next _ hi, List.map_append, Int.toNat_natCast]
      rfl
  · obtain ⟨sm, eD⟩ := hP
    rw [List.length_map, List.take_length] at eD
    exact hq H2 sm eD
theorem ok_asc {f : Addr} {fd : FuncData} {k : Nat} (mt : mg "tuple" = none) (ml : mg "len" = none) (mr : mg "range" = none) (mso : mg "sorted" = none) (F : Fun K "_law_ascending" "_law_ascending" sAsc f fd) : FnOk P w K mg base CX0 (k + 1) f fd ["dependency"] (spAsc K) := by
  refine F.ok scAsc (fun vs H Q E h => ?_) (fun cdv A outer s H vs Q E hr h => ?_)
  · obtain ⟨dp, t, u, l, r, rfl, _⟩ := h
    rfl
  · obtain ⟨dp, t, u, l, r, rfl, im, hll, h20, nd, q⟩ := h
    obtain ⟨dpa, lc, rc, e, edp, el, er⟩ := im.inc
    cases e
    refine ⟨_, pss_cons (ps_set (i := 1) scAsc.nd rfl (.inl rfl) (pe_callB (NR.cr_srtL hr.units) (by rfl) mso boot_sorted (pa_cons
          (pe_lc (own := [("k", 2)]) (g := gName 2) (by rfl) scAsc.nd (pi_range1 rfl mr (pa_cons (pe_callB call_len_seq (by rfl) ml PySem.boot_len (pa_cons (pe_ix ix_tup (pv 0) pe_int (fun _ _ => rfl)) pa_nil)) pa_nil)) (blkOk_by (N := nAsc) (sc := defScope sAsc) (by decide +kernel))
            (fun _ _ _ _ _ => pg_name (i := 2) scAsc.nd rfl (Or.inl rfl)) (fun _ _ _ _ _ => pts_nil)
            (fun _ _ _ _ _ => pe_tup (pa_cons (pe_ix (r := rIxT K) ix_tup (pe_ix (r := rIxT K) ix_tup (pv 0) pe_int (fun _ _ => rfl)) (pv 2) (fun _ _ => rfl)) (pa_cons (pe_ix (r := rIxT K) ix_tup (pe_ix (r := rIxT K) ix_tup (pv 0) pe_int (fun _ _ => rfl)) (pv 2) (fun _ _ => rfl)) pa_nil)))) pa_nil)))
      (pss_one (ps_ret (pe_tup (pa_cons pe_str (pa_cons (pe_ix ix_tup (pv 0) pe_int (fun _ _ => rfl)) (pa_cons (pe_callTy call_tuple_of (by rfl) mt boot_tuple (pa_cons
          (pe_lc (own := [("pair", 3)]) (g := gName 3) (by rfl) scAsc.nd (pi_list (pv 1)) (blkOk_by (N := nAsc) (sc := defScope sAsc) (by decide +kernel)) (fun _ _ _ _ _ => pg_name (i := 3) scAsc.nd rfl (Or.inl rfl)) (fun _ _ _ _ _ => pts_nil)
            (fun _ _ _ _ _ => pe_ix (r := rIxT K) ix_tup (pv 3) pe_int (fun _ _ => rfl))) pa_nil)) (pa_cons (pe_ix ix_tup (pv 0) pe_int (fun _ _ => rfl)) (pa_cons (pe_callTy call_tuple_of (by rfl) mt boot_tuple (pa_cons
          (pe_lc (own := [("pair", 3)]) (g := gName 3) (by rfl) scAsc.nd (pi_list (pv 1)) (blkOk_by (N := nAsc) (sc := defScope sAsc) (by decide +kernel)) (fun _ _ _ _ _ => pg_name (i := 3) scAsc.nd rfl (Or.inl rfl)) (fun _ _ _ _ _ => pts_nil)
            (fun _ _ _ _ _ => pe_ix (r := rIxT K) ix_tup (pv 3) pe_int (fun _ _ => rfl))) pa_nil)) pa_nil)))))))), ?_⟩
    -- the pairs
    refine ⟨.ref dp, rfl, dp, _, 2, .ref lc, rfl, rfl, SqT.of edp, atI_nat (j := 2) rfl, lc, _, rfl, .inr (SqT.of el), _, rfl, ?_⟩
    rw [List.length_map]
    refine ⟨by omega, by omega, fun C nC => lc_range (lo := 0) (n := ((l.length : Nat) : Int).toNat) (fun j H' => Same H H' ∧ ∃ ks : List (Addr × List Int), H' C = some (.lst (ks.map fun p => V.ref p.1)) ∧ (∀ k ∈ ks, H' k.1 = some (.tup (k.2.map V.int))) ∧ ks.map (·.2) = (List.range j).map fun i => [l.getD i 0, r.getD i 0])
      ⟨same_upd nC, [], upd_same, fun k hk => (by cases hk), rfl⟩ (fun j H' hj hP => ?_) (fun H' hP => ?_)⟩
    · obtain ⟨s1, ks, eC, hks, hkm⟩ := hP
      rw [Int.toNat_natCast] at hj
      have hkl : ks.length = j := by
        have := congrArg List.length hkm
        rw [List.length_map, List.length_map, List.length_range] at this
        exact this
      refine ⟨rfl, yesT ⟨.ref dp, rfl, dp, _, 2, .ref lc, rfl, rfl, SqT.of (s1 _ _ edp), atI_nat (j := 2) rfl, .int (0 + (j : Int)), rfl, lc, _, _, _, rfl, rfl, SqT.of (s1 _ _ el), col_get (by omega) (by omega),
        .ref dp, rfl, dp, _, 4, .ref rc, rfl, rfl, SqT.of (s1 _ _ edp), atI_nat (j := 4) rfl, .int (0 + (j : Int)), rfl, rc, _, _, _, rfl, rfl, SqT.of (s1 _ _ er), col_get (by omega) (by omega), by show 2 ≤ sizeLine; decide, fun p np => ?_⟩⟩
      have ej : (0 + (j : Int)).toNat = j := by omega
      rw [ej]
      have s2 := s1.trans (same_upd (o := HO.tup [.int (l.getD j 0), .int (r.getD j 0)]) np)
      have eC2 := same_upd (o := HO.tup [.int (l.getD j 0), .int (r.getD j 0)]) np _ _ eC
      refine ⟨_, eC2, ?_, Same.put s2 nC, ks ++ [(p, [l.getD j 0, r.getD j 0])], by rw [upd_same, List.map_append]; rfl, fun k hk => ?_, by rw [List.map_append, hkm, List.range_succ, List.map_append]; rfl⟩
      · rw [List.length_map]
        exact small1000 (by omega)
      · rcases List.mem_append.mp hk with hk | hk
        · exact tup_put eC2 (fun ys e => by cases e) (same_upd np _ _ (hks k hk))
        · rw [List.mem_singleton.mp hk]
          exact tup_put eC2 (fun ys e => by cases e) upd_same
    · obtain ⟨s1, ks, eC, hks, hkm⟩ := hP
      rw [Int.toNat_natCast] at hkm
      have hkl : ks.length = l.length := by
        have := congrArg List.length hkm
        rw [List.length_map, List.length_map, List.length_range] at this
        exact this
      have two : ∀ k ∈ ks, k.2.length = 2 := fun k hk => by
        have : k.2 ∈ ks.map (·.2) := List.mem_map.mpr ⟨k, hk, rfl⟩
        rw [hkm] at this
        obtain ⟨i, _, e⟩ := List.mem_map.mp this
        rw [← e]
        rfl
      refine ⟨C, ks, rfl, SqL.of eC, fun p hp => SqT.of (hks p hp), by rw [hkm]; exact pairs_nodup nd hll, (.inl fun p hp e => (by have := two p hp; rw [e] at this; cases this)), by omega, fun M b pm asc nb => ?_⟩
      have s2 := s1.trans (same_upd (o := HO.lst (M.map fun q => V.ref q.1)) nb)
      have eb : upd H' b (HO.lst (M.map fun q => V.ref q.1)) b = some (.lst (M.map fun q => V.ref q.1)) := upd_same
      have hM0 : ∀ k ∈ M, upd H' b (HO.lst (M.map fun q => V.ref q.1)) k.1 = some (.tup (k.2.map V.int)) ∧ k.2.length = 2 := fun k hk => ⟨same_upd nb _ _ (hks k (pm.mem_iff.mp hk)), two k (pm.mem_iff.mp hk)⟩
      generalize upd H' b (HO.lst (M.map fun q => V.ref q.1)) = H2 at s2 eb hM0
      have hMl : M.length ≤ 100 := by rw [pm.length_eq]; omega
      refine ⟨.ref dp, rfl, dp, _, 1, .int t, rfl, rfl, SqT.of (s2 _ _ edp), atI_nat (j := 1) rfl, .ref b, rfl, b, rfl, ⟨_, SqL.of eb⟩, fun C1 nC1 => lc_part (m := 0) (fun _ => rfl) (fun _ => rfl) eb (fun k hk => ⟨(hM0 k hk).1, by rw [(hM0 k hk).2]; decide⟩) hMl nC1 (fun H4 s4 eC1 => ?_) rfl⟩
      refine ⟨C1, _, rfl, .inl ⟨SqL.of eC1, fun p1 np1 => ?_⟩⟩
      have s5 := s4.trans (same_upd (o := HO.tup ((M.map fun k => k.2.getD 0 0).map V.int)) np1)
      have ep1 : upd H4 p1 (HO.tup ((M.map fun k => k.2.getD 0 0).map V.int)) p1 = some (.tup ((M.map fun k => k.2.getD 0 0).map V.int)) := upd_same
      generalize upd H4 p1 (HO.tup ((M.map fun k => k.2.getD 0 0).map V.int)) = H5 at s5 ep1
      refine ⟨.ref dp, rfl, dp, _, 3, .int u, rfl, rfl, SqT.of (s5 _ _ (s2 _ _ edp)), atI_nat (j := 3) rfl, .ref b, rfl, b, rfl, ⟨_, SqL.of (s5 _ _ eb)⟩, fun C2 nC2 =>
        lc_part (m := 1) (fun _ => rfl) (fun _ => rfl) (s5 _ _ eb) (fun k hk => ⟨s5 _ _ (hM0 k hk).1, by rw [(hM0 k hk).2]; decide⟩) hMl nC2 (fun H6 s6 eC2 => ?_) rfl⟩
      refine ⟨C2, _, rfl, .inl ⟨SqL.of eC2, fun p2 np2 => ?_⟩⟩
      have s7 := same_upd (o := HO.tup ((M.map fun k => k.2.getD 1 0).map V.int)) np2
      refine ⟨by show 5 ≤ sizeLine; decide, fun p np => ?_⟩
      have s8 := same_upd (o := HO.tup [.str "within", .int t, .ref p1, .int u, .ref p2]) np
      refine q _ p (M.map fun k => k.2.getD 0 0) (M.map fun k => k.2.getD 1 0) ((((s2.trans s5).trans s6).trans s7).trans s8) (.tup upd_same (.cons (.str _) (.cons (.int _) (.cons (Im.ints (s8 _ _ (s7 _ _ (s6 _ _ ep1)))) (.cons (.int _) (.cons (Im.ints (s8 _ _ upd_same)) .nil))))))
        (by rw [List.length_map, List.length_map]) (by rw [List.length_map, pm.length_eq, hkl]) fun q => ?_
      rw [zip_maps, (pm.map _).mem_iff]
      have e : (ks.map fun k => (k.2.getD 0 0, k.2.getD 1 0)) = l.zip r := by
        have e1 : (ks.map fun k => (k.2.getD 0 0, k.2.getD 1 0)) = (ks.map (·.2)).map fun x => (x.getD 0 0, x.getD 1 0) := by rw [List.map_map]; rfl
        rw [e1, hkm, pairs_zip hll, List.map_map]
        exact List.map_id _
      rw [e]
end
end NK

namespace NK
open PySem PySem.Spec PyProof.Rows L2
def tupsD (L : List (List Int)) : List PyData := L.map intsD
theorem canLay_tups : ∀ L : List (List Int), PyData.canLayAll0 (tupsD L) = true
  | [] => by simp [tupsD, PyData.canLayAll0]
  | l :: L => by
    show PyData.canLayAll0 (PyData.tuple (l.map .int) :: tupsD L) = true
    simp only [PyData.canLayAll0, PyData.canLay0, canLay_ints, canLay_tups L, Bool.and_self]
theorem depth_tups : ∀ L : List (List Int), PyData.depthAll (tupsD L) ≤ 1
  | [] => by simp [tupsD, PyData.depthAll]
  | l :: L => by
    show PyData.depthAll (PyData.tuple (l.map .int) :: tupsD L) ≤ 1
    have := depth_tups L
    simp only [PyData.depthAll, PyData.depth, PySem.W.depth_ints]
    omega
theorem shaped_tups (L : List (List Int)) : SeqAt.shaped (.list (tupsD L)) = true := by
  show (PyData.canLay0 (.list (tupsD L)) && decide (PyData.depth (.list (tupsD L)) ≤ 64)) = true
  rw [Bool.and_eq_true]
  refine ⟨?_, decide_eq_true ?_⟩
  · simp only [PyData.canLay0]
    exact canLay_tups L
  · have := depth_tups L
    simp only [PyData.depth]
    omega
theorem shaped_rows (L : List (List Int)) : SeqAt.shaped (rowsD L) = true := by
  show (PyData.canLay0 (.tuple (tupsD L)) && decide (PyData.depth (.tuple (tupsD L)) ≤ 64)) = true
  rw [Bool.and_eq_true]
  refine ⟨?_, decide_eq_true ?_⟩
  · simp only [PyData.canLay0]
    exact canLay_tups L
  · have := depth_tups L
    simp only [PyData.depth]
    omega
theorem any_tups (x : List Int) : ∀ L : List (List Int), ((tupsD L).any fun z => PyData.eqv z (intsD x)) = decide (x ∈ L)
  | [] => rfl
  | l :: L => by
    show (PyData.eqv (intsD l) (intsD x) || (tupsD L).any fun z => PyData.eqv z (intsD x)) = _
    rw [any_tups x L, eqv_tup]
    by_cases e : x = l
    · subst e
      simp
    · have e' : ¬ l = x := fun z => e z.symm
      simp [e, e']
theorem eqvAll_tups : ∀ a b : List (List Int), PyData.eqvAll (tupsD a) (tupsD b) = decide (a = b)
  | [], [] => by simp [tupsD, PyData.eqvAll]
  | [], _ :: _ => by simp [tupsD, PyData.eqvAll]
  | _ :: _, [] => by simp [tupsD, PyData.eqvAll]
  | x :: a, y :: b => by
    show PyData.eqvAll (intsD x :: tupsD a) (intsD y :: tupsD b) = _
    rw [PyData.eqvAll, eqvAll_tups a b, eqv_tup]
    by_cases h : x = y <;> by_cases k : a = b <;> simp [h, k]
theorem eqv_rows (a b : List (List Int)) : PyData.eqv (rowsD a) (rowsD b) = decide (a = b) := by
  show PyData.eqv (.tuple (tupsD a)) (.tuple (tupsD b)) = _
  simp only [PyData.eqv]
  exact eqvAll_tups a b
section
variable {P : Program} {w : World} {K : PySem.W.Frag} {mg : Str → Option Value} {base : Heap}
theorem dp_tups {H : Hp} {T : Addr} {L : List (Addr × List Int)} (e : H T = some (.lst (L.map fun p => V.ref p.1))) (h : ∀ p ∈ L, H p.1 = some (.tup (p.2.map V.int))) : Dp K H (.ref T) (.list (tupsD (L.map (·.2)))) := .lst (SqL.of e) (ImAll.rows (K := K) L h).dp
end
abbrev nLaw : List Str := ["script", "draws", "cell", "scheme", "wide", "store", "first", "many", "there", "second", "third", "dependency", "told", "plain", "values", "table", "column", "row", "one"]
theorem scLaw : FnScope nLaw ["script"] (defScope sLaw) := ⟨rfl, rfl, rfl, by decide +kernel, rfl, by decide +kernel, by decide +kernel⟩
structure Bts (mg : Str → Option Value) : Prop where
  len : mg "len" = none
  range : mg "range" = none
  tuple : mg "tuple" = none
  int : mg "int" = none
/-- an inclusion that fits the tables -/
structure Fits (sw : List Int) (t : Int) (l : List Int) (u : Int) (r : List Int) : Prop where
  t0 : 0 ≤ t
  u0 : 0 ≤ u
  left : ∃ n, sw[t.toNat]? = some n ∧ In n l
  right : ∃ n, sw[u.toNat]? = some n ∧ In n r
  ll : l.length = r.length
  one : 1 ≤ l.length
  nd : l.Nodup
abbrev tb (S : List (List (List Int))) (t : Int) : List (List Int) := S.getD t.toNat []
theorem getD_of {α : Type} {S : List α} {i : Nat} {d : α} (h : i < S.length) : S[i]? = some (S.getD i d) := by
  rw [List.getD_eq_getElem?_getD, List.getElem?_eq_getElem h]
  rfl
theorem Fits.inc {K : PySem.W.Frag} {H : Hp} {sw : List Int} {t u : Int} {l r : List Int} {st dp : V} {S : List (List (List Int))} (h : Fits sw t l u r) (hS : Sto sw 60 S) (im : Im K H st (storeD S)) (dpi : Im K H dp (Dep.within t l u r).data) : ∃ n n', sw[t.toNat]? = some n ∧ sw[u.toNat]? = some n' ∧ IncDep K H st dp t l u r n n' (tb S t) (tb S u) S := by
  obtain ⟨n, hn, hl⟩ := h.left
  obtain ⟨n', hn', hr⟩ := h.right
  obtain ⟨h1, _⟩ := List.getElem?_eq_some_iff.mp hn
  obtain ⟨h2, _⟩ := List.getElem?_eq_some_iff.mp hn'
  have e1 : S[t.toNat]? = some (tb S t) := getD_of (by rw [hS.len]; exact h1)
  have e2 : S[u.toNat]? = some (tb S u) := getD_of (by rw [hS.len]; exact h2)
  have a := hS.tab _ _ _ hn e1
  have b := hS.tab _ _ _ hn' e2
  exact ⟨n, n', hn, hn', im, dpi, h.t0, h.u0, e1, e2, a.1.len, b.1.len, by omega, by omega, hl, hr, h.ll⟩
theorem Sto.mono {sw : List Int} {a b : Nat} {S : List (List (List Int))} (h : Sto sw a S) (ab : a ≤ b) : Sto sw b S := ⟨h.len, fun i n R x y => ⟨(h.tab i n R x y).1, Nat.le_trans (h.tab i n R x y).2 ab⟩⟩
theorem Sto.few {sw : List Int} {b : Nat} {S : List (List (List Int))} {t : Int} {n : Int} (h : Sto sw b S) (hn : sw[t.toNat]? = some n) : (tb S t).length ≤ b ∧ Tab n (tb S t) := by
  obtain ⟨h1, _⟩ := List.getElem?_eq_some_iff.mp hn
  have a := h.tab _ _ _ hn (getD_of (d := []) (by rw [h.len]; exact h1))
  exact ⟨a.2, a.1⟩
theorem Sto.set {sw : List Int} {b : Nat} {S : List (List (List Int))} {i : Nat} {n : Int} {R : List (List Int)} (h : Sto sw b S) (hn : sw[i]? = some n) (tab : Tab n R) (len : R.length ≤ b) : Sto sw b (S.set i R) := by
  refine ⟨by rw [List.length_set]; exact h.len, fun k m R' e1 e2 => ?_⟩
  by_cases ki : k = i
  · subst ki
    have hk : k < S.length := by
      obtain ⟨h1, _⟩ := List.getElem?_eq_some_iff.mp e2
      rw [List.length_set] at h1
      exact h1
    rw [set_at hk] at e2
    cases e2
    rw [hn] at e1
    cases e1
    exact ⟨tab, len⟩
  · rw [List.getElem?_set, if_neg (fun z => ki z.symm)] at e2
    exact h.tab k m R' e1 e2
theorem In.zip {n : Int} {l r l' r' : List Int} (h : In n r) (h1 : l.length = r.length) (h2 : l'.length = r'.length) (h3 : l'.length = l.length) (hz : ∀ q, q ∈ l'.zip r' ↔ q ∈ l.zip r) : In n r' := by
  refine ⟨by have := h.1; omega, fun c hc => ?_⟩
  obtain ⟨i, hi, e⟩ := List.getElem_of_mem hc
  have hq : (l'.getD i 0, r'.getD i 0) ∈ l'.zip r' := (zip_get h2).mpr ⟨i, by omega, rfl⟩
  obtain ⟨j, hj, e2⟩ := (zip_get h1).mp ((hz _).mp hq)
  have e3 : r'.getD i 0 = c := by
    rw [List.getD_eq_getElem?_getD, List.getElem?_eq_getElem hi]
    exact e
  have e4 := congrArg Prod.snd e2
  rw [← e3, show r'.getD i 0 = r.getD j 0 from e4]
  exact h.2 _ (getD_mem (by omega))
theorem In.zipl {n : Int} {l r l' r' : List Int} (h : In n l) (h1 : l.length = r.length) (h2 : l'.length = r'.length) (h3 : l'.length = l.length) (hz : ∀ q, q ∈ l'.zip r' ↔ q ∈ l.zip r) : In n l' := by
  refine ⟨by have := h.1; omega, fun c hc => ?_⟩
  obtain ⟨i, hi, e⟩ := List.getElem_of_mem hc
  have hq : (l'.getD i 0, r'.getD i 0) ∈ l'.zip r' := (zip_get h2).mpr ⟨i, hi, rfl⟩
  obtain ⟨j, hj, e2⟩ := (zip_get h1).mp ((hz _).mp hq)
  have e3 : l'.getD i 0 = c := by
    rw [List.getD_eq_getElem?_getD, List.getElem?_eq_getElem hi]
    exact e
  have e4 := congrArg Prod.fst e2
  rw [← e3, show l'.getD i 0 = l.getD j 0 from e4]
  exact h.2 _ (getD_mem (by omega))
theorem prj_len (l x : List Int) : (prj l x).length = l.length := by
  unfold prj
  rw [List.length_map]
theorem prj_in {n : Int} {so cs : List Int} (hc : In n cs) (hs : In cs.length so) : In n (prj so cs) := by
  refine ⟨by rw [prj_len]; exact hs.1, fun c hcm => ?_⟩
  obtain ⟨p, hp, rfl⟩ := List.mem_map.mp hcm
  have hb := hs.2 p hp
  exact hc.2 _ (getD_mem (by omega))
theorem IncDep.with {K : PySem.W.Frag} {H : Hp} {st dp dp2 : V} {t u : Int} {l r l2 r2 : List Int} {n n' : Int} {R R' : List (List Int)} {S : List (List (List Int))} (h : IncDep K H st dp t l u r n n' R R' S) (im : Im K H dp2 (Dep.within t l2 u r2).data) (hl : In n l2) (hr : In n' r2) (ll : l2.length = r2.length) : IncDep K H st dp2 t l2 u r2 n n' R R' S :=
  ⟨h.st, im, h.t0, h.u0, h.tR, h.uR, h.hR, h.hR', h.len, h.len', hl, hr, ll⟩
theorem not_same (k : Bool) : V.bl (!decide (V.bl k = V.bl k)) = V.bl false := by
  rw [decide_eq_true rfl]
  rfl
theorem In.take {n : Int} {l : List Int} {m : Nat} (h : In n l) : In n (l.take m) := ⟨by rw [List.length_take]; have := h.1; omega, fun c hc => h.2 c (List.mem_of_mem_take hc)⟩
/-- the bools of a projection, told by the breach -/
theorem bools_none {l r : List Int} {R R' M : List (List Int)} (h : Prj l R M) : (!inV (V.bl false) ((M.map fun m => decide (m ∈ R'.map (prj r))).map V.bl)) = (wbr l r R R').isNone := by
  have e : ∀ bs : List Bool, (!inV (V.bl false) (bs.map V.bl)) = true ↔ ∀ b ∈ bs, b = true := by
    intro bs
    induction bs with
    | nil => exact ⟨fun _ b hb => (by cases hb), fun _ => rfl⟩
    | cons b bs ih =>
      cases b with
      | true =>
        rw [List.forall_mem_cons]
        exact ⟨fun z => ⟨rfl, ih.mp z⟩, fun z => ih.mpr z.2⟩
      | false => exact ⟨fun z => (by cases z), fun z => (by cases z false (List.mem_cons_self ..))⟩
  rw [Bool.eq_iff_iff, e]
  rw [Option.isNone_iff_eq_none]
  unfold wbr
  rw [List.find?_eq_none]
  constructor
  · intro hb x hx
    have := hb _ (List.mem_map.mpr ⟨prj l x, (h.mem _).mpr (List.mem_map.mpr ⟨x, hx, rfl⟩), rfl⟩)
    unfold stray
    rw [this]
    decide
  · intro hs b hb
    obtain ⟨m, hm, rfl⟩ := List.mem_map.mp hb
    obtain ⟨x, hx, rfl⟩ := List.mem_map.mp ((h.mem m).mp hm)
    have := hs x hx
    unfold stray at this
    by_cases z : prj l x ∈ R'.map (prj r)
    · exact decide_eq_true z
    · rw [decide_eq_false z] at this
      exact absurd rfl this
section
variable {P : Program} {w : World} {K : PySem.W.Frag} {mg : Str → Option Value} {base : Heap}
def spLaw (K : PySem.W.Frag) : Sp := fun vs H Q _ => ∃ (a : Addr) (ns : List Int), vs = [.ref a] ∧ SqL K H a (ns.map V.int) ∧ ns.length ≤ 63 ∧ ∀ H', Q (.bl true) H'
theorem ok_law {f f1 f2 f3 f4 f5 f6 f7 f8 f9 f10 f11 f12 f13 f14 f15 f16 : Addr} {fd d1 d2 d3 d4 d5 d6 d7 d8 d9 d10 d11 d12 d13 d14 d15 d16 : FuncData} (F : Fun K "law" "law" sLaw f fd) (T : Hlp K mg f1 d1) (mset : mg "set" = none)
    (DR : Df K mg "_law_draws" sDraws ["script", "many"] f2 d2) (DC : Df K mg "_law_cell" sCell ["script", "draws"] f3 d3) (DWi : Df K mg "_law_wide" sWide ["draws", "cell"] f4 d4) (DRo : Df K mg "_law_rows" sRows ["draws", "width", "most", "wide"] f5 d5)
    (DSt : Df K mg "_law_store" sStore ["draws", "scheme", "most", "wide"] f6 d6) (DI : Df K mg "_law_inclusion" sIncl ["draws", "scheme", "order"] f7 d7) (DSh : Df K mg "_law_shuffled" sShuf ["draws", "row"] f8 d8)
    (DN : Df K mg "_law_needed" sNeeded ["draws", "store", "dependency", "widths", "wide"] f9 d9) (DA : Df K mg "_law_ascending" sAsc ["dependency"] f10 d10) (DSo : Df K mg "_law_some" sSome ["draws", "dependency", "keep"] f11 d11)
    (PV : Df K mg "values_at" p_values_at ["row", "columns"] f12 d12) (PB : Df K mg "inclusion_breach" p_inclusion_breach ["rows", "columns", "other_rows", "others"] f13 d13) (PL : Df K mg "least_breach" p_least_breach ["scheme", "store", "dependency"] f14 d14)
    (PK : Df K mg "keeps" p_keeps ["scheme", "store", "dependency"] f15 d15) (PP : Df K mg "projection" p_projection ["rows", "columns"] f16 d16) : FnOk P w K mg base CX0 5 f fd ["script"] (spLaw K) := by
  have GT : FnOk P w K mg base CX0 1 f1 d1 ["draws", "many"] spTake := ok_take T.FT T.len T.int
  have GDR : FnOk P w K mg base CX0 1 f2 d2 ["script", "many"] (spDraws K) := ok_draws DR.F T.len T.int T.list T.range
  have GC : FnOk P w K mg base CX0 2 f3 d3 ["script", "draws"] (spCell K) := ok_cell DC.F T.FT T.bT T.gT T.len T.int
  have GWi : FnOk P w K mg base CX0 2 f4 d4 ["draws", "cell"] spWide := ok_wide T DWi.F
  have GSt : FnOk P w K mg base CX0 3 f6 d6 ["draws", "scheme", "most", "wide"] (spStore K) := ok_store T mset DSt.F DRo.F DRo.b DRo.g
  have GI : FnOk P w K mg base CX0 3 f7 d7 ["draws", "scheme", "order"] (spIncl K) := ok_incl T DI.F DSh.F DSh.b DSh.g
  have GSh : FnOk P w K mg base CX0 2 f8 d8 ["draws", "row"] spShuf := ok_shuf T DSh.F
  have GN : FnOk P w K mg base CX0 2 f9 d9 ["draws", "store", "dependency", "widths", "wide"] (spNeeded K) := ok_needed T mset DN.F
  have GA : FnOk P w K mg base CX0 1 f10 d10 ["dependency"] (spAsc K) := ok_asc T.tuple T.len T.range T.sorted DA.F
  have GSo : FnOk P w K mg base CX0 3 f11 d11 ["draws", "dependency", "keep"] (spSome K) := ok_some T DSo.F DSh
  have GKe : FnOk P w K mg base CX0 4 f15 d15 ["scheme", "store", "dependency"] (spKeeps K) := ok_keeps T.tuple PK.F PV.F PV.b PV.g PB.F PB.b PB.g PL.F PL.b PL.g
  have GP : FnOk P w K mg base CX0 2 f16 d16 ["rows", "columns"] (spProj K) := ok_proj T.tuple T.sorted PP.F PV.F PV.b PV.g
  refine F.ok scLaw (fun vs H Q E h => ?_) (fun cdv A outer s H vs Q E hr h => ?_)
  · obtain ⟨a, ns, rfl, _⟩ := h
    rfl
  · obtain ⟨a, ns, rfl, hS, hlen, q⟩ := h
    have hr1 := hr.mono (show 1 ≤ 4 by decide)
    have hr2 := hr.mono (show 2 ≤ 4 by decide)
    have hr3 := hr.mono (show 3 ≤ 4 by decide)
    refine ⟨_, pss_cons (ps_set (i := 1) scLaw.nd rfl (.inr rfl) (pe_call GDR hr1 (by rfl) DR.g DR.F.kp DR.b .nil pass0 (pa_cons (pv 0) (pa_cons pe_int pa_nil))))
      (pss_cons (ps_set (i := 2) scLaw.nd rfl (.inl rfl) (pe_call GC hr2 (by rfl) DC.g DC.F.kp DC.b .nil pass0 (pa_cons (pv 0) (pa_cons (pv 1) pa_nil))))
      (pss_cons (ps_set (i := 3) scLaw.nd rfl (.inl rfl) (pe_callTy call_tuple_of (by rfl) T.tuple boot_tuple (pa_cons
          (pe_lc (own := [("table", 15)]) (g := gName 15) (by rfl) scLaw.nd (pi_range1 rfl T.range (pa_cons pe_int pa_nil)) (blkOk_by (N := nLaw) (sc := defScope sLaw) (by decide +kernel)) (fun _ _ _ _ _ => pg_name (i := 15) scLaw.nd rfl (Or.inl rfl)) (fun _ _ _ _ _ => pts_nil)
            (fun _ _ _ _ _ => pe_op op_add pe_int (pe_call GT hr1 (by rfl) T.gT T.FT.kp T.bT .nil pass0 (pa_cons (pv 1) (pa_cons pe_int pa_nil))))) pa_nil)))
      (pss_cons (ps_set (i := 4) scLaw.nd rfl (.inl rfl) (pe_call GWi hr2 (by rfl) DWi.g DWi.F.kp DWi.b .nil pass0 (pa_cons (pv 1) (pa_cons (pv 2) pa_nil))))
      (pss_cons (ps_set (i := 5) scLaw.nd rfl (.inl rfl) (pe_call GSt hr3 (by rfl) DSt.g DSt.F.kp DSt.b .nil pass0 (pa_cons (pv 1) (pa_cons (pv 3) (pa_cons pe_int (pa_cons (pv 4) pa_nil))))))
      (pss_cons (ps_set (i := 6) scLaw.nd rfl (.inl rfl) (pe_call GI hr3 (by rfl) DI.g DI.F.kp DI.b .nil pass0 (pa_cons (pv 1) (pa_cons (pv 3) (pa_cons (pe_lst (pa_cons pe_int (pa_cons pe_int pa_nil))) pa_nil)))))
      (pss_cons (ps_set (i := 7) scLaw.nd rfl (.inl rfl) (pe_callB (call_min2 rfl) (by rfl) T.min boot_min (pa_cons (pe_callB call_len_seq (by rfl) T.len PySem.boot_len (pa_cons (pe_ix ix_tup (pv 6) pe_int (fun _ _ => rfl)) pa_nil)) (pa_cons (pe_ix ix_tup (pv 3) pe_int (fun _ _ => rfl)) pa_nil))))
      (pss_cons (ps_set (i := 8) scLaw.nd rfl (.inl rfl) (pe_slice sl_list (pe_call GSh hr2 (by rfl) DSh.g DSh.F.kp DSh.b .nil pass0 (pa_cons (pv 1) (pa_cons
          (pe_lc (own := [("column", 16)]) (g := gName 16) (by rfl) scLaw.nd (pi_range1 rfl T.range (pa_cons (pe_ix ix_tup (pv 3) pe_int (fun _ _ => rfl)) pa_nil)) (blkOk_by (N := nLaw) (sc := defScope sLaw) (by decide +kernel)) (fun _ _ _ _ _ => pg_name (i := 16) scLaw.nd rfl (Or.inl rfl)) (fun _ _ _ _ _ => pts_nil) (fun _ _ _ _ _ => pv 16)) pa_nil))) po_none (po_some (pv 7))))
      (pss_cons (ps_set (i := 9) scLaw.nd rfl (.inl rfl) (pe_tup (pa_cons pe_str (pa_cons pe_int (pa_cons (pe_slice sl_tupU (pe_ix ix_tup (pv 6) pe_int (fun _ _ => rfl)) po_none (po_some (pv 7))) (pa_cons pe_int (pa_cons (pe_callTy call_tuple_of (by rfl) T.tuple boot_tuple (pa_cons (pv 8) pa_nil)) pa_nil)))))))
      (pss_cons (ps_set (i := 10) scLaw.nd rfl (.inl rfl) (pe_tup (pa_cons pe_str (pa_cons pe_int (pa_cons (pe_slice sl_tupU (pe_ix ix_tup (pv 6) pe_int (fun _ _ => rfl)) po_none (po_some (pv 7))) (pa_cons pe_int (pa_cons (pe_callTy call_tuple_of (by rfl) T.tuple boot_tuple (pa_cons (pv 8) pa_nil)) pa_nil)))))))
      (C8.pss_cut (ps_if (pt_cmpR op_eq (pe_call GT hr1 (by rfl) T.gT T.FT.kp T.bT .nil pass0 (pa_cons (pv 1) (pa_cons pe_int pa_nil))) pe_int (nomark _))
        (pss_one (ps_set (i := 5) scLaw.nd rfl (.inl rfl) (pe_call GN hr2 (by rfl) DN.g DN.F.kp DN.b .nil pass0 (pa_cons (pv 1) (pa_cons (pe_call GN hr2 (by rfl) DN.g DN.F.kp DN.b .nil pass0 (pa_cons (pv 1) (pa_cons (pv 5) (pa_cons (pv 6) (pa_cons (pv 3) (pa_cons (pv 4) pa_nil)))))) (pa_cons (pv 9) (pa_cons (pv 3) (pa_cons (pv 4) pa_nil))))))))
        pss_nil)
      (pss_cons (ps_for PassesOwn.never rfl (pi_list (pe_lst (pa_cons (pv 6) (pa_cons (pv 9) (pa_cons (pv 10) pa_nil))))) (pg_name (i := 11) scLaw.nd rfl (.inl rfl))
        (pss_cons (ps_set (i := 12) scLaw.nd rfl (.inl rfl) (pe_call GKe hr (by rfl) PK.g PK.F.kp PK.b .nil pass0 (pa_cons (pv 3) (pa_cons (pv 5) (pa_cons (pv 11) pa_nil)))))
        (pss_cons (ps_set (i := 13) scLaw.nd rfl (.inr rfl) (pe_call GA hr1 (by rfl) DA.g DA.F.kp DA.b .nil pass0 (pa_cons (pv 11) pa_nil)))
        (pss_cons (ps_set (i := 14) scLaw.nd rfl (.inr rfl) (pe_lc (own := [("row", 17)]) (g := gName 17) (by rfl) scLaw.nd (pi_tup (pe_ix ix_tup (pv 5) (pe_ix ix_tup (pv 13) pe_int (fun _ _ => rfl)) (fun _ _ => rfl))) (blkOk_by (N := nLaw) (sc := defScope sLaw) (by decide +kernel))
            (fun _ _ _ _ _ => pg_name (i := 17) scLaw.nd rfl (Or.inr rfl)) (fun _ _ _ _ _ => pts_nil)
            (fun _ _ _ _ _ => pe_callTy (r := rTupOf K) call_tuple_of (by rfl) T.tuple boot_tuple (pa_cons (pe_lc (own := [("column", 16)]) (g := gName 16) (by rfl) scLaw.nd (pi_tupK (K := K) rfl (pe_ix (r := rIxT K) ix_tup (pv 13) pe_int (fun _ _ => rfl))) (blkOk_by (by rfl))
              (fun _ _ _ _ _ => pg_name (i := 16) scLaw.nd rfl (Or.inl rfl)) (fun _ _ _ _ _ => pts_nil) (fun _ _ _ _ _ => pe_ix (r := rIxT K) ix_tup (pv 17) (pv 16) (fun _ _ => rfl))) pa_nil))))
        (pss_cons (ps_if (pt_cmpR op_ne (pv 12) (pe_cmpR op_notIn_seq pe_bl (pe_lc (own := [("one", 18)]) (g := gName 18) (by rfl) scLaw.nd
              (pi_tup (pe_call GP hr2 (by rfl) PP.g PP.F.kp PP.b .nil pass0 (pa_cons (pe_ix ix_tup (pv 5) (pe_ix ix_tup (pv 13) pe_int (fun _ _ => rfl)) (fun _ _ => rfl)) (pa_cons (pe_ix ix_tup (pv 13) pe_int (fun _ _ => rfl)) pa_nil)))) (blkOk_by (N := nLaw) (sc := defScope sLaw) (by decide +kernel))
              (fun _ _ _ _ _ => pg_name (i := 18) scLaw.nd rfl (Or.inl rfl)) (fun _ _ _ _ _ => pts_nil) (fun _ _ _ _ _ => pe_cmpR (r := rInD K) (op_inD (u65 hr)) (pv 18) (pv 14) (by rfl))) (by rfl)) (nomark _)) (pss_one (ps_ret pe_bl)) pss_nil)
        (pss_cons (ps_if (PW.pt (pw_or (pt_cmpR op_ne (pe_call GKe hr (by rfl) PK.g PK.F.kp PK.b .nil pass0 (pa_cons (pv 3) (pa_cons (pv 5) (pa_cons (pv 13) pa_nil)))) (pv 12) (nomark _))
            (pw_or1 (pt_cmpR op_ne (pe_call GKe hr (by rfl) PK.g PK.F.kp PK.b .nil pass0 (pa_cons (pv 3) (pa_cons (pv 5) (pa_cons (pe_call GSo hr3 (by rfl) DSo.g DSo.F.kp DSo.b .nil pass0 (pa_cons (pv 1) (pa_cons (pv 11) (pa_cons pe_bl pa_nil)))) pa_nil)))) (pv 12) (nomark _))))) (pss_one (ps_ret pe_bl)) pss_nil)
        (pss_one (ps_if (PW.pt (pw_and (pt_val (pv 12)) (pw_and1 (pt_not (pt_val (pe_call GKe hr (by rfl) PK.g PK.F.kp PK.b .nil pass0 (pa_cons (pv 3) (pa_cons (pv 5) (pa_cons (pe_call GSo hr3 (by rfl) DSo.g DSo.F.kp DSo.b .nil pass0 (pa_cons (pv 1) (pa_cons (pv 11) (pa_cons pe_bl pa_nil)))) pa_nil)))))))))
          (pss_one (ps_ret pe_bl)) pss_nil))))))))
      (pss_cons (ps_if (PW.pt (pw_and (pt_val (pe_call GKe hr (by rfl) PK.g PK.F.kp PK.b .nil pass0 (pa_cons (pv 3) (pa_cons (pv 5) (pa_cons (pv 6) pa_nil))))) (pw_and1 (pt_val (pe_call GKe hr (by rfl) PK.g PK.F.kp PK.b .nil pass0 (pa_cons (pv 3) (pa_cons (pv 5) (pa_cons (pv 9) pa_nil))))))))
        (pss_one (ps_ret (pe_cmpR op_isBl (pe_call GKe hr (by rfl) PK.g PK.F.kp PK.b .nil pass0 (pa_cons (pv 3) (pa_cons (pv 5) (pa_cons (pv 10) pa_nil)))) pe_bl (nomark _)))) pss_nil)
      (pss_one (ps_ret pe_bl)))))))))))))), ?_⟩
    -- draws, cell, scheme
    refine ⟨.ref a, rfl, a, ns, 300, rfl, hS, hlen, by decide, by decide, fun H1 d s1 nd D1 => ?_⟩
    refine ⟨.ref a, rfl, .ref d, rfl, a, d, ns, rfl, Scr.of s1 nd hS, D1, fun H2 c g2 => ?_⟩
    refine ⟨3, rfl, by decide, by decide, fun C nC => lc_range (lo := 0) (n := 3) (fun i H3 => Go d H2 H3 ∧ ∃ sw : List Int, H3 C = some (.lst (sw.map V.int)) ∧ sw.length = i ∧ ∀ x ∈ sw, 1 ≤ x ∧ x ≤ 4)
      ⟨(Go.refl g2.dr).new nC, [], by rw [upd_same]; rfl, rfl, fun x hx => (by cases hx)⟩ (fun i H3 hi hP => ?_) (fun H3 hP => ?_)⟩
    · obtain ⟨g3, sw, eC, hl, hb⟩ := hP
      have nCd : C ≠ d := (g2.dr.ne nC).symm
      refine ⟨rfl, yesT ⟨.ref d, rfl, d, 4, rfl, by decide, g3.dr, fun H4 z g4 z0 z1 => ⟨_, _, rfl, rfl, ?_⟩⟩⟩
      have eC4 := g4.keep eC nCd
      refine ⟨_, eC4, ?_, (g3.trans g4).put nC nCd.symm, sw ++ [1 + z], by rw [upd_same, List.map_append]; rfl, by rw [List.length_append, hl]; rfl, fun x hx => ?_⟩
      · rw [List.length_map]
        exact small1000 (by omega)
      · rcases List.mem_append.mp hx with hx | hx
        · exact hb x hx
        · rw [List.mem_singleton.mp hx]
          omega
    · obtain ⟨g3, sw, eC, hl3, hb⟩ := hP
      refine ⟨C, _, rfl, .inl ⟨SqL.of eC, fun sc nsc => ?_⟩⟩
      have esc : upd H3 sc (HO.tup (sw.map V.int)) sc = some (.tup (sw.map V.int)) := upd_same
      have D4 : Dr (upd H3 sc (HO.tup (sw.map V.int))) d := g3.dr.new nsc
      generalize upd H3 sc (HO.tup (sw.map V.int)) = H4 at esc D4
      have hsw : Widths 13 sw := ⟨by omega, by omega, fun x hx => by have := hb x hx; omega⟩
      have hbd : ∀ (i : Nat) (n : Int), sw[i]? = some n → 1 ≤ n ∧ n ≤ 13 := fun i n e => hsw.2.2 n (List.mem_of_getElem? e)
      clear s1 nd D1 g2 g3 eC nsc nC
      -- wide, store
      refine ⟨.ref d, rfl, .int c, rfl, d, c, rfl, D4, fun H5 W ws g5 nW eW w1 _ => ?_⟩
      have nWd : W ≠ d := (D4.ne nW).symm
      have esc5 := g5.keepT D4 esc
      refine ⟨.ref d, rfl, .ref sc, rfl, .ref W, rfl, d, sc, W, 5, sw, ws, rfl, esc5, hsw, by decide, by decide, eW, w1, nWd, g5.dr, fun H6 st S g6 _ ist hSt => ?_⟩
      have esc6 := g6.keepT g5.dr esc5
      have eW6 := g6.keep eW nWd
      -- first
      refine ⟨.ref d, rfl, .ref sc, rfl, by show 2 ≤ sizeLine; decide, fun o no => ?_⟩
      have so := same_upd (o := HO.lst [.int 0, .int 1]) no
      refine ⟨d, sc, o, sw, [0, 1], rfl, SqT.of (so _ _ esc6), hsw, upd_same, (g6.dr.ne no).symm, by show 2 ≤ 12; decide, by show 2 ≤ 2; decide, fun x hx => ?_, (Go.ofSame so g6.dr).dr, fun H7 fi t u l r n n' g7 ifi t0 u0 hn hn' hl hr' hll h1l hij ndl ndr => ?_⟩
      · rcases List.mem_cons.mp hx with rfl | hx
        · omega
        · rw [List.mem_singleton.mp hx]
          omega
      obtain ⟨ii, jj, hlt, hii, hjj⟩ := hij
      have hj2 : jj < 2 := (List.getElem?_eq_some_iff.mp hjj).1
      obtain rfl : ii = 0 := by omega
      obtain rfl : jj = 1 := by omega
      obtain rfl : t = 0 := (Option.some.inj hii).symm
      obtain rfl : u = 1 := (Option.some.inj hjj).symm
      have g67 : Go d H6 H7 := (Go.ofSame so g6.dr).trans g7
      have esc7 := g67.keepT g6.dr esc6
      have eW7 := g67.keep eW6 nWd
      have ist7 := ist.go g67 g6.dr
      have D7 := g7.dr
      obtain ⟨fia, lc, rc, e, efi, el, er⟩ := ifi.inc
      cases e
      obtain ⟨s2, hs2⟩ : ∃ s2, sw[2]? = some s2 := ⟨sw[2], List.getElem?_eq_getElem (by omega)⟩
      have es2 : (sw.map V.int)[2]? = some (.int s2) := by
        rw [List.getElem?_map, hs2]
        rfl
      have hs2b := hb s2 (List.mem_of_getElem? hs2)
      clear g7 so no hii hjj hlt hj2 g5 g6 eW nW esc5 esc6 eW6
      -- many
      refine ⟨.ref fi, rfl, fi, _, 4, .ref rc, rfl, rfl, SqT.of efi, atI_nat (j := 4) rfl, rc, _, rfl, .inr (SqT.of er), .ref sc, rfl, sc, _, 2, .int s2, rfl, rfl, SqT.of esc7, atI_nat (j := 2) es2, _, _, rfl, ?_⟩
      obtain ⟨mn, hmn, m1, m2, m3⟩ : ∃ mn : Nat, (if s2 < (((r.map V.int).length : Nat) : Int) then s2 else (((r.map V.int).length : Nat) : Int)) = (mn : Int) ∧ 1 ≤ mn ∧ mn ≤ r.length ∧ (mn : Int) ≤ s2 := by
        rw [List.length_map]
        split
        · exact ⟨s2.toNat, by omega, by omega, by omega, by omega⟩
        · exact ⟨r.length, rfl, by omega, by omega, by omega⟩
      rw [hmn]
      -- there
      refine ⟨.ref d, rfl, .ref sc, rfl, sc, _, 2, .int s2, rfl, rfl, SqT.of esc7, atI_nat (j := 2) es2, s2, rfl, by omega, by omega, fun C nC => lc_range (lo := 0) (n := s2.toNat) (fun j H' => Go d H7 H' ∧ H' C = some (.lst ((upTo j).map V.int)))
        ⟨(Go.refl D7).new nC, by rw [upd_same]; rfl⟩ (fun j H' hj hP => ?_) (fun H' hP => ?_)⟩
      · obtain ⟨g', eC⟩ := hP
        refine ⟨rfl, yesT ⟨.int (0 + (j : Int)), rfl, _, eC, ?_, g'.put nC (D7.ne nC), ?_⟩⟩
        · rw [List.length_map, upTo_len]
          exact small1000 (by omega)
        · rw [upd_same, upTo_succ, List.map_append]
          rfl
      obtain ⟨g', eC⟩ := hP
      refine ⟨d, C, upTo s2.toNat, rfl, eC, (D7.ne nC).symm, by rw [upTo_len]; omega, g'.dr, fun H9 p1 c1 g9 np1 e1 pm1 => ?_⟩
      refine ⟨.int (mn : Int), rfl, (mn : Int), rfl, p1, _, rfl, SqL.of e1, fun q1 nq1 => ?_⟩
      rw [cutTake, ← List.map_take]
      have g10 : Go d H7 (upd H9 q1 (.lst ((c1.take mn).map V.int))) := (g'.trans g9).new nq1
      have eq1 : upd H9 q1 (.lst ((c1.take mn).map V.int)) q1 = some (.lst ((c1.take mn).map V.int)) := upd_same
      have hcl := pm1.length_eq
      rw [upTo_len] at hcl
      have hth : In s2 (c1.take mn) := ⟨by rw [List.length_take]; omega, fun x hx => by have := upTo_mem (pm1.mem_iff.mp (List.mem_of_mem_take hx)); omega⟩
      have hthl : (c1.take mn).length = mn := by rw [List.length_take]; omega
      generalize upd H9 q1 (.lst ((c1.take mn).map V.int)) = H10 at g10 eq1
      generalize c1.take mn = th at eq1 hth hthl
      clear e1 pm1 hcl nq1 eC nC
      -- second
      refine ⟨.ref fi, rfl, fi, _, 4, .ref rc, rfl, rfl, SqT.of (g10.keepT D7 efi), atI_nat (j := 4) rfl, .int (mn : Int), rfl, (mn : Int), rfl, rc, _, rfl, g10.keepT D7 er, fun p2 H11 s11 e11 => ?_⟩
      rw [cutTake, ← List.map_take] at e11
      refine ⟨.ref q1, rfl, q1, _, rfl, .inl ⟨SqL.of (s11 _ _ eq1), fun t2 nt2 => ⟨by show 5 ≤ sizeLine; decide, fun se nse => ?_⟩⟩⟩
      have s12 := (same_upd (o := HO.tup (th.map V.int)) nt2).trans (same_upd (o := HO.tup [.str "within", .int 1, .ref p2, .int 2, .ref t2]) nse)
      have ise : Im K (upd (upd H11 t2 (HO.tup (th.map V.int))) se (HO.tup [.str "within", .int 1, .ref p2, .int 2, .ref t2])) (.ref se) (Dep.within 1 (r.take mn) 2 th).data :=
        .tup upd_same (.cons (.str _) (.cons (.int _) (.cons (Im.ints (s12 _ _ e11)) (.cons (.int _) (.cons (Im.ints (same_upd nse _ _ upd_same)) .nil)))))
      generalize upd (upd H11 t2 (HO.tup (th.map V.int))) se (HO.tup [.str "within", .int 1, .ref p2, .int 2, .ref t2]) = H12 at s12 ise
      have g12 := g10.trans (.ofSame (s11.trans s12) g10.dr)
      have eq12 := s12 _ _ (s11 _ _ eq1)
      -- third
      refine ⟨.ref fi, rfl, fi, _, 2, .ref lc, rfl, rfl, SqT.of (g12.keepT D7 efi), atI_nat (j := 2) rfl, .int (mn : Int), rfl, (mn : Int), rfl, lc, _, rfl, g12.keepT D7 el, fun p3 H13 s13 e13 => ?_⟩
      rw [cutTake, ← List.map_take] at e13
      refine ⟨.ref q1, rfl, q1, _, rfl, .inl ⟨SqL.of (s13 _ _ eq12), fun t3 nt3 => ⟨by show 5 ≤ sizeLine; decide, fun td ntd => ?_⟩⟩⟩
      have s14 := (same_upd (o := HO.tup (th.map V.int)) nt3).trans (same_upd (o := HO.tup [.str "within", .int 0, .ref p3, .int 2, .ref t3]) ntd)
      have itd : Im K (upd (upd H13 t3 (HO.tup (th.map V.int))) td (HO.tup [.str "within", .int 0, .ref p3, .int 2, .ref t3])) (.ref td) (Dep.within 0 (l.take mn) 2 th).data :=
        .tup upd_same (.cons (.str _) (.cons (.int _) (.cons (Im.ints (s14 _ _ e13)) (.cons (.int _) (.cons (Im.ints (same_upd ntd _ _ upd_same)) .nil)))))
      generalize upd (upd H13 t3 (HO.tup (th.map V.int))) td (HO.tup [.str "within", .int 0, .ref p3, .int 2, .ref t3]) = H14 at s14 itd
      have g14 := g12.trans (.ofSame (s13.trans s14) g12.dr)
      have ise14 := ise.same (s13.trans s14)
      have ifi14 := ifi.go g14 D7
      have ist14 := ist7.go g14 D7
      have esc14 := g14.keepT D7 esc7
      have eW14 := g14.keep eW7 nWd
      have D14 := g14.dr
      have F1 : Fits sw 0 l 1 r := ⟨by decide, by decide, ⟨n, hn, hl⟩, ⟨n', hn', hr'⟩, hll, h1l, ndl⟩
      have F2 : Fits sw 1 (r.take mn) 2 th := ⟨by decide, by decide, ⟨n', hn', hr'.take⟩, ⟨s2, hs2, hth⟩, by rw [List.length_take]; omega, by rw [List.length_take]; omega, (List.take_sublist mn r).nodup ndr⟩
      have F3 : Fits sw 0 (l.take mn) 2 th := ⟨by decide, by decide, ⟨n, hn, hl.take⟩, ⟨s2, hs2, hth⟩, by rw [List.length_take]; omega, by rw [List.length_take]; omega, (List.take_sublist mn l).nodup ndl⟩
      have hSl : S.length = 3 := by rw [hSt.len]; exact hl3
      clear ise g10 g12 s11 s12 s13 s14 e11 e13 nt2 nt3 nse ntd g' g9 np1
      refine ⟨fun σ H => ∃ (st2 : V) (S2 : List (List (List Int))), σ = [some (.ref a), some (.ref d), some (.int c), some (.ref sc), some (.ref W), some st2, some (.ref fi), some (.int (mn : Int)), some (.ref q1), some (.ref se), some (.ref td), none, none, none, none, none, none, none, none] ∧ Go d H14 H ∧ Im K H st2 (storeD S2) ∧ Sto sw 60 S2, ?_, fun σ H16 hM => ?_⟩
      · refine ⟨.ref d, rfl, d, 2, rfl, by decide, D14, fun H16 y g16 _ _ => ⟨rfl, _, rfl, ite2 (fun _ => ?_) (fun _ => ?_)⟩⟩
        · obtain ⟨m, m', hm, hm', hInc⟩ := F1.inc (hSt.mono (by decide)) (ist14.go g16 D14) (ifi14.go g16 D14)
          have f0 := hSt.few hm
          have f1 := hSt.few hm'
          refine ⟨.ref d, rfl, .ref d, rfl, .ref st, rfl, .ref fi, rfl, .ref sc, rfl, .ref W, rfl, d, sc, W, .ref st, .ref fi, sw, ws, 0, 1, l, r, m, m', tb S 0, tb S 1, S, rfl, hInc, g16.keepT D14 esc14, hm', g16.keep eW14 nWd, w1, nWd, g16.dr, (hbd _ _ hm').1, (hbd _ _ hm').2, by omega, by omega, fun H17 v1 R1 g17 im17 tab17 len17 => ?_⟩
          have g117 := g16.trans g17
          have hS1 : Sto sw 40 (S.set (1 : Int).toNat R1) := (hSt.mono (by decide)).set hm' tab17 (by omega)
          obtain ⟨k, k', hk, hk', hInc2⟩ := F2.inc (hS1.mono (by decide)) im17 (ise14.go g117 D14)
          have f2 := hS1.few hk
          have f3 := hSt.few hk'
          have e3 : tb (S.set (1 : Int).toNat R1) 2 = tb S 2 := by
            show (S.set 1 R1).getD 2 [] = S.getD 2 []
            rw [List.getD_eq_getElem?_getD, List.getElem?_set, if_neg (by decide), ← List.getD_eq_getElem?_getD]
          refine ⟨.ref se, rfl, .ref sc, rfl, .ref W, rfl, d, sc, W, v1, .ref se, sw, ws, 1, 2, r.take mn, th, k, k', _, _, _, rfl, hInc2, g117.keepT D14 esc14, hk', g117.keep eW14 nWd, w1, nWd, g17.dr, (hbd _ _ hk').1, (hbd _ _ hk').2, by rw [e3]; omega, by rw [List.length_set]; omega, fun H18 v2 R2 g18 im18 tab18 len18 => ?_⟩
          rw [e3] at len18
          exact ⟨v2, _, rfl, g117.trans g18, im18, (hS1.mono (by decide)).set hk' tab18 (by omega)⟩
        · exact ⟨.ref st, S, rfl, g16, ist14.go g16 D14, hSt.mono (by decide)⟩
      · obtain ⟨st2, S2, rfl, g16, ist2, hS2⟩ := hM
        obtain ⟨sa, xs, _, est, es, _, _⟩ := ist2.storeGet (i := 0) (R := S2.getD 0 []) (getD_of (by rw [hS2.len]; omega))
        subst est
        have esc16 := g16.keepT D14 esc14
        -- the three
        refine ⟨.ref fi, rfl, .ref se, rfl, .ref td, rfl, by show 3 ≤ sizeLine; decide, fun Z nZ => ?_⟩
        have sZ := same_upd (o := HO.lst [.ref fi, .ref se, .ref td]) nZ
        have gZ := g16.trans (.ofSame sZ g16.dr)
        have eZ : upd H16 Z (HO.lst [.ref fi, .ref se, .ref td]) Z = some (.lst [.ref fi, .ref se, .ref td]) := upd_same
        have nZd : Z ≠ d := (g16.dr.ne nZ).symm
        generalize upd H16 Z (HO.lst [.ref fi, .ref se, .ref td]) = HZ at sZ gZ eZ
        have istZ := ist2.same sZ
        have DZ := gZ.dr
        have escZ := sZ _ _ esc16
        have esZ := sZ _ _ es
        have three : ∀ v ∈ [V.ref fi, V.ref se, V.ref td], ∃ t l u r, Fits sw t l u r ∧ Im K HZ v (Dep.within t l u r).data := fun v hv => by
          rcases List.mem_cons.mp hv with rfl | hv
          · exact ⟨_, _, _, _, F1, ifi14.go gZ D14⟩
          · rcases List.mem_cons.mp hv with rfl | hv
            · exact ⟨_, _, _, _, F2, ise14.go gZ D14⟩
            · rw [List.mem_singleton.mp hv]
              exact ⟨_, _, _, _, F3, itd.go gZ D14⟩
        have hxl : xs.length = S2.length := by
          cases istZ with
          | tup h r =>
            cases esZ.symm.trans h
            have := r.length
            rw [List.length_map] at this
            exact this
        refine ⟨Z, rfl, ⟨_, SqL.of eZ⟩, for_list (K := K) (a := Z) (xs := [V.ref fi, V.ref se, V.ref td]) (fun j σ H => ∃ (y11 y12 y13 y14 y15 y16 y17 y18 : Option V), σ = [some (.ref a), some (.ref d), some (.int c), some (.ref sc), some (.ref W), some (.ref sa), some (.ref fi), some (.int (mn : Int)), some (.ref q1), some (.ref se), some (.ref td), y11, y12, y13, y14, y15, y16, y17, y18] ∧ Go d HZ H)
          ⟨_, _, _, _, _, _, _, _, rfl, Go.refl DZ⟩ (fun j σ H _ hP => by obtain ⟨_, _, _, _, _, _, _, _, _, g⟩ := hP; exact SqL.of (g.keep eZ nZd)) (fun j v σ H hv hP => ?_) (fun σ H hP => ?_)⟩
        · obtain ⟨y11, y12, y13, y14, y15, y16, y17, y18, rfl, g0⟩ := hP
          obtain ⟨t, l, u, r, hF, imv⟩ := three v (List.mem_of_getElem? hv)
          obtain ⟨dv, lc', rc', rfl, _, _, _⟩ := imv.inc
          obtain ⟨n, n', hn, hn', hInc0⟩ := hF.inc hS2 istZ imv
          have hI : ∀ {H' : Hp}, Go d HZ H' → IncDep K H' (.ref sa) (.ref dv) t l u r n n' (tb S2 t) (tb S2 u) S2 := fun g => hInc0.map fun _ _ e => g.keepT DZ e
          generalize hk0 : (wbr l r (tb S2 t) (tb S2 u)).isNone = k0
          -- told
          refine ⟨.ref sc, rfl, .ref sa, rfl, .ref dv, rfl, .ref sc, .ref sa, .ref dv, t, u, l, r, n, n', _, _, S2, rfl, hI g0, fun H2 s2 => ?_⟩
          rw [hk0]
          have g2 := g0.trans (.ofSame s2 g0.dr)
          -- plain
          refine ⟨.ref dv, rfl, dv, t, u, l, r, rfl, (hI g2).dp, hF.ll, by have := hInc0.hl.1; omega, hF.nd, fun H3 pl l' r' s3 impl hll' hlen' hzip => ?_⟩
          have g3 := g2.trans (.ofSame s3 g2.dr)
          have hl' := hInc0.hl.zipl hF.ll hll' hlen' hzip
          have hr'' := hInc0.hr.zip hF.ll hll' hlen' hzip
          have hkk : (wbr l' r' (tb S2 t) (tb S2 u)).isNone = k0 := by rw [← hk0]; exact wbr_same hF.ll hll' (fun q hq => (hzip q).mp hq) fun q hq => (hzip q).mpr hq
          obtain ⟨pla, plc, prc, e, epl, epc, epr⟩ := impl.inc
          cases e
          have hI3 := hI g3
          obtain ⟨sa2, xs2, wv, e2, es2, ewv, iwv⟩ := hI3.st.storeGet hI3.uR
          obtain ⟨sa3, xs3, tv, e3, es3, etv, itv⟩ := hI3.st.storeGet hI3.tR
          cases e2
          cases e3
          cases es2.symm.trans es3
          obtain ⟨ru, ku, rfl, eru, eRu, hku⟩ := iwv.rows
          obtain ⟨rt, kt, rfl, ert, eRt, hkt⟩ := itv.rows
          have et : t = ((t.toNat : Nat) : Int) := by have := hF.t0; omega
          have eu : u = ((u.toNat : Nat) : Int) := by have := hF.u0; omega
          have hkul : ku.length ≤ 60 := by rw [← List.length_map (f := (·.2)), eRu]; exact (hS2.few hn').1
          have hktl : kt.length ≤ 60 := by rw [← List.length_map (f := (·.2)), eRt]; exact (hS2.few hn).1
          -- values
          refine ⟨.ref sa, rfl, .ref pl, rfl, pl, _, 3, .int u, rfl, rfl, SqT.of epl, atI_nat (j := 3) rfl, sa, xs2, u, .ref ru, rfl, rfl, SqT.of es2, at_of eu ewv, ru, rfl, ⟨_, SqT.of eru⟩, fun T nT => lc_tup (K := K) (a := ru) (xs := ku.map fun p => V.ref p.1) (fun j H' => Same H3 H' ∧ ∃ ps : List (Addr × List Int), H' T = some (.lst (ps.map fun p => V.ref p.1)) ∧ (∀ p ∈ ps, H' p.1 = some (.tup (p.2.map V.int))) ∧ ps.map (·.2) = (ku.take j).map fun p => prj r' p.2)
            ⟨same_upd nT, [], upd_same, fun p hp => (by cases hp), rfl⟩ (fun j H' _ h => SqT.of (h.1 _ _ eru)) (fun j x H' hx hP => ?_) (fun H4 hP => ?_)⟩
          · obtain ⟨s4, ps, eT, hps, hpm⟩ := hP
            obtain ⟨hj, rfl⟩ := nth_row hx
            have hkn := hInc0.hR' ku[j].2 (by rw [← eRu]; exact List.mem_map.mpr ⟨_, List.getElem_mem hj, rfl⟩)
            have hpl : ps.length ≤ 100 := by
              have := congrArg List.length hpm
              rw [List.length_map, List.length_map, List.length_take] at this
              omega
            refine ⟨rfl, yesT ⟨.ref pl, rfl, pl, _, 4, .ref prc, rfl, rfl, SqT.of (s4 _ _ epl), atI_nat (j := 4) rfl, prc, rfl, ⟨_, SqT.of (s4 _ _ epr)⟩, fun C nC => lc_prj (fun _ => rfl) (fun _ => rfl) (fun _ => rfl) (s4 _ _ (hku _ (List.getElem_mem hj))) (s4 _ _ epr) (by rw [hkn]; exact hr'') nC fun H5 s5 eC => ⟨C, _, rfl, .inl ⟨SqL.of eC, fun p np => ?_⟩⟩⟩⟩
            have s6 := s5.trans (same_upd (o := HO.tup ((prj r' ku[j].2).map V.int)) np)
            have eT6 := s6 _ _ eT
            refine ⟨_, eT6, ?_, Same.put (s4.trans s6) nT, ps ++ [(p, prj r' ku[j].2)], by rw [upd_same, List.map_append]; rfl, fun k hk => ?_, by rw [List.map_append, hpm, take_next _ hj]; rfl⟩
            · rw [List.length_map]
              exact small1000 (by omega)
            · rcases List.mem_append.mp hk with hk | hk
              · exact tup_put eT6 (fun ys e => by cases e) (s6 _ _ (hps k hk))
              · rw [List.mem_singleton.mp hk]
                exact tup_put eT6 (fun ys e => by cases e) upd_same
          obtain ⟨s4, ps, eT, hps, hpm⟩ := hP
          rw [List.length_map, List.take_length] at hpm
          have hvals : ps.map (·.2) = (tb S2 u).map (prj r') := by rw [hpm, ← eRu, List.map_map]; rfl
          -- the first test
          refine ⟨.bl k0, rfl, .ref sa, rfl, .ref pl, rfl, pl, _, 1, .int t, rfl, rfl, SqT.of (s4 _ _ epl), atI_nat (j := 1) rfl, sa, xs2, t, .ref rt, rfl, rfl, SqT.of (s4 _ _ es2), at_of et etv, .ref pl, rfl, pl, _, 2, .ref plc, rfl, rfl, SqT.of (s4 _ _ epl), atI_nat (j := 2) rfl,
            rt, plc, kt, n, l', rfl, s4 _ _ ert, fun p hp => ⟨s4 _ _ (hkt p hp), hInc0.hR _ (by rw [← eRt]; exact List.mem_map.mpr ⟨p, hp, rfl⟩)⟩, by omega, s4 _ _ epc, hl', fun H5 vM M s5 imM hM => ?_⟩
          obtain ⟨am, km, rfl, eam, eMk, hkm⟩ := imM.rows
          have hkml : km.length ≤ 100 := by
            have nd : M.Nodup := List.Pairwise.imp (S := fun a b => a ≠ b) (fun {a b} hlt e => row_lt_irrefl b (by rw [e] at hlt; exact hlt)) hM.asc
            have := sub_len nd fun y hy => (hM.mem y).mp hy
            rw [List.length_map, List.length_map] at this
            have e := congrArg List.length eMk
            rw [List.length_map] at e
            omega
          refine ⟨am, rfl, ⟨_, SqT.of eam⟩, fun B nB => lc_tup (K := K) (a := am) (xs := km.map fun p => V.ref p.1) (fun j H' => Same H5 H' ∧ H' B = some (.lst (((km.take j).map fun p => decide (p.2 ∈ ps.map (·.2))).map V.bl)))
            ⟨same_upd nB, upd_same⟩ (fun j H' _ h => SqT.of (h.1 _ _ eam)) (fun j x H' hx hP => ?_) (fun H6 hP => ?_)⟩
          · obtain ⟨s6, eB⟩ := hP
            obtain ⟨hj, rfl⟩ := nth_row hx
            have s56 := s5.trans s6
            refine ⟨rfl, yesT ⟨.ref km[j].1, rfl, .ref T, rfl, _, _, Dp.tupI (s6 _ _ (hkm _ (List.getElem_mem hj))), dp_tups (s56 _ _ eT) (fun p hp => s56 _ _ (hps p hp)), shaped_tup _, shaped_tups _, ?_⟩⟩
            rw [any_tups]
            refine ⟨_, eB, ?_, Same.put s6 nB, ?_⟩
            · rw [List.length_map, List.length_map, List.length_take]
              exact small1000 (by omega)
            · rw [upd_same, take_next _ hj, List.map_append]
              rfl
          obtain ⟨s6, eB⟩ := hP
          rw [List.length_map, List.take_length] at eB
          have eb : (!inV (V.bl false) ((km.map fun p => decide (p.2 ∈ ps.map (·.2))).map V.bl)) = k0 := by
            rw [← hkk, ← eRt, ← bools_none hM, hvals, ← eMk]
            simp only [List.map_map]
            rfl
          have g6 := g3.trans (.ofSame ((s4.trans s5).trans s6) g3.dr)
          have s36 := (s4.trans s5).trans s6
          refine ⟨B, _, rfl, .inl (SqL.of eB), rfl, List.all_eq_true.mpr fun v hv => (by obtain ⟨b, _, rfl⟩ := List.mem_map.mp hv; rfl), ?_⟩
          rw [if_pos rfl, eb]
          refine ⟨rfl, false, not_same k0, iteF ?_⟩
          -- the second test
          have ipl6 := impl.same s36
          refine ⟨.ref sc, rfl, .ref sa, rfl, .ref pl, rfl, .ref sc, .ref sa, .ref pl, t, u, l', r', n, n', _, _, S2, rfl, (hI g6).with ipl6 hl' hr'' hll', fun H7 s7 => ?_⟩
          rw [hkk]
          have g7 := g6.trans (.ofSame s7 g6.dr)
          refine ⟨.bl k0, rfl, rfl, false, not_same k0, iteF ?_⟩
          refine ⟨.ref sc, rfl, .ref sa, rfl, .ref d, rfl, .ref dv, rfl, d, dv, true, t, u, l, r, rfl, (hI g7).dp, hF.ll, hF.one, by have := hInc0.hl.1; omega, g7.dr, fun H8 po l2 r2 os g8 im2 el2 er2 hos hz hz2 => ?_⟩
          subst el2 er2
          have g78 := g7.trans g8
          have hos2 : In r.length os := by rw [← hF.ll]; exact hos
          refine ⟨.ref sc, .ref sa, .ref po, t, u, _, _, n, n', _, _, S2, rfl, (hI g78).with im2 (prj_in hInc0.hl hos) (prj_in hInc0.hr hos2) (by rw [prj_len, prj_len]), fun H9 s9 => ?_⟩
          have e9 : (wbr (prj os l) (prj os r) (tb S2 t) (tb S2 u)).isNone = k0 := by rw [← hk0]; exact wbr_same hF.ll (by rw [prj_len, prj_len]) hz (hz2 rfl)
          rw [e9]
          have g9 := g78.trans (.ofSame s9 g78.dr)
          refine ⟨.bl k0, rfl, rfl, false, not_same k0, iteF ?_⟩
          -- the third test
          refine ⟨.bl k0, rfl, k0, rfl, ?_⟩
          cases k0 with
          | false => exact iteF (iteF ⟨_, _, _, _, _, _, _, _, rfl, g9⟩)
          | true =>
            refine iteT ⟨.ref sc, rfl, .ref sa, rfl, .ref d, rfl, .ref dv, rfl, d, dv, false, t, u, l, r, rfl, (hI g9).dp, hF.ll, hF.one, by have := hInc0.hl.1; omega, g9.dr, fun H10 po2 l3 r3 os3 g10 im3 el3 er3 hos3 hz3 _ => ?_⟩
            subst el3 er3
            have g910 := g9.trans g10
            have hos4 : In r.length os3 := by rw [← hF.ll]; exact hos3
            refine ⟨.ref sc, .ref sa, .ref po2, t, u, _, _, n, n', _, _, S2, rfl, (hI g910).with im3 (prj_in hInc0.hl hos3) (prj_in hInc0.hr hos4) (by rw [prj_len, prj_len]), fun H11 s11 => ?_⟩
            have e11 : (wbr (prj os3 l) (prj os3 r) (tb S2 t) (tb S2 u)).isNone = true := wbr_less hF.ll (by rw [prj_len, prj_len]) hz3 hk0
            rw [e11]
            exact ⟨true, rfl, iteF ⟨_, _, _, _, _, _, _, _, rfl, g910.trans (.ofSame s11 g910.dr)⟩⟩
        · obtain ⟨y11, y12, y13, y14, y15, y16, y17, y18, rfl, g0⟩ := hP
          obtain ⟨a1, a2, _, _, i1⟩ := F1.inc hS2 istZ (ifi14.go gZ D14)
          obtain ⟨b1, b2, _, _, i2⟩ := F2.inc hS2 istZ (ise14.go gZ D14)
          obtain ⟨c1, c2, _, _, i3⟩ := F3.inc hS2 istZ (itd.go gZ D14)
          have mp : ∀ {H' : Hp}, Same H H' → ∀ b xs, HZ b = some (.tup xs) → H' b = some (.tup xs) := fun s b xs e => s _ _ (g0.keepT DZ e)
          refine ⟨.ref sc, rfl, .ref sa, rfl, .ref fi, rfl, .ref sc, .ref sa, .ref fi, 0, 1, l, r, a1, a2, _, _, S2, rfl, i1.map (mp (Same.refl H)), fun H2 s2' => ?_⟩
          refine ⟨(wbr l r (tb S2 0) (tb S2 1)).isNone, rfl, ?_⟩
          cases hk1 : (wbr l r (tb S2 0) (tb S2 1)).isNone with
          | false => exact iteF (iteF (q _))
          | true =>
            refine iteT ⟨.ref sc, rfl, .ref sa, rfl, .ref se, rfl, .ref sc, .ref sa, .ref se, 1, 2, r.take mn, th, b1, b2, _, _, S2, rfl, i2.map (mp s2'), fun H3 s3' => ?_⟩
            refine ⟨(wbr (r.take mn) th (tb S2 1) (tb S2 2)).isNone, rfl, ?_⟩
            cases hk2 : (wbr (r.take mn) th (tb S2 1) (tb S2 2)).isNone with
            | false => exact iteF (q _)
            | true =>
              refine iteT ⟨.ref sc, rfl, .ref sa, rfl, .ref td, rfl, .ref sc, .ref sa, .ref td, 0, 2, l.take mn, th, c1, c2, _, _, S2, rfl, i3.map (mp (s2'.trans s3')), fun H4 s4' => ?_⟩
              have e3 : (wbr (l.take mn) th (tb S2 0) (tb S2 2)).isNone = true := wbr_trans (l' := l.take mn) hll (by rw [List.length_take]; omega) hk1 hk2 rfl
              rw [e3]
              exact ⟨true, true, rfl, rfl, q _⟩
end
end NK

namespace NK
open PySem PySem.Spec PyProof.Rows L2
/-! ### what the top has written; the law's own head -/
section
variable {K : PySem.W.Frag} {mg : Str → Option Value}
theorem df_mk {h : Heap} {x : Str} {st : Stmt} {ps : List Str} {f : Addr} {oc : Value} {od an : Option Addr} {osl : Array (Option Value)} {kV doc pm cdv ct : Value} (X : K.In h) (G : h.Ns mainGlobals mg)
    (hb : ∀ (kV doc pm : Value) (an : Option Addr) (cdv ct : Value) (us : List Value), us.length = ps.length → bindArgs (PySem.W.fnOf x x (defArgs st) (defBody st) (defScope st) .none kV doc pm an cdv ct) ⟨us, []⟩ = pure (ps.zip us))
    (a : PySem.W.nsIn K mainGlobals x = some (some (.ref f))) (l : K.lookup f = some ⟨oc, od, .func (PySem.W.fnOf x x (defArgs st) (defBody st) (defScope st) .none kV doc pm an cdv ct), osl⟩)
    (c : PySem.W.codeIn K cdv x = true) (k : PySem.W.keepIn K (.ref f) = true) : Df K mg x st ps f (PySem.W.fnOf x x (defArgs st) (defBody st) (defScope st) .none kV doc pm an cdv ct) :=
  ⟨fun_mk l c k, (fun_mk (st := st) l c k).binds hb, PySem.W.mg_of X G a⟩
end
theorem all_mk {l : PySem.W.OpenLaw} {w : World} {K : PySem.W.Frag} {h : Heap} {mg : Str → Option Value} {fa f1 f2 f3 f4 f5 f6 f7 f8 f9 f10 f11 f12 f13 f14 f15 f16 f17 : Addr} (X : K.In h) (G : h.Ns mainGlobals mg) (hfa : mg "law" = some (.ref fa))
    {od1 an1 od2 an2 od3 an3 od4 an4 od5 an5 od6 an6 od7 an7 od8 an8 od9 an9 od10 an10 od11 an11 od12 an12 od13 an13 od14 an14 od15 an15 od16 an16 od17 an17 : Option Addr}
    {sl1 sl2 sl3 sl4 sl5 sl6 sl7 sl8 sl9 sl10 sl11 sl12 sl13 sl14 sl15 sl16 sl17 : Array (Option Value)}
    {oc1 kV1 dc1 pm1 cd1 ct1 oc2 kV2 dc2 pm2 cd2 ct2 oc3 kV3 dc3 pm3 cd3 ct3 oc4 kV4 dc4 pm4 cd4 ct4 oc5 kV5 dc5 pm5 cd5 ct5 oc6 kV6 dc6 pm6 cd6 ct6 oc7 kV7 dc7 pm7 cd7 ct7 oc8 kV8 dc8 pm8 cd8 ct8 oc9 kV9 dc9 pm9 cd9 ct9 oc10 kV10 dc10 pm10 cd10 ct10 oc11 kV11 dc11 pm11 cd11 ct11 oc12 kV12 dc12 pm12 cd12 ct12 oc13 kV13 dc13 pm13 cd13 ct13 oc14 kV14 dc14 pm14 cd14 ct14 oc15 kV15 dc15 pm15 cd15 ct15 oc16 kV16 dc16 pm16 cd16 ct16 oc17 kV17 dc17 pm17 cd17 ct17 : Value}
    (a1 : PySem.W.nsIn K mainGlobals "_law_take" = some (some (.ref f1))) (l1 : K.lookup f1 = some ⟨oc1, od1, .func (PySem.W.fnOf "_law_take" "_law_take" (defArgs sTake) (defBody sTake) (defScope sTake) .none kV1 dc1 pm1 an1 cd1 ct1), sl1⟩) (c1 : PySem.W.codeIn K cd1 "_law_take" = true) (k1 : PySem.W.keepIn K (.ref f1) = true)
    (a2 : PySem.W.nsIn K mainGlobals "_law_draws" = some (some (.ref f2))) (l2 : K.lookup f2 = some ⟨oc2, od2, .func (PySem.W.fnOf "_law_draws" "_law_draws" (defArgs sDraws) (defBody sDraws) (defScope sDraws) .none kV2 dc2 pm2 an2 cd2 ct2), sl2⟩) (c2 : PySem.W.codeIn K cd2 "_law_draws" = true) (k2 : PySem.W.keepIn K (.ref f2) = true)
    (a3 : PySem.W.nsIn K mainGlobals "_law_cell" = some (some (.ref f3))) (l3 : K.lookup f3 = some ⟨oc3, od3, .func (PySem.W.fnOf "_law_cell" "_law_cell" (defArgs sCell) (defBody sCell) (defScope sCell) .none kV3 dc3 pm3 an3 cd3 ct3), sl3⟩) (c3 : PySem.W.codeIn K cd3 "_law_cell" = true) (k3 : PySem.W.keepIn K (.ref f3) = true)
    (a4 : PySem.W.nsIn K mainGlobals "_law_wide" = some (some (.ref f4))) (l4 : K.lookup f4 = some ⟨oc4, od4, .func (PySem.W.fnOf "_law_wide" "_law_wide" (defArgs sWide) (defBody sWide) (defScope sWide) .none kV4 dc4 pm4 an4 cd4 ct4), sl4⟩) (c4 : PySem.W.codeIn K cd4 "_law_wide" = true) (k4 : PySem.W.keepIn K (.ref f4) = true)
    (a5 : PySem.W.nsIn K mainGlobals "_law_rows" = some (some (.ref f5))) (l5 : K.lookup f5 = some ⟨oc5, od5, .func (PySem.W.fnOf "_law_rows" "_law_rows" (defArgs sRows) (defBody sRows) (defScope sRows) .none kV5 dc5 pm5 an5 cd5 ct5), sl5⟩) (c5 : PySem.W.codeIn K cd5 "_law_rows" = true) (k5 : PySem.W.keepIn K (.ref f5) = true)
    (a6 : PySem.W.nsIn K mainGlobals "_law_store" = some (some (.ref f6))) (l6 : K.lookup f6 = some ⟨oc6, od6, .func (PySem.W.fnOf "_law_store" "_law_store" (defArgs sStore) (defBody sStore) (defScope sStore) .none kV6 dc6 pm6 an6 cd6 ct6), sl6⟩) (c6 : PySem.W.codeIn K cd6 "_law_store" = true) (k6 : PySem.W.keepIn K (.ref f6) = true)
    (a7 : PySem.W.nsIn K mainGlobals "_law_inclusion" = some (some (.ref f7))) (l7 : K.lookup f7 = some ⟨oc7, od7, .func (PySem.W.fnOf "_law_inclusion" "_law_inclusion" (defArgs sIncl) (defBody sIncl) (defScope sIncl) .none kV7 dc7 pm7 an7 cd7 ct7), sl7⟩) (c7 : PySem.W.codeIn K cd7 "_law_inclusion" = true) (k7 : PySem.W.keepIn K (.ref f7) = true)
    (a8 : PySem.W.nsIn K mainGlobals "_law_shuffled" = some (some (.ref f8))) (l8 : K.lookup f8 = some ⟨oc8, od8, .func (PySem.W.fnOf "_law_shuffled" "_law_shuffled" (defArgs sShuf) (defBody sShuf) (defScope sShuf) .none kV8 dc8 pm8 an8 cd8 ct8), sl8⟩) (c8 : PySem.W.codeIn K cd8 "_law_shuffled" = true) (k8 : PySem.W.keepIn K (.ref f8) = true)
    (a9 : PySem.W.nsIn K mainGlobals "_law_needed" = some (some (.ref f9))) (l9 : K.lookup f9 = some ⟨oc9, od9, .func (PySem.W.fnOf "_law_needed" "_law_needed" (defArgs sNeeded) (defBody sNeeded) (defScope sNeeded) .none kV9 dc9 pm9 an9 cd9 ct9), sl9⟩) (c9 : PySem.W.codeIn K cd9 "_law_needed" = true) (k9 : PySem.W.keepIn K (.ref f9) = true)
    (a10 : PySem.W.nsIn K mainGlobals "_law_ascending" = some (some (.ref f10))) (l10 : K.lookup f10 = some ⟨oc10, od10, .func (PySem.W.fnOf "_law_ascending" "_law_ascending" (defArgs sAsc) (defBody sAsc) (defScope sAsc) .none kV10 dc10 pm10 an10 cd10 ct10), sl10⟩) (c10 : PySem.W.codeIn K cd10 "_law_ascending" = true) (k10 : PySem.W.keepIn K (.ref f10) = true)
    (a11 : PySem.W.nsIn K mainGlobals "_law_some" = some (some (.ref f11))) (l11 : K.lookup f11 = some ⟨oc11, od11, .func (PySem.W.fnOf "_law_some" "_law_some" (defArgs sSome) (defBody sSome) (defScope sSome) .none kV11 dc11 pm11 an11 cd11 ct11), sl11⟩) (c11 : PySem.W.codeIn K cd11 "_law_some" = true) (k11 : PySem.W.keepIn K (.ref f11) = true)
    (a12 : PySem.W.nsIn K mainGlobals "values_at" = some (some (.ref f12))) (l12 : K.lookup f12 = some ⟨oc12, od12, .func (PySem.W.fnOf "values_at" "values_at" (defArgs p_values_at) (defBody p_values_at) (defScope p_values_at) .none kV12 dc12 pm12 an12 cd12 ct12), sl12⟩) (c12 : PySem.W.codeIn K cd12 "values_at" = true) (k12 : PySem.W.keepIn K (.ref f12) = true)
    (a13 : PySem.W.nsIn K mainGlobals "inclusion_breach" = some (some (.ref f13))) (l13 : K.lookup f13 = some ⟨oc13, od13, .func (PySem.W.fnOf "inclusion_breach" "inclusion_breach" (defArgs p_inclusion_breach) (defBody p_inclusion_breach) (defScope p_inclusion_breach) .none kV13 dc13 pm13 an13 cd13 ct13), sl13⟩) (c13 : PySem.W.codeIn K cd13 "inclusion_breach" = true) (k13 : PySem.W.keepIn K (.ref f13) = true)
    (a14 : PySem.W.nsIn K mainGlobals "least_breach" = some (some (.ref f14))) (l14 : K.lookup f14 = some ⟨oc14, od14, .func (PySem.W.fnOf "least_breach" "least_breach" (defArgs p_least_breach) (defBody p_least_breach) (defScope p_least_breach) .none kV14 dc14 pm14 an14 cd14 ct14), sl14⟩) (c14 : PySem.W.codeIn K cd14 "least_breach" = true) (k14 : PySem.W.keepIn K (.ref f14) = true)
    (a15 : PySem.W.nsIn K mainGlobals "keeps" = some (some (.ref f15))) (l15 : K.lookup f15 = some ⟨oc15, od15, .func (PySem.W.fnOf "keeps" "keeps" (defArgs p_keeps) (defBody p_keeps) (defScope p_keeps) .none kV15 dc15 pm15 an15 cd15 ct15), sl15⟩) (c15 : PySem.W.codeIn K cd15 "keeps" = true) (k15 : PySem.W.keepIn K (.ref f15) = true)
    (a16 : PySem.W.nsIn K mainGlobals "projection" = some (some (.ref f16))) (l16 : K.lookup f16 = some ⟨oc16, od16, .func (PySem.W.fnOf "projection" "projection" (defArgs p_projection) (defBody p_projection) (defScope p_projection) .none kV16 dc16 pm16 an16 cd16 ct16), sl16⟩) (c16 : PySem.W.codeIn K cd16 "projection" = true) (k16 : PySem.W.keepIn K (.ref f16) = true)
    (a17 : PySem.W.nsIn K mainGlobals "law" = some (some (.ref f17))) (l17 : K.lookup f17 = some ⟨oc17, od17, .func (PySem.W.fnOf "law" "law" (defArgs sLaw) (defBody sLaw) (defScope sLaw) .none kV17 dc17 pm17 an17 cd17 ct17), sl17⟩) (c17 : PySem.W.codeIn K cd17 "law" = true) (k17 : PySem.W.keepIn K (.ref f17) = true)
    (z1 : PySem.W.nsIn K mainGlobals "len" = some none)
    (z2 : PySem.W.nsIn K mainGlobals "int" = some none)
    (z3 : PySem.W.nsIn K mainGlobals "range" = some none)
    (z4 : PySem.W.nsIn K mainGlobals "tuple" = some none)
    (z5 : PySem.W.nsIn K mainGlobals "list" = some none)
    (z6 : PySem.W.nsIn K mainGlobals "sorted" = some none)
    (z7 : PySem.W.nsIn K mainGlobals "min" = some none)
    (z8 : PySem.W.nsIn K mainGlobals "set" = some none) :
    ∃ fd : FuncData, (∀ (s : Shared) (v : Value), BindsTo s fd ⟨[v], []⟩ [("script", v)]) ∧ ∀ base : Heap, K.In base → base.Ns mainGlobals mg → FnOk l.prog w K mg base CX0 5 fa fd ["script"] (spLaw K) := by
  have e := hfa.symm.trans (PySem.W.mg_of X G a17)
  cases e
  have D1 := df_mk (st := sTake) (ps := ["draws", "many"]) X G (fun _ _ _ _ _ _ us hl => match us, hl with | [_, _], _ => rfl) a1 l1 c1 k1
  have D2 := df_mk (st := sDraws) (ps := ["script", "many"]) X G (fun _ _ _ _ _ _ us hl => match us, hl with | [_, _], _ => rfl) a2 l2 c2 k2
  have D3 := df_mk (st := sCell) (ps := ["script", "draws"]) X G (fun _ _ _ _ _ _ us hl => match us, hl with | [_, _], _ => rfl) a3 l3 c3 k3
  have D4 := df_mk (st := sWide) (ps := ["draws", "cell"]) X G (fun _ _ _ _ _ _ us hl => match us, hl with | [_, _], _ => rfl) a4 l4 c4 k4
  have D5 := df_mk (st := sRows) (ps := ["draws", "width", "most", "wide"]) X G (fun _ _ _ _ _ _ us hl => match us, hl with | [_, _, _, _], _ => rfl) a5 l5 c5 k5
  have D6 := df_mk (st := sStore) (ps := ["draws", "scheme", "most", "wide"]) X G (fun _ _ _ _ _ _ us hl => match us, hl with | [_, _, _, _], _ => rfl) a6 l6 c6 k6
  have D7 := df_mk (st := sIncl) (ps := ["draws", "scheme", "order"]) X G (fun _ _ _ _ _ _ us hl => match us, hl with | [_, _, _], _ => rfl) a7 l7 c7 k7
  have D8 := df_mk (st := sShuf) (ps := ["draws", "row"]) X G (fun _ _ _ _ _ _ us hl => match us, hl with | [_, _], _ => rfl) a8 l8 c8 k8
  have D9 := df_mk (st := sNeeded) (ps := ["draws", "store", "dependency", "widths", "wide"]) X G (fun _ _ _ _ _ _ us hl => match us, hl with | [_, _, _, _, _], _ => rfl) a9 l9 c9 k9
  have D10 := df_mk (st := sAsc) (ps := ["dependency"]) X G (fun _ _ _ _ _ _ us hl => match us, hl with | [_], _ => rfl) a10 l10 c10 k10
  have D11 := df_mk (st := sSome) (ps := ["draws", "dependency", "keep"]) X G (fun _ _ _ _ _ _ us hl => match us, hl with | [_, _, _], _ => rfl) a11 l11 c11 k11
  have D12 := df_mk (st := p_values_at) (ps := ["row", "columns"]) X G (fun _ _ _ _ _ _ us hl => match us, hl with | [_, _], _ => rfl) a12 l12 c12 k12
  have D13 := df_mk (st := p_inclusion_breach) (ps := ["rows", "columns", "other_rows", "others"]) X G (fun _ _ _ _ _ _ us hl => match us, hl with | [_, _, _, _], _ => rfl) a13 l13 c13 k13
  have D14 := df_mk (st := p_least_breach) (ps := ["scheme", "store", "dependency"]) X G (fun _ _ _ _ _ _ us hl => match us, hl with | [_, _, _], _ => rfl) a14 l14 c14 k14
  have D15 := df_mk (st := p_keeps) (ps := ["scheme", "store", "dependency"]) X G (fun _ _ _ _ _ _ us hl => match us, hl with | [_, _, _], _ => rfl) a15 l15 c15 k15
  have D16 := df_mk (st := p_projection) (ps := ["rows", "columns"]) X G (fun _ _ _ _ _ _ us hl => match us, hl with | [_, _], _ => rfl) a16 l16 c16 k16
  have D17 := df_mk (st := sLaw) (ps := ["script"]) X G (fun _ _ _ _ _ _ us hl => match us, hl with | [_], _ => rfl) a17 l17 c17 k17
  have N1 := PySem.W.mg_none_of X G z1
  have N2 := PySem.W.mg_none_of X G z2
  have N3 := PySem.W.mg_none_of X G z3
  have N4 := PySem.W.mg_none_of X G z4
  have N5 := PySem.W.mg_none_of X G z5
  have N6 := PySem.W.mg_none_of X G z6
  have N7 := PySem.W.mg_none_of X G z7
  have N8 := PySem.W.mg_none_of X G z8
  exact ⟨PySem.W.fnOf "law" "law" (defArgs sLaw) (defBody sLaw) (defScope sLaw) .none kV17 dc17 pm17 an17 cd17 ct17, fun s v => .of_eq rfl, fun base _ _ => ok_law D17.F ⟨D1.F, D1.b, D1.g, N1, N2, N3, N4, N5, N6, N7⟩ N8 D2 D3 D4 D5 D6 D7 D8 D9 D10 D11 D12 D13 D14 D15 D16⟩
end NK
open PySem PySem.W PyProof.Rows
set_option maxHeartbeats 0 in
theorem PySem.Challenge.cw_norowstray_k24_whole_inclusions_holds : PySem.Challenge.rw_norowstray_k24_whole_inclusions.Holds := by
  w_on; o_law; k_head; (case hw => w_witness2)
  k_fill
  refine L2.walk_of (l := PySem.Challenge.rw_norowstray_k24_whole_inclusions) (n := 63) (k := 5) (x := "script") (CX := fun _ => L2.CX0) (sp := fun w => NK.spLaw _) rfl (by decide) rfl ⟨rfl, by decide, by decide⟩ (fun w h Y => PySem.W.kIn_of Y) ?F (fun _ _ a ns hl _ hS => ⟨a, ns, rfl, hS, hl, fun _ => rfl⟩) (fun _ _ _ _ _ h => h)
  case F =>
    intro w mg fa h KX G hmg
    refine' NK.all_mk KX G hmg ?a1 ?l1 ?c1 ?k1 ?a2 ?l2 ?c2 ?k2 ?a3 ?l3 ?c3 ?k3 ?a4 ?l4 ?c4 ?k4 ?a5 ?l5 ?c5 ?k5 ?a6 ?l6 ?c6 ?k6 ?a7 ?l7 ?c7 ?k7 ?a8 ?l8 ?c8 ?k8 ?a9 ?l9 ?c9 ?k9 ?a10 ?l10 ?c10 ?k10 ?a11 ?l11 ?c11 ?k11 ?a12 ?l12 ?c12 ?k12 ?a13 ?l13 ?c13 ?k13 ?a14 ?l14 ?c14 ?k14 ?a15 ?l15 ?c15 ?k15 ?a16 ?l16 ?c16 ?k16 ?a17 ?l17 ?c17 ?k17 ?z1 ?z2 ?z3 ?z4 ?z5 ?z6 ?z7 ?z8
    (case a1 => k_is); (case l1 => k_is); (case c1 => k_is); (case k1 => k_is); (case a2 => k_is); (case l2 => k_is); (case c2 => k_is); (case k2 => k_is); (case a3 => k_is); (case l3 => k_is); (case c3 => k_is); (case k3 => k_is); (case a4 => k_is); (case l4 => k_is); (case c4 => k_is); (case k4 => k_is); (case a5 => k_is); (case l5 => k_is); (case c5 => k_is); (case k5 => k_is); (case a6 => k_is); (case l6 => k_is); (case c6 => k_is); (case k6 => k_is); (case a7 => k_is); (case l7 => k_is); (case c7 => k_is); (case k7 => k_is); (case a8 => k_is); (case l8 => k_is); (case c8 => k_is); (case k8 => k_is); (case a9 => k_is); (case l9 => k_is); (case c9 => k_is); (case k9 => k_is); (case a10 => k_is); (case l10 => k_is); (case c10 => k_is); (case k10 => k_is); (case a11 => k_is); (case l11 => k_is); (case c11 => k_is); (case k11 => k_is); (case a12 => k_is); (case l12 => k_is); (case c12 => k_is); (case k12 => k_is); (case a13 => k_is); (case l13 => k_is); (case c13 => k_is); (case k13 => k_is); (case a14 => k_is); (case l14 => k_is); (case c14 => k_is); (case k14 => k_is); (case a15 => k_is); (case l15 => k_is); (case c15 => k_is); (case k15 => k_is); (case a16 => k_is); (case l16 => k_is); (case c16 => k_is); (case k16 => k_is); (case a17 => k_is); (case l17 => k_is); (case c17 => k_is); (case k17 => k_is); (case z1 => k_is); (case z2 => k_is); (case z3 => k_is); (case z4 => k_is); (case z5 => k_is); (case z6 => k_is); (case z7 => k_is); (case z8 => k_is)

