import PyProof.Rows.All
import Wide.All
import OpenK.AllK
import Wide.FinOn
import HandS.ForMost
import HandS.More
import HandS.TupMul
import HandS.TupAny
import HandS.IsInst
import HandS.Codes
import HandS.TupSets
import HandS.DictTup
import KE.SortData
import KE.KDictKeyed
import PySem.Challenge.RW_norowstray_k16_least_breaches_of_functio
set_option Elab.async false
set_option linter.all false
set_option maxRecDepth 100000
set_option maxHeartbeats 4000000
/-! Rules of our own over the layer: sorted of a set of tuples of ints of either sign. -/
namespace NR
open PySem PySem.Spec PyProof.Rows L2

/-- what is a permutation of a map is a map of a permutation -/
theorem PermMap.lift {α β : Type} {f : α → β} : ∀ {vs us : List β}, vs.Perm us → ∀ {L : List α}, us = L.map f → ∃ L1 : List α, vs = L1.map f ∧ L1.Perm L := by
  intro vs us h
  induction h with
  | nil =>
    intro L e
    cases L with
    | nil => exact ⟨[], rfl, .nil⟩
    | cons x r => cases e
  | cons x _ ih =>
    intro L e
    cases L with
    | nil => cases e
    | cons y r =>
      injection e with e1 e2
      obtain ⟨L1, h1, h2⟩ := ih e2
      exact ⟨y :: L1, by rw [List.map_cons, ← h1, e1], h2.cons y⟩
  | swap x y l =>
    intro L e
    match L, e with
    | a :: b :: r, e =>
      injection e with e1 e2
      injection e2 with e2 e3
      exact ⟨b :: a :: r, by rw [List.map_cons, List.map_cons, ← e1, ← e2, ← e3], .swap a b r⟩
  | trans _ _ ih1 ih2 =>
    intro L e
    obtain ⟨L2, h1, h2⟩ := ih2 e
    obtain ⟨L3, h3, h4⟩ := ih1 h1
    exact ⟨L3, h3, h4.trans h2⟩
/-- a pair of an address and its tuple, as data -/
def encP (p : Addr × List Int) : PyData := .tuple (p.2.map .int)
theorem encP_le (p q : Addr × List Int) : PySem.W.dataLe false encP p q = decide (p.2 ≤ q.2) := by
  show (!PySem.W.dataLt (encP q) (encP p)) = _
  unfold encP
  rw [PySem.W.dataLt_tuple]
  show (!PySem.W.rowLt (q.2.map .int) (p.2.map .int)) = _
  rw [PySem.W.dataLt_ints]
  by_cases h : q.2 < p.2
  · rw [decide_eq_true h, decide_eq_false (fun r => List.not_lt.mpr r h)]
    rfl
  · rw [decide_eq_false h, decide_eq_true (List.not_lt.mp h)]
    rfl
theorem encP_depth (p : Addr × List Int) : (encP p).depth ≤ 1 := by
  unfold encP
  simp only [PyData.depth]
  rw [PySem.W.depth_ints]
  exact Nat.le_refl _
theorem list_lt_of_le {a b : List Int} (h : a ≤ b) (n : a ≠ b) : a < b := by
  rcases List.le_iff_lt_or_eq.mp h with z | z
  · exact z
  · exact absurd z n

section
variable {P : Program} {w : World} {A : Around} {E : Value → Shared → Prop} {s : Shared}
theorem reads_row {h : Heap} {k : List Int} {b : Addr} (x : L2.IsT P w h k b) : ∃ as, Reads h (.ref b) (.tuple (k.map .int)) as ∧ ∀ c, (∀ o, h.get? c = some o → o.cls = .type "list") → c ∉ as := by
  obtain ⟨o, items, n, ho, hc, hd, hi⟩ := x
  have go : ∀ (k : List Int) (vs : List Value), ItemsAre (intKind P w) k vs → ReadsAll h vs (k.map .int) [] := by
    intro k vs hi
    induction hi with
    | nil => exact .nil
    | @cons a v ks vs' hv _ ih =>
      obtain ⟨t, rfl⟩ := Value.isInt_shape hv
      exact .cons (.int a t) ih
  exact ⟨[], .tuple ho hc hd (go k _ hi), fun c _ hm => by cases hm⟩

/-- sorted of such a set, from the set's own table -/
theorem sorted_set_ints {a : Addr} {L : List (Addr × List Int)} {es : Array (Int × Value)} {ep : Nat} {t : SetTable} {Q : Value → Shared → Prop} (R : L2.SetTR P w s.heap a L es ep t) (hh : A.handled = none) (hu : A.units + 64 < cLine)
    (hne : ∀ p ∈ L, p.2 ≠ [])
    (hQ : ∀ s' p (out : Array Value) (c : Nat) (L' : List (Addr × List Int)), (∀ b o, s.heap.get? b = some o → s'.heap.get? b = some o) → s'.gens = s.gens → s'.os = s.os → s.heap.objs.size ≤ p →
      s'.heap.get? p = some (seqObj "list" out c) → out.toList = L'.map (fun q => Value.ref q.1) → L'.Perm L → L'.Pairwise (fun q r => q.2 < r.2) → Q (.ref p) s') :
    wpAny (model P w) A (call (.builtin "sorted") [.ref a]) Q E s := by
  have hob := R.ob
  have few := R.few
  have nL : L.Nodup := L2.nodup_of_map R.nd
  obtain ⟨o, ho, hex, hd⟩ := hob
  refine Calls.call_function_entry kind_sorted plain_sorted entry_sorted (args_sorted1 _) ?_; unfold Builtin.«sorted»
  refine wpAny_bind (m := checkCount "sorted" 1 1 _) (wpAny_pure ?_)
  refine wpAny_bind (L2.collect_set (A := A.in1) hh ⟨o, ho, hex.1, hd⟩ R.fits (by have z := R.size; unfold scanBound; omega) R.tab.ris R.led fun s1 vs keep hz hg hos pm => ?_)
  -- the values collected are the addresses of the set's rows
  have er : es.toList.map (·.2) = L.map fun q => Value.ref q.1 := by
    rw [R.rows]; unfold L2.rowsOf; rw [List.map_map]; rfl
  rw [er] at pm
  obtain ⟨L1, e1, p1⟩ : ∃ L1 : List (Addr × List Int), vs = L1.map (fun q => Value.ref q.1) ∧ L1.Perm L := PermMap.lift pm rfl
  subst e1
  have vl : (L1.map fun q => Value.ref q.1).length < 64 := by rw [List.length_map, p1.length_eq]; exact few
  refine wpAny_bind (wpAny_newList ?_ (by rw [sizeLine_eq]; omega))
  have atL : (s1.heap.push (seqObj "list" (L1.map fun q => Value.ref q.1).toArray 0)).get? s1.heap.objs.size = some (seqObj "list" (L1.map fun q => Value.ref q.1).toArray 0) := Heap.get?_push_size _ rfl
  have kp : ∀ b u, s1.heap.get? b = some u → (s1.heap.push (seqObj "list" (L1.map fun q => Value.ref q.1).toArray 0)).get? b = some u := fun b u e => Heap.get?_push_of_some _ e
  have rd : ∀ q ∈ L1, ∃ as, Reads (s1.heap.push (seqObj "list" (L1.map fun q => Value.ref q.1).toArray 0)) (.ref q.1) (encP q) as ∧ s1.heap.objs.size ∉ as := fun q hq => by
    obtain ⟨as, r1, r2⟩ := reads_row (P := P) (w := w) (L2.isT_keep (R.tup q (p1.mem_iff.mp hq)) fun b u e => kp b u (keep b u e))
    exact ⟨as, r1, r2 _ fun o e => by rw [atL] at e; cases e; rfl⟩
  have each : ∀ l : List (Addr × List Int), (∀ q ∈ l, q ∈ L1) → PySem.W.EachIs (fun v q => v = Value.ref q.1 ∧ q ∈ L1) (l.map fun q => Value.ref q.1) l := by
    intro l hl
    induction l with
    | nil => exact .nil
    | cons q r ih => exact .cons ⟨rfl, hl q (List.mem_cons_self ..)⟩ (ih fun x hx => hl x (List.mem_cons_of_mem _ hx))
  have e1 := each L1 fun _ h => h
  refine wpAny_bind (wpAny_holding (PySem.W.list_sort_data (s := { s1 with heap := s1.heap.push (seqObj "list" (L1.map fun q => Value.ref q.1).toArray 0) }) (enc := encP) atL e1 (e1.mono fun v q h => by rw [h.1]; exact rd q h.2)
    (PySem.W.AllAlike.of fun b b' => by unfold encP; simp only [PySem.W.alike]; exact PySem.W.alike_ints _ _) (.inl fun d hd => ?_) (by rw [List.length_map] at vl; rw [sizeLine_eq]; omega)
    (fun b _ => by have h1 := encP_depth b; have h2 : A.in1.units = A.units + 1 := rfl; omega) fun out ol eo => ?_))
  · obtain ⟨q, hq, rfl⟩ := List.mem_map.mp hd
    unfold encP
    cases z : q.2 with
    | nil => exact absurd z (hne q (p1.mem_iff.mp hq))
    | cons x r => exact ⟨_, _, rfl⟩
  · obtain ⟨c, hc⟩ := sortedHeap_at (vs := L1.map fun q => Value.ref q.1) (out := out.toArray) atL
    have eout : out = (L1.mergeSort (PySem.W.dataLe false encP)).map fun q => Value.ref q.1 := by
      have go : ∀ (us : List Value) (l : List (Addr × List Int)), PySem.W.EachIs (fun v q => v = Value.ref q.1 ∧ q ∈ L1) us l → us = l.map fun q => Value.ref q.1 := by
        intro us l h
        induction h with
        | nil => rfl
        | cons h _ ih => rw [List.map_cons, ← ih, h.1]
      exact go _ _ eo
    have pS : (L1.mergeSort (PySem.W.dataLe false encP)).Perm L1 := List.mergeSort_perm _ _
    have nS : ((L1.mergeSort (PySem.W.dataLe false encP)).map (·.2)).Nodup := ((pS.trans p1).map (·.2)).nodup_iff.mpr R.nd
    have ord : (L1.mergeSort (PySem.W.dataLe false encP)).Pairwise fun q r => q.2 < r.2 := by
      have z := PySem.W.sort_pairwise (le := PySem.W.dataLe false encP) (PySem.W.sortLe_total _ _ _) L1
      have n2 : (L1.mergeSort (PySem.W.dataLe false encP)).Pairwise fun q r => q.2 ≠ r.2 := List.pairwise_map.mp nS
      refine (z.and n2).imp fun {q r} h => ?_
      obtain ⟨h1, h2⟩ := h
      rw [encP_le] at h1
      exact list_lt_of_le (of_decide_eq_true h1) h2
    refine wpAny_pure ⟨_, rfl, hQ _ s1.heap.objs.size out.toArray c (L1.mergeSort (PySem.W.dataLe false encP)) (fun b u e => ?_) hg hos hz hc (by rw [List.toList_toArray]; exact eout) (pS.trans p1) ord⟩
    have k1 := keep b u e
    have lt := Heap.lt_size k1
    show (sortedHeap (s1.heap.push (seqObj "list" (L1.map fun q => Value.ref q.1).toArray 0)) s1.heap.objs.size (L1.map fun q => Value.ref q.1) out.toArray).get? b = some u
    rw [sortedHeap_old (Nat.ne_of_lt lt) (by rw [size_push']; exact Nat.lt_succ_of_lt lt)]
    exact kp b u k1
end

section
variable {X : Cx}
/-- sorted(set), tuples of ints of either sign, none of them empty -/
def rSrtI (K : PySem.W.Frag) (P : Program) (w : World) : List V → Hp → VK → Prop := fun vs H Q => ∃ (a : Addr) (L : List (Addr × List Int)), vs = [V.ref a] ∧ H a = some (SetTO P w a L) ∧ (∀ p ∈ L, SqT K H p.1 (p.2.map V.int)) ∧ (∀ p ∈ L, p.2 ≠ []) ∧
  ∀ (M : List (Addr × List Int)) (p : Addr), M.Perm L → M.Pairwise (fun q r => q.2 < r.2) → H p = none → Q (.ref p) (upd H p (.lst (M.map fun q => V.ref q.1)))
theorem cr_srtI (hc : X.calm = true) (hu : X.A.units + 64 < cLine) : CallR X (.builtin "sorted") (rSrtI X.K X.prog X.w) := by
  intro pins s σ H vs us Q I r h
  obtain ⟨a, L, rfl, ha, hk, hne, q⟩ := h
  have R0 : L2.SetT0 X.prog X.w s.heap a L := (I.hok a _ ha).1
  obtain ⟨es, ep, t, R⟩ := R0.full fun p hp => L2.Inv.isT I (hk p hp)
  rw [L2.Vals.ref1 r]
  refine sorted_set_ints R (I.ok.hd hc) hu hne fun s' p out c M kept gg oo new at' eo pm ord => ?_
  have few : M.length < 64 := by rw [pm.length_eq]; exact R.few
  have fits : (M.map fun q => V.ref q.1).length ≤ sizeLine := by rw [List.length_map, sizeLine_eq]; omega
  have nH : H p = none := I.hok.fresh new
  have vals : Vals (M.map fun q => V.ref q.1) out.toList := by rw [eo]; exact L2.vals_of_refs M
  cases s' with
  | mk hp' g' d' t' o' =>
    cases oo
    have J : L2.Inv X pins σ (upd H p (.lst (M.map fun q => V.ref q.1))) { s with heap := hp', gens := g', drawn := d', toks := t' } :=
      I.call (ch := []) (Un.laid kept new nH) (I.hok.laid kept new ⟨fits, out.toList, c, vals, at'⟩) (by have z : g' = s.gens := gg; rw [z]; exact I.bare) (fun _ z => nomatch z)
    exact ⟨.ref p, _, J, rfl, q M p pm ord nH⟩
end

/-! ### d.setdefault(k, x), the keys tuples -/
def tDSetT (td ty tx : TE) : TE := fun σ H Q => td σ H fun x H1 => ∃ a, x = .ref a ∧ IsD H1 a ∧ ty σ H1 fun y H2 => tx σ H2 fun z H3 => ∃ (kvs : List (List L2.Key × V)) (k : List L2.Key) (b : Addr), H3 a = some (.dT kvs) ∧ y = .ref b ∧ H3 b = some (.tup (k.map kV)) ∧ kvs.length < sizeLine ∧
  (∀ v, valV kvs k = some v → Q v H3) ∧ (valV kvs k = none → Q z (upd H3 a (.dT (putK kvs k z))))
section
variable {X : Cx} {o e f : Expr} {td ty tx : TE} {apos cpos : Pos}
theorem pe_dsett (hu : X.A.units + 1 < cLine) (ho : PE X o td) (he : PE X e ty) (hf : PE X f tx) (m : M2 X o "setdefault" apos e f cpos) : PE X (.Call (.Attribute o "setdefault" apos) [e, f] [] cpos) (tDSetT td ty tx) := by
  refine ⟨fun pins s σ H Q I h => ?_⟩
  refine wpAny_Call_method m.base m.few m.line PySem.F.plainAttrs_dict PySem.F.slot_dict_setdefault PySem.F.type_dict_setdefault (thn (ho.run pins s σ H _ I h) fun u s1 ⟨x, H1, I1, rx, a, ex, isd, q1⟩ => ?_)
  subst ex
  cases (show u = Value.ref a from rx)
  obtain ⟨t1, t2, _⟩ := isD_at I1 isd
  refine ⟨t1, t2, ?_⟩
  rw [m.trees]
  refine Calls.callWith_builtin rfl (Calls.evalArgs_plain (Calls.spliced_cons (thn (he.run pins s1 σ H1 _ I1 q1) fun iv s2 ⟨y, H2, I2, ry, q2⟩ => Calls.spliced_cons (thn (hf.run pins s2 σ H2 _ I2 q2) fun fv s3 ⟨z, H3, I3, rz, kvs, k, b, ea, ey, eb, hl, q3, q4⟩ => Calls.spliced_nil ?_))))
  subst ey
  cases (show iv = Value.ref b from ry)
  obtain ⟨zz, hd, xs, rel, dd⟩ := dt_of I3.hok ea
  have lxs : xs.length ≤ sizeLine := by rw [← Paired.length rel]; exact zz
  refine call_setdefault_heap (knd := tupleKind (mixKind X.prog X.w)) (k := k) (tupleKind_room_in1 hu) (key_of I3.hok eb) hd dd (fun p hp => ?_) (fun hn h' dd' same => ?_) lxs
  · have r := rel.val k
    rw [hp] at r
    cases ev : valV kvs k with
    | none => rw [ev] at r; exact (show False from r).elim
    | some v0 =>
      rw [ev] at r
      exact ⟨v0, H3, I3.tok _, r, q3 v0 ev⟩
  · have r := rel.val k
    rw [hn] at r
    cases ev : valV kvs k with
    | some v0 => rw [ev] at r; exact (show False from r).elim
    | none =>
      have l2 : (putK kvs k z).length ≤ sizeLine := by have := length_putK kvs k z; omega
      obtain ⟨q0, es, ep, g1, g2, g3, g4, _, g5⟩ := dd'
      have J := d_write (ob := .dT (putK kvs k z)) (t' := s3.toks + (tupleKind (mixKind X.prog X.w)).draws k) I3 (by rw [ea]; exact True.intro) same ⟨q0, g1⟩ ⟨l2, hd, _, (rel.put k eb rz).keeps (fun c ys ec => by
        rw [upd_ne (ne_of ec ea (fun z => nomatch z))]; exact ec), q0, es, ep, g1, g2, g3, g4, g5⟩
      exact ⟨z, _, J, rz, q4 ev⟩
end

/-! ### set(rows), rows a tuple of tuples of ints -/
abbrev freshSet (w : World) : Obj := { cls := .type "set", dict := none, data := .set #[] 0 (.fresh 0 0 (!w.params.followText "set-order")) }
abbrev hpSet (w : World) (h : Heap) : Heap := h.push (freshSet w)
section
variable {P : Program} {w : World} {A : Around} {E : Value → Shared → Prop} {s : Shared}
theorem get_none {h : Heap} {b : Addr} (hb : h.objs.size ≤ b) : h.get? b = none := by
  cases q : h.get? b with
  | none => rfl
  | some o => exact absurd (Nat.lt_of_lt_of_le (Heap.lt_size q) hb) (Nat.lt_irrefl _)
/-- the set is filled -/
def Filled (P : Program) (w : World) (s : Shared) (ks : List (Addr × List Int)) (r : Value) (s2 : Shared) : Prop := r = .none ∧ ∃ h' tk L es ep t, s2 = { s with heap := h', toks := tk } ∧ L2.SetTR P w h' s.heap.objs.size L es ep t ∧ L2.Got ks ks.length L ∧ ∀ b o, s.heap.get? b = some o → h'.get? b = some o
set_option maxHeartbeats 8000000 in
theorem call_set_rows {l : Addr} {items : Array Value} (ks : List (Addr × List Int)) {Q : Value → Shared → Prop} (hh : A.handled = none) (hl : s.heap.IsTuple l items) (hit : items.toList = ks.map fun p => Value.ref p.1)
    (hk : ∀ p ∈ ks, L2.IsT P w s.heap p.2 p.1) (hfew : ks.length < 64) (hu : A.units + 3 < cLine)
    (h : ∀ (h' : Heap) (tk : Nat) L es ep t, L2.SetTR P w h' s.heap.objs.size L es ep t → L2.Got ks ks.length L → (∀ b o, s.heap.get? b = some o → h'.get? b = some o) → Q (.ref s.heap.objs.size) { s with heap := h', toks := tk }) :
    wpAny (model P w) A (call (.type "set") [.ref l]) Q E s := by
  have isz : items.size = ks.length := by have q := congrArg List.length hit; rw [Array.length_toList, List.length_map] at q; exact q
  obtain ⟨c, tl, hmro⟩ := F.called_set.mro
  have a1 := F.called_set.made; have a2 := F.called_set.sub; have a3 := F.called_set.notType; have a4 := F.called_set.canCreate; have a5 := F.typeCall_set_1 (.ref l)
  refine wpAny_call (codeAny_of_tree ?_); show wpAny _ _ (callAny (.type "set") _) _ _ _
  refine wpAny_pure ⟨Code.quiet_builtin _ (by decide +kernel), codeAny_builtin F.entry_type_call ?_⟩; rw [Around.under_plain (weight_type_call_type "set" [.ref l] []) rfl]
  repeat (any_goals (first | assumption | wp_step))
  refine codeAny_mono (L2.code_set_led1 (.ref l) (E := E) (Q₁ := fun obj s₁ => obj = .ref s.heap.objs.size ∧ s₁ = { s with heap := hpSet w s.heap }) ⟨rfl, rfl⟩) fun r s₁ hr => ?_
  cases r with
  | error e => exact hr
  | ok fl =>
    cases fl with
    | ret obj =>
      obtain ⟨rfl, rfl⟩ := hr
      have atS : (hpSet w s.heap).get? s.heap.objs.size = some (freshSet w) := Heap.get?_push_size _ rfl
      have isS : Shared.TypeIs { s with heap := hpSet w s.heap } (.ref s.heap.objs.size) "set" := ⟨_, atS, rfl⟩
      have b1 := F.called_set.init.lookup; have b2 := F.called_set.init.bind (.ref s.heap.objs.size)
      repeat (any_goals (first | assumption | wp_step))
      refine codeAny_mono (codeAny_call_builtin (R := wants (Filled P w s ks) E) F.called_set.init.plain F.entry_set_init (check_set_init_1 isS ?_)) fun r₂ s₂ hr₂ => ?_
      · obtain ⟨ol, hol, hcl, nl, hdl⟩ := hl
        obtain ⟨ocls, odict, odata, oslots⟩ := ol
        simp only at hcl hdl
        subst hcl hdl
        have atl : (hpSet w s.heap).get? l = some { cls := .type "tuple", dict := odict, data := .seq items nl, slots := oslots } := Heap.get?_push_of_some _ hol
        have c1 := F.sub_tuple_set; have c2 := F.sub_tuple_frozenset
        have c3 : (Value.type "tuple" == Value.type "dict") = false := by decide
        have tl1 : (hpSet w s.heap).IsTuple l items := ⟨_, atl, rfl, nl, rfl⟩
        unfold Builtin.«set.__init__» noKeywords Builtin.Frozenset.updateFrom
        generalize hPI : pyIter = PI
        wp_walk
        subst hPI
        refine wpAny_pyIter_tuple tl1 ?_; refine wpAny_bind (wpAny_runValue ?_)
        have hlS : l < s.heap.objs.size := Heap.lt_size hol
        have hh3 : A.in1.in1.in1.handled = none := by simp [hh]
        have sz1 : (hpSet w s.heap).objs.size = s.heap.objs.size + 1 := Heap.size_push ..
        have nI : l ≠ (hpSet w s.heap).objs.size := by rw [sz1]; exact Nat.ne_of_lt (Nat.lt_succ_of_lt hlS)
        have nF : s.heap.objs.size ∉ [(hpSet w s.heap).objs.size, l] := by
          rw [sz1]; simp only [List.mem_cons, List.not_mem_nil, or_false, not_or]; exact ⟨Nat.ne_of_lt (Nat.lt_succ_self _), Nat.ne_of_gt hlS⟩
        have val : ∀ (i : Nat) (v : Value), items[i]? = some v → ∃ p, ks[i]? = some p ∧ v = .ref p.1 := fun i v hv => by
          have q : items.toList[i]? = some v := by rw [Array.getElem?_toList]; exact hv
          rw [hit, List.getElem?_map] at q
          cases hq : ks[i]? with
          | none => rw [hq] at q; cases q
          | some p => rw [hq] at q; exact ⟨p, rfl, (Option.some.inj q).symm⟩
        refine L2.set_update_tups ((Walks.tuple hh3 _ l nI items).toS) s.heap.objs.size nF ks isz hfew val s.heap hk (get_none (Nat.le_refl _)) (fun b hb => get_none (by rw [List.mem_singleton.mp hb, sz1]; exact Nat.le_succ _)) hu (items.size - 0) 0 _ (by omega) (Nat.zero_le _)
          ⟨⟨_, Heap.get?_push_size _ rfl, rfl, rfl⟩, (tl1.push _)⟩ (fun b o e => Heap.get?_push_of_some _ (Heap.get?_push_of_some _ e)) ⟨[], #[], 0, _, L2.setTR_fresh (Heap.get?_push_of_some _ atS), L2.Got.zero ks⟩ ?hR
        case hR =>
          intro s' L es ep t hm fin got kept
          obtain ⟨h', g2, d', tk', os'⟩ := s'
          cases (show g2 = s.gens from hm.gens); cases (show d' = s.drawn from hm.drawn); cases (show os' = s.os from hm.os)
          show wpAny _ _ _ _ _ _
          refine wpAny_pure ?_
          show wpAny _ _ (ret Value.none) _ _ _
          rw [isz] at got
          exact wpAny_pure ⟨rfl, h', tk', L, es, ep, t, rfl, fin, got, kept⟩
      · cases r₂ with
        | error e => exact hr₂
        | ok fl₂ =>
          cases fl₂ with
          | ret r =>
            obtain ⟨rfl, h', tk, L, es, ep, t, rfl, fin, got, kept⟩ := hr₂
            repeat (any_goals (first | assumption | wp_step))
            exact h _ _ _ _ _ _ fin got kept
          | _ => exact hr₂.elim
    | _ => exact hr.elim
end
section
variable {X : Cx}
/-- set(rows), a list or a tuple of tuples of ints -/
def rSetR (K : PySem.W.Frag) (P : Program) (w : World) : List V → Hp → VK → Prop := fun xs H Q => ∃ (l : Addr) (ks : List (Addr × List Int)), xs = [V.ref l] ∧ (SqL K H l (ks.map fun p => V.ref p.1) ∨ SqT K H l (ks.map fun p => V.ref p.1)) ∧ (∀ p ∈ ks, SqT K H p.1 (p.2.map V.int)) ∧ ks.length < 64 ∧
  ∀ a L, H a = none → (∀ p ∈ L, p ∈ ks) → (∀ p ∈ ks, p.2 ∈ L.map (·.2)) → Q (.ref a) (upd H a (SetTO P w a L))
theorem cr_setR (hc : X.calm = true) (hu : X.A.units + 64 < cLine) : CallR X (.type "set") (rSetR X.K X.prog X.w) := by
  intro pins s σ H xs us Q I r h
  obtain ⟨l, ks, rfl, hl | hl, hk, hf, q⟩ := h
  · exact L2.cr_setOfT hc hu pins s σ H _ us Q I r ⟨l, ks, rfl, hl, hk, hf, q⟩
  · rw [L2.Vals.ref1 r]
    obtain ⟨its, rv, pl, hz⟩ := I.tuple hl
    have nH : H s.heap.objs.size = none := I.hok.fresh (Nat.le_refl _)
    refine call_set_rows (P := X.prog) (w := X.w) ks (I.ok.hd hc) pl (by simpa using L2.refs_of_vals rv) (fun p hp => L2.Inv.isT I (hk p hp)) hf (by omega) fun h' tk L es ep t R g k => ?_
    refine ⟨.ref s.heap.objs.size, upd H s.heap.objs.size (SetTO X.prog X.w s.heap.objs.size L), I.laid (t' := tk) k (Nat.le_refl _) (L2.setTO_new R.t0), rfl, q _ L nH (fun p hp => List.mem_of_mem_take (g.sub p hp)) fun p hp => g.all p (by rw [List.take_length]; exact hp)⟩
end
end NR

/-! What the law's helpers keep: everything but the one list of draws. -/
namespace NK
open PySem PySem.Spec PyProof.Rows L2

/-- all that was tracked stays, but for what stands at d -/
def KB (d : Addr) (H H' : Hp) : Prop := ∀ b o, b ≠ d → H b = some o → H' b = some o
theorem KB.refl {d : Addr} {H : Hp} : KB d H H := fun _ _ _ h => h
theorem KB.trans {d : Addr} {H H1 H2 : Hp} (a : KB d H H1) (b : KB d H1 H2) : KB d H H2 := fun c o n h => b c o n (a c o n h)
theorem KB.same {d : Addr} {H H' : Hp} (s : Same H H') : KB d H H' := fun b o _ h => s b o h
theorem KB.at {d : Addr} {H : Hp} {o : HO} : KB d H (upd H d o) := fun b _ n h => by
  rw [upd_ne n]
  exact h
/-- a store at a place that was free at the start -/
theorem KB.put {d p : Addr} {H H' : Hp} {o : HO} (k : KB d H H') (n : H p = none) : KB d H (upd H' p o) := fun b x nb h => by
  rw [upd_ne (ne_of_none h n)]
  exact k b x nb h
theorem KB.new {d p : Addr} {H : Hp} {o : HO} (n : H p = none) : KB d H (upd H p o) := KB.refl.put n
theorem KB.free {d p : Addr} {H H' : Hp} (k : KB d H H') (n : H' p = none) (hp : p ≠ d) : H p = none := by
  cases q : H p with
  | none => rfl
  | some o =>
    rw [k p o hp q] at n
    cases n
theorem Same.put {p : Addr} {H H' : Hp} {o : HO} (k : Same H H') (n : H p = none) : Same H (upd H' p o) := fun b x h => by
  rw [upd_ne (ne_of_none h n)]
  exact k b x h
theorem same_upd {H : Hp} {p : Addr} {o : HO} (h : H p = none) : Same H (upd H p o) := fun b x e => by
  rw [upd_ne (ne_of_none e h)]
  exact e

/-- a comprehension's turn without a test -/
theorem yesT {σ : L2.St} {H : Hp} {A B : Bool → Hp → Prop} (h : A true H) : tYes σ H (fun b H3 => if b = true then A b H3 else B b H3) := by
  show (if true = true then A true H else B true H)
  rw [if_pos rfl]
  exact h
/-- the draws: a list of ints, not too long -/
def Dr (H : Hp) (d : Addr) : Prop := ∃ ds : List Int, H d = some (.lst (ds.map V.int)) ∧ ds.length ≤ 2000
theorem Dr.upd {H : Hp} {d p : Addr} {o : HO} (D : Dr H d) (n : d ≠ p) : Dr (upd H p o) d := by
  obtain ⟨ds, e, l⟩ := D
  exact ⟨ds, by rw [upd_ne n]; exact e, l⟩
theorem Dr.ne {H : Hp} {d p : Addr} (D : Dr H d) (n : H p = none) : d ≠ p := by
  obtain ⟨ds, e, l⟩ := D
  exact ne_of_none e n
theorem Dr.new {H : Hp} {d p : Addr} {o : HO} (D : Dr H d) (n : H p = none) : Dr (L2.upd H p o) d := D.upd (D.ne n)

/-- one goes on: the draws are still draws, all else stays -/
structure Go (d : Addr) (H H' : Hp) : Prop where
  kb : KB d H H'
  dr : Dr H' d
theorem Go.refl {d : Addr} {H : Hp} (D : Dr H d) : Go d H H := ⟨.refl, D⟩
theorem Go.trans {d : Addr} {H H1 H2 : Hp} (a : Go d H H1) (b : Go d H1 H2) : Go d H H2 := ⟨a.kb.trans b.kb, b.dr⟩
theorem Go.put {d p : Addr} {H H' : Hp} {o : HO} (g : Go d H H') (n : H p = none) (hp : d ≠ p) : Go d H (upd H' p o) := ⟨g.kb.put n, g.dr.upd hp⟩
theorem Go.new {d p : Addr} {H H' : Hp} {o : HO} (g : Go d H H') (n : H' p = none) : Go d H (upd H' p o) :=
  ⟨g.kb.put (g.kb.free n (g.dr.ne n).symm), g.dr.new n⟩
theorem Go.free {d p : Addr} {H H' : Hp} (g : Go d H H') (n : H' p = none) : H p = none := g.kb.free n (g.dr.ne n).symm
theorem Go.keep {d p : Addr} {H H' : Hp} {o : HO} (g : Go d H H') (h : H p = some o) (n : p ≠ d) : H' p = some o := g.kb p o n h
theorem Go.keepT {d p : Addr} {H H' : Hp} {xs : List V} (g : Go d H H') (D : Dr H d) (h : H p = some (.tup xs)) : H' p = some (.tup xs) := by
  obtain ⟨ds, e, _⟩ := D
  exact g.kb p _ (ne_of h e (fun z => by cases z)) h

/-- a tuple stays -/
theorem SqT.go {K : PySem.W.Frag} {d a : Addr} {H H' : Hp} {xs : List V} (g : Go d H H') (D : Dr H d) (h : SqT K H a xs) : SqT K H' a xs := by
  obtain ⟨ds, e, _⟩ := D
  rcases h with (h | ⟨o, h⟩) | h
  · exact .inl (.inl (g.kb a _ (ne_of h e (fun z => by cases z)) h))
  · exact .inl (.inr ⟨o, g.kb a _ (ne_of h e (fun z => by cases z)) h⟩)
  · exact .inr h
theorem SqT.same {K : PySem.W.Frag} {a : Addr} {H H' : Hp} {xs : List V} (s : Same H H') (h : SqT K H a xs) : SqT K H' a xs := by
  rcases h with (h | ⟨o, h⟩) | h
  · exact .inl (.inl (s a _ h))
  · exact .inl (.inr ⟨o, s a _ h⟩)
  · exact .inr h

/-- a tuple stays where a list is changed -/
theorem SqT.putL {K : PySem.W.Frag} {a p : Addr} {H : Hp} {xs ys zs : List V} (e : H p = some (.lst ys)) (h : SqT K H a xs) : SqT K (upd H p (.lst zs)) a xs := by
  rcases h with (h | ⟨o, h⟩) | h
  · exact .inl (.inl (by rw [upd_ne (ne_of h e (fun z => by cases z))]; exact h))
  · exact .inl (.inr ⟨o, by rw [upd_ne (ne_of h e (fun z => by cases z))]; exact h⟩)
  · exact .inr h
/-- the script: a list that is read, beside the draws -/
def Scr (K : PySem.W.Frag) (H : Hp) (d a : Addr) (xs : List V) : Prop := (Rd H a (.lst xs) ∧ a ≠ d) ∨ ∀ H' : Hp, SqL K H' a xs
theorem Scr.seq {K : PySem.W.Frag} {H : Hp} {d a : Addr} {xs : List V} (h : Scr K H d a xs) : SqL K H a xs := by
  rcases h with h | h
  · exact .inl h.1
  · exact h H
theorem Scr.go {K : PySem.W.Frag} {H H' : Hp} {d a : Addr} {xs : List V} (g : KB d H H') (h : Scr K H d a xs) : Scr K H' d a xs := by
  rcases h with ⟨h | ⟨o, h⟩, n⟩ | h
  · exact .inl ⟨.inl (g _ _ n h), n⟩
  · exact .inl ⟨.inr ⟨o, g _ _ n h⟩, n⟩
  · exact .inr h
theorem Scr.of {K : PySem.W.Frag} {H H' : Hp} {d a : Addr} {xs : List V} (s : Same H H') (n : H d = none) (h : SqL K H a xs) : Scr K H' d a xs := by
  rcases h with (h | ⟨o, h⟩) | h
  · exact .inl ⟨.inl (s _ _ h), ne_of_none h n⟩
  · exact .inl ⟨.inr ⟨o, s _ _ h⟩, ne_of_none h n⟩
  · exact .inr fun _ => .inr h

/-! ### data that never changes: ints, texts, tuples of such -/
mutual
inductive Im (K : PySem.W.Frag) (H : Hp) : V → PyData → Prop
  | int (i : Int) : Im K H (.int i) (.int i)
  | str (x : Str) : Im K H (.str x) (.str x)
  | tup {a : Addr} {xs : List V} {ds : List PyData} : H a = some (.tup xs) → ImAll K H xs ds → Im K H (.ref a) (.tuple ds)
inductive ImAll (K : PySem.W.Frag) (H : Hp) : List V → List PyData → Prop
  | nil : ImAll K H [] []
  | cons {v : V} {vs : List V} {d : PyData} {ds : List PyData} : Im K H v d → ImAll K H vs ds → ImAll K H (v :: vs) (d :: ds)
end
mutual
theorem Im.map {K : PySem.W.Frag} {H H' : Hp} (f : ∀ a xs, H a = some (.tup xs) → H' a = some (.tup xs)) : ∀ {v : V} {d : PyData}, Im K H v d → Im K H' v d
  | _, _, .int i => .int i
  | _, _, .str x => .str x
  | _, _, .tup h r => .tup (f _ _ h) (ImAll.map f r)
theorem ImAll.map {K : PySem.W.Frag} {H H' : Hp} (f : ∀ a xs, H a = some (.tup xs) → H' a = some (.tup xs)) : ∀ {vs : List V} {ds : List PyData}, ImAll K H vs ds → ImAll K H' vs ds
  | _, _, .nil => .nil
  | _, _, .cons h r => .cons (Im.map f h) (ImAll.map f r)
end
theorem Im.go {K : PySem.W.Frag} {d : Addr} {H H' : Hp} {v : V} {t : PyData} (g : Go d H H') (D : Dr H d) (h : Im K H v t) : Im K H' v t := h.map fun _ _ q => g.keepT D q
theorem ImAll.go {K : PySem.W.Frag} {d : Addr} {H H' : Hp} {v : List V} {t : List PyData} (g : Go d H H') (D : Dr H d) (h : ImAll K H v t) : ImAll K H' v t := h.map fun _ _ q => g.keepT D q
theorem Im.same {K : PySem.W.Frag} {H H' : Hp} {v : V} {t : PyData} (s : Same H H') (h : Im K H v t) : Im K H' v t := h.map fun _ _ q => s _ _ q
theorem ImAll.same {K : PySem.W.Frag} {H H' : Hp} {v : List V} {t : List PyData} (s : Same H H') (h : ImAll K H v t) : ImAll K H' v t := h.map fun _ _ q => s _ _ q
/-- a tuple stays where a list or a dict is changed -/
theorem tup_put {a p : Addr} {H : Hp} {xs : List V} {o u : HO} (e : H p = some u) (nu : ∀ ys, u ≠ .tup ys) (h : H a = some (.tup xs)) : upd H p o a = some (.tup xs) := by
  rw [upd_ne (ne_of h e (fun z => nu xs z.symm))]
  exact h
theorem Im.put {K : PySem.W.Frag} {p : Addr} {H : Hp} {v : V} {t : PyData} {o u : HO} (e : H p = some u) (nu : ∀ ys, u ≠ .tup ys) (h : Im K H v t) : Im K (upd H p o) v t := h.map fun _ _ q => tup_put e nu q
theorem ImAll.put {K : PySem.W.Frag} {p : Addr} {H : Hp} {v : List V} {t : List PyData} {o u : HO} (e : H p = some u) (nu : ∀ ys, u ≠ .tup ys) (h : ImAll K H v t) : ImAll K (upd H p o) v t := h.map fun _ _ q => tup_put e nu q
theorem ImAll.length {K : PySem.W.Frag} {H : Hp} : ∀ {vs : List V} {ds : List PyData}, ImAll K H vs ds → vs.length = ds.length
  | _, _, .nil => rfl
  | _, _, .cons _ r => congrArg (· + 1) r.length
theorem ImAll.append {K : PySem.W.Frag} {H : Hp} : ∀ {vs us : List V} {ds es : List PyData}, ImAll K H vs ds → ImAll K H us es → ImAll K H (vs ++ us) (ds ++ es)
  | _, _, _, _, .nil, q => q
  | _, _, _, _, .cons h r, q => .cons h (ImAll.append r q)
theorem ImAll.get {K : PySem.W.Frag} {H : Hp} : ∀ {vs : List V} {ds : List PyData} {i : Nat} {v : V}, ImAll K H vs ds → vs[i]? = some v → ∃ t, ds[i]? = some t ∧ Im K H v t
  | _, _, i, v, .nil, h => by simp at h
  | _, _, 0, v, .cons h r, e => ⟨_, rfl, by cases (Option.some.inj e); exact h⟩
  | _, _, i + 1, v, .cons h r, e => r.get (i := i) e
theorem ImAll.ints {K : PySem.W.Frag} {H : Hp} : ∀ (l : List Int), ImAll K H (l.map V.int) (l.map PyData.int)
  | [] => .nil
  | i :: r => .cons (.int i) (ImAll.ints r)
theorem ImAll.ofInts {K : PySem.W.Frag} {H : Hp} : ∀ {vs : List V} {l : List Int}, ImAll K H vs (l.map PyData.int) → vs = l.map V.int
  | _, [], .nil => rfl
  | _, i :: r, .cons h q => by
    cases h
    rw [ImAll.ofInts q]
    rfl
mutual
theorem Im.dp {K : PySem.W.Frag} {H : Hp} : ∀ {v : V} {d : PyData}, Im K H v d → Dp K H v d
  | _, _, .int i => .int i
  | _, _, .str x => .str x
  | _, _, .tup h r => .tup (SqT.of h) (ImAll.dp r)
theorem ImAll.dp {K : PySem.W.Frag} {H : Hp} : ∀ {vs : List V} {ds : List PyData}, ImAll K H vs ds → DpAll K H vs ds
  | _, _, .nil => .nil
  | _, _, .cons h r => .cons (Im.dp h) (ImAll.dp r)
end

/-! ### dependencies as data -/
inductive Dep where
  | two (deals : Bool) (t : Int) (l r : List Int)
  | joins (t : Int) (ps : List (List Int))
  | within (t : Int) (c : List Int) (o : Int) (u : List Int)
def intsD (l : List Int) : PyData := .tuple (l.map .int)
def partsD (ps : List (List Int)) : PyData := .tuple (ps.map intsD)
def kindS (deals : Bool) : Str := if deals then "deals" else "settles"
def Dep.data : Dep → PyData
  | .two k t l r => .tuple [.str (kindS k), .int t, intsD l, intsD r]
  | .joins t ps => .tuple [.str "joins", .int t, partsD ps]
  | .within t c o u => .tuple [.str "within", .int t, intsD c, .int o, intsD u]
def bookD (b : List Dep) : PyData := .tuple (b.map Dep.data)
/-- small enough to be written -/
def Sm (i : Int) : Prop := 0 ≤ i ∧ i < 10 ^ 61
def SmL (l : List Int) : Prop := l.length ≤ 30 ∧ ∀ i ∈ l, Sm i
def Dep.Sm : Dep → Prop
  | .two _ t l r => NK.Sm t ∧ SmL l ∧ SmL r
  | .joins t ps => NK.Sm t ∧ ps.length ≤ 30 ∧ ∀ p ∈ ps, SmL p
  | .within t c o u => NK.Sm t ∧ SmL c ∧ NK.Sm o ∧ SmL u
/-- a set of columns as a tuple -/
theorem Im.ints {K : PySem.W.Frag} {H : Hp} {a : Addr} {l : List Int} (h : H a = some (.tup (l.map V.int))) : Im K H (.ref a) (intsD l) := .tup h (.ints l)
theorem Im.toInts {K : PySem.W.Frag} {H : Hp} {v : V} {l : List Int} (h : Im K H v (intsD l)) : ∃ a, v = .ref a ∧ H a = some (.tup (l.map V.int)) := by
  cases h with
  | tup h r => exact ⟨_, rfl, by rw [← ImAll.ofInts r]; exact h⟩
/-! ### rows, tables, stores as data -/
def rowsD (R : List (List Int)) : PyData := .tuple (R.map intsD)
def storeD (S : List (List (List Int))) : PyData := .tuple (S.map rowsD)
/-- rows of one width, ascending, each once -/
structure Tab (n : Int) (R : List (List Int)) : Prop where
  asc : R.Pairwise (· < ·)
  len : ∀ r ∈ R, (r.length : Int) = n
/-- the rows of a table by their addresses -/
theorem Im.rows {K : PySem.W.Frag} {H : Hp} {v : V} {R : List (List Int)} (h : Im K H v (rowsD R)) : ∃ (a : Addr) (ks : List (Addr × List Int)), v = .ref a ∧ H a = some (.tup (ks.map fun p => V.ref p.1)) ∧ ks.map (·.2) = R ∧ ∀ p ∈ ks, H p.1 = some (.tup (p.2.map V.int)) := by
  cases h with
  | tup h r =>
    rename_i a xs
    have go : ∀ (R : List (List Int)) (xs : List V), ImAll K H xs (R.map intsD) → ∃ ks : List (Addr × List Int), xs = ks.map (fun p => V.ref p.1) ∧ ks.map (·.2) = R ∧ ∀ p ∈ ks, H p.1 = some (.tup (p.2.map V.int)) := by
      intro R
      induction R with
      | nil =>
        intro xs h
        cases h
        exact ⟨[], rfl, rfl, fun p hp => (by cases hp)⟩
      | cons x R ih =>
        intro xs h
        cases h with
        | cons h1 h2 =>
          obtain ⟨b, rfl, hb⟩ := h1.toInts
          obtain ⟨ks, rfl, e2, h3⟩ := ih _ h2
          refine ⟨(b, x) :: ks, rfl, by rw [List.map_cons, e2], fun p hp => ?_⟩
          rcases List.mem_cons.mp hp with rfl | hp
          · exact hb
          · exact h3 p hp
    obtain ⟨ks, rfl, e2, h3⟩ := go R xs r
    exact ⟨a, ks, rfl, h, e2, h3⟩
theorem ImAll.rows {K : PySem.W.Frag} {H : Hp} : ∀ (ks : List (Addr × List Int)), (∀ p ∈ ks, H p.1 = some (.tup (p.2.map V.int))) → ImAll K H (ks.map fun p => V.ref p.1) ((ks.map (·.2)).map intsD)
  | [], _ => .nil
  | p :: ks, h => .cons (Im.ints (h p (List.mem_cons_self ..))) (ImAll.rows ks fun q hq => h q (List.mem_cons_of_mem _ hq))
end NK

namespace NK
open PySem PySem.Spec PyProof.Rows L2
/-! ### order of rows -/
theorem lexLt_eq : ∀ xs ys : List Int, HT.lexLt xs ys = decide (xs < ys)
  | [], [] => by simp [HT.lexLt]
  | [], y :: ys => by simp [HT.lexLt]
  | x :: xs, [] => by simp [HT.lexLt]
  | x :: xs, y :: ys => by
    rw [HT.lexLt_cons]
    by_cases h : x = y
    · rw [if_pos h, lexLt_eq xs ys]
      simp [h, List.cons_lt_cons_iff]
    · rw [if_neg h]
      simp [h, List.cons_lt_cons_iff]
theorem row_le_total (a b : List Int) : a ≤ b ∨ b ≤ a := List.le_total a b
theorem row_le_trans {a b c : List Int} (h : a ≤ b) (k : b ≤ c) : a ≤ c := List.le_trans h k
theorem row_le_antisymm {a b : List Int} (h : a ≤ b) (k : b ≤ a) : a = b := List.le_antisymm h k
theorem row_le_refl (a : List Int) : a ≤ a := List.le_refl a
theorem row_not_lt {a b : List Int} : ¬ a < b ↔ b ≤ a := List.not_lt
theorem row_lt_le {a b : List Int} (h : a < b) : a ≤ b := List.le_of_lt h
theorem row_lt_irrefl (a : List Int) : ¬ a < a := List.lt_irrefl a
theorem row_le_lt {a b : List Int} (h : a ≤ b) : ¬ b < a := List.not_lt.mpr h
/-! ### least breaches of functional dependencies -/
def prj (l : List Int) (a : List Int) : List Int := l.map fun c => a.getD c.toNat 0
def Bad (l r a b : List Int) : Prop := prj l a = prj l b ∧ prj r a ≠ prj r b
instance (l r a b : List Int) : Decidable (Bad l r a b) := inferInstanceAs (Decidable (_ ∧ _))
theorem Bad.symm {l r a b : List Int} (h : Bad l r a b) : Bad l r b a := ⟨h.1.symm, fun e => h.2 e.symm⟩
def Br (l r : List Int) (T : List (List Int)) : Option (List Int × List Int) → Prop
  | none => ∀ a ∈ T, ∀ b ∈ T, ¬ Bad l r a b
  | some (a, b) => a ∈ T ∧ b ∈ T ∧ Bad l r a b ∧ (∀ a' ∈ T, ∀ b' ∈ T, Bad l r a' b' → a ≤ a') ∧ ∀ b' ∈ T, Bad l r a b' → b ≤ b'
theorem Br.one {l r : List Int} {T : List (List Int)} {o o' : Option (List Int × List Int)} (h : Br l r T o) (h' : Br l r T o') : o = o' := by
  match o, o', h, h' with
  | none, none, _, _ => rfl
  | none, some (a, b), h, ⟨ha, hb, hB, _⟩ => exact absurd hB (h a ha b hb)
  | some (a, b), none, ⟨ha, hb, hB, _⟩, h => exact absurd hB (h a ha b hb)
  | some (a, b), some (a', b'), ⟨ha, hb, hB, m1, m2⟩, ⟨ha', hb', hB', m1', m2'⟩ =>
    have e : a = a' := row_le_antisymm (m1 a' ha' b' hb' hB') (m1' a ha b hb hB)
    subst e
    have e2 : b = b' := row_le_antisymm (m2 b' hb' hB') (m2' b hb hB)
    rw [e2]
/-- the first row with the same left -/
def Fst (l : List Int) (T : List (List Int)) (x f : List Int) : Prop := f ∈ T ∧ prj l f = prj l x ∧ ∀ a ∈ T, prj l a = prj l x → f ≤ a
theorem Br.keepL {l r : List Int} {T : List (List Int)} {x f : List Int} {o : Option (List Int × List Int)} (h : Br l r T o) (hx : ∀ a ∈ T, a ≤ x) (hf : Fst l (T ++ [x]) x f) (e : prj r f = prj r x) : Br l r (T ++ [x]) o := by
  have key : ∀ a ∈ T, Bad l r a x → Bad l r f a ∧ f ∈ T := fun a ha hB => by
    have h1 : Bad l r f a := ⟨by rw [hf.2.1, hB.1], fun z => hB.2 (by rw [← z, e])⟩
    refine ⟨h1, ?_⟩
    rcases List.mem_append.mp hf.1 with z | z
    · exact z
    · rw [List.mem_singleton.mp z] at h1 hf
      have h2 : x ≤ a := hf.2.2 a (List.mem_append_left _ ha) hB.1
      have h3 : a = x := row_le_antisymm (hx a ha) h2
      exact absurd (by rw [h3]) hB.2
  match o, h with
  | none, h =>
    intro a ha b hb hB
    rcases List.mem_append.mp ha with ha | ha <;> rcases List.mem_append.mp hb with hb | hb
    · exact h a ha b hb hB
    · rw [List.mem_singleton.mp hb] at hB
      obtain ⟨k1, k2⟩ := key a ha hB
      exact h f k2 a ha k1
    · rw [List.mem_singleton.mp ha] at hB
      obtain ⟨k1, k2⟩ := key b hb hB.symm
      exact h f k2 b hb k1
    · rw [List.mem_singleton.mp ha, List.mem_singleton.mp hb] at hB
      exact hB.2 rfl
  | some (a0, b0), ⟨ha, hb, hB, m1, m2⟩ =>
    refine ⟨List.mem_append_left _ ha, List.mem_append_left _ hb, hB, fun a' ha' b' hb' hB' => ?_, fun b' hb' hB' => ?_⟩
    · rcases List.mem_append.mp ha' with ha' | ha'
      · rcases List.mem_append.mp hb' with hb' | hb'
        · exact m1 a' ha' b' hb' hB'
        · rw [List.mem_singleton.mp hb'] at hB'
          obtain ⟨k1, k2⟩ := key a' ha' hB'
          exact row_le_trans (m1 f k2 a' ha' k1) (hf.2.2 a' (List.mem_append_left _ ha') hB'.1)
      · rw [List.mem_singleton.mp ha']
        exact hx a0 ha
    · rcases List.mem_append.mp hb' with hb' | hb'
      · exact m2 b' hb' hB'
      · rw [List.mem_singleton.mp hb']
        exact hx b0 hb
theorem Br.newL {l r : List Int} {T : List (List Int)} {x f : List Int} {o : Option (List Int × List Int)} (h : Br l r T o) (hx : ∀ a ∈ T, a ≤ x) (hf : Fst l (T ++ [x]) x f) (e : prj r f ≠ prj r x) (hlt : ∀ a b, o = some (a, b) → f < a) : Br l r (T ++ [x]) (some (f, x)) := by
  have fT : f ∈ T := by
    rcases List.mem_append.mp hf.1 with z | z
    · exact z
    · exact absurd (by rw [List.mem_singleton.mp z]) e
  refine ⟨hf.1, List.mem_append_right _ (List.mem_singleton.mpr rfl), ⟨hf.2.1, e⟩, fun a' ha' b' hb' hB' => ?_, fun b' hb' hB' => ?_⟩
  · rcases List.mem_append.mp ha' with ha' | ha'
    · rcases List.mem_append.mp hb' with hb' | hb'
      · match o, h with
        | none, h => exact absurd hB' (h a' ha' b' hb')
        | some (a, b), ⟨_, _, _, m1, _⟩ => exact row_le_trans (row_lt_le (hlt a b rfl)) (m1 a' ha' b' hb' hB')
      · rw [List.mem_singleton.mp hb'] at hB'
        exact hf.2.2 a' (List.mem_append_left _ ha') hB'.1
    · rw [List.mem_singleton.mp ha']
      exact hx f fT
  · rcases List.mem_append.mp hb' with hb' | hb'
    · match o, h with
      | none, h => exact absurd hB' (h f fT b' hb')
      | some (a, b), ⟨_, _, _, m1, _⟩ => exact absurd (hlt a b rfl) (row_le_lt (m1 f fT b' hb' hB'))
    · rw [List.mem_singleton.mp hb']
      exact row_le_refl x
theorem Br.oldL {l r : List Int} {T : List (List Int)} {x f a b : List Int} (h : Br l r T (some (a, b))) (hx : ∀ a ∈ T, a ≤ x) (hf : Fst l (T ++ [x]) x f) (hlt : ¬ f < a) : Br l r (T ++ [x]) (some (a, b)) := by
  obtain ⟨ha, hb, hB, m1, m2⟩ := h
  refine ⟨List.mem_append_left _ ha, List.mem_append_left _ hb, hB, fun a' ha' b' hb' hB' => ?_, fun b' hb' hB' => ?_⟩
  · rcases List.mem_append.mp ha' with ha' | ha'
    · rcases List.mem_append.mp hb' with hb' | hb'
      · exact m1 a' ha' b' hb' hB'
      · rw [List.mem_singleton.mp hb'] at hB'
        exact row_le_trans (row_not_lt.mp hlt) (hf.2.2 a' (List.mem_append_left _ ha') hB'.1)
    · rw [List.mem_singleton.mp ha']
      exact hx a ha
  · rcases List.mem_append.mp hb' with hb' | hb'
    · exact m2 b' hb' hB'
    · rw [List.mem_singleton.mp hb']
      exact hx b hb
/-- the law's own search: rows up to i without a breach, and then one -/
theorem Br.found {l r : List Int} {T : List (List Int)} (asc : T.Pairwise (· < ·)) {i j : Nat} {a b : List Int} (hi : T[i]? = some a) (hj : T[j]? = some b) (h1 : ∀ a' ∈ T.take i, ∀ b' ∈ T, ¬ Bad l r a' b') (h2 : ∀ b' ∈ T.take j, ¬ Bad l r a b') (hB : Bad l r a b) : Br l r T (some (a, b)) := by
  have split : ∀ {i : Nat} {a a' : List Int}, T[i]? = some a → a' ∈ T → a' ∈ T.take i ∨ a ≤ a' := by
    intro i a a' hi ha'
    obtain ⟨k, hk, rfl⟩ := List.getElem_of_mem ha'
    obtain ⟨hi', rfl⟩ := List.getElem?_eq_some_iff.mp hi
    by_cases z : k < i
    · refine .inl ?_
      have : (T.take i)[k]? = some T[k] := by rw [List.getElem?_take, if_pos z, List.getElem?_eq_getElem hk]
      exact List.mem_of_getElem? this
    · refine .inr ?_
      rcases Nat.lt_or_eq_of_le (Nat.not_lt.mp z) with y | y
      · exact row_lt_le (List.pairwise_iff_getElem.mp asc i k hi' hk y)
      · subst y
        exact row_le_refl _
  refine ⟨List.mem_of_getElem? hi, List.mem_of_getElem? hj, hB, fun a' ha' b' hb' hB' => ?_, fun b' hb' hB' => ?_⟩
  · rcases split hi ha' with z | z
    · exact absurd hB' (h1 a' z b' hb')
    · exact z
  · rcases split hj hb' with z | z
    · exact absurd hB' (h2 b' z)
    · exact z
end NK

namespace NK
open PySem PySem.Spec PyProof.Rows L2
/-! ### the text -/
def topS (i : Nat) : Stmt := PySem.Challenge.pw_norowstray_k16_least_breaches_of_functio.main.body.getD i (.Pass ⟨0, 0, 0, 0⟩)
abbrev p_values_at : Stmt := topS 1
abbrev p_parts_of : Stmt := topS 2
abbrev p_first_rows : Stmt := topS 4
abbrev p_connected_order : Stmt := topS 5
abbrev p_count_shared : Stmt := topS 6
abbrev p_some_made_row : Stmt := topS 7
abbrev p_first_made_row : Stmt := topS 8
abbrev p_chosen_rows : Stmt := topS 9
abbrev p_look_of : Stmt := topS 11
abbrev p_grouped : Stmt := topS 12
abbrev p_keeps : Stmt := topS 14
abbrev p_least_breach : Stmt := topS 15
abbrev p_settled_breach : Stmt := topS 16
abbrev p_inclusion_breach : Stmt := topS 17
abbrev p_joined_breach : Stmt := topS 18
abbrev sDraws : Stmt := topS 20
abbrev sTake : Stmt := topS 21
abbrev sCell : Stmt := topS 22
abbrev sSame : Stmt := topS 23
abbrev sShuf : Stmt := topS 24
abbrev sCols : Stmt := topS 25
abbrev sScheme : Stmt := topS 26
abbrev sParts : Stmt := topS 27
abbrev sIncl : Stmt := topS 28
abbrev sDep : Stmt := topS 29
abbrev sOrder : Stmt := topS 30
abbrev sBook : Stmt := topS 31
abbrev sWide : Stmt := topS 32
abbrev sNarrow : Stmt := topS 33
abbrev sRows : Stmt := topS 34
abbrev sStore : Stmt := topS 35
abbrev s_law_joined : Stmt := topS 36
abbrev s_law_parts_of : Stmt := topS 37
abbrev sAgree : Stmt := topS 38
abbrev s_law_choices : Stmt := topS 39
abbrev s_law_row_of : Stmt := topS 40
abbrev s_law_join_breach : Stmt := topS 41
abbrev sBreach : Stmt := topS 42
abbrev sKind : Stmt := topS 43
abbrev sWith : Stmt := topS 44
abbrev sThin : Stmt := topS 45
abbrev sLaw : Stmt := topS 46
theorem scDraws : FnScope ["script", "many", "cells", "rest", "draws", "k", "at", "once", "cell"] ["script", "many"] (defScope sDraws) := ⟨rfl, rfl, rfl, by decide +kernel, rfl, by decide +kernel, by decide +kernel⟩
theorem scTake : FnScope ["draws", "many"] ["draws", "many"] (defScope sTake) := ⟨rfl, rfl, rfl, by decide +kernel, rfl, by decide +kernel, by decide +kernel⟩
theorem scCell : FnScope ["script", "draws"] ["script", "draws"] (defScope sCell) := ⟨rfl, rfl, rfl, by decide +kernel, rfl, by decide +kernel, by decide +kernel⟩

section
variable {P : Program} {w : World} {K : PySem.W.Frag} {mg : Str → Option Value} {base : Heap}
/-! ### a draw -/
def spTake : Sp := fun vs H Q _ => ∃ (d : Addr) (m : Int), vs = [.ref d, .int m] ∧ 0 < m ∧ Dr H d ∧ ∀ H' (i : Int), Go d H H' → 0 ≤ i → i < m → Q (.int i) H'
theorem ok_take {f : Addr} {fd : FuncData} {k : Nat} (F : Fun K "_law_take" "_law_take" sTake f fd) (ml : mg "len" = none) (mi : mg "int" = none) : FnOk P w K mg base CX0 (k + 1) f fd ["draws", "many"] spTake := by
  refine F.ok scTake (fun vs H Q E h => ?_) (fun cdv A outer s H vs Q E hr h => ?_)
  · obtain ⟨d, m, rfl, _⟩ := h
    rfl
  · obtain ⟨d, m, rfl, hm, D, q⟩ := h
    obtain ⟨ds, e, hl⟩ := id D
    refine ⟨_, pss_cons (ps_if (pt_cmpR op_eq (pe_callB call_len_seq (by rfl) ml PySem.boot_len (pa_cons (pv 0) pa_nil)) pe_int (nomark _)) (pss_one (ps_ret pe_int)) pss_nil)
      (pss_one (ps_ret (pe_op op_mod (pe_callTy call_int1 (by rfl) mi boot_int (pa_cons (pe_bm0 PySem.F.plainAttrs_list PySem.F.slot_list_pop PySem.F.type_list_pop mt_pop (pv 0)) pa_nil)) (pv 1)))), ?_⟩
    refine ⟨.ref d, rfl, d, ds.map V.int, rfl, .inl (SqL.of e), rfl, _, rfl, ite2 (fun z => ?_) (fun z => ?_)⟩
    · exact q H 0 (.refl D) (Int.le_refl _) hm
    · have hn : ds.length ≠ 0 := fun y => z (by rw [List.length_map, y]; exact decide_eq_true rfl)
      have h1 : ds.length - 1 < ds.length := by omega
      refine ⟨.ref d, rfl, .inl ⟨rfl, _, SqL.of e⟩, d, ds.map V.int, .int ds[ds.length - 1], rfl, rfl, e, ?_, .inl ⟨_, rfl, .int m, rfl, _, _, rfl, rfl, hm, ?_⟩⟩
      · rw [List.length_map, List.getElem?_map, List.getElem?_eq_getElem h1]
        rfl
      · refine q _ _ ⟨.at, ds.dropLast, by rw [upd_same, List.map_dropLast], by rw [List.length_dropLast]; omega⟩ (Int.emod_nonneg _ (by omega)) (Int.emod_lt_of_pos _ hm)

/-! ### a cell of the script -/
def spCell (K : PySem.W.Frag) : Sp := fun vs H Q _ => ∃ (a d : Addr) (ns : List Int), vs = [.ref a, .ref d] ∧ Scr K H d a (ns.map V.int) ∧ Dr H d ∧ ∀ H' (i : Int), Go d H H' → Q (.int i) H'
theorem ok_cell {f fT : Addr} {fd fdT : FuncData} (F : Fun K "_law_cell" "_law_cell" sCell f fd) (FT : Fun K "_law_take" "_law_take" sTake fT fdT) (bT : Binds K fdT ["draws", "many"] []) (gT : mg "_law_take" = some (.ref fT)) (ml : mg "len" = none) (mi : mg "int" = none) :
    FnOk P w K mg base CX0 2 f fd ["script", "draws"] (spCell K) := by
  have GT : FnOk P w K mg base CX0 1 fT fdT ["draws", "many"] spTake := ok_take FT ml mi
  refine F.ok scCell (fun vs H Q E h => ?_) (fun cdv A outer s H vs Q E hr h => ?_)
  · obtain ⟨a, d, ns, rfl, _⟩ := h
    rfl
  · obtain ⟨a, d, ns, rfl, hS, D, q⟩ := h
    refine ⟨_, pss_cons (ps_if (pt_cmpR op_eq (pe_callB call_len_seq (by rfl) ml PySem.boot_len (pa_cons (pv 0) pa_nil)) pe_int (nomark _)) (pss_one (ps_ret pe_int)) pss_nil)
      (pss_one (ps_ret (pe_callTy call_int1 (by rfl) mi boot_int (pa_cons (pe_ix ix_list (pv 0) (pe_call GT hr (by rfl) gT FT.kp bT .nil pass0 (pa_cons (pv 1) (pa_cons (pe_callB call_len_seq (by rfl) ml PySem.boot_len (pa_cons (pv 0) pa_nil)) pa_nil))) (fun _ _ => rfl)) pa_nil)))), ?_⟩
    refine ⟨.ref a, rfl, a, ns.map V.int, rfl, .inl hS.seq, rfl, _, rfl, ite2 (fun z => ?_) (fun z => ?_)⟩
    · exact q H 0 (.refl D)
    · have hn : ns.length ≠ 0 := fun y => z (by rw [List.length_map, y]; exact decide_eq_true rfl)
      refine ⟨.ref a, rfl, .ref d, rfl, .ref a, rfl, a, ns.map V.int, rfl, .inl hS.seq, d, _, rfl, by rw [List.length_map]; omega, D, fun H' i g h0 h1 => ?_⟩
      rw [List.length_map] at h1
      have h2 : i.toNat < ns.length := by omega
      refine ⟨a, ns.map V.int, i, .int ns[i.toNat], rfl, rfl, (hS.go g.kb).seq, at_of (by omega : i = (i.toNat : Int)) ?_, .inl ⟨_, rfl, q H' _ g⟩⟩
      rw [List.getElem?_map, List.getElem?_eq_getElem h2]
      rfl

/-! ### all draws -/
def spDraws (K : PySem.W.Frag) : Sp := fun vs H Q _ => ∃ (a : Addr) (ns : List Int) (m : Int), vs = [.ref a, .int m] ∧ SqL K H a (ns.map V.int) ∧ ns.length ≤ 63 ∧ 0 ≤ m ∧ m ≤ 2000 ∧ ∀ H' d, Same H H' → H d = none → Dr H' d → Q (.ref d) H'
theorem ok_draws {f : Addr} {fd : FuncData} {k : Nat} (F : Fun K "_law_draws" "_law_draws" sDraws f fd) (ml : mg "len" = none) (mi : mg "int" = none) (ms : mg "list" = none) (mr : mg "range" = none) : FnOk P w K mg base CX0 (k + 1) f fd ["script", "many"] (spDraws K) := by
  refine F.ok scDraws (fun vs H Q E h => ?_) (fun cdv A outer s H vs Q E hr h => ?_)
  · obtain ⟨a, ns, m, rfl, _⟩ := h
    rfl
  · obtain ⟨a, ns, m, rfl, hS, hlen, hm0, hm, q⟩ := h
    refine ⟨_, pss_cons (ps_setLc (i := 2) (own := [("cell", 8)]) (g := gName 8) (by rfl) scDraws.nd rfl rfl (sw_true rfl rfl rfl (by decide +kernel)) (pi_list (pv 0))
          (blkOk_by (N := ["script", "many", "cells", "rest", "draws", "k", "at", "once", "cell"]) (sc := defScope sDraws) (by decide +kernel)) (fun _ _ _ _ _ => pg_name (i := 8) scDraws.nd rfl (Or.inl rfl)) (fun _ _ _ _ _ => pts_nil)
          (fun _ _ _ _ _ => pe_callTy call_int1 (by rfl) mi boot_int (pa_cons (pv 8) pa_nil)))
      (C8.pss_cut (ps_if (pt_cmpR op_eq (pe_callB call_len_seq (by rfl) ml PySem.boot_len (pa_cons (pv 2) pa_nil)) pe_int (nomark _))
          (pss_one (ps_expr (pe_bm PySem.F.plainAttrs_list PySem.F.slot_list_append PySem.F.type_list_append mt_append (pv 2) (pa_cons pe_int pa_nil)))) pss_nil)
      (pss_cons (ps_set (i := 3) scDraws.nd rfl (.inl rfl) (pe_callTy call_list_of (by rfl) ms boot_list (pa_cons (pv 2) pa_nil)))
      (pss_cons (ps_set (i := 4) scDraws.nd rfl (.inl rfl) (pe_lst pa_nil))
      (pss_cons (ps_for PassesOwn.never rfl (pi_range1 rfl mr (pa_cons (pv 1) pa_nil)) (pg_name (i := 5) scDraws.nd rfl (.inl rfl))
        (pss_cons (ps_set (i := 6) scDraws.nd rfl (.inl rfl) (pe_op op_mod (pv 5) (pe_callB call_len_seq (by rfl) ml PySem.boot_len (pa_cons (pv 2) pa_nil))))
        (pss_one (ps_if (pt_cmpR op_ge (pe_ix ix_list (pv 2) (pv 6) (fun _ _ => rfl)) (pe_op op_pow pe_int pe_int) (nomark _))
          (pss_cons (ps_expr (pe_bm PySem.F.plainAttrs_list PySem.F.slot_list_append PySem.F.type_list_append mt_append (pv 4) (pa_cons (pe_op op_mod (pe_callTy call_int1 (by rfl) mi boot_int (pa_cons (pe_ix ix_list (pv 3) (pv 6) (fun _ _ => rfl)) pa_nil)) pe_int) pa_nil)))
          (pss_one (ps_asg (pe_op op_fdiv (pe_ix ix_list (pv 3) (pv 6) (fun _ _ => rfl)) pe_int) (pg_sub (pv 3) (pv 6) set_list))))
          (pss_cons (ps_set (i := 7) scDraws.nd rfl (.inl rfl) (pe_op op_mod (pe_callTy call_int1 (by rfl) mi boot_int (pa_cons (pe_op op_add (pe_op op_add (pe_op op_mul (pe_ix ix_list (pv 2) (pv 6) (fun _ _ => rfl)) pe_int) (pe_op op_mul (pv 5) pe_int)) pe_int) pa_nil)) pe_int))
          (pss_one (ps_expr (pe_bm PySem.F.plainAttrs_list PySem.F.slot_list_append PySem.F.type_list_append mt_append (pv 4)
            (pa_cons (pe_op op_mod (pe_callTy call_int1 (by rfl) mi boot_int (pa_cons (pe_op op_add (pe_op op_add (pe_op op_mul (pv 7) (pv 7)) (pe_op op_mul pe_int (pv 7))) (pv 5)) pa_nil)) pe_int) pa_nil)))))))))
      (pss_cons (ps_expr (pe_bm0 PySem.F.plainAttrs_list PySem.F.slot_list_reverse PySem.F.type_list_reverse mt_reverse (pv 4)))
      (pss_one (ps_ret (pv 4)))))))), ?_⟩
    -- cells
    refine ⟨.ref a, rfl, a, rfl, ⟨_, hS⟩, fun C nC => lc_list (K := K) (a := a) (xs := ns.map V.int) (fun i H' => Same H H' ∧ ∃ zs : List Int, H' C = some (.lst (zs.map V.int)) ∧ zs.length = i)
      ⟨same_upd nC, [], upd_same, rfl⟩ (fun i H' _ h => h.1.seq hS) (fun i x H' hx hP => ?_) (fun H1 hP => ?_)⟩
    · obtain ⟨sm, zs, eC, ez⟩ := hP
      have hi : i < ns.length := by
        obtain ⟨h1, _⟩ := List.getElem?_eq_some_iff.mp hx
        rw [List.length_map] at h1
        exact h1
      have ex : x = .int ns[i] := by
        rw [List.getElem?_map, List.getElem?_eq_getElem hi] at hx
        exact (Option.some.inj hx).symm
      subst ex
      refine ⟨rfl, yesT ?_⟩
      refine ⟨.int ns[i], rfl, .inl ⟨_, rfl, zs.map V.int, eC, ?_, ?_⟩⟩
      · rw [List.length_map, ez]
        exact small1000 (by omega)
      · exact ⟨fun b o e => by rw [upd_ne (ne_of_none e nC)]; exact sm b o e, zs ++ [ns[i]], by rw [upd_same, List.map_append]; rfl, by rw [List.length_append, ez]; rfl⟩
    · obtain ⟨sm1, zs, eC, ez⟩ := hP
      rw [List.length_map] at ez
      -- not empty
      refine ⟨fun σ H2 => σ = [some (.ref a), some (.int m), some (.ref C), none, none, none, none, none, none] ∧ Same H H2 ∧ ∃ cs : List Int, H2 C = some (.lst (cs.map V.int)) ∧ 0 < cs.length ∧ cs.length ≤ 63, ?_, fun σ H2 hM => ?_⟩
      · refine ⟨.ref C, rfl, C, _, rfl, .inl (SqL.of eC), rfl, _, rfl, ite2 (fun z => ?_) (fun z => ?_)⟩
        · refine ⟨.ref C, rfl, .inl ⟨rfl, _, SqL.of eC⟩, C, _, _, rfl, rfl, eC, ?_, ?_⟩
          · rw [List.length_map]
            exact small1000 (by omega)
          · refine ⟨rfl, fun b o e => by rw [upd_ne (ne_of_none e nC)]; exact sm1 b o e, zs ++ [0], by rw [upd_same, List.map_append]; rfl, by rw [List.length_append]; exact Nat.succ_pos _, ?_⟩
            have e0 : zs.length = 0 := by
              have y := of_decide_eq_true z
              have y2 := V.int.inj y
              rw [List.length_map] at y2
              omega
            rw [List.length_append, e0]
            decide
        · refine ⟨rfl, sm1, zs, eC, ?_, by omega⟩
          rcases Nat.eq_zero_or_pos zs.length with y | y
          · exact absurd (by rw [List.length_map, y]; exact decide_eq_true rfl) z
          · exact y
      · obtain ⟨rfl, sm2, cs, eC2, c0, c1⟩ := hM
        -- rest, draws
        refine ⟨.ref C, rfl, C, _, rfl, .inl (SqL.of eC2), fun R nR => ⟨Nat.zero_le _, fun D nD => ?_⟩⟩
        have nCR : C ≠ R := ne_of_none eC2 nR
        have nDR : D ≠ R := fun z => by
          rw [z, upd_same] at nD
          cases nD
        have nCD : C ≠ D := ne_of_none (by rw [upd_ne nCR]; exact eC2) nD
        have nRH : H R = none := sm2.free nR
        have nDH : H D = none := sm2.free (by rw [upd_ne nDR] at nD; exact nD)
        have eCD : (upd (upd H2 R (.lst (cs.map V.int))) D (.lst [])) C = some (.lst (cs.map V.int)) := by
          rw [upd_ne nCD, upd_ne nCR]
          exact eC2
        refine ⟨.int m, rfl, m, rfl, by omega, by omega, for_range (n := m.toNat) (fun i σ H3 => ∃ y5 y6 y7, σ = [some (.ref a), some (.int m), some (.ref C), some (.ref R), some (.ref D), y5, y6, y7, none] ∧ Same H H3 ∧
            H3 C = some (.lst (cs.map V.int)) ∧ (∃ rs : List Int, H3 R = some (.lst (rs.map V.int)) ∧ rs.length = cs.length) ∧ ∃ ds : List Int, H3 D = some (.lst (ds.map V.int)) ∧ ds.length = i)
          ⟨none, none, none, rfl, Same.put (Same.put sm2 nRH) nDH, eCD, ⟨cs, by rw [upd_ne nDR.symm, upd_same], rfl⟩, [], by rw [upd_same]; rfl, rfl⟩ (fun i σ H3 hi hP => ?_) (fun σ H3 hP => ?_)⟩
        · obtain ⟨y5, y6, y7, rfl, sm3, eC3, ⟨rs, eR, hrs⟩, ds, eD, hds⟩ := hP
          have hc : (0 : Int) < ((cs.map V.int).length : Nat) := by
            rw [List.length_map]
            omega
          -- at
          refine ⟨.int (0 + (i : Int)), rfl, .ref C, rfl, C, _, rfl, .inl (SqL.of eC3), _, _, rfl, rfl, hc, ?_⟩
          have ha0 := Int.emod_nonneg (0 + (i : Int)) (show (((cs.map V.int).length : Nat) : Int) ≠ 0 by omega)
          have ha1 := Int.emod_lt_of_pos (0 + (i : Int)) hc
          dsimp only
          generalize (0 + (i : Int)) % (((cs.map V.int).length : Nat) : Int) = z at ha0 ha1 ⊢
          rw [List.length_map] at ha1
          obtain ⟨j, rfl⟩ := Int.eq_ofNat_of_zero_le ha0
          have hj : j < cs.length := by omega
          have hj2 : j < rs.length := by omega
          have gC : (cs.map V.int)[j]? = some (.int cs[j]) := by
            rw [List.getElem?_map, List.getElem?_eq_getElem hj]
            rfl
          have gR : (rs.map V.int)[j]? = some (.int rs[j]) := by
            rw [List.getElem?_map, List.getElem?_eq_getElem hj2]
            rfl
          have hz : (ds.map V.int).length < sizeLine := by
            rw [List.length_map, hds]
            exact Nat.lt_of_lt_of_le (show i < 2000 by omega) (by decide)
          have nRD : R ≠ D := nDR.symm
          refine ⟨.ref C, rfl, .int (j : Int), rfl, C, _, _, .int cs[j], rfl, rfl, SqL.of eC3, atI_nat gC, 10, 18, rfl, rfl, ⟨by decide, by decide, by decide⟩, _, _, rfl, rfl, _, rfl, ite2 (fun _ => ?_) (fun hlt => ?_)⟩
          · refine ⟨.ref D, rfl, .inl ⟨rfl, _, SqL.of eD⟩, .ref R, rfl, .int (j : Int), rfl, R, _, _, .int rs[j], rfl, rfl, SqL.of eR, atI_nat gR, .inl ⟨_, rfl, _, _, rfl, rfl, (by show (0 : Int) < 1000; decide), D, _, _, rfl, rfl, eD, hz, ?_⟩⟩
            have eR2 : (upd H3 D (.lst (ds.map V.int ++ [V.int (rs[j] % 1000)]))) R = some (.lst (rs.map V.int)) := by
              rw [upd_ne nRD]
              exact eR
            refine ⟨.ref R, rfl, .int (j : Int), rfl, R, _, _, .int rs[j], rfl, rfl, SqL.of eR2, atI_nat gR, _, _, rfl, rfl, ⟨by decide, by decide⟩, .ref R, rfl, .int (j : Int), rfl, R, _, _, j, rfl, rfl, eR2, ?_, ?_⟩
            · unfold ixN
              rw [if_pos (by omega), if_pos (by rw [List.length_map]; omega)]
              rfl
            · refine ⟨_, _, _, rfl, Same.put (Same.put sm3 nDH) nRH, ?_, ⟨rs.set j (rs[j] / 1000), ?_, by rw [List.length_set]; exact hrs⟩, ds ++ [rs[j] % 1000], ?_, by rw [List.length_append, hds]; rfl⟩
              · rw [upd_ne nCR, upd_ne nCD]
                exact eC3
              · rw [upd_same, List.map_set]
              · rw [upd_ne nDR, upd_same, List.map_append]
                rfl
          · refine ⟨.ref C, rfl, .int (j : Int), rfl, C, _, _, .int cs[j], rfl, rfl, SqL.of eC3, atI_nat gC, _, _, rfl, rfl, .inr ⟨by decide, by decide⟩, .int (0 + (i : Int)), rfl, _, _, rfl, rfl, .inr ⟨by decide, by decide⟩, _, _, rfl, rfl, _, _, rfl, rfl, .inl ⟨_, rfl, _, _, rfl, rfl, (by show (0 : Int) < 2147483647; decide), ?_⟩⟩
            have ho0 := Int.emod_nonneg (cs[j] * 48271 + (0 + (i : Int)) * 69621 + 11) (show (2147483647 : Int) ≠ 0 by decide)
            have ho1 := Int.emod_lt_of_pos (cs[j] * 48271 + (0 + (i : Int)) * 69621 + 11) (show (0 : Int) < 2147483647 by decide)
            dsimp only
            generalize (cs[j] * 48271 + (0 + (i : Int)) * 69621 + 11) % 2147483647 = o at ho0 ho1 ⊢
            refine ⟨.ref D, rfl, .inl ⟨rfl, _, SqL.of eD⟩, .int o, rfl, .int o, rfl, _, _, rfl, rfl, .inl ⟨by omega, by omega⟩, .int o, rfl, _, _, rfl, rfl, .inl ⟨by decide, by decide⟩, _, _, rfl, rfl, .int (0 + (i : Int)), rfl, _, _, rfl, rfl, .inl ⟨_, rfl, _, _, rfl, rfl, (by show (0 : Int) < 1000003; decide), D, _, _, rfl, rfl, eD, hz, ?_⟩⟩
            refine ⟨_, _, _, rfl, Same.put sm3 nDH, ?_, ⟨rs, ?_, hrs⟩, ds ++ [(o * o + 3 * o + (0 + (i : Int))) % 1000003], ?_, by rw [List.length_append, hds]; rfl⟩
            · rw [upd_ne nCD]
              exact eC3
            · rw [upd_ne nRD]
              exact eR
            · rw [upd_same, List.map_append]
              rfl
        · obtain ⟨y5, y6, y7, rfl, sm3, eC3, _, ds, eD, hds⟩ := hP
          refine ⟨.ref D, rfl, .inl ⟨rfl, _, SqL.of eD⟩, D, _, rfl, rfl, eD, .ref D, rfl, q _ D (Same.put sm3 nDH) nDH ⟨ds.reverse, by rw [upd_same, List.map_reverse], by rw [List.length_reverse]; omega⟩⟩
end

abbrev nCols : List Str := ["draws", "width", "share", "column"]
abbrev nScheme : List Str := ["draws", "many", "widths", "table"]
theorem scShuf : FnScope ["draws", "row", "found", "item"] ["draws", "row"] (defScope sShuf) := ⟨rfl, rfl, rfl, by decide +kernel, rfl, by decide +kernel, by decide +kernel⟩
theorem scCols : FnScope nCols ["draws", "width"] (defScope sCols) := ⟨rfl, rfl, rfl, by decide +kernel, rfl, by decide +kernel, by decide +kernel⟩
theorem scScheme : FnScope nScheme ["draws"] (defScope sScheme) := ⟨rfl, rfl, rfl, by decide +kernel, rfl, by decide +kernel, by decide +kernel⟩

/-- the readings, named (within a comprehension the context is another one, its written part the same) -/
abbrev rLenS (K : PySem.W.Frag) : List V → Hp → VK → Prop := fun xs H Q => ∃ p ys, xs = [.ref p] ∧ (SqL K H p ys ∨ SqT K H p ys) ∧ Q (.int ys.length) H
abbrev rTupOf (K : PySem.W.Frag) : List V → Hp → VK → Prop := fun xs H Q => ∃ p ys, xs = [.ref p] ∧ ((SqL K H p ys ∧ ∀ l, H l = none → Q (.ref l) (upd H l (.tup ys))) ∨ (SqT K H p ys ∧ Q (.ref p) H))
/-- what the helpers of a law stand on: the draw's def, and the built-ins by name -/
structure Hlp (K : PySem.W.Frag) (mg : Str → Option Value) (fT : Addr) (fdT : FuncData) : Prop where
  FT : Fun K "_law_take" "_law_take" sTake fT fdT
  bT : Binds K fdT ["draws", "many"] []
  gT : mg "_law_take" = some (.ref fT)
  len : mg "len" = none
  int : mg "int" = none
  range : mg "range" = none
  tuple : mg "tuple" = none
  list : mg "list" = none
  sorted : mg "sorted" = none
  min : mg "min" = none

section
variable {P : Program} {w : World} {K : PySem.W.Frag} {mg : Str → Option Value} {base : Heap}
theorem take_in {l : List Int} {H : Hp} {D : Addr} {i : Int} (e : H D = some (.lst (l.map V.int))) (h0 : 0 ≤ i) (h1 : i < (l.length : Int)) : ∃ (x : Int), x ∈ l ∧ atI (l.map V.int) i = some (.int x) := by
  have h2 : i.toNat < l.length := by omega
  refine ⟨l[i.toNat], List.getElem_mem h2, at_of (by omega : i = (i.toNat : Int)) ?_⟩
  rw [List.getElem?_map, List.getElem?_eq_getElem h2]
  rfl
/-! ### a set of columns -/
def Cols (w : Int) (cs : List Int) : Prop := cs.Pairwise (· < ·) ∧ (∀ c ∈ cs, 0 ≤ c ∧ c < w) ∧ (cs.length : Int) ≤ w
def spCols : Sp := fun vs H Q _ => ∃ (d : Addr) (n : Int), vs = [.ref d, .int n] ∧ 0 ≤ n ∧ n ≤ 20 ∧ Dr H d ∧
  ∀ H' p (cs : List Int), Go d H H' → H p = none → H' p = some (.tup (cs.map V.int)) → Cols n cs → Q (.ref p) H'
theorem ok_cols {f fT : Addr} {fd fdT : FuncData} (T : Hlp K mg fT fdT) (F : Fun K "_law_columns" "_law_columns" sCols f fd) : FnOk P w K mg base CX0 2 f fd ["draws", "width"] spCols := by
  have GT : FnOk P w K mg base CX0 1 fT fdT ["draws", "many"] spTake := ok_take T.FT T.len T.int
  refine F.ok scCols (fun vs H Q E h => ?_) (fun cdv A outer s H vs Q E hr h => ?_)
  · obtain ⟨d, n, rfl, _⟩ := h
    rfl
  · obtain ⟨d, n, rfl, h0, h1, D, q⟩ := h
    refine ⟨_, pss_cons (ps_set (i := 2) scCols.nd rfl (.inr rfl) (pe_ix ix_list (pe_lst (pa_cons pe_int (pa_cons pe_int (pa_cons pe_int pa_nil)))) (pe_call GT hr (by rfl) T.gT T.FT.kp T.bT .nil pass0 (pa_cons (pv 0) (pa_cons pe_int pa_nil))) (fun _ _ => rfl)))
      (pss_one (ps_ret (pe_callTy call_tuple_of (by rfl) T.tuple boot_tuple (pa_cons
        (pe_lc (own := [("column", 3)]) (g := gName 3) (by rfl) scCols.nd (pi_range1 rfl T.range (pa_cons (pv 1) pa_nil)) (blkOk_by (N := nCols) (sc := defScope sCols) (by decide +kernel))
          (fun _ _ _ _ _ => pg_name (i := 3) scCols.nd rfl (Or.inl rfl))
          (fun _ _ _ _ _ => pts_one (pt_cmpR op_lt (pe_call GT hr (by rfl) T.gT T.FT.kp T.bT .nil pass0 (pa_cons (pv 0) (pa_cons pe_int pa_nil))) (pv 2) (nomark _)))
          (fun _ _ _ _ _ => pv 3)) pa_nil)))), ?_⟩
    -- share
    refine ⟨by show 3 ≤ sizeLine; decide, fun l nl => ?_⟩
    have g1 : Go d H (upd H l (.lst [.int 2, .int 3, .int 4])) := (Go.refl D).new nl
    refine ⟨.ref d, rfl, d, 3, rfl, by decide, g1.dr, fun H2 z g2 z0 z1 => ?_⟩
    have el : H2 l = some (.lst (([2, 3, 4] : List Int).map V.int)) := g2.keep (by rw [upd_same]; rfl) (D.ne nl).symm
    obtain ⟨sh, _, es⟩ := take_in el z0 (by exact z1)
    refine ⟨l, _, z, .int sh, rfl, rfl, SqL.of el, es, ?_⟩
    have g12 := g1.trans g2
    -- the comprehension
    refine ⟨.int n, rfl, n, rfl, by omega, by omega, fun C nC => lc_range (lo := 0) (n := n.toNat) (fun i H3 => Go d H H3 ∧ ∃ cs : List Int, H3 C = some (.lst (cs.map V.int)) ∧ Cols i cs)
      ⟨g12.new nC, [], by rw [upd_same]; rfl, .nil, fun c hc => (by cases hc), (by simp)⟩ (fun i H3 hi hP => ?_) (fun H3 hP => ?_)⟩
    · obtain ⟨g3, cs, eC, hc⟩ := hP
      have nCd : C ≠ d := (g12.dr.ne nC).symm
      have nCH : H C = none := g12.free nC
      refine ⟨rfl, .ref d, rfl, d, 6, rfl, by decide, g3.dr, fun H4 z g4 z0 z1 => ?_⟩
      have eC4 : H4 C = some (.lst (cs.map V.int)) := g4.keep eC nCd
      refine ⟨.int sh, rfl, _, _, rfl, rfl, _, rfl, ite2 (fun _ => ?_) (fun _ => ?_)⟩
      · refine ⟨.int (0 + (i : Int)), rfl, cs.map V.int, eC4, ?_, (g3.trans g4).put nCH nCd.symm, cs ++ [0 + (i : Int)], by rw [upd_same, List.map_append]; rfl, ?_⟩
        · rw [List.length_map]
          exact small1000 (by have := hc.2.2; omega)
        · refine ⟨List.pairwise_append.mpr ⟨hc.1, List.pairwise_singleton .., fun x hx y hy => ?_⟩, fun c h => ?_, ?_⟩
          · rw [List.mem_singleton.mp hy]
            have := hc.2.1 x hx
            omega
          · rcases List.mem_append.mp h with h | h
            · have := hc.2.1 c h
              omega
            · rw [List.mem_singleton.mp h]
              omega
          · rw [List.length_append]
            have := hc.2.2
            show ((cs.length + 1 : Nat) : Int) ≤ _
            omega
      · exact ⟨g3.trans g4, cs, eC4, hc.1, fun c h => by have := hc.2.1 c h; omega, by have := hc.2.2; omega⟩
    · obtain ⟨g3, cs, eC, hc⟩ := hP
      refine ⟨C, _, rfl, .inl ⟨SqL.of eC, fun p np => ?_⟩⟩
      have en : ((n.toNat : Nat) : Int) = n := by omega
      rw [en] at hc
      exact q _ p cs (g3.new np) (g3.free np) upd_same hc
/-! ### a scheme -/
def Widths (b : Int) (ws : List Int) : Prop := 1 ≤ ws.length ∧ ws.length ≤ 12 ∧ ∀ x ∈ ws, 1 ≤ x ∧ x ≤ b
def spScheme : Sp := fun vs H Q _ => ∃ (d : Addr), vs = [.ref d] ∧ Dr H d ∧
  ∀ H' p (ws : List Int), Go d H H' → H p = none → H' p = some (.tup (ws.map V.int)) → Widths 7 ws → ws.length ≤ 6 → Q (.ref p) H'
theorem ok_scheme {f fT : Addr} {fd fdT : FuncData} (T : Hlp K mg fT fdT) (F : Fun K "_law_scheme" "_law_scheme" sScheme f fd) : FnOk P w K mg base CX0 2 f fd ["draws"] spScheme := by
  have GT : FnOk P w K mg base CX0 1 fT fdT ["draws", "many"] spTake := ok_take T.FT T.len T.int
  refine F.ok scScheme (fun vs H Q E h => ?_) (fun cdv A outer s H vs Q E hr h => ?_)
  · obtain ⟨d, rfl, _⟩ := h
    rfl
  · obtain ⟨d, rfl, D, q⟩ := h
    refine ⟨_, pss_cons (ps_set (i := 1) scScheme.nd rfl (.inl rfl) (pe_ix ix_list (pe_lst (pa_cons pe_int (pa_cons pe_int (pa_cons pe_int (pa_cons pe_int pa_nil))))) (pe_call GT hr (by rfl) T.gT T.FT.kp T.bT .nil pass0 (pa_cons (pv 0) (pa_cons pe_int pa_nil))) (fun _ _ => rfl)))
      (pss_cons (ps_set (i := 2) scScheme.nd rfl (.inr rfl) (pe_lst (pa_cons pe_int (pa_cons pe_int (pa_cons pe_int (pa_cons pe_int (pa_cons pe_int (pa_cons pe_int pa_nil))))))))
      (C8.pss_cut (ps_if (pt_cmpR op_eq (pe_call GT hr (by rfl) T.gT T.FT.kp T.bT .nil pass0 (pa_cons (pv 0) (pa_cons pe_int pa_nil))) pe_int (nomark _))
          (pss_cons (ps_set (i := 1) scScheme.nd rfl (.inl rfl) pe_int) (pss_one (ps_set (i := 2) scScheme.nd rfl (.inr rfl) (pe_lst (pa_cons pe_int (pa_cons pe_int (pa_cons pe_int (pa_cons pe_int (pa_cons pe_int (pa_cons pe_int pa_nil)))))))))) pss_nil)
      (pss_one (ps_ret (pe_callTy call_tuple_of (by rfl) T.tuple boot_tuple (pa_cons
        (pe_lc (own := [("table", 3)]) (g := gName 3) (by rfl) scScheme.nd (pi_range1 rfl T.range (pa_cons (pv 1) pa_nil)) (blkOk_by (N := nScheme) (sc := defScope sScheme) (by decide +kernel))
          (fun _ _ _ _ _ => pg_name (i := 3) scScheme.nd rfl (Or.inl rfl)) (fun _ _ _ _ _ => pts_nil)
          (fun _ _ _ _ _ => pe_ix (r := rIxL K) ix_list (pv 2) (pe_call GT hr (by rfl) T.gT T.FT.kp T.bT .nil pass0 (pa_cons (pv 0) (pa_cons pe_int pa_nil))) (fun _ _ => rfl))) pa_nil)))))), ?_⟩
    -- many
    refine ⟨by show 4 ≤ sizeLine; decide, fun l nl => ?_⟩
    have g1 : Go d H (upd H l (.lst [.int 1, .int 2, .int 2, .int 3])) := (Go.refl D).new nl
    refine ⟨.ref d, rfl, d, 4, rfl, by decide, g1.dr, fun H2 z g2 z0 z1 => ?_⟩
    have el : H2 l = some (.lst (([1, 2, 2, 3] : List Int).map V.int)) := g2.keep (by rw [upd_same]; rfl) (D.ne nl).symm
    obtain ⟨m, hm, es⟩ := take_in el z0 (by exact z1)
    refine ⟨l, _, z, .int m, rfl, rfl, SqL.of el, es, ?_⟩
    have g12 := g1.trans g2
    have hm2 : 1 ≤ m ∧ m ≤ 6 := (show ∀ m ∈ ([1, 2, 2, 3] : List Int), 1 ≤ m ∧ m ≤ 6 by decide) m hm
    -- widths
    refine ⟨by show 6 ≤ sizeLine; decide, fun W nW => ?_⟩
    have g3 := g12.new (o := .lst (([3, 2, 4, 3, 1, 3] : List Int).map V.int)) nW
    refine ⟨fun σ H4 => ∃ (m : Int) (W : Addr) (ws : List Int), σ = [some (.ref d), some (.int m), some (.ref W), none] ∧ 1 ≤ m ∧ m ≤ 6 ∧ Go d H H4 ∧ H4 W = some (.lst (ws.map V.int)) ∧ W ≠ d ∧ ws.length = 6 ∧ ∀ x ∈ ws, 1 ≤ x ∧ x ≤ 7, ?_, fun σ H4 hM => ?_⟩
    · refine ⟨.ref d, rfl, d, 12, rfl, by decide, g3.dr, fun H4 z g4 _ _ => ⟨rfl, _, rfl, ite2 (fun _ => ?_) (fun _ => ?_)⟩⟩
      · refine ⟨by show 6 ≤ sizeLine; decide, fun W2 nW2 => ?_⟩
        have g34 := g3.trans g4
        refine ⟨6, W2, [7, 5, 3, 1, 2, 6], rfl, by decide, by decide, g34.new nW2, by rw [upd_same]; rfl, (g34.dr.ne nW2).symm, rfl, by decide⟩
      · exact ⟨m, W, [3, 2, 4, 3, 1, 3], rfl, hm2.1, hm2.2, g3.trans g4, g4.keep (by rw [upd_same]; rfl) (g12.dr.ne nW).symm, (g12.dr.ne nW).symm, rfl, by decide⟩
    · obtain ⟨m, W, ws, rfl, m0, m1, g5, eW, nWd, hl, hw⟩ := hM
      refine ⟨.int m, rfl, m, rfl, by omega, by omega, fun C nC => lc_range (lo := 0) (n := m.toNat) (fun i H3 => Go d H H3 ∧ H3 W = some (.lst (ws.map V.int)) ∧ ∃ xs : List Int, H3 C = some (.lst (xs.map V.int)) ∧ xs.length = i ∧ ∀ x ∈ xs, 1 ≤ x ∧ x ≤ 7)
        ⟨g5.new nC, by rw [upd_ne (ne_of_none eW nC)]; exact eW, [], by rw [upd_same]; rfl, rfl, fun c hc => (by cases hc)⟩ (fun i H3 hi hP => ?_) (fun H3 hP => ?_)⟩
      · obtain ⟨g6, eW3, xs, eC, hx, hb⟩ := hP
        have nCd : C ≠ d := (g5.dr.ne nC).symm
        refine ⟨rfl, yesT ?_⟩
        refine ⟨.ref W, rfl, .ref d, rfl, d, 6, rfl, by decide, g6.dr, fun H4 z g4 z0 z1 => ?_⟩
        have eW4 := g4.keep eW3 nWd
        obtain ⟨y, hy, es⟩ := take_in eW4 z0 (by rw [hl]; exact z1)
        have eC4 := g4.keep eC nCd
        refine ⟨W, _, z, .int y, rfl, rfl, SqL.of eW4, es, xs.map V.int, eC4, ?_, (g6.trans g4).put (g5.free nC) nCd.symm, ?_, xs ++ [y], by rw [upd_same, List.map_append]; rfl, by rw [List.length_append, hx]; rfl, fun c h => ?_⟩
        · rw [List.length_map]
          exact small1000 (by omega)
        · rw [upd_ne (ne_of_none eW nC)]
          exact eW4
        · rcases List.mem_append.mp h with h | h
          · exact hb c h
          · rw [List.mem_singleton.mp h]
            exact hw y hy
      · obtain ⟨g6, _, xs, eC, hx, hb⟩ := hP
        exact ⟨C, _, rfl, .inl ⟨SqL.of eC, fun p np => q _ p xs (g6.new np) (g6.free np) upd_same ⟨by omega, by omega, hb⟩ (by omega)⟩⟩

end
end NK

namespace NK
open PySem PySem.Spec PyProof.Rows L2
abbrev nWide : List Str := ["draws", "cell", "many", "base", "k"]
abbrev nRows : List Str := ["draws", "width", "most", "wide", "rows", "k", "column"]
abbrev nStore : List Str := ["draws", "scheme", "most", "wide", "width"]
theorem scWide : FnScope nWide ["draws", "cell"] (defScope sWide) := ⟨rfl, rfl, rfl, by decide +kernel, rfl, by decide +kernel, by decide +kernel⟩
theorem scRows : FnScope nRows ["draws", "width", "most", "wide"] (defScope sRows) := ⟨rfl, rfl, rfl, by decide +kernel, rfl, by decide +kernel, by decide +kernel⟩
theorem scStore : FnScope nStore ["draws", "scheme", "most", "wide"] (defScope sStore) := ⟨rfl, rfl, rfl, by decide +kernel, rfl, by decide +kernel, by decide +kernel⟩
theorem take_len {α : Type} {l : List α} {m : Nat} (h1 : 1 ≤ m) (h2 : l ≠ []) : 1 ≤ (l.take m).length := by
  rw [List.length_take]
  have : 1 ≤ l.length := by
    cases l with
    | nil => exact absurd rfl h2
    | cons x r => exact Nat.succ_le_succ (Nat.zero_le _)
  omega
theorem cutTake (xs : List V) (m : Nat) : cutV xs none (some (m : Int)) = xs.take m := by
  unfold cutV
  rw [HT.sIx_none, HT.sIx_nat, List.drop_zero, Nat.sub_zero]
  by_cases h : m ≤ xs.length
  · rw [Nat.min_eq_left h]
  · rw [Nat.min_eq_right (by omega), List.take_length, List.take_of_length_le (by omega)]
theorem sub_len {α : Type} [DecidableEq α] : ∀ {l m : List α}, l.Nodup → (∀ x ∈ l, x ∈ m) → l.length ≤ m.length
  | [], _, _, _ => Nat.zero_le _
  | x :: l, m, hn, h => by
    obtain ⟨h1, h2⟩ := List.nodup_cons.mp hn
    have hx := h x (List.mem_cons_self ..)
    have ih := sub_len (l := l) (m := m.erase x) h2 fun y hy => (List.mem_erase_of_ne (fun e => h1 (by rw [← e]; exact hy))).mpr (h y (List.mem_cons_of_mem _ hy))
    rw [List.length_erase_of_mem hx] at ih
    have : 0 < m.length := List.length_pos_of_mem hx
    show l.length + 1 ≤ m.length
    omega
theorem asc_nodup {M : List (Addr × List Int)} (h : M.Pairwise fun q r => q.2 < r.2) : M.Nodup := List.Pairwise.imp (S := fun a b => a ≠ b) (fun {a b} hlt e => row_lt_irrefl b.2 (by rw [e] at hlt; exact hlt)) h
section
variable {P : Program} {w : World} {K : PySem.W.Frag} {mg : Str → Option Value} {base : Heap}
/-! ### some values -/
def spWide : Sp := fun vs H Q _ => ∃ (d : Addr) (c : Int), vs = [.ref d, .int c] ∧ Dr H d ∧ ∀ H' p (ws : List Int), Go d H H' → H p = none → H' p = some (.lst (ws.map V.int)) → 1 ≤ ws.length → ws.length ≤ 5 → Q (.ref p) H'
theorem ok_wide {f fT : Addr} {fd fdT : FuncData} (T : Hlp K mg fT fdT) (F : Fun K "_law_wide" "_law_wide" sWide f fd) : FnOk P w K mg base CX0 2 f fd ["draws", "cell"] spWide := by
  have GT : FnOk P w K mg base CX0 1 fT fdT ["draws", "many"] spTake := ok_take T.FT T.len T.int
  refine F.ok scWide (fun vs H Q E h => ?_) (fun cdv A outer s H vs Q E hr h => ?_)
  · obtain ⟨d, c, rfl, _⟩ := h
    rfl
  · obtain ⟨d, c, rfl, D, q⟩ := h
    refine ⟨_, pss_cons (ps_set (i := 2) scWide.nd rfl (.inl rfl) (pe_ix ix_list (pe_lst (pa_cons pe_int (pa_cons pe_int (pa_cons pe_int (pa_cons pe_int pa_nil))))) (pe_call GT hr (by rfl) T.gT T.FT.kp T.bT .nil pass0 (pa_cons (pv 0) (pa_cons pe_int pa_nil))) (fun _ _ => rfl)))
      (pss_cons (ps_set (i := 3) scWide.nd rfl (.inr rfl) (pe_ix ix_list (pe_lst (pa_cons pe_int (pa_cons pe_int (pa_cons (pe_un un_neg pe_int) (pa_cons (pv 1) pa_nil))))) (pe_call GT hr (by rfl) T.gT T.FT.kp T.bT .nil pass0 (pa_cons (pv 0) (pa_cons pe_int pa_nil))) (fun _ _ => rfl)))
      (pss_cons (ps_if (pt_cmpR op_eq (pe_call GT hr (by rfl) T.gT T.FT.kp T.bT .nil pass0 (pa_cons (pv 0) (pa_cons pe_int pa_nil))) pe_int (nomark _))
          (pss_one (ps_ret (pe_slice sl_list (pe_lst (pa_cons pe_int (pa_cons pe_int (pa_cons pe_int (pa_cons pe_int (pa_cons (pv 3) pa_nil)))))) po_none (po_some (pv 2))))) pss_nil)
      (pss_one (ps_ret (pe_lc (own := [("k", 4)]) (g := gName 4) (by rfl) scWide.nd (pi_range1 rfl T.range (pa_cons (pv 2) pa_nil)) (blkOk_by (N := nWide) (sc := defScope sWide) (by decide +kernel))
          (fun _ _ _ _ _ => pg_name (i := 4) scWide.nd rfl (Or.inl rfl)) (fun _ _ _ _ _ => pts_nil) (fun _ _ _ _ _ => pe_op op_add (pv 3) (pv 4))))))), ?_⟩
    refine ⟨by show 4 ≤ sizeLine; decide, fun l nl => ?_⟩
    have g1 : Go d H (upd H l (.lst [.int 2, .int 2, .int 3, .int 5])) := (Go.refl D).new nl
    refine ⟨.ref d, rfl, d, 4, rfl, by decide, g1.dr, fun H2 z g2 z0 z1 => ?_⟩
    have el : H2 l = some (.lst (([2, 2, 3, 5] : List Int).map V.int)) := g2.keep (by rw [upd_same]; rfl) (D.ne nl).symm
    obtain ⟨m, hm, es⟩ := take_in el z0 (by exact z1)
    have hm2 : 2 ≤ m ∧ m ≤ 5 := (show ∀ m ∈ ([2, 2, 3, 5] : List Int), 2 ≤ m ∧ m ≤ 5 by decide) m hm
    refine ⟨l, _, z, .int m, rfl, rfl, SqL.of el, es, ?_⟩
    have g12 := g1.trans g2
    refine ⟨2, rfl, .int c, rfl, by show 4 ≤ sizeLine; decide, fun l2 nl2 => ?_⟩
    have g3 : Go d H (upd H2 l2 (.lst [.int 0, .int 0, .int (-2), .int c])) := g12.new nl2
    refine ⟨.ref d, rfl, d, 4, rfl, by decide, g3.dr, fun H4 z2 g4 y0 y1 => ?_⟩
    have el2 : H4 l2 = some (.lst (([0, 0, -2, c] : List Int).map V.int)) := g4.keep (by rw [upd_same]; rfl) (g12.dr.ne nl2).symm
    obtain ⟨b, hb, es2⟩ := take_in el2 y0 (by exact y1)
    refine ⟨l2, _, z2, .int b, rfl, rfl, SqL.of el2, es2, ?_⟩
    have g14 := g3.trans g4
    obtain ⟨M, rfl⟩ := Int.eq_ofNat_of_zero_le (show 0 ≤ m by omega)
    refine ⟨.ref d, rfl, d, 5, rfl, by decide, g14.dr, fun H5 z5 g5 _ _ => ⟨rfl, _, rfl, ite2 (fun _ => ?_) (fun _ => ?_)⟩⟩
    · have g15 := g14.trans g5
      refine ⟨.int b, rfl, by show 5 ≤ sizeLine; decide, fun l3 nl3 => ⟨.int (M : Int), rfl, (M : Int), rfl, l3, _, rfl, SqL.of upd_same, fun p np => ?_⟩⟩
      rw [cutTake]
      refine q _ p (([0, 11, 1, 111, b] : List Int).take M) ((g15.new nl3).new np) ((g15.new nl3).free np) ?_ (take_len (by omega) (by simp)) (by rw [List.length_take]; omega)
      rw [upd_same, List.map_take]
      rfl
    · have g15 := g14.trans g5
      refine ⟨.int (M : Int), rfl, (M : Int), rfl, by omega, by omega, fun C nC => lc_range (lo := 0) (n := ((M : Int)).toNat) (fun i H6 => Go d H H6 ∧ ∃ ws : List Int, H6 C = some (.lst (ws.map V.int)) ∧ ws.length = i)
        ⟨g15.new nC, [], by rw [upd_same]; rfl, rfl⟩ (fun i H6 hi hP => ?_) (fun H6 hP => ?_)⟩
      · obtain ⟨g6, ws, eC, hl⟩ := hP
        refine ⟨rfl, yesT ⟨.int b, rfl, .int (0 + (i : Int)), rfl, _, _, rfl, rfl, _, eC, ?_, g6.put (g15.free nC) (g15.dr.ne nC), ws ++ [b + (0 + (i : Int))], ?_, by rw [List.length_append, hl]; rfl⟩⟩
        · rw [List.length_map, hl]
          exact small1000 (by omega)
        · rw [upd_same, List.map_append]
          rfl
      · obtain ⟨g6, ws, eC, hl⟩ := hP
        exact q _ C ws g6 (g15.free nC) eC (by omega) (by omega)

/-! ### rows -/
def spRows (K : PySem.W.Frag) : Sp := fun vs H Q _ => ∃ (d W : Addr) (n m : Int) (ws : List Int), vs = [.ref d, .int n, .int m, .ref W] ∧ 1 ≤ n ∧ n ≤ 13 ∧ 0 ≤ m ∧ m ≤ 20 ∧ H W = some (.lst (ws.map V.int)) ∧ 1 ≤ ws.length ∧ W ≠ d ∧ Dr H d ∧
  ∀ H' p (R : List (List Int)), Go d H H' → H p = none → Im K H' (.ref p) (rowsD R) → Tab n R → R.length ≤ 20 → Q (.ref p) H'
theorem ok_rows {f fT : Addr} {fd fdT : FuncData} (T : Hlp K mg fT fdT) (mset : mg "set" = none) (F : Fun K "_law_rows" "_law_rows" sRows f fd) : FnOk P w K mg base CX0 2 f fd ["draws", "width", "most", "wide"] (spRows K) := by
  have GT : FnOk P w K mg base CX0 1 fT fdT ["draws", "many"] spTake := ok_take T.FT T.len T.int
  refine F.ok scRows (fun vs H Q E h => ?_) (fun cdv A outer s H vs Q E hr h => ?_)
  · obtain ⟨d, W, n, m, ws, rfl, _⟩ := h
    rfl
  · obtain ⟨d, W, n, m, ws, rfl, n0, n1, m0, m1, eW, w1, nWd, D, q⟩ := h
    refine ⟨_, pss_cons (ps_set (i := 4) scRows.nd rfl (.inl rfl) (pe_lst pa_nil))
      (pss_cons (ps_for PassesOwn.never rfl (pi_range1 rfl T.range (pa_cons (pe_call GT hr (by rfl) T.gT T.FT.kp T.bT .nil pass0 (pa_cons (pv 0) (pa_cons (pe_op op_add (pv 2) pe_int) pa_nil))) pa_nil)) (pg_name (i := 5) scRows.nd rfl (.inl rfl))
        (pss_one (ps_expr (pe_bm PySem.F.plainAttrs_list PySem.F.slot_list_append PySem.F.type_list_append mt_append (pv 4) (pa_cons (pe_callTy call_tuple_of (by rfl) T.tuple boot_tuple (pa_cons
          (pe_lc (own := [("column", 6)]) (g := gName 6) (by rfl) scRows.nd (pi_range1 rfl T.range (pa_cons (pv 1) pa_nil)) (blkOk_by (N := nRows) (sc := defScope sRows) (by decide +kernel))
            (fun _ _ _ _ _ => pg_name (i := 6) scRows.nd rfl (Or.inl rfl)) (fun _ _ _ _ _ => pts_nil)
            (fun _ _ _ _ _ => pe_ix (r := rIxL K) ix_list (pv 3) (pe_call GT hr (by rfl) T.gT T.FT.kp T.bT .nil pass0 (pa_cons (pv 0) (pa_cons (pe_callB (r := rLenS K) call_len_seq (by rfl) T.len PySem.boot_len (pa_cons (pv 3) pa_nil)) pa_nil))) (fun _ _ => rfl))) pa_nil)) pa_nil)))))
      (pss_one (ps_ret (pe_callTy call_tuple_of (by rfl) T.tuple boot_tuple (pa_cons (pe_callB (NR.cr_srtI rfl hr.units) (by rfl) T.sorted boot_sorted (pa_cons (pe_callTy (NR.cr_setR rfl hr.units) (by rfl) mset (by decide +kernel) (pa_cons (pv 4) pa_nil)) pa_nil)) pa_nil))))), ?_⟩
    refine ⟨Nat.zero_le _, fun p np => ?_⟩
    have g1 : Go d H (upd H p (.lst [])) := (Go.refl D).new np
    have npd : p ≠ d := (D.ne np).symm
    have npW : W ≠ p := ne_of_none eW np
    refine ⟨.ref d, rfl, .int m, rfl, _, _, rfl, rfl, d, _, rfl, by omega, g1.dr, fun H2 z g2 z0 z1 => ?_⟩
    have g12 := g1.trans g2
    refine ⟨z, rfl, by omega, by omega, for_range (lo := 0) (n := z.toNat) (fun i σ H3 => ∃ y5 y6, σ = [some (.ref d), some (.int n), some (.int m), some (.ref W), some (.ref p), y5, y6] ∧ Go d H H3 ∧ H3 W = some (.lst (ws.map V.int)) ∧
        ∃ ks : List (Addr × List Int), H3 p = some (.lst (ks.map fun k => V.ref k.1)) ∧ ks.length = i ∧ ∀ k ∈ ks, H3 k.1 = some (.tup (k.2.map V.int)) ∧ (k.2.length : Int) = n)
      ⟨none, none, rfl, g12, g2.keep (by rw [upd_ne npW]; exact eW) nWd, [], g2.keep (by rw [upd_same]; rfl) npd, rfl, fun k hk => (by cases hk)⟩ (fun i σ H3 hi hP => ?_) (fun σ H3 hP => ?_)⟩
    · obtain ⟨y5, y6, rfl, g3, eW3, ks, ep, hkl, hks⟩ := hP
      refine ⟨.ref p, rfl, .inl ⟨rfl, _, SqL.of ep⟩, .int n, rfl, n, rfl, by omega, by omega, fun C nC => lc_range (lo := 0) (n := n.toNat) (fun j H4 => Go d H3 H4 ∧ ∃ xs : List Int, H4 C = some (.lst (xs.map V.int)) ∧ xs.length = j)
        ⟨(Go.refl g3.dr).new nC, [], by rw [upd_same]; rfl, rfl⟩ (fun j H4 hj hP => ?_) (fun H4 hP => ?_)⟩
      · obtain ⟨g4, xs, eC, hxl⟩ := hP
        have eW4 := g4.keep eW3 nWd
        have nCd : C ≠ d := (g3.dr.ne nC).symm
        refine ⟨rfl, yesT ⟨.ref W, rfl, .ref d, rfl, .ref W, rfl, W, _, rfl, .inl (SqL.of eW4), d, _, rfl, by rw [List.length_map]; omega, g4.dr, fun H5 c g5 c0 c1 => ?_⟩⟩
        rw [List.length_map] at c1
        have eW5 := g5.keep eW4 nWd
        obtain ⟨x, hx, es⟩ := take_in eW5 c0 c1
        refine ⟨W, _, c, .int x, rfl, rfl, SqL.of eW5, es, _, g5.keep eC nCd, ?_, (g4.trans g5).put nC nCd.symm, xs ++ [x], ?_, by rw [List.length_append, hxl]; rfl⟩
        · rw [List.length_map, hxl]
          exact small1000 (by omega)
        · rw [upd_same, List.map_append]
          rfl
      · obtain ⟨g4, xs, eC, hxl⟩ := hP
        refine ⟨C, _, rfl, .inl ⟨SqL.of eC, fun t nt => ?_⟩⟩
        have ep4 := g4.keep ep npd
        have g4t := g4.new (o := HO.tup (xs.map V.int)) nt
        have ept : (upd H4 t (.tup (xs.map V.int))) p = some (.lst (ks.map fun k => V.ref k.1)) := by
          rw [upd_ne (ne_of_none ep4 nt)]
          exact ep4
        refine ⟨p, _, _, rfl, rfl, ept, ?_, ?_⟩
        · rw [List.length_map, hkl]
          exact small1000 (by omega)
        · have eWt : (upd H4 t (.tup (xs.map V.int))) W = some (.lst (ws.map V.int)) := by
            have e := g4.keep eW3 nWd
            rw [upd_ne (ne_of_none e nt)]
            exact e
          refine ⟨_, _, rfl, (g3.trans g4t).put np npd.symm, by rw [upd_ne npW]; exact eWt, ks ++ [(t, xs)], ?_, by rw [List.length_append, hkl]; rfl, fun k hk => ?_⟩
          · rw [upd_same, List.map_append]
            rfl
          · rcases List.mem_append.mp hk with hk | hk
            · exact ⟨tup_put ept (fun ys e => by cases e) (g4t.keepT g3.dr (hks k hk).1), (hks k hk).2⟩
            · rw [List.mem_singleton.mp hk]
              exact ⟨tup_put ept (fun ys e => by cases e) upd_same, by show ((xs.length : Nat) : Int) = n; omega⟩
    · obtain ⟨y5, y6, rfl, g3, eW3, ks, ep, hkl, hks⟩ := hP
      refine ⟨.ref p, rfl, p, ks, rfl, .inl (SqL.of ep), fun k hk => SqT.of (hks k hk).1, by omega, fun a L na hsub hcov => ?_⟩
      have sa := same_upd (o := SetTO P w a L) na
      refine ⟨a, L, rfl, upd_same, fun k hk => SqT.of (sa _ _ (hks k (hsub k hk)).1), fun k hk e => ?_, fun M b pm asc nb => ⟨b, _, rfl, .inl ⟨SqL.of upd_same, fun t nt => ?_⟩⟩⟩
      · have := (hks k (hsub k hk)).2
        rw [e] at this
        have e2 : (0 : Int) = n := this
        omega
      · have sb := sa.trans (same_upd (o := HO.lst (M.map fun k => V.ref k.1)) nb)
        have st := sb.trans (same_upd (o := HO.tup (M.map fun k => V.ref k.1)) nt)
        have hM : ∀ k ∈ M, k ∈ ks := fun k hk => hsub k (pm.mem_iff.mp hk)
        refine q _ t (M.map (·.2)) (((g3.new na).new nb).new nt) (((g3.new na).new nb).free nt) (.tup upd_same (ImAll.rows M fun k hk => st _ _ (hks k (hM k hk)).1)) ⟨List.pairwise_map.mpr asc, fun r hr => ?_⟩ ?_
        · obtain ⟨k, hk, rfl⟩ := List.mem_map.mp hr
          exact (hks k (hM k hk)).2
        · rw [List.length_map]
          have := sub_len (asc_nodup asc) hM
          omega

/-! ### a store -/
structure Sto (ws : List Int) (b : Nat) (S : List (List (List Int))) : Prop where
  len : S.length = ws.length
  tab : ∀ (i : Nat) (n : Int) (R : List (List Int)), ws[i]? = some n → S[i]? = some R → Tab n R ∧ R.length ≤ b
def spStore (K : PySem.W.Frag) : Sp := fun vs H Q _ => ∃ (d s W : Addr) (m : Int) (sw ws : List Int), vs = [.ref d, .ref s, .int m, .ref W] ∧ H s = some (.tup (sw.map V.int)) ∧ Widths 13 sw ∧ 0 ≤ m ∧ m ≤ 20 ∧ H W = some (.lst (ws.map V.int)) ∧ 1 ≤ ws.length ∧ W ≠ d ∧ Dr H d ∧
  ∀ H' p (S : List (List (List Int))), Go d H H' → H p = none → Im K H' (.ref p) (storeD S) → Sto sw 20 S → Q (.ref p) H'
theorem ok_store {f fT fR : Addr} {fd fdT fdR : FuncData} (T : Hlp K mg fT fdT) (mset : mg "set" = none) (F : Fun K "_law_store" "_law_store" sStore f fd) (FR : Fun K "_law_rows" "_law_rows" sRows fR fdR) (bR : Binds K fdR ["draws", "width", "most", "wide"] []) (gR : mg "_law_rows" = some (.ref fR)) :
    FnOk P w K mg base CX0 3 f fd ["draws", "scheme", "most", "wide"] (spStore K) := by
  have GR : FnOk P w K mg base CX0 2 fR fdR ["draws", "width", "most", "wide"] (spRows K) := ok_rows T mset FR
  refine F.ok scStore (fun vs H Q E h => ?_) (fun cdv A outer s H vs Q E hr h => ?_)
  · obtain ⟨d, s, W, m, sw, ws, rfl, _⟩ := h
    rfl
  · obtain ⟨d, sc, W, m, sw, ws, rfl, es, hsw, m0, m1, eW, w1, nWd, D, q⟩ := h
    refine ⟨_, pss_one (ps_ret (pe_callTy call_tuple_of (by rfl) T.tuple boot_tuple (pa_cons
        (pe_lc (own := [("width", 4)]) (g := gName 4) (by rfl) scStore.nd (pi_tup (pv 1)) (blkOk_by (N := nStore) (sc := defScope sStore) (by decide +kernel))
          (fun _ _ _ _ _ => pg_name (i := 4) scStore.nd rfl (Or.inl rfl)) (fun _ _ _ _ _ => pts_nil)
          (fun _ _ _ _ _ => pe_call GR hr (by rfl) gR FR.kp bR .nil pass0 (pa_cons (pv 0) (pa_cons (pv 4) (pa_cons (pv 2) (pa_cons (pv 3) pa_nil)))))) pa_nil))), ?_⟩
    refine ⟨.ref sc, rfl, sc, rfl, ⟨_, SqT.of es⟩, fun C nC => lc_tup (K := K) (a := sc) (xs := sw.map V.int) (fun i H3 => Go d H H3 ∧ ∃ (acc : List V) (S : List (List (List Int))), H3 C = some (.lst acc) ∧ ImAll K H3 acc (S.map rowsD) ∧ Sto (sw.take i) 20 S)
      ⟨(Go.refl D).new nC, [], [], upd_same, .nil, rfl, fun i n R h1 h2 => (by simp at h2)⟩ (fun i H3 _ h => SqT.of (h.1.keepT D es)) (fun i x H3 hx hP => ?_) (fun H3 hP => ?_)⟩
    · obtain ⟨g3, acc, S, eC, im, hS⟩ := hP
      have hi : i < sw.length := by
        obtain ⟨h1, _⟩ := List.getElem?_eq_some_iff.mp hx
        rw [List.length_map] at h1
        exact h1
      have ex : x = .int sw[i] := by
        rw [List.getElem?_map, List.getElem?_eq_getElem hi] at hx
        exact (Option.some.inj hx).symm
      subst ex
      have nCd : C ≠ d := (D.ne nC).symm
      have hwi := hsw.2.2 sw[i] (List.getElem_mem hi)
      refine ⟨rfl, yesT ⟨.ref d, rfl, .int sw[i], rfl, .int m, rfl, .ref W, rfl, d, W, sw[i], m, ws, rfl, hwi.1, hwi.2, m0, m1, g3.keep eW nWd, w1, nWd, g3.dr, fun H4 p R g4 np ir tR lR => ?_⟩⟩
      have eC4 := g4.keep eC nCd
      have hal := im.length
      have hSl := hS.len
      rw [List.length_map] at hal
      rw [List.length_take] at hSl
      refine ⟨acc, eC4, small1000 (by have := hsw.2.1; omega), (g3.trans g4).put nC nCd.symm, acc ++ [.ref p], S ++ [R], upd_same, ?_, ?_, fun j n R' h1 h2 => ?_⟩
      · rw [List.map_append]
        exact ((im.go g4 g3.dr).put eC4 (fun ys e => by cases e)).append (.cons (ir.put eC4 (fun ys e => by cases e)) .nil)
      · rw [List.length_append, List.length_take]
        show S.length + 1 = _
        omega
      · have hSi : S.length = i := by omega
        rw [List.getElem?_append] at h2
        by_cases z : j < S.length
        · rw [if_pos z] at h2
          refine hS.tab j n R' ?_ h2
          rw [List.getElem?_take, if_pos (by omega)] at h1 ⊢
          exact h1
        · rw [if_neg z] at h2
          have e0 : j - S.length = 0 := by
            rcases Nat.eq_zero_or_pos (j - S.length) with y | y
            · exact y
            · rw [List.getElem?_eq_none (by show 1 ≤ _; omega)] at h2
              cases h2
          rw [e0] at h2
          have eR : R = R' := Option.some.inj h2
          have ej : j = i := by omega
          subst ej
          rw [List.getElem?_take, if_pos (by omega), List.getElem?_eq_getElem hi] at h1
          have en : sw[j] = n := Option.some.inj h1
          rw [← eR, ← en]
          exact ⟨tR, lR⟩
    · obtain ⟨g3, acc, S, eC, im, hS⟩ := hP
      rw [List.length_map, List.take_length] at hS
      exact ⟨C, _, rfl, .inl ⟨SqL.of eC, fun p np => q _ p S (g3.new np) (g3.free np) (.tup upd_same (im.same (same_upd np))) hS⟩⟩
end
end NK

namespace NK
open PySem PySem.Spec PyProof.Rows L2
theorem scSame : FnScope ["actual", "due", "k"] ["actual", "due"] (defScope sSame) := ⟨rfl, rfl, rfl, by decide +kernel, rfl, by decide +kernel, by decide +kernel⟩
/-- the built-ins by which values are compared -/
structure Bts (mg : Str → Option Value) : Prop where
  len : mg "len" = none
  range : mg "range" = none
  isi : mg "isinstance" = none
  tuple : mg "tuple" = none
  list : mg "list" = none
  str : mg "str" = none
  bool : mg "bool" = none
  int : mg "int" = none
/-- a tree's height -/
inductive Hgt : Nat → PyData → Prop
  | int (n : Nat) (i : Int) : Hgt n (.int i)
  | tup {n : Nat} {ds : List PyData} : ds.length ≤ 1000000 → (∀ d ∈ ds, Hgt n d) → Hgt (n + 1) (.tuple ds)
/-- what two values have in common: data, None, a truth value -/
inductive Alk (K : PySem.W.Frag) (H : Hp) (n : Nat) : V → V → Prop
  | data {u v : V} {t : PyData} : Im K H u t → Im K H v t → Hgt n t → Alk K H n u v
  | non : Alk K H n .non .non
  | bl (b : Bool) : Alk K H n (.bl b) (.bl b)
section
variable {P : Program} {w : World} {K : PySem.W.Frag} {mg : Str → Option Value} {base : Heap}
def spSame (K : PySem.W.Frag) (n : Nat) : Sp := fun vs H Q _ => ∃ (u v : V), vs = [u, v] ∧ Alk K H n u v ∧ Q (.bl true) H
def spNo : Sp := fun _ _ _ _ => False
theorem ok_no {f : Addr} {fd : FuncData} (F : Fun K "_law_same" "_law_same" sSame f fd) : FnOk P w K mg base CX0 1 f fd ["actual", "due"] spNo :=
  F.ok scSame (fun _ _ _ _ h => h.elim) (fun _ _ _ _ _ _ _ _ _ h => h.elim)
theorem same_body {f : Addr} {fd : FuncData} {k : Nat} {sp : Sp} (B : Bts mg) (F : Fun K "_law_same" "_law_same" sSame f fd) (bF : Binds K fd ["actual", "due"] []) (gF : mg "_law_same" = some (.ref f)) (G : FnOk P w K mg base CX0 k f fd ["actual", "due"] sp) {n : Nat}
    (hsp : ∀ m H (u v : V) (Q : VK) (E : XK), n = m + 1 → Alk K H m u v → Q (.bl true) H → sp [u, v] H Q E) : FnOk P w K mg base CX0 (k + 1) f fd ["actual", "due"] (spSame K n) := by
  refine F.ok scSame (fun vs H Q E h => ?_) (fun cdv A outer s H vs Q E hr h => ?_)
  · obtain ⟨u, v, rfl, _⟩ := h
    rfl
  · obtain ⟨u, v, rfl, hA, q⟩ := h
    refine ⟨_, pss_cons (ps_if (PW.pt (pw_or (pt_val (pe_callB call_isi (by rfl) B.isi boot_isinstance (pa_cons (pv 1) (pa_cons (pe_bltn (v := .ty "tuple") (by rfl) B.tuple boot_tuple rfl) pa_nil))))
          (pw_or1 (pt_val (pe_callB call_isi (by rfl) B.isi boot_isinstance (pa_cons (pv 1) (pa_cons (pe_bltn (v := .ty "list") (by rfl) B.list boot_list rfl) pa_nil)))))))
        (pss_cons (ps_if (PW.pt (pw_and (pt_val (pe_callB call_isi (by rfl) B.isi boot_isinstance (pa_cons (pv 1) (pa_cons (pe_bltn (v := .ty "tuple") (by rfl) B.tuple boot_tuple rfl) pa_nil))))
            (pw_and1 (pt_not (pt_val (pe_callB call_isi (by rfl) B.isi boot_isinstance (pa_cons (pv 0) (pa_cons (pe_bltn (v := .ty "tuple") (by rfl) B.tuple boot_tuple rfl) pa_nil))))))))
            (pss_one (ps_ret pe_bl)) pss_nil)
        (pss_cons (ps_if (PW.pt (pw_and (pt_val (pe_callB call_isi (by rfl) B.isi boot_isinstance (pa_cons (pv 1) (pa_cons (pe_bltn (v := .ty "list") (by rfl) B.list boot_list rfl) pa_nil))))
            (pw_and1 (pt_not (pt_val (pe_callB call_isi (by rfl) B.isi boot_isinstance (pa_cons (pv 0) (pa_cons (pe_bltn (v := .ty "list") (by rfl) B.list boot_list rfl) pa_nil))))))))
            (pss_one (ps_ret pe_bl)) pss_nil)
        (pss_cons (ps_if (pt_cmpR op_ne (pe_callB call_len_seq (by rfl) B.len PySem.boot_len (pa_cons (pv 0) pa_nil)) (pe_callB call_len_seq (by rfl) B.len PySem.boot_len (pa_cons (pv 1) pa_nil)) (nomark _)) (pss_one (ps_ret pe_bl)) pss_nil)
        (pss_cons (ps_for PassesOwn.never rfl (pi_range1 rfl B.range (pa_cons (pe_callB call_len_seq (by rfl) B.len PySem.boot_len (pa_cons (pv 1) pa_nil)) pa_nil)) (pg_name (i := 2) scSame.nd rfl (.inl rfl))
            (pss_one (ps_if (pt_not (pt_val (pe_call G hr (by rfl) gF F.kp bF .nil pass0 (pa_cons (pe_ix ix_tup (pv 0) (pv 2) (fun _ _ => rfl)) (pa_cons (pe_ix ix_tup (pv 1) (pv 2) (fun _ _ => rfl)) pa_nil))))) (pss_one (ps_ret pe_bl)) pss_nil)))
        (pss_one (ps_ret pe_bl)))))) pss_nil)
      (pss_cons (ps_if (pt_cmpR op_isN (pv 1) pe_non (nomark _)) (pss_one (ps_ret (pe_cmpR op_isN (pv 0) pe_non (nomark _)))) pss_nil)
      (pss_cons (ps_if (pt_val (pe_callB call_isi (by rfl) B.isi boot_isinstance (pa_cons (pv 1) (pa_cons (pe_bltn (v := .ty "str") (by rfl) B.str boot_str rfl) pa_nil)))) (pss_one ps_never) pss_nil)
      (pss_cons (ps_if (pt_val (pe_callB call_isi (by rfl) B.isi boot_isinstance (pa_cons (pv 1) (pa_cons (pe_bltn (v := .ty "bool") (by rfl) B.bool boot_bool rfl) pa_nil))))
          (pss_one (ps_ret (pe_and (pe_callB call_isi (by rfl) B.isi boot_isinstance (pa_cons (pv 0) (pa_cons (pe_bltn (v := .ty "bool") (by rfl) B.bool boot_bool rfl) pa_nil))) (pe_one (pe_cmpR op_eq (pv 0) (pv 1) (nomark _)))))) pss_nil)
      (pss_one (ps_ret (pe_and (pe_callB call_isi (by rfl) B.isi boot_isinstance (pa_cons (pv 0) (pa_cons (pe_bltn (v := .ty "int") (by rfl) B.int boot_int rfl) pa_nil)))
          (pe_and (pe_not (pe_callB call_isi (by rfl) B.isi boot_isinstance (pa_cons (pv 0) (pa_cons (pe_bltn (v := .ty "bool") (by rfl) B.bool boot_bool rfl) pa_nil)))) (pe_one (pe_cmpR op_eq (pv 0) (pv 1) (nomark _)))))))))), ?_⟩
    cases hA with
    | non =>
      refine ⟨.non, rfl, .non, .ty "tuple", .type "NoneType", .type "tuple", false, rfl, .ty "tuple", .base (.non), kit_ty (by decide +kernel), false, rfl, iteF ?_⟩
      refine ⟨.non, rfl, .non, .ty "list", .type "NoneType", .type "list", false, rfl, .ty "list", .base (.non), kit_ty (by decide +kernel), false, rfl, iteF ?_⟩
      exact ⟨.non, rfl, rfl, _, rfl, iteT ⟨.non, rfl, rfl, q⟩⟩
    | bl b =>
      refine ⟨.bl b, rfl, .bl b, .ty "tuple", .type "bool", .type "tuple", false, rfl, .ty "tuple", .base (.bl b), kit_ty (by decide +kernel), false, rfl, iteF ?_⟩
      refine ⟨.bl b, rfl, .bl b, .ty "list", .type "bool", .type "list", false, rfl, .ty "list", .base (.bl b), kit_ty (by decide +kernel), false, rfl, iteF ?_⟩
      refine ⟨.bl b, rfl, rfl, _, rfl, iteF ?_⟩
      refine ⟨.bl b, rfl, .bl b, .ty "str", .type "bool", .type "str", false, rfl, .ty "str", .base (.bl b), kit_ty (by decide +kernel), false, rfl, iteF ?_⟩
      refine ⟨.bl b, rfl, .bl b, .ty "bool", .type "bool", .type "bool", true, rfl, .ty "bool", .base (.bl b), kit_ty (by decide +kernel), true, rfl, iteT ?_⟩
      refine ⟨.bl b, rfl, .bl b, .ty "bool", .type "bool", .type "bool", true, rfl, .ty "bool", .base (.bl b), kit_ty (by decide +kernel), true, rfl, iteT ?_⟩
      refine ⟨.bl b, rfl, .bl b, rfl, rfl, ?_⟩
      rw [decide_eq_true rfl]
      exact q
    | data iu iv hg =>
      cases hg with
      | int n i =>
        cases iu
        cases iv
        refine ⟨.int i, rfl, .int i, .ty "tuple", .type "int", .type "tuple", false, rfl, .ty "tuple", .base (.int i), kit_ty (by decide +kernel), false, rfl, iteF ?_⟩
        refine ⟨.int i, rfl, .int i, .ty "list", .type "int", .type "list", false, rfl, .ty "list", .base (.int i), kit_ty (by decide +kernel), false, rfl, iteF ?_⟩
        refine ⟨.int i, rfl, rfl, _, rfl, iteF ?_⟩
        refine ⟨.int i, rfl, .int i, .ty "str", .type "int", .type "str", false, rfl, .ty "str", .base (.int i), kit_ty (by decide +kernel), false, rfl, iteF ?_⟩
        refine ⟨.int i, rfl, .int i, .ty "bool", .type "int", .type "bool", false, rfl, .ty "bool", .base (.int i), kit_ty (by decide +kernel), false, rfl, iteF ?_⟩
        refine ⟨.int i, rfl, .int i, .ty "int", .type "int", .type "int", true, rfl, .ty "int", .base (.int i), kit_ty (by decide +kernel), true, rfl, iteT ?_⟩
        refine ⟨.int i, rfl, .int i, .ty "bool", .type "int", .type "bool", false, rfl, .ty "bool", .base (.int i), kit_ty (by decide +kernel), false, rfl, _, rfl, iteT ?_⟩
        refine ⟨.int i, rfl, .int i, rfl, rfl, ?_⟩
        rw [decide_eq_true rfl]
        exact q
      | tup hlen hds =>
        rename_i m ds
        cases iu with
        | tup hu ru =>
        cases iv with
        | tup hv rv =>
          rename_i a xs b ys
          refine ⟨.ref b, rfl, .ref b, .ty "tuple", .type "tuple", .type "tuple", true, rfl, .ty "tuple", .base (.tup hv), kit_ty (by decide +kernel), true, rfl, iteT ?_⟩
          refine iteT ⟨.ref b, rfl, .ref b, .ty "tuple", .type "tuple", .type "tuple", true, rfl, .ty "tuple", .base (.tup hv), kit_ty (by decide +kernel), true, rfl, iteT ?_⟩
          refine ⟨.ref a, rfl, .ref a, .ty "tuple", .type "tuple", .type "tuple", true, rfl, .ty "tuple", .base (.tup hu), kit_ty (by decide +kernel), true, rfl, iteF ?_⟩
          refine ⟨.ref b, rfl, .ref b, .ty "list", .type "tuple", .type "list", false, rfl, .ty "list", .base (.tup hv), kit_ty (by decide +kernel), false, rfl, iteF (iteF ?_)⟩
          have la := ru.length
          have lb := rv.length
          refine ⟨.ref a, rfl, a, xs, rfl, .inr (SqT.of hu), .ref b, rfl, b, ys, rfl, .inr (SqT.of hv), rfl, _, rfl, iteNS (by rw [la, lb]) ?_⟩
          have hz : ys.length ≤ 1000000 := by omega
          refine ⟨.ref b, rfl, b, ys, rfl, .inr (SqT.of hv), _, rfl, by omega, by omega, for_range (lo := 0) (n := ((ys.length : Nat) : Int).toNat) (fun i σ H3 => H3 = H ∧ ∃ y, σ = [some (.ref a), some (.ref b), y]) ⟨rfl, none, rfl⟩ (fun i σ H3 hi hP => ?_) (fun σ H3 hP => ?_)⟩
          · obtain ⟨rfl, y, rfl⟩ := hP
            rw [Int.toNat_natCast] at hi
            have hia : i < xs.length := by omega
            have hid : i < ds.length := by omega
            obtain ⟨t1, e1, i1⟩ := ru.get (List.getElem?_eq_getElem hia)
            obtain ⟨t2, e2, i2⟩ := rv.get (List.getElem?_eq_getElem hi)
            have e12 : t1 = t2 := Option.some.inj (e1.symm.trans e2)
            subst e12
            have ez : (0 + (i : Int)) = ((i : Nat) : Int) := by omega
            refine ⟨.ref a, rfl, .int (0 + (i : Int)), rfl, a, xs, _, xs[i], rfl, rfl, SqT.of hu, at_of ez (List.getElem?_eq_getElem hia), .ref b, rfl, .int (0 + (i : Int)), rfl, b, ys, _, ys[i], rfl, rfl, SqT.of hv, at_of ez (List.getElem?_eq_getElem hi), ?_⟩
            refine hsp m _ _ _ _ _ rfl (.data i1 i2 (hds t1 (List.mem_of_getElem? e1))) ?_
            exact ⟨true, rfl, iteF ⟨rfl, _, rfl⟩⟩
          · obtain ⟨rfl, y, rfl⟩ := hP
            exact q
theorem ok_same {f : Addr} {fd : FuncData} (B : Bts mg) (F : Fun K "_law_same" "_law_same" sSame f fd) (bF : Binds K fd ["actual", "due"] []) (gF : mg "_law_same" = some (.ref f)) : ∀ n, FnOk P w K mg base CX0 (n + 2) f fd ["actual", "due"] (spSame K n)
  | 0 => same_body B F bF gF (ok_no F) fun m H u v Q E h => absurd h (by omega)
  | n + 1 => same_body B F bF gF (ok_same B F bF gF n) fun m H u v Q E h hA hq => by
    have e : m = n := by omega
    subst e
    exact ⟨u, v, rfl, hA, hq⟩
end
end NK

namespace NK
open PySem PySem.Spec PyProof.Rows L2
/-! ### rows by their columns; data compared -/
theorem canLay_ints : ∀ l : List Int, PyData.canLayAll0 (l.map PyData.int) = true
  | [] => by simp [PyData.canLayAll0]
  | i :: l => by
    show PyData.canLayAll0 (PyData.int i :: l.map PyData.int) = true
    simp only [PyData.canLayAll0, PyData.canLay0, canLay_ints l, Bool.and_self]
theorem shaped_tup (l : List Int) : SeqAt.shaped (intsD l) = true := by
  show (PyData.canLay0 (.tuple (l.map .int)) && decide (PyData.depth (.tuple (l.map .int)) ≤ 64)) = true
  rw [Bool.and_eq_true]
  refine ⟨?_, decide_eq_true ?_⟩
  · simp only [PyData.canLay0]
    exact canLay_ints l
  · simp only [PyData.depth]
    rw [PySem.W.depth_ints]
    decide
theorem shaped_lst (l : List Int) : SeqAt.shaped (.list (l.map .int)) = true := by
  show (PyData.canLay0 (.list (l.map .int)) && decide (PyData.depth (.list (l.map .int)) ≤ 64)) = true
  rw [Bool.and_eq_true]
  refine ⟨?_, decide_eq_true ?_⟩
  · simp only [PyData.canLay0]
    exact canLay_ints l
  · simp only [PyData.depth]
    rw [PySem.W.depth_ints]
    decide
theorem eqvAll_ints : ∀ a b : List Int, PyData.eqvAll (a.map .int) (b.map .int) = decide (a = b)
  | [], [] => by simp [PyData.eqvAll]
  | [], _ :: _ => by simp [PyData.eqvAll]
  | _ :: _, [] => by simp [PyData.eqvAll]
  | x :: a, y :: b => by
    show PyData.eqvAll (PyData.int x :: a.map .int) (PyData.int y :: b.map .int) = _
    rw [PyData.eqvAll, eqvAll_ints a b]
    simp only [PyData.eqv]
    by_cases h : x = y <;> by_cases k : a = b <;> simp [h, k]
theorem eqv_tup (a b : List Int) : PyData.eqv (intsD a) (intsD b) = decide (a = b) := by
  show PyData.eqv (.tuple (a.map .int)) (.tuple (b.map .int)) = _
  simp only [PyData.eqv]
  exact eqvAll_ints a b
theorem eqv_lst (a b : List Int) : PyData.eqv (.list (a.map .int)) (.list (b.map .int)) = decide (a = b) := by
  simp only [PyData.eqv]
  exact eqvAll_ints a b
theorem Dp.tupI {K : PySem.W.Frag} {H : Hp} {a : Addr} {l : List Int} (h : H a = some (.tup (l.map V.int))) : Dp K H (.ref a) (intsD l) := (Im.ints (K := K) h).dp
theorem dpAll_ints {K : PySem.W.Frag} {H : Hp} (l : List Int) : DpAll K H (l.map V.int) (l.map PyData.int) := (ImAll.ints l).dp
theorem Dp.lstI {K : PySem.W.Frag} {H : Hp} {a : Addr} {l : List Int} (h : H a = some (.lst (l.map V.int))) : Dp K H (.ref a) (.list (l.map .int)) := .lst (SqL.of h) (dpAll_ints l)
/-- columns of a row -/
def In (n : Int) (l : List Int) : Prop := l.length ≤ 20 ∧ ∀ c ∈ l, 0 ≤ c ∧ c < n
theorem In.of {n : Int} {l : List Int} (h : Cols n l) (hn : n ≤ 20) : In n l := ⟨by have := h.2.2; omega, h.2.1⟩
theorem col_get {l : List Int} {c : Int} (h0 : 0 ≤ c) (h1 : c < (l.length : Int)) : atI (l.map V.int) c = some (.int (l.getD c.toNat 0)) := by
  have h2 : c.toNat < l.length := by omega
  refine at_of (by omega : c = (c.toNat : Int)) ?_
  rw [List.getElem?_map, List.getElem?_eq_getElem h2, List.getD_eq_getElem?_getD, List.getElem?_eq_getElem h2]
  rfl
theorem keys_eq (x : List Int) : (x.map (Sum.inl : Int → Int ⊕ Str)).map kV = x.map V.int := by
  rw [List.map_map]
  rfl
theorem inl_inj {a b : List Int} (h : a.map (Sum.inl : Int → Int ⊕ Str) = b.map Sum.inl) : a = b := (List.map_inj_right (fun _ _ e => Sum.inl.inj e)).mp h
/-- what a search for a breach hands back -/
def Res (K : PySem.W.Frag) (H : Hp) : Option (List Int × List Int) → V → Prop
  | none, v => v = .non
  | some (x, y), v => Im K H v (.tuple [intsD x, intsD y])
/-- .. by the addresses of two rows -/
def Prs (ks : List (Addr × List Int)) (H : Hp) : Option (List Int × List Int) → V → Prop
  | none, v => v = .non
  | some (x, y), v => ∃ p q1 q2, v = .ref p ∧ H p = some (.tup [.ref q1, .ref q2]) ∧ (q1, x) ∈ ks ∧ (q2, y) ∈ ks
theorem Prs.same {ks : List (Addr × List Int)} {H H' : Hp} {o : Option (List Int × List Int)} {v : V} (s : ∀ a xs, H a = some (.tup xs) → H' a = some (.tup xs)) (h : Prs ks H o v) : Prs ks H' o v := by
  match o, h with
  | none, h => exact h
  | some (x, y), ⟨p, q1, q2, e, hp, h1, h2⟩ => exact ⟨p, q1, q2, e, s _ _ hp, h1, h2⟩
theorem Prs.res {K : PySem.W.Frag} {ks : List (Addr × List Int)} {H : Hp} {o : Option (List Int × List Int)} {v : V} (hk : ∀ p ∈ ks, H p.1 = some (.tup (p.2.map V.int))) (h : Prs ks H o v) : Res K H o v := by
  match o, h with
  | none, h => exact h
  | some (x, y), ⟨p, q1, q2, e, hp, h1, h2⟩ =>
    subst e
    exact .tup hp (.cons (Im.ints (hk _ h1)) (.cons (Im.ints (hk _ h2)) .nil))
theorem Im.storeGet {K : PySem.W.Frag} {H : Hp} {v : V} {S : List (List (List Int))} {i : Nat} {R : List (List Int)} (h : Im K H v (storeD S)) (hi : S[i]? = some R) : ∃ a xs u, v = .ref a ∧ H a = some (.tup xs) ∧ xs[i]? = some u ∧ Im K H u (rowsD R) := by
  cases h with
  | tup h r =>
    rename_i a xs
    have hl := r.length
    rw [List.length_map] at hl
    obtain ⟨h1, _⟩ := List.getElem?_eq_some_iff.mp hi
    have h2 : i < xs.length := by omega
    obtain ⟨t, e, im⟩ := r.get (List.getElem?_eq_getElem h2)
    rw [List.getElem?_map, hi] at e
    cases e
    exact ⟨a, xs, _, rfl, h, List.getElem?_eq_getElem h2, im⟩
section
variable {P : Program} {w : World} {K : PySem.W.Frag} {mg : Str → Option Value} {base : Heap}
/-! ### the program: a row's values -/
theorem scVals : FnScope ["row", "columns", "column"] ["row", "columns"] (defScope p_values_at) := ⟨rfl, rfl, rfl, by decide +kernel, rfl, by decide +kernel, by decide +kernel⟩
def spVals : Sp := fun vs H Q _ => ∃ (a c : Addr) (x l : List Int), vs = [.ref a, .ref c] ∧ H a = some (.tup (x.map V.int)) ∧ H c = some (.tup (l.map V.int)) ∧ In x.length l ∧ ∀ H' p, Same H H' → H p = none → H' p = some (.tup ((prj l x).map V.int)) → Q (.ref p) H'
theorem ok_vals {f : Addr} {fd : FuncData} {k : Nat} (mt : mg "tuple" = none) (F : Fun K "values_at" "values_at" p_values_at f fd) : FnOk P w K mg base CX0 (k + 1) f fd ["row", "columns"] spVals := by
  refine F.ok scVals (fun vs H Q E h => ?_) (fun cdv A outer s H vs Q E hr h => ?_)
  · obtain ⟨a, c, x, l, rfl, _⟩ := h
    rfl
  · obtain ⟨a, c, x, l, rfl, ea, ec, hl, q⟩ := h
    refine ⟨_, pss_one (ps_ret (pe_callTy call_tuple_of (by rfl) mt boot_tuple (pa_cons
        (pe_lc (own := [("column", 2)]) (g := gName 2) (by rfl) scVals.nd (pi_tup (pv 1)) (blkOk_by (N := ["row", "columns", "column"]) (sc := defScope p_values_at) (by decide +kernel))
          (fun _ _ _ _ _ => pg_name (i := 2) scVals.nd rfl (Or.inl rfl)) (fun _ _ _ _ _ => pts_nil)
          (fun _ _ _ _ _ => pe_ix (r := rIxT K) ix_tup (pv 0) (pv 2) (fun _ _ => rfl))) pa_nil))), ?_⟩
    refine ⟨.ref c, rfl, c, rfl, ⟨_, SqT.of ec⟩, fun C nC => lc_tup (K := K) (a := c) (xs := l.map V.int) (fun i H3 => Same H H3 ∧ H3 C = some (.lst ((prj (l.take i) x).map V.int)))
      ⟨same_upd nC, upd_same⟩ (fun i H3 _ h => SqT.of (h.1 _ _ ec)) (fun i y H3 hy hP => ?_) (fun H3 hP => ?_)⟩
    · obtain ⟨s3, eC⟩ := hP
      have hi : i < l.length := by
        obtain ⟨h1, _⟩ := List.getElem?_eq_some_iff.mp hy
        rw [List.length_map] at h1
        exact h1
      have ex : y = .int l[i] := by
        rw [List.getElem?_map, List.getElem?_eq_getElem hi] at hy
        exact (Option.some.inj hy).symm
      subst ex
      have hc := hl.2 _ (List.getElem_mem hi)
      refine ⟨rfl, yesT ⟨.ref a, rfl, .int l[i], rfl, a, _, _, _, rfl, rfl, SqT.of (s3 _ _ ea), col_get hc.1 hc.2, _, eC, ?_, Same.put s3 nC, ?_⟩⟩
      · unfold prj
        rw [List.length_map, List.length_map, List.length_take]
        exact small1000 (by have := hl.1; omega)
      · rw [upd_same, List.take_add_one, List.getElem?_eq_getElem hi]
        unfold prj
        rw [Option.toList_some, List.map_append, List.map_append]
        rfl
    · obtain ⟨s3, eC⟩ := hP
      rw [List.length_map, List.take_length] at eC
      exact ⟨C, _, rfl, .inl ⟨SqL.of eC, fun p np => q _ p (s3.trans (same_upd np)) (s3.free np) upd_same⟩⟩

/-! ### the program: the least breach of a functional dependency -/
abbrev nSetB : List Str := ["rows", "left", "right", "firsts", "least", "row", "first"]
theorem scSetB : FnScope nSetB ["rows", "left", "right"] (defScope p_settled_breach) := ⟨rfl, rfl, rfl, by decide +kernel, rfl, by decide +kernel, by decide +kernel⟩
def spSetB (K : PySem.W.Frag) : Sp := fun vs H Q _ => ∃ (v : V) (lc rc : Addr) (R : List (List Int)) (n : Int) (l r : List Int), vs = [v, .ref lc, .ref rc] ∧ Im K H v (rowsD R) ∧ Tab n R ∧ R.length ≤ 100 ∧ H lc = some (.tup (l.map V.int)) ∧ H rc = some (.tup (r.map V.int)) ∧ In n l ∧ In n r ∧
  ∀ H' o v', Same H H' → Br l r R o → Res K H' o v' → Q v' H'
/-- what the dict of first rows holds -/
structure Fsts (l : List Int) (ks : List (Addr × List Int)) (kvs : List (List L2.Key × V)) : Prop where
  len : kvs.length ≤ ks.length
  some : ∀ k v, valV kvs k = Option.some v → ∃ q ∈ ks, v = .ref q.1 ∧ k = (prj l q.2).map Sum.inl ∧ ∀ a ∈ ks, prj l a.2 = prj l q.2 → q.2 ≤ a.2
  all : ∀ q ∈ ks, valV kvs ((prj l q.2).map Sum.inl) ≠ none
theorem mem_snd {ks : List (Addr × List Int)} {a : List Int} (h : a ∈ ks.map (·.2)) : ∃ q ∈ ks, q.2 = a := List.mem_map.mp h
theorem ok_setB {f fV : Addr} {fd fdV : FuncData} (mt : mg "tuple" = none) (F : Fun K "settled_breach" "settled_breach" p_settled_breach f fd) (FV : Fun K "values_at" "values_at" p_values_at fV fdV) (bV : Binds K fdV ["row", "columns"] []) (gV : mg "values_at" = Option.some (.ref fV)) :
    FnOk P w K mg base CX0 2 f fd ["rows", "left", "right"] (spSetB K) := by
  have GV : FnOk P w K mg base CX0 1 fV fdV ["row", "columns"] spVals := ok_vals mt FV
  refine F.ok scSetB (fun vs H Q E h => ?_) (fun cdv A outer s H vs Q E hr h => ?_)
  · obtain ⟨v, lc, rc, R, n, l, r, rfl, _⟩ := h
    rfl
  · obtain ⟨v, lc, rc, R, n, l, r, rfl, im, hT, hRl, el, er, hl, hrr, q⟩ := h
    obtain ⟨a, ks, rfl, ea, eR, hks⟩ := im.rows
    have hkl : ks.length = R.length := by rw [← eR, List.length_map]
    have hlen : ∀ p ∈ ks, (p.2.length : Int) = n := fun p hp => hT.len p.2 (by rw [← eR]; exact List.mem_map.mpr ⟨p, hp, rfl⟩)
    have asc : (ks.map (·.2)).Pairwise (· < ·) := by rw [eR]; exact hT.asc
    refine ⟨_, pss_cons (ps_set (i := 3) scSetB.nd rfl (.inl rfl) pe_dnewT)
      (pss_cons (ps_set (i := 4) scSetB.nd rfl (.inl rfl) pe_non)
      (pss_cons (ps_for PassesOwn.never rfl (pi_tup (pv 0)) (pg_name (i := 5) scSetB.nd rfl (.inl rfl))
        (C8.pss_cut (ps_set (i := 6) scSetB.nd rfl (.inl rfl) (NR.pe_dsett (hu_of hr) (pv 3) (pe_call GV hr (by rfl) gV FV.kp bV .nil pass0 (pa_cons (pv 5) (pa_cons (pv 1) pa_nil))) (pv 5) ⟨rfl, rfl, rfl, rfl⟩))
        (pss_one (ps_if (pt_cmpR (op_neD hr.units) (pe_call GV hr (by rfl) gV FV.kp bV .nil pass0 (pa_cons (pv 6) (pa_cons (pv 2) pa_nil))) (pe_call GV hr (by rfl) gV FV.kp bV .nil pass0 (pa_cons (pv 5) (pa_cons (pv 2) pa_nil))) (nomark _))
          (pss_one (ps_if (PW.pt (pw_or (pt_cmpR op_isN (pv 4) pe_non (nomark _)) (pw_or1 (pt_cmpR (op_ltT hr.units0) (pv 6) (pe_ix ix_tup (pv 4) pe_int (fun _ _ => rfl)) (nomark _)))))
            (pss_one (ps_set (i := 4) scSetB.nd rfl (.inl rfl) (pe_tup (pa_cons (pv 6) (pa_cons (pv 5) pa_nil))))) pss_nil)) pss_nil))))
      (pss_one (ps_ret (pv 4))))), ?_⟩
    refine fun fa nfa => ?_
    have sf := same_upd (o := HO.dT []) nfa
    refine ⟨.ref a, rfl, a, rfl, ⟨_, SqT.of (sf _ _ ea)⟩, for_tup (K := K) (a := a) (xs := ks.map fun p => V.ref p.1) (fun i σ H3 => ∃ (o : Option (List Int × List Int)) (lv : V) (kvs : List (List L2.Key × V)) (y5 y6 : Option V), σ = [some (.ref a), some (.ref lc), some (.ref rc), some (.ref fa), some lv, y5, y6] ∧ Same H H3 ∧
        H3 fa = some (.dT kvs) ∧ Fsts l (ks.take i) kvs ∧ Br l r ((ks.take i).map (·.2)) o ∧ Prs ks H3 o lv)
      ⟨none, .non, [], none, none, rfl, sf, upd_same, ⟨Nat.le_refl _, fun k v h => (by cases h), fun q hq => (by cases hq)⟩, fun a ha => (by cases ha), rfl⟩ (fun i σ H3 _ hP => by obtain ⟨_, _, _, _, _, _, s3, _⟩ := hP; exact SqT.of (s3 _ _ ea)) (fun i x σ H3 hx hP => ?_) (fun σ H3 hP => ?_)⟩
    · obtain ⟨o, lv, kvs, y5, y6, rfl, s3, efa, hF, hB, hPr⟩ := hP
      have hi : i < ks.length := by
        obtain ⟨h1, _⟩ := List.getElem?_eq_some_iff.mp hx
        rw [List.length_map] at h1
        exact h1
      generalize hki : ks[i] = kp at hx
      obtain ⟨b, x'⟩ := kp
      have ex : x = .ref b := by
        rw [List.getElem?_map, List.getElem?_eq_getElem hi, hki] at hx
        exact (Option.some.inj hx).symm
      subst ex
      have eT : ks.take (i + 1) = ks.take i ++ [(b, x')] := by
        rw [List.take_add_one, List.getElem?_eq_getElem hi, hki]
        rfl
      have mem_b : (b, x') ∈ ks := by
        rw [← hki]
        exact List.getElem_mem hi
      have mtk : ∀ {q : Addr × List Int}, q ∈ ks.take i → q ∈ ks := fun h => List.mem_of_mem_take h
      have eT2 : (ks.take (i + 1)).map (·.2) = (ks.take i).map (·.2) ++ [x'] := by
        rw [eT, List.map_append]
        rfl
      have hxT : ∀ a' ∈ (ks.take i).map (·.2), a' ≤ x' := fun a' ha' => by
        have z := asc.sublist ((List.take_sublist (i + 1) ks).map (·.2))
        rw [eT2] at z
        exact row_lt_le ((List.pairwise_append.mp z).2.2 a' ha' x' (List.mem_singleton.mpr rfl))
      have lx : (x'.length : Int) = n := hlen _ mem_b
      refine ⟨fun σ H4 => ∃ (f : Addr × List Int) (kvs' : List (List L2.Key × V)), σ = [some (.ref a), some (.ref lc), some (.ref rc), some (.ref fa), some lv, some (.ref b), some (.ref f.1)] ∧ Same H H4 ∧ H4 fa = some (.dT kvs') ∧ Fsts l (ks.take (i + 1)) kvs' ∧
          f ∈ ks.take (i + 1) ∧ prj l f.2 = prj l x' ∧ (∀ a' ∈ ks.take (i + 1), prj l a'.2 = prj l x' → f.2 ≤ a'.2) ∧ Prs ks H4 o lv, ?_, fun σ H4 hM => ?_⟩
      · refine ⟨.ref fa, rfl, fa, rfl, .inr ⟨kvs, .inl efa⟩, .ref b, rfl, .ref lc, rfl, b, lc, x', l, rfl, s3 _ _ (hks _ mem_b), s3 _ _ el, by rw [lx]; exact hl, fun H4 k4 s4 nk4 e4 => ?_⟩
        have efa4 := s4 _ _ efa
        refine ⟨.ref b, rfl, kvs, (prj l x').map Sum.inl, k4, efa4, rfl, by rw [keys_eq]; exact e4, ?_, fun v hv => ?_, fun hn => ?_⟩
        · have h1 := hF.len
          rw [List.length_take] at h1
          exact small1000 (by omega)
        · obtain ⟨f, hf, rfl, ek, hmin⟩ := hF.some _ v hv
          have ek2 : prj l f.2 = prj l x' := (inl_inj ek).symm
          refine ⟨f, kvs, rfl, s3.trans s4, efa4, ⟨?_, fun k v hk => ?_, fun q hq => ?_⟩, ?_, ek2, fun a' ha' e' => ?_, hPr.same fun _ _ h => s4 _ _ h⟩
          · have h1 := hF.len
            rw [eT, List.length_append]
            omega
          · obtain ⟨q, hq, e1, e2, e3⟩ := hF.some k v hk
            refine ⟨q, by rw [eT]; exact List.mem_append_left _ hq, e1, e2, fun a' ha' e' => ?_⟩
            rw [eT] at ha'
            rcases List.mem_append.mp ha' with ha' | ha'
            · exact e3 a' ha' e'
            · rw [List.mem_singleton.mp ha']
              exact hxT q.2 (List.mem_map.mpr ⟨q, hq, rfl⟩)
          · rw [eT] at hq
            rcases List.mem_append.mp hq with hq | hq
            · exact hF.all q hq
            · rw [List.mem_singleton.mp hq]
              exact fun z => by rw [hv] at z; cases z
          · rw [eT]
            exact List.mem_append_left _ hf
          · rw [eT] at ha'
            rcases List.mem_append.mp ha' with ha' | ha'
            · exact hmin a' ha' (by rw [e', ek2])
            · rw [List.mem_singleton.mp ha']
              exact hxT f.2 (List.mem_map.mpr ⟨f, hf, rfl⟩)
        · refine ⟨(b, x'), putK kvs ((prj l x').map Sum.inl) (.ref b), rfl, Same.put (s3.trans s4) nfa, upd_same, ⟨?_, fun k v hk => ?_, fun q hq => ?_⟩, ?_, rfl, fun a' ha' e' => ?_, hPr.same fun _ _ h => tup_put efa4 (fun ys e => by cases e) (s4 _ _ h)⟩
          · have h1 := hF.len
            have h2 := length_putK kvs ((prj l x').map Sum.inl) (.ref b)
            rw [eT, List.length_append]
            show _ ≤ (ks.take i).length + 1
            omega
          · rw [valV_put] at hk
            by_cases z : k = (prj l x').map Sum.inl
            · rw [if_pos z] at hk
              refine ⟨(b, x'), by rw [eT]; exact List.mem_append_right _ (List.mem_singleton.mpr rfl), (Option.some.inj hk).symm, z, fun a' ha' e' => ?_⟩
              rw [eT] at ha'
              rcases List.mem_append.mp ha' with ha' | ha'
              · exact absurd (by rw [e']; exact hn) (hF.all a' ha')
              · rw [List.mem_singleton.mp ha']
                exact row_le_refl _
            · rw [if_neg z] at hk
              obtain ⟨q, hq, e1, e2, e3⟩ := hF.some k v hk
              refine ⟨q, by rw [eT]; exact List.mem_append_left _ hq, e1, e2, fun a' ha' e' => ?_⟩
              rw [eT] at ha'
              rcases List.mem_append.mp ha' with ha' | ha'
              · exact e3 a' ha' e'
              · rw [List.mem_singleton.mp ha']
                exact hxT q.2 (List.mem_map.mpr ⟨q, hq, rfl⟩)
          · rw [valV_put]
            by_cases z : (prj l q.2).map (Sum.inl : Int → Int ⊕ Str) = (prj l x').map Sum.inl
            · rw [if_pos z]
              exact fun e => by cases e
            · rw [if_neg z]
              rw [eT] at hq
              rcases List.mem_append.mp hq with hq | hq
              · exact hF.all q hq
              · rw [List.mem_singleton.mp hq] at z
                exact absurd rfl z
          · rw [eT]
            exact List.mem_append_right _ (List.mem_singleton.mpr rfl)
          · rw [eT] at ha'
            rcases List.mem_append.mp ha' with ha' | ha'
            · exact absurd (by rw [e']; exact hn) (hF.all a' ha')
            · rw [List.mem_singleton.mp ha']
              exact row_le_refl _
      · obtain ⟨f, kvs', rfl, s4, efa4, hF', hf, ef, hmin, hPr4⟩ := hM
        have fk : f ∈ ks := List.mem_of_mem_take hf
        have hFst : Fst l ((ks.take i).map (·.2) ++ [x']) x' f.2 := ⟨by rw [← eT2]; exact List.mem_map.mpr ⟨f, hf, rfl⟩, ef, fun a' ha' e' => by
          rw [← eT2] at ha'
          obtain ⟨q, hq, rfl⟩ := mem_snd ha'
          exact hmin q hq e'⟩
        refine ⟨.ref f.1, rfl, .ref rc, rfl, f.1, rc, f.2, r, rfl, s4 _ _ (hks _ fk), s4 _ _ er, by rw [hlen _ fk]; exact hrr, fun H5 k5 s5 n5 e5 => ?_⟩
        refine ⟨.ref b, rfl, .ref rc, rfl, b, rc, x', r, rfl, s5 _ _ (s4 _ _ (hks _ mem_b)), s5 _ _ (s4 _ _ er), by rw [lx]; exact hrr, fun H6 k6 s6 n6 e6 => ?_⟩
        have s46 := s5.trans s6
        have s06 := s4.trans s46
        refine ⟨intsD (prj r f.2), intsD (prj r x'), Dp.tupI (s6 _ _ e5), Dp.tupI e6, shaped_tup _, shaped_tup _, _, rfl, ?_⟩
        rw [eqv_tup]
        by_cases z : prj r f.2 = prj r x'
        · rw [decide_eq_true z]
          refine iteF ?_
          exact ⟨o, lv, kvs', _, _, rfl, s06, s46 _ _ efa4, hF', by rw [eT2]; exact hB.keepL hxT hFst z, hPr4.same fun _ _ h => s46 _ _ h⟩
        · rw [decide_eq_false z]
          refine iteT ?_
          have new : ∀ (h : ∀ a b, o = some (a, b) → f.2 < a), ∀ p, H6 p = none → ∃ (o : Option (List Int × List Int)) (lv' : V) (kvs : List (List L2.Key × V)) (y5 y6 : Option V), ([some (.ref a), some (.ref lc), some (.ref rc), some (.ref fa), some lv, some (.ref b), some (.ref f.1)] : L2.St).set 4 (some (.ref p)) = [some (.ref a), some (.ref lc), some (.ref rc), some (.ref fa), some lv', y5, y6] ∧ Same H (upd H6 p (.tup [.ref f.1, .ref b])) ∧
              (upd H6 p (.tup [.ref f.1, .ref b])) fa = some (.dT kvs) ∧ Fsts l (ks.take (i + 1)) kvs ∧ Br l r ((ks.take (i + 1)).map (·.2)) o ∧ Prs ks (upd H6 p (.tup [.ref f.1, .ref b])) o lv' := fun h p np =>
            ⟨some (f.2, x'), .ref p, kvs', _, _, rfl, s06.trans (same_upd np), same_upd np _ _ (s46 _ _ efa4), hF', by rw [eT2]; exact hB.newL hxT hFst z h, p, f.1, b, rfl, upd_same, fk, mem_b⟩
          match o, hB, hPr4, new with
          | none, hB, hPr4, new =>
            cases (show lv = .non from hPr4)
            refine ⟨.non, rfl, rfl, _, rfl, iteT (iteT ?_)⟩
            exact ⟨.ref f.1, rfl, .ref b, rfl, by show 2 ≤ sizeLine; decide, fun p np => new (fun _ _ e => by cases e) p np⟩
          | some (x0, y0), hB, hPr4, new =>
            obtain ⟨p, q1, q2, rfl, hp, h1, h2⟩ := hPr4
            refine ⟨.ref p, rfl, rfl, _, rfl, ?_⟩
            rw [decide_eq_false (show ¬ V.ref p = V.non from fun e => by cases e)]
            refine iteF ⟨.ref f.1, rfl, .ref p, rfl, p, [.ref q1, .ref q2], 0, .ref q1, rfl, rfl, SqT.of (s46 _ _ hp), atI_nat (j := 0) rfl, f.1, q1, f.2, x0, rfl, rfl, SqT.of (s06 _ _ (hks _ fk)), SqT.of (s06 _ _ (hks _ h1)), _, rfl, ?_⟩
            rw [lexLt_eq]
            by_cases lt : f.2 < x0
            · rw [decide_eq_true lt]
              refine iteT ⟨.ref f.1, rfl, .ref b, rfl, by show 2 ≤ sizeLine; decide, fun p np => new (fun _ _ e => by cases e; exact lt) p np⟩
            · rw [decide_eq_false lt]
              exact iteF ⟨some (x0, y0), .ref p, kvs', _, _, rfl, s06, s46 _ _ efa4, hF', by rw [eT2]; exact hB.oldL hxT hFst lt, p, q1, q2, rfl, s46 _ _ hp, h1, h2⟩
    · obtain ⟨o, lv, kvs, y5, y6, rfl, s3, efa, hF, hB, hPr⟩ := hP
      rw [List.length_map, List.take_length] at hB
      rw [eR] at hB
      exact ⟨lv, rfl, q H3 o lv s3 hB (hPr.res fun p hp => s3 _ _ (hks p hp))⟩
end
end NK

namespace NK
open PySem PySem.Spec PyProof.Rows L2
section
variable {P : Program} {w : World} {K : PySem.W.Frag} {mg : Str → Option Value} {base : Heap}
/-! ### the program: least_breach and keeps of a functional dependency -/
theorem scLB : FnScope ["scheme", "store", "dependency", "kind", "rows"] ["scheme", "store", "dependency"] (defScope p_least_breach) := ⟨rfl, rfl, rfl, by decide +kernel, rfl, by decide +kernel, by decide +kernel⟩
/-- a functional dependency, and the table that it speaks of -/
structure SetDep (K : PySem.W.Frag) (H : Hp) (st dp : V) (t : Int) (l r : List Int) (n : Int) (R : List (List Int)) (S : List (List (List Int))) : Prop where
  st : Im K H st (storeD S)
  dp : Im K H dp (Dep.two false t l r).data
  t0 : 0 ≤ t
  tR : S[t.toNat]? = some R
  tab : Tab n R
  len : R.length ≤ 100
  l : In n l
  r : In n r
theorem SetDep.same {K : PySem.W.Frag} {H H' : Hp} {st dp : V} {t : Int} {l r : List Int} {n : Int} {R : List (List Int)} {S : List (List (List Int))} (s : Same H H') (h : SetDep K H st dp t l r n R S) : SetDep K H' st dp t l r n R S :=
  ⟨h.st.same s, h.dp.same s, h.t0, h.tR, h.tab, h.len, h.l, h.r⟩
theorem Im.two {K : PySem.W.Frag} {H : Hp} {v : V} {k : Bool} {t : Int} {l r : List Int} (h : Im K H v (Dep.two k t l r).data) : ∃ a b c, v = .ref a ∧ H a = some (.tup [.str (kindS k), .int t, .ref b, .ref c]) ∧ H b = some (.tup (l.map V.int)) ∧ H c = some (.tup (r.map V.int)) := by
  cases h with
  | tup h q =>
    cases q with
    | cons q1 q =>
      cases q with
      | cons q2 q =>
        cases q with
        | cons q3 q =>
          cases q with
          | cons q4 q =>
            cases q
            cases q1
            cases q2
            obtain ⟨b, rfl, hb⟩ := q3.toInts
            obtain ⟨c, rfl, hc⟩ := q4.toInts
            exact ⟨_, b, c, rfl, h, hb, hc⟩
def spLB (K : PySem.W.Frag) : Sp := fun vs H Q _ => ∃ (s : V) (st dp : V) (t : Int) (l r : List Int) (n : Int) (R : List (List Int)) (S : List (List (List Int))), vs = [s, st, dp] ∧ SetDep K H st dp t l r n R S ∧ ∀ H' o v, Same H H' → Br l r R o → Res K H' o v → Q v H'
theorem ok_lb {f fV fB : Addr} {fd fdV fdB : FuncData} (mt : mg "tuple" = none) (F : Fun K "least_breach" "least_breach" p_least_breach f fd) (FV : Fun K "values_at" "values_at" p_values_at fV fdV) (bV : Binds K fdV ["row", "columns"] []) (gV : mg "values_at" = some (.ref fV))
    (FB : Fun K "settled_breach" "settled_breach" p_settled_breach fB fdB) (bB : Binds K fdB ["rows", "left", "right"] []) (gB : mg "settled_breach" = some (.ref fB)) :
    FnOk P w K mg base CX0 3 f fd ["scheme", "store", "dependency"] (spLB K) := by
  have GB : FnOk P w K mg base CX0 2 fB fdB ["rows", "left", "right"] (spSetB K) := ok_setB mt FB FV bV gV
  refine F.ok scLB (fun vs H Q E h => ?_) (fun cdv A outer s H vs Q E hr h => ?_)
  · obtain ⟨s, st, dp, t, l, r, n, R, S, rfl, _⟩ := h
    rfl
  · obtain ⟨sc, st, dp, t, l, r, n, R, S, rfl, hD, q⟩ := h
    obtain ⟨d, lc, rc, rfl, ed, el, er⟩ := hD.dp.two
    obtain ⟨sa, xs, u, rfl, es, eu, iu⟩ := hD.st.storeGet hD.tR
    have et : t = ((t.toNat : Nat) : Int) := by have := hD.t0; omega
    refine ⟨_, pss_cons (ps_set (i := 3) scLB.nd rfl (.inl rfl) (pe_ix ix_tup (pv 2) pe_int (fun _ _ => rfl)))
      (pss_cons (ps_set (i := 4) scLB.nd rfl (.inl rfl) (pe_ix ix_tup (pv 1) (pe_ix ix_tup (pv 2) pe_int (fun _ _ => rfl)) (fun _ _ => rfl)))
      (pss_cons (ps_if (pt_cmpR op_eq (pv 3) pe_str (nomark _)) (pss_one (ps_ret (pe_call GB hr (by rfl) gB FB.kp bB .nil pass0 (pa_cons (pv 4) (pa_cons (pe_ix ix_tup (pv 2) pe_int (fun _ _ => rfl)) (pa_cons (pe_ix ix_tup (pv 2) pe_int (fun _ _ => rfl)) pa_nil)))))) pss_nil)
      (pss_cons ps_never (pss_one ps_never)))), ?_⟩
    refine ⟨.ref d, rfl, d, _, 0, .str (kindS false), rfl, rfl, SqT.of ed, atI_nat (j := 0) rfl, ?_⟩
    refine ⟨.ref sa, rfl, .ref d, rfl, d, _, 1, .int t, rfl, rfl, SqT.of ed, atI_nat (j := 1) rfl, sa, xs, t, u, rfl, rfl, SqT.of es, at_of et eu, ?_⟩
    refine ⟨.str (kindS false), rfl, rfl, _, rfl, iteT ?_⟩
    refine ⟨u, rfl, .ref d, rfl, d, _, 2, .ref lc, rfl, rfl, SqT.of ed, atI_nat (j := 2) rfl, .ref d, rfl, d, _, 3, .ref rc, rfl, rfl, SqT.of ed, atI_nat (j := 3) rfl, ?_⟩
    exact ⟨u, lc, rc, R, n, l, r, rfl, iu, hD.tab, hD.len, el, er, hD.l, hD.r, q⟩
abbrev nKeeps : List Str := ["scheme", "store", "dependency", "table", "parts", "choices", "present", "part", "row"]
theorem scKeeps : FnScope nKeeps ["scheme", "store", "dependency"] (defScope p_keeps) := ⟨rfl, rfl, rfl, by decide +kernel, rfl, by decide +kernel, by decide +kernel⟩
def spKeeps (K : PySem.W.Frag) : Sp := fun vs H Q _ => ∃ (s : V) (st dp : V) (t : Int) (l r : List Int) (n : Int) (R : List (List Int)) (S : List (List (List Int))), vs = [s, st, dp] ∧ SetDep K H st dp t l r n R S ∧ ∀ H' o, Same H H' → Br l r R o → Q (.bl o.isNone) H'
theorem ok_keeps {f fV fB fL : Addr} {fd fdV fdB fdL : FuncData} (mt : mg "tuple" = none) (F : Fun K "keeps" "keeps" p_keeps f fd) (FV : Fun K "values_at" "values_at" p_values_at fV fdV) (bV : Binds K fdV ["row", "columns"] []) (gV : mg "values_at" = some (.ref fV))
    (FB : Fun K "settled_breach" "settled_breach" p_settled_breach fB fdB) (bB : Binds K fdB ["rows", "left", "right"] []) (gB : mg "settled_breach" = some (.ref fB))
    (FL : Fun K "least_breach" "least_breach" p_least_breach fL fdL) (bL : Binds K fdL ["scheme", "store", "dependency"] []) (gL : mg "least_breach" = some (.ref fL)) :
    FnOk P w K mg base CX0 4 f fd ["scheme", "store", "dependency"] (spKeeps K) := by
  have GL : FnOk P w K mg base CX0 3 fL fdL ["scheme", "store", "dependency"] (spLB K) := ok_lb mt FL FV bV gV FB bB gB
  refine F.ok scKeeps (fun vs H Q E h => ?_) (fun cdv A outer s H vs Q E hr h => ?_)
  · obtain ⟨s, st, dp, t, l, r, n, R, S, rfl, _⟩ := h
    rfl
  · obtain ⟨sc, st, dp, t, l, r, n, R, S, rfl, hD, q⟩ := h
    obtain ⟨d, lc, rc, rfl, ed, el, er⟩ := hD.dp.two
    refine ⟨_, pss_cons (ps_if (pt_cmpR op_notIn_seq (pe_ix ix_tup (pv 2) pe_int (fun _ _ => rfl)) (pe_tup (pa_cons pe_str (pa_cons pe_str pa_nil))) (by rfl)) (pss_one (ps_ret (pe_cmpR op_isN (pe_call GL hr (by rfl) gL FL.kp bL .nil pass0 (pa_cons (pv 0) (pa_cons (pv 1) (pa_cons (pv 2) pa_nil)))) pe_non (nomark _)))) pss_nil)
      (pss_cons ps_never (pss_cons ps_never (pss_cons ps_never (pss_cons ps_never (pss_one ps_never))))), ?_⟩
    refine ⟨.ref d, rfl, d, _, 0, .str (kindS false), rfl, rfl, SqT.of ed, atI_nat (j := 0) rfl, by show 2 ≤ sizeLine; decide, fun t1 n1 => ?_⟩
    have s1 := same_upd (o := HO.tup [.str (Str.ofString "deals"), .str (Str.ofString "joins")]) n1
    refine ⟨t1, _, rfl, .inr (SqT.of upd_same), rfl, rfl, _, rfl, ?_⟩
    refine iteT ⟨sc, rfl, st, rfl, .ref d, rfl, sc, st, .ref d, t, l, r, n, R, S, rfl, hD.same s1, fun H' o v s2 hB hR => ?_⟩
    have e : decide (v = V.non) = o.isNone := by
      match o, hR with
      | none, hR =>
        cases (show v = .non from hR)
        rfl
      | some (x, y), hR =>
        cases (show Im K H' v _ from hR)
        rfl
    refine ⟨rfl, ?_⟩
    rw [e]
    exact q H' o (s1.trans s2) hB
end
end NK

namespace NK
open PySem PySem.Spec PyProof.Rows L2
abbrev nAgree : List Str := ["one", "other", "columns", "column"]
abbrev nBr : List Str := ["scheme", "store", "dependency", "kind", "rows", "width", "known", "row", "one", "told", "other", "both", "dealt", "column"]
theorem scAgree : FnScope nAgree ["one", "other", "columns"] (defScope sAgree) := ⟨rfl, rfl, rfl, by decide +kernel, rfl, by decide +kernel, by decide +kernel⟩
theorem scBr : FnScope nBr ["scheme", "store", "dependency"] (defScope sBreach) := ⟨rfl, rfl, rfl, by decide +kernel, rfl, by decide +kernel, by decide +kernel⟩
theorem flat_all (l : List Int) : (l.map V.int).all flatV = true := by
  rw [List.all_map]
  exact List.all_eq_true.mpr fun _ _ => rfl
section
variable {P : Program} {w : World} {K : PySem.W.Frag} {mg : Str → Option Value} {base : Heap}
/-! ### the law: two rows that agree -/
def spAgree : Sp := fun vs H Q _ => ∃ (a b c : Addr) (x y l : List Int), vs = [.ref a, .ref b, .ref c] ∧ H a = some (.tup (x.map V.int)) ∧ H b = some (.tup (y.map V.int)) ∧ H c = some (.tup (l.map V.int)) ∧ In x.length l ∧ In y.length l ∧ ∀ H', Same H H' → Q (.bl (decide (prj l x = prj l y))) H'
theorem ok_agree {f : Addr} {fd : FuncData} {k : Nat} (F : Fun K "_law_agree" "_law_agree" sAgree f fd) : FnOk P w K mg base CX0 (k + 1) f fd ["one", "other", "columns"] spAgree := by
  refine F.ok scAgree (fun vs H Q E h => ?_) (fun cdv A outer s H vs Q E hr h => ?_)
  · obtain ⟨a, b, c, x, y, l, rfl, _⟩ := h
    rfl
  · obtain ⟨a, b, c, x, y, l, rfl, ea, eb, ec, hx, hy, q⟩ := h
    -- the turns of [row[column] for column in columns]
    have turns : ∀ (σ : L2.St) (H1 : Hp) (D t : Addr) (z : List Int) (i : Nat) (Qd : Hp → Prop), (∃ y3, σ = [some (.ref a), some (.ref b), some (.ref c), y3]) → σ[i]? = some (some (.ref t)) → i < 3 → H1 t = some (.tup (z.map V.int)) → H1 c = some (.tup (l.map V.int)) → In z.length l → H1 D = none → (∀ H2, Same H1 H2 → H2 D = some (.lst ((prj l z).map V.int)) → Qd H2) →
        ∃ W : Nat → Nat → Hp → Prop, (∃ m, W 0 m (upd H1 D (.lst []))) ∧ ∀ i' m H, W i' m H → ((Itt K c).stop i' H ∧ Qd H) ∨ ((Itt K c).go i' H ∧ ∃ Nx : Hp → Prop, (∀ H', Nx H' → ∃ m', m' < m ∧ W (i' + 1) m' H') ∧ ∀ x H', (Itt K c).yld i' H x H' → gName 3 x (wipe σ [3]) H' fun σ2 H2 => wipe σ2 [3] = wipe σ [3] ∧ tYes σ2 H2 fun bb H3 =>
          if bb = true then tOp (rIxT K) (tVar i) (tVar 3) σ2 H3 fun y H4 => ∃ acc, H4 D = some (.lst acc) ∧ acc.length < sizeLine ∧ Nx (upd H4 D (.lst (acc ++ [y]))) else Nx H3) := by
      intro σ H1 D t z i Qd ⟨y3, hσ⟩ hi hi3 ht hc hz nD hq
      subst hσ
      refine lc_tup (K := K) (a := c) (xs := l.map V.int) (fun j H' => Same H1 H' ∧ H' D = some (.lst ((prj (l.take j) z).map V.int)))
        ⟨same_upd nD, upd_same⟩ (fun j H' _ h => SqT.of (h.1 _ _ hc)) (fun j v H' hv hP => ?_) (fun H2 hP => ?_)
      · obtain ⟨sm, eD⟩ := hP
        have hj : j < l.length := by
          obtain ⟨h1, _⟩ := List.getElem?_eq_some_iff.mp hv
          rw [List.length_map] at h1
          exact h1
        have ev : v = .int l[j] := by
          rw [List.getElem?_map, List.getElem?_eq_getElem hj] at hv
          exact (Option.some.inj hv).symm
        subst ev
        have hcj := hz.2 _ (List.getElem_mem hj)
        have hi2 : ([some (V.ref a), some (V.ref b), some (V.ref c), some (V.int l[j])] : L2.St)[i]? = some (some (.ref t)) := by
          rcases (show i = 0 ∨ i = 1 ∨ i = 2 by omega) with rfl | rfl | rfl
          · exact hi
          · exact hi
          · exact hi
        refine ⟨rfl, yesT ⟨.ref t, hi2, .int l[j], rfl, t, _, _, _, rfl, rfl, SqT.of (sm _ _ ht), col_get hcj.1 hcj.2, _, eD, ?_, Same.put sm nD, ?_⟩⟩
        · unfold prj
          rw [List.length_map, List.length_map, List.length_take]
          exact small1000 (by have := hz.1; omega)
        · rw [upd_same, List.take_add_one, List.getElem?_eq_getElem hj]
          unfold prj
          rw [Option.toList_some, List.map_append, List.map_append]
          rfl
      · obtain ⟨sm, eD⟩ := hP
        rw [List.length_map, List.take_length] at eD
        exact hq H2 sm eD
    refine ⟨_, pss_one (ps_ret (pe_cmpR (op_eqD hr.units)
        (pe_lc (own := [("column", 3)]) (g := gName 3) (by rfl) scAgree.nd (pi_tup (pv 2)) (blkOk_by (N := nAgree) (sc := defScope sAgree) (by decide +kernel)) (fun _ _ _ _ _ => pg_name (i := 3) scAgree.nd rfl (Or.inl rfl)) (fun _ _ _ _ _ => pts_nil) (fun _ _ _ _ _ => pe_ix (r := rIxT K) ix_tup (pv 0) (pv 3) (fun _ _ => rfl)))
        (pe_lc (own := [("column", 3)]) (g := gName 3) (by rfl) scAgree.nd (pi_tup (pv 2)) (blkOk_by (N := nAgree) (sc := defScope sAgree) (by decide +kernel)) (fun _ _ _ _ _ => pg_name (i := 3) scAgree.nd rfl (Or.inl rfl)) (fun _ _ _ _ _ => pts_nil) (fun _ _ _ _ _ => pe_ix (r := rIxT K) ix_tup (pv 1) (pv 3) (fun _ _ => rfl))) (nomark _))), ?_⟩
    refine ⟨.ref c, rfl, c, rfl, ⟨_, SqT.of ec⟩, fun D nD => turns _ _ D a x 0 _ ⟨none, rfl⟩ rfl (by decide) ea ec hx nD fun H2 s2 e2 => ?_⟩
    refine ⟨.ref c, rfl, c, rfl, ⟨_, SqT.of (s2 _ _ ec)⟩, fun D2 nD2 => turns _ _ D2 b y 1 _ ⟨none, rfl⟩ rfl (by decide) (s2 _ _ eb) (s2 _ _ ec) hy nD2 fun H3 s3 e3 => ?_⟩
    refine ⟨_, _, Dp.lstI (s3 _ _ e2), Dp.lstI e3, shaped_lst _, shaped_lst _, ?_⟩
    rw [eqv_lst]
    exact q H3 (s2.trans s3)

/-! ### the law: its own least breach -/
def spBr (K : PySem.W.Frag) : Sp := fun vs H Q _ => ∃ (s : Addr) (sw : List Int) (st dp : V) (t : Int) (l r : List Int) (n : Int) (R : List (List Int)) (S : List (List (List Int))), vs = [.ref s, st, dp] ∧ H s = some (.tup (sw.map V.int)) ∧ sw[t.toNat]? = some n ∧ n ≤ 20 ∧ SetDep K H st dp t l r n R S ∧ ∀ H' o v, Same H H' → Br l r R o → Res K H' o v → Q v H'
theorem ok_br {f fA : Addr} {fd fdA : FuncData} (mt : mg "tuple" = none) (ml : mg "len" = none) (mi : mg "int" = none) (mr : mg "range" = none) (F : Fun K "_law_breach" "_law_breach" sBreach f fd) (FA : Fun K "_law_agree" "_law_agree" sAgree fA fdA) (bA : Binds K fdA ["one", "other", "columns"] []) (gA : mg "_law_agree" = some (.ref fA)) :
    FnOk P w K mg base CX0 2 f fd ["scheme", "store", "dependency"] (spBr K) := by
  have GA : FnOk P w K mg base CX0 1 fA fdA ["one", "other", "columns"] spAgree := ok_agree FA
  refine F.ok scBr (fun vs H Q E h => ?_) (fun cdv A outer s H vs Q E hr h => ?_)
  · obtain ⟨s, sw, st, dp, t, l, r, n, R, S, rfl, _⟩ := h
    rfl
  · obtain ⟨sc, sw, st, dp, t, l, r, n, R, S, rfl, esc, hn, hn20, hD, q⟩ := h
    obtain ⟨d, lc, rc, rfl, ed, el, er⟩ := hD.dp.two
    obtain ⟨sa, xs, u, rfl, es, eu, iu⟩ := hD.st.storeGet hD.tR
    obtain ⟨a, ks, rfl, ea, eR, hks⟩ := iu.rows
    have et : t = ((t.toNat : Nat) : Int) := by have := hD.t0; omega
    have hkl : ks.length ≤ 100 := by rw [← List.length_map (f := (·.2)), eR]; exact hD.len
    have hlen : ∀ p ∈ ks, (p.2.length : Int) = n := fun p hp => hD.tab.len p.2 (by rw [← eR]; exact List.mem_map.mpr ⟨p, hp, rfl⟩)
    have asc : (ks.map (·.2)).Pairwise (· < ·) := by rw [eR]; exact hD.tab.asc
    refine ⟨_, pss_cons (ps_set (i := 3) scBr.nd rfl (.inl rfl) (pe_ix ix_tup (pv 2) pe_int (fun _ _ => rfl)))
      (pss_cons (ps_set (i := 4) scBr.nd rfl (.inl rfl) (pe_ix ix_tup (pv 1) (pe_ix ix_tup (pv 2) pe_int (fun _ _ => rfl)) (fun _ _ => rfl)))
      (pss_cons (ps_set (i := 5) scBr.nd rfl (.inl rfl) (pe_ix ix_tup (pv 0) (pe_ix ix_tup (pv 2) pe_int (fun _ _ => rfl)) (fun _ _ => rfl)))
      (pss_cons (ps_if (pt_cmpR op_eq (pv 3) pe_str (nomark _)) (pss_one ps_never) pss_nil)
      (pss_cons (ps_if (PW.pt (pw_and (pt_cmpR op_eq (pv 3) pe_str (nomark _)) (pw_and1 (pt_cmpR op_gt (pe_callB call_len_seq (by rfl) ml PySem.boot_len (pa_cons (pv 4) pa_nil)) pe_int (nomark _))))) (pss_one ps_never) pss_nil)
      (pss_cons (ps_set (i := 6) scBr.nd rfl (.inl rfl) pe_dnewT)
      (pss_cons (ps_for PassesOwn.never rfl (pi_tup (pv 4)) (pg_name (i := 7) scBr.nd rfl (.inl rfl)) (pss_one (ps_dput (hu_of hr) (pv 6) (pv 7) pe_bl rfl)))
      (pss_cons (ps_for PassesOwn.never rfl (pi_tup (pv 4)) (pg_name (i := 8) scBr.nd rfl (.inr rfl)) (pss_one (ps_if (pt_cmpR op_eq (pv 3) pe_str (nomark _)) (pss_cons ps_never (pss_one ps_never))
        (pss_one (ps_for PassesOwn.never rfl (pi_tup (pv 4)) (pg_name (i := 10) scBr.nd rfl (.inr rfl))
          (pss_one (ps_if (pt_val (pe_call GA hr (by rfl) gA FA.kp bA .nil pass0 (pa_cons (pv 8) (pa_cons (pv 10) (pa_cons (pe_ix ix_tup (pv 2) pe_int (fun _ _ => rfl)) pa_nil)))))
            (C8.pss_cut (ps_set (i := 11) scBr.nd rfl (.inr rfl) (pe_op op_catA (pe_ix ix_tup (pv 2) pe_int (fun _ _ => rfl)) (pe_ix ix_tup (pv 2) pe_int (fun _ _ => rfl))))
            (pss_cons (ps_set (i := 12) scBr.nd rfl (.inl rfl) (pe_callTy call_tuple_of (by rfl) mt boot_tuple (pa_cons
                (pe_lc (own := [("column", 13)]) (g := gName 13) (by rfl) scBr.nd (pi_range1 rfl mr (pa_cons (pv 5) pa_nil)) (blkOk_by (N := nBr) (sc := defScope sBreach) (by decide +kernel)) (fun _ _ _ _ _ => pg_name (i := 13) scBr.nd rfl (Or.inl rfl)) (fun _ _ _ _ _ => pts_nil)
                  (fun _ _ _ _ _ => pe_ix (r := rIxL K) ix_list (pe_lst (pa_cons (pe_ix (r := rIxT K) ix_tup (pv 10) (pv 13) (fun _ _ => rfl)) (pa_cons (pe_ix (r := rIxT K) ix_tup (pv 8) (pv 13) (fun _ _ => rfl)) pa_nil)))
                    (pe_callTy call_int1 (by rfl) mi boot_int (pa_cons (pe_cmpR (r := rIn K false) op_in_seq (pv 13) (pv 11) (by rfl)) pa_nil)) (fun _ _ => rfl))) pa_nil)))
            (pss_cons (ps_if (PW.pt (pw_and (pt_cmpR op_eq (pv 3) pe_str (nomark _)) (pw_and1 (pt_not (pt_val (pe_call GA hr (by rfl) gA FA.kp bA .nil pass0 (pa_cons (pv 8) (pa_cons (pv 10) (pa_cons (pe_ix ix_tup (pv 2) pe_int (fun _ _ => rfl)) pa_nil)))))))))
              (pss_one (ps_ret (pe_tup (pa_cons (pv 8) (pa_cons (pv 10) pa_nil))))) pss_nil)
            (pss_one (ps_if (PW.pt (pw_and (pt_cmpR op_eq (pv 3) pe_str (nomark _)) (pw_and1 (pt_cmpR (op_notIn_seq) (pv 12) (pv 6) (by rfl))))) (pss_one ps_never) pss_nil))))) pss_nil)))))))
      (pss_one (ps_ret pe_non))))))))), ?_⟩
    refine ⟨.ref d, rfl, d, _, 0, .str (kindS false), rfl, rfl, SqT.of ed, atI_nat (j := 0) rfl, ?_⟩
    refine ⟨.ref sa, rfl, .ref d, rfl, d, _, 1, .int t, rfl, rfl, SqT.of ed, atI_nat (j := 1) rfl, sa, xs, t, .ref a, rfl, rfl, SqT.of es, at_of et eu, ?_⟩
    have hnn : (sw.map V.int)[t.toNat]? = some (.int n) := by
      rw [List.getElem?_map, hn]
      rfl
    refine ⟨.ref sc, rfl, .ref d, rfl, d, _, 1, .int t, rfl, rfl, SqT.of ed, atI_nat (j := 1) rfl, sc, _, t, .int n, rfl, rfl, SqT.of esc, at_of et hnn, ?_⟩
    refine ⟨.str (kindS false), rfl, rfl, _, rfl, iteF ?_⟩
    refine ⟨.str (kindS false), rfl, rfl, _, rfl, iteF (iteF ?_)⟩
    refine fun kn nkn => ?_
    have sk := same_upd (o := HO.dT []) nkn
    refine ⟨.ref a, rfl, a, rfl, ⟨_, SqT.of (sk _ _ ea)⟩, for_tup (K := K) (a := a) (xs := ks.map fun p => V.ref p.1) (fun i σ H3 => ∃ (kvs : List (List L2.Key × V)) (y7 : Option V), σ = [some (.ref sc), some (.ref sa), some (.ref d), some (.str (kindS false)), some (.ref a), some (.int n), some (.ref kn), y7, none, none, none, none, none, none] ∧ Same H H3 ∧ H3 kn = some (.dT kvs) ∧ kvs.length ≤ i)
      ⟨[], none, rfl, sk, upd_same, Nat.le_refl _⟩ (fun i σ H3 _ hP => by obtain ⟨_, _, _, s3, _⟩ := hP; exact SqT.of (s3 _ _ ea)) (fun i x σ H3 hx hP => ?_) (fun σ H3 hP => ?_)⟩
    · obtain ⟨kvs, y7, rfl, s3, ekn, hl3⟩ := hP
      have hi : i < ks.length := by
        obtain ⟨h1, _⟩ := List.getElem?_eq_some_iff.mp hx
        rw [List.length_map] at h1
        exact h1
      have ex : x = .ref ks[i].1 := by
        rw [List.getElem?_map, List.getElem?_eq_getElem hi] at hx
        exact (Option.some.inj hx).symm
      subst ex
      have hb := s3 _ _ (hks _ (List.getElem_mem hi))
      refine ⟨.ref kn, rfl, .ref ks[i].1, rfl, kn, _, rfl, DPut.t (k := ks[i].2.map Sum.inl) ekn (by rw [keys_eq]; exact hb) (small1000 (by omega)), ?_⟩
      have hpl := length_putK kvs (ks[i].2.map Sum.inl) (.bl true)
      exact ⟨_, _, rfl, Same.put s3 nkn, upd_same, by omega⟩
    · obtain ⟨kvs, y7, rfl, s3, ekn, hl3⟩ := hP
      refine ⟨.ref a, rfl, a, rfl, ⟨_, SqT.of (s3 _ _ ea)⟩, for_tup (K := K) (a := a) (xs := ks.map fun p => V.ref p.1) (fun i σ H4 => ∃ (y7 y8 y10 y11 y12 y13 : Option V), σ = [some (.ref sc), some (.ref sa), some (.ref d), some (.str (kindS false)), some (.ref a), some (.int n), some (.ref kn), y7, y8, none, y10, y11, y12, y13] ∧ Same H H4 ∧ ∀ a' ∈ R.take i, ∀ b' ∈ R, ¬ Bad l r a' b')
        ⟨_, none, none, none, none, none, rfl, s3, fun a' ha' => (by simp at ha')⟩ (fun i σ H4 _ hP => by obtain ⟨_, _, _, _, _, _, _, s4, _⟩ := hP; exact SqT.of (s4 _ _ ea)) (fun i x σ H4 hx hP => ?_) (fun σ H4 hP => ?_)⟩
      · obtain ⟨y7, y8, y10, y11, y12, y13, rfl, s4, hno⟩ := hP
        have hi : i < ks.length := by
          obtain ⟨h1, _⟩ := List.getElem?_eq_some_iff.mp hx
          rw [List.length_map] at h1
          exact h1
        generalize hki : ks[i] = kp
        obtain ⟨b1, x1⟩ := kp
        have ex : x = .ref b1 := by
          rw [List.getElem?_map, List.getElem?_eq_getElem hi, hki] at hx
          exact (Option.some.inj hx).symm
        subst ex
        have m1 : (b1, x1) ∈ ks := by rw [← hki]; exact List.getElem_mem hi
        have hRi : R[i]? = some x1 := by
          rw [← eR, List.getElem?_map, List.getElem?_eq_getElem hi, hki]
          rfl
        refine ⟨.str (kindS false), rfl, rfl, _, rfl, iteF ?_⟩
        refine ⟨.ref a, rfl, a, rfl, ⟨_, SqT.of (s4 _ _ ea)⟩, for_tup (K := K) (a := a) (xs := ks.map fun p => V.ref p.1) (fun j σ H5 => ∃ (y7 y10 y11 y12 y13 : Option V), σ = [some (.ref sc), some (.ref sa), some (.ref d), some (.str (kindS false)), some (.ref a), some (.int n), some (.ref kn), y7, some (.ref b1), none, y10, y11, y12, y13] ∧ Same H H5 ∧ ∀ b' ∈ R.take j, ¬ Bad l r x1 b')
          ⟨_, _, _, _, _, rfl, s4, fun b' hb' => (by simp at hb')⟩ (fun j σ H5 _ hP => by obtain ⟨_, _, _, _, _, _, s5, _⟩ := hP; exact SqT.of (s5 _ _ ea)) (fun j x σ H5 hx hP => ?_) (fun σ H5 hP => ?_)⟩
        · obtain ⟨z7, z10, z11, z12, z13, rfl, s5, hno2⟩ := hP
          have hj : j < ks.length := by
            obtain ⟨h1, _⟩ := List.getElem?_eq_some_iff.mp hx
            rw [List.length_map] at h1
            exact h1
          generalize hkj : ks[j] = kp
          obtain ⟨b2, x2⟩ := kp
          have ex : x = .ref b2 := by
            rw [List.getElem?_map, List.getElem?_eq_getElem hj, hkj] at hx
            exact (Option.some.inj hx).symm
          subst ex
          have m2 : (b2, x2) ∈ ks := by rw [← hkj]; exact List.getElem_mem hj
          have hRj : R[j]? = some x2 := by
            rw [← eR, List.getElem?_map, List.getElem?_eq_getElem hj, hkj]
            rfl
          have step : ¬ Bad l r x1 x2 → ∀ b' ∈ R.take (j + 1), ¬ Bad l r x1 b' := fun hB b' hb' => by
            rw [List.take_add_one, hRj] at hb'
            rcases List.mem_append.mp hb' with hb' | hb'
            · exact hno2 b' hb'
            · rw [List.mem_singleton.mp hb']
              exact hB
          have l1 : (x1.length : Int) = n := hlen _ m1
          have l2 : (x2.length : Int) = n := hlen _ m2
          refine ⟨.ref b1, rfl, .ref b2, rfl, .ref d, rfl, d, _, 2, .ref lc, rfl, rfl, SqT.of (s5 _ _ ed), atI_nat (j := 2) rfl, b1, b2, lc, x1, x2, l, rfl, s5 _ _ (hks _ m1), s5 _ _ (hks _ m2), s5 _ _ el, by rw [l1]; exact hD.l, by rw [l2]; exact hD.l, fun H6 s6 => ⟨_, rfl, ite2 (fun hL => ?_) (fun hL => ?_)⟩⟩
          · have eL := of_decide_eq_true hL
            have s06 := s5.trans s6
            refine ⟨fun σ H7 => ∃ (bt : Addr) (bs : List Int) (y7 y12 y13 : Option V), σ = [some (.ref sc), some (.ref sa), some (.ref d), some (.str (kindS false)), some (.ref a), some (.int n), some (.ref kn), y7, some (.ref b1), none, some (.ref b2), some (.ref bt), y12, y13] ∧ Same H H7 ∧ H7 bt = some (.tup (bs.map V.int)), ?_, fun σ H7 hM => ?_⟩
            · refine ⟨.ref d, rfl, d, _, 2, .ref lc, rfl, rfl, SqT.of (s06 _ _ ed), atI_nat (j := 2) rfl, .ref d, rfl, d, _, 3, .ref rc, rfl, rfl, SqT.of (s06 _ _ ed), atI_nat (j := 3) rfl, lc, rc, l.map V.int, r.map V.int, rfl, rfl, SqT.of (s06 _ _ el), SqT.of (s06 _ _ er), ?_, fun _ => ?_, fun _ _ => ?_, fun _ _ p np => ?_⟩
              · rw [List.length_map, List.length_map]
                exact Nat.le_trans (show _ ≤ 40 by have := hD.l.1; have := hD.r.1; omega) (by decide)
              · exact ⟨rc, r, _, _, _, rfl, s06, s06 _ _ er⟩
              · exact ⟨lc, l, _, _, _, rfl, s06, s06 _ _ el⟩
              · exact ⟨p, l ++ r, _, _, _, rfl, s06.trans (same_upd np), by rw [upd_same, List.map_append]⟩
            · obtain ⟨bt, bs, w7, w12, w13, rfl, s7, ebt⟩ := hM
              refine ⟨.int n, rfl, n, rfl, by omega, by omega, fun C nC => lc_range (lo := 0) (n := n.toNat) (fun i H8 => Same H7 H8 ∧ ∃ acc : List V, H8 C = some (.lst acc) ∧ acc.length = i)
                ⟨same_upd nC, [], upd_same, rfl⟩ (fun m H8 hm hP => ?_) (fun H8 hP => ?_)⟩
              · obtain ⟨s8, acc, eC, hal⟩ := hP
                have s08 := s7.trans s8
                have c2 : atI (x2.map V.int) (0 + (m : Int)) = some (.int (x2.getD (0 + (m : Int)).toNat 0)) := col_get (by omega) (by omega)
                have c1 : atI (x1.map V.int) (0 + (m : Int)) = some (.int (x1.getD (0 + (m : Int)).toNat 0)) := col_get (by omega) (by omega)
                refine ⟨rfl, yesT ⟨.ref b2, rfl, .int (0 + (m : Int)), rfl, b2, _, _, _, rfl, rfl, SqT.of (s08 _ _ (hks _ m2)), c2, .ref b1, rfl, .int (0 + (m : Int)), rfl, b1, _, _, _, rfl, rfl, SqT.of (s08 _ _ (hks _ m1)), c1, by show 2 ≤ sizeLine; decide, fun q1 nq1 => ?_⟩⟩
                have sq := same_upd (o := HO.lst [.int (x2.getD (0 + (m : Int)).toNat 0), .int (x1.getD (0 + (m : Int)).toNat 0)]) nq1
                have fin : ∀ v, ∃ acc, (upd H8 q1 (HO.lst [.int (x2.getD (0 + (m : Int)).toNat 0), .int (x1.getD (0 + (m : Int)).toNat 0)])) C = some (.lst acc) ∧ acc.length < sizeLine ∧ Same H7 (upd (upd H8 q1 (HO.lst [.int (x2.getD (0 + (m : Int)).toNat 0), .int (x1.getD (0 + (m : Int)).toNat 0)])) C (.lst (acc ++ [v]))) ∧
                    ∃ acc' : List V, (upd (upd H8 q1 (HO.lst [.int (x2.getD (0 + (m : Int)).toNat 0), .int (x1.getD (0 + (m : Int)).toNat 0)])) C (.lst (acc ++ [v]))) C = some (.lst acc') ∧ acc'.length = m + 1 :=
                  fun v => ⟨acc, sq _ _ eC, small1000 (by omega), Same.put (s8.trans sq) nC, acc ++ [v], upd_same, by rw [List.length_append, hal]; rfl⟩
                refine ⟨.int (0 + (m : Int)), rfl, .ref bt, rfl, bt, bs.map V.int, rfl, .inr (SqT.of ((s8.trans sq) _ _ ebt)), rfl, flat_all bs, .inr ⟨_, rfl, ?_⟩⟩
                cases hin : (if false = true then !inV (V.int (0 + (m : Int))) (bs.map V.int) else inV (V.int (0 + (m : Int))) (bs.map V.int)) with
                | true => exact ⟨q1, _, 1, _, rfl, rfl, SqL.of upd_same, atI_nat (j := 1) rfl, fin _⟩
                | false => exact ⟨q1, _, 0, _, rfl, rfl, SqL.of upd_same, atI_nat (j := 0) rfl, fin _⟩
              · obtain ⟨s8, acc, eC, hal⟩ := hP
                refine ⟨C, _, rfl, .inl ⟨SqL.of eC, fun t9 nt9 => ?_⟩⟩
                have s09 := (s7.trans s8).trans (same_upd (o := HO.tup acc) nt9)
                refine ⟨.str (kindS false), rfl, rfl, _, rfl, iteT ?_⟩
                refine ⟨.ref b1, rfl, .ref b2, rfl, .ref d, rfl, d, _, 3, .ref rc, rfl, rfl, SqT.of (s09 _ _ ed), atI_nat (j := 3) rfl, b1, b2, rc, x1, x2, r, rfl, s09 _ _ (hks _ m1), s09 _ _ (hks _ m2), s09 _ _ er, by rw [l1]; exact hD.r, by rw [l2]; exact hD.r, fun H10 s10 => ⟨_, rfl, ?_⟩⟩
                have s010 := s09.trans s10
                by_cases eR2 : prj r x1 = prj r x2
                · rw [decide_eq_true eR2]
                  refine iteF ?_
                  refine ⟨.str (kindS false), rfl, rfl, _, rfl, iteF (iteF ?_)⟩
                  exact ⟨_, _, _, _, _, rfl, s010, step fun hB => hB.2 eR2⟩
                · rw [decide_eq_false eR2]
                  refine iteT ⟨.ref b1, rfl, .ref b2, rfl, by show 2 ≤ sizeLine; decide, fun p np => ?_⟩
                  refine q _ (some (x1, x2)) _ (s010.trans (same_upd np)) (Br.found hD.tab.asc hRi hRj hno hno2 ⟨eL, eR2⟩) ?_
                  exact .tup upd_same (.cons (Im.ints ((s010.trans (same_upd np)) _ _ (hks _ m1))) (.cons (Im.ints ((s010.trans (same_upd np)) _ _ (hks _ m2))) .nil))
          · exact ⟨_, _, _, _, _, rfl, s5.trans s6, step fun hB => hL (decide_eq_true hB.1)⟩
        · obtain ⟨z7, z10, z11, z12, z13, rfl, s5, hno2⟩ := hP
          rw [List.length_map, ← List.length_map (f := (·.2)), eR, List.take_length] at hno2
          refine ⟨_, _, _, _, _, _, rfl, s5, fun a' ha' b' hb' => ?_⟩
          rw [List.take_add_one, hRi] at ha'
          rcases List.mem_append.mp ha' with ha' | ha'
          · exact hno a' ha' b' hb'
          · rw [List.mem_singleton.mp ha']
            exact hno2 b' hb'
      · obtain ⟨y7, y8, y10, y11, y12, y13, rfl, s4, hno⟩ := hP
        rw [List.length_map, ← List.length_map (f := (·.2)), eR, List.take_length] at hno
        exact q H4 none .non s4 hno rfl
end
end NK

namespace NK
open PySem PySem.Spec PyProof.Rows L2
theorem Go.ofSame {d : Addr} {H H' : Hp} (s : Same H H') (D : Dr H d) : Go d H H' := by
  obtain ⟨ds, e, l⟩ := D
  exact ⟨.same s, ds, s _ _ e, l⟩
theorem cutDrop (xs : List V) (m : Nat) : cutV xs (some (m : Int)) none = xs.drop m := by
  unfold cutV
  rw [HT.sIx_none, HT.sIx_nat]
  by_cases h : m ≤ xs.length
  · rw [Nat.min_eq_left h, List.take_of_length_le (by rw [List.length_drop]; omega)]
  · rw [Nat.min_eq_right (by omega), List.drop_eq_nil_of_le (by omega), List.drop_eq_nil_of_le (by omega), List.take_nil]
theorem cutAll {xs : List V} {lo hi : Option Int} (h : HT.sIx xs.length 0 lo = 0 ∧ HT.sIx xs.length xs.length hi = xs.length) : cutV xs lo hi = xs := by
  unfold cutV
  rw [h.1, h.2, List.drop_zero, Nat.sub_zero, List.take_length]
theorem ImAll.set {K : PySem.W.Frag} {H : Hp} {v : V} {d : PyData} (h : Im K H v d) : ∀ {vs : List V} {ds : List PyData} (i : Nat), ImAll K H vs ds → ImAll K H (vs.set i v) (ds.set i d)
  | _, _, _, .nil => .nil
  | _, _, 0, .cons _ r => .cons h r
  | _, _, i + 1, .cons g r => .cons g (ImAll.set h i r)
section
variable {X : Cx}
/-- t[lo:hi] and t + u of tuples, whether the object is new or one of the old ones -/
def rSlU (K : PySem.W.Frag) : V → Option Int → Option Int → Hp → VK → Prop := fun x lo hi H Q => ∃ a xs, x = .ref a ∧ H a = some (.tup xs) ∧ ∀ p H1, Same H H1 → H1 p = some (.tup (cutV xs lo hi)) → Q (.ref p) H1
theorem sl_tupU : SlR X (rSlU X.K) := by
  intro pins s σ H x v vl vu lo hi sl Q I rx hs pl pu h
  obtain ⟨a, xs, rfl, ha, q⟩ := h
  exact sl_tupA pins s σ H _ v vl vu lo hi sl Q I rx hs pl pu ⟨a, xs, rfl, SqT.of ha, fun hw => q a H (Same.refl H) (by rw [cutAll hw]; exact ha), fun _ p np => q p _ (same_upd np) upd_same⟩
def rCatU (K : PySem.W.Frag) : R2 := fun x y H Q => ∃ a b xs ys, x = .ref a ∧ y = .ref b ∧ H a = some (.tup xs) ∧ H b = some (.tup ys) ∧ xs.length + ys.length ≤ 100000 ∧ ∀ p H1, Same H H1 → H1 p = some (.tup (xs ++ ys)) → Q (.ref p) H1
theorem op_catU : OpR X (binaryOp .Add) (rCatU X.K) := by
  intro pins s σ H x y v u Q I rx ry h
  obtain ⟨a, b, xs, ys, rfl, rfl, ha, hb, hz, q⟩ := h
  refine op_catA pins s σ H _ _ v u Q I rx ry ⟨a, b, xs, ys, rfl, rfl, SqT.of ha, SqT.of hb, Nat.le_trans hz (by decide), fun e => q b H (Same.refl H) ?_, fun _ e => q a H (Same.refl H) ?_, fun _ _ p np => q p _ (same_upd np) upd_same⟩
  · rw [e, List.nil_append]
    exact hb
  · rw [e, List.append_nil]
    exact ha
end
theorem scKind : FnScope ["draws", "scheme", "kind", "table"] ["draws", "scheme", "kind"] (defScope sKind) := ⟨rfl, rfl, rfl, by decide +kernel, rfl, by decide +kernel, by decide +kernel⟩
theorem scWith : FnScope ["store", "table", "rows"] ["store", "table", "rows"] (defScope sWith) := ⟨rfl, rfl, rfl, by decide +kernel, rfl, by decide +kernel, by decide +kernel⟩
section
variable {P : Program} {w : World} {K : PySem.W.Frag} {mg : Str → Option Value} {base : Heap}
/-! ### the law: a functional dependency drawn -/
def spKind (K : PySem.W.Frag) : Sp := fun vs H Q _ => ∃ (d s : Addr) (sw : List Int), vs = [.ref d, .ref s, .str (kindS false)] ∧ H s = some (.tup (sw.map V.int)) ∧ Widths 13 sw ∧ Dr H d ∧
  ∀ H' p t l r n, Go d H H' → H p = none → Im K H' (.ref p) (Dep.two false t l r).data → 0 ≤ t → sw[t.toNat]? = some n → In n l → In n r → Q (.ref p) H'
theorem ok_kind {f fT fC : Addr} {fd fdT fdC : FuncData} (T : Hlp K mg fT fdT) (F : Fun K "_law_kind_of" "_law_kind_of" sKind f fd) (FC : Fun K "_law_columns" "_law_columns" sCols fC fdC) (bC : Binds K fdC ["draws", "width"] []) (gC : mg "_law_columns" = some (.ref fC)) :
    FnOk P w K mg base CX0 3 f fd ["draws", "scheme", "kind"] (spKind K) := by
  have GT : FnOk P w K mg base CX0 1 fT fdT ["draws", "many"] spTake := ok_take T.FT T.len T.int
  have GC : FnOk P w K mg base CX0 2 fC fdC ["draws", "width"] spCols := ok_cols T FC
  refine F.ok scKind (fun vs H Q E h => ?_) (fun cdv A outer s H vs Q E hr h => ?_)
  · obtain ⟨d, s, sw, rfl, _⟩ := h
    rfl
  · obtain ⟨d, sc, sw, rfl, es, hw, D, q⟩ := h
    have hr1 := hr.mono (show 1 ≤ 2 by decide)
    refine ⟨_, pss_cons (ps_set (i := 3) scKind.nd rfl (.inl rfl) (pe_call GT hr1 (by rfl) T.gT T.FT.kp T.bT .nil pass0 (pa_cons (pv 0) (pa_cons (pe_callB call_len_seq (by rfl) T.len PySem.boot_len (pa_cons (pv 1) pa_nil)) pa_nil))))
      (pss_cons (ps_if (pt_cmpR op_eq (pv 2) pe_str (nomark _)) (pss_one ps_never) pss_nil)
      (pss_cons (ps_if (pt_cmpR op_eq (pv 2) pe_str (nomark _)) (pss_one ps_never) pss_nil)
      (pss_one (ps_ret (pe_tup (pa_cons (pv 2) (pa_cons (pv 3) (pa_cons (pe_call GC hr (by rfl) gC FC.kp bC .nil pass0 (pa_cons (pv 0) (pa_cons (pe_ix ix_tup (pv 1) (pv 3) (fun _ _ => rfl)) pa_nil)))
        (pa_cons (pe_call GC hr (by rfl) gC FC.kp bC .nil pass0 (pa_cons (pv 0) (pa_cons (pe_ix ix_tup (pv 1) (pv 3) (fun _ _ => rfl)) pa_nil))) pa_nil))))))))), ?_⟩
    have w1 := hw.1
    refine ⟨.ref d, rfl, .ref sc, rfl, sc, _, rfl, .inr (SqT.of es), d, _, rfl, by rw [List.length_map]; omega, D, fun H1 t g1 t0 t1 => ?_⟩
    rw [List.length_map] at t1
    have ht : t.toNat < sw.length := by omega
    have et : t = ((t.toNat : Nat) : Int) := by omega
    have hn : sw[t.toNat]? = some sw[t.toNat] := List.getElem?_eq_getElem ht
    have hx : (sw.map V.int)[t.toNat]? = some (.int sw[t.toNat]) := by
      rw [List.getElem?_map, hn]
      rfl
    have hwn := hw.2.2 _ (List.getElem_mem ht)
    refine ⟨.str (kindS false), rfl, rfl, _, rfl, iteF ?_⟩
    refine ⟨.str (kindS false), rfl, rfl, _, rfl, iteF ?_⟩
    refine ⟨.str (kindS false), rfl, .int t, rfl, .ref d, rfl, .ref sc, rfl, .int t, rfl, sc, _, t, _, rfl, rfl, SqT.of (g1.keepT D es), at_of et hx, d, sw[t.toNat], rfl, by omega, by omega, g1.dr, fun H3 p1 c1 g3 np1 e1 hc1 => ?_⟩
    have g13 := g1.trans g3
    refine ⟨.ref d, rfl, .ref sc, rfl, .int t, rfl, sc, _, t, _, rfl, rfl, SqT.of (g13.keepT D es), at_of et hx, d, sw[t.toNat], rfl, by omega, by omega, g3.dr, fun H4 p2 c2 g4 np2 e2 hc2 => ?_⟩
    refine ⟨by show 4 ≤ sizeLine; decide, fun p np => ?_⟩
    have g14 := g13.trans g4
    have s5 := same_upd (o := HO.tup [.str (kindS false), .int t, .ref p1, .ref p2]) np
    refine q _ p t c1 c2 _ (g14.new np) (g14.free np) ?_ t0 hn (In.of hc1 (by omega)) (In.of hc2 (by omega))
    exact .tup upd_same (.cons (.str _) (.cons (.int _) (.cons (Im.ints (s5 _ _ (g4.keepT g3.dr e1))) (.cons (Im.ints (s5 _ _ e2)) .nil))))

/-! ### the law: a store with other rows in one table -/
def spWith (K : PySem.W.Frag) : Sp := fun vs H Q _ => ∃ (v : V) (t : Int) (l : Addr) (S : List (List (List Int))) (n : Int) (ks : List (Addr × List Int)), vs = [v, .int t, .ref l] ∧ Im K H v (storeD S) ∧ 0 ≤ t ∧ t.toNat < S.length ∧ S.length ≤ 100 ∧ (SqL K H l (ks.map fun p => V.ref p.1) ∨ SqT K H l (ks.map fun p => V.ref p.1)) ∧
  1 ≤ n ∧ ks.length < 64 ∧ (∀ k ∈ ks, H k.1 = some (.tup (k.2.map V.int)) ∧ (k.2.length : Int) = n) ∧
  ∀ H' v' R, Same H H' → Im K H' v' (storeD (S.set t.toNat R)) → Tab n R → R.length ≤ ks.length → (∀ x, x ∈ R ↔ x ∈ ks.map (·.2)) → Q v' H'
theorem ok_with {f : Addr} {fd : FuncData} {k : Nat} (mt : mg "tuple" = none) (mset : mg "set" = none) (mso : mg "sorted" = none) (F : Fun K "_law_with" "_law_with" sWith f fd) : FnOk P w K mg base CX0 (k + 1) f fd ["store", "table", "rows"] (spWith K) := by
  refine F.ok scWith (fun vs H Q E h => ?_) (fun cdv A outer s H vs Q E hr h => ?_)
  · obtain ⟨v, t, l, S, n, ks, rfl, _⟩ := h
    rfl
  · obtain ⟨v, t, l, S, n, ks, rfl, im, t0, t1, hS, hl, n1, k64, hks, q⟩ := h
    cases im with
    | tup es r =>
      rename_i sa xs
      have hxl := r.length
      rw [List.length_map] at hxl
      obtain ⟨T, rfl⟩ := Int.eq_ofNat_of_zero_le t0
      rw [Int.toNat_natCast] at t1 q
      refine ⟨_, pss_one (ps_ret (pe_op op_catU (pe_op op_catU (pe_slice sl_tupU (pv 0) po_none (po_some (pv 1)))
          (pe_tup (pa_cons (pe_callTy call_tuple_of (by rfl) mt boot_tuple (pa_cons (pe_callB (NR.cr_srtI rfl hr.units) (by rfl) mso boot_sorted (pa_cons (pe_callTy (NR.cr_setR rfl hr.units) (by rfl) mset (by decide +kernel) (pa_cons (pv 2) pa_nil)) pa_nil)) pa_nil)) pa_nil)))
          (pe_slice sl_tupU (pv 0) (po_some (pe_op op_add (pv 1) pe_int)) po_none))), ?_⟩
      refine ⟨.ref sa, rfl, .int (T : Int), rfl, (T : Int), rfl, sa, xs, rfl, es, fun p1 H1 s1 e1 => ?_⟩
      rw [cutTake] at e1
      refine ⟨.ref l, rfl, l, ks, rfl, ?_, fun k hk => SqT.of (s1 _ _ (hks k hk).1), k64, fun a L na hsub hcov => ?_⟩
      · rcases hl with hl | hl
        · exact .inl (s1.seq hl)
        · exact .inr (SqT.same s1 hl)
      have sa' := s1.trans (same_upd (o := SetTO P w a L) na)
      refine ⟨a, L, rfl, upd_same, fun k hk => SqT.of (sa' _ _ (hks k (hsub k hk)).1), fun k hk e => ?_, fun M b pm asc nb => ⟨b, _, rfl, .inl ⟨SqL.of upd_same, fun t2 nt2 => ?_⟩⟩⟩
      · have := (hks k (hsub k hk)).2
        rw [e] at this
        have e2 : (0 : Int) = n := this
        omega
      have sb1 := sa'.trans (same_upd (o := HO.lst (M.map fun k => V.ref k.1)) nb)
      have sb := sb1.trans (same_upd (o := HO.tup (M.map fun k => V.ref k.1)) nt2)
      have hM : ∀ k ∈ M, k ∈ ks := fun k hk => hsub k (pm.mem_iff.mp hk)
      refine ⟨by show 1 ≤ sizeLine; decide, fun t3 nt3 => ?_⟩
      have st := sb.trans (same_upd (o := HO.tup [.ref t2]) nt3)
      have e1t : (upd (upd (upd (upd H1 a (SetTO P w a L)) b (.lst (M.map fun k => V.ref k.1))) t2 (.tup (M.map fun k => V.ref k.1))) t3 (.tup [.ref t2])) p1 = some (.tup (xs.take T)) :=
        same_upd nt3 _ _ (same_upd nt2 _ _ (same_upd nb _ _ (same_upd na _ _ e1)))
      refine ⟨p1, t3, xs.take T, [.ref t2], rfl, rfl, e1t, upd_same, by rw [List.length_take]; show _ + 1 ≤ _; omega, fun p4 H4 s4 e4 => ?_⟩
      have s04 := st.trans s4
      refine ⟨.ref sa, rfl, .int (T : Int), rfl, _, _, rfl, rfl, _, rfl, sa, xs, rfl, s04 _ _ es, fun p5 H5 s5 e5 => ?_⟩
      have ez : ((T : Int) + 1) = ((T + 1 : Nat) : Int) := by omega
      rw [ez, cutDrop] at e5
      refine ⟨p4, p5, _, _, rfl, rfl, s5 _ _ e4, e5, ?_, fun p6 H6 s6 e6 => ?_⟩
      · rw [List.length_append, List.length_take, List.length_drop]
        show _ + 1 + _ ≤ _
        omega
      have s46 := s5.trans s6
      have s06 := s04.trans s46
      have et2 : H6 t2 = some (.tup (M.map fun k => V.ref k.1)) := s46 _ _ (s4 _ _ ((same_upd nt3) _ _ upd_same))
      have iR : Im K H6 (.ref t2) (rowsD (M.map (·.2))) := .tup et2 (ImAll.rows M fun k hk => s06 _ _ (hks k (hM k hk)).1)
      refine q H6 (.ref p6) (M.map (·.2)) s06 (.tup (xs := xs.set T (.ref t2)) ?_ ?_) ⟨List.pairwise_map.mpr asc, fun x hx => ?_⟩ ?_ fun x => ⟨fun hx => ?_, fun hx => ?_⟩
      · rw [e6, List.set_eq_take_append_cons_drop, if_pos (by omega), List.append_assoc]
        rfl
      · rw [List.map_set]
        exact ImAll.set iR T (r.same s06)
      · obtain ⟨k, hk, rfl⟩ := List.mem_map.mp hx
        exact (hks k (hM k hk)).2
      · rw [List.length_map]
        exact sub_len (asc_nodup asc) hM
      · obtain ⟨k, hk, rfl⟩ := List.mem_map.mp hx
        exact List.mem_map.mpr ⟨k, hM k hk, rfl⟩
      · obtain ⟨k, hk, rfl⟩ := List.mem_map.mp hx
        obtain ⟨k', hk', e⟩ := List.mem_map.mp (hcov k hk)
        exact List.mem_map.mpr ⟨k', pm.mem_iff.mpr hk', e⟩
end
end NK

namespace NK
open PySem PySem.Spec PyProof.Rows L2
abbrev nThin : List Str := ["scheme", "store", "dependency", "k", "breach", "rows", "row"]
abbrev nLaw : List Str := ["script", "draws", "cell", "scheme", "k", "wide", "store", "dependency", "thin", "stores", "rows", "row", "more", "known", "due", "column"]
theorem scThin : FnScope nThin ["scheme", "store", "dependency"] (defScope sThin) := ⟨rfl, rfl, rfl, by decide +kernel, rfl, by decide +kernel, by decide +kernel⟩
theorem scLaw : FnScope nLaw ["script"] (defScope sLaw) := ⟨rfl, rfl, rfl, by decide +kernel, rfl, by decide +kernel, by decide +kernel⟩
/-- a def of the text where it stands, and how it is called -/
structure Df (K : PySem.W.Frag) (mg : Str → Option Value) (x : Str) (st : Stmt) (ps : List Str) (f : Addr) (fd : FuncData) : Prop where
  F : Fun K x x st f fd
  b : Binds K fd ps []
  g : mg x = some (.ref f)
theorem Im.pair {K : PySem.W.Frag} {H : Hp} {v : V} {x y : List Int} (h : Im K H v (.tuple [intsD x, intsD y])) : ∃ p q1 q2, v = .ref p ∧ H p = some (.tup [.ref q1, .ref q2]) ∧ H q1 = some (.tup (x.map V.int)) ∧ H q2 = some (.tup (y.map V.int)) := by
  cases h with
  | tup h q =>
    cases q with
    | cons i1 q =>
      cases q with
      | cons i2 q =>
        cases q
        obtain ⟨q1, rfl, e1⟩ := i1.toInts
        obtain ⟨q2, rfl, e2⟩ := i2.toInts
        exact ⟨_, q1, q2, rfl, h, e1, e2⟩
theorem getElem?_set_self' {α : Type} {S : List α} {i : Nat} {R : α} (h : i < S.length) : (S.set i R)[i]? = some R := by
  rw [List.getElem?_set, if_pos rfl, if_pos h]
section
variable {P : Program} {w : World} {K : PySem.W.Frag} {mg : Str → Option Value} {base : Heap}
/-! ### the law: rows that breach taken out -/
def spThin (K : PySem.W.Frag) : Sp := fun vs H Q _ => ∃ (s : Addr) (sw : List Int) (st dp : V) (t : Int) (l r : List Int) (n : Int) (R : List (List Int)) (S : List (List (List Int))), vs = [.ref s, st, dp] ∧ H s = some (.tup (sw.map V.int)) ∧ sw[t.toNat]? = some n ∧ 1 ≤ n ∧ n ≤ 20 ∧ SetDep K H st dp t l r n R S ∧ R.length ≤ 40 ∧ S.length ≤ 100 ∧
  ∀ H' v R' S', Same H H' → SetDep K H' v dp t l r n R' S' → R'.length ≤ 40 → S'.length ≤ 100 → Q v H'
theorem ok_thin {f fA fB fW : Addr} {fd fdA fdB fdW : FuncData} (B : Bts mg) (mset : mg "set" = none) (mso : mg "sorted" = none) (F : Fun K "_law_thinned" "_law_thinned" sThin f fd) (DA : Df K mg "_law_agree" sAgree ["one", "other", "columns"] fA fdA)
    (DB : Df K mg "_law_breach" sBreach ["scheme", "store", "dependency"] fB fdB) (DW : Df K mg "_law_with" sWith ["store", "table", "rows"] fW fdW) : FnOk P w K mg base CX0 3 f fd ["scheme", "store", "dependency"] (spThin K) := by
  have GB : FnOk P w K mg base CX0 2 fB fdB ["scheme", "store", "dependency"] (spBr K) := ok_br B.tuple B.len B.int B.range DB.F DA.F DA.b DA.g
  have GW : FnOk P w K mg base CX0 1 fW fdW ["store", "table", "rows"] (spWith K) := ok_with B.tuple mset mso DW.F
  refine F.ok scThin (fun vs H Q E h => ?_) (fun cdv A outer s H vs Q E hr h => ?_)
  · obtain ⟨s, sw, st, dp, t, l, r, n, R, S, rfl, _⟩ := h
    rfl
  · obtain ⟨sc, sw, st, dp, t, l, r, n, R, S, rfl, esc, hn, n1, n20, hD, hR, hSl, q⟩ := h
    have hr1 := hr.mono (show 1 ≤ 2 by decide)
    obtain ⟨d, lc, rc, rfl, ed, el, er⟩ := hD.dp.two
    have et : t = ((t.toNat : Nat) : Int) := by have := hD.t0; omega
    refine ⟨_, pss_cons (ps_for PassesOwn.never rfl (pi_range1 rfl B.range (pa_cons pe_int pa_nil)) (pg_name (i := 3) scThin.nd rfl (.inl rfl))
        (pss_cons (ps_set (i := 4) scThin.nd rfl (.inr rfl) (pe_call GB hr (by rfl) DB.g DB.F.kp DB.b .nil pass0 (pa_cons (pv 0) (pa_cons (pv 1) (pa_cons (pv 2) pa_nil)))))
        (pss_one (ps_if (pt_cmpR op_notN (pv 4) pe_non (nomark _))
          (pss_cons (ps_setLc (i := 5) (own := [("row", 6)]) (g := gName 6) (by rfl) scThin.nd rfl rfl (sw_true rfl rfl rfl (by decide +kernel)) (pi_tup (pe_ix ix_tup (pv 1) (pe_ix ix_tup (pv 2) pe_int (fun _ _ => rfl)) (fun _ _ => rfl)))
              (blkOk_by (N := nThin) (sc := defScope sThin) (by decide +kernel)) (fun _ _ _ _ _ => pg_name (i := 6) scThin.nd rfl (Or.inl rfl))
              (fun _ _ _ _ _ => pts_one (pt_cmpR (r := rNeD K) (op_neD hr.units) (pv 6) (pe_ix (r := rIxT K) ix_tup (pv 4) pe_int (fun _ _ => rfl)) (nomark _)))
              (fun _ _ _ _ _ => pv 6))
          (pss_one (ps_set (i := 1) scThin.nd rfl (.inl rfl) (pe_call GW hr1 (by rfl) DW.g DW.F.kp DW.b .nil pass0 (pa_cons (pv 1) (pa_cons (pe_ix ix_tup (pv 2) pe_int (fun _ _ => rfl)) (pa_cons (pv 5) pa_nil)))))))
          pss_nil))))
      (pss_one (ps_ret (pv 1))), ?_⟩
    refine ⟨6, rfl, by decide, by decide, for_range (lo := 0) (n := 6) (fun i σ H3 => ∃ (v : V) (R' : List (List Int)) (S' : List (List (List Int))) (y3 y4 y5 y6 : Option V), σ = [some (.ref sc), some v, some (.ref d), y3, y4, y5, y6] ∧ Same H H3 ∧ SetDep K H3 v (.ref d) t l r n R' S' ∧ R'.length ≤ 40 ∧ S'.length ≤ 100)
      ⟨st, R, S, none, none, none, none, rfl, Same.refl H, hD, hR, hSl⟩ (fun i σ H3 hi hP => ?_) (fun σ H3 hP => ?_)⟩
    · obtain ⟨v, R', S', y3, y4, y5, y6, rfl, s3, hD3, hR3, hS3⟩ := hP
      refine ⟨.ref sc, rfl, v, rfl, .ref d, rfl, sc, sw, v, .ref d, t, l, r, n, R', S', rfl, s3 _ _ esc, hn, n20, hD3, fun H4 o bv s4 hB hRes => ?_⟩
      have s04 := s3.trans s4
      have hD4 := hD3.same s4
      match o, hB, hRes with
      | none, hB, hRes =>
        cases (show bv = .non from hRes)
        refine ⟨.non, rfl, rfl, _, rfl, iteNS rfl ?_⟩
        exact ⟨v, R', S', _, _, _, _, rfl, s04, hD4, hR3, hS3⟩
      | some (x, y), hB, hRes =>
        obtain ⟨bt, q1, q2, rfl, hbt, e1, e2⟩ := Im.pair (show Im K H4 bv (.tuple [intsD x, intsD y]) from hRes)
        obtain ⟨sa, xs, u, rfl, es, eu, iu⟩ := hD4.st.storeGet hD4.tR
        obtain ⟨a, ks, rfl, ea, eR, hks⟩ := iu.rows
        have hkl : ks.length = R'.length := by rw [← eR, List.length_map]
        refine ⟨.ref bt, rfl, rfl, _, rfl, ?_⟩
        rw [decide_eq_false (show ¬ V.ref bt = V.non from fun e => by cases e)]
        refine iteT ?_
        refine ⟨.ref sa, rfl, .ref d, rfl, d, _, 1, .int t, rfl, rfl, SqT.of (s04 _ _ ed), atI_nat (j := 1) rfl, sa, xs, t, .ref a, rfl, rfl, SqT.of es, at_of et eu, a, rfl, ⟨_, SqT.of ea⟩, fun C nC => lc_tup (K := K) (a := a) (xs := ks.map fun p => V.ref p.1) (fun j H5 => Same H4 H5 ∧ ∃ ms : List (Addr × List Int), H5 C = some (.lst (ms.map fun p => V.ref p.1)) ∧ ms.length ≤ j ∧ ∀ m ∈ ms, m ∈ ks)
          ⟨same_upd nC, [], upd_same, Nat.le_refl _, fun m hm => (by cases hm)⟩ (fun j H5 _ h => SqT.of (h.1 _ _ ea)) (fun j z H5 hz hP => ?_) (fun H5 hP => ?_)⟩
        · obtain ⟨s5, ms, eC, hml, hmk⟩ := hP
          have hj : j < ks.length := by
            obtain ⟨h1, _⟩ := List.getElem?_eq_some_iff.mp hz
            rw [List.length_map] at h1
            exact h1
          have ez : z = .ref ks[j].1 := by
            rw [List.getElem?_map, List.getElem?_eq_getElem hj] at hz
            exact (Option.some.inj hz).symm
          subst ez
          have hkj := hks _ (List.getElem_mem hj)
          refine ⟨rfl, .ref ks[j].1, rfl, .ref bt, rfl, bt, [.ref q1, .ref q2], 1, .ref q2, rfl, rfl, SqT.of (s5 _ _ hbt), atI_nat (j := 1) rfl, intsD ks[j].2, intsD y, Dp.tupI (s5 _ _ hkj), Dp.tupI (s5 _ _ e2), shaped_tup _, shaped_tup _, _, rfl, ite2 (fun _ => ?_) (fun _ => ?_)⟩
          · refine ⟨.ref ks[j].1, rfl, _, eC, ?_, Same.put s5 nC, ms ++ [ks[j]], by rw [upd_same, List.map_append]; rfl, by rw [List.length_append]; exact Nat.succ_le_succ hml, fun m hm => ?_⟩
            · rw [List.length_map]
              exact small1000 (by omega)
            · rcases List.mem_append.mp hm with hm | hm
              · exact hmk m hm
              · rw [List.mem_singleton.mp hm]
                exact List.getElem_mem hj
          · exact ⟨s5, ms, eC, by omega, hmk⟩
        · obtain ⟨s5, ms, eC, hml, hmk⟩ := hP
          rw [List.length_map] at hml
          have hD5 := hD4.same s5
          have tS : t.toNat < S'.length := (List.getElem?_eq_some_iff.mp hD5.tR).1
          refine ⟨.ref sa, rfl, .ref d, rfl, d, _, 1, .int t, rfl, rfl, SqT.of (s5 _ _ (s04 _ _ ed)), atI_nat (j := 1) rfl, .ref C, rfl, .ref sa, t, C, S', n, ms, rfl, hD5.st, hD5.t0, tS, hS3, .inl (SqL.of eC), n1, by omega, fun m hm => ?_, fun H6 v' R2 s6 im6 tab6 len6 _ => ?_⟩
          · exact ⟨s5 _ _ (hks m (hmk m hm)), hD4.tab.len m.2 (by rw [← eR]; exact List.mem_map.mpr ⟨m, hmk m hm, rfl⟩)⟩
          · have hD6 := hD5.same s6
            exact ⟨v', R2, S'.set t.toNat R2, _, _, _, _, rfl, (s04.trans s5).trans s6, ⟨im6, hD6.dp, hD6.t0, getElem?_set_self' tS, tab6, by omega, hD6.l, hD6.r⟩, by omega, by rw [List.length_set]; exact hS3⟩
    · obtain ⟨v, R', S', y3, y4, y5, y6, rfl, s3, hD3, hR3, hS3⟩ := hP
      exact ⟨v, rfl, q H3 v R' S' s3 hD3 hR3 hS3⟩
end
end NK

namespace NK
open PySem PySem.Spec PyProof.Rows L2
section
variable {P : Program} {w : World} {K : PySem.W.Frag} {mg : Str → Option Value} {base : Heap}
theorem hgt_ints (l : List Int) (h : l.length ≤ 1000000) : Hgt 1 (intsD l) := .tup (by rw [List.length_map]; exact h) fun d hd => by
  obtain ⟨i, _, rfl⟩ := List.mem_map.mp hd
  exact .int 0 i
/-- one breach, found twice, is the same value for both -/
theorem alk_res {H : Hp} {l r : List Int} {n : Int} {R : List (List Int)} {o o' : Option (List Int × List Int)} {u v : V} (hn : n ≤ 20) (tab : Tab n R) (b : Br l r R o) (b' : Br l r R o') (hu : Res K H o u) (hv : Res K H o' v) : Alk K H 2 u v := by
  have e := b.one b'
  subst e
  match o, b, hu, hv with
  | none, _, hu, hv =>
    cases (show u = .non from hu)
    cases (show v = .non from hv)
    exact .non
  | some (x, y), b, hu, hv =>
    obtain ⟨hx, hy, _⟩ := b
    have lx := tab.len x hx
    have ly := tab.len y hy
    refine .data (t := .tuple [intsD x, intsD y]) hu hv (.tup (by show 2 ≤ 1000000; decide) fun d hd => ?_)
    rcases List.mem_cons.mp hd with rfl | hd
    · exact hgt_ints x (by omega)
    · rw [List.mem_singleton.mp hd]
      exact hgt_ints y (by omega)
theorem Res.same {H H' : Hp} {o : Option (List Int × List Int)} {v : V} (s : Same H H') (h : Res K H o v) : Res K H' o v := by
  match o, h with
  | none, h => exact h
  | some (x, y), h => exact Im.same s h
theorem Res.isN {H : Hp} {o : Option (List Int × List Int)} {v : V} (h : Res K H o v) : decide (v = V.non) = o.isNone := by
  match o, h with
  | none, h =>
    cases (show v = .non from h)
    rfl
  | some (x, y), h =>
    cases (show Im K H v _ from h)
    rfl
def spLaw (K : PySem.W.Frag) : Sp := fun vs H Q _ => ∃ (a : Addr) (ns : List Int), vs = [.ref a] ∧ SqL K H a (ns.map V.int) ∧ ns.length ≤ 63 ∧ ∀ H', Q (.bl true) H'
theorem ok_law {f f1 f2 f3 f4 f5 f6 f7 f8 f9 f10 f11 f12 f13 f14 f15 f16 f17 : Addr} {fd d1 d2 d3 d4 d5 d6 d7 d8 d9 d10 d11 d12 d13 d14 d15 d16 d17 : FuncData} (F : Fun K "law" "law" sLaw f fd) (T : Hlp K mg f1 d1) (B : Bts mg) (mset : mg "set" = none)
    (DR : Df K mg "_law_draws" sDraws ["script", "many"] f2 d2) (DC : Df K mg "_law_cell" sCell ["script", "draws"] f3 d3) (DSc : Df K mg "_law_scheme" sScheme ["draws"] f4 d4) (DWi : Df K mg "_law_wide" sWide ["draws", "cell"] f5 d5)
    (DRo : Df K mg "_law_rows" sRows ["draws", "width", "most", "wide"] f6 d6) (DSt : Df K mg "_law_store" sStore ["draws", "scheme", "most", "wide"] f7 d7) (DCo : Df K mg "_law_columns" sCols ["draws", "width"] f8 d8) (DK : Df K mg "_law_kind_of" sKind ["draws", "scheme", "kind"] f9 d9)
    (DA : Df K mg "_law_agree" sAgree ["one", "other", "columns"] f10 d10) (DB : Df K mg "_law_breach" sBreach ["scheme", "store", "dependency"] f11 d11) (DW : Df K mg "_law_with" sWith ["store", "table", "rows"] f12 d12) (DT : Df K mg "_law_thinned" sThin ["scheme", "store", "dependency"] f13 d13)
    (DS : Df K mg "_law_same" sSame ["actual", "due"] f14 d14) (PV : Df K mg "values_at" p_values_at ["row", "columns"] f15 d15) (PB : Df K mg "settled_breach" p_settled_breach ["rows", "left", "right"] f16 d16) (PL : Df K mg "least_breach" p_least_breach ["scheme", "store", "dependency"] f17 d17)
    {f18 : Addr} {d18 : FuncData} (PK : Df K mg "keeps" p_keeps ["scheme", "store", "dependency"] f18 d18) : FnOk P w K mg base CX0 5 f fd ["script"] (spLaw K) := by
  have GT : FnOk P w K mg base CX0 1 f1 d1 ["draws", "many"] spTake := ok_take T.FT T.len T.int
  have GDR : FnOk P w K mg base CX0 1 f2 d2 ["script", "many"] (spDraws K) := ok_draws DR.F T.len T.int T.list T.range
  have GC : FnOk P w K mg base CX0 2 f3 d3 ["script", "draws"] (spCell K) := ok_cell DC.F T.FT T.bT T.gT T.len T.int
  have GSc : FnOk P w K mg base CX0 2 f4 d4 ["draws"] spScheme := ok_scheme T DSc.F
  have GWi : FnOk P w K mg base CX0 2 f5 d5 ["draws", "cell"] spWide := ok_wide T DWi.F
  have GSt : FnOk P w K mg base CX0 3 f7 d7 ["draws", "scheme", "most", "wide"] (spStore K) := ok_store T mset DSt.F DRo.F DRo.b DRo.g
  have GK : FnOk P w K mg base CX0 3 f9 d9 ["draws", "scheme", "kind"] (spKind K) := ok_kind T DK.F DCo.F DCo.b DCo.g
  have GB : FnOk P w K mg base CX0 2 f11 d11 ["scheme", "store", "dependency"] (spBr K) := ok_br B.tuple B.len B.int B.range DB.F DA.F DA.b DA.g
  have GW : FnOk P w K mg base CX0 1 f12 d12 ["store", "table", "rows"] (spWith K) := ok_with B.tuple mset T.sorted DW.F
  have GTh : FnOk P w K mg base CX0 3 f13 d13 ["scheme", "store", "dependency"] (spThin K) := ok_thin B mset T.sorted DT.F DA DB DW
  have GS : FnOk P w K mg base CX0 4 f14 d14 ["actual", "due"] (spSame K 2) := ok_same B DS.F DS.b DS.g 2
  have GL : FnOk P w K mg base CX0 3 f17 d17 ["scheme", "store", "dependency"] (spLB K) := ok_lb B.tuple PL.F PV.F PV.b PV.g PB.F PB.b PB.g
  have GKe : FnOk P w K mg base CX0 4 f18 d18 ["scheme", "store", "dependency"] (spKeeps K) := ok_keeps B.tuple PK.F PV.F PV.b PV.g PB.F PB.b PB.g PL.F PL.b PL.g
  refine F.ok scLaw (fun vs H Q E h => ?_) (fun cdv A outer s H vs Q E hr h => ?_)
  · obtain ⟨a, ns, rfl, _⟩ := h
    rfl
  · obtain ⟨a, ns, rfl, hS, hlen, q⟩ := h
    have hr1 := hr.mono (show 1 ≤ 4 by decide)
    have hr2 := hr.mono (show 2 ≤ 4 by decide)
    have hr3 := hr.mono (show 3 ≤ 4 by decide)
    refine ⟨_, pss_cons (ps_set (i := 1) scLaw.nd rfl (.inr rfl) (pe_call GDR hr1 (by rfl) DR.g DR.F.kp DR.b .nil pass0 (pa_cons (pv 0) (pa_cons pe_int pa_nil))))
      (pss_cons (ps_set (i := 2) scLaw.nd rfl (.inl rfl) (pe_call GC hr2 (by rfl) DC.g DC.F.kp DC.b .nil pass0 (pa_cons (pv 0) (pa_cons (pv 1) pa_nil))))
      (pss_cons (ps_set (i := 3) scLaw.nd rfl (.inl rfl) (pe_call GSc hr2 (by rfl) DSc.g DSc.F.kp DSc.b .nil pass0 (pa_cons (pv 1) pa_nil)))
      (pss_cons (ps_for PassesOwn.never rfl (pi_range1 rfl B.range (pa_cons pe_int pa_nil)) (pg_name (i := 4) scLaw.nd rfl (.inl rfl))
        (pss_cons (ps_set (i := 5) scLaw.nd rfl (.inr rfl) (pe_call GWi hr2 (by rfl) DWi.g DWi.F.kp DWi.b .nil pass0 (pa_cons (pv 1) (pa_cons (pv 2) pa_nil))))
        (C8.pss_cut (ps_set (i := 6) scLaw.nd rfl (.inl rfl) (pe_call GSt hr3 (by rfl) DSt.g DSt.F.kp DSt.b .nil pass0 (pa_cons (pv 1) (pa_cons (pv 3) (pa_cons
            (pe_ix ix_list (pe_lst (pa_cons pe_int (pa_cons pe_int pa_nil))) (pe_callTy call_int1 (by rfl) B.int boot_int (pa_cons (pe_cmpR op_gt (pe_callB call_len_seq (by rfl) B.len PySem.boot_len (pa_cons (pv 3) pa_nil)) pe_int (nomark _)) pa_nil)) (fun _ _ => rfl)) (pa_cons (pv 5) pa_nil))))))
        (pss_cons (ps_set (i := 7) scLaw.nd rfl (.inr rfl) (pe_call GK hr3 (by rfl) DK.g DK.F.kp DK.b .nil pass0 (pa_cons (pv 1) (pa_cons (pv 3) (pa_cons pe_str pa_nil)))))
        (pss_cons (ps_set (i := 8) scLaw.nd rfl (.inl rfl) (pe_call GTh hr3 (by rfl) DT.g DT.F.kp DT.b .nil pass0 (pa_cons (pv 3) (pa_cons (pv 6) (pa_cons (pv 7) pa_nil)))))
        (pss_cons (ps_set (i := 9) scLaw.nd rfl (.inl rfl) (pe_lst (pa_cons (pv 6) (pa_cons (pv 8) pa_nil))))
        (pss_cons (ps_set (i := 10) scLaw.nd rfl (.inl rfl) (pe_ix ix_tup (pv 8) (pe_ix ix_tup (pv 7) pe_int (fun _ _ => rfl)) (fun _ _ => rfl)))
        (C8.pss_cut (ps_if (pt_cmpR op_gt (pe_callB call_len_seq (by rfl) B.len PySem.boot_len (pa_cons (pv 10) pa_nil)) pe_int (nomark _))
          (pss_cons (ps_set (i := 11) scLaw.nd rfl (.inr rfl) (pe_ix ix_tup (pv 10) (pe_call GT hr1 (by rfl) T.gT T.FT.kp T.bT .nil pass0 (pa_cons (pv 1) (pa_cons (pe_callB call_len_seq (by rfl) B.len PySem.boot_len (pa_cons (pv 10) pa_nil)) pa_nil))) (fun _ _ => rfl)))
          (pss_cons (ps_set (i := 12) scLaw.nd rfl (.inr rfl) (pe_lc (own := [("column", 15)]) (g := gName 15) (by rfl) scLaw.nd (pi_range1 rfl B.range (pa_cons (pe_callB call_len_seq (by rfl) B.len PySem.boot_len (pa_cons (pv 11) pa_nil)) pa_nil)) (blkOk_by (N := nLaw) (sc := defScope sLaw) (by decide +kernel))
              (fun _ _ _ _ _ => pg_name (i := 15) scLaw.nd rfl (Or.inl rfl)) (fun _ _ _ _ _ => pts_nil)
              (fun _ _ _ _ _ => pe_ix (r := rIxL K) ix_list (pv 5) (pe_call GT hr1 (by rfl) T.gT T.FT.kp T.bT .nil pass0 (pa_cons (pv 1) (pa_cons (pe_callB (r := rLenS K) call_len_seq (by rfl) B.len PySem.boot_len (pa_cons (pv 5) pa_nil)) pa_nil))) (fun _ _ => rfl))))
          (pss_cons (ps_set (i := 12) scLaw.nd rfl (.inr rfl) (pe_callTy call_tuple_of (by rfl) B.tuple boot_tuple (pa_cons
              (pe_lc (own := [("column", 15)]) (g := gName 15) (by rfl) scLaw.nd (pi_range1 rfl B.range (pa_cons (pe_callB call_len_seq (by rfl) B.len PySem.boot_len (pa_cons (pv 11) pa_nil)) pa_nil)) (blkOk_by (N := nLaw) (sc := defScope sLaw) (by decide +kernel))
              (fun _ _ _ _ _ => pg_name (i := 15) scLaw.nd rfl (Or.inl rfl)) (fun _ _ _ _ _ => pts_nil)
              (fun _ _ _ _ _ => pe_ix (r := rIxL K) ix_list (pe_lst (pa_cons (pe_ix (r := rIxL K) ix_list (pv 12) (pv 15) (fun _ _ => rfl)) (pa_cons (pe_ix (r := rIxT K) ix_tup (pv 11) (pv 15) (fun _ _ => rfl)) pa_nil)))
                (pe_callTy call_int1 (by rfl) B.int boot_int (pa_cons (pe_cmpR (r := rIn K false) op_in_seq (pv 15) (pe_ix (r := rIxT K) ix_tup (pv 7) pe_int (fun _ _ => rfl)) (by rfl)) pa_nil)) (fun _ _ => rfl))) pa_nil)))
          (pss_one (ps_expr (pe_bm PySem.F.plainAttrs_list PySem.F.slot_list_append PySem.F.type_list_append mt_append (pv 9) (pa_cons
              (pe_call GW hr1 (by rfl) DW.g DW.F.kp DW.b .nil pass0 (pa_cons (pv 8) (pa_cons (pe_ix ix_tup (pv 7) pe_int (fun _ _ => rfl)) (pa_cons (pe_op op_catU (pv 10) (pe_tup (pa_cons (pv 12) pa_nil))) pa_nil)))) pa_nil))))))) pss_nil)
        (pss_one (ps_for PassesOwn.never rfl (pi_list (pv 9)) (pg_name (i := 13) scLaw.nd rfl (.inl rfl))
          (pss_cons (ps_set (i := 14) scLaw.nd rfl (.inl rfl) (pe_call GB hr2 (by rfl) DB.g DB.F.kp DB.b .nil pass0 (pa_cons (pv 3) (pa_cons (pv 13) (pa_cons (pv 7) pa_nil)))))
          (pss_cons (ps_if (pt_not (pt_val (pe_call GS hr (by rfl) DS.g DS.F.kp DS.b .nil pass0 (pa_cons (pe_call GL hr3 (by rfl) PL.g PL.F.kp PL.b .nil pass0 (pa_cons (pv 3) (pa_cons (pv 13) (pa_cons (pv 7) pa_nil)))) (pa_cons (pv 14) pa_nil))))) (pss_one (ps_ret pe_bl)) pss_nil)
          (pss_one (ps_if (pt_not (pt_val (pe_call GS hr (by rfl) DS.g DS.F.kp DS.b .nil pass0 (pa_cons (pe_call GKe hr (by rfl) PK.g PK.F.kp PK.b .nil pass0 (pa_cons (pv 3) (pa_cons (pv 13) (pa_cons (pv 7) pa_nil)))) (pa_cons (pe_cmpR op_isN (pv 14) pe_non (nomark _)) pa_nil))))) (pss_one (ps_ret pe_bl)) pss_nil))))))))))))))
      (pss_one (ps_ret pe_bl))))), ?_⟩
    -- draws, cell, scheme
    refine ⟨.ref a, rfl, a, ns, 560, rfl, hS, hlen, by decide, by decide, fun H1 d s1 nd D1 => ?_⟩
    refine ⟨.ref a, rfl, .ref d, rfl, a, d, ns, rfl, Scr.of s1 nd hS, D1, fun H2 c g2 => ?_⟩
    refine ⟨.ref d, rfl, d, rfl, g2.dr, fun H3 sc sw g3 nsc esc hsw7 hswl => ?_⟩
    have hsw : Widths 13 sw := ⟨hsw7.1, hsw7.2.1, fun x hx => ⟨(hsw7.2.2 x hx).1, by have := (hsw7.2.2 x hx).2; omega⟩⟩
    refine ⟨3, rfl, by decide, by decide, for_range (lo := 0) (n := 3) (fun i σ H4 => ∃ (y4 y5 y6 y7 y8 y9 y10 y11 y12 y13 y14 y15 : Option V), σ = [some (.ref a), some (.ref d), some (.int c), some (.ref sc), y4, y5, y6, y7, y8, y9, y10, y11, y12, y13, y14, y15] ∧ Dr H4 d ∧ H4 sc = some (.tup (sw.map V.int)))
      ⟨none, none, none, none, none, none, none, none, none, none, none, none, rfl, g3.dr, esc⟩ (fun i σ H4 hi hP => ?_) (fun σ H4 hP => q H4)⟩
    obtain ⟨y4, y5, y6, y7, y8, y9, y10, y11, y12, y13, y14, y15, rfl, D4, esc4⟩ := hP
    -- wide, store
    refine ⟨.ref d, rfl, .int c, rfl, d, c, rfl, D4, fun H5 W ws g5 nW eW w1 _ => ?_⟩
    have nWd : W ≠ d := (D4.ne nW).symm
    have esc5 := g5.keepT D4 esc4
    refine ⟨fun σ H6 => ∃ (st : V) (S : List (List (List Int))), σ = [some (.ref a), some (.ref d), some (.int c), some (.ref sc), some (.int (0 + (i : Int))), some (.ref W), some st, y7, y8, y9, y10, y11, y12, y13, y14, y15] ∧ Go d H5 H6 ∧ Im K H6 st (storeD S) ∧ Sto sw 20 S, ?_, fun σ H6 hM => ?_⟩
    · refine ⟨.ref d, rfl, .ref sc, rfl, by show 2 ≤ sizeLine; decide, fun l nl => ⟨.ref sc, rfl, sc, _, rfl, .inr (SqT.of (same_upd nl _ _ esc5)), _, _, rfl, rfl, .inr ⟨_, rfl, ?_⟩⟩⟩
      have sl := same_upd (o := HO.lst [.int 5, .int 3]) nl
      have gl : Go d H5 (upd H5 l (.lst [.int 5, .int 3])) := .ofSame sl g5.dr
      have nld : W ≠ l := ne_of_none eW nl
      have fin : ∀ m : Int, 0 ≤ m → m ≤ 20 → spStore K [.ref d, .ref sc, .int m, .ref W] (upd H5 l (.lst [.int 5, .int 3])) (fun v H6 => ∃ (st : V) (S : List (List (List Int))), ([some (.ref a), some (.ref d), some (.int c), some (.ref sc), some (.int (0 + (i : Int))), some (.ref W), y6, y7, y8, y9, y10, y11, y12, y13, y14, y15] : L2.St).set 6 (some v) = [some (.ref a), some (.ref d), some (.int c), some (.ref sc), some (.int (0 + (i : Int))), some (.ref W), some st, y7, y8, y9, y10, y11, y12, y13, y14, y15] ∧ Go d H5 H6 ∧ Im K H6 st (storeD S) ∧ Sto sw 20 S) E := fun m m0 m1 =>
        ⟨d, sc, W, m, sw, ws, rfl, sl _ _ esc5, hsw, m0, m1, sl _ _ eW, w1, nWd, gl.dr, fun H6 p S g6 np im hS => ⟨.ref p, S, rfl, gl.trans g6, im, hS⟩⟩
      cases hd : decide ((4 : Int) < ((sw.map V.int).length : Nat)) with
      | true => exact ⟨l, _, 1, .int 3, rfl, rfl, SqL.of upd_same, atI_nat (j := 1) rfl, .ref W, rfl, fin 3 (by decide) (by decide)⟩
      | false => exact ⟨l, _, 0, .int 5, rfl, rfl, SqL.of upd_same, atI_nat (j := 0) rfl, .ref W, rfl, fin 5 (by decide) (by decide)⟩
    · obtain ⟨st, S, rfl, g6, ist, hS⟩ := hM
      have esc6 := g6.keepT g5.dr esc5
      -- the dependency
      refine ⟨.ref d, rfl, .ref sc, rfl, d, sc, sw, rfl, esc6, hsw, g6.dr, fun H7 dp t l r n g7 ndp idp t0 hn hl hr' => ?_⟩
      have esc7 := g7.keepT g6.dr esc6
      have ist7 := ist.go g7 g6.dr
      obtain ⟨ht, hnn⟩ := List.getElem?_eq_some_iff.mp hn
      have hn13 := hsw.2.2 n (List.mem_of_getElem? hn)
      have htS : t.toNat < S.length := by rw [hS.len]; exact ht
      obtain ⟨tab0, len0⟩ := hS.tab t.toNat n S[t.toNat] hn (List.getElem?_eq_getElem htS)
      have hSl : S.length ≤ 100 := by rw [hS.len]; have := hsw.2.1; omega
      have hD7 : SetDep K H7 st (.ref dp) t l r n S[t.toNat] S := ⟨ist7, idp, t0, List.getElem?_eq_getElem htS, tab0, by omega, hl, hr'⟩
      refine ⟨.ref sc, rfl, st, rfl, .ref dp, rfl, sc, sw, st, .ref dp, t, l, r, n, S[t.toNat], S, rfl, esc7, hn, hn13.1, by omega, hD7, by omega, hSl, fun H8 th R' S' s8 hD8 hR8 hS8 => ?_⟩
      have et : t = ((t.toNat : Nat) : Int) := by omega
      have hst8 := hD7.same s8
      refine ⟨st, rfl, th, rfl, by show 2 ≤ sizeLine; decide, fun Z nZ => ?_⟩
      have sZ := same_upd (o := HO.lst [st, th]) nZ
      obtain ⟨sa, xs, u, rfl, es, eu, iu⟩ := (hD8.same sZ).st.storeGet hD8.tR
      obtain ⟨dpa, lc, rc, edp0, edp, el, er⟩ := (hD8.same sZ).dp.two
      cases edp0
      obtain ⟨ra, ks, rfl, era, eR, hks⟩ := iu.rows
      have hkl : ks.length = R'.length := by rw [← eR, List.length_map]
      refine ⟨.ref sa, rfl, .ref dp, rfl, dp, _, 1, .int t, rfl, rfl, SqT.of edp, atI_nat (j := 1) rfl, sa, xs, t, .ref ra, rfl, rfl, SqT.of es, at_of et eu, ?_⟩
      have g8 : Go d H5 (upd H8 Z (.lst [st, .ref sa])) := (g6.trans g7).trans (.ofSame (s8.trans sZ) g7.dr)
      have eWZ := g8.keep eW nWd
      have nZd : Z ≠ d := ((Go.ofSame s8 g7.dr).dr.ne nZ).symm
      -- perhaps a third store
      refine ⟨fun σ H9 => ∃ (y11 y12 : Option V) (vs : List V), σ = [some (.ref a), some (.ref d), some (.int c), some (.ref sc), some (.int (0 + (i : Int))), some (.ref W), some st, some (.ref dp), some (.ref sa), some (.ref Z), some (.ref ra), y11, y12, y13, y14, y15] ∧ Dr H9 d ∧ H9 sc = some (.tup (sw.map V.int)) ∧ H9 Z = some (.lst vs) ∧
          (∀ v ∈ vs, ∃ R S, SetDep K H9 v (.ref dp) t l r n R S), ?_, fun σ H9 hM => ?_⟩
      · have hsc8 := (s8.trans sZ) _ _ esc7
        refine ⟨.ref ra, rfl, ra, _, rfl, .inr (SqT.of era), _, _, rfl, rfl, _, rfl, ite2 (fun hpos => ?_) (fun _ => ?_)⟩
        · have hpos2 := of_decide_eq_true hpos
          rw [List.length_map] at hpos2
          refine ⟨.ref ra, rfl, .ref d, rfl, .ref ra, rfl, ra, _, rfl, .inr (SqT.of era), d, _, rfl, by rw [List.length_map]; omega, g8.dr, fun H9 z g9 z0 z1 => ?_⟩
          rw [List.length_map] at z1
          have hz : z.toNat < ks.length := by omega
          have ez : z = ((z.toNat : Nat) : Int) := by omega
          have era9 := g9.keepT g8.dr era
          have hkz := g9.keepT g8.dr (hks _ (List.getElem_mem hz))
          have lkz : (ks[z.toNat].2.length : Int) = n := hD8.tab.len _ (by rw [← eR]; exact List.mem_map.mpr ⟨_, List.getElem_mem hz, rfl⟩)
          refine ⟨ra, _, z, .ref ks[z.toNat].1, rfl, rfl, SqT.of era9, at_of ez (by rw [List.getElem?_map, List.getElem?_eq_getElem hz]; rfl), ?_⟩
          generalize hkk : ks[z.toNat] = kk at hkz lkz
          obtain ⟨b, x⟩ := kk
          have lkx : (x.length : Int) = n := lkz
          -- more
          refine ⟨.ref b, rfl, b, _, rfl, .inr (SqT.of hkz), _, rfl, ?_⟩
          rw [List.length_map]
          refine ⟨by omega, by omega, fun C nC => lc_range (lo := 0) (n := ((x.length : Nat) : Int).toNat) (fun j H10 => Go d H9 H10 ∧ ∃ ms : List Int, H10 C = some (.lst (ms.map V.int)) ∧ ms.length = j)
            ⟨(Go.refl g9.dr).new nC, [], by rw [upd_same]; rfl, rfl⟩ (fun j H10 hj hP => ?_) (fun H10 hP => ?_)⟩
          · obtain ⟨g10, ms, eC, hml⟩ := hP
            have eW10 := g10.keep (g9.keep eWZ nWd) nWd
            have nCd : C ≠ d := (g9.dr.ne nC).symm
            refine ⟨rfl, yesT ⟨.ref W, rfl, .ref d, rfl, .ref W, rfl, W, _, rfl, .inl (SqL.of eW10), d, _, rfl, by rw [List.length_map]; omega, g10.dr, fun H11 k g11 k0 k1 => ?_⟩⟩
            rw [List.length_map] at k1
            have eW11 := g11.keep eW10 nWd
            obtain ⟨y, hy, ey⟩ := take_in eW11 k0 k1
            refine ⟨W, _, k, .int y, rfl, rfl, SqL.of eW11, ey, _, g11.keep eC nCd, ?_, (g10.trans g11).put nC nCd.symm, ms ++ [y], by rw [upd_same, List.map_append]; rfl, by rw [List.length_append, hml]; rfl⟩
            rw [List.length_map, hml]
            exact small1000 (by omega)
          · obtain ⟨g10, ms, eC, hml⟩ := hP
            rw [Int.toNat_natCast] at hml
            have hkz10 := g10.keepT g9.dr hkz
            have g910 := g9.trans g10
            have edp10 := g910.keepT g8.dr edp
            have el10 := g910.keepT g8.dr el
            refine ⟨.ref b, rfl, b, _, rfl, .inr (SqT.of hkz10), _, rfl, ?_⟩
            rw [List.length_map]
            refine ⟨by omega, by omega, fun C2 nC2 => lc_range (lo := 0) (n := ((x.length : Nat) : Int).toNat) (fun j H11 => Same H10 H11 ∧ ∃ ms : List Int, H11 C2 = some (.lst (ms.map V.int)) ∧ ms.length = j)
              ⟨same_upd nC2, [], by rw [upd_same]; rfl, rfl⟩ (fun j H11 hj hP => ?_) (fun H11 hP => ?_)⟩
            · obtain ⟨s11, m2, eC2, hm2⟩ := hP
              rw [Int.toNat_natCast] at hj
              have c1 : atI (ms.map V.int) (0 + (j : Int)) = some (.int (ms.getD (0 + (j : Int)).toNat 0)) := col_get (by omega) (by omega)
              have c2 : atI (x.map V.int) (0 + (j : Int)) = some (.int (x.getD (0 + (j : Int)).toNat 0)) := col_get (by omega) (by omega)
              refine ⟨rfl, yesT ⟨.ref C, rfl, .int (0 + (j : Int)), rfl, C, _, _, _, rfl, rfl, SqL.of (s11 _ _ eC), c1, .ref b, rfl, .int (0 + (j : Int)), rfl, b, _, _, _, rfl, rfl, SqT.of (s11 _ _ hkz10), c2, by show 2 ≤ sizeLine; decide, fun q1 nq1 => ?_⟩⟩
              have sq := same_upd (o := HO.lst [.int (ms.getD (0 + (j : Int)).toNat 0), .int (x.getD (0 + (j : Int)).toNat 0)]) nq1
              have fin : ∀ v : Int, ∃ acc, (upd H11 q1 (HO.lst [.int (ms.getD (0 + (j : Int)).toNat 0), .int (x.getD (0 + (j : Int)).toNat 0)])) C2 = some (.lst acc) ∧ acc.length < sizeLine ∧ Same H10 (upd (upd H11 q1 (HO.lst [.int (ms.getD (0 + (j : Int)).toNat 0), .int (x.getD (0 + (j : Int)).toNat 0)])) C2 (.lst (acc ++ [.int v]))) ∧
                  ∃ m3 : List Int, (upd (upd H11 q1 (HO.lst [.int (ms.getD (0 + (j : Int)).toNat 0), .int (x.getD (0 + (j : Int)).toNat 0)])) C2 (.lst (acc ++ [.int v]))) C2 = some (.lst (m3.map V.int)) ∧ m3.length = j + 1 :=
                fun v => ⟨m2.map V.int, sq _ _ eC2, by rw [List.length_map]; exact small1000 (by omega), Same.put (s11.trans sq) nC2, m2 ++ [v], by rw [upd_same, List.map_append]; rfl, by rw [List.length_append, hm2]; rfl⟩
              refine ⟨.int (0 + (j : Int)), rfl, .ref dp, rfl, dp, _, 2, .ref lc, rfl, rfl, SqT.of ((s11.trans sq) _ _ edp10), atI_nat (j := 2) rfl, lc, l.map V.int, rfl, .inr (SqT.of ((s11.trans sq) _ _ el10)), rfl, flat_all l, .inr ⟨_, rfl, ?_⟩⟩
              cases hin : (if false = true then !inV (V.int (0 + (j : Int))) (l.map V.int) else inV (V.int (0 + (j : Int))) (l.map V.int)) with
              | true => exact ⟨q1, _, 1, _, rfl, rfl, SqL.of upd_same, atI_nat (j := 1) rfl, fin _⟩
              | false => exact ⟨q1, _, 0, _, rfl, rfl, SqL.of upd_same, atI_nat (j := 0) rfl, fin _⟩
            · obtain ⟨s11, m2, eC2, hm2⟩ := hP
              rw [Int.toNat_natCast] at hm2
              refine ⟨C2, _, rfl, .inl ⟨SqL.of eC2, fun mo nmo => ?_⟩⟩
              have s12 := s11.trans (same_upd (o := HO.tup (m2.map V.int)) nmo)
              have g12 := g910.trans (.ofSame s12 g10.dr)
              have sD12 : ∀ {v : V} {R S}, SetDep K (upd H8 Z (.lst [st, .ref sa])) v (.ref dp) t l r n R S → SetDep K (upd H11 mo (.tup (m2.map V.int))) v (.ref dp) t l r n R S := fun h =>
                ⟨h.st.go g12 g8.dr, h.dp.go g12 g8.dr, h.t0, h.tR, h.tab, h.len, h.l, h.r⟩
              have hD12 := sD12 (hD8.same sZ)
              have hD12s := sD12 (hst8.same sZ)
              have eZ12 : (upd H11 mo (.tup (m2.map V.int))) Z = some (.lst [st, .ref sa]) := g12.keep upd_same nZd
              refine ⟨.ref Z, rfl, .inl ⟨rfl, _, SqL.of eZ12⟩, .ref sa, rfl, .ref dp, rfl, dp, _, 1, .int t, rfl, rfl, SqT.of (g12.keepT g8.dr edp), atI_nat (j := 1) rfl, .ref ra, rfl, .ref mo, rfl, by show 1 ≤ sizeLine; decide, fun t1 nt1 => ?_⟩
              have s13 := same_upd (o := HO.tup [.ref mo]) nt1
              refine ⟨ra, t1, _, _, rfl, rfl, s13 _ _ (g12.keepT g8.dr era), upd_same, by rw [List.length_map]; show _ + 1 ≤ _; omega, fun p14 H14 s14 e14 => ?_⟩
              have s1314 := s13.trans s14
              have hD14 := hD12.same s1314
              have tS : t.toNat < S'.length := (List.getElem?_eq_some_iff.mp hD14.tR).1
              refine ⟨.ref sa, t, p14, S', n, ks ++ [(mo, m2)], rfl, hD14.st, t0, tS, hS8, .inr (SqT.of ?_), hn13.1, ?_, fun k hk => ?_, fun H15 v' R2 s15 im15 tab15 len15 _ => ?_⟩
              · rw [List.map_append]
                exact e14
              · rw [List.length_append]
                show ks.length + 1 < 64
                omega
              · rcases List.mem_append.mp hk with hk | hk
                · exact ⟨s1314 _ _ (g12.keepT g8.dr (hks k hk)), hD8.tab.len _ (by rw [← eR]; exact List.mem_map.mpr ⟨k, hk, rfl⟩)⟩
                · rw [List.mem_singleton.mp hk]
                  exact ⟨s1314 _ _ upd_same, by show (m2.length : Int) = n; omega⟩
              · have s15' := s1314.trans s15
                have eZ15 := s15' _ _ eZ12
                rw [List.length_append] at len15
                have len15' : R2.length ≤ ks.length + 1 := len15
                have hput : ∀ {v : V} {R S}, SetDep K H15 v (.ref dp) t l r n R S → SetDep K (upd H15 Z (.lst ([st, .ref sa] ++ [v']))) v (.ref dp) t l r n R S := fun h =>
                  ⟨h.st.put eZ15 (fun ys e => by cases e), h.dp.put eZ15 (fun ys e => by cases e), h.t0, h.tR, h.tab, h.len, h.l, h.r⟩
                have D15 : Dr H15 d := by
                  obtain ⟨ds, e, hl⟩ := g12.dr
                  exact ⟨ds, s15' _ _ e, hl⟩
                refine ⟨Z, _, _, rfl, rfl, eZ15, by show 2 < sizeLine; decide, _, _, [st, .ref sa] ++ [v'], rfl, D15.upd (fun e => nZd e.symm), tup_put eZ15 (fun ys e => by cases e) (s15' _ _ (g12.keepT g8.dr hsc8)), upd_same, fun v hv => ?_⟩
                rcases List.mem_append.mp hv with hv | hv
                · rcases List.mem_cons.mp hv with rfl | hv
                  · exact ⟨_, _, hput (hD12s.same s15')⟩
                  · rw [List.mem_singleton.mp hv]
                    exact ⟨_, _, hput (hD12.same s15')⟩
                · rw [List.mem_singleton.mp hv]
                  have h15 := hD12.same s15'
                  exact ⟨R2, S'.set t.toNat R2, hput ⟨im15, h15.dp, t0, getElem?_set_self' tS, tab15, by omega, h15.l, h15.r⟩⟩
        · refine ⟨_, _, [st, .ref sa], rfl, g8.dr, hsc8, upd_same, fun v hv => ?_⟩
          rcases List.mem_cons.mp hv with rfl | hv
          · exact ⟨_, _, hst8.same sZ⟩
          · rw [List.mem_singleton.mp hv]
            exact ⟨_, _, hD8.same sZ⟩
      · obtain ⟨z11, z12, vs, rfl, D9, esc9, eZ, hvs⟩ := hM
        refine ⟨.ref Z, rfl, Z, rfl, ⟨_, SqL.of eZ⟩, for_list (K := K) (a := Z) (xs := vs) (fun j σ H10 => ∃ y13 y14, σ = [some (.ref a), some (.ref d), some (.int c), some (.ref sc), some (.int (0 + (i : Int))), some (.ref W), some st, some (.ref dp), some (.ref sa), some (.ref Z), some (.ref ra), z11, z12, y13, y14, y15] ∧ Same H9 H10)
          ⟨_, _, rfl, Same.refl H9⟩ (fun j σ H10 _ hP => by obtain ⟨_, _, _, s10⟩ := hP; exact SqL.of (s10 _ _ eZ)) (fun j v σ H10 hv hP => ?_) (fun σ H10 hP => ?_)⟩
        · obtain ⟨w13, w14, rfl, s10⟩ := hP
          obtain ⟨R1, S1, hD9⟩ := hvs v (List.mem_of_getElem? hv)
          have hD10 := hD9.same s10
          refine ⟨.ref sc, rfl, v, rfl, .ref dp, rfl, sc, sw, v, .ref dp, t, l, r, n, R1, S1, rfl, s10 _ _ esc9, hn, by omega, hD10, fun H11 o due s11 hB hRes => ?_⟩
          have hD11 := hD10.same s11
          refine ⟨.ref sc, rfl, v, rfl, .ref dp, rfl, .ref sc, v, .ref dp, t, l, r, n, R1, S1, rfl, hD11, fun H12 o2 lb s12 hB2 hRes2 => ?_⟩
          have hD12 := hD11.same s12
          refine ⟨due, rfl, lb, due, rfl, alk_res (by omega) hD12.tab hB2 hB hRes2 (hRes.same s12), true, rfl, iteF ?_⟩
          refine ⟨.ref sc, rfl, v, rfl, .ref dp, rfl, .ref sc, v, .ref dp, t, l, r, n, R1, S1, rfl, hD12, fun H13 o3 s13 hB3 => ?_⟩
          have e3 : o3 = o := hB3.one hB
          subst e3
          refine ⟨due, rfl, rfl, ?_⟩
          rw [(hRes.same s12).isN]
          refine ⟨.bl o3.isNone, .bl o3.isNone, rfl, .bl _, true, rfl, iteF ?_⟩
          exact ⟨_, _, rfl, ((s10.trans s11).trans s12).trans s13⟩
        · obtain ⟨w13, w14, rfl, s10⟩ := hP
          refine ⟨_, _, _, _, _, _, _, _, _, _, _, _, rfl, ?_, s10 _ _ esc9⟩
          obtain ⟨ds, e, hl⟩ := D9
          exact ⟨ds, s10 _ _ e, hl⟩
end
end NK

namespace NK
open PySem PySem.Spec PyProof.Rows L2
/-! ### what the top has written; the law's own head -/
section
variable {K : PySem.W.Frag} {mg : Str → Option Value}
theorem df_mk {h : Heap} {x : Str} {st : Stmt} {ps : List Str} {f : Addr} {oc : Value} {od an : Option Addr} {osl : Array (Option Value)} {kV doc pm cdv ct : Value} (X : K.In h) (G : h.Ns mainGlobals mg)
    (hb : ∀ (kV doc pm : Value) (an : Option Addr) (cdv ct : Value) (us : List Value), us.length = ps.length → bindArgs (PySem.W.fnOf x x (defArgs st) (defBody st) (defScope st) .none kV doc pm an cdv ct) ⟨us, []⟩ = pure (ps.zip us))
    (a : PySem.W.nsIn K mainGlobals x = some (some (.ref f))) (l : K.lookup f = some ⟨oc, od, .func (PySem.W.fnOf x x (defArgs st) (defBody st) (defScope st) .none kV doc pm an cdv ct), osl⟩)
    (c : PySem.W.codeIn K cdv x = true) (k : PySem.W.keepIn K (.ref f) = true) : Df K mg x st ps f (PySem.W.fnOf x x (defArgs st) (defBody st) (defScope st) .none kV doc pm an cdv ct) :=
  ⟨fun_mk l c k, (fun_mk (st := st) l c k).binds hb, PySem.W.mg_of X G a⟩
end
theorem all_mk {l : PySem.W.OpenLaw} {w : World} {K : PySem.W.Frag} {h : Heap} {mg : Str → Option Value} {fa f1 f2 f3 f4 f5 f6 f7 f8 f9 f10 f11 f12 f13 f14 f15 f16 f17 f18 f19 : Addr} (X : K.In h) (G : h.Ns mainGlobals mg) (hfa : mg "law" = some (.ref fa))
    {od1 an1 od2 an2 od3 an3 od4 an4 od5 an5 od6 an6 od7 an7 od8 an8 od9 an9 od10 an10 od11 an11 od12 an12 od13 an13 od14 an14 od15 an15 od16 an16 od17 an17 od18 an18 od19 an19 : Option Addr}
    {sl1 sl2 sl3 sl4 sl5 sl6 sl7 sl8 sl9 sl10 sl11 sl12 sl13 sl14 sl15 sl16 sl17 sl18 sl19 : Array (Option Value)}
    {oc1 kV1 dc1 pm1 cd1 ct1 oc2 kV2 dc2 pm2 cd2 ct2 oc3 kV3 dc3 pm3 cd3 ct3 oc4 kV4 dc4 pm4 cd4 ct4 oc5 kV5 dc5 pm5 cd5 ct5 oc6 kV6 dc6 pm6 cd6 ct6 oc7 kV7 dc7 pm7 cd7 ct7 oc8 kV8 dc8 pm8 cd8 ct8 oc9 kV9 dc9 pm9 cd9 ct9 oc10 kV10 dc10 pm10 cd10 ct10 oc11 kV11 dc11 pm11 cd11 ct11 oc12 kV12 dc12 pm12 cd12 ct12 oc13 kV13 dc13 pm13 cd13 ct13 oc14 kV14 dc14 pm14 cd14 ct14 oc15 kV15 dc15 pm15 cd15 ct15 oc16 kV16 dc16 pm16 cd16 ct16 oc17 kV17 dc17 pm17 cd17 ct17 oc18 kV18 dc18 pm18 cd18 ct18 oc19 kV19 dc19 pm19 cd19 ct19 : Value}
    (a1 : PySem.W.nsIn K mainGlobals "_law_take" = some (some (.ref f1))) (l1 : K.lookup f1 = some ⟨oc1, od1, .func (PySem.W.fnOf "_law_take" "_law_take" (defArgs sTake) (defBody sTake) (defScope sTake) .none kV1 dc1 pm1 an1 cd1 ct1), sl1⟩) (c1 : PySem.W.codeIn K cd1 "_law_take" = true) (k1 : PySem.W.keepIn K (.ref f1) = true)
    (a2 : PySem.W.nsIn K mainGlobals "_law_draws" = some (some (.ref f2))) (l2 : K.lookup f2 = some ⟨oc2, od2, .func (PySem.W.fnOf "_law_draws" "_law_draws" (defArgs sDraws) (defBody sDraws) (defScope sDraws) .none kV2 dc2 pm2 an2 cd2 ct2), sl2⟩) (c2 : PySem.W.codeIn K cd2 "_law_draws" = true) (k2 : PySem.W.keepIn K (.ref f2) = true)
    (a3 : PySem.W.nsIn K mainGlobals "_law_cell" = some (some (.ref f3))) (l3 : K.lookup f3 = some ⟨oc3, od3, .func (PySem.W.fnOf "_law_cell" "_law_cell" (defArgs sCell) (defBody sCell) (defScope sCell) .none kV3 dc3 pm3 an3 cd3 ct3), sl3⟩) (c3 : PySem.W.codeIn K cd3 "_law_cell" = true) (k3 : PySem.W.keepIn K (.ref f3) = true)
    (a4 : PySem.W.nsIn K mainGlobals "_law_scheme" = some (some (.ref f4))) (l4 : K.lookup f4 = some ⟨oc4, od4, .func (PySem.W.fnOf "_law_scheme" "_law_scheme" (defArgs sScheme) (defBody sScheme) (defScope sScheme) .none kV4 dc4 pm4 an4 cd4 ct4), sl4⟩) (c4 : PySem.W.codeIn K cd4 "_law_scheme" = true) (k4 : PySem.W.keepIn K (.ref f4) = true)
    (a5 : PySem.W.nsIn K mainGlobals "_law_wide" = some (some (.ref f5))) (l5 : K.lookup f5 = some ⟨oc5, od5, .func (PySem.W.fnOf "_law_wide" "_law_wide" (defArgs sWide) (defBody sWide) (defScope sWide) .none kV5 dc5 pm5 an5 cd5 ct5), sl5⟩) (c5 : PySem.W.codeIn K cd5 "_law_wide" = true) (k5 : PySem.W.keepIn K (.ref f5) = true)
    (a6 : PySem.W.nsIn K mainGlobals "_law_rows" = some (some (.ref f6))) (l6 : K.lookup f6 = some ⟨oc6, od6, .func (PySem.W.fnOf "_law_rows" "_law_rows" (defArgs sRows) (defBody sRows) (defScope sRows) .none kV6 dc6 pm6 an6 cd6 ct6), sl6⟩) (c6 : PySem.W.codeIn K cd6 "_law_rows" = true) (k6 : PySem.W.keepIn K (.ref f6) = true)
    (a7 : PySem.W.nsIn K mainGlobals "_law_store" = some (some (.ref f7))) (l7 : K.lookup f7 = some ⟨oc7, od7, .func (PySem.W.fnOf "_law_store" "_law_store" (defArgs sStore) (defBody sStore) (defScope sStore) .none kV7 dc7 pm7 an7 cd7 ct7), sl7⟩) (c7 : PySem.W.codeIn K cd7 "_law_store" = true) (k7 : PySem.W.keepIn K (.ref f7) = true)
    (a8 : PySem.W.nsIn K mainGlobals "_law_columns" = some (some (.ref f8))) (l8 : K.lookup f8 = some ⟨oc8, od8, .func (PySem.W.fnOf "_law_columns" "_law_columns" (defArgs sCols) (defBody sCols) (defScope sCols) .none kV8 dc8 pm8 an8 cd8 ct8), sl8⟩) (c8 : PySem.W.codeIn K cd8 "_law_columns" = true) (k8 : PySem.W.keepIn K (.ref f8) = true)
    (a9 : PySem.W.nsIn K mainGlobals "_law_kind_of" = some (some (.ref f9))) (l9 : K.lookup f9 = some ⟨oc9, od9, .func (PySem.W.fnOf "_law_kind_of" "_law_kind_of" (defArgs sKind) (defBody sKind) (defScope sKind) .none kV9 dc9 pm9 an9 cd9 ct9), sl9⟩) (c9 : PySem.W.codeIn K cd9 "_law_kind_of" = true) (k9 : PySem.W.keepIn K (.ref f9) = true)
    (a10 : PySem.W.nsIn K mainGlobals "_law_agree" = some (some (.ref f10))) (l10 : K.lookup f10 = some ⟨oc10, od10, .func (PySem.W.fnOf "_law_agree" "_law_agree" (defArgs sAgree) (defBody sAgree) (defScope sAgree) .none kV10 dc10 pm10 an10 cd10 ct10), sl10⟩) (c10 : PySem.W.codeIn K cd10 "_law_agree" = true) (k10 : PySem.W.keepIn K (.ref f10) = true)
    (a11 : PySem.W.nsIn K mainGlobals "_law_breach" = some (some (.ref f11))) (l11 : K.lookup f11 = some ⟨oc11, od11, .func (PySem.W.fnOf "_law_breach" "_law_breach" (defArgs sBreach) (defBody sBreach) (defScope sBreach) .none kV11 dc11 pm11 an11 cd11 ct11), sl11⟩) (c11 : PySem.W.codeIn K cd11 "_law_breach" = true) (k11 : PySem.W.keepIn K (.ref f11) = true)
    (a12 : PySem.W.nsIn K mainGlobals "_law_with" = some (some (.ref f12))) (l12 : K.lookup f12 = some ⟨oc12, od12, .func (PySem.W.fnOf "_law_with" "_law_with" (defArgs sWith) (defBody sWith) (defScope sWith) .none kV12 dc12 pm12 an12 cd12 ct12), sl12⟩) (c12 : PySem.W.codeIn K cd12 "_law_with" = true) (k12 : PySem.W.keepIn K (.ref f12) = true)
    (a13 : PySem.W.nsIn K mainGlobals "_law_thinned" = some (some (.ref f13))) (l13 : K.lookup f13 = some ⟨oc13, od13, .func (PySem.W.fnOf "_law_thinned" "_law_thinned" (defArgs sThin) (defBody sThin) (defScope sThin) .none kV13 dc13 pm13 an13 cd13 ct13), sl13⟩) (c13 : PySem.W.codeIn K cd13 "_law_thinned" = true) (k13 : PySem.W.keepIn K (.ref f13) = true)
    (a14 : PySem.W.nsIn K mainGlobals "_law_same" = some (some (.ref f14))) (l14 : K.lookup f14 = some ⟨oc14, od14, .func (PySem.W.fnOf "_law_same" "_law_same" (defArgs sSame) (defBody sSame) (defScope sSame) .none kV14 dc14 pm14 an14 cd14 ct14), sl14⟩) (c14 : PySem.W.codeIn K cd14 "_law_same" = true) (k14 : PySem.W.keepIn K (.ref f14) = true)
    (a15 : PySem.W.nsIn K mainGlobals "values_at" = some (some (.ref f15))) (l15 : K.lookup f15 = some ⟨oc15, od15, .func (PySem.W.fnOf "values_at" "values_at" (defArgs p_values_at) (defBody p_values_at) (defScope p_values_at) .none kV15 dc15 pm15 an15 cd15 ct15), sl15⟩) (c15 : PySem.W.codeIn K cd15 "values_at" = true) (k15 : PySem.W.keepIn K (.ref f15) = true)
    (a16 : PySem.W.nsIn K mainGlobals "settled_breach" = some (some (.ref f16))) (l16 : K.lookup f16 = some ⟨oc16, od16, .func (PySem.W.fnOf "settled_breach" "settled_breach" (defArgs p_settled_breach) (defBody p_settled_breach) (defScope p_settled_breach) .none kV16 dc16 pm16 an16 cd16 ct16), sl16⟩) (c16 : PySem.W.codeIn K cd16 "settled_breach" = true) (k16 : PySem.W.keepIn K (.ref f16) = true)
    (a17 : PySem.W.nsIn K mainGlobals "least_breach" = some (some (.ref f17))) (l17 : K.lookup f17 = some ⟨oc17, od17, .func (PySem.W.fnOf "least_breach" "least_breach" (defArgs p_least_breach) (defBody p_least_breach) (defScope p_least_breach) .none kV17 dc17 pm17 an17 cd17 ct17), sl17⟩) (c17 : PySem.W.codeIn K cd17 "least_breach" = true) (k17 : PySem.W.keepIn K (.ref f17) = true)
    (a18 : PySem.W.nsIn K mainGlobals "keeps" = some (some (.ref f18))) (l18 : K.lookup f18 = some ⟨oc18, od18, .func (PySem.W.fnOf "keeps" "keeps" (defArgs p_keeps) (defBody p_keeps) (defScope p_keeps) .none kV18 dc18 pm18 an18 cd18 ct18), sl18⟩) (c18 : PySem.W.codeIn K cd18 "keeps" = true) (k18 : PySem.W.keepIn K (.ref f18) = true)
    (a19 : PySem.W.nsIn K mainGlobals "law" = some (some (.ref f19))) (l19 : K.lookup f19 = some ⟨oc19, od19, .func (PySem.W.fnOf "law" "law" (defArgs sLaw) (defBody sLaw) (defScope sLaw) .none kV19 dc19 pm19 an19 cd19 ct19), sl19⟩) (c19 : PySem.W.codeIn K cd19 "law" = true) (k19 : PySem.W.keepIn K (.ref f19) = true)
    (z1 : PySem.W.nsIn K mainGlobals "len" = some none)
    (z2 : PySem.W.nsIn K mainGlobals "int" = some none)
    (z3 : PySem.W.nsIn K mainGlobals "range" = some none)
    (z4 : PySem.W.nsIn K mainGlobals "tuple" = some none)
    (z5 : PySem.W.nsIn K mainGlobals "list" = some none)
    (z6 : PySem.W.nsIn K mainGlobals "sorted" = some none)
    (z7 : PySem.W.nsIn K mainGlobals "min" = some none)
    (z8 : PySem.W.nsIn K mainGlobals "set" = some none)
    (z9 : PySem.W.nsIn K mainGlobals "isinstance" = some none)
    (z10 : PySem.W.nsIn K mainGlobals "str" = some none)
    (z11 : PySem.W.nsIn K mainGlobals "bool" = some none) :
    ∃ fd : FuncData, (∀ (s : Shared) (v : Value), BindsTo s fd ⟨[v], []⟩ [("script", v)]) ∧ ∀ base : Heap, K.In base → base.Ns mainGlobals mg → FnOk l.prog w K mg base CX0 5 fa fd ["script"] (spLaw K) := by
  have e := hfa.symm.trans (PySem.W.mg_of X G a19)
  cases e
  have D1 := df_mk (st := sTake) (ps := ["draws", "many"]) X G (fun _ _ _ _ _ _ us hl => match us, hl with | [_, _], _ => rfl) a1 l1 c1 k1
  have D2 := df_mk (st := sDraws) (ps := ["script", "many"]) X G (fun _ _ _ _ _ _ us hl => match us, hl with | [_, _], _ => rfl) a2 l2 c2 k2
  have D3 := df_mk (st := sCell) (ps := ["script", "draws"]) X G (fun _ _ _ _ _ _ us hl => match us, hl with | [_, _], _ => rfl) a3 l3 c3 k3
  have D4 := df_mk (st := sScheme) (ps := ["draws"]) X G (fun _ _ _ _ _ _ us hl => match us, hl with | [_], _ => rfl) a4 l4 c4 k4
  have D5 := df_mk (st := sWide) (ps := ["draws", "cell"]) X G (fun _ _ _ _ _ _ us hl => match us, hl with | [_, _], _ => rfl) a5 l5 c5 k5
  have D6 := df_mk (st := sRows) (ps := ["draws", "width", "most", "wide"]) X G (fun _ _ _ _ _ _ us hl => match us, hl with | [_, _, _, _], _ => rfl) a6 l6 c6 k6
  have D7 := df_mk (st := sStore) (ps := ["draws", "scheme", "most", "wide"]) X G (fun _ _ _ _ _ _ us hl => match us, hl with | [_, _, _, _], _ => rfl) a7 l7 c7 k7
  have D8 := df_mk (st := sCols) (ps := ["draws", "width"]) X G (fun _ _ _ _ _ _ us hl => match us, hl with | [_, _], _ => rfl) a8 l8 c8 k8
  have D9 := df_mk (st := sKind) (ps := ["draws", "scheme", "kind"]) X G (fun _ _ _ _ _ _ us hl => match us, hl with | [_, _, _], _ => rfl) a9 l9 c9 k9
  have D10 := df_mk (st := sAgree) (ps := ["one", "other", "columns"]) X G (fun _ _ _ _ _ _ us hl => match us, hl with | [_, _, _], _ => rfl) a10 l10 c10 k10
  have D11 := df_mk (st := sBreach) (ps := ["scheme", "store", "dependency"]) X G (fun _ _ _ _ _ _ us hl => match us, hl with | [_, _, _], _ => rfl) a11 l11 c11 k11
  have D12 := df_mk (st := sWith) (ps := ["store", "table", "rows"]) X G (fun _ _ _ _ _ _ us hl => match us, hl with | [_, _, _], _ => rfl) a12 l12 c12 k12
  have D13 := df_mk (st := sThin) (ps := ["scheme", "store", "dependency"]) X G (fun _ _ _ _ _ _ us hl => match us, hl with | [_, _, _], _ => rfl) a13 l13 c13 k13
  have D14 := df_mk (st := sSame) (ps := ["actual", "due"]) X G (fun _ _ _ _ _ _ us hl => match us, hl with | [_, _], _ => rfl) a14 l14 c14 k14
  have D15 := df_mk (st := p_values_at) (ps := ["row", "columns"]) X G (fun _ _ _ _ _ _ us hl => match us, hl with | [_, _], _ => rfl) a15 l15 c15 k15
  have D16 := df_mk (st := p_settled_breach) (ps := ["rows", "left", "right"]) X G (fun _ _ _ _ _ _ us hl => match us, hl with | [_, _, _], _ => rfl) a16 l16 c16 k16
  have D17 := df_mk (st := p_least_breach) (ps := ["scheme", "store", "dependency"]) X G (fun _ _ _ _ _ _ us hl => match us, hl with | [_, _, _], _ => rfl) a17 l17 c17 k17
  have D18 := df_mk (st := p_keeps) (ps := ["scheme", "store", "dependency"]) X G (fun _ _ _ _ _ _ us hl => match us, hl with | [_, _, _], _ => rfl) a18 l18 c18 k18
  have D19 := df_mk (st := sLaw) (ps := ["script"]) X G (fun _ _ _ _ _ _ us hl => match us, hl with | [_], _ => rfl) a19 l19 c19 k19
  have N1 := PySem.W.mg_none_of X G z1
  have N2 := PySem.W.mg_none_of X G z2
  have N3 := PySem.W.mg_none_of X G z3
  have N4 := PySem.W.mg_none_of X G z4
  have N5 := PySem.W.mg_none_of X G z5
  have N6 := PySem.W.mg_none_of X G z6
  have N7 := PySem.W.mg_none_of X G z7
  have N8 := PySem.W.mg_none_of X G z8
  have N9 := PySem.W.mg_none_of X G z9
  have N10 := PySem.W.mg_none_of X G z10
  have N11 := PySem.W.mg_none_of X G z11
  exact ⟨PySem.W.fnOf "law" "law" (defArgs sLaw) (defBody sLaw) (defScope sLaw) .none kV19 dc19 pm19 an19 cd19 ct19, fun s v => .of_eq rfl, fun base _ _ => ok_law D19.F ⟨D1.F, D1.b, D1.g, N1, N2, N3, N4, N5, N6, N7⟩ ⟨N1, N3, N9, N4, N5, N10, N11, N2⟩ N8 D2 D3 D4 D5 D6 D7 D8 D9 D10 D11 D12 D13 D14 D15 D16 D17 D18⟩
end NK
open PySem PySem.W PyProof.Rows
set_option maxHeartbeats 0 in
theorem PySem.Challenge.cw_norowstray_k16_least_breaches_of_functio_holds : PySem.Challenge.rw_norowstray_k16_least_breaches_of_functio.Holds := by
  w_on; o_law; k_head; (case hw => w_witness2)
  k_fill
  refine L2.walk_of (l := PySem.Challenge.rw_norowstray_k16_least_breaches_of_functio) (n := 63) (k := 5) (x := "script") (CX := fun _ => L2.CX0) (sp := fun w => NK.spLaw _) rfl (by decide) rfl ⟨rfl, by decide, by decide⟩ (fun w h Y => PySem.W.kIn_of Y) ?F (fun _ _ a ns hl _ hS => ⟨a, ns, rfl, hS, hl, fun _ => rfl⟩) (fun _ _ _ _ _ h => h)
  case F =>
    intro w mg fa h KX G hmg
    refine' NK.all_mk KX G hmg ?a1 ?l1 ?c1 ?k1 ?a2 ?l2 ?c2 ?k2 ?a3 ?l3 ?c3 ?k3 ?a4 ?l4 ?c4 ?k4 ?a5 ?l5 ?c5 ?k5 ?a6 ?l6 ?c6 ?k6 ?a7 ?l7 ?c7 ?k7 ?a8 ?l8 ?c8 ?k8 ?a9 ?l9 ?c9 ?k9 ?a10 ?l10 ?c10 ?k10 ?a11 ?l11 ?c11 ?k11 ?a12 ?l12 ?c12 ?k12 ?a13 ?l13 ?c13 ?k13 ?a14 ?l14 ?c14 ?k14 ?a15 ?l15 ?c15 ?k15 ?a16 ?l16 ?c16 ?k16 ?a17 ?l17 ?c17 ?k17 ?a18 ?l18 ?c18 ?k18 ?a19 ?l19 ?c19 ?k19 ?z1 ?z2 ?z3 ?z4 ?z5 ?z6 ?z7 ?z8 ?z9 ?z10 ?z11
    (case a1 => k_is); (case l1 => k_is); (case c1 => k_is); (case k1 => k_is); (case a2 => k_is); (case l2 => k_is); (case c2 => k_is); (case k2 => k_is); (case a3 => k_is); (case l3 => k_is); (case c3 => k_is); (case k3 => k_is); (case a4 => k_is); (case l4 => k_is); (case c4 => k_is); (case k4 => k_is); (case a5 => k_is); (case l5 => k_is); (case c5 => k_is); (case k5 => k_is); (case a6 => k_is); (case l6 => k_is); (case c6 => k_is); (case k6 => k_is); (case a7 => k_is); (case l7 => k_is); (case c7 => k_is); (case k7 => k_is); (case a8 => k_is); (case l8 => k_is); (case c8 => k_is); (case k8 => k_is); (case a9 => k_is); (case l9 => k_is); (case c9 => k_is); (case k9 => k_is); (case a10 => k_is); (case l10 => k_is); (case c10 => k_is); (case k10 => k_is); (case a11 => k_is); (case l11 => k_is); (case c11 => k_is); (case k11 => k_is); (case a12 => k_is); (case l12 => k_is); (case c12 => k_is); (case k12 => k_is); (case a13 => k_is); (case l13 => k_is); (case c13 => k_is); (case k13 => k_is); (case a14 => k_is); (case l14 => k_is); (case c14 => k_is); (case k14 => k_is); (case a15 => k_is); (case l15 => k_is); (case c15 => k_is); (case k15 => k_is); (case a16 => k_is); (case l16 => k_is); (case c16 => k_is); (case k16 => k_is); (case a17 => k_is); (case l17 => k_is); (case c17 => k_is); (case k17 => k_is); (case a18 => k_is); (case l18 => k_is); (case c18 => k_is); (case k18 => k_is); (case a19 => k_is); (case l19 => k_is); (case c19 => k_is); (case k19 => k_is); (case z1 => k_is); (case z2 => k_is); (case z3 => k_is); (case z4 => k_is); (case z5 => k_is); (case z6 => k_is); (case z7 => k_is); (case z8 => k_is); (case z9 => k_is); (case z10 => k_is); (case z11 => k_is)

