import PyProof.Rows.All
import Wide.All
import OpenK.AllK
import Wide.FinOn
import HandS.ForMost
import HandS.More
import HandS.TupMul
import HandS.TupAny
import HandS.IsInst
import HandS.Codes
import PySem.Challenge.RW_norowstray_k05_written_books
set_option Elab.async false
set_option linter.all false
set_option maxRecDepth 100000
set_option backward.match.sparseCases false
set_option maxHeartbeats 4000000
/-! What the law's helpers keep: everything but the one list of draws. -/
namespace NK
open PySem PySem.Spec PyProof.Rows L2

/-- all that was tracked stays, but for what stands at d -/
def KB (d : Addr) (H H' : Hp) : Prop := ∀ b o, b ≠ d → H b = some o → H' b = some o
theorem KB.refl {d : Addr} {H : Hp} : KB d H H := fun _ _ _ h => h
theorem KB.trans {d : Addr} {H H1 H2 : Hp} (a : KB d H H1) (b : KB d H1 H2) : KB d H H2 := fun c o n h => b c o n (a c o n h)
theorem KB.same {d : Addr} {H H' : Hp} (s : Same H H') : KB d H H' := fun b o _ h => s b o h
theorem KB.at {d : Addr} {H : Hp} {o : HO} : KB d H (upd H d o) := fun b _ n h => by
  rw [upd_ne n]
  exact h
/-- a store at a place that was free at the start -/
theorem KB.put {d p : Addr} {H H' : Hp} {o : HO} (k : KB d H H') (n : H p = none) : KB d H (upd H' p o) := fun b x nb h => by
  rw [upd_ne (ne_of_none h n)]
  exact k b x nb h
theorem KB.new {d p : Addr} {H : Hp} {o : HO} (n : H p = none) : KB d H (upd H p o) := KB.refl.put n
theorem KB.free {d p : Addr} {H H' : Hp} (k : KB d H H') (n : H' p = none) (hp : p ≠ d) : H p = none := by
  cases q : H p with
  | none => rfl
  | some o =>
    rw [k p o hp q] at n
    cases n
theorem Same.put {p : Addr} {H H' : Hp} {o : HO} (k : Same H H') (n : H p = none) : Same H (upd H' p o) := fun b x h => by
  rw [upd_ne (ne_of_none h n)]
  exact k b x h
theorem same_upd {H : Hp} {p : Addr} {o : HO} (h : H p = none) : Same H (upd H p o) := fun b x e => by
  rw [upd_ne (ne_of_none e h)]
  exact e

/-- a comprehension's turn without a test -/
theorem yesT {σ : L2.St} {H : Hp} {A B : Bool → Hp → Prop} (h : A true H) : tYes σ H (fun b H3 => if b = true then A b H3 else B b H3) := by
  show (if true = true then A true H else B true H)
  rw [if_pos rfl]
  exact h
/-- the draws: a list of ints, not too long -/
def Dr (H : Hp) (d : Addr) : Prop := ∃ ds : List Int, H d = some (.lst (ds.map V.int)) ∧ ds.length ≤ 2000
theorem Dr.upd {H : Hp} {d p : Addr} {o : HO} (D : Dr H d) (n : d ≠ p) : Dr (upd H p o) d := by
  obtain ⟨ds, e, l⟩ := D
  exact ⟨ds, by rw [upd_ne n]; exact e, l⟩
theorem Dr.ne {H : Hp} {d p : Addr} (D : Dr H d) (n : H p = none) : d ≠ p := by
  obtain ⟨ds, e, l⟩ := D
  exact ne_of_none e n
theorem Dr.new {H : Hp} {d p : Addr} {o : HO} (D : Dr H d) (n : H p = none) : Dr (L2.upd H p o) d := D.upd (D.ne n)

/-- one goes on: the draws are still draws, all else stays -/
structure Go (d : Addr) (H H' : Hp) : Prop where
  kb : KB d H H'
  dr : Dr H' d
theorem Go.refl {d : Addr} {H : Hp} (D : Dr H d) : Go d H H := ⟨.refl, D⟩
theorem Go.trans {d : Addr} {H H1 H2 : Hp} (a : Go d H H1) (b : Go d H1 H2) : Go d H H2 := ⟨a.kb.trans b.kb, b.dr⟩
theorem Go.put {d p : Addr} {H H' : Hp} {o : HO} (g : Go d H H') (n : H p = none) (hp : d ≠ p) : Go d H (upd H' p o) := ⟨g.kb.put n, g.dr.upd hp⟩
theorem Go.new {d p : Addr} {H H' : Hp} {o : HO} (g : Go d H H') (n : H' p = none) : Go d H (upd H' p o) :=
  ⟨g.kb.put (g.kb.free n (g.dr.ne n).symm), g.dr.new n⟩
theorem Go.free {d p : Addr} {H H' : Hp} (g : Go d H H') (n : H' p = none) : H p = none := g.kb.free n (g.dr.ne n).symm
theorem Go.keep {d p : Addr} {H H' : Hp} {o : HO} (g : Go d H H') (h : H p = some o) (n : p ≠ d) : H' p = some o := g.kb p o n h
theorem Go.keepT {d p : Addr} {H H' : Hp} {xs : List V} (g : Go d H H') (D : Dr H d) (h : H p = some (.tup xs)) : H' p = some (.tup xs) := by
  obtain ⟨ds, e, _⟩ := D
  exact g.kb p _ (ne_of h e (fun z => by cases z)) h

/-- a tuple stays -/
theorem SqT.go {K : PySem.W.Frag} {d a : Addr} {H H' : Hp} {xs : List V} (g : Go d H H') (D : Dr H d) (h : SqT K H a xs) : SqT K H' a xs := by
  obtain ⟨ds, e, _⟩ := D
  rcases h with (h | ⟨o, h⟩) | h
  · exact .inl (.inl (g.kb a _ (ne_of h e (fun z => by cases z)) h))
  · exact .inl (.inr ⟨o, g.kb a _ (ne_of h e (fun z => by cases z)) h⟩)
  · exact .inr h
theorem SqT.same {K : PySem.W.Frag} {a : Addr} {H H' : Hp} {xs : List V} (s : Same H H') (h : SqT K H a xs) : SqT K H' a xs := by
  rcases h with (h | ⟨o, h⟩) | h
  · exact .inl (.inl (s a _ h))
  · exact .inl (.inr ⟨o, s a _ h⟩)
  · exact .inr h

/-- a tuple stays where a list is changed -/
theorem SqT.putL {K : PySem.W.Frag} {a p : Addr} {H : Hp} {xs ys zs : List V} (e : H p = some (.lst ys)) (h : SqT K H a xs) : SqT K (upd H p (.lst zs)) a xs := by
  rcases h with (h | ⟨o, h⟩) | h
  · exact .inl (.inl (by rw [upd_ne (ne_of h e (fun z => by cases z))]; exact h))
  · exact .inl (.inr ⟨o, by rw [upd_ne (ne_of h e (fun z => by cases z))]; exact h⟩)
  · exact .inr h
/-- the script: a list that is read, beside the draws -/
def Scr (K : PySem.W.Frag) (H : Hp) (d a : Addr) (xs : List V) : Prop := (Rd H a (.lst xs) ∧ a ≠ d) ∨ ∀ H' : Hp, SqL K H' a xs
theorem Scr.seq {K : PySem.W.Frag} {H : Hp} {d a : Addr} {xs : List V} (h : Scr K H d a xs) : SqL K H a xs := by
  rcases h with h | h
  · exact .inl h.1
  · exact h H
theorem Scr.go {K : PySem.W.Frag} {H H' : Hp} {d a : Addr} {xs : List V} (g : KB d H H') (h : Scr K H d a xs) : Scr K H' d a xs := by
  rcases h with ⟨h | ⟨o, h⟩, n⟩ | h
  · exact .inl ⟨.inl (g _ _ n h), n⟩
  · exact .inl ⟨.inr ⟨o, g _ _ n h⟩, n⟩
  · exact .inr h
theorem Scr.of {K : PySem.W.Frag} {H H' : Hp} {d a : Addr} {xs : List V} (s : Same H H') (n : H d = none) (h : SqL K H a xs) : Scr K H' d a xs := by
  rcases h with (h | ⟨o, h⟩) | h
  · exact .inl ⟨.inl (s _ _ h), ne_of_none h n⟩
  · exact .inl ⟨.inr ⟨o, s _ _ h⟩, ne_of_none h n⟩
  · exact .inr fun _ => .inr h

/-! ### data that never changes: ints, texts, tuples of such -/
mutual
inductive Im (K : PySem.W.Frag) (H : Hp) : V → PyData → Prop
  | int (i : Int) : Im K H (.int i) (.int i)
  | str (x : Str) : Im K H (.str x) (.str x)
  | tup {a : Addr} {xs : List V} {ds : List PyData} : SqT K H a xs → ImAll K H xs ds → Im K H (.ref a) (.tuple ds)
inductive ImAll (K : PySem.W.Frag) (H : Hp) : List V → List PyData → Prop
  | nil : ImAll K H [] []
  | cons {v : V} {vs : List V} {d : PyData} {ds : List PyData} : Im K H v d → ImAll K H vs ds → ImAll K H (v :: vs) (d :: ds)
end
mutual
theorem Im.map {K : PySem.W.Frag} {H H' : Hp} (f : ∀ a xs, SqT K H a xs → SqT K H' a xs) : ∀ {v : V} {d : PyData}, Im K H v d → Im K H' v d
  | _, _, .int i => .int i
  | _, _, .str x => .str x
  | _, _, .tup h r => .tup (f _ _ h) (ImAll.map f r)
theorem ImAll.map {K : PySem.W.Frag} {H H' : Hp} (f : ∀ a xs, SqT K H a xs → SqT K H' a xs) : ∀ {vs : List V} {ds : List PyData}, ImAll K H vs ds → ImAll K H' vs ds
  | _, _, .nil => .nil
  | _, _, .cons h r => .cons (Im.map f h) (ImAll.map f r)
end
theorem Im.go {K : PySem.W.Frag} {d : Addr} {H H' : Hp} {v : V} {t : PyData} (g : Go d H H') (D : Dr H d) (h : Im K H v t) : Im K H' v t := h.map fun _ _ q => SqT.go g D q
theorem ImAll.go {K : PySem.W.Frag} {d : Addr} {H H' : Hp} {v : List V} {t : List PyData} (g : Go d H H') (D : Dr H d) (h : ImAll K H v t) : ImAll K H' v t := h.map fun _ _ q => SqT.go g D q
theorem Im.same {K : PySem.W.Frag} {H H' : Hp} {v : V} {t : PyData} (s : Same H H') (h : Im K H v t) : Im K H' v t := h.map fun _ _ q => SqT.same s q
theorem ImAll.same {K : PySem.W.Frag} {H H' : Hp} {v : List V} {t : List PyData} (s : Same H H') (h : ImAll K H v t) : ImAll K H' v t := h.map fun _ _ q => SqT.same s q
theorem ImAll.length {K : PySem.W.Frag} {H : Hp} : ∀ {vs : List V} {ds : List PyData}, ImAll K H vs ds → vs.length = ds.length
  | _, _, .nil => rfl
  | _, _, .cons _ r => congrArg (· + 1) r.length
theorem ImAll.append {K : PySem.W.Frag} {H : Hp} : ∀ {vs us : List V} {ds es : List PyData}, ImAll K H vs ds → ImAll K H us es → ImAll K H (vs ++ us) (ds ++ es)
  | _, _, _, _, .nil, q => q
  | _, _, _, _, .cons h r, q => .cons h (ImAll.append r q)
theorem ImAll.get {K : PySem.W.Frag} {H : Hp} : ∀ {vs : List V} {ds : List PyData} {i : Nat} {v : V}, ImAll K H vs ds → vs[i]? = some v → ∃ t, ds[i]? = some t ∧ Im K H v t
  | _, _, i, v, .nil, h => by simp at h
  | _, _, 0, v, .cons h r, e => ⟨_, rfl, by cases (Option.some.inj e); exact h⟩
  | _, _, i + 1, v, .cons h r, e => r.get (i := i) e
theorem ImAll.ints {K : PySem.W.Frag} {H : Hp} : ∀ (l : List Int), ImAll K H (l.map V.int) (l.map PyData.int)
  | [] => .nil
  | i :: r => .cons (.int i) (ImAll.ints r)
theorem ImAll.ofInts {K : PySem.W.Frag} {H : Hp} : ∀ {vs : List V} {l : List Int}, ImAll K H vs (l.map PyData.int) → vs = l.map V.int
  | _, [], .nil => rfl
  | _, i :: r, .cons h q => by
    cases h
    rw [ImAll.ofInts q]
    rfl
mutual
theorem Im.dp {K : PySem.W.Frag} {H : Hp} : ∀ {v : V} {d : PyData}, Im K H v d → Dp K H v d
  | _, _, .int i => .int i
  | _, _, .str x => .str x
  | _, _, .tup h r => .tup h (ImAll.dp r)
theorem ImAll.dp {K : PySem.W.Frag} {H : Hp} : ∀ {vs : List V} {ds : List PyData}, ImAll K H vs ds → DpAll K H vs ds
  | _, _, .nil => .nil
  | _, _, .cons h r => .cons (Im.dp h) (ImAll.dp r)
end

/-! ### dependencies as data -/
inductive Dep where
  | two (deals : Bool) (t : Int) (l r : List Int)
  | joins (t : Int) (ps : List (List Int))
  | within (t : Int) (c : List Int) (o : Int) (u : List Int)
def intsD (l : List Int) : PyData := .tuple (l.map .int)
def partsD (ps : List (List Int)) : PyData := .tuple (ps.map intsD)
def kindS (deals : Bool) : Str := if deals then "deals" else "settles"
def Dep.data : Dep → PyData
  | .two k t l r => .tuple [.str (kindS k), .int t, intsD l, intsD r]
  | .joins t ps => .tuple [.str "joins", .int t, partsD ps]
  | .within t c o u => .tuple [.str "within", .int t, intsD c, .int o, intsD u]
def bookD (b : List Dep) : PyData := .tuple (b.map Dep.data)
/-- small enough to be written -/
def Sm (i : Int) : Prop := 0 ≤ i ∧ i < 10 ^ 61
def SmL (l : List Int) : Prop := l.length ≤ 30 ∧ ∀ i ∈ l, Sm i
def Dep.Sm : Dep → Prop
  | .two _ t l r => NK.Sm t ∧ SmL l ∧ SmL r
  | .joins t ps => NK.Sm t ∧ ps.length ≤ 30 ∧ ∀ p ∈ ps, SmL p
  | .within t c o u => NK.Sm t ∧ SmL c ∧ NK.Sm o ∧ SmL u
/-- a set of columns as a tuple -/
theorem Im.ints {K : PySem.W.Frag} {H : Hp} {a : Addr} {l : List Int} (h : SqT K H a (l.map V.int)) : Im K H (.ref a) (intsD l) := .tup h (.ints l)
theorem Im.toInts {K : PySem.W.Frag} {H : Hp} {v : V} {l : List Int} (h : Im K H v (intsD l)) : ∃ a, v = .ref a ∧ SqT K H a (l.map V.int) := by
  cases h with
  | tup h r => exact ⟨_, rfl, by rw [← ImAll.ofInts r]; exact h⟩
end NK

namespace NK
open PySem PySem.Spec PyProof.Rows L2
/-! ### the text -/
def topS (i : Nat) : Stmt := PySem.Challenge.pw_norowstray_k05_written_books.main.body.getD i (.Pass ⟨0, 0, 0, 0⟩)
abbrev sDraws : Stmt := topS 7
abbrev sTake : Stmt := topS 8
abbrev sCell : Stmt := topS 9
theorem scDraws : FnScope ["script", "many", "cells", "rest", "draws", "k", "at", "once", "cell"] ["script", "many"] (defScope sDraws) := ⟨rfl, rfl, rfl, by decide +kernel, rfl, by decide +kernel, by decide +kernel⟩
theorem scTake : FnScope ["draws", "many"] ["draws", "many"] (defScope sTake) := ⟨rfl, rfl, rfl, by decide +kernel, rfl, by decide +kernel, by decide +kernel⟩
theorem scCell : FnScope ["script", "draws"] ["script", "draws"] (defScope sCell) := ⟨rfl, rfl, rfl, by decide +kernel, rfl, by decide +kernel, by decide +kernel⟩

section
variable {P : Program} {w : World} {K : PySem.W.Frag} {mg : Str → Option Value} {base : Heap}
/-! ### a draw -/
def spTake : Sp := fun vs H Q _ => ∃ (d : Addr) (m : Int), vs = [.ref d, .int m] ∧ 0 < m ∧ Dr H d ∧ ∀ H' (i : Int), Go d H H' → 0 ≤ i → i < m → Q (.int i) H'
theorem ok_take {f : Addr} {fd : FuncData} {k : Nat} (F : Fun K "_law_take" "_law_take" sTake f fd) (ml : mg "len" = none) (mi : mg "int" = none) : FnOk P w K mg base CX0 (k + 1) f fd ["draws", "many"] spTake := by
  refine F.ok scTake (fun vs H Q E h => ?_) (fun cdv A outer s H vs Q E hr h => ?_)
  · obtain ⟨d, m, rfl, _⟩ := h
    rfl
  · obtain ⟨d, m, rfl, hm, D, q⟩ := h
    obtain ⟨ds, e, hl⟩ := id D
    refine ⟨_, pss_cons (ps_if (pt_cmpR op_eq (pe_callB call_len_seq (by rfl) ml PySem.boot_len (pa_cons (pv 0) pa_nil)) pe_int (nomark _)) (pss_one (ps_ret pe_int)) pss_nil)
      (pss_one (ps_ret (pe_op op_mod (pe_callTy call_int1 (by rfl) mi boot_int (pa_cons (pe_bm0 PySem.F.plainAttrs_list PySem.F.slot_list_pop PySem.F.type_list_pop mt_pop (pv 0)) pa_nil)) (pv 1)))), ?_⟩
    refine ⟨.ref d, rfl, d, ds.map V.int, rfl, .inl (SqL.of e), rfl, _, rfl, ite2 (fun z => ?_) (fun z => ?_)⟩
    · exact q H 0 (.refl D) (Int.le_refl _) hm
    · have hn : ds.length ≠ 0 := fun y => z (by rw [List.length_map, y]; exact decide_eq_true rfl)
      have h1 : ds.length - 1 < ds.length := by omega
      refine ⟨.ref d, rfl, .inl ⟨rfl, _, SqL.of e⟩, d, ds.map V.int, .int ds[ds.length - 1], rfl, rfl, e, ?_, .inl ⟨_, rfl, .int m, rfl, _, _, rfl, rfl, hm, ?_⟩⟩
      · rw [List.length_map, List.getElem?_map, List.getElem?_eq_getElem h1]
        rfl
      · refine q _ _ ⟨.at, ds.dropLast, by rw [upd_same, List.map_dropLast], by rw [List.length_dropLast]; omega⟩ (Int.emod_nonneg _ (by omega)) (Int.emod_lt_of_pos _ hm)

/-! ### a cell of the script -/
def spCell (K : PySem.W.Frag) : Sp := fun vs H Q _ => ∃ (a d : Addr) (ns : List Int), vs = [.ref a, .ref d] ∧ Scr K H d a (ns.map V.int) ∧ Dr H d ∧ ∀ H' (i : Int), Go d H H' → Q (.int i) H'
theorem ok_cell {f fT : Addr} {fd fdT : FuncData} (F : Fun K "_law_cell" "_law_cell" sCell f fd) (FT : Fun K "_law_take" "_law_take" sTake fT fdT) (bT : Binds K fdT ["draws", "many"] []) (gT : mg "_law_take" = some (.ref fT)) (ml : mg "len" = none) (mi : mg "int" = none) :
    FnOk P w K mg base CX0 2 f fd ["script", "draws"] (spCell K) := by
  have GT : FnOk P w K mg base CX0 1 fT fdT ["draws", "many"] spTake := ok_take FT ml mi
  refine F.ok scCell (fun vs H Q E h => ?_) (fun cdv A outer s H vs Q E hr h => ?_)
  · obtain ⟨a, d, ns, rfl, _⟩ := h
    rfl
  · obtain ⟨a, d, ns, rfl, hS, D, q⟩ := h
    refine ⟨_, pss_cons (ps_if (pt_cmpR op_eq (pe_callB call_len_seq (by rfl) ml PySem.boot_len (pa_cons (pv 0) pa_nil)) pe_int (nomark _)) (pss_one (ps_ret pe_int)) pss_nil)
      (pss_one (ps_ret (pe_callTy call_int1 (by rfl) mi boot_int (pa_cons (pe_ix ix_list (pv 0) (pe_call GT hr (by rfl) gT FT.kp bT .nil pass0 (pa_cons (pv 1) (pa_cons (pe_callB call_len_seq (by rfl) ml PySem.boot_len (pa_cons (pv 0) pa_nil)) pa_nil))) (fun _ _ => rfl)) pa_nil)))), ?_⟩
    refine ⟨.ref a, rfl, a, ns.map V.int, rfl, .inl hS.seq, rfl, _, rfl, ite2 (fun z => ?_) (fun z => ?_)⟩
    · exact q H 0 (.refl D)
    · have hn : ns.length ≠ 0 := fun y => z (by rw [List.length_map, y]; exact decide_eq_true rfl)
      refine ⟨.ref a, rfl, .ref d, rfl, .ref a, rfl, a, ns.map V.int, rfl, .inl hS.seq, d, _, rfl, by rw [List.length_map]; omega, D, fun H' i g h0 h1 => ?_⟩
      rw [List.length_map] at h1
      have h2 : i.toNat < ns.length := by omega
      refine ⟨a, ns.map V.int, i, .int ns[i.toNat], rfl, rfl, (hS.go g.kb).seq, at_of (by omega : i = (i.toNat : Int)) ?_, .inl ⟨_, rfl, q H' _ g⟩⟩
      rw [List.getElem?_map, List.getElem?_eq_getElem h2]
      rfl

/-! ### all draws -/
def spDraws (K : PySem.W.Frag) : Sp := fun vs H Q _ => ∃ (a : Addr) (ns : List Int) (m : Int), vs = [.ref a, .int m] ∧ SqL K H a (ns.map V.int) ∧ ns.length ≤ 63 ∧ 0 ≤ m ∧ m ≤ 2000 ∧ ∀ H' d, Same H H' → H d = none → Dr H' d → Q (.ref d) H'
theorem ok_draws {f : Addr} {fd : FuncData} {k : Nat} (F : Fun K "_law_draws" "_law_draws" sDraws f fd) (ml : mg "len" = none) (mi : mg "int" = none) (ms : mg "list" = none) (mr : mg "range" = none) : FnOk P w K mg base CX0 (k + 1) f fd ["script", "many"] (spDraws K) := by
  refine F.ok scDraws (fun vs H Q E h => ?_) (fun cdv A outer s H vs Q E hr h => ?_)
  · obtain ⟨a, ns, m, rfl, _⟩ := h
    rfl
  · obtain ⟨a, ns, m, rfl, hS, hlen, hm0, hm, q⟩ := h
    refine ⟨_, pss_cons (ps_setLc (i := 2) (own := [("cell", 8)]) (g := gName 8) (by rfl) scDraws.nd rfl rfl (sw_true rfl rfl rfl (by decide +kernel)) (pi_list (pv 0))
          (blkOk_by (N := ["script", "many", "cells", "rest", "draws", "k", "at", "once", "cell"]) (sc := defScope sDraws) (by decide +kernel)) (fun _ _ _ _ _ => pg_name (i := 8) scDraws.nd rfl (Or.inl rfl)) (fun _ _ _ _ _ => pts_nil)
          (fun _ _ _ _ _ => pe_callTy call_int1 (by rfl) mi boot_int (pa_cons (pv 8) pa_nil)))
      (C8.pss_cut (ps_if (pt_cmpR op_eq (pe_callB call_len_seq (by rfl) ml PySem.boot_len (pa_cons (pv 2) pa_nil)) pe_int (nomark _))
          (pss_one (ps_expr (pe_bm PySem.F.plainAttrs_list PySem.F.slot_list_append PySem.F.type_list_append mt_append (pv 2) (pa_cons pe_int pa_nil)))) pss_nil)
      (pss_cons (ps_set (i := 3) scDraws.nd rfl (.inl rfl) (pe_callTy call_list_of (by rfl) ms boot_list (pa_cons (pv 2) pa_nil)))
      (pss_cons (ps_set (i := 4) scDraws.nd rfl (.inl rfl) (pe_lst pa_nil))
      (pss_cons (ps_for PassesOwn.never rfl (pi_range1 rfl mr (pa_cons (pv 1) pa_nil)) (pg_name (i := 5) scDraws.nd rfl (.inl rfl))
        (pss_cons (ps_set (i := 6) scDraws.nd rfl (.inl rfl) (pe_op op_mod (pv 5) (pe_callB call_len_seq (by rfl) ml PySem.boot_len (pa_cons (pv 2) pa_nil))))
        (pss_one (ps_if (pt_cmpR op_ge (pe_ix ix_list (pv 2) (pv 6) (fun _ _ => rfl)) (pe_op op_pow pe_int pe_int) (nomark _))
          (pss_cons (ps_expr (pe_bm PySem.F.plainAttrs_list PySem.F.slot_list_append PySem.F.type_list_append mt_append (pv 4) (pa_cons (pe_op op_mod (pe_callTy call_int1 (by rfl) mi boot_int (pa_cons (pe_ix ix_list (pv 3) (pv 6) (fun _ _ => rfl)) pa_nil)) pe_int) pa_nil)))
          (pss_one (ps_asg (pe_op op_fdiv (pe_ix ix_list (pv 3) (pv 6) (fun _ _ => rfl)) pe_int) (pg_sub (pv 3) (pv 6) set_list))))
          (pss_cons (ps_set (i := 7) scDraws.nd rfl (.inl rfl) (pe_op op_mod (pe_callTy call_int1 (by rfl) mi boot_int (pa_cons (pe_op op_add (pe_op op_add (pe_op op_mul (pe_ix ix_list (pv 2) (pv 6) (fun _ _ => rfl)) pe_int) (pe_op op_mul (pv 5) pe_int)) pe_int) pa_nil)) pe_int))
          (pss_one (ps_expr (pe_bm PySem.F.plainAttrs_list PySem.F.slot_list_append PySem.F.type_list_append mt_append (pv 4)
            (pa_cons (pe_op op_mod (pe_callTy call_int1 (by rfl) mi boot_int (pa_cons (pe_op op_add (pe_op op_add (pe_op op_mul (pv 7) (pv 7)) (pe_op op_mul pe_int (pv 7))) (pv 5)) pa_nil)) pe_int) pa_nil)))))))))
      (pss_cons (ps_expr (pe_bm0 PySem.F.plainAttrs_list PySem.F.slot_list_reverse PySem.F.type_list_reverse mt_reverse (pv 4)))
      (pss_one (ps_ret (pv 4)))))))), ?_⟩
    -- cells
    refine ⟨.ref a, rfl, a, rfl, ⟨_, hS⟩, fun C nC => lc_list (K := K) (a := a) (xs := ns.map V.int) (fun i H' => Same H H' ∧ ∃ zs : List Int, H' C = some (.lst (zs.map V.int)) ∧ zs.length = i)
      ⟨same_upd nC, [], upd_same, rfl⟩ (fun i H' _ h => h.1.seq hS) (fun i x H' hx hP => ?_) (fun H1 hP => ?_)⟩
    · obtain ⟨sm, zs, eC, ez⟩ := hP
      have hi : i < ns.length := by
        obtain ⟨h1, _⟩ := List.getElem?_eq_some_iff.mp hx
        rw [List.length_map] at h1
        exact h1
      have ex : x = .int ns[i] := by
        rw [List.getElem?_map, List.getElem?_eq_getElem hi] at hx
        exact (Option.some.inj hx).symm
      subst ex
      refine ⟨rfl, yesT ?_⟩
      refine ⟨.int ns[i], rfl, .inl ⟨_, rfl, zs.map V.int, eC, ?_, ?_⟩⟩
      · rw [List.length_map, ez]
        exact small1000 (by omega)
      · exact ⟨fun b o e => by rw [upd_ne (ne_of_none e nC)]; exact sm b o e, zs ++ [ns[i]], by rw [upd_same, List.map_append]; rfl, by rw [List.length_append, ez]; rfl⟩
    · obtain ⟨sm1, zs, eC, ez⟩ := hP
      rw [List.length_map] at ez
      -- not empty
      refine ⟨fun σ H2 => σ = [some (.ref a), some (.int m), some (.ref C), none, none, none, none, none, none] ∧ Same H H2 ∧ ∃ cs : List Int, H2 C = some (.lst (cs.map V.int)) ∧ 0 < cs.length ∧ cs.length ≤ 63, ?_, fun σ H2 hM => ?_⟩
      · refine ⟨.ref C, rfl, C, _, rfl, .inl (SqL.of eC), rfl, _, rfl, ite2 (fun z => ?_) (fun z => ?_)⟩
        · refine ⟨.ref C, rfl, .inl ⟨rfl, _, SqL.of eC⟩, C, _, _, rfl, rfl, eC, ?_, ?_⟩
          · rw [List.length_map]
            exact small1000 (by omega)
          · refine ⟨rfl, fun b o e => by rw [upd_ne (ne_of_none e nC)]; exact sm1 b o e, zs ++ [0], by rw [upd_same, List.map_append]; rfl, by rw [List.length_append]; exact Nat.succ_pos _, ?_⟩
            have e0 : zs.length = 0 := by
              have y := of_decide_eq_true z
              have y2 := V.int.inj y
              rw [List.length_map] at y2
              omega
            rw [List.length_append, e0]
            decide
        · refine ⟨rfl, sm1, zs, eC, ?_, by omega⟩
          rcases Nat.eq_zero_or_pos zs.length with y | y
          · exact absurd (by rw [List.length_map, y]; exact decide_eq_true rfl) z
          · exact y
      · obtain ⟨rfl, sm2, cs, eC2, c0, c1⟩ := hM
        -- rest, draws
        refine ⟨.ref C, rfl, C, _, rfl, .inl (SqL.of eC2), fun R nR => ⟨Nat.zero_le _, fun D nD => ?_⟩⟩
        have nCR : C ≠ R := ne_of_none eC2 nR
        have nDR : D ≠ R := fun z => by
          rw [z, upd_same] at nD
          cases nD
        have nCD : C ≠ D := ne_of_none (by rw [upd_ne nCR]; exact eC2) nD
        have nRH : H R = none := sm2.free nR
        have nDH : H D = none := sm2.free (by rw [upd_ne nDR] at nD; exact nD)
        have eCD : (upd (upd H2 R (.lst (cs.map V.int))) D (.lst [])) C = some (.lst (cs.map V.int)) := by
          rw [upd_ne nCD, upd_ne nCR]
          exact eC2
        refine ⟨.int m, rfl, m, rfl, by omega, by omega, for_range (n := m.toNat) (fun i σ H3 => ∃ y5 y6 y7, σ = [some (.ref a), some (.int m), some (.ref C), some (.ref R), some (.ref D), y5, y6, y7, none] ∧ Same H H3 ∧
            H3 C = some (.lst (cs.map V.int)) ∧ (∃ rs : List Int, H3 R = some (.lst (rs.map V.int)) ∧ rs.length = cs.length) ∧ ∃ ds : List Int, H3 D = some (.lst (ds.map V.int)) ∧ ds.length = i)
          ⟨none, none, none, rfl, Same.put (Same.put sm2 nRH) nDH, eCD, ⟨cs, by rw [upd_ne nDR.symm, upd_same], rfl⟩, [], by rw [upd_same]; rfl, rfl⟩ (fun i σ H3 hi hP => ?_) (fun σ H3 hP => ?_)⟩
        · obtain ⟨y5, y6, y7, rfl, sm3, eC3, ⟨rs, eR, hrs⟩, ds, eD, hds⟩ := hP
          have hc : (0 : Int) < ((cs.map V.int).length : Nat) := by
            rw [List.length_map]
            omega
          -- at
          refine ⟨.int (0 + (i : Int)), rfl, .ref C, rfl, C, _, rfl, .inl (SqL.of eC3), _, _, rfl, rfl, hc, ?_⟩
          have ha0 := Int.emod_nonneg (0 + (i : Int)) (show (((cs.map V.int).length : Nat) : Int) ≠ 0 by omega)
          have ha1 := Int.emod_lt_of_pos (0 + (i : Int)) hc
          dsimp only
          generalize (0 + (i : Int)) % (((cs.map V.int).length : Nat) : Int) = z at ha0 ha1 ⊢
          rw [List.length_map] at ha1
          obtain ⟨j, rfl⟩ := Int.eq_ofNat_of_zero_le ha0
          have hj : j < cs.length := by omega
          have hj2 : j < rs.length := by omega
          have gC : (cs.map V.int)[j]? = some (.int cs[j]) := by
            rw [List.getElem?_map, List.getElem?_eq_getElem hj]
            rfl
          have gR : (rs.map V.int)[j]? = some (.int rs[j]) := by
            rw [List.getElem?_map, List.getElem?_eq_getElem hj2]
            rfl
          have hz : (ds.map V.int).length < sizeLine := by
            rw [List.length_map, hds]
            exact Nat.lt_of_lt_of_le (show i < 2000 by omega) (by decide)
          have nRD : R ≠ D := nDR.symm
          refine ⟨.ref C, rfl, .int (j : Int), rfl, C, _, _, .int cs[j], rfl, rfl, SqL.of eC3, atI_nat gC, 10, 18, rfl, rfl, ⟨by decide, by decide, by decide⟩, _, _, rfl, rfl, _, rfl, ite2 (fun _ => ?_) (fun hlt => ?_)⟩
          · refine ⟨.ref D, rfl, .inl ⟨rfl, _, SqL.of eD⟩, .ref R, rfl, .int (j : Int), rfl, R, _, _, .int rs[j], rfl, rfl, SqL.of eR, atI_nat gR, .inl ⟨_, rfl, _, _, rfl, rfl, (by show (0 : Int) < 1000; decide), D, _, _, rfl, rfl, eD, hz, ?_⟩⟩
            have eR2 : (upd H3 D (.lst (ds.map V.int ++ [V.int (rs[j] % 1000)]))) R = some (.lst (rs.map V.int)) := by
              rw [upd_ne nRD]
              exact eR
            refine ⟨.ref R, rfl, .int (j : Int), rfl, R, _, _, .int rs[j], rfl, rfl, SqL.of eR2, atI_nat gR, _, _, rfl, rfl, ⟨by decide, by decide⟩, .ref R, rfl, .int (j : Int), rfl, R, _, _, j, rfl, rfl, eR2, ?_, ?_⟩
            · unfold ixN
              rw [if_pos (by omega), if_pos (by rw [List.length_map]; omega)]
              rfl
            · refine ⟨_, _, _, rfl, Same.put (Same.put sm3 nDH) nRH, ?_, ⟨rs.set j (rs[j] / 1000), ?_, by rw [List.length_set]; exact hrs⟩, ds ++ [rs[j] % 1000], ?_, by rw [List.length_append, hds]; rfl⟩
              · rw [upd_ne nCR, upd_ne nCD]
                exact eC3
              · rw [upd_same, List.map_set]
              · rw [upd_ne nDR, upd_same, List.map_append]
                rfl
          · refine ⟨.ref C, rfl, .int (j : Int), rfl, C, _, _, .int cs[j], rfl, rfl, SqL.of eC3, atI_nat gC, _, _, rfl, rfl, .inr ⟨by decide, by decide⟩, .int (0 + (i : Int)), rfl, _, _, rfl, rfl, .inr ⟨by decide, by decide⟩, _, _, rfl, rfl, _, _, rfl, rfl, .inl ⟨_, rfl, _, _, rfl, rfl, (by show (0 : Int) < 2147483647; decide), ?_⟩⟩
            have ho0 := Int.emod_nonneg (cs[j] * 48271 + (0 + (i : Int)) * 69621 + 11) (show (2147483647 : Int) ≠ 0 by decide)
            have ho1 := Int.emod_lt_of_pos (cs[j] * 48271 + (0 + (i : Int)) * 69621 + 11) (show (0 : Int) < 2147483647 by decide)
            dsimp only
            generalize (cs[j] * 48271 + (0 + (i : Int)) * 69621 + 11) % 2147483647 = o at ho0 ho1 ⊢
            refine ⟨.ref D, rfl, .inl ⟨rfl, _, SqL.of eD⟩, .int o, rfl, .int o, rfl, _, _, rfl, rfl, .inl ⟨by omega, by omega⟩, .int o, rfl, _, _, rfl, rfl, .inl ⟨by decide, by decide⟩, _, _, rfl, rfl, .int (0 + (i : Int)), rfl, _, _, rfl, rfl, .inl ⟨_, rfl, _, _, rfl, rfl, (by show (0 : Int) < 1000003; decide), D, _, _, rfl, rfl, eD, hz, ?_⟩⟩
            refine ⟨_, _, _, rfl, Same.put sm3 nDH, ?_, ⟨rs, ?_, hrs⟩, ds ++ [(o * o + 3 * o + (0 + (i : Int))) % 1000003], ?_, by rw [List.length_append, hds]; rfl⟩
            · rw [upd_ne nCD]
              exact eC3
            · rw [upd_ne nRD]
              exact eR
            · rw [upd_same, List.map_append]
              rfl
        · obtain ⟨y5, y6, y7, rfl, sm3, eC3, _, ds, eD, hds⟩ := hP
          refine ⟨.ref D, rfl, .inl ⟨rfl, _, SqL.of eD⟩, D, _, rfl, rfl, eD, .ref D, rfl, q _ D (Same.put sm3 nDH) nDH ⟨ds.reverse, by rw [upd_same, List.map_reverse], by rw [List.length_reverse]; omega⟩⟩
end
end NK

namespace NK
open PySem PySem.Spec PyProof.Rows L2
abbrev sShuf : Stmt := topS 11
abbrev sCols : Stmt := topS 12
abbrev sScheme : Stmt := topS 13
abbrev nCols : List Str := ["draws", "width", "share", "column"]
abbrev nScheme : List Str := ["draws", "many", "widths", "table"]
theorem scShuf : FnScope ["draws", "row", "found", "item"] ["draws", "row"] (defScope sShuf) := ⟨rfl, rfl, rfl, by decide +kernel, rfl, by decide +kernel, by decide +kernel⟩
theorem scCols : FnScope nCols ["draws", "width"] (defScope sCols) := ⟨rfl, rfl, rfl, by decide +kernel, rfl, by decide +kernel, by decide +kernel⟩
theorem scScheme : FnScope nScheme ["draws"] (defScope sScheme) := ⟨rfl, rfl, rfl, by decide +kernel, rfl, by decide +kernel, by decide +kernel⟩

/-- what the helpers of a law stand on: the draw's def, and the built-ins by name -/
structure Hlp (K : PySem.W.Frag) (mg : Str → Option Value) (fT : Addr) (fdT : FuncData) : Prop where
  FT : Fun K "_law_take" "_law_take" sTake fT fdT
  bT : Binds K fdT ["draws", "many"] []
  gT : mg "_law_take" = some (.ref fT)
  len : mg "len" = none
  int : mg "int" = none
  range : mg "range" = none
  tuple : mg "tuple" = none
  list : mg "list" = none
  sorted : mg "sorted" = none
  min : mg "min" = none

section
variable {P : Program} {w : World} {K : PySem.W.Frag} {mg : Str → Option Value} {base : Heap}
theorem take_in {l : List Int} {H : Hp} {D : Addr} {i : Int} (e : H D = some (.lst (l.map V.int))) (h0 : 0 ≤ i) (h1 : i < (l.length : Int)) : ∃ (x : Int), x ∈ l ∧ atI (l.map V.int) i = some (.int x) := by
  have h2 : i.toNat < l.length := by omega
  refine ⟨l[i.toNat], List.getElem_mem h2, at_of (by omega : i = (i.toNat : Int)) ?_⟩
  rw [List.getElem?_map, List.getElem?_eq_getElem h2]
  rfl
/-! ### a row in a drawn order -/
def spShuf : Sp := fun vs H Q _ => ∃ (d r : Addr) (ns : List Int), vs = [.ref d, .ref r] ∧ H r = some (.lst (ns.map V.int)) ∧ r ≠ d ∧ ns.length ≤ 50 ∧ Dr H d ∧
  ∀ H' p (ms : List Int), Go d H H' → H p = none → H' p = some (.lst (ms.map V.int)) → ms.Perm ns → Q (.ref p) H'
theorem ok_shuf {f fT : Addr} {fd fdT : FuncData} (T : Hlp K mg fT fdT) (F : Fun K "_law_shuffled" "_law_shuffled" sShuf f fd) : FnOk P w K mg base CX0 2 f fd ["draws", "row"] spShuf := by
  have GT : FnOk P w K mg base CX0 1 fT fdT ["draws", "many"] spTake := ok_take T.FT T.len T.int
  refine F.ok scShuf (fun vs H Q E h => ?_) (fun cdv A outer s H vs Q E hr h => ?_)
  · obtain ⟨d, r, ns, rfl, _⟩ := h
    rfl
  · obtain ⟨d, r, ns, rfl, er, nrd, hlen, D, q⟩ := h
    refine ⟨_, pss_cons (ps_set (i := 2) scShuf.nd rfl (.inl rfl) (pe_lst pa_nil))
      (pss_cons (ps_for PassesOwn.never rfl (pi_list (pv 1)) (pg_name (i := 3) scShuf.nd rfl (.inl rfl))
        (pss_one (ps_expr (pe_bm PySem.F.plainAttrs_list PySem.F.slot_list_insert PySem.F.type_list_insert mt_insert (pv 2)
          (pa_cons (pe_call GT hr (by rfl) T.gT T.FT.kp T.bT .nil pass0 (pa_cons (pv 0) (pa_cons (pe_op op_add (pe_callB call_len_seq (by rfl) T.len PySem.boot_len (pa_cons (pv 2) pa_nil)) pe_int) pa_nil))) (pa_cons (pv 3) pa_nil))))))
      (pss_one (ps_ret (pv 2)))), ?_⟩
    refine ⟨Nat.zero_le _, fun p np => ?_⟩
    have ndp : d ≠ p := D.ne np
    refine ⟨.ref r, rfl, r, rfl, ⟨_, SqL.of (by rw [upd_ne (ne_of_none er np)]; exact er)⟩, for_list (K := K) (a := r) (xs := ns.map V.int) (fun i σ H3 => ∃ y3, σ = [some (.ref d), some (.ref r), some (.ref p), y3] ∧ Go d H H3 ∧ ∃ ms : List Int, H3 p = some (.lst (ms.map V.int)) ∧ ms.Perm (ns.take i))
      ⟨none, rfl, (Go.refl D).new np, [], by rw [upd_same]; rfl, .nil⟩ (fun i σ H3 _ hP => ?_) (fun i x σ H3 hx hP => ?_) (fun σ H3 hP => ?_)⟩
    · obtain ⟨y3, rfl, g, _⟩ := hP
      exact SqL.of (g.keep er nrd)
    · obtain ⟨y3, rfl, g, ms, ep, pm⟩ := hP
      have hi : i < ns.length := by
        obtain ⟨h1, _⟩ := List.getElem?_eq_some_iff.mp hx
        rw [List.length_map] at h1
        exact h1
      have ex : x = .int ns[i] := by
        rw [List.getElem?_map, List.getElem?_eq_getElem hi] at hx
        exact (Option.some.inj hx).symm
      subst ex
      have hml : ms.length = i := by
        rw [pm.length_eq, List.length_take]
        omega
      refine ⟨.ref p, rfl, .inl ⟨rfl, _, SqL.of ep⟩, .ref d, rfl, .ref p, rfl, p, _, rfl, .inl (SqL.of ep), _, _, rfl, rfl, d, _, rfl, by omega, g.dr, fun H4 z g4 z0 z1 => ?_⟩
      rw [List.length_map, hml] at z1
      have ep4 : H4 p = some (.lst (ms.map V.int)) := g4.keep ep ndp.symm
      refine ⟨.int ns[i], rfl, p, _, z, .int ns[i], rfl, rfl, ep4, ?_, z0, by omega, ?_⟩
      · rw [List.length_map, hml]
        exact small1000 (by omega)
      · refine ⟨_, rfl, (g.trans g4).put np ndp, ms.take z.toNat ++ [ns[i]] ++ ms.drop z.toNat, ?_, ?_⟩
        · rw [upd_same, List.map_append, List.map_append, List.map_take, List.map_drop]
          rfl
        · rw [List.take_add_one, List.getElem?_eq_getElem hi]
          show (ms.take z.toNat ++ [ns[i]] ++ ms.drop z.toNat).Perm (ns.take i ++ [ns[i]])
          have h1 : (ms.take z.toNat ++ [ns[i]] ++ ms.drop z.toNat).Perm ([ns[i]] ++ (ms.take z.toNat ++ ms.drop z.toNat)) := by
            rw [← List.append_assoc]
            exact List.Perm.append_right _ List.perm_append_comm
          rw [List.take_append_drop] at h1
          exact (h1.trans List.perm_append_comm).trans (List.Perm.append_right _ pm)
    · obtain ⟨y3, rfl, g, ms, ep, pm⟩ := hP
      rw [List.length_map, List.take_length] at pm
      exact ⟨.ref p, rfl, q H3 p ms g np ep pm⟩

/-! ### a set of columns -/
def Cols (w : Int) (cs : List Int) : Prop := cs.Pairwise (· < ·) ∧ (∀ c ∈ cs, 0 ≤ c ∧ c < w) ∧ (cs.length : Int) ≤ w
def spCols : Sp := fun vs H Q _ => ∃ (d : Addr) (n : Int), vs = [.ref d, .int n] ∧ 0 ≤ n ∧ n ≤ 20 ∧ Dr H d ∧
  ∀ H' p (cs : List Int), Go d H H' → H p = none → H' p = some (.tup (cs.map V.int)) → Cols n cs → Q (.ref p) H'
theorem ok_cols {f fT : Addr} {fd fdT : FuncData} (T : Hlp K mg fT fdT) (F : Fun K "_law_columns" "_law_columns" sCols f fd) : FnOk P w K mg base CX0 2 f fd ["draws", "width"] spCols := by
  have GT : FnOk P w K mg base CX0 1 fT fdT ["draws", "many"] spTake := ok_take T.FT T.len T.int
  refine F.ok scCols (fun vs H Q E h => ?_) (fun cdv A outer s H vs Q E hr h => ?_)
  · obtain ⟨d, n, rfl, _⟩ := h
    rfl
  · obtain ⟨d, n, rfl, h0, h1, D, q⟩ := h
    refine ⟨_, pss_cons (ps_set (i := 2) scCols.nd rfl (.inr rfl) (pe_ix ix_list (pe_lst (pa_cons pe_int (pa_cons pe_int (pa_cons pe_int pa_nil)))) (pe_call GT hr (by rfl) T.gT T.FT.kp T.bT .nil pass0 (pa_cons (pv 0) (pa_cons pe_int pa_nil))) (fun _ _ => rfl)))
      (pss_one (ps_ret (pe_callTy call_tuple_of (by rfl) T.tuple boot_tuple (pa_cons
        (pe_lc (own := [("column", 3)]) (g := gName 3) (by rfl) scCols.nd (pi_range1 rfl T.range (pa_cons (pv 1) pa_nil)) (blkOk_by (N := nCols) (sc := defScope sCols) (by decide +kernel))
          (fun _ _ _ _ _ => pg_name (i := 3) scCols.nd rfl (Or.inl rfl))
          (fun _ _ _ _ _ => pts_one (pt_cmpR op_lt (pe_call GT hr (by rfl) T.gT T.FT.kp T.bT .nil pass0 (pa_cons (pv 0) (pa_cons pe_int pa_nil))) (pv 2) (nomark _)))
          (fun _ _ _ _ _ => pv 3)) pa_nil)))), ?_⟩
    -- share
    refine ⟨by show 3 ≤ sizeLine; decide, fun l nl => ?_⟩
    have g1 : Go d H (upd H l (.lst [.int 2, .int 3, .int 4])) := (Go.refl D).new nl
    refine ⟨.ref d, rfl, d, 3, rfl, by decide, g1.dr, fun H2 z g2 z0 z1 => ?_⟩
    have el : H2 l = some (.lst (([2, 3, 4] : List Int).map V.int)) := g2.keep (by rw [upd_same]; rfl) (D.ne nl).symm
    obtain ⟨sh, _, es⟩ := take_in el z0 (by exact z1)
    refine ⟨l, _, z, .int sh, rfl, rfl, SqL.of el, es, ?_⟩
    have g12 := g1.trans g2
    -- the comprehension
    refine ⟨.int n, rfl, n, rfl, by omega, by omega, fun C nC => lc_range (lo := 0) (n := n.toNat) (fun i H3 => Go d H H3 ∧ ∃ cs : List Int, H3 C = some (.lst (cs.map V.int)) ∧ Cols i cs)
      ⟨g12.new nC, [], by rw [upd_same]; rfl, .nil, fun c hc => (by cases hc), (by simp)⟩ (fun i H3 hi hP => ?_) (fun H3 hP => ?_)⟩
    · obtain ⟨g3, cs, eC, hc⟩ := hP
      have nCd : C ≠ d := (g12.dr.ne nC).symm
      have nCH : H C = none := g12.free nC
      refine ⟨rfl, .ref d, rfl, d, 6, rfl, by decide, g3.dr, fun H4 z g4 z0 z1 => ?_⟩
      have eC4 : H4 C = some (.lst (cs.map V.int)) := g4.keep eC nCd
      refine ⟨.int sh, rfl, _, _, rfl, rfl, _, rfl, ite2 (fun _ => ?_) (fun _ => ?_)⟩
      · refine ⟨.int (0 + (i : Int)), rfl, cs.map V.int, eC4, ?_, (g3.trans g4).put nCH nCd.symm, cs ++ [0 + (i : Int)], by rw [upd_same, List.map_append]; rfl, ?_⟩
        · rw [List.length_map]
          exact small1000 (by have := hc.2.2; omega)
        · refine ⟨List.pairwise_append.mpr ⟨hc.1, List.pairwise_singleton .., fun x hx y hy => ?_⟩, fun c h => ?_, ?_⟩
          · rw [List.mem_singleton.mp hy]
            have := hc.2.1 x hx
            omega
          · rcases List.mem_append.mp h with h | h
            · have := hc.2.1 c h
              omega
            · rw [List.mem_singleton.mp h]
              omega
          · rw [List.length_append]
            have := hc.2.2
            show ((cs.length + 1 : Nat) : Int) ≤ _
            omega
      · exact ⟨g3.trans g4, cs, eC4, hc.1, fun c h => by have := hc.2.1 c h; omega, by have := hc.2.2; omega⟩
    · obtain ⟨g3, cs, eC, hc⟩ := hP
      refine ⟨C, _, rfl, .inl ⟨SqL.of eC, fun p np => ?_⟩⟩
      have en : ((n.toNat : Nat) : Int) = n := by omega
      rw [en] at hc
      exact q _ p cs (g3.new np) (g3.free np) upd_same hc
end
end NK

namespace NK
open PySem PySem.Spec PyProof.Rows L2
/-- the readings, named (within a comprehension the context is another one, its written part the same) -/
abbrev rLenS (K : PySem.W.Frag) : List V → Hp → VK → Prop := fun xs H Q => ∃ p ys, xs = [.ref p] ∧ (SqL K H p ys ∨ SqT K H p ys) ∧ Q (.int ys.length) H
abbrev rTupOf (K : PySem.W.Frag) : List V → Hp → VK → Prop := fun xs H Q => ∃ p ys, xs = [.ref p] ∧ ((SqL K H p ys ∧ ∀ l, H l = none → Q (.ref l) (upd H l (.tup ys))) ∨ (SqT K H p ys ∧ Q (.ref p) H))
section
variable {P : Program} {w : World} {K : PySem.W.Frag} {mg : Str → Option Value} {base : Heap}
/-! ### a scheme -/
def Widths (b : Int) (ws : List Int) : Prop := 1 ≤ ws.length ∧ ws.length ≤ 12 ∧ ∀ x ∈ ws, 1 ≤ x ∧ x ≤ b
def spScheme : Sp := fun vs H Q _ => ∃ (d : Addr), vs = [.ref d] ∧ Dr H d ∧
  ∀ H' p (ws : List Int), Go d H H' → H p = none → H' p = some (.tup (ws.map V.int)) → Widths 7 ws → ws.length ≤ 6 → Q (.ref p) H'
theorem ok_scheme {f fT : Addr} {fd fdT : FuncData} (T : Hlp K mg fT fdT) (F : Fun K "_law_scheme" "_law_scheme" sScheme f fd) : FnOk P w K mg base CX0 2 f fd ["draws"] spScheme := by
  have GT : FnOk P w K mg base CX0 1 fT fdT ["draws", "many"] spTake := ok_take T.FT T.len T.int
  refine F.ok scScheme (fun vs H Q E h => ?_) (fun cdv A outer s H vs Q E hr h => ?_)
  · obtain ⟨d, rfl, _⟩ := h
    rfl
  · obtain ⟨d, rfl, D, q⟩ := h
    refine ⟨_, pss_cons (ps_set (i := 1) scScheme.nd rfl (.inl rfl) (pe_ix ix_list (pe_lst (pa_cons pe_int (pa_cons pe_int (pa_cons pe_int (pa_cons pe_int pa_nil))))) (pe_call GT hr (by rfl) T.gT T.FT.kp T.bT .nil pass0 (pa_cons (pv 0) (pa_cons pe_int pa_nil))) (fun _ _ => rfl)))
      (pss_cons (ps_set (i := 2) scScheme.nd rfl (.inr rfl) (pe_lst (pa_cons pe_int (pa_cons pe_int (pa_cons pe_int (pa_cons pe_int (pa_cons pe_int (pa_cons pe_int pa_nil))))))))
      (C8.pss_cut (ps_if (pt_cmpR op_eq (pe_call GT hr (by rfl) T.gT T.FT.kp T.bT .nil pass0 (pa_cons (pv 0) (pa_cons pe_int pa_nil))) pe_int (nomark _))
          (pss_cons (ps_set (i := 1) scScheme.nd rfl (.inl rfl) pe_int) (pss_one (ps_set (i := 2) scScheme.nd rfl (.inr rfl) (pe_lst (pa_cons pe_int (pa_cons pe_int (pa_cons pe_int (pa_cons pe_int (pa_cons pe_int (pa_cons pe_int pa_nil)))))))))) pss_nil)
      (pss_one (ps_ret (pe_callTy call_tuple_of (by rfl) T.tuple boot_tuple (pa_cons
        (pe_lc (own := [("table", 3)]) (g := gName 3) (by rfl) scScheme.nd (pi_range1 rfl T.range (pa_cons (pv 1) pa_nil)) (blkOk_by (N := nScheme) (sc := defScope sScheme) (by decide +kernel))
          (fun _ _ _ _ _ => pg_name (i := 3) scScheme.nd rfl (Or.inl rfl)) (fun _ _ _ _ _ => pts_nil)
          (fun _ _ _ _ _ => pe_ix (r := rIxL K) ix_list (pv 2) (pe_call GT hr (by rfl) T.gT T.FT.kp T.bT .nil pass0 (pa_cons (pv 0) (pa_cons pe_int pa_nil))) (fun _ _ => rfl))) pa_nil)))))), ?_⟩
    -- many
    refine ⟨by show 4 ≤ sizeLine; decide, fun l nl => ?_⟩
    have g1 : Go d H (upd H l (.lst [.int 1, .int 2, .int 2, .int 3])) := (Go.refl D).new nl
    refine ⟨.ref d, rfl, d, 4, rfl, by decide, g1.dr, fun H2 z g2 z0 z1 => ?_⟩
    have el : H2 l = some (.lst (([1, 2, 2, 3] : List Int).map V.int)) := g2.keep (by rw [upd_same]; rfl) (D.ne nl).symm
    obtain ⟨m, hm, es⟩ := take_in el z0 (by exact z1)
    refine ⟨l, _, z, .int m, rfl, rfl, SqL.of el, es, ?_⟩
    have g12 := g1.trans g2
    have hm2 : 1 ≤ m ∧ m ≤ 6 := (show ∀ m ∈ ([1, 2, 2, 3] : List Int), 1 ≤ m ∧ m ≤ 6 by decide) m hm
    -- widths
    refine ⟨by show 6 ≤ sizeLine; decide, fun W nW => ?_⟩
    have g3 := g12.new (o := .lst (([3, 2, 4, 3, 1, 3] : List Int).map V.int)) nW
    refine ⟨fun σ H4 => ∃ (m : Int) (W : Addr) (ws : List Int), σ = [some (.ref d), some (.int m), some (.ref W), none] ∧ 1 ≤ m ∧ m ≤ 6 ∧ Go d H H4 ∧ H4 W = some (.lst (ws.map V.int)) ∧ W ≠ d ∧ ws.length = 6 ∧ ∀ x ∈ ws, 1 ≤ x ∧ x ≤ 7, ?_, fun σ H4 hM => ?_⟩
    · refine ⟨.ref d, rfl, d, 12, rfl, by decide, g3.dr, fun H4 z g4 _ _ => ⟨rfl, _, rfl, ite2 (fun _ => ?_) (fun _ => ?_)⟩⟩
      · refine ⟨by show 6 ≤ sizeLine; decide, fun W2 nW2 => ?_⟩
        have g34 := g3.trans g4
        refine ⟨6, W2, [7, 5, 3, 1, 2, 6], rfl, by decide, by decide, g34.new nW2, by rw [upd_same]; rfl, (g34.dr.ne nW2).symm, rfl, by decide⟩
      · exact ⟨m, W, [3, 2, 4, 3, 1, 3], rfl, hm2.1, hm2.2, g3.trans g4, g4.keep (by rw [upd_same]; rfl) (g12.dr.ne nW).symm, (g12.dr.ne nW).symm, rfl, by decide⟩
    · obtain ⟨m, W, ws, rfl, m0, m1, g5, eW, nWd, hl, hw⟩ := hM
      refine ⟨.int m, rfl, m, rfl, by omega, by omega, fun C nC => lc_range (lo := 0) (n := m.toNat) (fun i H3 => Go d H H3 ∧ H3 W = some (.lst (ws.map V.int)) ∧ ∃ xs : List Int, H3 C = some (.lst (xs.map V.int)) ∧ xs.length = i ∧ ∀ x ∈ xs, 1 ≤ x ∧ x ≤ 7)
        ⟨g5.new nC, by rw [upd_ne (ne_of_none eW nC)]; exact eW, [], by rw [upd_same]; rfl, rfl, fun c hc => (by cases hc)⟩ (fun i H3 hi hP => ?_) (fun H3 hP => ?_)⟩
      · obtain ⟨g6, eW3, xs, eC, hx, hb⟩ := hP
        have nCd : C ≠ d := (g5.dr.ne nC).symm
        refine ⟨rfl, yesT ?_⟩
        refine ⟨.ref W, rfl, .ref d, rfl, d, 6, rfl, by decide, g6.dr, fun H4 z g4 z0 z1 => ?_⟩
        have eW4 := g4.keep eW3 nWd
        obtain ⟨y, hy, es⟩ := take_in eW4 z0 (by rw [hl]; exact z1)
        have eC4 := g4.keep eC nCd
        refine ⟨W, _, z, .int y, rfl, rfl, SqL.of eW4, es, xs.map V.int, eC4, ?_, (g6.trans g4).put (g5.free nC) nCd.symm, ?_, xs ++ [y], by rw [upd_same, List.map_append]; rfl, by rw [List.length_append, hx]; rfl, fun c h => ?_⟩
        · rw [List.length_map]
          exact small1000 (by omega)
        · rw [upd_ne (ne_of_none eW nC)]
          exact eW4
        · rcases List.mem_append.mp h with h | h
          · exact hb c h
          · rw [List.mem_singleton.mp h]
            exact hw y hy
      · obtain ⟨g6, _, xs, eC, hx, hb⟩ := hP
        exact ⟨C, _, rfl, .inl ⟨SqL.of eC, fun p np => q _ p xs (g6.new np) (g6.free np) upd_same ⟨by omega, by omega, hb⟩ (by omega)⟩⟩

/-! ### parts -/
abbrev sParts : Stmt := topS 14
abbrev nParts : List Str := ["draws", "width", "most", "many", "column", "rows", "k", "row"]
theorem scParts : FnScope nParts ["draws", "width", "most"] (defScope sParts) := ⟨rfl, rfl, rfl, by decide +kernel, rfl, by decide +kernel, by decide +kernel⟩
/-- rows: new lists of columns, not too long -/
def Row (d : Addr) (H0 H : Hp) (R : Addr) (n : Int) (b : Nat) (r : Addr) : Prop := H0 r = none ∧ r ≠ R ∧ r ≠ d ∧ ∃ l : List Int, H r = some (.lst (l.map V.int)) ∧ l.length ≤ b ∧ ∀ x ∈ l, 0 ≤ x ∧ x < n
theorem Row.go {d : Addr} {H0 H H' : Hp} {R : Addr} {n : Int} {b : Nat} {r : Addr} (g : Go d H H') (h : Row d H0 H R n b r) : Row d H0 H' R n b r := by
  obtain ⟨h1, h2, h3, l, e, h4⟩ := h
  exact ⟨h1, h2, h3, l, g.keep e h3, h4⟩
theorem Row.same {d : Addr} {H0 H H' : Hp} {R : Addr} {n : Int} {b : Nat} {r : Addr} (g : Same H H') (h : Row d H0 H R n b r) : Row d H0 H' R n b r := by
  obtain ⟨h1, h2, h3, l, e, h4⟩ := h
  exact ⟨h1, h2, h3, l, g _ _ e, h4⟩
theorem Row.mono {d : Addr} {H0 H : Hp} {R : Addr} {n : Int} {b c : Nat} {r : Addr} (g : b ≤ c) (h : Row d H0 H R n b r) : Row d H0 H R n c r := by
  obtain ⟨h1, h2, h3, l, e, h4, h5⟩ := h
  exact ⟨h1, h2, h3, l, e, Nat.le_trans h4 g, h5⟩
def spParts (K : PySem.W.Frag) : Sp := fun vs H Q _ => ∃ (d : Addr) (n m : Int), vs = [.ref d, .int n, .int m] ∧ 1 ≤ n ∧ n ≤ 13 ∧ 1 ≤ m ∧ m ≤ 10 ∧ Dr H d ∧
  ∀ H' p (ps : List (List Int)), Go d H H' → H p = none → Im K H' (.ref p) (partsD ps) → ps.length ≤ 10 → (∀ l ∈ ps, l.length ≤ 26 ∧ ∀ x ∈ l, 0 ≤ x ∧ x < n) → Q (.ref p) H'
theorem all_flat (l : List Int) : (l.map V.int).all flatV = true := by
  rw [List.all_map]
  exact List.all_eq_true.mpr fun _ _ => rfl
theorem ok_parts {f fT : Addr} {fd fdT : FuncData} (T : Hlp K mg fT fdT) (F : Fun K "_law_parts" "_law_parts" sParts f fd) : FnOk P w K mg base CX0 2 f fd ["draws", "width", "most"] (spParts K) := by
  have GT : FnOk P w K mg base CX0 1 fT fdT ["draws", "many"] spTake := ok_take T.FT T.len T.int
  refine F.ok scParts (fun vs H Q E h => ?_) (fun cdv A outer s H vs Q E hr h => ?_)
  · obtain ⟨d, n, m, rfl, _⟩ := h
    rfl
  · obtain ⟨d, n, m, rfl, n0, n1, m0, m1, D, q⟩ := h
    refine ⟨_, pss_cons (ps_set (i := 3) scParts.nd rfl (.inl rfl) (pe_op op_add pe_int (pe_call GT hr (by rfl) T.gT T.FT.kp T.bT .nil pass0 (pa_cons (pv 0) (pa_cons (pv 2) pa_nil)))))
      (pss_cons (ps_setLc (i := 5) (own := [("k", 6)]) (g := gName 6) (by rfl) scParts.nd rfl rfl (sw_true rfl rfl rfl (by decide +kernel)) (pi_range1 rfl T.range (pa_cons (pv 3) pa_nil))
          (blkOk_by (N := nParts) (sc := defScope sParts) (by decide +kernel)) (fun _ _ _ _ _ => pg_name (i := 6) scParts.nd rfl (Or.inl rfl)) (fun _ _ _ _ _ => pts_nil)
          (fun _ _ _ _ _ => pe_lc (own := [("column", 4)]) (g := gName 4) (by rfl) scParts.nd (pi_range1 rfl T.range (pa_cons (pv 1) pa_nil)) (blkOk_by (by rfl))
            (fun _ _ _ _ _ => pg_name (i := 4) scParts.nd rfl (Or.inl rfl))
            (fun _ _ _ _ _ => pts_one (pt_cmpR op_lt (pe_call GT hr (by rfl) T.gT T.FT.kp T.bT .nil pass0 (pa_cons (pv 0) (pa_cons pe_int pa_nil))) pe_int (nomark _)))
            (fun _ _ _ _ _ => pv 4)))
      (pss_cons (ps_for PassesOwn.never rfl (pi_range1 rfl T.range (pa_cons (pv 1) pa_nil)) (pg_name (i := 4) scParts.nd rfl (.inr rfl))
        (pss_one (ps_if (pt_cmpR op_eq (pe_callB call_len_seq (by rfl) T.len PySem.boot_len (pa_cons
            (pe_lc (own := [("row", 7)]) (g := gName 7) (by rfl) scParts.nd (pi_list (pv 5)) (blkOk_by (N := nParts) (sc := defScope sParts) (by decide +kernel)) (fun _ _ _ _ _ => pg_name (i := 7) scParts.nd rfl (Or.inl rfl))
              (fun _ _ _ _ _ => pts_one (pt_cmpR (r := rIn K false) op_in_seq (pv 4) (pv 7) (by rfl))) (fun _ _ _ _ _ => pv 7)) pa_nil)) pe_int (nomark _))
          (pss_one (ps_expr (pe_bm PySem.F.plainAttrs_list PySem.F.slot_list_append PySem.F.type_list_append mt_append
            (pe_ix ix_list (pv 5) (pe_call GT hr (by rfl) T.gT T.FT.kp T.bT .nil pass0 (pa_cons (pv 0) (pa_cons (pv 3) pa_nil))) (fun _ _ => rfl)) (pa_cons (pv 4) pa_nil)))) pss_nil)))
      (pss_one (ps_ret (pe_callTy call_tuple_of (by rfl) T.tuple boot_tuple (pa_cons
        (pe_lc (own := [("row", 7)]) (g := gName 7) (by rfl) scParts.nd (pi_list (pv 5)) (blkOk_by (N := nParts) (sc := defScope sParts) (by decide +kernel))
          (fun _ _ _ _ _ => pg_name (i := 7) scParts.nd rfl (Or.inl rfl)) (fun _ _ _ _ _ => pts_one (pt_cmpR op_gt (pe_callB (r := rLenS K) call_len_seq (by rfl) T.len PySem.boot_len (pa_cons (pv 7) pa_nil)) pe_int (nomark _)))
          (fun _ _ _ _ _ => pe_callTy (r := rTupOf K) call_tuple_of (by rfl) T.tuple boot_tuple (pa_cons (pe_callB (r := rSorted K) cr_sorted (by rfl) T.sorted boot_sorted (pa_cons (pv 7) pa_nil)) pa_nil))) pa_nil)))))), ?_⟩
    -- many
    refine ⟨.ref d, rfl, .int m, rfl, d, m, rfl, by omega, D, fun H1 z g1 z0 z1 => ?_⟩
    refine ⟨_, _, rfl, rfl, ?_⟩
    dsimp only
    generalize hM : 1 + z = M
    have M0 : 1 ≤ M := by omega
    have M1 : M ≤ 10 := by omega
    -- rows
    refine ⟨.int M, rfl, M, rfl, by omega, by omega, fun R nR => lc_range (lo := 0) (n := M.toNat) (fun i H3 => Go d H H3 ∧ ∃ rs : List Addr, H3 R = some (.lst (rs.map V.ref)) ∧ rs.length = i ∧ ∀ r ∈ rs, Row d H H3 R n 13 r)
      ⟨g1.new nR, [], by rw [upd_same]; rfl, rfl, fun c hc => (by cases hc)⟩ (fun i H3 hi hP => ?_) (fun H3 hP => ?_)⟩
    · obtain ⟨g3, rs, eR, hl, hr⟩ := hP
      have nRH := g1.free nR
      have nRd : R ≠ d := (D.ne nRH).symm
      refine ⟨rfl, yesT ?_⟩
      refine ⟨.int n, rfl, n, rfl, by omega, by omega, fun C nC => lc_range (lo := 0) (n := n.toNat) (fun j H4 => Go d H H4 ∧ H4 R = some (.lst (rs.map V.ref)) ∧ (∀ r ∈ rs, Row d H H4 R n 13 r ∧ r ≠ C) ∧ ∃ cs : List Int, H4 C = some (.lst (cs.map V.int)) ∧ cs.length ≤ j ∧ ∀ x ∈ cs, 0 ≤ x ∧ x < n)
        ⟨g3.new nC, by rw [upd_ne (ne_of_none eR nC)]; exact eR, fun r h => ⟨(hr r h).same (same_upd nC), ?_⟩, [], by rw [upd_same]; rfl, Nat.le_refl _, fun c hc => (by cases hc)⟩ (fun j H4 hj hP => ?_) (fun H4 hP => ?_)⟩
      · obtain ⟨_, _, _, l, e, _⟩ := hr r h
        exact ne_of_none e nC
      · obtain ⟨g4, eR4, hr4, cs, eC, hcl, hcb⟩ := hP
        have nCd : C ≠ d := (g3.dr.ne nC).symm
        refine ⟨rfl, .ref d, rfl, d, 5, rfl, by decide, g4.dr, fun H5 z g5 _ _ => ?_⟩
        have eC5 := g5.keep eC nCd
        refine ⟨_, _, rfl, rfl, _, rfl, ite2 (fun _ => ?_) (fun _ => ?_)⟩
        · refine ⟨.int (0 + (j : Int)), rfl, cs.map V.int, eC5, ?_, (g4.trans g5).put (g3.free nC) nCd.symm, ?_, fun r h => ⟨?_, (hr4 r h).2⟩, cs ++ [0 + (j : Int)], by rw [upd_same, List.map_append]; rfl, by rw [List.length_append]; exact Nat.succ_le_succ hcl, fun c h => ?_⟩
          · rw [List.length_map]
            exact small1000 (by omega)
          · rw [upd_ne (ne_of_none eR nC)]
            exact g5.keep eR4 nRd
          · obtain ⟨r1, r2, r3, l, e, r4⟩ := (hr4 r h).1
            exact ⟨r1, r2, r3, l, by rw [upd_ne (hr4 r h).2]; exact g5.keep e r3, r4⟩
          · rcases List.mem_append.mp h with h | h
            · exact hcb c h
            · rw [List.mem_singleton.mp h]
              omega
        · exact ⟨g4.trans g5, g5.keep eR4 nRd, fun r h => ⟨(hr4 r h).1.go g5, (hr4 r h).2⟩, cs, eC5, by omega, hcb⟩
      · obtain ⟨g4, eR4, hr4, cs, eC, hcl, hcb⟩ := hP
        refine ⟨rs.map V.ref, eR4, ?_, g4.put nRH nRd.symm, rs ++ [C], by rw [upd_same, List.map_append]; rfl, by rw [List.length_append, hl]; rfl, fun r h => ?_⟩
        · rw [List.length_map]
          exact small1000 (by omega)
        · have nCR : C ≠ R := (ne_of_none eR nC).symm
          have rc : Row d H H4 R n 13 C := ⟨g3.free nC, nCR, (g3.dr.ne nC).symm, cs, eC, by omega, hcb⟩
          have r0 : Row d H H4 R n 13 r := by
            rcases List.mem_append.mp h with h | h
            · exact (hr4 r h).1
            · rw [List.mem_singleton.mp h]
              exact rc
          obtain ⟨r1, r2, r3, l, e, r4⟩ := r0
          exact ⟨r1, r2, r3, l, by rw [upd_ne r2]; exact e, r4⟩
    · obtain ⟨g3, rs, eR, hl, hr⟩ := hP
      have nRH := g1.free nR
      have nRd : R ≠ d := (D.ne nRH).symm
      -- each column is in some row
      refine ⟨.int n, rfl, n, rfl, by omega, by omega, for_range (lo := 0) (n := n.toNat) (fun i σ H4 => ∃ y4 y6 y7, σ = [some (.ref d), some (.int n), some (.int m), some (.int M), y4, some (.ref R), y6, y7] ∧ Go d H H4 ∧ H4 R = some (.lst (rs.map V.ref)) ∧ ∀ r ∈ rs, Row d H H4 R n (13 + i) r)
        ⟨none, none, none, rfl, g3, eR, hr⟩ (fun i σ H4 hi hP => ?_) (fun σ H4 hP => ?_)⟩
      · obtain ⟨y4, y6, y7, rfl, g4, eR4, hr4⟩ := hP
        refine ⟨.ref R, rfl, R, rfl, ⟨_, SqL.of eR4⟩, fun C nC => lc_list (K := K) (a := R) (xs := rs.map V.ref) (fun j H5 => Same H4 H5 ∧ Go d H H5 ∧ ∃ acc : List V, H5 C = some (.lst acc) ∧ acc.length ≤ j)
          ⟨same_upd nC, g4.new nC, [], upd_same, Nat.le_refl _⟩ (fun j H5 _ h => SqL.of (h.1 _ _ eR4)) (fun j x H5 hx hP => ?_) (fun H5 hP => ?_)⟩
        · obtain ⟨s5, g5, acc, eC, hac⟩ := hP
          have hj : j < rs.length := by
            obtain ⟨h1, _⟩ := List.getElem?_eq_some_iff.mp hx
            rw [List.length_map] at h1
            exact h1
          have ex : x = .ref rs[j] := by
            rw [List.getElem?_map, List.getElem?_eq_getElem hj] at hx
            exact (Option.some.inj hx).symm
          subst ex
          obtain ⟨r1, r2, r3, l, e, r4, r5⟩ := hr4 rs[j] (List.getElem_mem hj)
          have nCd : C ≠ d := (g4.dr.ne nC).symm
          refine ⟨rfl, .int (0 + (i : Int)), rfl, .ref rs[j], rfl, rs[j], l.map V.int, rfl, .inl (SqL.of (s5 _ _ e)), rfl, all_flat l, _, rfl, ite2 (fun _ => ?_) (fun _ => ?_)⟩
          · refine ⟨.ref rs[j], rfl, acc, eC, small1000 (by omega), ?_, g5.put (g4.free nC) nCd.symm, acc ++ [.ref rs[j]], upd_same, by rw [List.length_append]; exact Nat.succ_le_succ hac⟩
            exact fun b o h => by rw [upd_ne (ne_of_none h nC)]; exact s5 b o h
          · exact ⟨s5, g5, acc, eC, by omega⟩
        · obtain ⟨s5, g5, acc, eC, hac⟩ := hP
          have hr5 : ∀ r ∈ rs, Row d H H5 R n (13 + i) r := fun r h => (hr4 r h).same s5
          have eR5 := s5 _ _ eR4
          refine ⟨C, _, rfl, .inl (SqL.of eC), rfl, _, rfl, ite2 (fun _ => ?_) (fun _ => ?_)⟩
          · refine ⟨.ref R, rfl, .ref d, rfl, .int M, rfl, d, M, rfl, by omega, g5.dr, fun H6 z g6 z0 z1 => ?_⟩
            have eR6 := g6.keep eR5 nRd
            have hz : z.toNat < rs.length := by omega
            obtain ⟨r1, r2, r3, l, e, r4, r5⟩ := (hr5 _ (List.getElem_mem hz)).go g6
            refine ⟨R, _, z, .ref rs[z.toNat], rfl, rfl, SqL.of eR6, at_of (by omega : z = (z.toNat : Int)) (by rw [List.getElem?_map, List.getElem?_eq_getElem hz]; rfl), .inl ⟨rfl, _, SqL.of e⟩, .int (0 + (i : Int)), rfl, rs[z.toNat], _, _, rfl, rfl, e, ?_, ?_⟩
            · rw [List.length_map]
              exact small1000 (by omega)
            · refine ⟨_, _, _, rfl, (g5.trans g6).put r1 r3.symm, by rw [upd_ne r2.symm]; exact eR6, fun r h => ?_⟩
              obtain ⟨t1, t2, t3, l', e', t4, t5⟩ := (hr5 r h).go g6
              by_cases hx : r = rs[z.toNat]
              · subst hx
                refine ⟨r1, r2, r3, l ++ [0 + (i : Int)], by rw [upd_same, List.map_append]; rfl, by rw [List.length_append]; exact Nat.succ_le_succ r4, fun c h => ?_⟩
                rcases List.mem_append.mp h with h | h
                · exact r5 c h
                · rw [List.mem_singleton.mp h]
                  omega
              · exact ⟨t1, t2, t3, l', by rw [upd_ne hx]; exact e', by omega, t5⟩
          · exact ⟨_, _, _, rfl, g5, eR5, fun r h => (hr5 r h).mono (by omega)⟩
      · obtain ⟨y4, y6, y7, rfl, g4, eR4, hr4⟩ := hP
        -- the parts
        refine ⟨.ref R, rfl, R, rfl, ⟨_, SqL.of eR4⟩, fun C nC => lc_list (K := K) (a := R) (xs := rs.map V.ref) (fun j H5 => Same H4 H5 ∧ Go d H H5 ∧ ∃ (acc : List V) (ps : List (List Int)), H5 C = some (.lst acc) ∧ ImAll K H5 acc (ps.map intsD) ∧ acc.length ≤ j ∧ ∀ l ∈ ps, l.length ≤ 26 ∧ ∀ x ∈ l, 0 ≤ x ∧ x < n)
          ⟨same_upd nC, g4.new nC, [], [], upd_same, .nil, Nat.le_refl _, fun c hc => (by cases hc)⟩ (fun j H5 _ h => SqL.of (h.1 _ _ eR4)) (fun j x H5 hx hP => ?_) (fun H5 hP => ?_)⟩
        · obtain ⟨s5, g5, acc, ps, eC, im, hac, hps⟩ := hP
          have hj : j < rs.length := by
            obtain ⟨h1, _⟩ := List.getElem?_eq_some_iff.mp hx
            rw [List.length_map] at h1
            exact h1
          have ex : x = .ref rs[j] := by
            rw [List.getElem?_map, List.getElem?_eq_getElem hj] at hx
            exact (Option.some.inj hx).symm
          subst ex
          obtain ⟨r1, r2, r3, l, e, r4, r5⟩ := hr4 rs[j] (List.getElem_mem hj)
          have nCd : C ≠ d := (g4.dr.ne nC).symm
          refine ⟨rfl, .ref rs[j], rfl, rs[j], _, rfl, .inl (SqL.of (s5 _ _ e)), _, _, rfl, rfl, _, rfl, ite2 (fun _ => ?_) (fun _ => ?_)⟩
          · refine ⟨.ref rs[j], rfl, rs[j], l, rfl, SqL.of (s5 _ _ e), by omega, fun l' p pm _ np => ?_⟩
            refine ⟨p, _, rfl, .inl ⟨SqL.of upd_same, fun t nt => ?_⟩⟩
            have s6 : Same H5 (upd (upd H5 p (.lst (l'.map V.int))) t (.tup (l'.map V.int))) := (same_upd np).trans (same_upd nt)
            refine ⟨acc, s6 _ _ eC, small1000 (by omega), ?_, ((g5.new np).new nt).put (g4.free nC) nCd.symm, acc ++ [.ref t], ps ++ [l'], upd_same, ?_, by rw [List.length_append]; exact Nat.succ_le_succ hac, fun c h => ?_⟩
            · exact fun b o h => by rw [upd_ne (ne_of_none h nC)]; exact s6 _ _ (s5 b o h)
            · have nCt : t ≠ C := (ne_of_none (by rw [upd_ne (ne_of_none eC np)]; exact eC) nt).symm
              have fT : ∀ (a : Addr) (xs : List V), SqT K (upd (upd H5 p (.lst (l'.map V.int))) t (.tup (l'.map V.int))) a xs → SqT K (upd (upd (upd H5 p (.lst (l'.map V.int))) t (.tup (l'.map V.int))) C (.lst (acc ++ [.ref t]))) a xs := fun a xs h => SqT.putL (s6 _ _ eC) h
              rw [List.map_append]
              exact ((im.same s6).map fT).append (.cons (Im.ints (fT _ _ (SqT.of upd_same))) .nil)
            · rcases List.mem_append.mp h with h | h
              · exact hps c h
              · rw [List.mem_singleton.mp h]
                exact ⟨by rw [pm.length_eq]; omega, fun x hx => r5 x (pm.mem_iff.mp hx)⟩
          · exact ⟨s5, g5, acc, ps, eC, im, by omega, hps⟩
        · obtain ⟨s5, g5, acc, ps, eC, im, hac, hps⟩ := hP
          rw [List.length_map] at hac
          refine ⟨C, _, rfl, .inl ⟨SqL.of eC, fun p np => q _ p ps (g5.new np) (g5.free np) (.tup (SqT.of upd_same) (im.same (same_upd np))) ?_ hps⟩⟩
          have e := im.length
          rw [List.length_map] at e
          omega
end
end NK

namespace NK
open PySem PySem.Spec PyProof.Rows L2
abbrev sIncl : Stmt := topS 15
abbrev sDep : Stmt := topS 16
abbrev sOrder : Stmt := topS 17
abbrev sBook : Stmt := topS 18
abbrev sLarge : Stmt := topS 21
abbrev nIncl : List Str := ["draws", "scheme", "order", "first", "table", "other", "many", "columns", "others", "column"]
abbrev nOrder : List Str := ["draws", "scheme", "table"]
abbrev nBook : List Str := ["draws", "scheme", "most", "order", "k"]
theorem scIncl : FnScope nIncl ["draws", "scheme", "order"] (defScope sIncl) := ⟨rfl, rfl, rfl, by decide +kernel, rfl, by decide +kernel, by decide +kernel⟩
theorem scDep : FnScope ["draws", "scheme", "order", "kind", "table"] ["draws", "scheme", "order"] (defScope sDep) := ⟨rfl, rfl, rfl, by decide +kernel, rfl, by decide +kernel, by decide +kernel⟩
theorem scOrder : FnScope nOrder ["draws", "scheme"] (defScope sOrder) := ⟨rfl, rfl, rfl, by decide +kernel, rfl, by decide +kernel, by decide +kernel⟩
theorem scBook : FnScope nBook ["draws", "scheme", "most"] (defScope sBook) := ⟨rfl, rfl, rfl, by decide +kernel, rfl, by decide +kernel, by decide +kernel⟩
theorem scLarge : FnScope ["draws", "scheme"] ["draws"] (defScope sLarge) := ⟨rfl, rfl, rfl, by decide +kernel, rfl, by decide +kernel, by decide +kernel⟩

def upTo (n : Nat) : List Int := (List.range n).map Int.ofNat
theorem upTo_succ (n : Nat) : upTo (n + 1) = upTo n ++ [0 + (n : Int)] := by
  unfold upTo
  rw [List.range_succ, List.map_append]
  show _ ++ [(n : Int)] = _
  rw [Int.zero_add]
theorem upTo_len (n : Nat) : (upTo n).length = n := by
  unfold upTo
  rw [List.length_map, List.length_range]
theorem upTo_mem {n : Nat} {x : Int} (h : x ∈ upTo n) : 0 ≤ x ∧ x < n := by
  obtain ⟨y, hy, rfl⟩ := List.mem_map.mp h
  have := List.mem_range.mp hy
  constructor
  · exact Int.natCast_nonneg _
  · show ((y : Nat) : Int) < n
    omega
theorem cut_take (xs : List V) (m : Nat) : cutV xs none (some (m : Int)) = xs.take m := by
  unfold cutV
  rw [HT.sIx_none, HT.sIx_nat, List.drop_zero, Nat.sub_zero]
  by_cases h : m ≤ xs.length
  · rw [Nat.min_eq_left h]
  · rw [Nat.min_eq_right (by omega), List.take_length, List.take_of_length_le (by omega)]
theorem item_of {l : List Int} {i : Int} (h0 : 0 ≤ i) (h1 : i < (l.length : Int)) : ∃ (x : Int), x ∈ l ∧ atI (l.map V.int) i = some (.int x) := by
  have h2 : i.toNat < l.length := by omega
  refine ⟨l[i.toNat], List.getElem_mem h2, at_of (by omega : i = (i.toNat : Int)) ?_⟩
  rw [List.getElem?_map, List.getElem?_eq_getElem h2]
  rfl
theorem sm_of {x : Int} (h0 : 0 ≤ x) (h1 : x < 1000) : Sm x := ⟨h0, by omega⟩
section
variable {P : Program} {w : World} {K : PySem.W.Frag} {mg : Str → Option Value} {base : Heap}

/-! ### an inclusion -/
def spIncl (K : PySem.W.Frag) : Sp := fun vs H Q _ => ∃ (d s o : Addr) (ws os : List Int), vs = [.ref d, .ref s, .ref o] ∧ SqT K H s (ws.map V.int) ∧ Widths 13 ws ∧ H o = some (.lst (os.map V.int)) ∧ o ≠ d ∧ os.length = ws.length ∧ 2 ≤ os.length ∧ (∀ x ∈ os, 0 ≤ x ∧ x < ws.length) ∧ Dr H d ∧
  ∀ H' p (e : Dep), Go d H H' → H p = none → Im K H' (.ref p) e.data → e.Sm → Q (.ref p) H'
theorem ok_incl {f fT fS : Addr} {fd fdT fdS : FuncData} (T : Hlp K mg fT fdT) (F : Fun K "_law_inclusion" "_law_inclusion" sIncl f fd) (FS : Fun K "_law_shuffled" "_law_shuffled" sShuf fS fdS) (bS : Binds K fdS ["draws", "row"] []) (gS : mg "_law_shuffled" = some (.ref fS)) :
    FnOk P w K mg base CX0 3 f fd ["draws", "scheme", "order"] (spIncl K) := by
  have GT : FnOk P w K mg base CX0 1 fT fdT ["draws", "many"] spTake := ok_take T.FT T.len T.int
  have GS : FnOk P w K mg base CX0 2 fS fdS ["draws", "row"] spShuf := ok_shuf T FS
  refine F.ok scIncl (fun vs H Q E h => ?_) (fun cdv A outer s H vs Q E hr h => ?_)
  · obtain ⟨d, s, o, ws, os, rfl, _⟩ := h
    rfl
  · obtain ⟨d, sc, o, ws, os, rfl, hS, hw, eo, nod, hlen, h2, hos, D, q⟩ := h
    have hr1 := hr.mono (show 1 ≤ 2 by decide)
    refine ⟨_, pss_cons (ps_set (i := 3) scIncl.nd rfl (.inl rfl) (pe_call GT hr1 (by rfl) T.gT T.FT.kp T.bT .nil pass0 (pa_cons (pv 0) (pa_cons (pe_op op_sub (pe_callB call_len_seq (by rfl) T.len PySem.boot_len (pa_cons (pv 2) pa_nil)) pe_int) pa_nil))))
      (pss_cons (ps_set (i := 4) scIncl.nd rfl (.inl rfl) (pe_ix ix_list (pv 2) (pv 3) (fun _ _ => rfl)))
      (pss_cons (ps_set (i := 5) scIncl.nd rfl (.inl rfl) (pe_ix ix_list (pv 2) (pe_op op_add (pe_op op_add (pv 3) pe_int) (pe_call GT hr1 (by rfl) T.gT T.FT.kp T.bT .nil pass0 (pa_cons (pv 0) (pa_cons (pe_op op_sub (pe_op op_sub (pe_callB call_len_seq (by rfl) T.len PySem.boot_len (pa_cons (pv 2) pa_nil)) pe_int) (pv 3)) pa_nil)))) (fun _ _ => rfl)))
      (pss_cons (ps_set (i := 6) scIncl.nd rfl (.inl rfl) (pe_op op_add pe_int (pe_call GT hr1 (by rfl) T.gT T.FT.kp T.bT .nil pass0 (pa_cons (pv 0) (pa_cons (pe_callB (call_min2 rfl) (by rfl) T.min boot_min (pa_cons (pe_ix ix_tup (pv 1) (pv 4) (fun _ _ => rfl)) (pa_cons (pe_ix ix_tup (pv 1) (pv 5) (fun _ _ => rfl)) pa_nil))) pa_nil)))))
      (pss_cons (ps_set (i := 7) scIncl.nd rfl (.inl rfl) (pe_slice sl_list (pe_call GS hr (by rfl) gS FS.kp bS .nil pass0 (pa_cons (pv 0) (pa_cons
          (pe_lc (own := [("column", 9)]) (g := gName 9) (by rfl) scIncl.nd (pi_range1 rfl T.range (pa_cons (pe_ix ix_tup (pv 1) (pv 4) (fun _ _ => rfl)) pa_nil)) (blkOk_by (N := nIncl) (sc := defScope sIncl) (by decide +kernel))
            (fun _ _ _ _ _ => pg_name (i := 9) scIncl.nd rfl (Or.inl rfl)) (fun _ _ _ _ _ => pts_nil) (fun _ _ _ _ _ => pv 9)) pa_nil))) po_none (po_some (pv 6))))
      (pss_cons (ps_set (i := 8) scIncl.nd rfl (.inl rfl) (pe_slice sl_list (pe_call GS hr (by rfl) gS FS.kp bS .nil pass0 (pa_cons (pv 0) (pa_cons
          (pe_lc (own := [("column", 9)]) (g := gName 9) (by rfl) scIncl.nd (pi_range1 rfl T.range (pa_cons (pe_ix ix_tup (pv 1) (pv 5) (fun _ _ => rfl)) pa_nil)) (blkOk_by (N := nIncl) (sc := defScope sIncl) (by decide +kernel))
            (fun _ _ _ _ _ => pg_name (i := 9) scIncl.nd rfl (Or.inl rfl)) (fun _ _ _ _ _ => pts_nil) (fun _ _ _ _ _ => pv 9)) pa_nil))) po_none (po_some (pv 6))))
      (pss_one (ps_ret (pe_tup (pa_cons pe_str (pa_cons (pv 4) (pa_cons (pe_callTy call_tuple_of (by rfl) T.tuple boot_tuple (pa_cons (pv 7) pa_nil)) (pa_cons (pv 5) (pa_cons (pe_callTy call_tuple_of (by rfl) T.tuple boot_tuple (pa_cons (pv 8) pa_nil)) pa_nil))))))))))))), ?_⟩
    -- first
    refine ⟨.ref d, rfl, .ref o, rfl, o, _, rfl, .inl (SqL.of eo), _, _, rfl, rfl, d, _, rfl, by rw [List.length_map]; omega, D, fun H1 a g1 a0 a1 => ?_⟩
    rw [List.length_map] at a1
    have eo1 := g1.keep eo nod
    obtain ⟨t, ht, et⟩ := item_of (l := os) a0 (by omega)
    refine ⟨.ref o, rfl, .int a, rfl, o, _, a, .int t, rfl, rfl, SqL.of eo1, et, ?_⟩
    -- other
    refine ⟨.ref o, rfl, .int a, rfl, _, _, rfl, rfl, .ref d, rfl, .ref o, rfl, o, _, rfl, .inl (SqL.of eo1), _, _, rfl, rfl, .int a, rfl, _, _, rfl, rfl, d, _, rfl, by rw [List.length_map]; omega, g1.dr, fun H2 b g2 b0 b1 => ?_⟩
    rw [List.length_map] at b1
    have eo2 := g2.keep eo1 nod
    have g12 := g1.trans g2
    obtain ⟨u, hu, eu⟩ := item_of (l := os) (i := a + 1 + b) (by omega) (by omega)
    refine ⟨_, _, rfl, rfl, o, _, _, .int u, rfl, rfl, SqL.of eo2, eu, ?_⟩
    have ht2 := hos t ht
    have hu2 := hos u hu
    obtain ⟨x, hx, ex⟩ := item_of (l := ws) ht2.1 ht2.2
    obtain ⟨y, hy, ey⟩ := item_of (l := ws) hu2.1 hu2.2
    have hx2 := hw.2.2 x hx
    have hy2 := hw.2.2 y hy
    have hwl : ws.length ≤ 12 := hw.2.1
    -- many
    refine ⟨.ref d, rfl, .ref sc, rfl, .int t, rfl, sc, _, t, .int x, rfl, rfl, SqT.go g12 D hS, ex, .ref sc, rfl, .int u, rfl, sc, _, u, .int y, rfl, rfl, SqT.go g12 D hS, ey, x, y, rfl, d, _, rfl, by split <;> omega, g2.dr, fun H3 m g3 m0 m1 => ?_⟩
    have g13 := g12.trans g3
    refine ⟨_, _, rfl, rfl, ?_⟩
    dsimp only
    generalize hM : 1 + m = M
    obtain ⟨M, rfl⟩ := Int.eq_ofNat_of_zero_le (show 0 ≤ M by omega)
    -- columns
    refine ⟨.ref d, rfl, .ref sc, rfl, .int t, rfl, sc, _, t, .int x, rfl, rfl, SqT.go g13 D hS, ex, x, rfl, by omega, by omega, fun C nC => lc_range (lo := 0) (n := x.toNat) (fun i H4 => Go d H H4 ∧ H4 C = some (.lst ((upTo i).map V.int)))
      ⟨g13.new nC, by rw [upd_same]; rfl⟩ (fun i H4 hi hP => ?_) (fun H4 hP => ?_)⟩
    · obtain ⟨g4, eC⟩ := hP
      refine ⟨rfl, yesT ⟨.int (0 + (i : Int)), rfl, _, eC, ?_, g4.put (g13.free nC) (g13.dr.ne nC), ?_⟩⟩
      · rw [List.length_map, upTo_len]
        exact small1000 (by omega)
      · rw [upd_same, upTo_succ, List.map_append]
        rfl
    · obtain ⟨g4, eC⟩ := hP
      refine ⟨d, C, upTo x.toNat, rfl, eC, (g13.dr.ne nC).symm, by rw [upTo_len]; omega, g4.dr, fun H5 p1 c1 g5 np1 e1 pm1 => ?_⟩
      have g15 := g4.trans g5
      refine ⟨.int (M : Int), rfl, (M : Int), rfl, p1, _, rfl, SqL.of e1, fun q1 nq1 => ?_⟩
      rw [cut_take, ← List.map_take]
      have g16 := g15.new (o := .lst ((c1.take M).map V.int)) nq1
      have nq1d : q1 ≠ d := (g15.dr.ne nq1).symm
      -- others
      refine ⟨.ref d, rfl, .ref sc, rfl, .int u, rfl, sc, _, u, .int y, rfl, rfl, SqT.go g16 D hS, ey, y, rfl, by omega, by omega, fun C2 nC2 => lc_range (lo := 0) (n := y.toNat) (fun i H6 => Go d H H6 ∧ H6 q1 = some (.lst ((c1.take M).map V.int)) ∧ H6 C2 = some (.lst ((upTo i).map V.int)))
        ⟨g16.new nC2, by rw [upd_ne (ne_of_none upd_same nC2), upd_same], by rw [upd_same]; rfl⟩ (fun i H6 hi hP => ?_) (fun H6 hP => ?_)⟩
      · obtain ⟨g6, eq1, eC2⟩ := hP
        refine ⟨rfl, yesT ⟨.int (0 + (i : Int)), rfl, _, eC2, ?_, g6.put (g16.free nC2) (g16.dr.ne nC2), ?_, ?_⟩⟩
        · rw [List.length_map, upTo_len]
          exact small1000 (by omega)
        · rw [upd_ne (ne_of_none upd_same nC2)]
          exact eq1
        · rw [upd_same, upTo_succ, List.map_append]
          rfl
      · obtain ⟨g6, eq1, eC2⟩ := hP
        refine ⟨d, C2, upTo y.toNat, rfl, eC2, (g16.dr.ne nC2).symm, by rw [upTo_len]; omega, g6.dr, fun H7 p2 c2 g7 np2 e2 pm2 => ?_⟩
        have g17 := g6.trans g7
        have eq7 := g7.keep eq1 nq1d
        refine ⟨.int (M : Int), rfl, (M : Int), rfl, p2, _, rfl, SqL.of e2, fun q2 nq2 => ?_⟩
        rw [cut_take, ← List.map_take]
        have s8 := same_upd (o := HO.lst ((c2.take M).map V.int)) nq2
        -- the tuple
        refine ⟨.int t, rfl, .ref q1, rfl, q1, _, rfl, .inl ⟨SqL.of (s8 _ _ eq7), fun t1 nt1 => ?_⟩⟩
        have s9 := same_upd (o := HO.tup ((c1.take M).map V.int)) nt1
        refine ⟨.int u, rfl, .ref q2, rfl, q2, _, rfl, .inl ⟨SqL.of (s9 _ _ upd_same), fun t2 nt2 => ?_⟩⟩
        have s10 := same_upd (o := HO.tup ((c2.take M).map V.int)) nt2
        refine ⟨by show 5 ≤ sizeLine; decide, fun p np => ?_⟩
        have s11 := same_upd (o := HO.tup [.str "within", .int t, .ref t1, .int u, .ref t2]) np
        have g20 := (((g17.new (o := HO.lst ((c2.take M).map V.int)) nq2).new (o := HO.tup ((c1.take M).map V.int)) nt1).new (o := HO.tup ((c2.take M).map V.int)) nt2).new (o := HO.tup [.str "within", .int t, .ref t1, .int u, .ref t2]) np
        refine q _ p (.within t (c1.take M) u (c2.take M)) g20 (Go.free (((g17.new (o := HO.lst ((c2.take M).map V.int)) nq2).new (o := HO.tup ((c1.take M).map V.int)) nt1).new (o := HO.tup ((c2.take M).map V.int)) nt2) np) ?_ ?_
        · exact .tup (SqT.of upd_same) (.cons (.str _) (.cons (.int _) (.cons (Im.ints (SqT.of (s11 _ _ (s10 _ _ upd_same)))) (.cons (.int _) (.cons (Im.ints (SqT.of (s11 _ _ upd_same))) .nil)))))
        · have hc1 := pm1.length_eq
          have hc2 := pm2.length_eq
          rw [upTo_len] at hc1 hc2
          refine ⟨sm_of ht2.1 (by omega), ⟨by rw [List.length_take]; omega, fun z hz => ?_⟩, sm_of hu2.1 (by omega), ⟨by rw [List.length_take]; omega, fun z hz => ?_⟩⟩
          · have := upTo_mem (pm1.mem_iff.mp (List.mem_of_mem_take hz))
            exact sm_of this.1 (by omega)
          · have := upTo_mem (pm2.mem_iff.mp (List.mem_of_mem_take hz))
            exact sm_of this.1 (by omega)
end
end NK

namespace NK
open PySem PySem.Spec PyProof.Rows L2
section
variable {P : Program} {w : World} {K : PySem.W.Frag} {mg : Str → Option Value} {base : Heap}
/-! ### the tables in a drawn order -/
def spOrder (K : PySem.W.Frag) : Sp := fun vs H Q _ => ∃ (d s : Addr) (ws : List Int), vs = [.ref d, .ref s] ∧ SqT K H s (ws.map V.int) ∧ ws.length ≤ 12 ∧ Dr H d ∧
  ∀ H' p (os : List Int), Go d H H' → H p = none → H' p = some (.lst (os.map V.int)) → os.Perm (upTo ws.length) → Q (.ref p) H'
theorem ok_order {f fT fS : Addr} {fd fdT fdS : FuncData} (T : Hlp K mg fT fdT) (F : Fun K "_law_order" "_law_order" sOrder f fd) (FS : Fun K "_law_shuffled" "_law_shuffled" sShuf fS fdS) (bS : Binds K fdS ["draws", "row"] []) (gS : mg "_law_shuffled" = some (.ref fS)) :
    FnOk P w K mg base CX0 3 f fd ["draws", "scheme"] (spOrder K) := by
  have GS : FnOk P w K mg base CX0 2 fS fdS ["draws", "row"] spShuf := ok_shuf T FS
  refine F.ok scOrder (fun vs H Q E h => ?_) (fun cdv A outer s H vs Q E hr h => ?_)
  · obtain ⟨d, s, ws, rfl, _⟩ := h
    rfl
  · obtain ⟨d, sc, ws, rfl, hS, hw, D, q⟩ := h
    refine ⟨_, pss_one (ps_ret (pe_call GS hr (by rfl) gS FS.kp bS .nil pass0 (pa_cons (pv 0) (pa_cons
          (pe_lc (own := [("table", 2)]) (g := gName 2) (by rfl) scOrder.nd (pi_range1 rfl T.range (pa_cons (pe_callB call_len_seq (by rfl) T.len PySem.boot_len (pa_cons (pv 1) pa_nil)) pa_nil)) (blkOk_by (N := nOrder) (sc := defScope sOrder) (by decide +kernel))
            (fun _ _ _ _ _ => pg_name (i := 2) scOrder.nd rfl (Or.inl rfl)) (fun _ _ _ _ _ => pts_nil) (fun _ _ _ _ _ => pv 2)) pa_nil)))), ?_⟩
    refine ⟨.ref d, rfl, .ref sc, rfl, sc, _, rfl, .inr hS, _, rfl, ?_⟩
    rw [List.length_map]
    refine ⟨by omega, by omega, fun C nC => lc_range (lo := 0) (n := ((ws.length : Nat) : Int).toNat) (fun i H4 => Go d H H4 ∧ H4 C = some (.lst ((upTo i).map V.int)))
      ⟨(Go.refl D).new nC, by rw [upd_same]; rfl⟩ (fun i H4 hi hP => ?_) (fun H4 hP => ?_)⟩
    · obtain ⟨g4, eC⟩ := hP
      refine ⟨rfl, yesT ⟨.int (0 + (i : Int)), rfl, _, eC, ?_, g4.put nC (D.ne nC), ?_⟩⟩
      · rw [List.length_map, upTo_len]
        exact small1000 (by omega)
      · rw [upd_same, upTo_succ, List.map_append]
        rfl
    · obtain ⟨g4, eC⟩ := hP
      rw [Int.toNat_natCast] at eC
      refine ⟨d, C, upTo ws.length, rfl, eC, (D.ne nC).symm, by rw [upTo_len]; omega, g4.dr, fun H5 p os g5 np e pm => ?_⟩
      exact q _ p os (g4.trans g5) (g4.free np) e pm

/-! ### a dependency -/
def spDep (K : PySem.W.Frag) : Sp := fun vs H Q _ => ∃ (d s o : Addr) (ws os : List Int), vs = [.ref d, .ref s, .ref o] ∧ SqT K H s (ws.map V.int) ∧ Widths 13 ws ∧ H o = some (.lst (os.map V.int)) ∧ o ≠ d ∧ os.length = ws.length ∧ (∀ x ∈ os, 0 ≤ x ∧ x < ws.length) ∧ Dr H d ∧
  ∀ H' p (e : Dep), Go d H H' → H p = none → Im K H' (.ref p) e.data → e.Sm → Q (.ref p) H'
theorem ok_dep {f fT fS fI fP fC : Addr} {fd fdT fdS fdI fdP fdC : FuncData} (T : Hlp K mg fT fdT) (F : Fun K "_law_dependency" "_law_dependency" sDep f fd)
    (FS : Fun K "_law_shuffled" "_law_shuffled" sShuf fS fdS) (bS : Binds K fdS ["draws", "row"] []) (gS : mg "_law_shuffled" = some (.ref fS))
    (FI : Fun K "_law_inclusion" "_law_inclusion" sIncl fI fdI) (bI : Binds K fdI ["draws", "scheme", "order"] []) (gI : mg "_law_inclusion" = some (.ref fI))
    (FP : Fun K "_law_parts" "_law_parts" sParts fP fdP) (bP : Binds K fdP ["draws", "width", "most"] []) (gP : mg "_law_parts" = some (.ref fP))
    (FC : Fun K "_law_columns" "_law_columns" sCols fC fdC) (bC : Binds K fdC ["draws", "width"] []) (gC : mg "_law_columns" = some (.ref fC)) :
    FnOk P w K mg base CX0 4 f fd ["draws", "scheme", "order"] (spDep K) := by
  have GT : FnOk P w K mg base CX0 1 fT fdT ["draws", "many"] spTake := ok_take T.FT T.len T.int
  have GI : FnOk P w K mg base CX0 3 fI fdI ["draws", "scheme", "order"] (spIncl K) := ok_incl T FI FS bS gS
  have GP : FnOk P w K mg base CX0 2 fP fdP ["draws", "width", "most"] (spParts K) := ok_parts T FP
  have GC : FnOk P w K mg base CX0 2 fC fdC ["draws", "width"] spCols := ok_cols T FC
  refine F.ok scDep (fun vs H Q E h => ?_) (fun cdv A outer s H vs Q E hr h => ?_)
  · obtain ⟨d, s, o, ws, os, rfl, _⟩ := h
    rfl
  · obtain ⟨d, sc, o, ws, os, rfl, hS, hw, eo, nod, hlen, hos, D, q⟩ := h
    have hr1 := hr.mono (show 1 ≤ 3 by decide)
    have hr2 := hr.mono (show 2 ≤ 3 by decide)
    refine ⟨_, pss_cons (ps_set (i := 3) scDep.nd rfl (.inl rfl) (pe_call GT hr1 (by rfl) T.gT T.FT.kp T.bT .nil pass0 (pa_cons (pv 0) (pa_cons pe_int pa_nil))))
      (pss_cons (ps_set (i := 4) scDep.nd rfl (.inl rfl) (pe_call GT hr1 (by rfl) T.gT T.FT.kp T.bT .nil pass0 (pa_cons (pv 0) (pa_cons (pe_callB call_len_seq (by rfl) T.len PySem.boot_len (pa_cons (pv 1) pa_nil)) pa_nil))))
      (C8.pss_cut (ps_if (PW.pt (pw_and (pt_cmpR op_lt (pv 3) pe_int (nomark _)) (pw_and1 (pt_cmpR op_gt (pe_callB call_len_seq (by rfl) T.len PySem.boot_len (pa_cons (pv 1) pa_nil)) pe_int (nomark _)))))
          (pss_one (ps_ret (pe_call GI hr (by rfl) gI FI.kp bI .nil pass0 (pa_cons (pv 0) (pa_cons (pv 1) (pa_cons (pv 2) pa_nil)))))) pss_nil)
      (pss_cons (ps_if (pt_cmpR op_lt (pv 3) pe_int (nomark _))
          (pss_one (ps_ret (pe_tup (pa_cons pe_str (pa_cons (pv 4) (pa_cons (pe_call GP hr2 (by rfl) gP FP.kp bP .nil pass0 (pa_cons (pv 0) (pa_cons (pe_ix ix_tup (pv 1) (pv 4) (fun _ _ => rfl)) (pa_cons pe_int pa_nil)))) pa_nil)))))) pss_nil)
      (pss_cons (ps_if (pt_cmpR op_lt (pv 3) pe_int (nomark _))
          (pss_one (ps_ret (pe_tup (pa_cons pe_str (pa_cons (pv 4) (pa_cons (pe_call GC hr2 (by rfl) gC FC.kp bC .nil pass0 (pa_cons (pv 0) (pa_cons (pe_ix ix_tup (pv 1) (pv 4) (fun _ _ => rfl)) pa_nil)))
            (pa_cons (pe_call GC hr2 (by rfl) gC FC.kp bC .nil pass0 (pa_cons (pv 0) (pa_cons (pe_ix ix_tup (pv 1) (pv 4) (fun _ _ => rfl)) pa_nil))) pa_nil))))))) pss_nil)
      (pss_one (ps_ret (pe_tup (pa_cons pe_str (pa_cons (pv 4) (pa_cons (pe_call GC hr2 (by rfl) gC FC.kp bC .nil pass0 (pa_cons (pv 0) (pa_cons (pe_ix ix_tup (pv 1) (pv 4) (fun _ _ => rfl)) pa_nil)))
            (pa_cons (pe_call GC hr2 (by rfl) gC FC.kp bC .nil pass0 (pa_cons (pv 0) (pa_cons (pe_ix ix_tup (pv 1) (pv 4) (fun _ _ => rfl)) pa_nil))) pa_nil))))))))))), ?_⟩
    have hwl : 1 ≤ ws.length ∧ ws.length ≤ 12 := ⟨hw.1, hw.2.1⟩
    refine ⟨.ref d, rfl, d, 9, rfl, by decide, D, fun H1 k g1 _ _ => ⟨.ref d, rfl, .ref sc, rfl, sc, _, rfl, .inr (SqT.go g1 D hS), d, _, rfl, by rw [List.length_map]; omega, g1.dr, fun H2 t g2 t0 t1 => ?_⟩⟩
    rw [List.length_map] at t1
    have g12 := g1.trans g2
    have hS2 := SqT.go g12 D hS
    obtain ⟨x, hx, ex⟩ := item_of (l := ws) t0 t1
    have hx2 := hw.2.2 x hx
    have eo2 := g12.keep eo nod
    -- the two sides
    have sides : ∀ (kd : Bool) (Q' : VK), (∀ H' p (e : Dep), Go d H H' → H p = none → Im K H' (.ref p) e.data → e.Sm → Q' (.ref p) H') →
        tTup (tCons (tC (.str (kindS kd))) (tCons (tVar 4) (tCons (tCall spCols [] E (tCons (tVar 0) (tCons (tOp (rIxT K) (tVar 1) (tVar 4)) tNil))) (tCons (tCall spCols [] E (tCons (tVar 0) (tCons (tOp (rIxT K) (tVar 1) (tVar 4)) tNil))) tNil)))) [some (.ref d), some (.ref sc), some (.ref o), some (.int k), some (.int t)] H2 Q' := by
      intro kd Q' q'
      refine ⟨.int t, rfl, .ref d, rfl, .ref sc, rfl, .int t, rfl, sc, _, t, .int x, rfl, rfl, hS2, ex, d, x, rfl, by omega, by omega, g2.dr, fun H3 p1 c1 g3 np1 e1 hc1 => ?_⟩
      refine ⟨.ref d, rfl, .ref sc, rfl, .int t, rfl, sc, _, t, .int x, rfl, rfl, SqT.go g3 g2.dr hS2, ex, d, x, rfl, by omega, by omega, g3.dr, fun H4 p2 c2 g4 np2 e2 hc2 => ?_⟩
      refine ⟨by show 4 ≤ sizeLine; decide, fun p np => ?_⟩
      have g14 := (g12.trans g3).trans g4
      have s5 := same_upd (o := HO.tup [.str (kindS kd), .int t, .ref p1, .ref p2]) np
      have cs : ∀ {c : List Int}, Cols x c → SmL c := fun h => ⟨by have := h.2.2; omega, fun i hi => sm_of (h.2.1 i hi).1 (by have := (h.2.1 i hi).2; omega)⟩
      refine q' _ p (.two kd t c1 c2) (g14.new np) (g14.free np) ?_ ⟨sm_of t0 (by omega), cs hc1, cs hc2⟩
      exact .tup (SqT.of upd_same) (.cons (.str _) (.cons (.int _) (.cons (Im.ints (SqT.of (s5 _ _ (g4.keepT g3.dr e1)))) (.cons (Im.ints (SqT.of (s5 _ _ e2))) .nil))))
    refine ⟨fun σ H' => σ = [some (.ref d), some (.ref sc), some (.ref o), some (.int k), some (.int t)] ∧ H' = H2, ?_, fun σ H' hM => ?_⟩
    · refine ⟨.int k, rfl, _, _, rfl, rfl, _, rfl, ite2 (fun _ => ?_) (fun _ => iteF ⟨rfl, rfl⟩)⟩
      refine ⟨.ref sc, rfl, sc, _, rfl, .inr hS2, _, _, rfl, rfl, _, rfl, ite2 (fun hc => ?_) (fun _ => ⟨rfl, rfl⟩)⟩
      have hc2 := of_decide_eq_true hc
      rw [List.length_map] at hc2
      refine ⟨.ref d, rfl, .ref sc, rfl, .ref o, rfl, d, sc, o, ws, os, rfl, hS2, hw, eo2, nod, hlen, by omega, hos, g2.dr, fun H3 p e g3 np im sm => ?_⟩
      exact q _ p e (g12.trans g3) (g12.free np) im sm
    · obtain ⟨rfl, rfl⟩ := hM
      refine ⟨.int k, rfl, _, _, rfl, rfl, _, rfl, ite2 (fun _ => ?_) (fun _ => ?_)⟩
      · refine ⟨.int t, rfl, .ref d, rfl, .ref sc, rfl, .int t, rfl, sc, _, t, .int x, rfl, rfl, hS2, ex, d, x, 4, rfl, by omega, by omega, by decide, by decide, g2.dr, fun H3 p1 ps g3 np1 im hl hb => ?_⟩
        refine ⟨by show 3 ≤ sizeLine; decide, fun p np => ?_⟩
        have s5 := same_upd (o := HO.tup [.str "joins", .int t, .ref p1]) np
        refine q _ p (.joins t ps) ((g12.trans g3).new np) ((g12.trans g3).free np) (.tup (SqT.of upd_same) (.cons (.str _) (.cons (.int _) (.cons (im.same s5) .nil)))) ⟨sm_of t0 (by omega), by omega, fun l h => ⟨by have := (hb l h).1; omega, fun i hi => sm_of ((hb l h).2 i hi).1 (by have := ((hb l h).2 i hi).2; omega)⟩⟩
      · refine ⟨.int k, rfl, _, _, rfl, rfl, _, rfl, ite2 (fun _ => ?_) (fun _ => ?_)⟩
        · exact sides true _ q
        · exact sides false _ q

/-! ### a book -/
def spBook (K : PySem.W.Frag) : Sp := fun vs H Q _ => ∃ (d s : Addr) (ws : List Int) (m : Int), vs = [.ref d, .ref s, .int m] ∧ SqT K H s (ws.map V.int) ∧ Widths 13 ws ∧ 0 ≤ m ∧ m ≤ 40 ∧ Dr H d ∧
  ∀ H' p (b : List Dep), Go d H H' → H p = none → Im K H' (.ref p) (bookD b) → b.length ≤ 40 → (∀ e ∈ b, e.Sm) → Q (.ref p) H'
theorem ok_book {f fT fS fI fP fC fD fO : Addr} {fd fdT fdS fdI fdP fdC fdD fdO : FuncData} (T : Hlp K mg fT fdT) (F : Fun K "_law_book" "_law_book" sBook f fd)
    (FS : Fun K "_law_shuffled" "_law_shuffled" sShuf fS fdS) (bS : Binds K fdS ["draws", "row"] []) (gS : mg "_law_shuffled" = some (.ref fS))
    (FI : Fun K "_law_inclusion" "_law_inclusion" sIncl fI fdI) (bI : Binds K fdI ["draws", "scheme", "order"] []) (gI : mg "_law_inclusion" = some (.ref fI))
    (FP : Fun K "_law_parts" "_law_parts" sParts fP fdP) (bP : Binds K fdP ["draws", "width", "most"] []) (gP : mg "_law_parts" = some (.ref fP))
    (FC : Fun K "_law_columns" "_law_columns" sCols fC fdC) (bC : Binds K fdC ["draws", "width"] []) (gC : mg "_law_columns" = some (.ref fC))
    (FD : Fun K "_law_dependency" "_law_dependency" sDep fD fdD) (bD : Binds K fdD ["draws", "scheme", "order"] []) (gD : mg "_law_dependency" = some (.ref fD))
    (FO : Fun K "_law_order" "_law_order" sOrder fO fdO) (bO : Binds K fdO ["draws", "scheme"] []) (gO : mg "_law_order" = some (.ref fO)) :
    FnOk P w K mg base CX0 5 f fd ["draws", "scheme", "most"] (spBook K) := by
  have GT : FnOk P w K mg base CX0 1 fT fdT ["draws", "many"] spTake := ok_take T.FT T.len T.int
  have GD : FnOk P w K mg base CX0 4 fD fdD ["draws", "scheme", "order"] (spDep K) := ok_dep T FD FS bS gS FI bI gI FP bP gP FC bC gC
  have GO : FnOk P w K mg base CX0 3 fO fdO ["draws", "scheme"] (spOrder K) := ok_order T FO FS bS gS
  refine F.ok scBook (fun vs H Q E h => ?_) (fun cdv A outer s H vs Q E hr h => ?_)
  · obtain ⟨d, s, ws, m, rfl, _⟩ := h
    rfl
  · obtain ⟨d, sc, ws, m, rfl, hS, hw, m0, m1, D, q⟩ := h
    have hr1 := hr.mono (show 1 ≤ 4 by decide)
    have hr3 := hr.mono (show 3 ≤ 4 by decide)
    refine ⟨_, pss_cons (ps_set (i := 3) scBook.nd rfl (.inr rfl) (pe_call GO hr3 (by rfl) gO FO.kp bO .nil pass0 (pa_cons (pv 0) (pa_cons (pv 1) pa_nil))))
      (pss_one (ps_ret (pe_callTy call_tuple_of (by rfl) T.tuple boot_tuple (pa_cons
        (pe_lc (own := [("k", 4)]) (g := gName 4) (by rfl) scBook.nd (pi_range1 rfl T.range (pa_cons (pe_call GT hr1 (by rfl) T.gT T.FT.kp T.bT .nil pass0 (pa_cons (pv 0) (pa_cons (pe_op op_add (pv 2) pe_int) pa_nil))) pa_nil)) (blkOk_by (N := nBook) (sc := defScope sBook) (by decide +kernel))
          (fun _ _ _ _ _ => pg_name (i := 4) scBook.nd rfl (Or.inl rfl)) (fun _ _ _ _ _ => pts_nil)
          (fun _ _ _ _ _ => pe_call GD hr (by rfl) gD FD.kp bD .nil pass0 (pa_cons (pv 0) (pa_cons (pv 1) (pa_cons (pv 3) pa_nil))))) pa_nil)))), ?_⟩
    refine ⟨.ref d, rfl, .ref sc, rfl, d, sc, ws, rfl, hS, hw.2.1, D, fun H1 o os g1 no eo pm => ?_⟩
    have nod : o ≠ d := (D.ne no).symm
    refine ⟨.ref d, rfl, .int m, rfl, _, _, rfl, rfl, d, _, rfl, by omega, g1.dr, fun H2 z g2 z0 z1 => ?_⟩
    have g12 := g1.trans g2
    have eo2 := g2.keep eo nod
    refine ⟨z, rfl, by omega, by omega, fun C nC => lc_range (lo := 0) (n := z.toNat) (fun i H3 => Go d H H3 ∧ H3 o = some (.lst (os.map V.int)) ∧ ∃ (acc : List V) (b : List Dep), H3 C = some (.lst acc) ∧ ImAll K H3 acc (b.map Dep.data) ∧ acc.length = i ∧ ∀ e ∈ b, e.Sm)
      ⟨g12.new nC, by rw [upd_ne (ne_of_none eo2 nC)]; exact eo2, [], [], upd_same, .nil, rfl, fun c hc => (by cases hc)⟩ (fun i H3 hi hP => ?_) (fun H3 hP => ?_)⟩
    · obtain ⟨g3, eo3, acc, b, eC, im, hl, hb⟩ := hP
      have nCd : C ≠ d := (g12.dr.ne nC).symm
      refine ⟨rfl, yesT ⟨.ref d, rfl, .ref sc, rfl, .ref o, rfl, d, sc, o, ws, os, rfl, SqT.go g3 D hS, hw, eo3, nod, ?_, fun x hx => ?_, g3.dr, fun H4 p e g4 np ie se => ?_⟩⟩
      · rw [pm.length_eq, upTo_len]
      · exact upTo_mem (pm.mem_iff.mp hx)
      · have eC4 := g4.keep eC nCd
        refine ⟨acc, eC4, small1000 (by omega), (g3.trans g4).put (g12.free nC) nCd.symm, ?_, acc ++ [.ref p], b ++ [e], upd_same, ?_, by rw [List.length_append, hl]; rfl, fun c h => ?_⟩
        · rw [upd_ne (ne_of_none eo2 nC)]
          exact g4.keep eo3 nod
        · rw [List.map_append]
          exact ((im.go g4 g3.dr).map fun _ _ h => SqT.putL eC4 h).append (.cons (ie.map fun _ _ h => SqT.putL eC4 h) .nil)
        · rcases List.mem_append.mp h with h | h
          · exact hb c h
          · rw [List.mem_singleton.mp h]
            exact se
    · obtain ⟨g3, eo3, acc, b, eC, im, hl, hb⟩ := hP
      refine ⟨C, _, rfl, .inl ⟨SqL.of eC, fun p np => q _ p b (g3.new np) (g3.free np) (.tup (SqT.of upd_same) (im.same (same_upd np))) ?_ hb⟩⟩
      have e := im.length
      rw [List.length_map] at e
      omega

/-! ### a large book -/
def spLarge (K : PySem.W.Frag) : Sp := fun vs H Q _ => ∃ (d : Addr), vs = [.ref d] ∧ Dr H d ∧
  ∀ H' p (s b : Addr) (e : List Dep), Go d H H' → H p = none → H' p = some (.lst [.ref s, .ref b]) → Im K H' (.ref b) (bookD e) → e.length ≤ 40 → (∀ x ∈ e, x.Sm) → Q (.ref p) H'
theorem ok_large {f fT fS fI fP fC fD fO fB : Addr} {fd fdT fdS fdI fdP fdC fdD fdO fdB : FuncData} (T : Hlp K mg fT fdT) (F : Fun K "_law_large" "_law_large" sLarge f fd)
    (FS : Fun K "_law_shuffled" "_law_shuffled" sShuf fS fdS) (bS : Binds K fdS ["draws", "row"] []) (gS : mg "_law_shuffled" = some (.ref fS))
    (FI : Fun K "_law_inclusion" "_law_inclusion" sIncl fI fdI) (bI : Binds K fdI ["draws", "scheme", "order"] []) (gI : mg "_law_inclusion" = some (.ref fI))
    (FP : Fun K "_law_parts" "_law_parts" sParts fP fdP) (bP : Binds K fdP ["draws", "width", "most"] []) (gP : mg "_law_parts" = some (.ref fP))
    (FC : Fun K "_law_columns" "_law_columns" sCols fC fdC) (bC : Binds K fdC ["draws", "width"] []) (gC : mg "_law_columns" = some (.ref fC))
    (FD : Fun K "_law_dependency" "_law_dependency" sDep fD fdD) (bD : Binds K fdD ["draws", "scheme", "order"] []) (gD : mg "_law_dependency" = some (.ref fD))
    (FO : Fun K "_law_order" "_law_order" sOrder fO fdO) (bO : Binds K fdO ["draws", "scheme"] []) (gO : mg "_law_order" = some (.ref fO))
    (FB : Fun K "_law_book" "_law_book" sBook fB fdB) (bB : Binds K fdB ["draws", "scheme", "most"] []) (gB : mg "_law_book" = some (.ref fB)) :
    FnOk P w K mg base CX0 6 f fd ["draws"] (spLarge K) := by
  have GB : FnOk P w K mg base CX0 5 fB fdB ["draws", "scheme", "most"] (spBook K) := ok_book T FB FS bS gS FI bI gI FP bP gP FC bC gC FD bD gD FO bO gO
  refine F.ok scLarge (fun vs H Q E h => ?_) (fun cdv A outer s H vs Q E hr h => ?_)
  · obtain ⟨d, rfl, _⟩ := h
    rfl
  · obtain ⟨d, rfl, D, q⟩ := h
    refine ⟨_, pss_cons (ps_set (i := 1) scLarge.nd rfl (.inl rfl) (pe_op op_repT (pe_tup (pa_cons pe_int pa_nil)) pe_int))
      (pss_one (ps_ret (pe_lst (pa_cons (pv 1) (pa_cons (pe_call GB hr (by rfl) gB FB.kp bB .nil pass0 (pa_cons (pv 0) (pa_cons (pv 1) (pa_cons pe_int pa_nil)))) pa_nil))))), ?_⟩
    refine ⟨by show 1 ≤ sizeLine; decide, fun t nt => ⟨t, 12, _, rfl, rfl, SqT.of upd_same, by simp, by decide, by decide, by decide, fun sc nsc => ?_⟩⟩
    have g2 : Go d H (upd (upd H t (.tup [.int 13])) sc (.tup ((List.replicate 12 (13 : Int)).map V.int))) := ((Go.refl D).new nt).new nsc
    refine ⟨.ref sc, rfl, .ref d, rfl, .ref sc, rfl, d, sc, List.replicate 12 13, 30, rfl, SqT.of upd_same, ?_, by decide, by decide, g2.dr, fun H3 p b g3 np im hl hb => ?_⟩
    · exact ⟨by decide, by decide, fun x hx => by rw [(List.mem_replicate.mp hx).2]; decide⟩
    · refine ⟨by show 2 ≤ sizeLine; decide, fun z nz => ?_⟩
      have g23 := g2.trans g3
      exact q _ z sc p b (g23.new nz) (g23.free nz) upd_same (im.same (same_upd nz)) hl hb
end
end NK

namespace NK
open PySem PySem.Spec PyProof.Rows L2 TL
/-! ### the text of a book -/
def numS (i : Int) : Str := Str.ofString (toString i)
def words : Dep → List Str
  | .two k t l r => [kindS k, numS t] ++ l.map numS ++ ([Str.ofString "to"] ++ r.map numS)
  | .joins t ps => [Str.ofString "joins", numS t] ++ (ps.map fun p => [Str.ofString "part"] ++ p.map numS).flatten
  | .within t c o u => [Str.ofString "within", numS t] ++ c.map numS ++ ([Str.ofString "of", numS o] ++ u.map numS)
def lineS (d : Dep) : Str := Txt.join (Str.ofString " ") (words d)
def bookS (b : List Dep) : Str := Txt.join (Str.ofString "") (b.map fun d => lineS d ++ Str.ofString "\n")

theorem numS_len {i : Int} (h : Sm i) : (numS i).length ≤ 61 := toString_length_le h.1 (by decide) h.2
set_option exponentiation.threshold 5000 in
theorem log_of {i : Int} (h : Sm i) : i.natAbs.log2 < 1920 := by
  have h1 : i.natAbs < 10 ^ 61 := by have := h.1; have := h.2; omega
  by_cases z : i.natAbs = 0
  · rw [z]
    decide
  · exact (Nat.log2_lt z).mpr (Nat.lt_trans h1 (by decide))
theorem sum_le {l : List Str} {m : Nat} (h : ∀ x ∈ l, x.length ≤ m) : (l.map (·.length)).sum ≤ m * l.length := by
  induction l with
  | nil => simp
  | cons x r ih =>
    have h1 := h x (List.mem_cons_self ..)
    have h2 := ih fun y hy => h y (List.mem_cons_of_mem _ hy)
    simp only [List.map_cons, List.sum_cons, List.length_cons]
    rw [Nat.mul_succ]
    omega
theorem len_tl (x : Str) : x.length = (tl x).length := rfl
theorem joinL_len (S : List Nat) : ∀ l : List (List Nat), (joinL S l).length ≤ (l.map (·.length)).sum + l.length * S.length
  | [] => by simp [joinL]
  | [p] => by simp [joinL]
  | p :: q :: r => by
    have ih := joinL_len S (q :: r)
    simp only [joinL, List.length_append, List.map_cons, List.sum_cons, List.length_cons] at ih ⊢
    rw [Nat.succ_mul] at ih ⊢
    rw [Nat.succ_mul]
    omega
theorem join_len (a : Str) (ys : List Str) : (Txt.join a ys).length ≤ (ys.map (·.length)).sum + ys.length * a.length := by
  rw [join_eq, len_tl, tl_join]
  have h := joinL_len (tl a) (ys.map tl)
  rw [List.map_map, List.length_map] at h
  exact h
theorem kind_len (k : Bool) : (kindS k).length ≤ 61 := by cases k <;> decide
theorem nums_len {l : List Int} (hl : SmL l) : ∀ x ∈ l.map numS, x.length ≤ 61 := fun x hx => by
  obtain ⟨i, hi, rfl⟩ := List.mem_map.mp hx
  exact numS_len (hl.2 i hi)
theorem parts_len : ∀ {ps : List (List Int)}, (∀ p ∈ ps, SmL p) → ((ps.map fun p => [(Str.ofString "part")] ++ p.map numS).flatten).length ≤ 31 * ps.length ∧ ∀ x ∈ (ps.map fun p => [(Str.ofString "part")] ++ p.map numS).flatten, x.length ≤ 61
  | [], _ => ⟨Nat.le_refl _, fun x h => by cases h⟩
  | p :: r, h => by
    obtain ⟨i1, i2⟩ := parts_len (ps := r) fun q hq => h q (List.mem_cons_of_mem _ hq)
    have hp := h p (List.mem_cons_self ..)
    constructor
    · rw [List.map_cons, List.flatten_cons, List.length_append, List.length_append, List.length_map]
      have := hp.1
      show 1 + p.length + _ ≤ 31 * (r.length + 1)
      omega
    · intro x hx
      rw [List.map_cons, List.flatten_cons] at hx
      rcases List.mem_append.mp hx with hx | hx
      · rcases List.mem_append.mp hx with hx | hx
        · rw [List.mem_singleton.mp hx]
          decide
        · exact nums_len hp x hx
      · exact i2 x hx
theorem words_len {d : Dep} (h : d.Sm) : (words d).length ≤ 1000 ∧ ∀ x ∈ words d, x.length ≤ 61 := by
  cases d with
  | two k t l r =>
    obtain ⟨ht, hl, hr⟩ := h
    constructor
    · have h1 := hl.1
      have h2 := hr.1
      simp only [words, List.length_append, List.length_map, List.length_cons, List.length_nil]
      omega
    · intro x hx
      simp only [words, List.mem_append, List.mem_cons, List.not_mem_nil, or_false] at hx
      rcases hx with ((rfl | rfl) | hx) | rfl | hx
      · exact kind_len k
      · exact numS_len ht
      · exact nums_len hl x hx
      · decide
      · exact nums_len hr x hx
  | joins t ps =>
    obtain ⟨ht, hl, hp⟩ := h
    obtain ⟨h1, h2⟩ := parts_len hp
    constructor
    · simp only [words, List.length_append, List.length_cons, List.length_nil]
      omega
    · intro x hx
      simp only [words, List.mem_append, List.mem_cons, List.not_mem_nil, or_false] at hx
      rcases hx with (rfl | rfl) | hx
      · decide
      · exact numS_len ht
      · exact h2 x hx
  | within t c o u =>
    obtain ⟨ht, hc, ho, hu⟩ := h
    constructor
    · have h1 := hc.1
      have h2 := hu.1
      simp only [words, List.length_append, List.length_map, List.length_cons, List.length_nil]
      omega
    · intro x hx
      simp only [words, List.mem_append, List.mem_cons, List.not_mem_nil, or_false] at hx
      rcases hx with ((rfl | rfl) | hx) | (rfl | rfl) | hx
      · decide
      · exact numS_len ht
      · exact nums_len hc x hx
      · decide
      · exact numS_len ho
      · exact nums_len hu x hx
theorem words_join {d : Dep} (h : d.Sm) : ((words d).map (·.length)).sum + (words d).length * (Str.ofString " ").length ≤ 62000 := by
  obtain ⟨h1, h2⟩ := words_len h
  have h3 := sum_le h2
  have e : (Str.ofString " ").length = 1 := by decide
  rw [e]
  omega
theorem line_len {d : Dep} (h : d.Sm) : (lineS d).length ≤ 62000 := Nat.le_trans (join_len _ _) (words_join h)
theorem lines_join {b : List Dep} (hb : b.length ≤ 45) (h : ∀ d ∈ b, d.Sm) : ((b.map fun d => lineS d ++ (Str.ofString "\n")).map (·.length)).sum + (b.map fun d => lineS d ++ (Str.ofString "\n")).length * (Str.ofString "").length ≤ 16777216 := by
  have h1 : ∀ x ∈ b.map fun d => lineS d ++ (Str.ofString "\n"), x.length ≤ 62001 := fun x hx => by
    obtain ⟨d, hd, rfl⟩ := List.mem_map.mp hx
    have h2 := line_len (h d hd)
    have e : (lineS d ++ (Str.ofString "\n")).length = (lineS d).length + 1 := by
      rw [len_tl, tl_append, List.length_append]
      rfl
    omega
  have h3 := sum_le h1
  have e : (Str.ofString "").length = 0 := by decide
  rw [List.length_map] at h3 ⊢
  rw [e]
  omega
end NK

namespace NK
open PySem PySem.Spec PyProof.Rows L2
abbrev sWrite : Stmt := topS 4
abbrev sDepW : Stmt := topS 5
abbrev sNumW : Stmt := topS 2
abbrev sText : Stmt := topS 1
abbrev sWords : Stmt := topS 19
abbrev sLines : Stmt := topS 20
abbrev nWords : List Str := ["dependency", "words", "part", "column"]
theorem scWrite : FnScope ["book", "dependency"] ["book"] (defScope sWrite) := ⟨rfl, rfl, rfl, by decide +kernel, rfl, by decide +kernel, by decide +kernel⟩
theorem scText : FnScope ["lines", "words"] ["lines"] (defScope sText) := ⟨rfl, rfl, rfl, by decide +kernel, rfl, by decide +kernel, by decide +kernel⟩
theorem scDepW : FnScope ["dependency", "kind", "words", "part"] ["dependency"] (defScope sDepW) := ⟨rfl, rfl, rfl, by decide +kernel, rfl, by decide +kernel, by decide +kernel⟩
theorem scNumW : FnScope ["numbers", "number"] ["numbers"] (defScope sNumW) := ⟨rfl, rfl, rfl, by decide +kernel, rfl, by decide +kernel, by decide +kernel⟩
theorem scWords : FnScope nWords ["dependency"] (defScope sWords) := ⟨rfl, rfl, rfl, by decide +kernel, rfl, by decide +kernel, by decide +kernel⟩
theorem scLines : FnScope ["book", "dependency"] ["book"] (defScope sLines) := ⟨rfl, rfl, rfl, by decide +kernel, rfl, by decide +kernel, by decide +kernel⟩

theorem Im.two {K : PySem.W.Frag} {H : Hp} {v : V} {k : Bool} {t : Int} {l r : List Int} (h : Im K H v (Dep.two k t l r).data) : ∃ a b c, v = .ref a ∧ SqT K H a [.str (kindS k), .int t, .ref b, .ref c] ∧ SqT K H b (l.map V.int) ∧ SqT K H c (r.map V.int) := by
  cases h with
  | tup h q =>
    cases q with
    | cons q1 q =>
      cases q with
      | cons q2 q =>
        cases q with
        | cons q3 q =>
          cases q with
          | cons q4 q =>
            cases q
            cases q1
            cases q2
            obtain ⟨b, rfl, hb⟩ := q3.toInts
            obtain ⟨c, rfl, hc⟩ := q4.toInts
            exact ⟨_, b, c, rfl, h, hb, hc⟩
theorem Im.joins {K : PySem.W.Frag} {H : Hp} {v : V} {t : Int} {ps : List (List Int)} (h : Im K H v (Dep.joins t ps).data) : ∃ a b vs, v = .ref a ∧ SqT K H a [.str (Str.ofString "joins"), .int t, .ref b] ∧ SqT K H b vs ∧ ImAll K H vs (ps.map intsD) := by
  cases h with
  | tup h q =>
    cases q with
    | cons q1 q =>
      cases q with
      | cons q2 q =>
        cases q with
        | cons q3 q =>
          cases q
          cases q1
          cases q2
          cases q3 with
          | tup h3 r3 => exact ⟨_, _, _, rfl, h, h3, r3⟩
theorem Im.within {K : PySem.W.Frag} {H : Hp} {v : V} {t o : Int} {c u : List Int} (h : Im K H v (Dep.within t c o u).data) : ∃ a b e, v = .ref a ∧ SqT K H a [.str (Str.ofString "within"), .int t, .ref b, .int o, .ref e] ∧ SqT K H b (c.map V.int) ∧ SqT K H e (u.map V.int) := by
  cases h with
  | tup h q =>
    cases q with
    | cons q1 q =>
      cases q with
      | cons q2 q =>
        cases q with
        | cons q3 q =>
          cases q with
          | cons q4 q =>
            cases q with
            | cons q5 q =>
              cases q
              cases q1
              cases q2
              cases q4
              obtain ⟨b, rfl, hb⟩ := q3.toInts
              obtain ⟨e, rfl, he⟩ := q5.toInts
              exact ⟨_, b, e, rfl, h, hb, he⟩
theorem strs_map (l : List Int) : (l.map numS).map V.str = l.map fun i => V.str (numS i) := by
  rw [List.map_map]
  rfl
section
variable {P : Program} {w : World} {K : PySem.W.Frag} {mg : Str → Option Value} {base : Heap}
/-! ### the program: the words of numbers -/
def spNumW (K : PySem.W.Frag) : Sp := fun vs H Q _ => ∃ (a : Addr) (l : List Int), vs = [.ref a] ∧ SqT K H a (l.map V.int) ∧ SmL l ∧ ∀ H' p, Same H H' → H p = none → H' p = some (.lst ((l.map numS).map V.str)) → Q (.ref p) H'
theorem ok_numW {f : Addr} {fd : FuncData} {k : Nat} (F : Fun K "number_words" "number_words" sNumW f fd) (ms : mg "str" = none) : FnOk P w K mg base CX0 (k + 1) f fd ["numbers"] (spNumW K) := by
  refine F.ok scNumW (fun vs H Q E h => ?_) (fun cdv A outer s H vs Q E hr h => ?_)
  · obtain ⟨a, l, rfl, _⟩ := h
    rfl
  · obtain ⟨a, l, rfl, hS, hl, q⟩ := h
    refine ⟨_, pss_one (ps_ret (pe_lc (own := [("number", 1)]) (g := gName 1) (by rfl) scNumW.nd (pi_tup (pv 0)) (blkOk_by (N := ["numbers", "number"]) (sc := defScope sNumW) (by decide +kernel))
        (fun _ _ _ _ _ => pg_name (i := 1) scNumW.nd rfl (Or.inl rfl)) (fun _ _ _ _ _ => pts_nil)
        (fun _ _ _ _ _ => pe_callTy call_str_int (by rfl) ms boot_str (pa_cons (pv 1) pa_nil)))), ?_⟩
    refine ⟨.ref a, rfl, a, rfl, ⟨_, hS⟩, fun C nC => lc_tup (K := K) (a := a) (xs := l.map V.int) (fun i H' => Same H H' ∧ H' C = some (.lst (((l.take i).map numS).map V.str)))
      ⟨same_upd nC, upd_same⟩ (fun i H' _ h => SqT.same h.1 hS) (fun i x H' hx hP => ?_) (fun H1 hP => ?_)⟩
    · obtain ⟨sm, eC⟩ := hP
      have hi : i < l.length := by
        obtain ⟨h1, _⟩ := List.getElem?_eq_some_iff.mp hx
        rw [List.length_map] at h1
        exact h1
      have ex : x = .int l[i] := by
        rw [List.getElem?_map, List.getElem?_eq_getElem hi] at hx
        exact (Option.some.inj hx).symm
      subst ex
      have hll := hl.1
      refine ⟨rfl, yesT ⟨.int l[i], rfl, _, rfl, log_of (hl.2 _ (List.getElem_mem hi)), _, eC, ?_, Same.put sm nC, ?_⟩⟩
      · rw [List.length_map, List.length_map, List.length_take]
        exact small1000 (by omega)
      · rw [upd_same, List.take_add_one, List.getElem?_eq_getElem hi, List.map_append, List.map_append]
        rfl
    · obtain ⟨sm, eC⟩ := hP
      rw [List.length_map, List.take_length] at eC
      exact q H1 C sm nC eC

/-! ### the program: the words of a dependency -/
def spDepW (K : PySem.W.Frag) : Sp := fun vs H Q _ => ∃ (v : V) (e : Dep), vs = [v] ∧ Im K H v e.data ∧ e.Sm ∧ ∀ H' p, Same H H' → H p = none → H' p = some (.lst ((words e).map V.str)) → Q (.ref p) H'
theorem ok_depW {f fN : Addr} {fd fdN : FuncData} (F : Fun K "dependency_words" "dependency_words" sDepW f fd) (FN : Fun K "number_words" "number_words" sNumW fN fdN) (bN : Binds K fdN ["numbers"] []) (gN : mg "number_words" = some (.ref fN)) (ms : mg "str" = none) :
    FnOk P w K mg base CX0 2 f fd ["dependency"] (spDepW K) := by
  have GN : FnOk P w K mg base CX0 1 fN fdN ["numbers"] (spNumW K) := ok_numW FN ms
  refine F.ok scDepW (fun vs H Q E h => ?_) (fun cdv A outer s H vs Q E hr h => ?_)
  · obtain ⟨v, e, rfl, _⟩ := h
    rfl
  · obtain ⟨v, e, rfl, im, sm, q⟩ := h
    refine ⟨_, pss_cons (ps_set (i := 1) scDepW.nd rfl (.inl rfl) (pe_ix ix_tup (pv 0) pe_int (fun _ _ => rfl)))
      (pss_cons (ps_set (i := 2) scDepW.nd rfl (.inl rfl) (pe_lst (pa_cons (pv 1) (pa_cons (pe_callTy call_str_int (by rfl) ms boot_str (pa_cons (pe_ix ix_tup (pv 0) pe_int (fun _ _ => rfl)) pa_nil)) pa_nil))))
      (pss_cons (ps_if (pt_cmpR op_eq (pv 1) pe_str (nomark _))
        (pss_cons (ps_for PassesOwn.never rfl (pi_tup (pe_ix ix_tup (pv 0) pe_int (fun _ _ => rfl))) (pg_name (i := 3) scDepW.nd rfl (.inl rfl))
          (pss_cons (ps_expr (pe_bm PySem.F.plainAttrs_list PySem.F.slot_list_append PySem.F.type_list_append mt_append (pv 2) (pa_cons pe_str pa_nil)))
          (pss_one (ps_expr (pe_bm PySem.F.plainAttrs_list PySem.F.slot_list_extend PySem.F.type_list_extend mt_extend (pv 2) (pa_cons (pe_call GN hr (by rfl) gN FN.kp bN .nil pass0 (pa_cons (pv 3) pa_nil)) pa_nil))))))
        (pss_one (ps_ret (pv 2)))) pss_nil)
      (pss_cons (ps_expr (pe_bm PySem.F.plainAttrs_list PySem.F.slot_list_extend PySem.F.type_list_extend mt_extend (pv 2) (pa_cons (pe_call GN hr (by rfl) gN FN.kp bN .nil pass0 (pa_cons (pe_ix ix_tup (pv 0) pe_int (fun _ _ => rfl)) pa_nil)) pa_nil)))
      (pss_cons (ps_if (pt_cmpR op_eq (pv 1) pe_str (nomark _))
        (pss_one (ps_ret (pe_op op_cat (pe_op op_cat (pv 2) (pe_lst (pa_cons pe_str (pa_cons (pe_callTy call_str_int (by rfl) ms boot_str (pa_cons (pe_ix ix_tup (pv 0) pe_int (fun _ _ => rfl)) pa_nil)) pa_nil)))) (pe_call GN hr (by rfl) gN FN.kp bN .nil pass0 (pa_cons (pe_ix ix_tup (pv 0) pe_int (fun _ _ => rfl)) pa_nil))))) pss_nil)
      (pss_one (ps_ret (pe_op op_cat (pe_op op_cat (pv 2) (pe_lst (pa_cons pe_str pa_nil))) (pe_call GN hr (by rfl) gN FN.kp bN .nil pass0 (pa_cons (pe_ix ix_tup (pv 0) pe_int (fun _ _ => rfl)) pa_nil))))))))), ?_⟩
    cases e with
    | two k t l r =>
      obtain ⟨a, b, c, rfl, hA, hB, hC⟩ := im.two
      obtain ⟨st, sl, sr⟩ := sm
      have hl := sl.1
      have hrl := sr.1
      refine ⟨.ref a, rfl, a, _, 0, .str (kindS k), rfl, rfl, hA, atI_nat (j := 0) rfl, ?_⟩
      refine ⟨.str (kindS k), rfl, .ref a, rfl, a, _, 1, .int t, rfl, rfl, hA, atI_nat (j := 1) rfl, t, rfl, log_of st, by show 2 ≤ sizeLine; decide, fun p np => ?_⟩
      have s1 := same_upd (o := HO.lst [.str (kindS k), .str (numS t)]) np
      have hk1 : ¬ decide (V.str (kindS k) = V.str (Str.ofString "joins")) = true := by cases k <;> decide
      have hk2 : ¬ decide (V.str (kindS k) = V.str (Str.ofString "within")) = true := by cases k <;> decide
      refine ⟨.str (kindS k), rfl, rfl, _, rfl, ite2 (fun h => absurd h hk1) (fun _ => ?_)⟩
      -- the left side
      refine ⟨.ref p, rfl, .inl ⟨rfl, _, SqL.of upd_same⟩, .ref a, rfl, a, _, 2, .ref b, rfl, rfl, SqT.same s1 hA, atI_nat (j := 2) rfl, b, l, rfl, SqT.same s1 hB, sl, fun H2 p2 s2 np2 e2 => ?_⟩
      have ep2 : H2 p = some (.lst [.str (kindS k), .str (numS t)]) := s2 _ _ upd_same
      refine ⟨p, p2, _, _, rfl, rfl, ep2, e2, ?_, ?_⟩
      · rw [List.length_map, List.length_map]
        exact Nat.le_trans (show 2 + l.length ≤ 1000 by omega) (by decide)
      have hA3 : ∀ {x : Addr} {xs : List V}, SqT K H x xs → SqT K (upd H2 p (.lst ([.str (kindS k), .str (numS t)] ++ (l.map numS).map V.str))) x xs := fun h => SqT.putL ep2 (SqT.same (s1.trans s2) h)
      refine ⟨.str (kindS k), rfl, rfl, _, rfl, ite2 (fun h => absurd h hk2) (fun _ => ?_)⟩
      -- the right side
      refine ⟨.ref p, rfl, by show 1 ≤ sizeLine; decide, fun p3 np3 => ⟨p, p3, _, _, rfl, rfl, by rw [upd_ne (ne_of_none upd_same np3), upd_same], upd_same, ?_, fun p4 np4 => ?_⟩⟩
      · rw [List.length_append, List.length_map, List.length_map]
        exact Nat.le_trans (show 2 + l.length + 1 ≤ 1000 by omega) (by decide)
      have s4 := (same_upd (o := HO.lst [.str (Str.ofString "to")]) np3).trans (same_upd (o := HO.lst ([.str (kindS k), .str (numS t)] ++ (l.map numS).map V.str ++ [.str (Str.ofString "to")])) np4)
      refine ⟨.ref a, rfl, a, _, 3, .ref c, rfl, rfl, SqT.same s4 (hA3 hA), atI_nat (j := 3) rfl, c, r, rfl, SqT.same s4 (hA3 hC), sr, fun H5 p5 s5 np5 e5 => ?_⟩
      refine ⟨p4, p5, _, _, rfl, rfl, s5 _ _ upd_same, e5, ?_, fun p6 np6 => ?_⟩
      · rw [List.length_append, List.length_append, List.length_map, List.length_map, List.length_map, List.length_map]
        exact Nat.le_trans (show 2 + l.length + 1 + r.length ≤ 1000 by omega) (by decide)
      have s06 : Same H (upd H5 p6 (.lst ([.str (kindS k), .str (numS t)] ++ (l.map numS).map V.str ++ [.str (Str.ofString "to")] ++ (r.map numS).map V.str))) := by
        refine Same.trans ?_ (same_upd np6)
        refine Same.trans ?_ s5
        refine Same.trans ?_ s4
        exact Same.put (s1.trans s2) np
      refine q _ p6 s06 ?_ ?_
      · have := s5.free np6
        have := s4.free this
        by_cases z : p6 = p
        · rw [z, upd_same] at this
          cases this
        · rw [upd_ne z] at this
          exact s1.free (s2.free this)
      · rw [upd_same]
        simp only [words, List.map_append, List.append_assoc]
        rfl
    | joins t ps =>
      obtain ⟨a, b, vs, rfl, hA, hB, hV⟩ := im.joins
      obtain ⟨st, sl, sp⟩ := sm
      have hlv := hV.length
      rw [List.length_map] at hlv
      refine ⟨.ref a, rfl, a, _, 0, .str (Str.ofString "joins"), rfl, rfl, hA, atI_nat (j := 0) rfl, ?_⟩
      refine ⟨.str (Str.ofString "joins"), rfl, .ref a, rfl, a, _, 1, .int t, rfl, rfl, hA, atI_nat (j := 1) rfl, t, rfl, log_of st, by show 2 ≤ sizeLine; decide, fun p np => ?_⟩
      have s1 := same_upd (o := HO.lst [.str (Str.ofString "joins"), .str (numS t)]) np
      refine ⟨.str (Str.ofString "joins"), rfl, rfl, _, rfl, ite2 (fun _ => ?_) (fun h => absurd (decide_eq_true rfl) h)⟩
      refine ⟨.ref a, rfl, a, _, 2, .ref b, rfl, rfl, SqT.same s1 hA, atI_nat (j := 2) rfl, b, rfl, ⟨_, SqT.same s1 hB⟩, for_tup (K := K) (a := b) (xs := vs)
        (fun i σ H3 => ∃ y3, σ = [some (.ref a), some (.str (Str.ofString "joins")), some (.ref p), y3] ∧ Same H H3 ∧ H3 p = some (.lst (([Str.ofString "joins", numS t] ++ ((ps.take i).map fun q => [Str.ofString "part"] ++ q.map numS).flatten).map V.str)))
        ⟨none, rfl, s1, upd_same⟩ (fun i σ H3 _ h => by obtain ⟨_, _, s3, _⟩ := h; exact SqT.same s3 hB) (fun i x σ H3 hx hP => ?_) (fun σ H3 hP => ?_)⟩
      · obtain ⟨y3, rfl, s3, e3⟩ := hP
        have hi : i < ps.length := by
          obtain ⟨h1, _⟩ := List.getElem?_eq_some_iff.mp hx
          omega
        obtain ⟨d, hd, imx⟩ := hV.get hx
        have ed : d = intsD ps[i] := by
          rw [List.getElem?_map, List.getElem?_eq_getElem hi] at hd
          exact (Option.some.inj hd).symm
        subst ed
        obtain ⟨u, rfl, hu⟩ := imx.toInts
        have sq := sp _ (List.getElem_mem hi)
        have hpl := (parts_len (ps := ps.take i) fun q hq => sp q (List.mem_of_mem_take hq)).1
        rw [List.length_take] at hpl
        generalize hW : [Str.ofString "joins", numS t] ++ ((ps.take i).map fun q => [Str.ofString "part"] ++ q.map numS).flatten = W at e3
        have hWl : W.length ≤ 1000 := by
          rw [← hW, List.length_append]
          show 2 + _ ≤ 1000
          omega
        refine ⟨.ref p, rfl, .inl ⟨rfl, _, SqL.of e3⟩, p, _, _, rfl, rfl, e3, by rw [List.length_map]; exact small1000 hWl, ?_⟩
        have hu2 : SqT K (upd H3 p (.lst (W.map V.str ++ [.str (Str.ofString "part")]))) u (ps[i].map V.int) := SqT.putL e3 (SqT.same s3 hu)
        refine ⟨.ref p, rfl, .inl ⟨rfl, _, SqL.of upd_same⟩, .ref u, rfl, u, ps[i], rfl, hu2, sq, fun H4 p4 s4 np4 e4 => ?_⟩
        refine ⟨p, p4, _, _, rfl, rfl, s4 _ _ upd_same, e4, ?_, _, rfl, ?_, ?_⟩
        · rw [List.length_append, List.length_map, List.length_map, List.length_map]
          have := sq.1
          exact Nat.le_trans (show W.length + 1 + ps[i].length ≤ 2000 by omega) (by decide)
        · refine Same.put ?_ np
          exact (Same.put s3 np).trans s4
        · rw [upd_same, List.take_add_one, List.getElem?_eq_getElem hi]
          show _ = some (HO.lst (([Str.ofString "joins", numS t] ++ ((ps.take i ++ [ps[i]]).map fun q => [Str.ofString "part"] ++ q.map numS).flatten).map V.str))
          rw [← hW]
          simp only [List.map_append, List.flatten_append, List.map_cons, List.map_nil, List.flatten_cons, List.flatten_nil, List.append_nil, List.append_assoc, List.nil_append, List.cons_append]
      · obtain ⟨y3, rfl, s3, e3⟩ := hP
        rw [hlv, List.take_length] at e3
        exact ⟨.ref p, rfl, q H3 p s3 np e3⟩
    | within t c o u =>
      obtain ⟨a, b, g, rfl, hA, hB, hG⟩ := im.within
      obtain ⟨st, sc, so, su⟩ := sm
      have hcl := sc.1
      have hul := su.1
      refine ⟨.ref a, rfl, a, _, 0, .str (Str.ofString "within"), rfl, rfl, hA, atI_nat (j := 0) rfl, ?_⟩
      refine ⟨.str (Str.ofString "within"), rfl, .ref a, rfl, a, _, 1, .int t, rfl, rfl, hA, atI_nat (j := 1) rfl, t, rfl, log_of st, by show 2 ≤ sizeLine; decide, fun p np => ?_⟩
      have s1 := same_upd (o := HO.lst [.str (Str.ofString "within"), .str (numS t)]) np
      have hk1 : ¬ decide (V.str (Str.ofString "within") = V.str (Str.ofString "joins")) = true := by decide
      refine ⟨.str (Str.ofString "within"), rfl, rfl, _, rfl, ite2 (fun h => absurd h hk1) (fun _ => ?_)⟩
      refine ⟨.ref p, rfl, .inl ⟨rfl, _, SqL.of upd_same⟩, .ref a, rfl, a, _, 2, .ref b, rfl, rfl, SqT.same s1 hA, atI_nat (j := 2) rfl, b, c, rfl, SqT.same s1 hB, sc, fun H2 p2 s2 np2 e2 => ?_⟩
      have ep2 : H2 p = some (.lst [.str (Str.ofString "within"), .str (numS t)]) := s2 _ _ upd_same
      refine ⟨p, p2, _, _, rfl, rfl, ep2, e2, ?_, ?_⟩
      · rw [List.length_map, List.length_map]
        exact Nat.le_trans (show 2 + c.length ≤ 1000 by omega) (by decide)
      have hA3 : ∀ {x : Addr} {xs : List V}, SqT K H x xs → SqT K (upd H2 p (.lst ([.str (Str.ofString "within"), .str (numS t)] ++ (c.map numS).map V.str))) x xs := fun h => SqT.putL ep2 (SqT.same (s1.trans s2) h)
      refine ⟨.str (Str.ofString "within"), rfl, rfl, _, rfl, ite2 (fun _ => ?_) (fun h => absurd (decide_eq_true rfl) h)⟩
      -- words + ['of', ..]
      refine ⟨.ref p, rfl, .ref a, rfl, a, _, 3, .int o, rfl, rfl, hA3 hA, atI_nat (j := 3) rfl, o, rfl, log_of so, by show 2 ≤ sizeLine; decide, fun p3 np3 => ⟨p, p3, _, _, rfl, rfl, by rw [upd_ne (ne_of_none upd_same np3), upd_same], upd_same, ?_, fun p4 np4 => ?_⟩⟩
      · rw [List.length_append, List.length_map, List.length_map]
        exact Nat.le_trans (show 2 + c.length + 2 ≤ 1000 by omega) (by decide)
      have s4 := (same_upd (o := HO.lst [.str (Str.ofString "of"), .str (numS o)]) np3).trans (same_upd (o := HO.lst ([.str (Str.ofString "within"), .str (numS t)] ++ (c.map numS).map V.str ++ [.str (Str.ofString "of"), .str (numS o)])) np4)
      refine ⟨.ref a, rfl, a, _, 4, .ref g, rfl, rfl, SqT.same s4 (hA3 hA), atI_nat (j := 4) rfl, g, u, rfl, SqT.same s4 (hA3 hG), su, fun H5 p5 s5 np5 e5 => ?_⟩
      refine ⟨p4, p5, _, _, rfl, rfl, s5 _ _ upd_same, e5, ?_, fun p6 np6 => ?_⟩
      · rw [List.length_append, List.length_append, List.length_map, List.length_map, List.length_map, List.length_map]
        exact Nat.le_trans (show 2 + c.length + 2 + u.length ≤ 1000 by omega) (by decide)
      have s06 : Same H (upd H5 p6 (.lst ([.str (Str.ofString "within"), .str (numS t)] ++ (c.map numS).map V.str ++ [.str (Str.ofString "of"), .str (numS o)] ++ (u.map numS).map V.str))) := by
        refine Same.trans ?_ (same_upd np6)
        refine Same.trans ?_ s5
        refine Same.trans ?_ s4
        exact Same.put (s1.trans s2) np
      refine q _ p6 s06 ?_ ?_
      · have := s5.free np6
        have := s4.free this
        by_cases z : p6 = p
        · rw [z, upd_same] at this
          cases this
        · rw [upd_ne z] at this
          exact s1.free (s2.free this)
      · rw [upd_same]
        simp only [words, List.map_append, List.append_assoc]
        rfl
end
end NK

namespace NK
open PySem PySem.Spec PyProof.Rows L2
abbrev rJoin (K : PySem.W.Frag) : V → List V → Hp → VK → Prop := fun x xs H Q => ∃ a p, ∃ ys : List Str, x = .str a ∧ xs = [.ref p] ∧ (SqL K H p (ys.map V.str) ∨ SqT K H p (ys.map V.str)) ∧ (ys.map (·.length)).sum + ys.length * a.length ≤ 16777216 ∧ Q (.str (Txt.join a ys)) H
section
variable {P : Program} {w : World} {K : PySem.W.Frag} {mg : Str → Option Value} {base : Heap}
/-! ### the program: the text of a book -/
def spWrite (K : PySem.W.Frag) : Sp := fun vs H Q _ => ∃ (v : V) (b : List Dep), vs = [v] ∧ Im K H v (bookD b) ∧ b.length ≤ 45 ∧ (∀ e ∈ b, e.Sm) ∧ ∀ H', Same H H' → Q (.str (bookS b)) H'
/-- lists of words, as they stand in a list -/
def spText (K : PySem.W.Frag) : Sp := fun vs H Q _ => ∃ (a : Addr) (xs : List V) (b : List Dep), vs = [.ref a] ∧ SqL K H a xs ∧ xs.length = b.length ∧ (∀ i x (hi : i < b.length), xs[i]? = some x → ∃ p, x = .ref p ∧ H p = some (.lst ((words b[i]).map V.str))) ∧ b.length ≤ 45 ∧ (∀ e ∈ b, e.Sm) ∧ ∀ H', Same H H' → Q (.str (bookS b)) H'
theorem ok_text {f : Addr} {fd : FuncData} (F : Fun K "text_of" "text_of" sText f fd) : FnOk P w K mg base CX0 1 f fd ["lines"] (spText K) := by
  refine F.ok scText (fun vs H Q E h => ?_) (fun cdv A outer s H vs Q E hr h => ?_)
  · obtain ⟨a, xs, b, rfl, _⟩ := h
    rfl
  · obtain ⟨a, xs, b, rfl, hL, hlv, hx0, hb, hsm, q⟩ := h
    refine ⟨_, pss_one (ps_ret (pe_join pe_str (pe_lc (own := [("words", 1)]) (g := gName 1) (by rfl) scText.nd (pi_list (pv 0)) (blkOk_by (N := ["lines", "words"]) (sc := defScope sText) (by decide +kernel))
        (fun _ _ _ _ _ => pg_name (i := 1) scText.nd rfl (Or.inl rfl)) (fun _ _ _ _ _ => pts_nil)
        (fun _ _ _ _ _ => pe_op op_add_str (pe_m1 (r := rJoin K) PySem.F.slot_str_join PySem.F.type_str_join mt_join pe_str (pv 1)) pe_str)))), ?_⟩
    refine ⟨⟨_, rfl⟩, .ref a, rfl, a, rfl, ⟨_, hL⟩, fun C nC => lc_list (K := K) (a := a) (xs := xs) (fun i H' => Same H H' ∧ H' C = some (.lst (((b.take i).map fun e => lineS e ++ Str.ofString "\n").map V.str)))
      ⟨same_upd nC, upd_same⟩ (fun i H' _ h => Same.seq h.1 hL) (fun i x H' hx hP => ?_) (fun H1 hP => ?_)⟩
    · obtain ⟨sm, eC⟩ := hP
      have hi : i < b.length := by
        obtain ⟨h1, _⟩ := List.getElem?_eq_some_iff.mp hx
        omega
      obtain ⟨p, rfl, e2⟩ := hx0 i x hi hx
      have sb := hsm _ (List.getElem_mem hi)
      refine ⟨rfl, yesT ⟨⟨_, rfl⟩, .ref p, rfl, ?_⟩⟩
      refine ⟨_, p, words b[i], rfl, rfl, .inl (SqL.of (sm _ _ e2)), Nat.le_trans (words_join sb) (by decide), ?_⟩
      refine ⟨_, _, rfl, rfl, ?_, _, eC, ?_, Same.put sm nC, ?_⟩
      · have := line_len sb
        have e1 : (Str.ofString "\n").length = 1 := by decide
        have e2 : (Txt.join (Str.ofString " ") (words b[i])).length = (lineS b[i]).length := rfl
        rw [e1, e2]
        exact Nat.le_trans (show _ ≤ 62001 by omega) (by decide)
      · rw [List.length_map, List.length_map, List.length_take]
        exact small1000 (by omega)
      · rw [upd_same, List.take_add_one, List.getElem?_eq_getElem hi, List.map_append, List.map_append]
        rfl
    · obtain ⟨sm, eC⟩ := hP
      rw [hlv, List.take_length] at eC
      exact ⟨_, C, _, rfl, rfl, .inl (SqL.of eC), lines_join hb hsm, q H1 (Same.trans sm (Same.refl _))⟩
theorem ok_write {f fN fD fT : Addr} {fd fdN fdD fdT : FuncData} (F : Fun K "write_book" "write_book" sWrite f fd) (FT : Fun K "text_of" "text_of" sText fT fdT) (bT : Binds K fdT ["lines"] []) (gT : mg "text_of" = some (.ref fT)) (FD : Fun K "dependency_words" "dependency_words" sDepW fD fdD) (bD : Binds K fdD ["dependency"] []) (gD : mg "dependency_words" = some (.ref fD))
    (FN : Fun K "number_words" "number_words" sNumW fN fdN) (bN : Binds K fdN ["numbers"] []) (gN : mg "number_words" = some (.ref fN)) (ms : mg "str" = none) :
    FnOk P w K mg base CX0 3 f fd ["book"] (spWrite K) := by
  have GD : FnOk P w K mg base CX0 2 fD fdD ["dependency"] (spDepW K) := ok_depW FD FN bN gN ms
  have GT : FnOk P w K mg base CX0 1 fT fdT ["lines"] (spText K) := ok_text FT
  refine F.ok scWrite (fun vs H Q E h => ?_) (fun cdv A outer s H vs Q E hr h => ?_)
  · obtain ⟨v, b, rfl, _⟩ := h
    rfl
  · obtain ⟨v, b, rfl, im, hb, hsm, q⟩ := h
    have hr1 := hr.mono (show 1 ≤ 2 by decide)
    cases im with
    | tup hT hI =>
      rename_i a xs
      have hlv := hI.length
      rw [List.length_map] at hlv
      refine ⟨_, pss_one (ps_ret (pe_call GT hr1 (by rfl) gT FT.kp bT .nil pass0 (pa_cons (pe_lc (own := [("dependency", 1)]) (g := gName 1) (by rfl) scWrite.nd (pi_tup (pv 0)) (blkOk_by (N := ["book", "dependency"]) (sc := defScope sWrite) (by decide +kernel))
          (fun _ _ _ _ _ => pg_name (i := 1) scWrite.nd rfl (Or.inl rfl)) (fun _ _ _ _ _ => pts_nil)
          (fun _ _ _ _ _ => pe_call GD hr (by rfl) gD FD.kp bD .nil pass0 (pa_cons (pv 1) pa_nil))) pa_nil))), ?_⟩
      refine ⟨.ref a, rfl, a, rfl, ⟨_, hT⟩, fun C nC => lc_tup (K := K) (a := a) (xs := xs) (fun i H' => Same H H' ∧ ∃ acc : List V, H' C = some (.lst acc) ∧ acc.length = i ∧ ∀ j x (hj : j < b.length), acc[j]? = some x → ∃ p, x = .ref p ∧ p ≠ C ∧ H' p = some (.lst ((words b[j]).map V.str)))
        ⟨same_upd nC, [], upd_same, rfl, fun j x hj h => by simp at h⟩ (fun i H' _ h => SqT.same h.1 hT) (fun i x H' hx hP => ?_) (fun H1 hP => ?_)⟩
      · obtain ⟨sm, acc, eC, hla, hacc⟩ := hP
        have hi : i < b.length := by
          obtain ⟨h1, _⟩ := List.getElem?_eq_some_iff.mp hx
          omega
        obtain ⟨d, hd, imx⟩ := hI.get hx
        have ed : d = b[i].data := by
          rw [List.getElem?_map, List.getElem?_eq_getElem hi] at hd
          exact (Option.some.inj hd).symm
        subst ed
        have sb := hsm _ (List.getElem_mem hi)
        refine ⟨rfl, yesT ⟨x, rfl, x, b[i], rfl, imx.same sm, sb, fun H2 p s2 np e2 => ?_⟩⟩
        have eC2 := s2 _ _ eC
        have npC : p ≠ C := fun e => by
          rw [e, eC] at np
          cases np
        refine ⟨acc, eC2, small1000 (by omega), Same.put (sm.trans s2) nC, acc ++ [.ref p], upd_same, by rw [List.length_append, hla]; rfl, fun j y hj hy => ?_⟩
        by_cases h : j < acc.length
        · rw [List.getElem?_append_left h] at hy
          obtain ⟨p', rfl, n', e'⟩ := hacc j y hj hy
          exact ⟨p', rfl, n', by rw [upd_ne n']; exact s2 _ _ e'⟩
        · rw [List.getElem?_append_right (by omega)] at hy
          have ej : j - acc.length = 0 := by
            have := (List.getElem?_eq_some_iff.mp hy).1
            simp at this; omega
          rw [ej] at hy
          have : j = i := by omega
          subst this
          cases hy
          exact ⟨p, rfl, npC, by rw [upd_ne npC]; exact e2⟩
      · obtain ⟨sm, acc, eC, hla, hacc⟩ := hP
        refine ⟨C, acc, b, rfl, SqL.of eC, by omega, fun i x hi hx => ?_, hb, hsm, fun H' s' => q H' (Same.trans sm s')⟩
        obtain ⟨p, e, _, h⟩ := hacc i x hi hx
        exact ⟨p, e, h⟩

/-! ### the law's own words and lines -/
def spWords (K : PySem.W.Frag) : Sp := spDepW K
theorem ok_words {f : Addr} {fd : FuncData} {k : Nat} (F : Fun K "_law_words" "_law_words" sWords f fd) (ms : mg "str" = none) : FnOk P w K mg base CX0 (k + 1) f fd ["dependency"] (spWords K) := by
  refine F.ok scWords (fun vs H Q E h => ?_) (fun cdv A outer s H vs Q E hr h => ?_)
  · obtain ⟨v, e, rfl, _⟩ := h
    rfl
  · obtain ⟨v, e, rfl, im, sm, q⟩ := h
    -- the turns of [str(column) for column in a tuple], wherever the frame stands
    have turns : ∀ (σ : L2.St) (H1 : Hp) (D b : Addr) (l : List Int) (Qd : Hp → Prop), σ.length = 4 → SqT K H1 b (l.map V.int) → SmL l → H1 D = none → (∀ H2, Same H1 H2 → H2 D = some (.lst ((l.map numS).map V.str)) → Qd H2) →
        ∃ W : Nat → Nat → Hp → Prop, (∃ m, W 0 m (upd H1 D (.lst []))) ∧ ∀ i m H, W i m H → ((Itt K b).stop i H ∧ Qd H) ∨ ((Itt K b).go i H ∧ ∃ Nx : Hp → Prop, (∀ H', Nx H' → ∃ m', m' < m ∧ W (i + 1) m' H') ∧ ∀ x H', (Itt K b).yld i H x H' → gName 3 x (wipe σ [3]) H' fun σ2 H2 => wipe σ2 [3] = wipe σ [3] ∧ tYes σ2 H2 fun c H3 =>
          if c = true then tCB (fun xs H Q => ∃ i, xs = [V.int i] ∧ i.natAbs.log2 < 1920 ∧ Q (.str (toString i)) H) (tCons (tVar 3) tNil) σ2 H3 fun y H4 => ∃ acc, H4 D = some (.lst acc) ∧ acc.length < sizeLine ∧ Nx (upd H4 D (.lst (acc ++ [y]))) else Nx H3) := by
      intro σ H1 D b l Qd hσ hS hl nD hq
      obtain ⟨x0, x1, x2, x3, rfl⟩ : ∃ x0 x1 x2 x3, σ = [x0, x1, x2, x3] := by
        match σ, hσ with
        | [x0, x1, x2, x3], _ => exact ⟨_, _, _, _, rfl⟩
      refine lc_tup (K := K) (a := b) (xs := l.map V.int) (fun i H' => Same H1 H' ∧ H' D = some (.lst (((l.take i).map numS).map V.str)))
        ⟨same_upd nD, upd_same⟩ (fun i H' _ h => SqT.same h.1 hS) (fun i x H' hx hP => ?_) (fun H2 hP => ?_)
      · obtain ⟨sm, eC⟩ := hP
        have hi : i < l.length := by
          obtain ⟨h1, _⟩ := List.getElem?_eq_some_iff.mp hx
          rw [List.length_map] at h1
          exact h1
        have ex : x = .int l[i] := by
          rw [List.getElem?_map, List.getElem?_eq_getElem hi] at hx
          exact (Option.some.inj hx).symm
        subst ex
        have hll := hl.1
        refine ⟨rfl, yesT ⟨.int l[i], rfl, _, rfl, log_of (hl.2 _ (List.getElem_mem hi)), _, eC, ?_, Same.put sm nD, ?_⟩⟩
        · rw [List.length_map, List.length_map, List.length_take]
          exact small1000 (by omega)
        · rw [upd_same, List.take_add_one, List.getElem?_eq_getElem hi, List.map_append, List.map_append]
          rfl
      · obtain ⟨sm, eC⟩ := hP
        rw [List.length_map, List.take_length] at eC
        exact hq H2 sm eC
    refine ⟨_, pss_cons (ps_set (i := 1) scWords.nd rfl (.inl rfl) (pe_lst (pa_cons (pe_ix ix_tup (pv 0) pe_int (fun _ _ => rfl)) (pa_cons (pe_callTy call_str_int (by rfl) ms boot_str (pa_cons (pe_ix ix_tup (pv 0) pe_int (fun _ _ => rfl)) pa_nil)) pa_nil))))
      (pss_cons (ps_if (pt_cmpR op_eq (pe_ix ix_tup (pv 0) pe_int (fun _ _ => rfl)) pe_str (nomark _))
        (pss_cons (ps_for PassesOwn.never rfl (pi_tup (pe_ix ix_tup (pv 0) pe_int (fun _ _ => rfl))) (pg_name (i := 2) scWords.nd rfl (.inl rfl))
          (pss_one (ps_set (i := 1) scWords.nd rfl (.inl rfl) (pe_op op_cat (pe_op op_cat (pv 1) (pe_lst (pa_cons pe_str pa_nil)))
            (pe_lc (own := [("column", 3)]) (g := gName 3) (by rfl) scWords.nd (pi_tup (pv 2)) (blkOk_by (N := nWords) (sc := defScope sWords) (by decide +kernel)) (fun _ _ _ _ _ => pg_name (i := 3) scWords.nd rfl (Or.inl rfl)) (fun _ _ _ _ _ => pts_nil)
              (fun _ _ _ _ _ => pe_callTy call_str_int (by rfl) ms boot_str (pa_cons (pv 3) pa_nil)))))))
        (pss_one (ps_ret (pv 1)))) pss_nil)
      (pss_cons (ps_set (i := 1) scWords.nd rfl (.inl rfl) (pe_op op_cat (pv 1)
          (pe_lc (own := [("column", 3)]) (g := gName 3) (by rfl) scWords.nd (pi_tup (pe_ix ix_tup (pv 0) pe_int (fun _ _ => rfl))) (blkOk_by (N := nWords) (sc := defScope sWords) (by decide +kernel)) (fun _ _ _ _ _ => pg_name (i := 3) scWords.nd rfl (Or.inl rfl)) (fun _ _ _ _ _ => pts_nil)
              (fun _ _ _ _ _ => pe_callTy call_str_int (by rfl) ms boot_str (pa_cons (pv 3) pa_nil)))))
      (pss_cons (ps_if (pt_cmpR op_eq (pe_ix ix_tup (pv 0) pe_int (fun _ _ => rfl)) pe_str (nomark _))
        (pss_one (ps_ret (pe_op op_cat (pe_op op_cat (pv 1) (pe_lst (pa_cons pe_str (pa_cons (pe_callTy call_str_int (by rfl) ms boot_str (pa_cons (pe_ix ix_tup (pv 0) pe_int (fun _ _ => rfl)) pa_nil)) pa_nil))))
            (pe_lc (own := [("column", 3)]) (g := gName 3) (by rfl) scWords.nd (pi_tup (pe_ix ix_tup (pv 0) pe_int (fun _ _ => rfl))) (blkOk_by (N := nWords) (sc := defScope sWords) (by decide +kernel)) (fun _ _ _ _ _ => pg_name (i := 3) scWords.nd rfl (Or.inl rfl)) (fun _ _ _ _ _ => pts_nil)
              (fun _ _ _ _ _ => pe_callTy call_str_int (by rfl) ms boot_str (pa_cons (pv 3) pa_nil)))))) pss_nil)
      (pss_one (ps_ret (pe_op op_cat (pe_op op_cat (pv 1) (pe_lst (pa_cons pe_str pa_nil)))
            (pe_lc (own := [("column", 3)]) (g := gName 3) (by rfl) scWords.nd (pi_tup (pe_ix ix_tup (pv 0) pe_int (fun _ _ => rfl))) (blkOk_by (N := nWords) (sc := defScope sWords) (by decide +kernel)) (fun _ _ _ _ _ => pg_name (i := 3) scWords.nd rfl (Or.inl rfl)) (fun _ _ _ _ _ => pts_nil)
              (fun _ _ _ _ _ => pe_callTy call_str_int (by rfl) ms boot_str (pa_cons (pv 3) pa_nil))))))))), ?_⟩
    cases e with
    | two k t l r =>
      obtain ⟨a, b, c, rfl, hA, hB, hC⟩ := im.two
      obtain ⟨st, sl, sr⟩ := sm
      have hl := sl.1
      have hrl := sr.1
      have hk1 : ¬ decide (V.str (kindS k) = V.str (Str.ofString "joins")) = true := by cases k <;> decide
      have hk2 : ¬ decide (V.str (kindS k) = V.str (Str.ofString "within")) = true := by cases k <;> decide
      refine ⟨.ref a, rfl, a, _, 0, .str (kindS k), rfl, rfl, hA, atI_nat (j := 0) rfl, .ref a, rfl, a, _, 1, .int t, rfl, rfl, hA, atI_nat (j := 1) rfl, t, rfl, log_of st, by show 2 ≤ sizeLine; decide, fun p np => ?_⟩
      have s1 := same_upd (o := HO.lst [.str (kindS k), .str (numS t)]) np
      refine ⟨.ref a, rfl, a, _, 0, .str (kindS k), rfl, rfl, SqT.same s1 hA, atI_nat (j := 0) rfl, rfl, _, rfl, ite2 (fun h => absurd h hk1) (fun _ => ?_)⟩
      refine ⟨.ref p, rfl, .ref a, rfl, a, _, 2, .ref b, rfl, rfl, SqT.same s1 hA, atI_nat (j := 2) rfl, b, rfl, ⟨_, SqT.same s1 hB⟩, fun D nD => turns _ _ D b l _ rfl (SqT.same s1 hB) sl nD fun H2 s2 e2 => ?_⟩
      refine ⟨p, D, _, _, rfl, rfl, s2 _ _ upd_same, e2, ?_, fun p2 np2 => ?_⟩
      · rw [List.length_map, List.length_map]
        exact Nat.le_trans (show 2 + l.length ≤ 1000 by omega) (by decide)
      have s02 := (s1.trans s2).trans (same_upd (o := HO.lst ([.str (kindS k), .str (numS t)] ++ (l.map numS).map V.str)) np2)
      refine ⟨.ref a, rfl, a, _, 0, .str (kindS k), rfl, rfl, SqT.same s02 hA, atI_nat (j := 0) rfl, rfl, _, rfl, ite2 (fun h => absurd h hk2) (fun _ => ?_)⟩
      refine ⟨.ref p2, rfl, by show 1 ≤ sizeLine; decide, fun p3 np3 => ⟨p2, p3, _, _, rfl, rfl, by rw [upd_ne (ne_of_none upd_same np3), upd_same], upd_same, ?_, fun p4 np4 => ?_⟩⟩
      · rw [List.length_append, List.length_map, List.length_map]
        exact Nat.le_trans (show 2 + l.length + 1 ≤ 1000 by omega) (by decide)
      have s04 := (s02.trans (same_upd (o := HO.lst [.str (Str.ofString "to")]) np3)).trans (same_upd (o := HO.lst ([.str (kindS k), .str (numS t)] ++ (l.map numS).map V.str ++ [.str (Str.ofString "to")])) np4)
      refine ⟨.ref a, rfl, a, _, 3, .ref c, rfl, rfl, SqT.same s04 hA, atI_nat (j := 3) rfl, c, rfl, ⟨_, SqT.same s04 hC⟩, fun D2 nD2 => turns _ _ D2 c r _ rfl (SqT.same s04 hC) sr nD2 fun H5 s5 e5 => ?_⟩
      refine ⟨p4, D2, _, _, rfl, rfl, s5 _ _ upd_same, e5, ?_, fun p6 np6 => ?_⟩
      · rw [List.length_append, List.length_append, List.length_map, List.length_map, List.length_map, List.length_map]
        exact Nat.le_trans (show 2 + l.length + 1 + r.length ≤ 1000 by omega) (by decide)
      have s05 := s04.trans s5
      refine q _ p6 (s05.trans (same_upd np6)) (s05.free np6) ?_
      rw [upd_same]
      simp only [words, List.map_append, List.append_assoc]
      rfl
    | joins t ps =>
      obtain ⟨a, b, vs, rfl, hA, hB, hV⟩ := im.joins
      obtain ⟨st, sl, sp⟩ := sm
      have hlv := hV.length
      rw [List.length_map] at hlv
      refine ⟨.ref a, rfl, a, _, 0, .str (Str.ofString "joins"), rfl, rfl, hA, atI_nat (j := 0) rfl, .ref a, rfl, a, _, 1, .int t, rfl, rfl, hA, atI_nat (j := 1) rfl, t, rfl, log_of st, by show 2 ≤ sizeLine; decide, fun p np => ?_⟩
      have s1 := same_upd (o := HO.lst [.str (Str.ofString "joins"), .str (numS t)]) np
      refine ⟨.ref a, rfl, a, _, 0, .str (Str.ofString "joins"), rfl, rfl, SqT.same s1 hA, atI_nat (j := 0) rfl, rfl, _, rfl, ite2 (fun _ => ?_) (fun h => absurd (decide_eq_true rfl) h)⟩
      refine ⟨.ref a, rfl, a, _, 2, .ref b, rfl, rfl, SqT.same s1 hA, atI_nat (j := 2) rfl, b, rfl, ⟨_, SqT.same s1 hB⟩, for_tup (K := K) (a := b) (xs := vs)
        (fun i σ H3 => ∃ y2 y3 p3, σ = [some (.ref a), some (.ref p3), y2, y3] ∧ Same H H3 ∧ H p3 = none ∧ H3 p3 = some (.lst (([Str.ofString "joins", numS t] ++ ((ps.take i).map fun q => [Str.ofString "part"] ++ q.map numS).flatten).map V.str)))
        ⟨none, none, p, rfl, s1, np, upd_same⟩ (fun i σ H3 _ h => by obtain ⟨_, _, _, _, s3, _⟩ := h; exact SqT.same s3 hB) (fun i x σ H3 hx hP => ?_) (fun σ H3 hP => ?_)⟩
      · obtain ⟨y2, y3, p3, rfl, s3, np3, e3⟩ := hP
        have hi : i < ps.length := by
          obtain ⟨h1, _⟩ := List.getElem?_eq_some_iff.mp hx
          omega
        obtain ⟨d, hd, imx⟩ := hV.get hx
        have ed : d = intsD ps[i] := by
          rw [List.getElem?_map, List.getElem?_eq_getElem hi] at hd
          exact (Option.some.inj hd).symm
        subst ed
        obtain ⟨u, rfl, hu⟩ := imx.toInts
        have sq := sp _ (List.getElem_mem hi)
        have hpl := (parts_len (ps := ps.take i) fun q hq => sp q (List.mem_of_mem_take hq)).1
        rw [List.length_take] at hpl
        generalize hW : [Str.ofString "joins", numS t] ++ ((ps.take i).map fun q => [Str.ofString "part"] ++ q.map numS).flatten = W at e3
        have hWl : W.length ≤ 1000 := by
          rw [← hW, List.length_append]
          show 2 + _ ≤ 1000
          omega
        refine ⟨.ref p3, rfl, by show 1 ≤ sizeLine; decide, fun p4 np4 => ⟨p3, p4, _, _, rfl, rfl, by rw [upd_ne (ne_of_none e3 np4)]; exact e3, upd_same, ?_, fun p5 np5 => ?_⟩⟩
        · rw [List.length_map]
          exact Nat.le_trans (show W.length + 1 ≤ 1001 by omega) (by decide)
        have s5 := (s3.trans (same_upd (o := HO.lst [.str (Str.ofString "part")]) np4)).trans (same_upd (o := HO.lst (W.map V.str ++ [.str (Str.ofString "part")])) np5)
        refine ⟨.ref u, rfl, u, rfl, ⟨_, SqT.same s5 hu⟩, fun D nD => turns _ _ D u ps[i] _ rfl (SqT.same s5 hu) sq nD fun H6 s6 e6 => ?_⟩
        refine ⟨p5, D, _, _, rfl, rfl, s6 _ _ upd_same, e6, ?_, fun p7 np7 => ?_⟩
        · rw [List.length_append, List.length_map, List.length_map, List.length_map]
          have := sq.1
          exact Nat.le_trans (show W.length + 1 + ps[i].length ≤ 2000 by omega) (by decide)
        · have s7 := s5.trans s6
          refine ⟨_, _, p7, rfl, s7.trans (same_upd np7), s7.free np7, ?_⟩
          rw [upd_same, List.take_add_one, List.getElem?_eq_getElem hi]
          show _ = some (HO.lst (([Str.ofString "joins", numS t] ++ ((ps.take i ++ [ps[i]]).map fun q => [Str.ofString "part"] ++ q.map numS).flatten).map V.str))
          rw [← hW]
          simp only [List.map_append, List.flatten_append, List.map_cons, List.map_nil, List.flatten_cons, List.flatten_nil, List.append_nil, List.append_assoc, List.nil_append, List.cons_append]
      · obtain ⟨y2, y3, p3, rfl, s3, np3, e3⟩ := hP
        rw [hlv, List.take_length] at e3
        exact ⟨.ref p3, rfl, q H3 p3 s3 np3 e3⟩
    | within t c o u =>
      obtain ⟨a, b, g, rfl, hA, hB, hG⟩ := im.within
      obtain ⟨st, sc, so, su⟩ := sm
      have hcl := sc.1
      have hul := su.1
      have hk1 : ¬ decide (V.str (Str.ofString "within") = V.str (Str.ofString "joins")) = true := by decide
      refine ⟨.ref a, rfl, a, _, 0, .str (Str.ofString "within"), rfl, rfl, hA, atI_nat (j := 0) rfl, .ref a, rfl, a, _, 1, .int t, rfl, rfl, hA, atI_nat (j := 1) rfl, t, rfl, log_of st, by show 2 ≤ sizeLine; decide, fun p np => ?_⟩
      have s1 := same_upd (o := HO.lst [.str (Str.ofString "within"), .str (numS t)]) np
      refine ⟨.ref a, rfl, a, _, 0, .str (Str.ofString "within"), rfl, rfl, SqT.same s1 hA, atI_nat (j := 0) rfl, rfl, _, rfl, ite2 (fun h => absurd h hk1) (fun _ => ?_)⟩
      refine ⟨.ref p, rfl, .ref a, rfl, a, _, 2, .ref b, rfl, rfl, SqT.same s1 hA, atI_nat (j := 2) rfl, b, rfl, ⟨_, SqT.same s1 hB⟩, fun D nD => turns _ _ D b c _ rfl (SqT.same s1 hB) sc nD fun H2 s2 e2 => ?_⟩
      refine ⟨p, D, _, _, rfl, rfl, s2 _ _ upd_same, e2, ?_, fun p2 np2 => ?_⟩
      · rw [List.length_map, List.length_map]
        exact Nat.le_trans (show 2 + c.length ≤ 1000 by omega) (by decide)
      have s02 := (s1.trans s2).trans (same_upd (o := HO.lst ([.str (Str.ofString "within"), .str (numS t)] ++ (c.map numS).map V.str)) np2)
      refine ⟨.ref a, rfl, a, _, 0, .str (Str.ofString "within"), rfl, rfl, SqT.same s02 hA, atI_nat (j := 0) rfl, rfl, _, rfl, ite2 (fun _ => ?_) (fun h => absurd (decide_eq_true rfl) h)⟩
      refine ⟨.ref p2, rfl, .ref a, rfl, a, _, 3, .int o, rfl, rfl, SqT.same s02 hA, atI_nat (j := 3) rfl, o, rfl, log_of so, by show 2 ≤ sizeLine; decide, fun p3 np3 => ⟨p2, p3, _, _, rfl, rfl, by rw [upd_ne (ne_of_none upd_same np3), upd_same], upd_same, ?_, fun p4 np4 => ?_⟩⟩
      · rw [List.length_append, List.length_map, List.length_map]
        exact Nat.le_trans (show 2 + c.length + 2 ≤ 1000 by omega) (by decide)
      have s04 := (s02.trans (same_upd (o := HO.lst [.str (Str.ofString "of"), .str (numS o)]) np3)).trans (same_upd (o := HO.lst ([.str (Str.ofString "within"), .str (numS t)] ++ (c.map numS).map V.str ++ [.str (Str.ofString "of"), .str (numS o)])) np4)
      refine ⟨.ref a, rfl, a, _, 4, .ref g, rfl, rfl, SqT.same s04 hA, atI_nat (j := 4) rfl, g, rfl, ⟨_, SqT.same s04 hG⟩, fun D2 nD2 => turns _ _ D2 g u _ rfl (SqT.same s04 hG) su nD2 fun H5 s5 e5 => ?_⟩
      refine ⟨p4, D2, _, _, rfl, rfl, s5 _ _ upd_same, e5, ?_, fun p6 np6 => ?_⟩
      · rw [List.length_append, List.length_append, List.length_map, List.length_map, List.length_map, List.length_map]
        exact Nat.le_trans (show 2 + c.length + 2 + u.length ≤ 1000 by omega) (by decide)
      have s05 := s04.trans s5
      refine q _ p6 (s05.trans (same_upd np6)) (s05.free np6) ?_
      rw [upd_same]
      simp only [words, List.map_append, List.append_assoc]
      rfl
/-- the lines of a book -/
def spLines (K : PySem.W.Frag) : Sp := fun vs H Q _ => ∃ (v : V) (b : List Dep), vs = [v] ∧ Im K H v (bookD b) ∧ b.length ≤ 45 ∧ (∀ e ∈ b, e.Sm) ∧ ∀ H' p, Same H H' → H p = none → H' p = some (.lst ((b.map lineS).map V.str)) → Q (.ref p) H'
theorem ok_lines {f fW : Addr} {fd fdW : FuncData} (F : Fun K "_law_lines" "_law_lines" sLines f fd) (FW : Fun K "_law_words" "_law_words" sWords fW fdW) (bW : Binds K fdW ["dependency"] []) (gW : mg "_law_words" = some (.ref fW)) (ms : mg "str" = none) :
    FnOk P w K mg base CX0 2 f fd ["book"] (spLines K) := by
  have GW : FnOk P w K mg base CX0 1 fW fdW ["dependency"] (spWords K) := ok_words FW ms
  refine F.ok scLines (fun vs H Q E h => ?_) (fun cdv A outer s H vs Q E hr h => ?_)
  · obtain ⟨v, b, rfl, _⟩ := h
    rfl
  · obtain ⟨v, b, rfl, im, hb, hsm, q⟩ := h
    cases im with
    | tup hT hI =>
      rename_i a xs
      have hlv := hI.length
      rw [List.length_map] at hlv
      refine ⟨_, pss_one (ps_ret (pe_lc (own := [("dependency", 1)]) (g := gName 1) (by rfl) scLines.nd (pi_tup (pv 0)) (blkOk_by (N := ["book", "dependency"]) (sc := defScope sLines) (by decide +kernel))
          (fun _ _ _ _ _ => pg_name (i := 1) scLines.nd rfl (Or.inl rfl)) (fun _ _ _ _ _ => pts_nil)
          (fun _ _ _ _ _ => pe_m1 (r := rJoin K) PySem.F.slot_str_join PySem.F.type_str_join mt_join pe_str (pe_call GW hr (by rfl) gW FW.kp bW .nil pass0 (pa_cons (pv 1) pa_nil))))), ?_⟩
      refine ⟨.ref a, rfl, a, rfl, ⟨_, hT⟩, fun C nC => lc_tup (K := K) (a := a) (xs := xs) (fun i H' => Same H H' ∧ H' C = some (.lst (((b.take i).map lineS).map V.str)))
        ⟨same_upd nC, upd_same⟩ (fun i H' _ h => SqT.same h.1 hT) (fun i x H' hx hP => ?_) (fun H1 hP => ?_)⟩
      · obtain ⟨sm, eC⟩ := hP
        have hi : i < b.length := by
          obtain ⟨h1, _⟩ := List.getElem?_eq_some_iff.mp hx
          omega
        obtain ⟨d, hd, imx⟩ := hI.get hx
        have ed : d = b[i].data := by
          rw [List.getElem?_map, List.getElem?_eq_getElem hi] at hd
          exact (Option.some.inj hd).symm
        subst ed
        have sb := hsm _ (List.getElem_mem hi)
        refine ⟨rfl, yesT ⟨⟨_, rfl⟩, x, rfl, x, b[i], rfl, imx.same sm, sb, fun H2 p s2 np e2 => ?_⟩⟩
        refine ⟨_, p, words b[i], rfl, rfl, .inl (SqL.of e2), Nat.le_trans (words_join sb) (by decide), _, s2 _ _ eC, ?_, Same.put (sm.trans s2) nC, ?_⟩
        · rw [List.length_map, List.length_map, List.length_take]
          exact small1000 (by omega)
        · rw [upd_same, List.take_add_one, List.getElem?_eq_getElem hi, List.map_append, List.map_append]
          rfl
      · obtain ⟨sm, eC⟩ := hP
        rw [hlv, List.take_length] at eC
        exact q H1 C sm nC eC
end
theorem book0 : bookS [] = Str.ofString "" := by decide +kernel
theorem book1 : bookS [.two true 0 [] []] = Str.ofString "deals 0 to\n" := by decide +kernel
end NK

namespace NK
open PySem PySem.Spec PyProof.Rows L2
abbrev sLaw : Stmt := topS 22
abbrev nLaw : List Str := ["script", "draws", "far", "scheme", "book", "actual", "line_of"]
theorem scLaw : FnScope nLaw ["script"] (defScope sLaw) := ⟨rfl, rfl, rfl, by decide +kernel, rfl, by decide +kernel, by decide +kernel⟩
/-- a def of the text where it stands, and how it is called -/
structure Df (K : PySem.W.Frag) (mg : Str → Option Value) (x : Str) (st : Stmt) (ps : List Str) (f : Addr) (fd : FuncData) : Prop where
  F : Fun K x x st f fd
  b : Binds K fd ps []
  g : mg x = some (.ref f)
section
variable {P : Program} {w : World} {K : PySem.W.Frag} {mg : Str → Option Value} {base : Heap}
def spLaw (K : PySem.W.Frag) : Sp := fun vs H Q _ => ∃ (a : Addr) (ns : List Int), vs = [.ref a] ∧ SqL K H a (ns.map V.int) ∧ ns.length ≤ 63 ∧ ∀ H', Q (.bl true) H'
theorem ok_law {f fDr fT fC fS fCo fSc fP fI fD fO fB fW fLi fLa pW pD pN pT : Addr} {fd dDr dT dC dS dCo dSc dP dI dD dO dB dW dLi dLa dpW dpD dpN dpT : FuncData} (F : Fun K "law" "law" sLaw f fd) (T : Hlp K mg fT dT)
    (DR : Df K mg "_law_draws" sDraws ["script", "many"] fDr dDr) (DC : Df K mg "_law_cell" sCell ["script", "draws"] fC dC) (DS : Df K mg "_law_shuffled" sShuf ["draws", "row"] fS dS)
    (DCo : Df K mg "_law_columns" sCols ["draws", "width"] fCo dCo) (DSc : Df K mg "_law_scheme" sScheme ["draws"] fSc dSc) (DP : Df K mg "_law_parts" sParts ["draws", "width", "most"] fP dP)
    (DI : Df K mg "_law_inclusion" sIncl ["draws", "scheme", "order"] fI dI) (DD : Df K mg "_law_dependency" sDep ["draws", "scheme", "order"] fD dD) (DO : Df K mg "_law_order" sOrder ["draws", "scheme"] fO dO)
    (DB : Df K mg "_law_book" sBook ["draws", "scheme", "most"] fB dB) (DW : Df K mg "_law_words" sWords ["dependency"] fW dW) (DLi : Df K mg "_law_lines" sLines ["book"] fLi dLi) (DLa : Df K mg "_law_large" sLarge ["draws"] fLa dLa)
    (PW1 : Df K mg "write_book" sWrite ["book"] pW dpW) (PD : Df K mg "dependency_words" sDepW ["dependency"] pD dpD) (PN : Df K mg "number_words" sNumW ["numbers"] pN dpN) (PT : Df K mg "text_of" sText ["lines"] pT dpT)
    (mstr : mg "str" = none) (mabs : mg "abs" = none) (misi : mg "isinstance" = none) : FnOk P w K mg base CX0 7 f fd ["script"] (spLaw K) := by
  have GT : FnOk P w K mg base CX0 1 fT dT ["draws", "many"] spTake := ok_take T.FT T.len T.int
  have GDR : FnOk P w K mg base CX0 1 fDr dDr ["script", "many"] (spDraws K) := ok_draws DR.F T.len T.int T.list T.range
  have GC : FnOk P w K mg base CX0 2 fC dC ["script", "draws"] (spCell K) := ok_cell DC.F T.FT T.bT T.gT T.len T.int
  have GSc : FnOk P w K mg base CX0 2 fSc dSc ["draws"] spScheme := ok_scheme T DSc.F
  have GB : FnOk P w K mg base CX0 5 fB dB ["draws", "scheme", "most"] (spBook K) := ok_book T DB.F DS.F DS.b DS.g DI.F DI.b DI.g DP.F DP.b DP.g DCo.F DCo.b DCo.g DD.F DD.b DD.g DO.F DO.b DO.g
  have GLa : FnOk P w K mg base CX0 6 fLa dLa ["draws"] (spLarge K) := ok_large T DLa.F DS.F DS.b DS.g DI.F DI.b DI.g DP.F DP.b DP.g DCo.F DCo.b DCo.g DD.F DD.b DD.g DO.F DO.b DO.g DB.F DB.b DB.g
  have GLi : FnOk P w K mg base CX0 2 fLi dLi ["book"] (spLines K) := ok_lines DLi.F DW.F DW.b DW.g mstr
  have GW : FnOk P w K mg base CX0 3 pW dpW ["book"] (spWrite K) := ok_write PW1.F PT.F PT.b PT.g PD.F PD.b PD.g PN.F PN.b PN.g mstr
  refine F.ok scLaw (fun vs H Q E h => ?_) (fun cdv A outer s H vs Q E hr h => ?_)
  · obtain ⟨a, ns, rfl, _⟩ := h
    rfl
  · obtain ⟨a, ns, rfl, hS, hlen, q⟩ := h
    have hr1 := hr.mono (show 1 ≤ 6 by decide)
    have hr2 := hr.mono (show 2 ≤ 6 by decide)
    have hr3 := hr.mono (show 3 ≤ 6 by decide)
    have hr5 := hr.mono (show 5 ≤ 6 by decide)
    refine ⟨_, pss_cons (ps_set (i := 1) scLaw.nd rfl (.inl rfl) (pe_call GDR hr1 (by rfl) DR.g DR.F.kp DR.b .nil pass0 (pa_cons (pv 0) (pa_cons pe_int pa_nil))))
      (pss_cons (ps_set (i := 2) scLaw.nd rfl (.inl rfl) (pe_ix ix_list (pe_lst (pa_cons
          (pe_op op_add pe_int (pe_op op_mod (pe_callTy call_int1 (by rfl) T.int boot_int (pa_cons (pe_callB call_abs (by rfl) mabs boot_abs (pa_cons (pe_call GC hr2 (by rfl) DC.g DC.F.kp DC.b .nil pass0 (pa_cons (pv 0) (pa_cons (pv 1) pa_nil))) pa_nil)) pa_nil)) (pe_op op_pow pe_int pe_int)))
          (pa_cons (pe_op op_sub (pe_op op_pow pe_int pe_int) pe_int) pa_nil))) (pe_call GT hr1 (by rfl) T.gT T.FT.kp T.bT .nil pass0 (pa_cons (pv 1) (pa_cons pe_int pa_nil))) (fun _ _ => rfl)))
      (pss_cons (ps_set (i := 3) scLaw.nd rfl (.inl rfl) (pe_call GSc hr2 (by rfl) DSc.g DSc.F.kp DSc.b .nil pass0 (pa_cons (pv 1) pa_nil)))
      (pss_cons (ps_set (i := 4) scLaw.nd rfl (.inl rfl) (pe_call GB hr5 (by rfl) DB.g DB.F.kp DB.b .nil pass0 (pa_cons (pv 1) (pa_cons (pv 3) (pa_cons pe_int pa_nil)))))
      (C8.pss_cut (ps_if (pt_cmpR op_eq (pe_call GT hr1 (by rfl) T.gT T.FT.kp T.bT .nil pass0 (pa_cons (pv 1) (pa_cons pe_int pa_nil))) pe_int (nomark _))
          (pss_one (ps_set (i := 4) scLaw.nd rfl (.inl rfl) (pe_ix ix_list (pe_call GLa hr (by rfl) DLa.g DLa.F.kp DLa.b .nil pass0 (pa_cons (pv 1) pa_nil)) pe_int (fun _ _ => rfl)))) pss_nil)
      (C8.pss_cut (ps_set (i := 4) scLaw.nd rfl (.inl rfl) (pe_op op_catA (pv 4) (pe_tup (pa_cons
          (pe_tup (pa_cons pe_str (pa_cons (pv 2) (pa_cons (pe_tup (pa_cons (pv 2) pa_nil)) (pa_cons (pe_tup (pa_cons (pv 2) (pa_cons (pe_op op_add (pv 2) pe_int) pa_nil))) pa_nil)))))
          (pa_cons (pe_tup (pa_cons pe_str (pa_cons (pe_op op_add (pv 2) pe_int) (pa_cons (pe_tup (pa_cons (pv 2) (pa_cons pe_int pa_nil))) (pa_cons (pv 2) (pa_cons (pe_tup (pa_cons pe_int (pa_cons (pv 2) pa_nil))) pa_nil)))))) pa_nil)))))
      (pss_cons (ps_set (i := 5) scLaw.nd rfl (.inl rfl) (pe_call GW hr3 (by rfl) PW1.g PW1.F.kp PW1.b .nil pass0 (pa_cons (pv 4) pa_nil)))
      (pss_cons (ps_if (PW.pt (pw_or (pt_not (pt_val (pe_callB call_isi (by rfl) misi boot_isinstance (pa_cons (pv 5) (pa_cons (pe_bltn (v := .ty "str") (by rfl) mstr boot_str rfl) pa_nil)))))
          (pw_or1 (pt_cmpR op_ne (pv 5) (pe_join pe_str (pe_lc (own := [("line_of", 6)]) (g := gName 6) (by rfl) scLaw.nd (pi_list (pe_call GLi hr2 (by rfl) DLi.g DLi.F.kp DLi.b .nil pass0 (pa_cons (pv 4) pa_nil)))
              (blkOk_by (N := nLaw) (sc := defScope sLaw) (by decide +kernel)) (fun _ _ _ _ _ => pg_name (i := 6) scLaw.nd rfl (Or.inl rfl)) (fun _ _ _ _ _ => pts_nil) (fun _ _ _ _ _ => pe_op op_add_str (pv 6) pe_str))) (nomark _)))))
          (pss_one (ps_ret pe_bl)) pss_nil)
      (pss_one (ps_ret (pe_and (pe_cmpR op_eq (pe_call GW hr3 (by rfl) PW1.g PW1.F.kp PW1.b .nil pass0 (pa_cons (pe_tup pa_nil) pa_nil)) pe_str (nomark _))
          (pe_one (pe_cmpR op_eq (pe_call GW hr3 (by rfl) PW1.g PW1.F.kp PW1.b .nil pass0 (pa_cons (pe_tup (pa_cons (pe_tup (pa_cons pe_str (pa_cons pe_int (pa_cons (pe_tup pa_nil) (pa_cons (pe_tup pa_nil) pa_nil))))) pa_nil)) pa_nil)) pe_str (nomark _))))))))))))), ?_⟩
    -- draws
    refine ⟨.ref a, rfl, a, ns, 1200, rfl, hS, hlen, by decide, by decide, fun H1 d s1 nd D1 => ?_⟩
    have sc1 : Scr K H1 d a (ns.map V.int) := Scr.of s1 nd hS
    -- far
    refine ⟨.ref a, rfl, .ref d, rfl, a, d, ns, rfl, sc1, D1, fun H2 z g2 => ⟨z, rfl, .inl ⟨_, rfl, 10, 59, rfl, rfl, ⟨by decide, by decide, by decide⟩, _, _, rfl, rfl, ?_, _, _, rfl, rfl, 10, 60, rfl, rfl, ⟨by decide, by decide, by decide⟩, _, _, rfl, rfl, by show 2 ≤ sizeLine; decide, fun l nl => ?_⟩⟩⟩
    · show (0 : Int) < 10 ^ 59
      decide
    have nld : l ≠ d := (g2.dr.ne nl).symm
    refine ⟨.ref d, rfl, d, 2, rfl, by decide, (g2.new nl).dr, fun H3 c g3 c0 c1 => ?_⟩
    have el : H3 l = some (.lst [V.int (12 + (if z < 0 then -z else z) % 10 ^ 59), V.int (10 ^ 60 - 2)]) := g3.keep upd_same nld
    have hf : ∃ far : Int, 12 ≤ far ∧ far ≤ 10 ^ 60 ∧ atI [V.int (12 + (if z < 0 then -z else z) % 10 ^ 59), V.int (10 ^ 60 - 2)] c = some (.int far) := by
      have h : c = 0 ∨ c = 1 := by omega
      rcases h with rfl | rfl
      · refine ⟨12 + (if z < 0 then -z else z) % 10 ^ 59, ?_, ?_, atI_nat (j := 0) rfl⟩
        · have := Int.emod_nonneg (if z < 0 then -z else z) (show (10 ^ 59 : Int) ≠ 0 by decide)
          omega
        · have := Int.emod_lt_of_pos (if z < 0 then -z else z) (show (0 : Int) < 10 ^ 59 by decide)
          omega
      · exact ⟨10 ^ 60 - 2, by decide, by decide, atI_nat (j := 1) rfl⟩
    obtain ⟨far, f0, f1, ef⟩ := hf
    refine ⟨l, _, c, .int far, rfl, rfl, SqL.of el, ef, ?_⟩
    have D3 := g3.dr
    -- the scheme, the book
    refine ⟨.ref d, rfl, d, rfl, D3, fun H4 sc ws g4 nsc esc hw hwl => ?_⟩
    refine ⟨.ref d, rfl, .ref sc, rfl, d, sc, ws, 6, rfl, SqT.of esc, ⟨hw.1, hw.2.1, fun x hx => ⟨(hw.2.2 x hx).1, by have := (hw.2.2 x hx).2; omega⟩⟩, by decide, by decide, g4.dr, fun H5 p b g5 np im hl hb => ?_⟩
    refine ⟨fun σ H6 => ∃ (p : Addr) (b : List Dep), σ = [some (.ref a), some (.ref d), some (.int far), some (.ref sc), some (.ref p), none, none] ∧ Im K H6 (.ref p) (bookD b) ∧ b.length ≤ 40 ∧ ∀ e ∈ b, e.Sm, ?_, fun σ H6 hM => ?_⟩
    · refine ⟨.ref d, rfl, d, 6, rfl, by decide, g5.dr, fun H6 c g6 _ _ => ⟨rfl, _, rfl, ite2 (fun _ => ?_) (fun _ => ?_)⟩⟩
      · refine ⟨.ref d, rfl, d, rfl, g6.dr, fun H7 x s7 b7 e7 g7 _ ex im7 hl7 hb7 => ?_⟩
        exact ⟨x, _, 1, .ref b7, rfl, rfl, SqL.of ex, atI_nat (j := 1) rfl, b7, e7, rfl, im7, hl7, hb7⟩
      · exact ⟨p, b, rfl, im.go g6 g5.dr, hl, hb⟩
    · obtain ⟨p, b, rfl, im, hl, hb⟩ := hM
      refine ⟨fun σ H7 => ∃ (p : Addr) (b : List Dep), σ = [some (.ref a), some (.ref d), some (.int far), some (.ref sc), some (.ref p), none, none] ∧ Im K H7 (.ref p) (bookD b) ∧ b.length ≤ 45 ∧ ∀ e ∈ b, e.Sm, ?_, fun σ H7 hM => ?_⟩
      · refine ⟨.ref p, rfl, .int far, rfl, .int far, rfl, by show 1 ≤ sizeLine; decide, fun t1 n1 => ⟨.int far, rfl, .int far, rfl, _, _, rfl, rfl, by show 2 ≤ sizeLine; decide, fun t2 n2 => ⟨by show 4 ≤ sizeLine; decide, fun t3 n3 => ?_⟩⟩⟩
        refine ⟨.int far, rfl, _, _, rfl, rfl, .int far, rfl, by show 2 ≤ sizeLine; decide, fun t4 n4 => ⟨.int far, rfl, .int far, rfl, by show 2 ≤ sizeLine; decide, fun t5 n5 => ⟨by show 5 ≤ sizeLine; decide, fun t6 n6 => ⟨by show 2 ≤ sizeLine; decide, fun t7 n7 => ?_⟩⟩⟩⟩
        have s1 := same_upd (o := HO.tup [V.int far]) n1
        have s2 := same_upd (o := HO.tup [V.int far, V.int (far + 1)]) n2
        have s3 := same_upd (o := HO.tup [.str (Str.ofString "deals"), V.int far, .ref t1, .ref t2]) n3
        have s4 := same_upd (o := HO.tup [V.int far, V.int 0]) n4
        have s5 := same_upd (o := HO.tup [V.int 1, V.int far]) n5
        have s6 := same_upd (o := HO.tup [.str (Str.ofString "within"), V.int (far + 1), .ref t4, .int far, .ref t5]) n6
        have s7 := same_upd (o := HO.tup [.ref t3, .ref t6]) n7
        have s67 := s6.trans s7
        have s57 := s5.trans s67
        have s47 := s4.trans s57
        have s37 := s3.trans s47
        have s27 := s2.trans s37
        have s17 := s1.trans s27
        have im1 := (Dep.two true far [far] [far, far + 1])
        have i1 : Im K _ (.ref t3) (Dep.two true far [far] [far, far + 1]).data :=
          .tup (SqT.of (s47 _ _ upd_same)) (.cons (.str _) (.cons (.int _) (.cons (Im.ints (l := [far]) (SqT.of (s27 _ _ upd_same))) (.cons (Im.ints (l := [far, far + 1]) (SqT.of (s37 _ _ upd_same))) .nil))))
        have i2 : Im K _ (.ref t6) (Dep.within (far + 1) [far, 0] far [1, far]).data :=
          .tup (SqT.of (s7 _ _ upd_same)) (.cons (.str _) (.cons (.int _) (.cons (Im.ints (l := [far, 0]) (SqT.of (s57 _ _ upd_same))) (.cons (.int _) (.cons (Im.ints (l := [1, far]) (SqT.of (s67 _ _ upd_same))) .nil)))))
        have sf : Sm far := ⟨by omega, by omega⟩
        have sf1 : Sm (far + 1) := ⟨by omega, by omega⟩
        have hb2 : ∀ e ∈ b ++ [Dep.two true far [far] [far, far + 1], Dep.within (far + 1) [far, 0] far [1, far]], e.Sm := by
          intro e he
          rcases List.mem_append.mp he with he | he
          · exact hb e he
          · rcases List.mem_cons.mp he with rfl | he
            · refine ⟨sf, ⟨(by show 1 ≤ 30; decide), fun i hi => ?_⟩, ⟨(by show 2 ≤ 30; decide), fun i hi => ?_⟩⟩
              · rw [List.mem_singleton.mp hi]
                exact sf
              · rcases List.mem_cons.mp hi with rfl | hi
                · exact sf
                · rw [List.mem_singleton.mp hi]
                  exact sf1
            · rw [List.mem_singleton.mp he]
              refine ⟨sf1, ⟨(by show 2 ≤ 30; decide), fun i hi => ?_⟩, sf, ⟨(by show 2 ≤ 30; decide), fun i hi => ?_⟩⟩
              · rcases List.mem_cons.mp hi with rfl | hi
                · exact sf
                · rw [List.mem_singleton.mp hi]
                  exact sm_of (by decide) (by decide)
              · rcases List.mem_cons.mp hi with rfl | hi
                · exact sm_of (by decide) (by decide)
                · rw [List.mem_singleton.mp hi]
                  exact sf
        have hl2 : (b ++ [Dep.two true far [far] [far, far + 1], Dep.within (far + 1) [far, 0] far [1, far]]).length ≤ 45 := by
          rw [List.length_append]
          show b.length + 2 ≤ 45
          omega
        cases im with
        | tup hT hI =>
          rename_i xs
          have hlv := hI.length
          rw [List.length_map] at hlv
          refine ⟨p, t7, xs, [.ref t3, .ref t6], rfl, rfl, SqT.same s17 hT, SqT.of upd_same, Nat.le_trans (show xs.length + 2 ≤ 45 by omega) (by decide), fun e => ?_, fun _ e => (by cases e), fun _ _ p8 n8 => ?_⟩
          · subst e
            have eb : b = [] := List.eq_nil_of_length_eq_zero (by rw [← hlv]; rfl)
            subst eb
            exact ⟨t7, [] ++ [Dep.two true far [far] [far, far + 1], Dep.within (far + 1) [far, 0] far [1, far]], rfl, .tup (SqT.of upd_same) (by rw [List.nil_append]; exact .cons i1 (.cons i2 .nil)), hl2, hb2⟩
          · refine ⟨p8, _, rfl, ?_, hl2, hb2⟩
            have s8 := same_upd (o := HO.tup (xs ++ [.ref t3, .ref t6])) n8
            refine .tup (SqT.of upd_same) ?_
            rw [List.map_append]
            exact ((hI.same s17).same s8).append (.cons (i1.same s8) (.cons (i2.same s8) .nil))
      · obtain ⟨p, b, rfl, im, hl, hb⟩ := hM
        -- actual
        refine ⟨.ref p, rfl, .ref p, b, rfl, im, hl, hb, fun H8 s8 => ?_⟩
        refine ⟨.str (bookS b), rfl, .str (bookS b), .ty "str", .type "str", .type "str", true, rfl, .ty "str", .base (.str _), kit_ty (by decide +kernel), true, rfl, iteF ?_⟩
        refine ⟨.str (bookS b), rfl, ⟨_, rfl⟩, .ref p, rfl, .ref p, b, rfl, im.same s8, hl, hb, fun H9 L s9 nL eL => ⟨L, rfl, ⟨_, SqL.of eL⟩, fun C nC => lc_list (K := K) (a := L) (xs := (b.map lineS).map V.str) (fun i H' => Same H9 H' ∧ H' C = some (.lst (((b.take i).map fun e => lineS e ++ Str.ofString "\n").map V.str)))
          ⟨same_upd nC, upd_same⟩ (fun i H' _ h => SqL.of (h.1 _ _ eL)) (fun i x H' hx hP => ?_) (fun H10 hP => ?_)⟩⟩
        · obtain ⟨sm, eC⟩ := hP
          have hi : i < b.length := by
            obtain ⟨h1, _⟩ := List.getElem?_eq_some_iff.mp hx
            rw [List.length_map, List.length_map] at h1
            exact h1
          have ex : x = .str (lineS b[i]) := by
            rw [List.getElem?_map, List.getElem?_map, List.getElem?_eq_getElem hi] at hx
            exact (Option.some.inj hx).symm
          subst ex
          refine ⟨rfl, yesT ⟨.str (lineS b[i]), rfl, _, _, rfl, rfl, ?_, _, eC, ?_, Same.put sm nC, ?_⟩⟩
          · have := line_len (hb _ (List.getElem_mem hi))
            have e1 : (Str.ofString "\n").length = 1 := by decide
            rw [e1]
            exact Nat.le_trans (show _ ≤ 62001 by omega) (by decide)
          · rw [List.length_map, List.length_map, List.length_take]
            exact small1000 (by omega)
          · rw [upd_same, List.take_add_one, List.getElem?_eq_getElem hi, List.map_append, List.map_append]
            rfl
        · obtain ⟨sm, eC⟩ := hP
          rw [List.length_map, List.length_map, List.take_length] at eC
          refine ⟨_, C, _, rfl, rfl, .inl (SqL.of eC), lines_join hl hb, rfl, _, rfl, iteNS rfl ?_⟩
          refine ⟨Nat.zero_le _, fun t nt => ⟨.ref t, [], rfl, .tup (SqT.of upd_same) .nil, by decide, fun e he => (by cases he), fun H11 s11 => ⟨rfl, _, rfl, ?_⟩⟩⟩
          rw [decide_eq_true (congrArg V.str book0)]
          refine iteT ⟨Nat.zero_le _, fun t1 n1 => ⟨Nat.zero_le _, fun t2 n2 => ⟨by show 4 ≤ sizeLine; decide, fun t3 n3 => ⟨by show 1 ≤ sizeLine; decide, fun t4 n4 => ?_⟩⟩⟩⟩
          have s2 := same_upd (o := HO.tup []) n2
          have s3 := same_upd (o := HO.tup [.str (Str.ofString "deals"), V.int 0, .ref t1, .ref t2]) n3
          have s4 := same_upd (o := HO.tup [.ref t3]) n4
          refine ⟨.ref t4, [.two true 0 [] []], rfl, .tup (SqT.of upd_same) (.cons (.tup (SqT.of (s4 _ _ upd_same)) (.cons (.str _) (.cons (.int _) (.cons (Im.ints (l := []) (SqT.of ((s3.trans s4) _ _ (s2 _ _ upd_same)))) (.cons (Im.ints (l := []) (SqT.of ((s3.trans s4) _ _ upd_same))) .nil))))) .nil), by decide, fun e he => ?_, fun H12 s12 => ⟨rfl, ?_⟩⟩
          · rw [List.mem_singleton.mp he]
            exact ⟨sm_of (by decide) (by decide), ⟨by decide, fun i hi => (by cases hi)⟩, ⟨by decide, fun i hi => (by cases hi)⟩⟩
          · rw [decide_eq_true (congrArg V.str book1)]
            exact q _
end
end NK

namespace NK
open PySem PySem.Spec PyProof.Rows L2
/-! ### what the top has written; the law's own head -/
section
variable {K : PySem.W.Frag} {mg : Str → Option Value}
theorem df_mk {h : Heap} {x : Str} {st : Stmt} {ps : List Str} {f : Addr} {oc : Value} {od an : Option Addr} {osl : Array (Option Value)} {kV doc pm cdv ct : Value} (X : K.In h) (G : h.Ns mainGlobals mg)
    (hb : ∀ (kV doc pm : Value) (an : Option Addr) (cdv ct : Value) (us : List Value), us.length = ps.length → bindArgs (PySem.W.fnOf x x (defArgs st) (defBody st) (defScope st) .none kV doc pm an cdv ct) ⟨us, []⟩ = pure (ps.zip us))
    (a : PySem.W.nsIn K mainGlobals x = some (some (.ref f))) (l : K.lookup f = some ⟨oc, od, .func (PySem.W.fnOf x x (defArgs st) (defBody st) (defScope st) .none kV doc pm an cdv ct), osl⟩)
    (c : PySem.W.codeIn K cdv x = true) (k : PySem.W.keepIn K (.ref f) = true) : Df K mg x st ps f (PySem.W.fnOf x x (defArgs st) (defBody st) (defScope st) .none kV doc pm an cdv ct) :=
  ⟨fun_mk l c k, (fun_mk (st := st) l c k).binds hb, PySem.W.mg_of X G a⟩
end
theorem all_mk {l : PySem.W.OpenLaw} {w : World} {K : PySem.W.Frag} {h : Heap} {mg : Str → Option Value} {fa f1 f2 f3 f4 f5 f6 f7 f8 f9 f10 f11 f12 f13 f14 f15 f16 f17 f18 f19 : Addr} (X : K.In h) (G : h.Ns mainGlobals mg) (hfa : mg "law" = some (.ref fa))
    {od1 an1 od2 an2 od3 an3 od4 an4 od5 an5 od6 an6 od7 an7 od8 an8 od9 an9 od10 an10 od11 an11 od12 an12 od13 an13 od14 an14 od15 an15 od16 an16 od17 an17 od18 an18 od19 an19 : Option Addr}
    {sl1 sl2 sl3 sl4 sl5 sl6 sl7 sl8 sl9 sl10 sl11 sl12 sl13 sl14 sl15 sl16 sl17 sl18 sl19 : Array (Option Value)}
    {oc1 kV1 dc1 pm1 cd1 ct1 oc2 kV2 dc2 pm2 cd2 ct2 oc3 kV3 dc3 pm3 cd3 ct3 oc4 kV4 dc4 pm4 cd4 ct4 oc5 kV5 dc5 pm5 cd5 ct5 oc6 kV6 dc6 pm6 cd6 ct6 oc7 kV7 dc7 pm7 cd7 ct7 oc8 kV8 dc8 pm8 cd8 ct8 oc9 kV9 dc9 pm9 cd9 ct9 oc10 kV10 dc10 pm10 cd10 ct10 oc11 kV11 dc11 pm11 cd11 ct11 oc12 kV12 dc12 pm12 cd12 ct12 oc13 kV13 dc13 pm13 cd13 ct13 oc14 kV14 dc14 pm14 cd14 ct14 oc15 kV15 dc15 pm15 cd15 ct15 oc16 kV16 dc16 pm16 cd16 ct16 oc17 kV17 dc17 pm17 cd17 ct17 oc18 kV18 dc18 pm18 cd18 ct18 oc19 kV19 dc19 pm19 cd19 ct19 : Value}
    (a1 : PySem.W.nsIn K mainGlobals "write_book" = some (some (.ref f1))) (l1 : K.lookup f1 = some ⟨oc1, od1, .func (PySem.W.fnOf "write_book" "write_book" (defArgs sWrite) (defBody sWrite) (defScope sWrite) .none kV1 dc1 pm1 an1 cd1 ct1), sl1⟩) (c1 : PySem.W.codeIn K cd1 "write_book" = true) (k1 : PySem.W.keepIn K (.ref f1) = true)
    (a2 : PySem.W.nsIn K mainGlobals "dependency_words" = some (some (.ref f2))) (l2 : K.lookup f2 = some ⟨oc2, od2, .func (PySem.W.fnOf "dependency_words" "dependency_words" (defArgs sDepW) (defBody sDepW) (defScope sDepW) .none kV2 dc2 pm2 an2 cd2 ct2), sl2⟩) (c2 : PySem.W.codeIn K cd2 "dependency_words" = true) (k2 : PySem.W.keepIn K (.ref f2) = true)
    (a3 : PySem.W.nsIn K mainGlobals "number_words" = some (some (.ref f3))) (l3 : K.lookup f3 = some ⟨oc3, od3, .func (PySem.W.fnOf "number_words" "number_words" (defArgs sNumW) (defBody sNumW) (defScope sNumW) .none kV3 dc3 pm3 an3 cd3 ct3), sl3⟩) (c3 : PySem.W.codeIn K cd3 "number_words" = true) (k3 : PySem.W.keepIn K (.ref f3) = true)
    (a4 : PySem.W.nsIn K mainGlobals "_law_draws" = some (some (.ref f4))) (l4 : K.lookup f4 = some ⟨oc4, od4, .func (PySem.W.fnOf "_law_draws" "_law_draws" (defArgs sDraws) (defBody sDraws) (defScope sDraws) .none kV4 dc4 pm4 an4 cd4 ct4), sl4⟩) (c4 : PySem.W.codeIn K cd4 "_law_draws" = true) (k4 : PySem.W.keepIn K (.ref f4) = true)
    (a5 : PySem.W.nsIn K mainGlobals "_law_take" = some (some (.ref f5))) (l5 : K.lookup f5 = some ⟨oc5, od5, .func (PySem.W.fnOf "_law_take" "_law_take" (defArgs sTake) (defBody sTake) (defScope sTake) .none kV5 dc5 pm5 an5 cd5 ct5), sl5⟩) (c5 : PySem.W.codeIn K cd5 "_law_take" = true) (k5 : PySem.W.keepIn K (.ref f5) = true)
    (a6 : PySem.W.nsIn K mainGlobals "_law_cell" = some (some (.ref f6))) (l6 : K.lookup f6 = some ⟨oc6, od6, .func (PySem.W.fnOf "_law_cell" "_law_cell" (defArgs sCell) (defBody sCell) (defScope sCell) .none kV6 dc6 pm6 an6 cd6 ct6), sl6⟩) (c6 : PySem.W.codeIn K cd6 "_law_cell" = true) (k6 : PySem.W.keepIn K (.ref f6) = true)
    (a7 : PySem.W.nsIn K mainGlobals "_law_shuffled" = some (some (.ref f7))) (l7 : K.lookup f7 = some ⟨oc7, od7, .func (PySem.W.fnOf "_law_shuffled" "_law_shuffled" (defArgs sShuf) (defBody sShuf) (defScope sShuf) .none kV7 dc7 pm7 an7 cd7 ct7), sl7⟩) (c7 : PySem.W.codeIn K cd7 "_law_shuffled" = true) (k7 : PySem.W.keepIn K (.ref f7) = true)
    (a8 : PySem.W.nsIn K mainGlobals "_law_columns" = some (some (.ref f8))) (l8 : K.lookup f8 = some ⟨oc8, od8, .func (PySem.W.fnOf "_law_columns" "_law_columns" (defArgs sCols) (defBody sCols) (defScope sCols) .none kV8 dc8 pm8 an8 cd8 ct8), sl8⟩) (c8 : PySem.W.codeIn K cd8 "_law_columns" = true) (k8 : PySem.W.keepIn K (.ref f8) = true)
    (a9 : PySem.W.nsIn K mainGlobals "_law_scheme" = some (some (.ref f9))) (l9 : K.lookup f9 = some ⟨oc9, od9, .func (PySem.W.fnOf "_law_scheme" "_law_scheme" (defArgs sScheme) (defBody sScheme) (defScope sScheme) .none kV9 dc9 pm9 an9 cd9 ct9), sl9⟩) (c9 : PySem.W.codeIn K cd9 "_law_scheme" = true) (k9 : PySem.W.keepIn K (.ref f9) = true)
    (a10 : PySem.W.nsIn K mainGlobals "_law_parts" = some (some (.ref f10))) (l10 : K.lookup f10 = some ⟨oc10, od10, .func (PySem.W.fnOf "_law_parts" "_law_parts" (defArgs sParts) (defBody sParts) (defScope sParts) .none kV10 dc10 pm10 an10 cd10 ct10), sl10⟩) (c10 : PySem.W.codeIn K cd10 "_law_parts" = true) (k10 : PySem.W.keepIn K (.ref f10) = true)
    (a11 : PySem.W.nsIn K mainGlobals "_law_inclusion" = some (some (.ref f11))) (l11 : K.lookup f11 = some ⟨oc11, od11, .func (PySem.W.fnOf "_law_inclusion" "_law_inclusion" (defArgs sIncl) (defBody sIncl) (defScope sIncl) .none kV11 dc11 pm11 an11 cd11 ct11), sl11⟩) (c11 : PySem.W.codeIn K cd11 "_law_inclusion" = true) (k11 : PySem.W.keepIn K (.ref f11) = true)
    (a12 : PySem.W.nsIn K mainGlobals "_law_dependency" = some (some (.ref f12))) (l12 : K.lookup f12 = some ⟨oc12, od12, .func (PySem.W.fnOf "_law_dependency" "_law_dependency" (defArgs sDep) (defBody sDep) (defScope sDep) .none kV12 dc12 pm12 an12 cd12 ct12), sl12⟩) (c12 : PySem.W.codeIn K cd12 "_law_dependency" = true) (k12 : PySem.W.keepIn K (.ref f12) = true)
    (a13 : PySem.W.nsIn K mainGlobals "_law_order" = some (some (.ref f13))) (l13 : K.lookup f13 = some ⟨oc13, od13, .func (PySem.W.fnOf "_law_order" "_law_order" (defArgs sOrder) (defBody sOrder) (defScope sOrder) .none kV13 dc13 pm13 an13 cd13 ct13), sl13⟩) (c13 : PySem.W.codeIn K cd13 "_law_order" = true) (k13 : PySem.W.keepIn K (.ref f13) = true)
    (a14 : PySem.W.nsIn K mainGlobals "_law_book" = some (some (.ref f14))) (l14 : K.lookup f14 = some ⟨oc14, od14, .func (PySem.W.fnOf "_law_book" "_law_book" (defArgs sBook) (defBody sBook) (defScope sBook) .none kV14 dc14 pm14 an14 cd14 ct14), sl14⟩) (c14 : PySem.W.codeIn K cd14 "_law_book" = true) (k14 : PySem.W.keepIn K (.ref f14) = true)
    (a15 : PySem.W.nsIn K mainGlobals "_law_words" = some (some (.ref f15))) (l15 : K.lookup f15 = some ⟨oc15, od15, .func (PySem.W.fnOf "_law_words" "_law_words" (defArgs sWords) (defBody sWords) (defScope sWords) .none kV15 dc15 pm15 an15 cd15 ct15), sl15⟩) (c15 : PySem.W.codeIn K cd15 "_law_words" = true) (k15 : PySem.W.keepIn K (.ref f15) = true)
    (a16 : PySem.W.nsIn K mainGlobals "_law_lines" = some (some (.ref f16))) (l16 : K.lookup f16 = some ⟨oc16, od16, .func (PySem.W.fnOf "_law_lines" "_law_lines" (defArgs sLines) (defBody sLines) (defScope sLines) .none kV16 dc16 pm16 an16 cd16 ct16), sl16⟩) (c16 : PySem.W.codeIn K cd16 "_law_lines" = true) (k16 : PySem.W.keepIn K (.ref f16) = true)
    (a17 : PySem.W.nsIn K mainGlobals "_law_large" = some (some (.ref f17))) (l17 : K.lookup f17 = some ⟨oc17, od17, .func (PySem.W.fnOf "_law_large" "_law_large" (defArgs sLarge) (defBody sLarge) (defScope sLarge) .none kV17 dc17 pm17 an17 cd17 ct17), sl17⟩) (c17 : PySem.W.codeIn K cd17 "_law_large" = true) (k17 : PySem.W.keepIn K (.ref f17) = true)
    (a18 : PySem.W.nsIn K mainGlobals "text_of" = some (some (.ref f18))) (l18 : K.lookup f18 = some ⟨oc18, od18, .func (PySem.W.fnOf "text_of" "text_of" (defArgs sText) (defBody sText) (defScope sText) .none kV18 dc18 pm18 an18 cd18 ct18), sl18⟩) (c18 : PySem.W.codeIn K cd18 "text_of" = true) (k18 : PySem.W.keepIn K (.ref f18) = true)
    (a19 : PySem.W.nsIn K mainGlobals "law" = some (some (.ref f19))) (l19 : K.lookup f19 = some ⟨oc19, od19, .func (PySem.W.fnOf "law" "law" (defArgs sLaw) (defBody sLaw) (defScope sLaw) .none kV19 dc19 pm19 an19 cd19 ct19), sl19⟩) (c19 : PySem.W.codeIn K cd19 "law" = true) (k19 : PySem.W.keepIn K (.ref f19) = true)
    (z1 : PySem.W.nsIn K mainGlobals "len" = some none)
    (z2 : PySem.W.nsIn K mainGlobals "int" = some none)
    (z3 : PySem.W.nsIn K mainGlobals "range" = some none)
    (z4 : PySem.W.nsIn K mainGlobals "tuple" = some none)
    (z5 : PySem.W.nsIn K mainGlobals "list" = some none)
    (z6 : PySem.W.nsIn K mainGlobals "sorted" = some none)
    (z7 : PySem.W.nsIn K mainGlobals "min" = some none)
    (z8 : PySem.W.nsIn K mainGlobals "str" = some none)
    (z9 : PySem.W.nsIn K mainGlobals "abs" = some none)
    (z10 : PySem.W.nsIn K mainGlobals "isinstance" = some none) :
    ∃ fd : FuncData, (∀ (s : Shared) (v : Value), BindsTo s fd ⟨[v], []⟩ [("script", v)]) ∧ ∀ base : Heap, K.In base → base.Ns mainGlobals mg → FnOk l.prog w K mg base CX0 7 fa fd ["script"] (spLaw K) := by
  have e := hfa.symm.trans (PySem.W.mg_of X G a19)
  cases e
  have D1 := df_mk (st := sWrite) (ps := ["book"]) X G (fun _ _ _ _ _ _ us hl => match us, hl with | [_], _ => rfl) a1 l1 c1 k1
  have D2 := df_mk (st := sDepW) (ps := ["dependency"]) X G (fun _ _ _ _ _ _ us hl => match us, hl with | [_], _ => rfl) a2 l2 c2 k2
  have D3 := df_mk (st := sNumW) (ps := ["numbers"]) X G (fun _ _ _ _ _ _ us hl => match us, hl with | [_], _ => rfl) a3 l3 c3 k3
  have D4 := df_mk (st := sDraws) (ps := ["script", "many"]) X G (fun _ _ _ _ _ _ us hl => match us, hl with | [_, _], _ => rfl) a4 l4 c4 k4
  have D5 := df_mk (st := sTake) (ps := ["draws", "many"]) X G (fun _ _ _ _ _ _ us hl => match us, hl with | [_, _], _ => rfl) a5 l5 c5 k5
  have D6 := df_mk (st := sCell) (ps := ["script", "draws"]) X G (fun _ _ _ _ _ _ us hl => match us, hl with | [_, _], _ => rfl) a6 l6 c6 k6
  have D7 := df_mk (st := sShuf) (ps := ["draws", "row"]) X G (fun _ _ _ _ _ _ us hl => match us, hl with | [_, _], _ => rfl) a7 l7 c7 k7
  have D8 := df_mk (st := sCols) (ps := ["draws", "width"]) X G (fun _ _ _ _ _ _ us hl => match us, hl with | [_, _], _ => rfl) a8 l8 c8 k8
  have D9 := df_mk (st := sScheme) (ps := ["draws"]) X G (fun _ _ _ _ _ _ us hl => match us, hl with | [_], _ => rfl) a9 l9 c9 k9
  have D10 := df_mk (st := sParts) (ps := ["draws", "width", "most"]) X G (fun _ _ _ _ _ _ us hl => match us, hl with | [_, _, _], _ => rfl) a10 l10 c10 k10
  have D11 := df_mk (st := sIncl) (ps := ["draws", "scheme", "order"]) X G (fun _ _ _ _ _ _ us hl => match us, hl with | [_, _, _], _ => rfl) a11 l11 c11 k11
  have D12 := df_mk (st := sDep) (ps := ["draws", "scheme", "order"]) X G (fun _ _ _ _ _ _ us hl => match us, hl with | [_, _, _], _ => rfl) a12 l12 c12 k12
  have D13 := df_mk (st := sOrder) (ps := ["draws", "scheme"]) X G (fun _ _ _ _ _ _ us hl => match us, hl with | [_, _], _ => rfl) a13 l13 c13 k13
  have D14 := df_mk (st := sBook) (ps := ["draws", "scheme", "most"]) X G (fun _ _ _ _ _ _ us hl => match us, hl with | [_, _, _], _ => rfl) a14 l14 c14 k14
  have D15 := df_mk (st := sWords) (ps := ["dependency"]) X G (fun _ _ _ _ _ _ us hl => match us, hl with | [_], _ => rfl) a15 l15 c15 k15
  have D16 := df_mk (st := sLines) (ps := ["book"]) X G (fun _ _ _ _ _ _ us hl => match us, hl with | [_], _ => rfl) a16 l16 c16 k16
  have D17 := df_mk (st := sLarge) (ps := ["draws"]) X G (fun _ _ _ _ _ _ us hl => match us, hl with | [_], _ => rfl) a17 l17 c17 k17
  have D18 := df_mk (st := sText) (ps := ["lines"]) X G (fun _ _ _ _ _ _ us hl => match us, hl with | [_], _ => rfl) a18 l18 c18 k18
  have D19 := df_mk (st := sLaw) (ps := ["script"]) X G (fun _ _ _ _ _ _ us hl => match us, hl with | [_], _ => rfl) a19 l19 c19 k19
  have N1 := PySem.W.mg_none_of X G z1
  have N2 := PySem.W.mg_none_of X G z2
  have N3 := PySem.W.mg_none_of X G z3
  have N4 := PySem.W.mg_none_of X G z4
  have N5 := PySem.W.mg_none_of X G z5
  have N6 := PySem.W.mg_none_of X G z6
  have N7 := PySem.W.mg_none_of X G z7
  have N8 := PySem.W.mg_none_of X G z8
  have N9 := PySem.W.mg_none_of X G z9
  have N10 := PySem.W.mg_none_of X G z10
  exact ⟨PySem.W.fnOf "law" "law" (defArgs sLaw) (defBody sLaw) (defScope sLaw) .none kV19 dc19 pm19 an19 cd19 ct19, fun s v => .of_eq rfl, fun base _ _ => ok_law D19.F ⟨D5.F, D5.b, D5.g, N1, N2, N3, N4, N5, N6, N7⟩ D4 D6 D7 D8 D9 D10 D11 D12 D13 D14 D15 D16 D17 D1 D2 D3 D18 N8 N9 N10⟩
end NK
open PySem PySem.W PyProof.Rows
set_option maxHeartbeats 0 in
theorem PySem.Challenge.cw_norowstray_k05_written_books_holds : PySem.Challenge.rw_norowstray_k05_written_books.Holds := by
  w_on; o_law; k_head; (case hw => w_witness2)
  k_fill
  refine L2.walk_of (l := PySem.Challenge.rw_norowstray_k05_written_books) (n := 63) (k := 7) (x := "script") (CX := fun _ => L2.CX0) (sp := fun w => NK.spLaw _) rfl (by decide) rfl ⟨rfl, by decide, by decide⟩ (fun w h Y => PySem.W.kIn_of Y) ?F (fun _ _ a ns hl _ hS => ⟨a, ns, rfl, hS, hl, fun _ => rfl⟩) (fun _ _ _ _ _ h => h)
  case F =>
    intro w mg fa h KX G hmg
    refine' NK.all_mk KX G hmg ?a1 ?l1 ?c1 ?k1 ?a2 ?l2 ?c2 ?k2 ?a3 ?l3 ?c3 ?k3 ?a4 ?l4 ?c4 ?k4 ?a5 ?l5 ?c5 ?k5 ?a6 ?l6 ?c6 ?k6 ?a7 ?l7 ?c7 ?k7 ?a8 ?l8 ?c8 ?k8 ?a9 ?l9 ?c9 ?k9 ?a10 ?l10 ?c10 ?k10 ?a11 ?l11 ?c11 ?k11 ?a12 ?l12 ?c12 ?k12 ?a13 ?l13 ?c13 ?k13 ?a14 ?l14 ?c14 ?k14 ?a15 ?l15 ?c15 ?k15 ?a16 ?l16 ?c16 ?k16 ?a17 ?l17 ?c17 ?k17 ?a18 ?l18 ?c18 ?k18 ?a19 ?l19 ?c19 ?k19 ?z1 ?z2 ?z3 ?z4 ?z5 ?z6 ?z7 ?z8 ?z9 ?z10
    (case a1 => k_is); (case l1 => k_is); (case c1 => k_is); (case k1 => k_is); (case a2 => k_is); (case l2 => k_is); (case c2 => k_is); (case k2 => k_is); (case a3 => k_is); (case l3 => k_is); (case c3 => k_is); (case k3 => k_is); (case a4 => k_is); (case l4 => k_is); (case c4 => k_is); (case k4 => k_is); (case a5 => k_is); (case l5 => k_is); (case c5 => k_is); (case k5 => k_is); (case a6 => k_is); (case l6 => k_is); (case c6 => k_is); (case k6 => k_is); (case a7 => k_is); (case l7 => k_is); (case c7 => k_is); (case k7 => k_is); (case a8 => k_is); (case l8 => k_is); (case c8 => k_is); (case k8 => k_is); (case a9 => k_is); (case l9 => k_is); (case c9 => k_is); (case k9 => k_is); (case a10 => k_is); (case l10 => k_is); (case c10 => k_is); (case k10 => k_is); (case a11 => k_is); (case l11 => k_is); (case c11 => k_is); (case k11 => k_is); (case a12 => k_is); (case l12 => k_is); (case c12 => k_is); (case k12 => k_is); (case a13 => k_is); (case l13 => k_is); (case c13 => k_is); (case k13 => k_is); (case a14 => k_is); (case l14 => k_is); (case c14 => k_is); (case k14 => k_is); (case a15 => k_is); (case l15 => k_is); (case c15 => k_is); (case k15 => k_is); (case a16 => k_is); (case l16 => k_is); (case c16 => k_is); (case k16 => k_is); (case a17 => k_is); (case l17 => k_is); (case c17 => k_is); (case k17 => k_is); (case a18 => k_is); (case l18 => k_is); (case c18 => k_is); (case k18 => k_is); (case a19 => k_is); (case l19 => k_is); (case c19 => k_is); (case k19 => k_is); (case z1 => k_is); (case z2 => k_is); (case z3 => k_is); (case z4 => k_is); (case z5 => k_is); (case z6 => k_is); (case z7 => k_is); (case z8 => k_is); (case z9 => k_is); (case z10 => k_is)

