import PyProof.Rows.All
import HandS.ForMost
import HandS.Set
import HandS.SetFor
import HandS.SetTxt0
import HandS.Strs
import KE.SortData
import KE.SortLaws
import KE.SortKeyHeap
import KE.SortUse
import Wide.All
import OpenK.AllK
import Wide.FinOn
import HandS.Wide
import HandS.Flow
import PySem.Challenge.RW_mendnumber_k05_changes_told
import HandS.IsInst
import HandS.StrMore
import HandS.Walk
import HandS.MakeKwOnly
import HandS.ClsMeth
import HandS.DictComp
import HandS.Conv
import HandS.Iter
import HandS.Dict
import KE.KDictWalk
import HandS.More
import PyProof.Rows.SortStr
import KE.KDictSum
import HandS.Defaults
import HandS.Property
import HandS.Small
import HandS.DictTup
import HandS.OwnEq
import KE.KCallOwn
import KE.KFmtOwn
import PyProof.InstNe
import PyProof.FactsAll.enumerate_1
import OpenK.KMeth
import PyProof.P3In
import HandS.Exc
import HandS.ExcOwn
import HandS.WordsExc
import HandS.DictEq
import KE.KDictList
import KE.KDictCopyH
import KE.KItemsList
import KE.DataMinMax
import HandS.Sort
import HandS.FStr
import HandS.TupLen
import KE.KDictPairs
import PyProof.ListStr
import HandS.Deep
import KE.KDictDisplayH
import PyProof.DictTable
import HandS.Text
import HandS.TryOnly
import HandS.Style
import KE.KRevSl
import HandS.Zip
import KE.GoesMore
import KE.GoesEnum
import HandS.Lambda
import HandS.TryMany
import PyProof.StrLawsRepr
import HandS.EndBits
import KE.KNest
set_option Elab.async false
set_option linter.all false
set_option maxRecDepth 100000
set_option maxHeartbeats 4000000
namespace Mk
open PySem PySem.Spec PyProof.Rows L2 PySem.Froz

/-- the table of a payload can be walked -/
def Wk (w : World) (D : SD) : Prop := Ris D.2.2.place.toList ∧ (w.params.followText "set-order" = true ∨ D.2.2.led = true)
/-- the payload holds just the unlike texts l, and can be walked -/
structure Tx (P : Program) (w : World) (D : SD) (l : List Str) : Prop where
  ok : TxOk P w D l
  wk : Wk w D
  nd : l.Nodup

section
variable {P : Program} {w : World} {A : Around} {E : Value → Shared → Prop} {s : Shared}
theorem plain_wk {t : SetTable} (h : Ris t.place.toList ∧ (w.params.followText "set-order" = true ∨ t.led = true)) :
    Ris (if t.plain = true then { t with plain := false } else t).place.toList ∧ (w.params.followText "set-order" = true ∨ (if t.plain = true then { t with plain := false } else t).led = true) := by
  by_cases c : t.plain = true
  · rw [if_pos c]; exact h
  · rw [if_neg c]; exact h
theorem tail_wk {ep : Nat} {es : Array (Int × Value)} {t : SetTable} {b : Bool} (h : Ris t.place.toList ∧ (w.params.followText "set-order" = true ∨ t.led = true)) : Wk w (tailTx ep es t b) := by
  unfold tailTx
  by_cases c : (!b && t.tooFull) = true
  · rw [if_pos c]
    refine ⟨relayAll_ris t es _, h.2.imp id fun z => ?_⟩
    show (relayAll t es (SetTable.grown es.size)).2.1.led = true
    rw [relayAll_led t es _]
    exact z
  · rw [if_neg c]; exact h
theorem add_wk {D : SD} (h : Int) (v : Value) (k : Wk w D) : Wk w (addTx h v D) := by
  unfold addTx
  refine tail_wk (plain_wk ⟨layNew_ris D.2.2 D.1 h v k.1, k.2.imp id fun z => ?_⟩)
  rw [layNew_led D.2.2 D.1 h v]
  exact z
theorem Tx.add {D : SD} {l : List Str} {k : Str} (u : Tok) (x : Tx P w D l) (hk : k ∉ l) : Tx P w (addTx (hashStr w k) (.str k u) D) (k :: l) :=
  ⟨add_ok u x.ok, add_wk _ _ x.wk, List.nodup_cons.mpr ⟨hk, x.nd⟩⟩

/-- an add of a text that is there -/
theorem dup_x {a : Addr} {T : String} {D : SD} {l : List Str} {k : Str} {u : Tok} {Q : Bool → Shared → Prop} (ho : s.heap.get? a = some (sObj T D)) (x : TxOk P w D l) (hk : k ∈ l) (hb : l.length < scanBound)
    (h : Q false s) : wpAny (model P w) A (setAddHashed a (.str k u) (hashStr w k)) Q E s := by
  obtain ⟨es, ep, t⟩ := D
  have d0 : (sObj T (es, ep, t)).data = .set es ep t := rfl
  have f0 : t.fits es.size = true := x.fit
  have e0 : ElemsOf (PySem.strKind P w) es.toList := x.el
  have z0 : es.size = l.length := x.sz
  have b0 : es.size < scanBound := by omega
  have k0 : (PySem.strKind P w).is k (.str k u) = true := is_str k u
  obtain ⟨e, he, hq⟩ := (x.mem k).mp hk
  unfold setAddHashed setAddHashedIn
  refine wpAny_holding (wpAny_bind (wpAny_setState_of ho d0 f0 ?_))
  dsimp only
  rw [byScan_of rfl b0 e0]
  simp only [↓reduceIte]
  unfold setAddByScan
  refine wpAny_bind (wpAny_bind (wpAny_rule ?_))
  refine wpAny_bind (wpAny_setScan_of (knd := PySem.strKind P w) (k := k) k0 ho d0 f0 e0 ?_)
  cases r : List.findIdx? (fun e => (PySem.strKind P w).is k e.2) es.toList with
  | none =>
    have := List.findIdx?_eq_none_iff.mp r e he
    rw [hq] at this
    cases this
  | some j => exact wpAny_pure (wpAny_pure h)

/-- at a stands the set of just the unlike texts l -/
def SetS (P : Program) (w : World) (h : Heap) (a : Addr) (l : List Str) : Prop := ∃ D : SD, h.get? a = some (sObj "set" D) ∧ Tx P w D l
theorem SetS.at {h h' : Heap} {a : Addr} {l : List Str} (x : SetS P w h a l) (k : ∀ o, h.get? a = some o → h'.get? a = some o) : SetS P w h' a l :=
  let ⟨D, e, t⟩ := x
  ⟨D, k _ e, t⟩
/-- l holds just the first i of xs -/
def Firsts (xs : List Str) (i : Nat) (l : List Str) : Prop := (∀ y, y ∈ l ↔ y ∈ xs.take i) ∧ l.length ≤ i
theorem put_x {a : Addr} {l : List Str} {k : Str} {u : Tok} {Q : Bool → Shared → Prop} (x : SetS P w s.heap a l) (hb : l.length + 1 < scanBound)
    (h : ∀ (b : Bool) (h' : Heap) (l' : List Str), Heap.SameBut a s.heap h' → SetS P w h' a l' → (∀ y, y ∈ l' ↔ y ∈ l ∨ y = k) → l'.length ≤ l.length + 1 → Q b { s with heap := h' }) :
    wpAny (model P w) A (setAddHashed a (.str k u) (hashStr w k)) Q E s := by
  obtain ⟨D, e, t⟩ := x
  by_cases hk : k ∈ l
  · refine dup_x e t.ok hk (by omega) (h false s.heap l (Heap.SameBut.refl a s.heap) ⟨D, e, t⟩ (fun y => ⟨.inl, fun z => z.elim id fun q => q ▸ hk⟩) (Nat.le_succ _))
  · refine add_x e t.ok hk hb (h true _ (k :: l) ?_ ⟨_, ?_, t.add u hk⟩ (fun y => ?_) (by simp))
    · exact Heap.SameBut.update _ _ _
    · exact get_upd _ e rfl
    · rw [List.mem_cons]
      exact Or.comm

theorem grow_x {I : Addr} {fp wr : List Addr} {G : Array GenState → Array GenState → Prop} {n : Nat} {Pv : Nat → Value → Prop} {St : Nat → Shared → Prop} {R : Result → Shared → Prop}
    (W : WalksS P w A.in1 I fp wr G n Pv St) (a : Addr) (ha : a ∉ fp) (xs : List Str) (hn : n = xs.length) (hb : xs.length + 1 < scanBound) (hv : ∀ i v, Pv i v → ∃ y t, xs[i]? = some y ∧ v = .str y t) :
    ∀ (m i : Nat) (s : Shared), n - i = m → i ≤ n → St i s → (∃ l, Firsts xs i l ∧ SetS P w s.heap a l) →
      (∀ s' l, Moved (a :: wr) G s s' → Firsts xs n l → SetS P w s'.heap a l → R (.ok (.ret .none)) s') →
      codeAny (model P w) A (.builtin "set.update.loop" ⟨[.ref a, .ref I], []⟩) R s := by
  have aw : a ∉ wr := fun z => ha (W.sub _ z)
  have more : ∀ b ∈ wr, b ∈ a :: wr := fun b z => List.mem_cons_of_mem _ z
  intro m
  induction m with
  | zero =>
    intro i s hm hi st ⟨l, hf, x⟩ hR
    obtain rfl : i = n := by omega
    refine codeAny_builtin PyProof.Rows.F.entry_set_update_loop ?_
    rw [Around.under_plainId PyProof.Rows.F.plain_set_update_loop _]
    show wpAny _ A.in1 (pyNext (.ref I) >>= _) _ _ s
    refine wpAny_bind (W.done s _ _ st fun s1 mv => wpAny_pure ?_)
    exact hR s1 l (mv.mono more) hf (x.at fun o e => mv.heap a o aw e)
  | succ m ih =>
    intro i s hm hi st ⟨l, hf, x⟩ hR
    have lt : i < n := by omega
    refine codeAny_builtin PyProof.Rows.F.entry_set_update_loop ?_
    rw [Around.under_plainId PyProof.Rows.F.plain_set_update_loop _]
    show wpAny _ A.in1 (pyNext (.ref I) >>= _) _ _ s
    refine wpAny_bind (W.item i s _ _ lt st fun v s1 pv st1 mv => ?_)
    obtain ⟨y, t, hy, rfl⟩ := hv i v pv
    have x1 : SetS P w s1.heap a l := x.at fun o e => mv.heap a o aw e
    show wpAny _ A.in1 (holding [Value.str y t] (setAdd a (.str y t)) >>= _) _ _ s1
    refine wpAny_bind (wpAny_holding ?_)
    unfold setAdd
    refine wpAny_holding (wpAny_bind ((PySem.strKind P w).pyHash (k := y) (is_str y t) ?_))
    refine put_x (s := { s1 with toks := s1.toks + 1 }) x1 (by have := hf.2; omega) fun b h1 l1 sb x2 hm2 hl2 => ?_
    have hf1 : Firsts xs (i + 1) l1 := ⟨fun z => by
      rw [hm2, hf.1, List.take_add_one, hy, List.mem_append]
      simp, by have := hf.2; omega⟩
    refine wpAny_pure ⟨plainId_quiet PyProof.Rows.F.plain_set_update_loop _, ih (i + 1) _ (by omega) lt (W.frame _ s1 _ _ st1 (Nat.le_succ _) fun b hb o e => ?_) ⟨l1, hf1, x2⟩ fun s2 l2 mv2 hf2 x3 => ?_⟩
    · exact (sb.2 b fun z => ha (z ▸ hb)).trans e
    · refine hR s2 l2 (Moved.trans W.gtrans ((mv.mono more).then_heap (Nat.le_succ _) fun b o hb e => ?_) mv2) hf2 x3
      exact (sb.2 b fun z => hb (z ▸ List.mem_cons_self)).trans e

/-- a set just made -/
abbrev ob0 (w : World) : Obj := { cls := .type "set", dict := none, data := .set #[] 0 (.fresh 0 0 (!w.params.followText "set-order")) }
theorem setS_new {h : Heap} {a : Addr} (e : h.get? a = some (ob0 w)) : SetS P w h a [] :=
  ⟨(#[], 0, .fresh 0 0 (!w.params.followText "set-order")), e, TxOk.nil rfl, ⟨List.Pairwise.nil, by
    show _ ∨ (!w.params.followText "set-order") = true
    cases w.params.followText "set-order"
    · exact .inr rfl
    · exact .inl rfl⟩, List.nodup_nil⟩

set_option maxHeartbeats 3200000 in
/-- set(t), t a tuple of texts -/
theorem call_set_tupleX {t : Addr} {items : Array Value} (xs : List Str) {Q : Value → Shared → Prop} (hh : A.handled = none) (ht : s.heap.IsTuple t items) (hx : StrsAre items.toList xs) (hb : xs.length + 1 < scanBound)
    (h : ∀ (h' : Heap) (tk : Nat) (l : List Str), SetS P w h' s.heap.objs.size l → Firsts xs xs.length l → (∀ b o, s.heap.get? b = some o → h'.get? b = some o) → Q (.ref s.heap.objs.size) { s with heap := h', toks := tk }) :
    wpAny (model P w) A (call (.type "set") [.ref t]) Q E s := by
  have hsz : items.size = xs.length := by
    have q := StrsAre.length hx
    rw [Array.length_toList] at q
    exact q
  obtain ⟨c0, tl0, mro0⟩ := PySem.F.called_set.mro
  have made0 := PySem.F.called_set.made
  have sub0 := PySem.F.called_set.sub
  refine wpAny_call (codeAny_of_tree ?_)
  show wpAny _ _ (callAny (.type "set") _) _ _ _
  refine wpAny_pure ⟨Code.quiet_builtin _ (by decide +kernel), codeAny_builtin PySem.F.entry_type_call ?_⟩
  rw [Around.under_plain (weight_type_call_type "set" [.ref t] []) rfl]
  have nt0 := PySem.F.called_set.notType
  have cc0 := PySem.F.called_set.canCreate
  have tc0 := PySem.F.typeCall_set_1 (.ref t)
  repeat (any_goals (first | assumption | wp_step))
  refine codeAny_mono (code_set_led1 (.ref t) (E := E) (Q₁ := fun v s1 => v = .ref s.heap.objs.size ∧ s1 = { s with heap := s.heap.push (ob0 w) }) ⟨rfl, rfl⟩) fun r s1 hr => ?_
  match r, hr with
  | .error e, hr => exact hr
  | .ok (.ret v), hr =>
    obtain ⟨rfl, rfl⟩ := hr
    have o0 : (s.heap.push (ob0 w)).get? s.heap.objs.size = some (ob0 w) := Heap.get?_push_size _ rfl
    have ty0 : Shared.TypeIs { s with heap := s.heap.push (ob0 w) } (.ref s.heap.objs.size) "set" := ⟨_, o0, rfl⟩
    have il0 := PySem.F.called_set.init.lookup
    have ib0 := PySem.F.called_set.init.bind (.ref s.heap.objs.size)
    repeat (any_goals (first | assumption | wp_step))
    refine codeAny_mono (codeAny_call_builtin (R := wants (fun v s2 => v = .none ∧ ∃ h2 tk l, s2 = { s with heap := h2, toks := tk } ∧ SetS P w h2 s.heap.objs.size l ∧ Firsts xs xs.length l ∧
        (∀ b o, s.heap.get? b = some o → h2.get? b = some o)) E) PySem.F.called_set.init.plain PySem.F.entry_set_init (check_set_init_1 ty0 ?_)) fun r2 s2 hr2 => ?_
    · obtain ⟨⟨oc, od, dt, osl⟩, ot, hc, nl, hd⟩ := ht
      simp only at hc hd
      subst hc
      subst hd
      have ot2 : (s.heap.push (ob0 w)).get? t = some { cls := .type "tuple", dict := od, data := .seq items nl, slots := osl } := Heap.get?_push_of_some _ ot
      have st1 := F.sub_tuple_set
      have st2 := F.sub_tuple_frozenset
      have td0 : (Value.type "tuple" == Value.type "dict") = false := by decide
      have t1 : (s.heap.push (ob0 w)).IsTuple t items := ⟨_, ot2, rfl, nl, rfl⟩
      unfold Builtin.«set.__init__» noKeywords Builtin.Frozenset.updateFrom
      generalize hPI : pyIter = PI
      wp_walk
      subst hPI
      refine wpAny_pyIter_tuple t1 (wpAny_bind (wpAny_runValue ?_))
      have lt0 : t < s.heap.objs.size := Heap.lt_size ot
      have hh3 : A.in1.in1.in1.handled = none := by simp [hh]
      have z1 : (s.heap.push (ob0 w)).objs.size = s.heap.objs.size + 1 := Heap.size_push ..
      have ne1 : t ≠ (s.heap.push (ob0 w)).objs.size := by rw [z1]; exact Nat.ne_of_lt (Nat.lt_succ_of_lt lt0)
      have nf1 : s.heap.objs.size ∉ [(s.heap.push (ob0 w)).objs.size, t] := by
        rw [z1]
        simp only [List.mem_cons, List.not_mem_nil, or_false, not_or]
        exact And.intro (Nat.ne_of_lt (Nat.lt_succ_self _)) (Nat.ne_of_gt lt0)
      have val1 : ∀ (i : Nat) (v : Value), items[i]? = some v → ∃ y u, xs[i]? = some y ∧ v = .str y u := fun i v e => by
        have hi : i < xs.length := by rw [← hsz]; exact (Array.getElem?_eq_some_iff.mp e).1
        obtain ⟨u, q⟩ := SS.strs_at hx i v (by rw [Array.getElem?_toList]; exact e)
        exact ⟨xs[i], u, List.getElem?_eq_getElem hi, by rw [q, List.getD_eq_getElem?_getD, List.getElem?_eq_getElem hi]; rfl⟩
      refine grow_x ((Walks.tuple hh3 _ t ne1 items).toS) s.heap.objs.size nf1 xs hsz hb val1 (items.size - 0) 0 _ (by omega) (Nat.zero_le _)
        ⟨⟨_, Heap.get?_push_size _ rfl, rfl, rfl⟩, (t1.push _)⟩ ⟨[], ⟨fun y => by simp, Nat.le_refl 0⟩, setS_new (Heap.get?_push_of_some _ o0)⟩ ?_
      intro s3 l3 mv hf3 x3
      obtain ⟨h3, g3, d3, tk3, os3⟩ := s3
      obtain rfl : g3 = s.gens := mv.gens
      obtain rfl : d3 = s.drawn := mv.drawn
      obtain rfl : os3 = s.os := mv.os
      show wpAny _ _ _ _ _ _
      refine wpAny_pure ?_
      show wpAny _ _ (ret Value.none) _ _ _
      rw [hsz] at hf3
      refine wpAny_pure ⟨rfl, h3, tk3, l3, rfl, x3, hf3, fun b o e => ?_⟩
      have b0 : b < s.heap.objs.size := Heap.lt_size e
      refine mv.heap b o ?_ (Heap.get?_push_of_some _ (Heap.get?_push_of_some _ e))
      rw [z1]
      simp only [List.mem_cons, List.not_mem_nil, or_false, not_or]
      exact And.intro (Nat.ne_of_lt b0) (Nat.ne_of_lt (Nat.lt_succ_of_lt b0))
    · match r2, hr2 with
      | .error e, hr2 => exact hr2
      | .ok (.ret v2), hr2 =>
        obtain ⟨rfl, h2, tk2, l2, rfl, x2, hf2, k2⟩ := hr2
        repeat (any_goals (first | assumption | wp_step))
        exact h _ _ _ x2 hf2 k2
      | .ok .next, hr2 => exact hr2.elim
      | .ok .brk, hr2 => exact hr2.elim
      | .ok .cont, hr2 => exact hr2.elim
  | .ok .next, hr => exact hr.elim
  | .ok .brk, hr => exact hr.elim
  | .ok .cont, hr => exact hr.elim
end
end Mk

set_option Elab.async false
set_option linter.all false
set_option maxRecDepth 100000
set_option maxHeartbeats 4000000
namespace Mk
open PySem PySem.Spec PyProof.Rows L2 PySem.Froz

theorem perm_sub {α : Type} [BEq α] [LawfulBEq α] : ∀ {l m : List α}, l.Nodup → (∀ x ∈ l, x ∈ m) → m.length = l.length → m.Perm l
  | [], m, _, _, h => by
    have e : m = [] := List.length_eq_zero_iff.mp (by simpa using h)
    rw [e]
  | a :: l, m, nd, h, hl => by
    have ha := h a List.mem_cons_self
    obtain ⟨n1, n2⟩ := List.nodup_cons.mp nd
    have p := List.perm_cons_erase ha
    refine p.trans (List.Perm.cons a (perm_sub n2 (fun x hx => ?_) ?_))
    · have hne : x ≠ a := fun e => n1 (e ▸ hx)
      exact (List.mem_erase_of_ne hne).mpr (h x (List.mem_cons_of_mem _ hx))
    · have := p.length_eq
      rw [List.length_cons] at this hl
      omega
/-- a value that is the text y -/
abbrev IsTx (v : Value) (y : Str) : Prop := ∃ t, v = .str y t
def txOf (v : Value) : Str := match v with
  | .str y _ => y
  | _ => Str.empty
theorem each_tx : ∀ (vs : List Value), (∀ v ∈ vs, ∃ y t, v = .str y t) → PySem.W.EachIs IsTx vs (vs.map txOf)
  | [], _ => .nil
  | v :: vs, h => by
    obtain ⟨y, t, rfl⟩ := h v List.mem_cons_self
    exact .cons ⟨t, rfl⟩ (each_tx vs fun u hu => h u (List.mem_cons_of_mem _ hu))
theorem each_len {α β : Type} {R : α → β → Prop} : ∀ {as : List α} {bs : List β}, PySem.W.EachIs R as bs → as.length = bs.length
  | _, _, .nil => rfl
  | _, _, .cons _ t => by rw [List.length_cons, List.length_cons, each_len t]
theorem each_mono {α β : Type} {R R' : α → β → Prop} (h : ∀ a b, R a b → R' a b) : ∀ {as : List α} {bs : List β}, PySem.W.EachIs R as bs → PySem.W.EachIs R' as bs
  | _, _, .nil => .nil
  | _, _, .cons r t => .cons (h _ _ r) (each_mono h t)
theorem each_vals : ∀ {vs : List Value} {ys : List Str}, PySem.W.EachIs IsTx vs ys → Vals (ys.map V.str) vs
  | _, _, .nil => .nil
  | _, _, .cons r t => .cons r (each_vals t)
theorem vals_each : ∀ {ys : List Str} {vs : List Value}, Vals (ys.map V.str) vs → PySem.W.EachIs IsTx vs ys
  | [], _, .nil => .nil
  | _ :: _, _, .cons r t => .cons r (vals_each t)
section
variable {P : Program} {w : World} {A : Around} {E : Value → Shared → Prop} {s : Shared}
theorem Tx.texts {D : SD} {l : List Str} (x : Tx P w D l) : (∀ v ∈ D.1.toList.map (·.2), ∃ y t, v = .str y t) ∧ ((D.1.toList.map (·.2)).map txOf).Perm l := by
  have h1 : ∀ v ∈ D.1.toList.map (·.2), ∃ y t, v = Value.str y t := fun v hv => by
    obtain ⟨e, he, rfl⟩ := List.mem_map.mp hv
    obtain ⟨⟨k, hk, _⟩, _⟩ := x.ok.el e he
    obtain ⟨t, q⟩ := Value.isStrOf_shape (show Value.isStrOf k e.2 = true from hk)
    exact ⟨k, t, q⟩
  refine ⟨h1, perm_sub x.nd (fun k hk => ?_) (by rw [List.length_map, List.length_map, Array.length_toList]; exact x.ok.sz)⟩
  obtain ⟨e, he, hq⟩ := (x.ok.mem k).mp hk
  obtain ⟨t, q⟩ := Value.isStrOf_shape (show Value.isStrOf k e.2 = true from hq)
  exact List.mem_map.mpr ⟨e.2, List.mem_map.mpr ⟨e, he, rfl⟩, by rw [q]; rfl⟩

/-- texts by their codes -/
abbrev byCs (x y : Str) : Bool := decide (x.cps.toList ≤ y.cps.toList)
theorem enc_le : PySem.W.dataLe false (fun x : Str => PyData.str x) = byCs := PySem.W.dataLe_str (fun x => x)
/-- sorted(set) of texts -/
theorem sorted_setX {a : Addr} {l : List Str} {Q : Value → Shared → Prop} (x : SetS P w s.heap a l) (hh : A.handled = none) (hb : l.length < scanBound) (hu : A.units + 60 < cLine)
    (hQ : ∀ s' p (out : List Value) (c : Nat) (ys : List Str), (∀ b o, s.heap.get? b = some o → s'.heap.get? b = some o) → s'.gens = s.gens → s'.os = s.os → s.heap.objs.size ≤ p →
      s'.heap.get? p = some (seqObj "list" out.toArray c) → PySem.W.EachIs IsTx out (ys.mergeSort byCs) → ys.Perm l → Q (.ref p) s') :
    wpAny (model P w) A (call (.builtin "sorted") [.ref a]) Q E s := by
  obtain ⟨D, e0, t0⟩ := x
  obtain ⟨tx, pm0⟩ := t0.texts
  refine Calls.call_function_entry kind_sorted plain_sorted entry_sorted (args_sorted1 _) ?_
  unfold Builtin.«sorted»
  refine wpAny_bind (m := checkCount "sorted" 1 1 _) (wpAny_pure ?_)
  have z0 : D.1.size < scanBound := by rw [t0.ok.sz]; exact hb
  refine wpAny_bind (collect_set (A := A.in1) (es := D.1) (ep := D.2.1) (t := D.2.2) hh ⟨_, e0, rfl, rfl⟩ t0.ok.fit z0 t0.wk.1 t0.wk.2 fun s1 vs kp hz g1 o1 pm => ?_)
  have lv : vs.length = l.length := by rw [pm.length_eq, List.length_map, Array.length_toList]; exact t0.ok.sz
  have txv : ∀ v ∈ vs, ∃ y t, v = Value.str y t := fun v hv => tx v (pm.mem_iff.mp hv)
  have ev := each_tx vs txv
  have fit : l.length ≤ sizeLine := Nat.le_trans (Nat.le_of_lt hb) (by decide)
  refine wpAny_bind (wpAny_newList ?_ (by rw [lv]; exact fit))
  have at0 : (s1.heap.push (seqObj "list" vs.toArray 0)).get? s1.heap.objs.size = some (seqObj "list" vs.toArray 0) := Heap.get?_push_size _ rfl
  refine wpAny_bind (wpAny_holding (PySem.W.list_sort_data (s := { s1 with heap := s1.heap.push (seqObj "list" vs.toArray 0) }) (enc := fun x : Str => PyData.str x) at0 ev (each_mono (fun v y ⟨t, q⟩ => ⟨[], by rw [q]; exact .str y t, (fun z => nomatch z)⟩) ev)
    (PySem.W.AllAlike.of fun _ _ => rfl) (PySem.W.Sortable.others fun _ => ⟨(fun z => nomatch z), (fun _ z => nomatch z)⟩) (by rw [List.length_map, lv]; exact fit) (fun y _ => ?_) fun out lo eo => ?_))
  · show A.units + 1 + 1 + 0 < cLine
    omega
  obtain ⟨c, hc⟩ := sortedHeap_at (vs := vs) (out := out.toArray) at0
  rw [enc_le] at eo
  refine wpAny_pure ⟨_, rfl, hQ _ s1.heap.objs.size out c _ (fun b u e => ?_) g1 o1 hz hc eo ((pm.map txOf).trans pm0)⟩
  have q := kp b u e
  have lt := Heap.lt_size q
  show (sortedHeap (s1.heap.push (seqObj "list" vs.toArray 0)) s1.heap.objs.size vs out.toArray).get? b = some u
  rw [sortedHeap_old (Nat.ne_of_lt lt) (by rw [size_push']; exact Nat.lt_succ_of_lt lt)]
  exact Heap.get?_push_of_some _ q
end
end Mk

set_option Elab.async false
set_option linter.all false
set_option maxRecDepth 100000
set_option maxHeartbeats 4000000
namespace Mk
open PySem PySem.Spec PyProof.Rows L2 PySem.Froz

/-- the set of the unlike texts l at a -/
def SetSO (P : Program) (w : World) (a : Addr) (l : List Str) : HO := .ext fun h => SetS P w h a l
section
variable {X : Cx}
theorem setSO_new {P : Program} {w : World} {H : Hp} {h : Heap} {a : Addr} {l : List Str} (x : SetS P w h a l) : ObjOk P w H h a (SetSO P w a l) := by
  obtain ⟨D, e, t⟩ := id x
  exact ⟨x, ⟨_, e⟩, fun h1 h2 y k => y.at k⟩
theorem setSO_get {pins : List (Addr × Obj)} {σ : L2.St} {H : Hp} {s : Shared} {a : Addr} {l : List Str} (I : Inv X pins σ H s) (ha : H a = some (SetSO X.prog X.w a l)) : SetS X.prog X.w s.heap a l := (I.hok a _ ha).1
theorem strs_of : ∀ {ys : List Str} {us : List Value}, Vals (ys.map V.str) us → StrsAre us ys
  | [], _, .nil => .nil
  | y :: ys, _, .cons r t => by
    obtain ⟨k, rfl⟩ := r
    exact .cons y k (strs_of t)
/-- set(t), t a tuple of texts -/
def rSetX (K : PySem.W.Frag) (P : Program) (w : World) : List V → Hp → VK → Prop := fun xs H Q => ∃ (t : Addr) (zs : List Str), xs = [.ref t] ∧ SqT K H t (zs.map V.str) ∧ zs.length + 1 < scanBound ∧
  ∀ (p : Addr) (l : List Str), H p = none → l.Nodup → (∀ y, y ∈ l ↔ y ∈ zs) → l.length ≤ zs.length → Q (.ref p) (upd H p (SetSO P w p l))
theorem cr_setX (hc : X.calm = true) : CallR X (.type "set") (rSetX X.K X.prog X.w) := by
  intro pins s σ H xs us Q I r h
  obtain ⟨t, zs, rfl, ht, hb, q⟩ := h
  rw [Vals.ref1 r]
  obtain ⟨its, rv, hl, hz⟩ := I.tuple ht
  refine call_set_tupleX (items := its.toArray) zs (I.ok.hd hc) hl (by simpa using strs_of rv) hb fun h' tk l x hf k => ?_
  obtain ⟨D, e, tx⟩ := id x
  refine ⟨.ref _, upd H s.heap.objs.size (SetSO X.prog X.w s.heap.objs.size l), I.laid k (Nat.le_refl _) (setSO_new x), rfl, q _ _ (I.hok.fresh (Nat.le_refl _)) tx.nd (fun y => ?_) hf.2⟩
  rw [hf.1, List.take_length]
/-- sorted(set of texts) -/
def rSortedSX (P : Program) (w : World) : List V → Hp → VK → Prop := fun vs H Q => ∃ (a : Addr) (l : List Str), vs = [.ref a] ∧ H a = some (SetSO P w a l) ∧ l.length < scanBound ∧
  ∀ (ys : List Str) (p : Addr), ys.Perm l → H p = none → Q (.ref p) (upd H p (.lst ((ys.mergeSort byCs).map V.str)))
theorem cr_sortedSX (hc : X.calm = true) (hu : X.A.units + 60 < cLine) : CallR X (.builtin "sorted") (rSortedSX X.prog X.w) := by
  intro pins s σ H vs us Q I r h
  obtain ⟨a, l, rfl, ha, hb, q⟩ := h
  rw [Vals.ref1 r]
  refine sorted_setX (setSO_get I ha) (I.ok.hd hc) hb hu fun s' p out c ys k g o hp hg he hm => ?_
  have lo : ((ys.mergeSort byCs).map V.str).length ≤ sizeLine := by
    rw [List.length_map, (List.mergeSort_perm ys byCs).length_eq, hm.length_eq]
    exact Nat.le_trans (Nat.le_of_lt hb) (by decide)
  have hn : H p = none := I.hok.fresh hp
  have J : Inv X pins σ (upd H p (.lst ((ys.mergeSort byCs).map V.str))) { s with heap := s'.heap, gens := s'.gens, drawn := s'.drawn, toks := s'.toks } :=
    I.call (ch := []) (Un.laid k hp hn) (I.hok.laid k hp ⟨lo, out, c, each_vals he, hg⟩) (by rw [g]; exact I.bare) (fun _ z => nomatch z)
  have e : s' = { s with heap := s'.heap, gens := s'.gens, drawn := s'.drawn, toks := s'.toks } := by
    obtain ⟨s1, s2, s3, s4, s5⟩ := s'
    obtain ⟨t1, t2, t3, t4, t5⟩ := s
    obtain rfl : s5 = t5 := o
    rfl
  rw [e]
  exact ⟨.ref p, _, J, rfl, q ys p hm hn⟩
/-- texts by their lengths -/
abbrev byLen (x y : Str) : Bool := decide ((x.length : Int) ≤ (y.length : Int))
/-- sorted(xs, key=len), xs a list of texts -/
def tSortLen (K : PySem.W.Frag) (t : TA) : TE := fun σ H Q => t σ H fun vs H1 => ∃ (a : Addr) (zs : List Str), vs = [.ref a] ∧ SqL K H1 a (zs.map V.str) ∧ (∀ z ∈ zs, z.length ≤ sizeLine) ∧
  ∀ p, H1 p = none → Q (.ref p) (upd H1 p (.lst ((zs.mergeSort byLen).map V.str)))
theorem pe_sortLen {e : Expr} {t : TA} {p p2 kp pos : Pos} (hg : Gl X "sorted") (hm : X.mg "sorted" = none) (hgL : Gl X "len") (hmL : X.mg "len" = none) (hu : X.A.units + 60 < cLine) (ha : PA X [e] t)
    (he : backTo pos (starEach [e] X.env) = (false, eval e X.env) :: backTo pos (starEach [] X.env) := by rfl) (hpl : (backTo pos (starEach [e] X.env)).any (·.1) = false := by rfl) :
    PE X (.Call (.Name "sorted" p) [e] [⟨some "key", .Name "len" p2, kp⟩] pos) (tSortLen X.K t) := by
  refine ⟨fun pins s σ H Q I h => ?_⟩
  refine wpAny_Call_Name_kw (ld_blt I hg hm (u := .builtin "sorted") (by decide +kernel) ?_)
  refine PyProof.Rows.callWith_kw (thn (ha.run pos pins s σ H _ I h) fun us s1 ⟨vs, H1, I1, r1, q1⟩ => ?_) he hpl
  show wpAny _ _ (evalAll [do let v ← eval (.Name "len" p2) X.env; standAt pos; pure v]) _ _ s1
  refine wpAny_evalAll_cons (wpAny_bind (ld_blt I1 hgL hmL (u := .builtin "len") (by decide +kernel) (wpAny_bind (wpAny_standAt (wpAny_pure (wpAny_evalAll_nil ?_))))))
  show wpAny _ _ (call (.builtin "sorted") us [(Str.ofString "key", .builtin "len")]) _ _ s1
  obtain ⟨a, zs, rfl, hs, hz, q⟩ := q1
  rw [Vals.ref1 r1]
  obtain ⟨its, rv, hl, hsz⟩ := I1.list hs
  refine PySem.W.sorted_key_data (b := false) (R := IsTx) (bs := zs) (fun x : Str => PyData.int x.length) hl.isList (vals_each rv) (PySem.W.AllAlike.of fun _ _ => rfl) (PySem.W.Sortable.others fun _ => ⟨(fun z => nomatch z), (fun _ z => nomatch z)⟩)
    (by rw [List.length_map] at hsz; exact hsz) (fun x _ => ?_) (ksk_s1 _ _) (fun _ => ksk_l1 _ _) (fun _ => ksk_t4 _ _) (fun v x hR hx h0 tk0 k0 => ?_) fun out c h' tk k hn hd hlo he => ?_
  · show X.A.units + 2 + 0 < cLine
    omega
  · obtain ⟨t0, rfl⟩ := hR
    refine PySem.P.len_str ?_ ⟨h0, _, rfl, fun _ _ z => z, .int _ _⟩
    have := hz x hx
    rw [sizeLine_eq] at this
    omega
  · have ee : PySem.W.dataLe false (fun x : Str => PyData.int (x.length : Nat)) = byLen := PySem.W.dataLe_int fun x : Str => ((x.length : Nat) : Int)
    rw [ee] at he
    refine ⟨.ref _, upd H1 (s1.heap.objs.size + 1) (.lst ((zs.mergeSort byLen).map V.str)), I1.laid (t' := tk) k (Nat.le_succ _) ⟨?_, out, c, each_vals he, hd⟩, rfl, q _ (I1.hok.fresh (Nat.le_succ _))⟩
    rw [List.length_map, (List.mergeSort_perm zs byLen).length_eq]
    rw [List.length_map] at hsz
    exact hsz
end
end Mk

set_option Elab.async false
set_option maxRecDepth 100000
set_option maxHeartbeats 4000000
namespace Mk
open PySem L2

/-! ### rules of our own -/
section
variable {X : Cx}
def CPowW (i j : Int) : Prop := 0 ≤ j ∧ (Builtin.Int.intBits i : Int) * j ≤ 2 ^ 27
theorem op_powW : OpR X (binaryOp .Pow) (rI CPowW fun i j => .int (i ^ j.toNat)) := opI fun _ _ _ _ _ _ _ hc q => PyProof.Rows.pow_int hc.1 hc.2 q
end

/-! ### the pot -/
abbrev PB : Nat := 4294967296
/-- the pot at p: its count is at most n -/
def Pot (H : Hp) (p : Addr) (n : Nat) : Prop := ∃ u m c : Int, H p = some (.lst [.int u, .int m, .int c]) ∧ 0 ≤ u ∧ u < 2 ^ 2000 ∧ 0 ≤ m ∧ m < 2 ^ 62 ∧ 0 ≤ c ∧ c ≤ (n : Int)
theorem Pot.mono {H : Hp} {p : Addr} {n k : Nat} (h : Pot H p n) (hk : n ≤ k) : Pot H p k := by
  obtain ⟨u, m, c, e, h1, h2, h3, h4, h5, h6⟩ := h
  exact ⟨u, m, c, e, h1, h2, h3, h4, h5, by omega⟩
/-- all but p is as it was -/
def But (p : Addr) (H H' : Hp) : Prop := ∀ b o, b ≠ p → H b = some o → H' b = some o

/-! rules for a comprehension's block, the written part told -/
section
variable {X : Cx} {K : PySem.W.Frag}
theorem atK {e : Expr} {T : String} {r : V → List V → Hp → VK → Prop} {to : TE} {t : TA} (K : PySem.W.Frag) (h : PE X e (tBM X.K T r to t)) (hK : X.K = K := by rfl) : PE X e (tBM K T r to t) := hK ▸ h
theorem ix_listK (K : PySem.W.Frag) (hK : X.K = K := by rfl) : IxR X (rIxL K) := by
  subst hK
  exact ix_list
theorem call_lenK (K : PySem.W.Frag) (hK : X.K = K := by rfl) : CallR X (.builtin "len") (fun xs H Q => ∃ p ys, xs = [.ref p] ∧ (SqL K H p ys ∨ SqT K H p ys) ∧ Q (.int ys.length) H) := by
  subst hK
  exact call_len_seq
end
/-! ### words -/
/-- the codes of a text -/
abbrev cs (z : Str) : List Nat := z.cps.toList
/-- a text of signs a .. e -/
def IsW (z : Str) : Prop := ∀ c ∈ cs z, 97 ≤ c ∧ c ≤ 101
theorem cs_append (x y : Str) : cs (x ++ y) = cs x ++ cs y := by
  show (x.cps ++ y.cps).toList = _
  rw [Array.toList_append]
theorem len_cs (z : Str) : z.length = (cs z).length := rfl
theorem cs_join : ∀ ys : List Str, cs (Txt.join "" ys) = (ys.map cs).flatten := by
  intro ys
  show cs (Builtin.Str.glued "" ys) = _
  rw [StrLaws.glued_eq_join]
  induction ys with
  | nil => rfl
  | cons x r ih =>
    cases r with
    | nil => simp [Str.join]
    | cons y t =>
      show cs (x ++ "" ++ Str.join "" (y :: t)) = _
      rw [cs_append, cs_append, ih]
      simp
      rfl
theorem isW_join {ys : List Str} (h : ∀ y ∈ ys, IsW y) : IsW (Txt.join "" ys) := by
  intro c hc
  rw [cs_join] at hc
  obtain ⟨l, hl, hc⟩ := List.mem_flatten.mp hc
  obtain ⟨y, hy, rfl⟩ := List.mem_map.mp hl
  exact h y hy c hc
theorem len_join (ys : List Str) : (Txt.join "" ys).length = (ys.map (·.length)).sum := by
  rw [len_cs, cs_join, List.length_flatten, List.map_map]
  rfl
theorem sum_one {ys : List Str} (h : ∀ y ∈ ys, y.length = 1) : (ys.map (·.length)).sum = ys.length := by
  induction ys with
  | nil => rfl
  | cons y r ih =>
    rw [List.map_cons, List.sum_cons, h y List.mem_cons_self, ih fun z hz => h z (List.mem_cons_of_mem _ hz), List.length_cons]
    omega
theorem isW_one {c : Nat} (h : c ∈ cs "abcde") : IsW ⟨#[c]⟩ := by
  have e : cs "abcde" = [97, 98, 99, 100, 101] := by decide +kernel
  rw [e] at h
  intro d hd
  have : d = c := by simpa [cs] using hd
  subst this
  simp at h
  omega
theorem perm_erase {α : Type} : ∀ {l : List α} {k : Nat} (h : k < l.length), (l[k] :: l.eraseIdx k).Perm l
  | [], _, h => absurd h (Nat.not_lt_zero _)
  | a :: l, 0, _ => .refl _
  | a :: l, k + 1, h => by
    have ih := perm_erase (l := l) (k := k) (by simpa using h)
    simp only [List.getElem_cons_succ, List.eraseIdx_cons_succ]
    exact (List.Perm.swap _ _ _).trans (ih.cons a)
theorem seq_at {k : Int} {n : Nat} (h0 : 0 ≤ k) (h1 : k < n) : seqIndex? k n = some k.toNat := by
  unfold seqIndex?
  rw [if_neg (by omega : ¬ k < 0)]
  simp [h0, h1]
theorem at_ofA {α : Type} {xs : List α} {z : Int} {j : Nat} {v : α} (e : z = (j : Int)) (h : xs[j]? = some v) : atI xs z = some v := by
  rw [e]
  exact atI_nat h
theorem But.refl {p : Addr} {H : Hp} : But p H H := fun _ _ _ e => e
theorem But.trans {p : Addr} {H H1 H2 : Hp} (a : But p H H1) (b : But p H1 H2) : But p H H2 := fun c o h e => b c o h (a c o h e)
theorem But.of_same {p : Addr} {H H' : Hp} (h : Same H H') : But p H H' := fun b o _ e => h b o e
theorem Same.new {H : Hp} {l : Addr} {o : HO} (hl : H l = none) : Same H (upd H l o) := fun b u e => by
  rw [upd_ne (ne_of_none e hl)]
  exact e
/-- a store at an address that was new -/
theorem But.up {p l : Addr} {o : HO} {H H1 : Hp} (a : But p H H1) (hl : H l = none) : But p H (upd H1 l o) := fun b u h e => by
  rw [upd_ne (ne_of_none e hl)]
  exact a b u h e
theorem Pot.up {H : Hp} {p l : Addr} {n : Nat} {o : HO} (h : Pot H p n) (hn : p ≠ l) : Pot (upd H l o) p n := by
  obtain ⟨u, m, c, e, r⟩ := h
  exact ⟨u, m, c, by rw [upd_ne hn]; exact e, r⟩
theorem Pot.ne {H : Hp} {p l : Addr} {n : Nat} (h : Pot H p n) (hn : H l = none) : p ≠ l := by
  obtain ⟨u, m, c, e, r⟩ := h
  exact ne_of_none e hn
theorem join_e {b : Bool} {te1 te2 : TE} {σ : L2.St} {H : Hp} {C : VK} (R : V → Prop) (hC : ∀ z, R z → C z H) (h1 : b = true → (∀ z, R z → C z H) → te1 σ H C) (h2 : b = false → (∀ z, R z → C z H) → te2 σ H C) :
    (fun (c : Bool) (H1 : Hp) => if c = true then te1 σ H1 C else te2 σ H1 C) b H := by
  cases b with
  | true => exact iteT (h1 rfl hC)
  | false => exact iteF (h2 rfl hC)
def wide_nz (j : Int) : Prop := j ≠ 0
theorem nz600 : (fun (_ j : Int) => j ≠ 0) 0 ((10 ^ Int.toNat 60) ^ Int.toNat 8) := by decide +kernel
theorem nz18 : (fun (_ j : Int) => j ≠ 0) 0 (10 ^ Int.toNat 18 + 9) := by decide +kernel
/-! ### the text by places -/
def top (i : Nat) : Stmt := PySem.Challenge.pw_mendnumber_k05_changes_told.main.body.getD i (.Pass ⟨0, 0, 0, 0⟩)
abbrev sCup : Stmt := top 40
abbrev sToss : Stmt := top 41

/-- the names of the builtins that the text leaves alone -/
structure Bn (mg : Str → Option Value) : Prop where
  len : mg "len" = none
  int : mg "int" = none
  abs : mg "abs" = none
  max : mg "max" = none
  min : mg "min" = none
  range : mg "range" = none
  list : mg "list" = none

def spFilled (K : PySem.W.Frag) : Sp := fun vs H Q _ => ∃ (a : Addr) (ns : List Int) (k : Nat), vs = [.ref a, .int k] ∧ SqL K H a (ns.map V.int) ∧ ns.length ≤ 63 ∧ k ≤ 63 ∧
  ∀ H' p, Same H H' → H p = none → Pot H' p 0 → Q (.ref p) H'
def spDip : Sp := fun vs H Q _ => ∃ (p : Addr) (n : Nat) (t : Int), vs = [.ref p, .int t] ∧ Pot H p n ∧ n < PB ∧ 0 < t ∧ t < 1073741824 ∧
  ∀ H' (k : Int), But p H H' → (∀ b, H b = none → H' b = none) → Pot H' p (n + 1) → 0 ≤ k → k < t → Q (.int k) H'

section
variable {P : Program} {w : World} {K : PySem.W.Frag} {mg : Str → Option Value} {base : Heap}
theorem scCup : FnScope ["_law_script", "_law_at", "_law_cell", "_law_great", "_law_seed"] ["_law_script", "_law_at"] (defScope sCup) := ⟨rfl, rfl, rfl, by decide +kernel, rfl, by decide +kernel, by decide +kernel⟩
theorem ok_cup {f : Addr} {fd : FuncData} (F : Fun K "_law_cup" "_law_cup" sCup f fd) (B : Bn mg) : FnOk P w K mg base CX0 1 f fd ["_law_script", "_law_at"] (spFilled K) := by
  refine F.ok scCup (fun vs H Q E h => ?_) (fun cdv A outer s H vs Q E hr h => ?_)
  · obtain ⟨a, ns, k, rfl, _⟩ := h
    rfl
  · obtain ⟨a, ns, k, rfl, hS, hl, hk, q⟩ := h
    refine ⟨_, pss_cons (ps_set (i := 2) scCup.nd rfl (.inl rfl) (pe_ifExp (pt_cmpR op_lt (pv 1) (pe_callB call_len_seq (by rfl) B.len PySem.boot_len (pa_cons (pv 0) pa_nil)) (nomark _)) (pe_ix ix_list (pv 0) (pv 1) (fun _ _ => rfl)) (pe_op op_add (pe_op op_mul pe_int (pv 1)) pe_int)))
      (pss_cons (ps_set (i := 3) scCup.nd rfl (.inl rfl) (pe_op op_modN (pe_callTy call_int1 (by rfl) B.int (by decide +kernel) (pa_cons (pe_callB call_abs (by rfl) B.abs (by decide +kernel) (pa_cons (pv 2) pa_nil)) pa_nil)) (pe_op op_powW (pe_op op_powW pe_int pe_int) pe_int)))
      (pss_cons (ps_set (i := 4) scCup.nd rfl (.inl rfl) (pe_op op_modN (pe_callTy call_int1 (by rfl) B.int (by decide +kernel) (pa_cons (pe_op op_add (pe_op op_add (pe_op op_add (pv 3) (pe_op op_mul pe_int (pv 1))) (pe_op op_mul pe_int (pe_callTy call_int1 (by rfl) B.int (by decide +kernel) (pa_cons (pe_cmpR op_lt (pv 2) pe_int (nomark _)) pa_nil)))) pe_int) pa_nil)) (pe_op op_add (pe_op op_powW pe_int pe_int) pe_int)))
      (pss_one (ps_ret (pe_lst (pa_cons (pe_ifExp (pt_cmpR op_gt (pv 3) (pe_op op_powW pe_int pe_int) (nomark _)) (pe_op op_sub (pv 3) (pe_op op_powW pe_int pe_int)) pe_int) (pa_cons (pv 4) (pa_cons pe_int pa_nil)))))))), ?_⟩
    have hpw : CPowW 10 60 := ⟨by decide, by decide +kernel⟩
    have hpw2 : CPowW (10 ^ (60 : Int).toNat) 8 := ⟨by decide, by decide +kernel⟩
    have hpw3 : CPowW 10 18 := ⟨by decide, by decide +kernel⟩
    refine ⟨_, rfl, _, rfl, a, _, rfl, .inl hS, _, _, rfl, rfl, _, rfl, ?_⟩
    refine join_e (fun z => ∃ i, z = V.int i) ?_ ?_ ?_
    · rintro _ ⟨z, rfl⟩
      refine ⟨_, rfl, _, rfl, .inl ⟨_, rfl, _, _, rfl, rfl, hpw, _, _, rfl, rfl, hpw2, _, _, rfl, rfl, nz600, ?_⟩⟩
      refine ⟨_, rfl, _, rfl, _, _, rfl, rfl, .inl ⟨by decide, by decide⟩, _, _, rfl, rfl, ?_⟩
      refine ⟨_, rfl, _, _, rfl, rfl, .inr ⟨_, rfl, _, _, rfl, rfl, .inl ⟨by decide, by decide⟩, _, _, rfl, rfl, _, _, rfl, rfl, .inl ⟨_, rfl, _, _, rfl, rfl, hpw3, _, _, rfl, rfl, _, _, rfl, rfl, nz18, ?_⟩⟩⟩
      have hb : (0 : Int) < (10 ^ Int.toNat 60) ^ Int.toNat 8 := by decide +kernel
      have hb2 : ((10 ^ Int.toNat 60) ^ Int.toNat 8 : Int) < 2 ^ 2000 := by decide +kernel
      have hb3 : (0 : Int) < 10 ^ Int.toNat 18 + 9 := by decide +kernel
      have hb4 : (10 ^ Int.toNat 18 + 9 : Int) < 2 ^ 62 := by decide +kernel
      have hb5 : (0 : Int) < 10 ^ Int.toNat 18 := by decide +kernel
      have h1 := Int.fmod_nonneg_of_pos (if z < 0 then -z else z) hb
      have h2 := Int.fmod_lt_of_pos (if z < 0 then -z else z) hb
      have h3 := Int.fmod_nonneg_of_pos ((if z < 0 then -z else z).fmod ((10 ^ Int.toNat 60) ^ Int.toNat 8) + 7368787 * (k : Int) + (32452867 * if decide (z < 0) = true then 1 else 0) + 5) hb3
      have h4 := Int.fmod_lt_of_pos ((if z < 0 then -z else z).fmod ((10 ^ Int.toNat 60) ^ Int.toNat 8) + 7368787 * (k : Int) + (32452867 * if decide (z < 0) = true then 1 else 0) + 5) hb3
      refine ⟨_, rfl, _, _, rfl, rfl, hpw3, _, _, rfl, rfl, _, rfl, ?_⟩
      refine join_e (fun v => ∃ i, v = V.int i ∧ 0 ≤ i ∧ i < 2 ^ 2000) ?_ ?_ ?_
      · rintro _ ⟨i, rfl, i0, i1⟩
        refine ⟨_, rfl, (by show 3 ≤ sizeLine; decide), fun p hp => ?_⟩
        refine q _ p (fun b o e => ?_) hp ⟨_, _, _, upd_same, i0, i1, h3, Int.lt_trans h4 hb4, Int.le_refl _, Int.le_refl _⟩
        rw [upd_ne (ne_of_none e hp)]
        exact e
      · intro hb hC
        have hb : (if z < 0 then -z else z).fmod ((10 ^ Int.toNat 60) ^ Int.toNat 8) > 10 ^ Int.toNat 18 := of_decide_eq_true hb
        refine ⟨_, rfl, _, _, rfl, rfl, hpw3, _, _, rfl, rfl, hC _ ⟨_, rfl, Int.sub_nonneg_of_le (Int.le_of_lt hb), Int.lt_trans (Int.lt_of_le_of_lt (Int.sub_le_self _ (Int.le_of_lt hb5)) h2) hb2⟩⟩
      · intro hb hC
        exact hC _ ⟨_, rfl, Int.le_refl _, by decide⟩
    · intro hb hC
      have hk2 : (k : Int) < ((ns.map V.int).length : Nat) := of_decide_eq_true hb
      rw [List.length_map] at hk2
      have hk3 : k < ns.length := by omega
      refine ⟨_, rfl, _, rfl, a, _, _, V.int (ns[k]'hk3), rfl, rfl, hS, atI_nat (by rw [List.getElem?_map, List.getElem?_eq_getElem hk3]; rfl), hC _ ⟨_, rfl⟩⟩
    · intro hb hC
      exact ⟨_, rfl, _, _, rfl, rfl, .inl ⟨by decide, by decide⟩, _, _, rfl, rfl, hC _ ⟨_, rfl⟩⟩
theorem scToss : FnScope ["_law_cup_here", "_law_total", "_law_found", "_law_one", "_law_two", "_law_three"] ["_law_cup_here", "_law_total"] (defScope sToss) := ⟨rfl, rfl, rfl, by decide +kernel, rfl, by decide +kernel, by decide +kernel⟩
theorem ok_toss {f : Addr} {fd : FuncData} (F : Fun K "_law_toss" "_law_toss" sToss f fd) (B : Bn mg) : FnOk P w K mg base CX0 1 f fd ["_law_cup_here", "_law_total"] spDip := by
  refine F.ok scToss (fun vs H Q E h => ?_) (fun cdv A outer s H vs Q E hr h => ?_)
  · obtain ⟨p, n, t, rfl, _⟩ := h
    rfl
  · obtain ⟨p, n, t, rfl, ⟨u, m, c, hp, hu0, hu1, hm0, hm1, hc0, hc1⟩, hn, ht0, ht1, q⟩ := h
    refine ⟨_, pss_cons (ps_if (pt_cmpR op_gt (pe_ix ix_list (pv 0) pe_int (fun _ _ => rfl)) pe_int (nomark _))
        (pss_cons (ps_set (i := 2) scToss.nd rfl (.inl rfl) (pe_op op_modN (pe_callTy call_int1 (by rfl) B.int (by decide +kernel) (pa_cons (pe_ix ix_list (pv 0) pe_int (fun _ _ => rfl)) pa_nil)) (pv 1)))
        (pss_cons (ps_asg (pe_op op_fdivW (pe_ix ix_list (pv 0) pe_int (fun _ _ => rfl)) (pv 1)) (pg_sub (pv 0) pe_int set_list))
        (pss_one (ps_ret (pv 2))))) pss_nil)
      (pss_cons (ps_asg (pe_op op_add (pe_ix ix_list (pv 0) pe_int (fun _ _ => rfl)) pe_int) (pg_sub (pv 0) pe_int set_list))
      (pss_cons (ps_set (i := 3) scToss.nd rfl (.inl rfl) (pe_op op_modN (pe_callTy call_int1 (by rfl) B.int (by decide +kernel) (pa_cons (pe_op op_add (pe_ix ix_list (pv 0) pe_int (fun _ _ => rfl)) (pe_op op_mulW pe_int (pe_ix ix_list (pv 0) pe_int (fun _ _ => rfl)))) pa_nil)) pe_int))
      (pss_cons (ps_set (i := 4) scToss.nd rfl (.inl rfl) (pe_op op_modN (pe_callTy call_int1 (by rfl) B.int (by decide +kernel) (pa_cons (pe_op op_add (pe_op op_add (pe_op op_mulW (pv 3) (pv 3)) (pe_op op_fdivW (pe_ix ix_list (pv 0) pe_int (fun _ _ => rfl)) pe_int)) (pe_op op_mulW pe_int (pe_ix ix_list (pv 0) pe_int (fun _ _ => rfl)))) pa_nil)) pe_int))
      (pss_cons (ps_set (i := 5) scToss.nd rfl (.inl rfl) (pe_op op_modN (pe_callTy call_int1 (by rfl) B.int (by decide +kernel) (pa_cons (pe_op op_add (pe_op op_mulW (pv 4) (pv 4)) (pv 3)) pa_nil)) pe_int))
      (pss_one (ps_ret (pe_op op_modN (pe_callTy call_int1 (by rfl) B.int (by decide +kernel) (pa_cons (pe_op op_fdivW (pv 5) pe_int) pa_nil)) (pv 1)))))))), ?_⟩
    have tnz : t ≠ 0 := by omega
    have tb : t.natAbs < 2 ^ 30 := by omega
    refine ⟨_, rfl, p, _, _, _, rfl, rfl, SqL.of hp, atI_nat (j := 0) rfl, _, _, rfl, rfl, _, rfl, ?_⟩
    refine ite2 (fun _ => ?_) (fun _ => ?_)
    · refine ⟨_, rfl, p, _, _, _, rfl, rfl, SqL.of hp, atI_nat (j := 0) rfl, .inl ⟨_, rfl, _, rfl, _, _, rfl, rfl, tnz, ?_⟩⟩
      refine ⟨_, rfl, p, _, _, _, rfl, rfl, SqL.of hp, atI_nat (j := 0) rfl, _, rfl, _, _, rfl, rfl, wide_div ht0 tb (by decide) (by decide), ?_⟩
      refine ⟨_, rfl, p, _, _, 0, rfl, rfl, hp, rfl, _, rfl, ?_⟩
      refine q _ _ (fun b o hb e => ?_) (fun b hb => ?_) ⟨_, _, _, upd_same, ?_, ?_, hm0, hm1, hc0, by omega⟩ (Int.fmod_nonneg_of_pos _ ht0) (Int.fmod_lt_of_pos _ ht0)
      · rw [upd_ne hb]; exact e
      · have : b ≠ p := fun e => by rw [e, hp] at hb; cases hb
        rw [upd_ne this]; exact hb
      · exact Int.ediv_nonneg hu0 (by omega)
      · exact Int.lt_of_le_of_lt (Int.ediv_le_self _ hu0) hu1
    · refine ⟨_, rfl, p, _, _, _, rfl, rfl, SqL.of hp, atI_nat (j := 2) rfl, _, _, rfl, rfl, _, rfl, p, _, _, 2, rfl, rfl, hp, rfl, ?_⟩
      have hn' : n < 4294967296 := hn
      have hc2 : (c + 1).natAbs < 2 ^ 62 := by omega
      have hm2 : m.natAbs < 2 ^ 62 := by omega
      have hp2 : upd H p (.lst [V.int u, V.int m, V.int (c + 1)]) p = some (.lst [V.int u, V.int m, V.int (c + 1)]) := upd_same
      refine ⟨_, rfl, p, _, _, _, rfl, rfl, SqL.of hp2, atI_nat (j := 1) rfl, ?_⟩
      refine ⟨_, rfl, p, _, _, _, rfl, rfl, SqL.of hp2, atI_nat (j := 2) rfl, _, _, rfl, rfl, wide_mul (a := 62) (b := 62) (by decide) hc2 (by decide) (by decide) (by decide), ?_⟩
      refine ⟨_, _, rfl, rfl, .inl ⟨_, rfl, _, _, rfl, rfl, (by show wide_nz 1000000007; unfold wide_nz; decide), ?_⟩⟩
      have h1 := Int.fmod_nonneg_of_pos (m + 2147516352 * (c + 1)) (show (0 : Int) < 1000000007 by decide)
      have h2 := Int.fmod_lt_of_pos (m + 2147516352 * (c + 1)) (show (0 : Int) < 1000000007 by decide)
      have ho : ((m + 2147516352 * (c + 1)).fmod 1000000007).natAbs < 2 ^ 62 := by omega
      refine ⟨_, rfl, _, rfl, _, _, rfl, rfl, wide_mul (a := 62) (b := 62) ho ho (by decide) (by decide) (by decide), ?_⟩
      refine ⟨_, rfl, p, _, _, _, rfl, rfl, SqL.of hp2, atI_nat (j := 1) rfl, _, _, rfl, rfl, wide_div (b := 30) (by decide) (by decide) (by decide) (by decide), _, _, rfl, rfl, ?_⟩
      refine ⟨_, rfl, p, _, _, _, rfl, rfl, SqL.of hp2, atI_nat (j := 2) rfl, _, _, rfl, rfl, wide_mul (a := 62) (b := 62) (by decide) hc2 (by decide) (by decide) (by decide), ?_⟩
      refine ⟨_, _, rfl, rfl, .inl ⟨_, rfl, _, _, rfl, rfl, (by show wide_nz 998244353; unfold wide_nz; decide), ?_⟩⟩
      have h3 := Int.fmod_nonneg_of_pos (((m + 2147516352 * (c + 1)).fmod 1000000007) * ((m + 2147516352 * (c + 1)).fmod 1000000007) + m / 99991 + 7349 * (c + 1)) (show (0 : Int) < 998244353 by decide)
      have h4 := Int.fmod_lt_of_pos (((m + 2147516352 * (c + 1)).fmod 1000000007) * ((m + 2147516352 * (c + 1)).fmod 1000000007) + m / 99991 + 7349 * (c + 1)) (show (0 : Int) < 998244353 by decide)
      have hw : ((((m + 2147516352 * (c + 1)).fmod 1000000007) * ((m + 2147516352 * (c + 1)).fmod 1000000007) + m / 99991 + 7349 * (c + 1)).fmod 998244353).natAbs < 2 ^ 62 := by omega
      refine ⟨_, rfl, _, rfl, _, _, rfl, rfl, wide_mul (a := 62) (b := 62) hw hw (by decide) (by decide) (by decide), ?_⟩
      refine ⟨_, rfl, _, _, rfl, rfl, .inl ⟨_, rfl, _, _, rfl, rfl, (by show wide_nz 2147483629; unfold wide_nz; decide), ?_⟩⟩
      refine ⟨_, rfl, _, _, rfl, rfl, wide_div (b := 30) (by decide) (by decide) (by decide) (by decide), .inl ⟨_, rfl, ?_⟩⟩
      refine ⟨_, rfl, _, _, rfl, rfl, tnz, ?_⟩
      refine q _ _ (fun b o hb e => ?_) (fun b hb => ?_) ⟨_, _, _, upd_same, hu0, hu1, hm0, hm1, by omega, by omega⟩ (Int.fmod_nonneg_of_pos _ ht0) (Int.fmod_lt_of_pos _ ht0)
      · rw [upd_ne hb]; exact e
      · have : b ≠ p := fun e => by rw [e, hp] at hb; cases hb
        rw [upd_ne this]; exact hb
end
end Mk

set_option Elab.async false
set_option maxRecDepth 100000
set_option maxHeartbeats 4000000
namespace Mk
open PySem L2

abbrev sChoice : Stmt := top 44
abbrev sChoices : Stmt := top 42

/-- the pot at p has been drawn from -/
structure Nx (p : Addr) (n : Nat) (H H' : Hp) : Prop where
  but : But p H H'
  fresh : ∀ b, H b = none → H' b = none
  pot : Pot H' p n

def spChoose : Sp := fun vs H Q _ => ∃ (p : Addr) (n : Nat), Pot H p n ∧ n < PB ∧
  ((∃ (a : Addr) (xs : List V), vs = [.ref p, .ref a] ∧ a ≠ p ∧ H a = some (.lst xs) ∧ 0 < xs.length ∧ xs.length < 1000000 ∧ ∀ H' v, Nx p (n + 1) H H' → v ∈ xs → Q v H') ∨
   (∃ z : Str, vs = [.ref p, .str z] ∧ 0 < z.length ∧ z.length < 1000000 ∧ ∀ H' c, Nx p (n + 1) H H' → c ∈ z.cps.toList → Q (.str ⟨#[c]⟩) H'))

section
variable {P : Program} {w : World} {K : PySem.W.Frag} {mg : Str → Option Value} {base : Heap}
/-- a def of the text that is called by its name -/
structure Cd (P : Program) (w : World) (K : PySem.W.Frag) (mg : Str → Option Value) (base : Heap) (k : Nat) (x : Str) (ps : List Str) (sp : Sp) : Prop where
  ex : ∃ (f : Addr) (fd : FuncData), FnOk P w K mg base CX0 k f fd ps sp ∧ mg x = some (.ref f) ∧ PySem.W.keepIn K (.ref f) = true ∧ Binds K fd ps []
theorem scChoice : FnScope ["_law_cup_here", "_law_items"] ["_law_cup_here", "_law_items"] (defScope sChoice) := ⟨rfl, rfl, rfl, by decide +kernel, rfl, by decide +kernel, by decide +kernel⟩
theorem ok_choice {f : Addr} {fd : FuncData} (F : Fun K "_law_choice" "_law_choice" sChoice f fd) (B : Bn mg) (D : Cd P w K mg base 1 "_law_toss" ["_law_cup_here", "_law_total"] spDip) : FnOk P w K mg base CX0 2 f fd ["_law_cup_here", "_law_items"] spChoose := by
  obtain ⟨d, dd, G, gm, gk, gb⟩ := D.ex
  refine F.ok scChoice (fun vs H Q E h => ?_) (fun cdv A outer s H vs Q E hr h => ?_)
  · obtain ⟨p, n, _, _, ⟨a, xs, rfl, _⟩ | ⟨z, rfl, _⟩⟩ := h
    · rfl
    · rfl
  · obtain ⟨p, n, hp, hn, ⟨a, xs, rfl, hap, ha, h0, h1, q⟩ | ⟨z, rfl, h0, h1, q⟩⟩ := h
    · refine ⟨_, pss_one (ps_ret (pe_ix ix_list (pv 1) (pe_call G hr (by rfl) gm gk gb .nil pass0 (pa_cons (pv 0) (pa_cons (pe_callB call_len_seq (by rfl) B.len PySem.boot_len (pa_cons (pv 1) pa_nil)) pa_nil))) (fun _ _ => rfl))), ?_⟩
      refine ⟨_, rfl, _, rfl, _, rfl, a, _, rfl, .inl (SqL.of ha), p, n, _, rfl, hp, hn, by omega, by omega, fun H' k hb hf hP hk0 hk1 => ?_⟩
      have hk : k.toNat < xs.length := by omega
      refine ⟨a, xs, k, xs[k.toNat], rfl, rfl, SqL.of (hb _ _ hap ha), ?_, q _ _ ⟨hb, hf, hP⟩ (List.getElem_mem hk)⟩
      exact at_ofA (j := k.toNat) (by omega) (List.getElem?_eq_getElem hk)
    · refine ⟨_, pss_one (ps_ret (pe_ix ix_str (pv 1) (pe_call G hr (by rfl) gm gk gb .nil pass0 (pa_cons (pv 0) (pa_cons (pe_callB call_len_str (by rfl) B.len PySem.boot_len (pa_cons (pv 1) pa_nil)) pa_nil))) (fun _ _ => rfl))), ?_⟩
      refine ⟨_, rfl, _, rfl, _, rfl, z, rfl, Nat.le_trans (Nat.le_of_lt h1) (by decide), p, n, (z.length : Int), rfl, hp, hn, by omega, by omega, fun H' k hb hf hP hk0 hk1 => ?_⟩
      have hk : k.toNat < z.cps.toList.length := by
        have e : z.cps.toList.length = z.length := by rfl
        rw [e]
        omega
      refine ⟨z, k, z.cps.toList[k.toNat], rfl, rfl, Nat.le_trans (Nat.le_of_lt h1) (by decide), ?_, q _ _ ⟨hb, hf, hP⟩ (List.getElem_mem hk)⟩
      exact at_ofA (j := k.toNat) (by omega) (List.getElem?_eq_getElem hk)

end
end Mk

set_option Elab.async false
set_option maxRecDepth 100000
set_option maxHeartbeats 4000000
namespace Mk
open PySem L2

/-! ### strip -/
def gB (c : Nat) : Bool := decide (97 ≤ c) && decide (c ≤ 101)
def wB (z : Str) : Bool := (cs z).all gB
theorem isW_of {z : Str} (h : wB z = true) : IsW z := fun c hc => by
  have := List.all_eq_true.mp h c hc
  simpa [gB] using this
theorem wB_of {z : Str} (h : IsW z) : wB z = true := List.all_eq_true.mpr fun c hc => by
  have := h c hc
  simpa [gB] using this
theorem tw_full {p : Nat → Bool} : ∀ {l : List Nat}, (l.takeWhile p).length = l.length → l.all p = true
  | [], _ => rfl
  | a :: l, h => by
    rw [List.takeWhile_cons] at h
    cases e : p a with
    | false => rw [e] at h; simp at h
    | true =>
      rw [e] at h
      rw [List.all_cons, e, tw_full (l := l) (by simpa using h)]
      rfl
theorem tw_drop {p : Nat → Bool} : ∀ {l : List Nat}, (l.drop (l.takeWhile p).length).all p = true → l.all p = true
  | [], _ => rfl
  | a :: l, h => by
    rw [List.takeWhile_cons] at h
    cases e : p a with
    | false =>
      rw [e] at h
      simp [e] at h
    | true =>
      rw [e] at h
      rw [List.all_cons, e, tw_drop (l := l) (by simpa using h)]
      rfl
theorem tw_all {p : Nat → Bool} : ∀ {l : List Nat}, l.all p = true → l.takeWhile p = l
  | [], _ => rfl
  | a :: l, h => by
    rw [List.all_cons, Bool.and_eq_true] at h
    rw [List.takeWhile_cons, h.1, if_pos rfl, tw_all h.2]
theorem goes_eq (c : Nat) : ("abcde" : Str).cps.contains c = gB c := by
  have e : ("abcde" : Str).cps = #[97, 98, 99, 100, 101] := by decide +kernel
  rw [e, Bool.eq_iff_iff]
  simp [gB]
  omega
theorem strip_len (z : Str) : (Txt.stripChars z "abcde").length = 0 ↔ wB z = true := by
  have hg : ("abcde" : Str).cps.contains = gB := funext goes_eq
  unfold Txt.stripChars
  rw [hg]
  unfold Txt.stripBy
  have hlo : stripLo gB true z = ((cs z).takeWhile gB).length := rfl
  have hhi : stripHi gB true z (stripLo gB true z) = (cs z).length - (((cs z).drop (stripLo gB true z)).reverse.takeWhile gB).length := rfl
  have hle : ((cs z).takeWhile gB).length ≤ (cs z).length := (List.takeWhile_sublist _).length_le
  have key : wB z = true ∨ stripLo gB true z < stripHi gB true z (stripLo gB true z) := by
    cases e : wB z with
    | true => exact .inl rfl
    | false =>
      refine .inr ?_
      rw [hhi, hlo]
      have h1 : (((cs z).drop ((cs z).takeWhile gB).length).reverse.takeWhile gB).length ≠ (((cs z).drop ((cs z).takeWhile gB).length).reverse).length := fun h => by
        have := tw_full h
        rw [List.all_reverse] at this
        have q : wB z = true := tw_drop this
        rw [e] at q
        cases q
      have h2 : (((cs z).drop ((cs z).takeWhile gB).length).reverse.takeWhile gB).length ≤ (((cs z).drop ((cs z).takeWhile gB).length).reverse).length := (List.takeWhile_sublist _).length_le
      rw [List.length_reverse, List.length_drop] at h1 h2
      omega
  by_cases hs : stripSame gB true true z = true
  · rw [if_pos hs]
    constructor
    · intro h
      show (cs z).all gB = true
      rw [List.length_eq_zero_iff.mp (show (cs z).length = 0 from h)]
      rfl
    · intro h
      have e1 : stripLo gB true z = z.length := by
        rw [hlo, tw_all h]
        rfl
      unfold stripSame at hs
      rw [Bool.and_eq_true, beq_iff_eq] at hs
      omega
  · rw [if_neg hs]
    have hl : (stripped gB true true z).length = stripHi gB true z (stripLo gB true z) - stripLo gB true z := by
      show ((z.cps.extract (stripLo gB true z) (stripHi gB true z (stripLo gB true z)))).size = _
      rw [Array.size_extract]
      have : stripHi gB true z (stripLo gB true z) ≤ z.cps.size := by
        rw [hhi]
        exact Nat.sub_le _ _
      omega
    rw [hl]
    constructor
    · intro h
      rcases key with k | k
      · exact k
      · omega
    · intro h
      have e1 : stripLo gB true z = (cs z).length := by rw [hlo, tw_all h]
      have e2 : stripHi gB true z (stripLo gB true z) ≤ (cs z).length := by
        rw [hhi]
        exact Nat.sub_le _ _
      omega
theorem strip_dec (z : Str) : decide (V.str (Txt.stripChars z "abcde") = V.str "") = wB z := by
  rw [Bool.eq_iff_iff, decide_eq_true_iff, ← strip_len z]
  constructor
  · intro h
    injection h with h
    rw [h]
    decide +kernel
  · intro h
    have : Txt.stripChars z "abcde" = "" := by
      generalize Txt.stripChars z "abcde" = y at h
      obtain ⟨a⟩ := y
      have : a = #[] := Array.eq_empty_of_size_eq_zero h
      subst this
      decide +kernel
    rw [this]
end Mk

set_option Elab.async false
set_option maxRecDepth 100000
set_option maxHeartbeats 4000000
namespace Mk
open PySem L2

abbrev sIsSign : Stmt := top 16
abbrev sIsWord : Stmt := top 17
abbrev sLIsWord : Stmt := top 0

/-- a value that is no text, of a kind that isinstance tells -/
def NoStr (K : PySem.W.Frag) (H : Hp) (v : V) : Prop := ∃ t : Value, TyX K H v t ∧ PySem.W.kitOne K t (.type "str") = some false
def sgB (z : Str) : Bool := decide (z.length = 1) && wB z
/-- a def that judges a value, reading alone -/
def spJudge (g : Str → Bool) (K : PySem.W.Frag) : Sp := fun vs H Q _ => ∃ v : V, vs = [v] ∧ ((∃ z : Str, v = .str z ∧ z.length ≤ 100000 ∧ Q (.bl (g z)) H) ∨ (NoStr K H v ∧ Q (.bl false) H))
structure Wn (mg : Str → Option Value) : Prop where
  isi : mg "isinstance" = none
  str : mg "str" = none
  sg : ∃ t, mg "SIGNS" = some (.str "abcde" t)
section
variable {P : Program} {w : World} {K : PySem.W.Frag} {mg : Str → Option Value} {base : Heap}
theorem scIsSign : FnScope ["value"] ["value"] (defScope sIsSign) := ⟨rfl, rfl, rfl, by decide +kernel, rfl, by decide +kernel, by decide +kernel⟩
theorem len_one {z : Str} (h : z.length = 1) : ∃ c, z = ⟨#[c]⟩ := by
  obtain ⟨a⟩ := z
  obtain ⟨l⟩ := a
  match l, h with
  | [c], _ => exact ⟨c, rfl⟩
theorem ok_isSign {f : Addr} {fd : FuncData} (F : Fun K "is_sign" "is_sign" sIsSign f fd) (B : Bn mg) (W : Wn mg) : FnOk P w K mg base CX0 1 f fd ["value"] (spJudge sgB K) := by
  obtain ⟨t, hsg⟩ := W.sg
  refine F.ok scIsSign (fun vs H Q E h => ?_) (fun cdv A outer s H vs Q E hr h => ?_)
  · obtain ⟨v, rfl, _⟩ := h
    rfl
  · obtain ⟨v, rfl, h⟩ := h
    refine ⟨_, pss_one (ps_ret (pe_and (pe_callB call_isi (by rfl) W.isi (by decide +kernel) (pa_cons (pv 0) (pa_cons (pe_bltn (v := .ty "str") (u := .type "str") (by rfl) W.str (by decide +kernel) rfl) pa_nil)))
      (pe_and (pe_cmpR op_eq (pe_callB call_len (by rfl) B.len PySem.boot_len (pa_cons (pv 0) pa_nil)) pe_int (nomark _)) (pe_one (pe_cmpR op_in_sign (pv 0) (pe_glob (v := .str "abcde") (by rfl) hsg ⟨_, rfl⟩) (by rfl)))))), ?_⟩
    rcases h with ⟨z, rfl, hz, q⟩ | ⟨⟨tv, hty, hk⟩, q⟩
    · have hz2 : z.length ≤ sizeLine := Nat.le_trans hz (by decide)
      refine ⟨_, rfl, _, _, _, _, true, rfl, .ty "str", .base (.str z), kit_ty (by decide +kernel), _, rfl, iteT ?_⟩
      refine ⟨_, rfl, _, z.length, rfl, ⟨hz2, rfl⟩, rfl, _, rfl, ?_⟩
      have e1 : decide (V.int (z.length : Nat) = V.int 1) = decide (z.length = 1) := by
        rw [dec_int, Bool.eq_iff_iff]
        simp
        omega
      rw [e1]
      by_cases h1 : z.length = 1
      · rw [decide_eq_true h1]
        refine iteT ?_
        obtain ⟨c, rfl⟩ := len_one h1
        refine ⟨_, rfl, c, "abcde", rfl, rfl, ?_⟩
        have e2 : decide (c ∈ ("abcde" : Str).cps.toList) = sgB ⟨#[c]⟩ := by
          have e3 : ("abcde" : Str).cps.toList = [97, 98, 99, 100, 101] := by decide +kernel
          rw [e3, Bool.eq_iff_iff]
          simp [sgB, wB, gB, cs, Str.length]
          omega
        rw [e2]
        exact q
      · rw [decide_eq_false h1]
        refine iteF ?_
        have e2 : sgB z = false := by simp [sgB, h1]
        rw [e2] at q
        exact q
    · refine ⟨_, rfl, _, _, _, _, false, rfl, .ty "str", hty, hk, _, rfl, iteF q⟩
theorem scIsWord : FnScope ["value"] ["value"] (defScope sIsWord) := ⟨rfl, rfl, rfl, by decide +kernel, rfl, by decide +kernel, by decide +kernel⟩
theorem ok_isWord {f : Addr} {fd : FuncData} (F : Fun K "is_word" "is_word" sIsWord f fd) (W : Wn mg) : FnOk P w K mg base CX0 1 f fd ["value"] (spJudge wB K) := by
  obtain ⟨t, hsg⟩ := W.sg
  refine F.ok scIsWord (fun vs H Q E h => ?_) (fun cdv A outer s H vs Q E hr h => ?_)
  · obtain ⟨v, rfl, _⟩ := h
    rfl
  · obtain ⟨v, rfl, h⟩ := h
    refine ⟨_, pss_one (ps_ret (pe_and (pe_callB call_isi (by rfl) W.isi (by decide +kernel) (pa_cons (pv 0) (pa_cons (pe_bltn (v := .ty "str") (u := .type "str") (by rfl) W.str (by decide +kernel) rfl) pa_nil)))
      (pe_one (pe_cmpR op_eq (pe_bm PySem.F.plainAttrs_str PySem.F.slot_str_strip PySem.F.type_str_strip mt_stripChars (pv 0) (pa_cons (pe_glob (v := .str "abcde") (by rfl) hsg ⟨_, rfl⟩) pa_nil)) pe_str (nomark _))))), ?_⟩
    rcases h with ⟨z, rfl, hz, q⟩ | ⟨⟨tv, hty, hk⟩, q⟩
    · have hz2 : z.length ≤ sizeLine := Nat.le_trans hz (by decide)
      refine ⟨_, rfl, _, _, _, _, true, rfl, .ty "str", .base (.str z), kit_ty (by decide +kernel), _, rfl, iteT ?_⟩
      refine ⟨_, rfl, rfl, _, _, rfl, rfl, hz2, rfl, ?_⟩
      rw [strip_dec]
      exact q
    · refine ⟨_, rfl, _, _, _, _, false, rfl, .ty "str", hty, hk, _, rfl, iteF q⟩
end
end Mk

set_option Elab.async false
set_option linter.all false
set_option maxRecDepth 100000
set_option maxHeartbeats 4000000
namespace Mk
open PySem L2

theorem cs_inj {x y : Str} (h : cs x = cs y) : x = y := by
  obtain ⟨⟨a⟩⟩ := x
  obtain ⟨⟨b⟩⟩ := y
  have : a = b := h
  rw [this]
theorem byCs_trans (a b c : Str) (h1 : byCs a b = true) (h2 : byCs b c = true) : byCs a c = true := by
  simp only [byCs, decide_eq_true_eq] at *
  exact List.le_trans h1 h2
theorem byCs_total (a b : Str) : (byCs a b || byCs b a) = true := by
  simp only [byCs, Bool.or_eq_true, decide_eq_true_eq]
  exact List.le_total _ _
structure On (mg : Str → Option Value) : Prop where
  tuple : mg "tuple" = none
  all : mg "all" = none
  sorted : mg "sorted" = none
  set : mg "set" = none
end Mk

set_option Elab.async false
set_option linter.all false
set_option maxRecDepth 100000
set_option maxHeartbeats 4000000
namespace Mk
open PySem PySem.Spec PyProof.Rows L2

/-- a def's promise where nothing is being printed -/
structure FnG (P : Program) (w : World) (K : PySem.W.Frag) (mg : Str → Option Value) (base : Heap) (CX : CXT) (k : Nat) (f : Addr) (fd : FuncData) (ps : List Str) (sp : Sp) : Prop where
  len : ∀ vs H Q E, sp vs H Q E → vs.length = ps.length
  go : ∀ (A : Around) (outer : List Env) (s : Shared) (H : Hp) (args : Args) (us : List Value) (vs : List V) (Q : VK) (E : XK), Room k A → A.guards = some [] → Env0 P w K mg base A outer s H → BindsTo s fd args (ps.zip us) → Vals vs us → sp vs H Q E →
    codeAny (model P w) A (.call (.ref f) args) (CR CX outer P w H s Q E) s

section
variable {P : Program} {w : World} {K : PySem.W.Frag} {mg : Str → Option Value} {base : Heap} {CX : CXT} {k : Nat} {f : Addr} {sp : Sp} {N ps : List Str}
theorem fn_ofG {name qual : Str} {params : Arguments} {body : List Stmt} {scope : Scope} {dV kV doc pm cdv ct oc : Value} {an od : Option Addr} {osl : Array (Option Value)}
    (at0 : K.lookup f = some ⟨oc, od, .func (PySem.W.fnOf name qual params body scope dV kV doc pm an cdv ct), osl⟩) (cd0 : PySem.W.codeIn K cdv qual = true) (S : FnScope N ps scope)
    (len : ∀ vs H Q E, sp vs H Q E → vs.length = ps.length)
    (hb : ∀ (A : Around) (outer : List Env) (s : Shared) (H : Hp) (vs : List V) (Q : VK) (E : XK), Room k (A.deeper (envOfC qual scope s.heap.objs.size f cdv)) → A.guards = some [] → sp vs H Q E →
      ∃ t, PSs (cxOf CX P w K mg base N qual scope f cdv A outer s H E) body t ∧ t { nx := fun _ H' => Q .non H', rt := Q } (start N vs) H) :
    FnG P w K mg base CX (k + 1) f (PySem.W.fnOf name qual params body scope dV kV doc pm an cdv ct) ps sp := by
  refine ⟨len, fun A outer s H args us vs Q E hr gd e0 bd rel hsp => ?_⟩
  have lv := len _ _ _ _ hsp
  have kin : K.In s.heap := e0.mod.kin.keeps fun b o e => (e0.bs b o e).1
  have nol : s.heap.NoLimit := e0.mod.nolimit.keeps fun b o e => (e0.bs b o e).1
  have kinds : ∀ y ∈ ps.zip us, scope.names.lookup y.1 = some .local ∨ (scope.names.lookup y.1 = some .cell ∧ ((cellsFrom (s.heap.objs.size + 1) scope.names []).lookup y.1).isSome = true) := by
    rintro ⟨n, v⟩ hy
    exact (S.par n (List.of_mem_zip hy).1).imp id fun q => ⟨q, PySem.W.cellsFrom_some _ _ _ (.inl q)⟩
  refine codeAny_call_function hr.depth (kin _ _ at0) rfl S.co S.gen rfl (PySem.W.codeRec_of kin cd0) (bd _ _ _ _ ?_)
  refine wpAny_newFunctionEnv_cells S.kind kinds fun env he s1 x => ?_
  subst he
  obtain ⟨t, ht, hq⟩ := hb A outer s H vs Q E (hr.deeper _) gd hsp
  have I : Inv (cxOf CX P w K mg base N qual scope f cdv A outer s H E) [] (start N vs) H s1 := inv_start S hr.hd e0 lv rel x
  refine ⟨nol.keeps x.toInCall.keep, codeAny_func (wpAny_mono (ht.run [] s1 (start N vs) H _ I hq) (fun fl s' z => ?_) fun e s' z => z)⟩
  match fl, z with
  | .ret u, ⟨v, σ', H', J, rv, q⟩ => exact ⟨v, H', J.os, J.bare, J.base, J.hok, rv, q⟩
  | .next, ⟨σ', H', J, q⟩ => exact ⟨V.non, H', J.os, J.bare, J.base, J.hok, rfl, q⟩
  | .brk, ⟨_, _, _, q⟩ => exact q.elim
  | .cont, ⟨_, _, _, q⟩ => exact q.elim
/-- the rule for a def, where nothing is being printed -/
theorem Fun_okG {x qual : Str} {st : Stmt} {fd : FuncData} (F : Fun K x qual st f fd) (S : FnScope N ps (defScope st)) (len : ∀ vs H Q E, sp vs H Q E → vs.length = ps.length)
    (hb : ∀ (cdv : Value) (A : Around) (outer : List Env) (s : Shared) (H : Hp) (vs : List V) (Q : VK) (E : XK), Room k (A.deeper (envOfC qual (defScope st) s.heap.objs.size f cdv)) → A.guards = some [] → sp vs H Q E →
      ∃ t, PSs (cxOf CX0 P w K mg base N qual (defScope st) f cdv A outer s H E).nox (defBody st) t ∧ t { nx := fun _ H' => Q .non H', rt := Q } (start N vs) H) : FnG P w K mg base CX0 (k + 1) f fd ps sp := by
  obtain ⟨oc, od, kV, doc, pm, an, cdv, ct, osl, rfl, at0, cd0⟩ := F.ex
  refine fn_ofG at0 cd0 S len fun A outer s H vs Q E hr gd hsp => ?_
  obtain ⟨t, h, q⟩ := hb cdv A outer s H vs Q E hr gd hsp
  exact ⟨t, h.nox, q⟩
end
section
variable {X : Cx} {CX : CXT} {k : Nat} {f : Addr} {fd : FuncData} {ps : List Str} {sp : Sp} {E : XK} {x : Str} {p pos : Pos} {e : Expr} {es : List Expr} {t : TA}
theorem pe_callG (F : FnG X.prog X.w X.K X.mg X.base CX k f fd ps sp) (hr : Room k X.A) (gd : X.A.guards = some []) (hg : Gl X x) (hm : X.mg x = some (.ref f)) (hk : PySem.W.keepIn X.K (.ref f) = true) (hb : Binds X.K fd ps []) (hx : Passes CX X E)
    (ha : PA X (e :: es) t) (hdb : (x == ("__debug__" : Str)) = false := by decide) (he : starEach (e :: es) X.env = (false, eval e X.env) :: starEach es X.env := by rfl) (hpl : (backTo pos (starEach es X.env)).any (·.1) = false := by rfl) :
    PE X (.Call (.Name x p) (e :: es) [] pos) (tCall sp [] E t) := by
  refine ⟨fun pins s σ H Q I h => wpAny_Call_Name_kw (ld_glob I hg hm ?_ hdb)⟩
  refine PySem.W.callWith_K (h₀ := X.base) I.ok.mod.kin hk (thn (ha.run pos pins s σ H _ I h) fun us s1 ⟨vs, H1, I1, r, q⟩ => ⟨I1.kIn, ?_⟩) he hpl
  have q2 : sp (vs ++ []) H1 Q E := q
  rw [List.append_nil] at q2
  have lu : us.length = ps.length := by rw [← r.length]; exact F.len _ _ _ _ q2
  have bd := hb s1 us I1.kIn (by rw [List.append_nil]; exact lu)
  rw [List.append_nil] at bd
  refine wpAny_call (codeAny_mono (F.go X.A X.stack s1 H1 ⟨us, []⟩ us vs Q E hr gd I1.env0 bd r q2) fun r s' z => ?_)
  match r, z with
  | .error e, z => exact hx pins σ H1 s1 e s' I1 z
  | .ok (.ret u), z => exact I1.after z
  | .ok .next, z => exact False.elim z
  | .ok .brk, z => exact False.elim z
  | .ok .cont, z => exact False.elim z

/-- repr of data -/
theorem call_reprD (gd : X.A.guards = some []) (hu : X.A.units + 100 < cLine) : CallR X (.builtin "repr") (fun xs H Q => ∃ (a : Addr) (d : PyData), xs = [.ref a] ∧ Dp X.K H (.ref a) d ∧ d.showable = true ∧ d.hasDict = false ∧ d.depth ≤ 60 ∧ d.shown.length ≤ sizeLine ∧ Q (.str d.shown) H) := by
  intro pins s σ H xs us Q I r h
  obtain ⟨a, d, rfl, hd, h1, h2, h3, h4, q⟩ := h
  obtain ⟨u, rfl, hu1⟩ := vals1 r
  obtain ⟨as, rd⟩ := Dp.reads I d _ _ hd hu1
  obtain rfl : u = Value.ref a := hu1
  refine repr_of_reads' rd h1 (fun z => ?_) gd (by omega) (fun _ _ z => z) (fun h' v tk k => ⟨.str d.shown, H, I.kept k, ⟨_, rfl⟩, q⟩) h4
  rw [h2] at z
  cases z
end

section
variable {P : Program} {w : World} {K : PySem.W.Frag} {mg mb : Str → Option Value} {CX : CXT} {k : Nat} {fa a : Addr} {fd : FuncData} {x : Str} {sp : Sp} {s1 : Shared} {vs : List Value} {ns : List Int}
theorem law_callG (kin : K.In s1.heap) (hns : s1.heap.Ns mainGlobals mg) (hb : s1.heap.Ns builtinsNs mb) (hbb : ∀ x : Str, x ≠ "__name__" → mb x = bootBuiltins x) (nol : s1.heap.NoLimit) (hg : s1.gens = #[])
    (at0 : s1.heap.get? a = some { cls := .type "list", data := .seq vs.toArray }) (hi : IntsAre vs ns) (hl : ns.length ≤ sizeLine) (hr : Room k callerA)
    (F : ∀ base : Heap, K.In base → base.Ns mainGlobals mg → FnG P w K mg base CX k fa fd [x] sp) (bd : ∀ (s : Shared) (u : Value), BindsTo s fd ⟨[u], []⟩ [(x, u)])
    (hsp : ∀ H : Hp, Only H → SqL K H a (ns.map V.int) → sp [.ref a] H (fun v _ => v = .bl true) fun _ _ _ => False)
    (hCX : ∀ H e s', CX [] H s1 (fun _ _ _ => False) e s' → False) :
    codeAny (model P w) callerA (.call (.ref fa) ⟨[.ref a], []⟩) (fun r s' => r = .ok (.ret (.bool true)) ∧ OldK s1.heap s'.heap ∧ s'.os = s1.os ∧ AllBare s'.gens) s1 := by
  have rv := vals_ints hi
  have core : ∀ H : Hp, Only H → SqL K H a (ns.map V.int) → HOk P w H s1.heap → (∀ b, H b ≠ none → b = a) → (H a ≠ none → K.lookup a = none) →
      codeAny (model P w) callerA (.call (.ref fa) ⟨[.ref a], []⟩) (fun r s' => r = .ok (.ret (.bool true)) ∧ OldK s1.heap s'.heap ∧ s'.os = s1.os ∧ AllBare s'.gens) s1 := by
    intro H hO hS ok only noK
    have free : ∀ {b : Addr} {o : Obj}, s1.heap.get? b = some o → b ≠ a → H b = none := fun {b o} _ ne => by
      cases q : H b with
      | none => rfl
      | some u => exact absurd (only b (by rw [q]; exact fun z => nomatch z)) ne
    have nsH : ∀ {b : Addr} {m : Str → Option Value}, s1.heap.Ns b m → (hidT s1.heap H).Ns b m := fun {b m} ⟨o, es, ep, e, d, r⟩ => by
      refine ⟨o, es, ep, hidT_get e (free e fun z => ?_), d, r⟩
      rw [z, at0] at e
      cases e
      cases d
    have kinH : K.In (hidT s1.heap H) := fun b o e => by
      have e1 := kin b o e
      cases q : H b with
      | none => exact hidT_get e1 q
      | some u =>
        have z := only b (by rw [q]; exact fun z => nomatch z)
        subst z
        rw [noK (by rw [q]; exact fun z => nomatch z)] at e
        cases e
    have M0 : Mod K mg (hidT s1.heap H) := ⟨kinH, nsH hns, ⟨mb, nsH hb, hbb⟩, let ⟨mc, h1, h2⟩ := nol; ⟨mc, nsH h1, h2⟩⟩
    have e0 : Env0 P w K mg (hidT s1.heap H) callerA [] s1 H := ⟨rfl, M0, fun b o e => of_hidT e, Nat.le_of_eq (hidT_size _ _), trivial, fun b z => absurd (show b ∈ ([] : List Addr) from z) (by simp), ok, .of_eq hg⟩
    refine codeAny_mono ((F _ kinH (nsH hns)).go callerA [] s1 H ⟨[.ref a], []⟩ [.ref a] [.ref a] _ _ hr rfl e0 (bd s1 (.ref a)) (.cons rfl .nil) (hsp H hO hS)) fun r s' z => ?_
    match r, z with
    | .error e, z => exact (hCX H e s' z).elim
    | .ok .next, z => exact False.elim z
    | .ok .brk, z => exact False.elim z
    | .ok .cont, z => exact False.elim z
    | .ok (.ret u), ⟨v, H', os, bare, un, ok', rel, q⟩ =>
      obtain rfl : v = V.bl true := q
      obtain rfl : u = Value.bool true := rel
      refine ⟨rfl, OldK.of_keep fun b o e => ?_, os, bare⟩
      rcases hO b with z | ⟨ob, xs, z⟩
      · exact un.keep b o e z (fun q => absurd (show b ∈ ([] : List Addr) from q) (by simp)) (by simp)
      · have e1 := (ok b _ z).1
        have e2 := (ok' b _ (un.frzs b ob _ z)).1
        rw [e] at e1
        cases e1
        exact e2
  cases q : K.lookup a with
  | some o =>
    have e := kin a o q
    rw [at0] at e
    cases e
    refine core (fun _ => none) (fun _ => .inl rfl) (.inr ⟨_, vs.toArray, _, q, rfl, rfl, rfl, by rw [List.size_toArray, hi.length]; exact hl, by simpa using rv⟩) (fun b u z => nomatch z) (fun b z => absurd rfl z) fun z => absurd rfl z
  | none =>
    have self : ∀ {b : Addr} {u : HO}, (if b = a then some (HO.frz { cls := .type "list", data := .seq vs.toArray } (.lst (ns.map V.int))) else none) = some u → b = a ∧ u = .frz { cls := .type "list", data := .seq vs.toArray } (.lst (ns.map V.int)) := fun {b u} z => by
      by_cases c : b = a
      · rw [if_pos c] at z
        exact ⟨c, (Option.some.inj z).symm⟩
      · rw [if_neg c] at z
        cases z
    refine core (fun b => if b = a then some (.frz { cls := .type "list", data := .seq vs.toArray } (.lst (ns.map V.int))) else none) (fun b => ?_) (.inl (.inr ⟨_, if_pos rfl⟩)) (fun b u z => ?_) (fun b z => ?_) fun _ => q
    · by_cases c : b = a
      · exact .inr ⟨_, _, if_pos c⟩
      · exact .inl (if_neg c)
    · obtain ⟨rfl, rfl⟩ := self z
      exact ⟨at0, by rw [List.length_map]; exact hl, vs, _, rv, at0⟩
    · by_cases c : b = a
      · exact c
      · exact absurd (if_neg c) z
end
/-- the goal that k_head leaves, from the law's promise -/
theorem walk_ofG {l : PySem.W.OpenLaw} {n k : Nat} {q : Program} {loose : List Str} {XP : (Str → Option Value) → Heap → Prop} {YP : World → Heap → Prop} {d : DefRec} {K : Params → PySem.W.Frag} {sp : World → Sp} {x : Str}
    (hn : l.most = some n) (hn2 : n ≤ sizeLine) (hdf : d.params.defaults = []) (hr : Room k callerA) (hY : ∀ (w : World) (h : Heap), YP w h → (K w.params).In h)
    (F : ∀ (w : World) (mg : Str → Option Value) (fa : Addr) (h : Heap), (K w.params).In h → h.Ns mainGlobals mg → XP mg h → mg d.name = some (.ref fa) →
      ∃ fd : FuncData, (∀ (s : Shared) (u : Value), BindsTo s fd ⟨[u], []⟩ [(x, u)]) ∧ ∀ base : Heap, (K w.params).In base → base.Ns mainGlobals mg → FnG l.prog w (K w.params) mg base CX0 k fa fd [x] (sp w))
    (hsp : ∀ (w : World) (H : Hp) (a : Addr) (ns : List Int), ns.length ≤ n → Only H → SqL (K w.params) H a (ns.map V.int) → sp w [.ref a] H (fun v _ => v = .bl true) fun _ _ _ => False) :
    PySem.W.WalkO q loose XP YP l.row.toRowW d [] (fun f vs => PySem.call f vs) := by
  refine Att.attach_call hn hdf fun w s0 s1 mg mb fa o pm cd doc a vs ns G Y ho hd hcd hmg hobj hints hlen hg => ?_
  have kin := hY w _ Y
  obtain ⟨fd, bd, hF⟩ := F w mg fa _ kin G.T.g G.X hmg
  exact law_callG kin G.T.g G.T.b G.T.builtins G.T.nolimit hg hobj hints (Nat.le_trans hlen hn2) hr hF bd (fun H hO hS => hsp w H a ns hlen hO hS) fun _ _ _ z => z
end Mk

set_option Elab.async false
set_option linter.all false
set_option maxRecDepth 100000
set_option maxHeartbeats 4000000
namespace Mk
open PySem L2

abbrev sIsNum : Stmt := top 9
abbrev sIsNumW : Stmt := top 10
abbrev sChkNum : Stmt := top 0
abbrev sChkSigns : Stmt := top 0

abbrev LG : Int := 999999999999999999999999999999999999999999999999999999999999
def nuB (i : Int) : Bool := decide (-LG ≤ i) && decide (i ≤ LG)
def nwB (i a b : Int) : Bool := nuB i && (decide (a ≤ i) && decide (i ≤ b))
def spIsNum : Sp := fun vs H Q _ => ∃ i : Int, vs = [.int i] ∧ Q (.bl (nuB i)) H
def spIsNumW : Sp := fun vs H Q _ => ∃ i a b : Int, vs = [.int i, .int a, .int b] ∧ Q (.bl (nwB i a b)) H
def spChkNum : Sp := fun vs H Q _ => ∃ i a b : Int, vs = [.int i, .int a, .int b] ∧ nwB i a b = true ∧ Q .non H
/-- ascending unlike signs -/
def AscSg (zs : List Str) : Prop := zs ≠ [] ∧ (∀ z ∈ zs, sgB z = true) ∧ zs.Pairwise (fun x y => cs x < cs y)
def spChkSigns : Sp := fun vs H Q _ => ∃ (t : Addr) (zs : List Str), vs = [.ref t] ∧ H t = some (.tup (zs.map V.str)) ∧ AscSg zs ∧ zs.length ≤ 5 ∧ ∀ H', Same H H' → Q .non H'
structure Nn (mg : Str → Option Value) : Prop where
  bool : mg "bool" = none
  lg : ∃ t, mg "LARGEST" = some (.int LG t)
section
variable {P : Program} {w : World} {K : PySem.W.Frag} {mg : Str → Option Value} {base : Heap}
theorem scIsNum : FnScope ["value"] ["value"] (defScope sIsNum) := ⟨rfl, rfl, rfl, by decide +kernel, rfl, by decide +kernel, by decide +kernel⟩
theorem ok_isNum {f : Addr} {fd : FuncData} (F : Fun K "is_number" "is_number" sIsNum f fd) (B : Bn mg) (W : Wn mg) (N : Nn mg) : FnOk P w K mg base CX0 1 f fd ["value"] spIsNum := by
  obtain ⟨t, hL⟩ := N.lg
  refine F.ok scIsNum (fun vs H Q E h => ?_) (fun cdv A outer s H vs Q E hr h => ?_)
  · obtain ⟨i, rfl, _⟩ := h
    rfl
  · obtain ⟨i, rfl, q⟩ := h
    refine ⟨_, pss_cons (ps_if (PW.pt (pw_or (pt_val (pe_callB call_isi (by rfl) W.isi (by decide +kernel) (pa_cons (pv 0) (pa_cons (pe_bltn (v := .ty "bool") (u := .type "bool") (by rfl) N.bool (by decide +kernel) rfl) pa_nil))))
        (pw_or1 (pt_not (pt_val (pe_callB call_isi (by rfl) W.isi (by decide +kernel) (pa_cons (pv 0) (pa_cons (pe_bltn (v := .ty "int") (u := .type "int") (by rfl) B.int (by decide +kernel) rfl) pa_nil)))))))) (pss_one (ps_ret pe_bl)) pss_nil)
      (pss_one (ps_ret (pe_chain op_le op_le (pe_un un_neg (pe_glob (v := .int LG) (by rfl) hL ⟨_, rfl⟩)) (pv 0) (pe_glob (v := .int LG) (by rfl) hL ⟨_, rfl⟩)))), ?_⟩
    refine ⟨_, rfl, _, _, _, _, false, rfl, .ty "bool", .base (.int i), kit_ty (by decide +kernel), _, rfl, iteF ?_⟩
    refine ⟨_, rfl, _, _, _, _, true, rfl, .ty "int", .base (.int i), kit_ty (by decide +kernel), _, rfl, iteF ?_⟩
    refine ⟨_, rfl, _, rfl, _, _, rfl, rfl, _, rfl, ?_⟩
    by_cases h1 : -LG ≤ i
    · rw [decide_eq_true h1]
      refine iteT ⟨_, _, rfl, rfl, ?_⟩
      have e : decide (i ≤ LG) = nuB i := by
        unfold nuB
        rw [decide_eq_true h1, Bool.true_and]
      rw [← e] at q
      exact q
    · rw [decide_eq_false h1]
      have e : nuB i = false := by
        unfold nuB
        rw [decide_eq_false h1, Bool.false_and]
      rw [e] at q
      exact iteF q
theorem scIsNumW : FnScope ["value", "least", "most"] ["value", "least", "most"] (defScope sIsNumW) := ⟨rfl, rfl, rfl, by decide +kernel, rfl, by decide +kernel, by decide +kernel⟩
theorem ok_isNumW {f : Addr} {fd : FuncData} (F : Fun K "is_number_within" "is_number_within" sIsNumW f fd) (J : Cd P w K mg base 1 "is_number" ["value"] spIsNum) : FnOk P w K mg base CX0 2 f fd ["value", "least", "most"] spIsNumW := by
  obtain ⟨j, dj, G, gm, gk, gb⟩ := J.ex
  refine F.ok scIsNumW (fun vs H Q E h => ?_) (fun cdv A outer s H vs Q E hr h => ?_)
  · obtain ⟨i, a, b, rfl, _⟩ := h
    rfl
  · obtain ⟨i, a, b, rfl, q⟩ := h
    refine ⟨_, pss_one (ps_ret (pe_and (pe_call G hr (by rfl) gm gk gb .nil pass0 (pa_cons (pv 0) pa_nil)) (pe_one (pe_chain op_le op_le (pv 1) (pv 0) (pv 2))))), ?_⟩
    refine ⟨_, rfl, i, rfl, _, rfl, ?_⟩
    unfold nwB at q
    cases e : nuB i with
    | false =>
      rw [e, Bool.false_and] at q
      exact iteF q
    | true =>
      rw [e, Bool.true_and] at q
      refine iteT ⟨_, rfl, _, rfl, _, _, rfl, rfl, _, rfl, ?_⟩
      by_cases h1 : a ≤ i
      · rw [decide_eq_true h1] at q ⊢
        rw [Bool.true_and] at q
        exact iteT ⟨_, rfl, _, _, rfl, rfl, q⟩
      · rw [decide_eq_false h1] at q ⊢
        exact iteF q
theorem sorted_same {le : Str → Str → Bool} (tr : ∀ a b c, le a b = true → le b c = true → le a c = true) (tot : ∀ a b, (le a b || le b a) = true) (anti : ∀ a b, le a b = true → le b a = true → a = b) {l zs : List Str} (p : l.Perm zs) (s : zs.Pairwise (fun x y => le x y = true)) : l.mergeSort le = zs := by
  have s1 := List.pairwise_mergeSort tr tot l
  have p1 := (List.mergeSort_perm l le).trans p
  exact List.Perm.eq_of_pairwise (fun a b _ _ h1 h2 => anti a b h1 h2) s1 s p1
theorem dpAll_str {K : PySem.W.Frag} {H : Hp} : ∀ zs : List Str, DpAll K H (zs.map V.str) (zs.map PyData.str)
  | [] => .nil
  | z :: zs => .cons (.str z) (dpAll_str zs)
theorem lay_strs : ∀ zs : List Str, (∀ z ∈ zs, PyData.strOk z = true) → PyData.canLayAll0 (zs.map PyData.str) = true
  | [], _ => by simp [PyData.canLayAll0]
  | z :: zs, h => by simp [PyData.canLayAll0, PyData.canLay0, h z List.mem_cons_self, lay_strs zs fun y hy => h y (List.mem_cons_of_mem _ hy)]
theorem depth_strs : ∀ zs : List Str, PyData.depthAll (zs.map PyData.str) = 0
  | [] => by simp [PyData.depthAll]
  | z :: zs => by simp [PyData.depthAll, PyData.depth, depth_strs zs]
theorem shaped_strs {zs : List Str} (h : ∀ z ∈ zs, PyData.strOk z = true) : SeqAt.shaped (.tuple (zs.map PyData.str)) = true := by
  unfold SeqAt.shaped
  simp [PyData.canLay0, PyData.depth, lay_strs zs h, depth_strs]
theorem ok_of_wB {z : Str} (h : wB z = true) : PyData.strOk z = true := by
  unfold PyData.strOk
  rw [← Array.all_toList]
  refine List.all_eq_true.mpr fun c hc => ?_
  have := isW_of h c hc
  simp
  omega
theorem byCs_anti (a b : Str) (h1 : byCs a b = true) (h2 : byCs b a = true) : a = b := by
  simp only [byCs, decide_eq_true_eq] at h1 h2
  exact cs_inj (List.le_antisymm h1 h2)
theorem nodup_lt {zs : List Str} (h : zs.Pairwise (fun x y => cs x < cs y)) : zs.Nodup := List.Pairwise.imp (fun {a b} h (e : a = b) => List.lt_irrefl (cs b) (by rw [e] at h; exact h)) h
end
end Mk

set_option Elab.async false
set_option linter.all false
set_option maxRecDepth 100000
set_option maxHeartbeats 4000000
/-! d.values() of a dict whose keys are tuples -/
namespace Mk
open PySem PySem.Spec PyProof.Rows PySem.W L2

section
variable {X : Cx} {pins : List (Addr × Obj)} {σ : L2.St} {H : Hp} {s : Shared} {d : Addr} {o : Obj}
theorem frzV {kvs : List (List Key × V)} (I : Inv X pins σ H s) (hf : H d = some (.frz o (.dT kvs))) :
    (d == sysModules) = false ∧ ∃ (es : Array DictEntry) (ep : Nat), o.data = .dict es ep ∧ es.size = kvs.length ∧ s.heap.DictRaw d es ep ∧
      ∀ (i : Nat) (k : List Key) (v : V), kvs[i]? = some (k, v) → ∃ en : DictEntry, es[i]? = some en ∧ RelV v en.val := by
  obtain ⟨ho1, zl, hsm, xs, pr, o', es, ep, ho2, hx, hdt, he, _⟩ := I.hok d _ hf
  obtain rfl : o = o' := Option.some.inj (ho1.symm.trans ho2)
  refine ⟨hsm, es, ep, hdt, ?_, ⟨o, ho1, hx, hdt⟩, fun i k v e => ?_⟩
  · exact (size_of_entries he).trans (Paired.length pr).symm
  · obtain ⟨b, hb, _, _, e3⟩ := paired_get pr e
    have q := entry_at he i
    rw [hb] at q
    exact ⟨_, q, e3⟩
end
/-- the values of the locked dict at d, whose keys are tuples -/
def Itdt (d : Addr) (o : Obj) (kvs : List (List Key × V)) : It where
  go := fun i H => H d = some (.frz o (.dT kvs)) ∧ i < kvs.length
  yld := fun i H x H' => H' = H ∧ ∃ k, kvs[i]? = some (k, x)
  stop := fun i H => H d = some (.frz o (.dT kvs)) ∧ kvs.length ≤ i
theorem walk_valuesT {d : Addr} {o : Obj} {kvs : List (List Key × V)} : Walk (Itdt d o kvs) kvs.length (fun H => H d = some (.frz o (.dT kvs))) (fun i H x H' => H' = H ∧ ∃ k, kvs[i]? = some (k, x)) where
  goes := fun i _ hi q => ⟨q, hi⟩
  stops := fun _ q => ⟨q, Nat.le_refl _⟩
  yields := fun _ _ _ _ _ _ y => y
section
variable {P : Program} {w : World} {K : PySem.W.Frag} {tg : Expr} {d : Addr} {o : Obj} {es : Array DictEntry} {ep : Nat}
theorem turn_valsT {kvs : List (List Key × V)} (it : Addr) (hod : o.data = .dict es ep) : Turn P w K tg (Itdt d o kvs) [it] it (fun i h => h.IsValIter it d i kvs.length ep) where
  mem := List.mem_singleton.mpr rfl
  obj := fun i h st b hb => by
    obtain rfl := List.mem_singleton.mp hb
    obtain ⟨oi, e, c, dd⟩ := st
    refine ⟨oi, e, fun v z => ?_⟩
    rw [dd] at z
    cases z
  keep := fun i h h' st k => st.at fun oi e => k it (List.mem_singleton.mpr rfl) oi e
  item := by
    intro X hP hw hK hc i pins s σ H E I hf st hg
    subst hP hw hK
    have ⟨f0, f1, f2, f3, f4, f5⟩ := hf it (List.mem_singleton.mpr rfl)
    have ⟨hsm, es', ep', hdt, hsz, hr, ent⟩ := frzV I hg.1
    obtain ⟨rfl, rfl⟩ := dict_ep hod hdt
    have hgi : i < kvs.length := hg.2
    have hkv : kvs[i]? = some kvs[i] := List.getElem?_eq_getElem hgi
    obtain ⟨en, hen, ru⟩ := ent i _ _ hkv
    have hlt : i < es'.size := by rw [hsz]; exact hg.2
    have een : es'[i] = en := Option.some.inj ((Array.getElem?_eq_getElem hlt).symm.trans hen)
    rw [← hsz] at st ⊢
    refine wpAny_pyNext_values_item_raw st hr hlt fun h' st' sb => ?_
    have I1 := I.turned (t' := s.toks) (h' := h') (fun b ob hb e => (sb.2 b hb).trans e) f0 f1 f3 f4 f5
    have ⟨oi, e, c, dd⟩ := id st'
    exact ⟨_, rfl, go_of (s := { s with heap := h' }) e c dd (by decide) ⟨_, H, I1, by rw [een]; exact ru, ⟨rfl, _, hkv⟩, st', fun b hb => (hf b hb).1⟩⟩
  done := by
    intro X hP hw hK hc i pins s σ H E I hf st hg
    subst hP hw hK
    have ⟨f0, f1, f2, f3, f4, f5⟩ := hf it (List.mem_singleton.mpr rfl)
    have ⟨hsm, es', ep', hdt, hsz, hr, ent⟩ := frzV I hg.1
    obtain ⟨rfl, rfl⟩ := dict_ep hod hdt
    rw [← hsz] at st
    refine wpAny_pyNext_values_end_raw (I.ok.hd hc) st hr (by rw [hsz]; exact hg.2) fun h' eb => ?_
    exact ⟨rfl, I.turned (t' := s.toks) (fun b ob hb e => eb b ob hb e) f0 f1 f3 f4 f5⟩
  self := fun A i s Q E st h => wpAny_pyIter_valiter st h
end
def iValsT (td : TE) : TI := fun σ H R => td σ H fun x H1 => ∃ d o kvs, x = .ref d ∧ H1 d = some (.frz o (.dT kvs)) ∧ R (Itdt d o kvs) H1
section
variable {X : Cx} {tg e : Expr} {td : TE} {apos cpos : Pos}
theorem pi_valuesT (he : PE X e td) (hbase : attributeBase e "values" X.env (eval e X.env) = eval e X.env := by rfl) (hline : (apos.endLine == cpos.line) = true := by rfl) : PI X tg (.Call (.Attribute e "values" apos) [] [] cpos) (iValsT td) := by
  refine ⟨fun pins s σ H R I h => ?_⟩
  refine wpAny_Call_method (T := "dict") (id := "dict.values") hbase rfl hline F.plainAttrs_dict F.slot_dict_values F.type_dict_values (thn (he.run pins s σ H _ I h) fun u s1 z => ?_)
  obtain ⟨x, H1, I1, rx, d, o, kvs, rfl, hd, q⟩ := z
  obtain rfl : u = Value.ref d := rx
  have ⟨hsm, es, ep, hdt, hsz, hr, ent⟩ := frzV I1 hd
  have ⟨o1, ho1, hx1, hd1⟩ := id hr
  have I2 := I1.kept (t' := s1.toks) (h' := s1.heap.push { cls := .type "dict_values", data := .fields #[.ref d] }) fun b ob q => Heap.get?_push_of_some _ q
  have fin : wpAny (model X.prog X.w) X.A (pyIter (.ref s1.heap.objs.size)) (PIE X pins σ tg R) X.xe { s1 with heap := s1.heap.push { cls := .type "dict_values", data := .fields #[.ref d] } } := by
    refine wpAny_pyIter_values_raw (d := d) (es := es) (ep := ep) ⟨_, Heap.get?_push_size _ rfl, rfl, rfl⟩ ⟨o1, Heap.get?_push_of_some _ ho1, hx1, hd1⟩ (pi_one (tk := s1.toks) I2 _ (turn_valsT _ hdt) ⟨_, Heap.get?_push_size _ rfl, rfl, ?_⟩ q)
    rw [hsz] <;> rfl
  refine ⟨⟨o1, ho1, hx1.1⟩, ?_, ?_⟩
  · intro b e
    cases e
    exact ⟨o1, ho1, hx1.2.1⟩
  · exact method_meetsIn F.slot_dict_values F.entry_dict_values rfl (PySem.evalArgs_none ⟨rfl, ⟨o1, ho1, hx1.1⟩, F.args_dict_values_1 _, _, meets_dict_values_raw d hsm, ⟨⟨es, ep, hr⟩, fin⟩⟩)
end
end Mk

set_option Elab.async false
set_option linter.all false
set_option maxRecDepth 100000
set_option maxHeartbeats 4000000
namespace Mk
open PySem L2

abbrev sAreT : Stmt := top 24
abbrev sIsST : Stmt := top 25
abbrev sHasP : Stmt := top 26
abbrev sIsPair : Stmt := top 27

/-! ### tables of prices -/
abbrev PTab := List (Str × Int)
abbrev STab := List ((Str × Str) × Int)
def kvsP (t : PTab) : List (Key × V) := t.map fun p => (Sum.inr p.1, V.int p.2)
def kvsS (t : STab) : List (List Key × V) := t.map fun p => ([Sum.inr p.1.1, Sum.inr p.1.2], V.int p.2)
structure Pn (mg : Str → Option Value) : Prop where
  dict : mg "dict" = none
  mp : ∃ t, mg "MAX_PRICE" = some (.int 9 t)
  ms : ∃ t, mg "MAX_SWAP_PRICE" = some (.int 18 t)
/-- a generic walk: a comprehension of booleans -/
theorem wk_any {J : It} {n : Nat} {Gd : Hp → Prop} {Y : Nat → Hp → V → Hp → Prop} (wk : Walk J n Gd Y) {Body : V → Hp → (Hp → Prop) → Prop} {H0 : Hp} {Qd : Hp → Prop} (Pv : Nat → Hp → Prop) (h0 : Pv 0 H0) (hG : ∀ i H, i ≤ n → Pv i H → Gd H)
    (hs : ∀ i x H H', i < n → Pv i H → Y i H x H' → Body x H' (Pv (i + 1))) (hd : ∀ H, Pv n H → Qd H) :
    ∃ W : Nat → Nat → Hp → Prop, (∃ m, W 0 m H0) ∧ ∀ i m H, W i m H → (J.stop i H ∧ Qd H) ∨ (J.go i H ∧ ∃ Nx : Hp → Prop, (∀ H', Nx H' → ∃ m', m' < m ∧ W (i + 1) m' H') ∧ ∀ x H', J.yld i H x H' → Body x H' Nx) := by
  refine ⟨fun i m H => m = n - i ∧ i ≤ n ∧ Pv i H, ⟨n, by simp, Nat.zero_le _, h0⟩, ?_⟩
  rintro i m H ⟨rfl, le, p⟩
  by_cases lt : i < n
  · exact .inr ⟨wk.goes i H lt (hG i H le p), Pv (i + 1), fun H' p' => ⟨n - (i + 1), by omega, rfl, lt, p'⟩, fun x H' y => hs i x H H' lt p (wk.yields i H x H' lt (hG i H le p) y)⟩
  · obtain rfl : i = n := by omega
    exact .inl ⟨wk.stops H (hG _ H le p), hd H p⟩
theorem Same.upN {H H1 : Hp} {l : Addr} {o : HO} (a : Same H H1) (hl : H l = none) : Same H (upd H1 l o) := fun b u e => by
  rw [upd_ne (ne_of_none e hl)]
  exact a b u e
section
variable {X : Cx} {tg e : Expr} {td : TE} {apos cpos : Pos}
/-- d.values(), keys of either kind -/
theorem pi_valuesU (he : PE X e td) (hbase : attributeBase e "values" X.env (eval e X.env) = eval e X.env := by rfl) (hline : (apos.endLine == cpos.line) = true := by rfl) : PI X tg (.Call (.Attribute e "values" apos) [] [] cpos) (fun σ H R => iVals td σ H R ∨ iValsT td σ H R) :=
  ⟨fun pins s σ H R I h => h.elim (fun h => (pi_values he hbase hline).run pins s σ H R I h) (fun h => (pi_valuesT he hbase hline).run pins s σ H R I h)⟩
end
/-- d is a dict of prices: of signs, or of pairs -/
def IsTab (H : Hp) (d : Addr) (ns : List Int) : Prop := (∃ t : PTab, H d = some (.dK (kvsP t)) ∧ ns = t.map (·.2)) ∨ ∃ t : STab, H d = some (.dT (kvsS t)) ∧ ns = t.map (·.2)
def spHasP : Sp := fun vs H Q _ => ∃ (d : Addr) (m : Int) (ns : List Int), vs = [.ref d, .int m] ∧ IsTab H d ns ∧ ns.length ≤ 30 ∧ ∀ H', Same H H' → Q (.bl (ns.all fun i => nwB i 1 m)) H'
section
variable {P : Program} {w : World} {K : PySem.W.Frag} {mg : Str → Option Value} {base : Heap}
theorem scHasP : FnScope ["value", "most", "price"] ["value", "most"] (defScope sHasP) := ⟨rfl, rfl, rfl, by decide +kernel, rfl, by decide +kernel, by decide +kernel⟩
/-- what stands behind the walk over the locked dict at d: the list D of answers -/
structure Bls (H H1 : Hp) (d D : Addr) (u : HO) (bs : List Bool) : Prop where
  but : ∀ b o, b ≠ d → H b = some o → H1 b = some o
  at_ : H1 d = some u
  out : H1 D = some (.lst (bs.map V.bl))
theorem Bls.start {H : Hp} {d D : Addr} {u : HO} (hD : upd H d u D = none) : D ≠ d ∧ H D = none ∧ Bls H (upd (upd H d u) D (.lst [])) d D u [] := by
  have ne : D ≠ d := fun e => by
    rw [e, upd_same] at hD
    cases hD
  have h0 : H D = none := by rwa [upd_ne ne] at hD
  refine ⟨ne, h0, fun b o hb e => ?_, ?_, upd_same⟩
  · rw [upd_ne (ne_of_none e h0), upd_ne hb]
    exact e
  · rw [upd_ne ne.symm]
    exact upd_same
theorem Bls.push {H H1 : Hp} {d D : Addr} {u : HO} {bs : List Bool} (W : Bls H H1 d D u bs) (ne : D ≠ d) (h0 : H D = none) (b : Bool) : Bls H (upd H1 D (.lst (bs.map V.bl ++ [.bl b]))) d D u (bs ++ [b]) := by
  refine ⟨fun a o hb e => ?_, ?_, ?_⟩
  · rw [upd_ne (ne_of_none e h0)]
    exact W.but a o hb e
  · rw [upd_ne ne.symm]
    exact W.at_
  · rw [upd_same, List.map_append]
    rfl
theorem Bls.done {H H1 : Hp} {d D : Addr} {u u0 : HO} {bs : List Bool} (W : Bls H H1 d D u bs) (hd : H d = some u0) : Same H (upd H1 d u0) := fun b o e => by
  by_cases hb : b = d
  · subst hb
    rw [hd] at e
    cases e
    exact upd_same
  · rw [upd_ne hb]
    exact W.but b o hb e
theorem ok_hasP {f : Addr} {fd : FuncData} (F : Fun K "_has_prices" "_has_prices" sHasP f fd) (W : Wn mg) (O : On mg) (N : Pn mg) (J : Cd P w K mg base 2 "is_number_within" ["value", "least", "most"] spIsNumW) : FnOk P w K mg base CX0 3 f fd ["value", "most"] spHasP := by
  obtain ⟨j, dj, G, gm, gk, gb⟩ := J.ex
  refine F.ok scHasP (fun vs H Q E h => ?_) (fun cdv A outer s H vs Q E hr h => ?_)
  · obtain ⟨d, m, ns, rfl, _⟩ := h
    rfl
  · obtain ⟨d, m, ns, rfl, ht, hl, q⟩ := h
    refine ⟨_, pss_cons (ps_if (pt_not (pt_val (pe_callB call_isi (by rfl) W.isi (by decide +kernel) (pa_cons (pv 0) (pa_cons (pe_bltn (v := .ty "dict") (u := .type "dict") (by rfl) N.dict (by decide +kernel) rfl) pa_nil))))) (pss_one (ps_ret pe_bl)) pss_nil)
      (pss_one (ps_ret (pe_callB (cr_all rfl) (by rfl) O.all (by decide +kernel) (pa_cons (pe_lock (pe_lc (own := [("price", 2)]) (g := gName 2) (tt := tYes) rfl scHasP.nd (pi_valuesU (pv 0)) (blkOk_by (N := ["value", "most", "price"]) (sc := defScope sHasP) (by decide +kernel))
          (fun _ _ _ _ _ => pg_name (i := 2) scHasP.nd rfl (Or.inl rfl)) (fun _ _ _ _ _ => pts_nil) (fun _ _ _ _ _ => pe_call G hr (by rfl) gm gk gb .nil pass0 (pa_cons (pv 2) (pa_cons pe_int (pa_cons (pv 1) pa_nil)))))) pa_nil)))), ?_⟩
    have small : ns.length < sizeLine := Nat.lt_of_lt_of_le (by omega : ns.length < 4000) (by decide)
    rcases ht with ⟨t, hd, rfl⟩ | ⟨t, hd, rfl⟩
    · refine ⟨_, rfl, _, _, _, _, true, rfl, .ty "dict", .base (.dK hd), kit_ty (by decide +kernel), _, rfl, iteF ?_⟩
      refine ⟨d, _, hd, trivial, fun od => .inl ⟨_, rfl, d, od, kvsP t, rfl, upd_same, fun D hD => ?_⟩⟩
      obtain ⟨ne, h0, st⟩ := Bls.start hD
      refine wk_any (walk_values (d := d) (o := od) (kvs := kvsP t)) (fun i H1 => Bls H H1 d D (.frz od (.dK (kvsP t))) ((t.take i).map fun p => nwB p.2 1 m)) st (fun i H1 _ h1 => h1.at_) ?_ ?_
      · rintro i x H1 H2 hi h1 ⟨rfl, k, hx⟩
        have hi2 : i < t.length := by simpa [kvsP] using hi
        have e : x = V.int t[i].2 := by
          unfold kvsP at hx
          rw [List.getElem?_map, List.getElem?_eq_getElem hi2] at hx
          have := Option.some.inj hx
          injection this with _ e2
          exact e2.symm
        subst e
        refine ⟨rfl, _, rfl, _, rfl, t[i].2, 1, m, rfl, _, h1.out, ?_, ?_⟩
        · rw [List.length_map, List.length_map, List.length_take]
          rw [List.length_map] at small
          omega
        · have := h1.push ne h0 (nwB t[i].2 1 m)
          rw [List.take_add_one, List.getElem?_eq_getElem hi2, List.map_append]
          exact this
      · rintro H1 h1
        have e : (kvsP t).length = t.length := by simp [kvsP]
        rw [e, List.take_length] at h1
        refine ⟨h1.at_, D, _, rfl, SqL.of (by rw [upd_ne ne]; exact h1.out), ?_⟩
        rw [List.all_map]
        have := q _ (h1.done hd)
        rw [List.all_map] at this
        exact this
    · refine ⟨_, rfl, _, _, _, _, true, rfl, .ty "dict", .base (.dT hd), kit_ty (by decide +kernel), _, rfl, iteF ?_⟩
      refine ⟨d, _, hd, trivial, fun od => .inr ⟨_, rfl, d, od, kvsS t, rfl, upd_same, fun D hD => ?_⟩⟩
      obtain ⟨ne, h0, st⟩ := Bls.start hD
      refine wk_any (walk_valuesT (d := d) (o := od) (kvs := kvsS t)) (fun i H1 => Bls H H1 d D (.frz od (.dT (kvsS t))) ((t.take i).map fun p => nwB p.2 1 m)) st (fun i H1 _ h1 => h1.at_) ?_ ?_
      · rintro i x H1 H2 hi h1 ⟨rfl, k, hx⟩
        have hi2 : i < t.length := by simpa [kvsS] using hi
        have e : x = V.int t[i].2 := by
          unfold kvsS at hx
          rw [List.getElem?_map, List.getElem?_eq_getElem hi2] at hx
          have := Option.some.inj hx
          injection this with _ e2
          exact e2.symm
        subst e
        refine ⟨rfl, _, rfl, _, rfl, t[i].2, 1, m, rfl, _, h1.out, ?_, ?_⟩
        · rw [List.length_map, List.length_map, List.length_take]
          rw [List.length_map] at small
          omega
        · have := h1.push ne h0 (nwB t[i].2 1 m)
          rw [List.take_add_one, List.getElem?_eq_getElem hi2, List.map_append]
          exact this
      · rintro H1 h1
        have e : (kvsS t).length = t.length := by simp [kvsS]
        rw [e, List.take_length] at h1
        refine ⟨h1.at_, D, _, rfl, SqL.of (by rw [upd_ne ne]; exact h1.out), ?_⟩
        rw [List.all_map]
        have := q _ (h1.done hd)
        rw [List.all_map] at this
        exact this
end
end Mk

set_option Elab.async false
set_option linter.all false
set_option maxRecDepth 100000
set_option maxHeartbeats 4000000
namespace Mk
open PySem PySem.Spec PyProof.Rows L2

section
variable {prog : Program} {w : World} {A : Around} {E : Value → Shared → Prop} {s : Shared} {r d : Addr} {n : Nat} {Pi : Nat → Value → Prop} {OK : Heap → Prop}
theorem new_tuple_d {Q1 : Value → Shared → Prop} (Kd : PySem.W.KdlSrc prog w "dict" r d n Pi OK) (hh : A.handled = none) (hok : OK s.heap) (hn : n ≤ sizeLine) (hT : s.TypeIs (.ref r) "dict")
    (h : ∀ (h' : Heap) (tk : Nat) (acc : Array Value), (∀ b o, s.heap.get? b = some o → h'.get? b = some o) → ItemsOf Pi acc n → Q1 (.ref h'.objs.size) { s with heap := h'.push { cls := .type "tuple", data := .seq acc }, toks := tk }) :
    codeAny (model prog w) A (.call (.builtin "tuple.__new__") ⟨[.type "tuple", .ref r], []⟩) (wants Q1 E) s := by
  refine codeAny_of_tree ?_
  show wpAny _ A.in1 (do checkBuiltinCall "tuple.__new__" ⟨[.type "tuple", .ref r], []⟩; again (.builtin "tuple.__new__" ⟨[.type "tuple", .ref r], []⟩)) _ _ s
  refine wpAny_bind (wpAny_of_eq (F.newCall_tuple_1 _) (wpAny_pure ⟨plainId_quiet F.plain_tuple_new _, codeAny_builtin F.entry_tuple_new ?_⟩))
  rw [Around.under_plainId F.plain_tuple_new _]
  have s1 := sub_tuple_self
  have s2 := init_tuple_lookup
  have s3 := madeHere_tuple
  have h1 : A.in1.handled = none := hh
  wp_walk using wpAny_typeOf hT, PySem.W.kdu_collect (A := A.in1) Kd h1 hok hn
  intro h' tk acc k it
  show wpAny _ _ (Builtin.Tuple.tupleExact acc.toList.toArray >>= fun v => ret v) _ _ _
  unfold Builtin.Tuple.tupleExact
  have e : acc.toList.toArray = acc := by simp
  rw [e]
  refine wpAny_bind (wpAny_newObj_type ?_ (by show acc.size ≤ sizeLine; rw [it.1]; exact hn))
  exact wpAny_pure (h h' tk acc k it)
theorem call_tuple_d {Q : Value → Shared → Prop} (Kd : PySem.W.KdlSrc prog w "dict" r d n Pi OK) (hh : A.handled = none) (hok : OK s.heap) (hn : n ≤ sizeLine) (hT : s.TypeIs (.ref r) "dict")
    (h : ∀ (h' : Heap) (tk : Nat) (acc : Array Value), (∀ b o, s.heap.get? b = some o → h'.get? b = some o) → ItemsOf Pi acc n → Q (.ref h'.objs.size) { s with heap := h'.push { cls := .type "tuple", data := .seq acc }, toks := tk }) :
    wpAny (model prog w) A (call (.type "tuple") [.ref r]) Q E s := by
  refine callType_codes (Q₁ := fun v s1 => s1.TypeIs v "tuple" ∧ Q v s1) F.called_tuple (F.typeCall_tuple_1 _) F.entry_object_init
    (new_tuple_d (A := A.in1) Kd hh hok hn hT fun h' tk acc k it => ⟨⟨_, Heap.get?_push_size _ rfl, rfl⟩, h h' tk acc k it⟩) fun v s1 z => ?_
  exact ⟨z.1, F.args_object_init_2 v _, object_init_meets F.called_tuple.init.lookup F.called_tuple.made (by decide) prog w A.in1 _ s1 ⟨z.1, rfl, z.2⟩⟩
end
/-- tuple(d): its keys -/
def rTupD : List V → Hp → VK → Prop := fun xs H Q => ∃ (p : Addr) (kvs : List (Key × V)), xs = [.ref p] ∧ H p = some (.dK kvs) ∧ ∀ q, H q = none → Q (.ref q) (upd H q (.tup (kvs.map fun kv => kV kv.1)))
theorem cr_tupD {X : Cx} (hc : X.calm = true) : CallR X (.type "tuple") rTupD := by
  intro pins s σ H xs us Q I r h
  obtain ⟨p, kvs, rfl, hk, q⟩ := h
  rw [Vals.ref1 r]
  obtain ⟨z, lo, vs, rk, hd⟩ := (show ObjOk X.prog X.w H s.heap p (.dK kvs) from I.hok p _ hk)
  obtain ⟨ep, hat⟩ := hd.dictAt
  have hl : kvs.length = vs.length := Paired.length rk
  have hT : s.TypeIs (.ref p) "dict" := by
    obtain ⟨o, es, ep2, e, ex, _⟩ := hd
    exact ⟨o, e, ex.1⟩
  refine call_tuple_d (PySem.W.kdl_dict (knd := mixKind X.prog X.w) (kvs := vs) (ep := ep) lo) (I.ok.hd hc) hat (by rw [← hl]; exact z) hT fun h' tk acc k it => ?_
  have I1 : Inv X pins σ H { s with heap := h', toks := tk } := I.kept k
  have fr : H h'.objs.size = none := I1.hok.fresh (Nat.le_refl _)
  have el : acc.toList.length = acc.size := by simp
  have rv : Vals (kvs.map fun kv => kV kv.1) acc.toList := vals_of_at (by rw [List.length_map, el, it.1, hl]) fun j x v h1 h2 => by
    obtain ⟨ky, y, e1, e2⟩ := it.2 j v (by rw [← Array.getElem?_toList]; exact h2)
    have e3 : (kvs.map (·.1))[j]? = some ky := by
      rw [KV.keys rk, List.getElem?_map, e1]
      rfl
    have e4 : (kvs.map fun kv => kV kv.1) = (kvs.map (·.1)).map kV := by
      rw [List.map_map]
      rfl
    rw [e4, List.getElem?_map, e3] at h1
    obtain rfl : kV ky = x := Option.some.inj h1
    exact keyIs_rel e2
  refine ⟨.ref _, upd H h'.objs.size (.tup (kvs.map fun kv => kV kv.1)), I1.laid (t' := tk) (fun b o e => Heap.get?_push_of_some _ e) (Nat.le_refl _) ⟨by rw [List.length_map]; exact z, acc.toList, rv, ?_⟩, rfl, q _ fr⟩
  rw [Array.toArray_toList]
  exact ⟨_, Heap.get?_push_size _ rfl, rfl, _, rfl⟩
end Mk

set_option Elab.async false
set_option linter.all false
set_option maxRecDepth 100000
set_option maxHeartbeats 4000000
namespace Mk
open PySem L2

theorem kvsP_len (t : PTab) : (kvsP t).length = t.length := by simp [kvsP]
theorem kvsS_len (t : STab) : (kvsS t).length = t.length := by simp [kvsS]
theorem kvsP_keys (t : PTab) : (kvsP t).map (·.1) = (t.map (·.1)).map Sum.inr := by simp [kvsP]
theorem kvsP_at {t : PTab} {i : Nat} (h : i < t.length) : (kvsP t)[i]? = some (Sum.inr t[i].1, V.int t[i].2) := by
  unfold kvsP
  rw [List.getElem?_map, List.getElem?_eq_getElem h]
  rfl
theorem kvsS_at {t : STab} {i : Nat} (h : i < t.length) : (kvsS t)[i]? = some ([Sum.inr t[i].1.1, Sum.inr t[i].1.2], V.int t[i].2) := by
  unfold kvsS
  rw [List.getElem?_map, List.getElem?_eq_getElem h]
  rfl
def okP (t : PTab) (m : Int) : Bool := t.all fun p => nwB p.2 1 m
def okS (t : STab) (m : Int) : Bool := t.all fun p => nwB p.2 1 m
def spIsST : Sp := fun vs H Q _ => ∃ (d : Addr) (t : PTab), vs = [.ref d] ∧ H d = some (.dK (kvsP t)) ∧ t.length ≤ 5 ∧ (∀ p ∈ t, sgB p.1 = true) ∧ ∀ H', Same H H' → Q (.bl (okP t 9 && !t.isEmpty)) H'
def spPair : Sp := fun vs H Q _ => ∃ (q t : Addr) (x y : Str) (zs : List Str), vs = [.ref q, .ref t] ∧ H q = some (.tup [.str x, .str y]) ∧ H t = some (.tup (zs.map V.str)) ∧ Q (.bl (decide (x ∈ zs) && (decide (y ∈ zs) && decide (x ≠ y)))) H
theorem inV_dec (x : Str) (zs : List Str) : inV (.str x) (zs.map V.str) = decide (x ∈ zs) := by
  unfold inV
  rw [List.any_map, Bool.eq_iff_iff, decide_eq_true_iff, List.any_eq_true]
  constructor
  · rintro ⟨y, hy, e⟩
    have : eqV (.str y) (.str x) = true := e
    simp [eqV] at this
    rw [← this]
    exact hy
  · intro h
    refine ⟨x, h, ?_⟩
    show eqV (.str x) (.str x) = true
    simp [eqV]
theorem flat_str (zs : List Str) : (zs.map V.str).all flatV = true := by
  rw [List.all_map]
  exact List.all_eq_true.mpr fun _ _ => rfl
section
variable {P : Program} {w : World} {K : PySem.W.Frag} {mg : Str → Option Value} {base : Heap}
theorem scIsPair : FnScope ["value", "signs"] ["value", "signs"] (defScope sIsPair) := ⟨rfl, rfl, rfl, by decide +kernel, rfl, by decide +kernel, by decide +kernel⟩
theorem ok_isPair {f : Addr} {fd : FuncData} (F : Fun K "_is_pair" "_is_pair" sIsPair f fd) (B : Bn mg) (W : Wn mg) (O : On mg) : FnOk P w K mg base CX0 1 f fd ["value", "signs"] spPair := by
  refine F.ok scIsPair (fun vs H Q E h => ?_) (fun cdv A outer s H vs Q E hr h => ?_)
  · obtain ⟨q, t, x, y, zs, rfl, _⟩ := h
    rfl
  · obtain ⟨q, t, x, y, zs, rfl, hq, ht, k⟩ := h
    refine ⟨_, pss_cons (ps_if (PW.pt (pw_or (pt_not (pt_val (pe_callB call_isi (by rfl) W.isi (by decide +kernel) (pa_cons (pv 0) (pa_cons (pe_bltn (v := .ty "tuple") (u := .type "tuple") (by rfl) O.tuple (by decide +kernel) rfl) pa_nil)))))
        (pw_or1 (pt_cmpR op_ne (pe_callB call_len_seq (by rfl) B.len PySem.boot_len (pa_cons (pv 0) pa_nil)) pe_int (nomark _))))) (pss_one (ps_ret pe_bl)) pss_nil)
      (pss_one (ps_ret (pe_and (pe_cmpR op_in_seq (pe_ix ix_tup (pv 0) pe_int (fun _ _ => rfl)) (pv 1) (by rfl)) (pe_and (pe_cmpR op_in_seq (pe_ix ix_tup (pv 0) pe_int (fun _ _ => rfl)) (pv 1) (by rfl))
        (pe_one (pe_cmpR op_ne (pe_ix ix_tup (pv 0) pe_int (fun _ _ => rfl)) (pe_ix ix_tup (pv 0) pe_int (fun _ _ => rfl)) (nomark _))))))), ?_⟩
    refine ⟨_, rfl, _, _, _, _, true, rfl, .ty "tuple", .base (.tup hq), kit_ty (by decide +kernel), _, rfl, iteF ?_⟩
    refine ⟨_, rfl, q, _, rfl, .inr (SqT.of hq), rfl, _, rfl, iteF ?_⟩
    refine ⟨_, rfl, q, _, 0, _, rfl, rfl, SqT.of hq, rfl, _, rfl, t, _, rfl, .inr (SqT.of ht), rfl, flat_str zs, _, rfl, ?_⟩
    rw [inV_dec]
    cases e1 : decide (x ∈ zs) with
    | false =>
      rw [e1] at k
      exact iteF k
    | true =>
      rw [e1] at k
      refine iteT ⟨_, rfl, q, _, 1, _, rfl, rfl, SqT.of hq, rfl, _, rfl, t, _, rfl, .inr (SqT.of ht), rfl, flat_str zs, _, rfl, ?_⟩
      rw [inV_dec]
      cases e2 : decide (y ∈ zs) with
      | false =>
        rw [e2] at k
        exact iteF k
      | true =>
        rw [e2] at k
        refine iteT ⟨_, rfl, q, _, 0, _, rfl, rfl, SqT.of hq, rfl, _, rfl, q, _, 1, _, rfl, rfl, SqT.of hq, rfl, rfl, ?_⟩
        have e3 : (!decide (V.str x = V.str y)) = decide (x ≠ y) := by
          rw [Bool.eq_iff_iff]
          simp
        rw [e3]
        exact k
end
end Mk

set_option Elab.async false
set_option linter.all false
set_option maxRecDepth 100000
set_option maxHeartbeats 4000000
namespace Mk
open PySem L2

theorem sg_len {z : Str} (h : sgB z = true) : z.length ≤ 100000 := by
  unfold sgB at h
  rw [Bool.and_eq_true, decide_eq_true_eq] at h
  omega
theorem sg_ok {z : Str} (h : sgB z = true) : PyData.strOk z = true := by
  unfold sgB at h
  rw [Bool.and_eq_true] at h
  exact ok_of_wB h.2
section
variable {P : Program} {w : World} {K : PySem.W.Frag} {mg : Str → Option Value} {base : Heap}
theorem scIsST : FnScope ["value", "sign"] ["value"] (defScope sIsST) := ⟨rfl, rfl, rfl, by decide +kernel, rfl, by decide +kernel, by decide +kernel⟩
theorem ok_isST {f : Addr} {fd : FuncData} (F : Fun K "_is_sign_table" "_is_sign_table" sIsST f fd) (O : On mg) (N : Pn mg) (J : Cd P w K mg base 3 "_has_prices" ["value", "most"] spHasP) (S : Cd P w K mg base 1 "is_sign" ["value"] (spJudge sgB K)) : FnOk P w K mg base CX0 4 f fd ["value"] spIsST := by
  obtain ⟨j, dj, G, gm, gk, gb⟩ := J.ex
  obtain ⟨c, dc, Gc, cm, ck, cb⟩ := S.ex
  obtain ⟨tm, hm9⟩ := N.mp
  refine F.ok scIsST (fun vs H Q E h => ?_) (fun cdv A outer s H vs Q E hr h => ?_)
  · obtain ⟨d, t, rfl, _⟩ := h
    rfl
  · obtain ⟨d, t, rfl, hd, hl, hv, q⟩ := h
    refine ⟨_, pss_cons (ps_if (PW.pt (pw_or (pt_not (pt_val (pe_call G hr (by rfl) gm gk gb .nil pass0 (pa_cons (pv 0) (pa_cons (pe_glob (v := .int 9) (by rfl) hm9 ⟨_, rfl⟩) pa_nil)))))
        (pw_or1 (pt_not (pt_truth (pv 0) (by intro _; rfl)))))) (pss_one (ps_ret pe_bl)) pss_nil)
      (pss_one (ps_ret (pe_callB (cr_all rfl) (by rfl) O.all (by decide +kernel) (pa_cons (pe_lock (pe_lc (own := [("sign", 1)]) (g := gName 1) (tt := tYes) rfl scIsST.nd (pi_keys (pv 0)) (blkOk_by (N := ["value", "sign"]) (sc := defScope sIsST) (by decide +kernel))
          (fun _ _ _ _ _ => pg_name (i := 1) scIsST.nd rfl (Or.inl rfl)) (fun _ _ _ _ _ => pts_nil) (fun _ _ _ _ _ => pe_call Gc (hr.mono (by decide)) (by rfl) cm ck cb .nil pass0 (pa_cons (pv 1) pa_nil)))) pa_nil)))), ?_⟩
    refine ⟨_, rfl, d, 9, t.map (·.2), rfl, .inl ⟨t, hd, rfl⟩, by rw [List.length_map]; omega, fun H1 hS => ⟨_, rfl, ?_⟩⟩
    have ea : ((t.map (·.2)).all fun i => nwB i 1 9) = okP t 9 := by
      unfold okP
      rw [List.all_map]
      rfl
    rw [ea]
    cases e1 : okP t 9 with
    | false =>
      rw [e1] at q
      exact iteT (q _ hS)
    | true =>
    rw [e1] at q
    have hd1 := hS _ _ hd
    refine iteF ⟨_, rfl, _, .inr (.inr ⟨_, hd1, rfl⟩), ?_⟩
    cases t with
    | nil => exact iteT (q _ hS)
    | cons a l =>
    refine iteF ⟨d, _, hd1, trivial, fun od => ?_⟩
    generalize hT : (a :: l) = t at *
    have q : ∀ H', Same H H' → Q (.bl true) H' := by
      intro H' h
      have := q H' h
      rw [← hT] at this
      exact this
    refine ⟨_, rfl, d, od, rfl, .inl ⟨kvsP t, upd_same, fun D hD => ?_⟩⟩
    obtain ⟨ne, h0, st⟩ := Bls.start hD
    refine wk_any (walk_keys (d := d) (o := od) (kvs := kvsP t)) (fun i H2 => Bls H1 H2 d D (.frz od (.dK (kvsP t))) (List.replicate i true)) st (fun i H2 _ h2 => h2.at_) ?_ ?_
    · rintro i x H2 H3 hi h2 ⟨rfl, k, v, hx, rfl⟩
      have hi2 : i < t.length := by rwa [kvsP_len] at hi
      rw [kvsP_at hi2] at hx
      cases hx
      have sg := hv _ (List.getElem_mem hi2)
      refine ⟨rfl, _, rfl, _, rfl, .inl ⟨t[i].1, rfl, sg_len sg, _, h2.out, ?_, ?_⟩⟩
      · rw [List.length_map, List.length_replicate]
        exact Nat.lt_of_lt_of_le (by omega : i < 4000) (by decide)
      · rw [sg, List.replicate_succ']
        exact h2.push ne h0 true
    · rintro H2 h2
      have ea : (List.replicate (kvsP t).length true).all id = true := List.all_eq_true.mpr fun b hb => (List.mem_replicate.mp hb).2
      refine ⟨h2.at_, D, _, rfl, SqL.of (by rw [upd_ne ne]; exact h2.out), ?_⟩
      rw [ea]
      exact q _ (Same.trans hS (h2.done hd1))
end
end Mk

set_option Elab.async false
set_option linter.all false
set_option maxRecDepth 100000
set_option maxHeartbeats 4000000
namespace Mk
open PySem PySem.Spec L2 PyProof.Rows

theorem rise_up : ∀ {r : List Str} {p : Str}, risingS p r = true → (p :: r).Pairwise (fun a b => byCs a b = true)
  | [], p, _ => List.pairwise_singleton _ _
  | x :: r, p, h => by
    unfold risingS at h
    rw [Bool.and_eq_true, ltCps_eq] at h
    have hp : byCs p x = true := by
      unfold byCs
      have h1 := h.1
      simp only [Bool.not_eq_true', decide_eq_false_iff_not] at h1
      rw [decide_eq_true_iff]
      exact List.not_lt.mp h1
    have ih := rise_up h.2
    refine List.pairwise_cons.mpr ⟨fun y hy => ?_, ih⟩
    rcases List.mem_cons.mp hy with rfl | hy
    · exact hp
    · exact byCs_trans p x y hp ((List.pairwise_cons.mp ih).1 y hy)
theorem sorted_up : ∀ {l : List Str}, sortedS l = true → l.Pairwise (fun a b => byCs a b = true)
  | [], _ => .nil
  | _ :: _, h => rise_up h
theorem sorted_one {xs ys : List Str} (p : xs.Perm ys) (h1 : sortedS xs = true) (h2 : sortedS ys = true) : xs = ys :=
  List.Perm.eq_of_pairwise (fun a b _ _ k1 k2 => byCs_anti a b k1 k2) (sorted_up h1) (sorted_up h2) p
theorem shaped_strsL {zs : List Str} (h : ∀ z ∈ zs, PyData.strOk z = true) : SeqAt.shaped (.list (zs.map PyData.str)) = true := by
  unfold SeqAt.shaped
  simp [PyData.canLay0, PyData.depth, lay_strs zs h, depth_strs]
/-- three tables that agree in their signs -/
structure Agree (t1 t2 : PTab) (t3 : STab) : Prop where
  sg : ∀ p ∈ t1, sgB p.1 = true
  nd : (t1.map (·.1)).Nodup
  l1 : t1.length ≤ 5
  pm : (t2.map (·.1)).Perm (t1.map (·.1))
  l3 : t3.length ≤ 20
  pr : ∀ p ∈ t3, p.1.1 ∈ t1.map (·.1) ∧ p.1.2 ∈ t1.map (·.1) ∧ p.1.1 ≠ p.1.2
theorem Agree.sg2 {t1 t2 : PTab} {t3 : STab} (a : Agree t1 t2 t3) : ∀ p ∈ t2, sgB p.1 = true := fun p hp => by
  obtain ⟨q, hq, e⟩ := List.mem_map.mp (a.pm.mem_iff.mp (List.mem_map.mpr ⟨p, hp, rfl⟩))
  rw [← e]
  exact a.sg q hq
theorem Agree.l2 {t1 t2 : PTab} {t3 : STab} (a : Agree t1 t2 t3) : t2.length ≤ 5 := by
  have := a.pm.length_eq
  rw [List.length_map, List.length_map] at this
  rw [this]
  exact a.l1
/-- they stand in the heap -/
structure Tabs (H : Hp) (p o s : Addr) (t1 t2 : PTab) (t3 : STab) : Prop where
  p : H p = some (.dK (kvsP t1))
  o : H o = some (.dK (kvsP t2))
  s : H s = some (.dT (kvsS t3))
theorem Tabs.same {H H' : Hp} {p o s : Addr} {t1 t2 : PTab} {t3 : STab} (h : Tabs H p o s t1 t2 t3) (k : Same H H') : Tabs H' p o s t1 t2 t3 := ⟨k _ _ h.p, k _ _ h.o, k _ _ h.s⟩
def rightB (t1 t2 : PTab) (t3 : STab) : Bool := okP t1 9 && (!t1.isEmpty && (okP t2 9 && okS t3 18))
def spAreT : Sp := fun vs H Q _ => ∃ (p o s : Addr) (t1 t2 : PTab) (t3 : STab), vs = [.ref p, .ref o, .ref s] ∧ Tabs H p o s t1 t2 t3 ∧ Agree t1 t2 t3 ∧ ∀ H', Same H H' → Q (.bl (rightB t1 t2 t3)) H'
section
variable {P : Program} {w : World} {K : PySem.W.Frag} {mg : Str → Option Value} {base : Heap}
theorem scAreT : FnScope ["put", "out", "swap", "signs", "pair"] ["put", "out", "swap"] (defScope sAreT) := ⟨rfl, rfl, rfl, by decide +kernel, rfl, by decide +kernel, by decide +kernel⟩
theorem ok_areT {f : Addr} {fd : FuncData} (F : Fun K "_are_tables" "_are_tables" sAreT f fd) (O : On mg) (N : Pn mg) (J : Cd P w K mg base 4 "_is_sign_table" ["value"] spIsST) (S : Cd P w K mg base 3 "_has_prices" ["value", "most"] spHasP) (R : Cd P w K mg base 1 "_is_pair" ["value", "signs"] spPair) : FnOk P w K mg base CX0 5 f fd ["put", "out", "swap"] spAreT := by
  obtain ⟨j, dj, G, gm, gk, gb⟩ := J.ex
  obtain ⟨c, dc, Gc, cm, ck, cb⟩ := S.ex
  obtain ⟨e, de, Ge, em, ek, eb⟩ := R.ex
  obtain ⟨tm, hm18⟩ := N.ms
  refine F.ok scAreT (fun vs H Q E h => ?_) (fun cdv A outer s H vs Q E hr h => ?_)
  · obtain ⟨p, o, s, t1, t2, t3, rfl, _⟩ := h
    rfl
  · obtain ⟨p, o, sw, t1, t2, t3, rfl, hT, ag, q⟩ := h
    have hu2 : A.units + 3 + 64 < cLine := by
      have h2 : A.units + 3 + 16 * 4 + 200 < cLine := hr.un
      omega
    refine ⟨_, pss_cons (ps_if (PW.pt (pw_or (pt_not (pt_val (pe_call G hr (by rfl) gm gk gb .nil pass0 (pa_cons (pv 0) pa_nil)))) (pw_or (pt_not (pt_val (pe_call G hr (by rfl) gm gk gb .nil pass0 (pa_cons (pv 1) pa_nil))))
        (pw_or1 (pt_cmpR (op_neD hu2) (pe_callB (call_sortedD rfl) (by rfl) O.sorted (by decide +kernel) (pa_cons (pv 0) pa_nil)) (pe_callB (call_sortedD rfl) (by rfl) O.sorted (by decide +kernel) (pa_cons (pv 1) pa_nil)) (nomark _)))))) (pss_one (ps_ret pe_bl)) pss_nil)
      (pss_cons (ps_if (pt_not (pt_val (pe_call Gc (hr.mono (by decide)) (by rfl) cm ck cb .nil pass0 (pa_cons (pv 2) (pa_cons (pe_glob (v := .int 18) (by rfl) hm18 ⟨_, rfl⟩) pa_nil))))) (pss_one (ps_ret pe_bl)) pss_nil)
      (pss_cons (ps_set (i := 3) scAreT.nd rfl (.inr rfl) (pe_callTy (cr_tupD rfl) (by rfl) O.tuple (by decide +kernel) (pa_cons (pv 0) pa_nil)))
      (pss_one (ps_ret (pe_callB (cr_all rfl) (by rfl) O.all (by decide +kernel) (pa_cons (pe_lock (pe_lc (own := [("pair", 4)]) (g := gName 4) (tt := tYes) rfl scAreT.nd (pi_keys (pv 2)) (blkOk_by (N := ["put", "out", "swap", "signs", "pair"]) (sc := defScope sAreT) (by decide +kernel))
          (fun _ _ _ _ _ => pg_name (i := 4) scAreT.nd rfl (Or.inl rfl)) (fun _ _ _ _ _ => pts_nil) (fun _ _ _ _ _ => pe_call Ge (hr.mono (by decide)) (by rfl) em ek eb .nil pass0 (pa_cons (pv 4) (pa_cons (pv 3) pa_nil))))) pa_nil)))))), ?_⟩
    unfold rightB at q
    refine ⟨_, rfl, p, t1, rfl, hT.p, ag.l1, ag.sg, fun H1 s1 => ⟨_, rfl, ?_⟩⟩
    cases e1 : okP t1 9 with
    | false =>
      rw [e1] at q
      exact iteT (q _ s1)
    | true =>
    rw [e1] at q
    cases e2 : t1.isEmpty with
    | true =>
      rw [e2] at q
      exact iteT (q _ s1)
    | false =>
    rw [e2] at q
    refine iteF ?_
    have hT1 := hT.same s1
    refine ⟨_, rfl, o, t2, rfl, hT1.o, ag.l2, ag.sg2, fun H2 s2 => ⟨_, rfl, ?_⟩⟩
    have s12 := Same.trans s1 s2
    have ne2 : t2.isEmpty = false := by
      have := ag.pm.length_eq
      rw [List.length_map, List.length_map] at this
      cases t2 with
      | nil =>
        cases t1 with
        | nil => cases e2
        | cons a l => simp at this
      | cons a l => rfl
    rw [ne2]
    cases e3 : okP t2 9 with
    | false =>
      rw [e3] at q
      exact iteT (q _ s12)
    | true =>
    rw [e3] at q
    have hT2 := hT.same s12
    refine iteF ⟨_, rfl, p, kvsP t1, t1.map (·.1), rfl, .inl hT2.p, kvsP_keys t1, by rw [List.length_map]; have := ag.l1; omega, fun xs a perm sa ha => ?_⟩
    have hoa : (upd H2 a (.lst (xs.map V.str))) o = some (.dK (kvsP t2)) := (Same.new ha) _ _ hT2.o
    refine ⟨_, rfl, o, kvsP t2, t2.map (·.1), rfl, .inl hoa, kvsP_keys t2, by rw [List.length_map]; have := ag.l2; omega, fun ys b perm2 sb hb => ?_⟩
    obtain rfl : ys = xs := sorted_one ((perm2.trans ag.pm).trans perm.symm) sb sa
    have zo : ∀ y ∈ ys, PyData.strOk y = true := fun y hy => by
      obtain ⟨r, hr1, e⟩ := List.mem_map.mp (perm.mem_iff.mp hy)
      rw [← e]
      exact sg_ok (ag.sg r hr1)
    have nab : a ≠ b := ne_of_none (upd_same : upd H2 a (.lst (ys.map V.str)) a = some _) hb
    refine ⟨.list (ys.map PyData.str), .list (ys.map PyData.str), .lst (SqL.of (by rw [upd_ne nab]; exact upd_same)) (dpAll_str ys), .lst (SqL.of upd_same) (dpAll_str ys), shaped_strsL zo, shaped_strsL zo, _, rfl, ?_⟩
    rw [SeqAt.eqv_refl _ (SeqAt.canLay_of_shaped (shaped_strsL zo))]
    have s3 : Same H (upd (upd H2 a (.lst (ys.map V.str))) b (.lst (ys.map V.str))) := Same.trans (Same.trans s12 (Same.new ha)) (Same.new hb)
    have hT3 := hT.same s3
    refine iteF ⟨_, rfl, sw, 18, t3.map (·.2), rfl, .inr ⟨t3, hT3.s, rfl⟩, by rw [List.length_map]; have := ag.l3; omega, fun H4 s4 => ⟨_, rfl, ?_⟩⟩
    have ea : ((t3.map (·.2)).all fun i => nwB i 1 18) = okS t3 18 := by
      unfold okS
      rw [List.all_map]
      rfl
    rw [ea]
    have s34 := Same.trans s3 s4
    cases e4 : okS t3 18 with
    | false =>
      rw [e4] at q
      exact iteT (q _ s34)
    | true =>
    rw [e4] at q
    have hT4 := hT.same s34
    refine iteF ⟨_, rfl, p, _, rfl, hT4.p, fun t ht => ?_⟩
    have ek : (kvsP t1).map (fun kv => kV kv.1) = (t1.map (·.1)).map V.str := by
      unfold kvsP
      rw [List.map_map, List.map_map]
      rfl
    have eT : upd H4 t (.tup ((kvsP t1).map fun kv => kV kv.1)) = upd H4 t (.tup ((t1.map (·.1)).map V.str)) := by rw [ek]
    rw [eT]
    have s5 : Same H (upd H4 t (.tup ((t1.map (·.1)).map V.str))) := Same.trans s34 (Same.new ht)
    have hT5 := hT.same s5
    have x5 : upd H4 t (.tup ((t1.map (·.1)).map V.str)) t = some (.tup ((t1.map (·.1)).map V.str)) := upd_same
    generalize upd H4 t (.tup ((t1.map (·.1)).map V.str)) = H5 at s5 hT5 x5 ⊢
    refine ⟨sw, _, hT5.s, trivial, fun od => ⟨_, rfl, sw, od, rfl, .inr ⟨kvsS t3, upd_same, fun D hD => ?_⟩⟩⟩
    obtain ⟨ne, h0, st⟩ := Bls.start hD
    have nts : t ≠ sw := fun e => by
      rw [e, hT5.s] at x5
      cases x5
    refine wk_any (walk_keysT (d := sw) (o := od) (kvs := kvsS t3)) (fun i H6 => Bls H5 H6 sw D (.frz od (.dT (kvsS t3))) (List.replicate i true)) st (fun i H6 _ h6 => h6.at_) ?_ ?_
    · rintro i x H6 H7 hi h6 ⟨rfl, k, v, qa, hx, rfl, hq⟩
      have hi2 : i < t3.length := by rwa [kvsS_len] at hi
      rw [kvsS_at hi2] at hx
      cases hx
      have hpr := ag.pr _ (List.getElem_mem hi2)
      refine ⟨rfl, _, rfl, _, rfl, qa, t, t3[i].1.1, t3[i].1.2, t1.map (·.1), rfl, hq, h6.but _ _ nts x5, _, h6.out, ?_, ?_⟩
      · rw [List.length_map, List.length_replicate]
        exact Nat.lt_of_lt_of_le (by have := ag.l3; omega : i < 4000) (by decide)
      · rw [decide_eq_true hpr.1, decide_eq_true hpr.2.1, decide_eq_true hpr.2.2, List.replicate_succ']
        exact h6.push ne h0 true
    · rintro H6 h6
      have ea2 : (List.replicate (kvsS t3).length true).all id = true := List.all_eq_true.mpr fun b hb => (List.mem_replicate.mp hb).2
      refine ⟨h6.at_, D, _, rfl, SqL.of (by rw [upd_ne ne]; exact h6.out), ?_⟩
      rw [ea2]
      exact q _ (Same.trans s5 (h6.done hT5.s))
end
end Mk

set_option Elab.async false
set_option linter.all false
set_option maxRecDepth 100000
set_option maxHeartbeats 4000000
/-! sorted(d) of a dict whose keys are pairs of texts -/
namespace Mk
open PySem PySem.Spec PyProof.Rows L2

abbrev enc2 (k : Str × Str) : PyData := .tuple [.str k.1, .str k.2]
def le2 (a b : Str × Str) : Bool := decide (a.1.cps.toList < b.1.cps.toList) || (decide (a.1 = b.1) && decide (a.2.cps.toList ≤ b.2.cps.toList))
theorem enc2_le : PySem.W.dataLe false enc2 = le2 := by
  funext a b
  show (!PySem.W.dataLt (enc2 b) (enc2 a)) = le2 a b
  unfold enc2 le2
  rw [PySem.W.dataLt_pair (by simp [PySem.W.alike]) (by simp [PySem.W.alike]), PySem.W.dataLt_str, PySem.W.dataLt_str]
  have inj : ∀ {x y : Str}, x.cps.toList = y.cps.toList → x = y := by
    rintro ⟨⟨x⟩⟩ ⟨⟨y⟩⟩ h
    have h : x = y := h
    rw [h]
  by_cases e1 : b.1 = a.1
  · have q1 : PyData.eqv (.str b.1) (.str a.1) = true := by simp [PyData.eqv, e1]
    rw [if_pos q1, e1]
    have n1 : ¬ (a.1.cps.toList < a.1.cps.toList) := List.lt_irrefl _
    rw [decide_eq_false n1]
    by_cases e2 : b.2 = a.2
    · have q2 : PyData.eqv (.str b.2) (.str a.2) = true := by simp [PyData.eqv, e2]
      rw [if_pos q2, e2]
      simp
    · have q2 : ¬ PyData.eqv (.str b.2) (.str a.2) = true := by simp [PyData.eqv, e2]
      rw [if_neg q2]
      rw [Bool.eq_iff_iff]
      simp
  · have q1 : ¬ PyData.eqv (.str b.1) (.str a.1) = true := by simp [PyData.eqv, e1]
    rw [if_neg q1, decide_eq_false (fun h => e1 h.symm : ¬ a.1 = b.1)]
    rw [Bool.eq_iff_iff]
    simp
    constructor
    · intro h
      rcases Classical.em (a.1.cps.toList < b.1.cps.toList) with k | k
      · exact k
      · exact absurd (inj (List.le_antisymm h (List.not_lt.mp k))) (fun e => e1 e.symm)
    · intro h
      exact List.le_of_lt h
/-- the tuples at qs are the pairs ks -/
abbrev Pairs (H : Hp) (qs : List Addr) (ks : List (Str × Str)) : Prop := Paired (fun (q : Addr) (k : Str × Str) => H q = some (.tup [.str k.1, .str k.2])) qs ks
abbrev keyOf (k : Str × Str) : List Key := [Sum.inr k.1, Sum.inr k.2]
def rSortT2 : List V → Hp → VK → Prop := fun vs H Q => ∃ (d : Addr) (kvs : List (List Key × V)) (ks : List (Str × Str)), vs = [.ref d] ∧ Rd H d (.dT kvs) ∧ kvs.map (·.1) = ks.map keyOf ∧ ks.length ≤ 100 ∧
  ∀ (p : Addr) (qs : List Addr), H p = none → Pairs H qs (ks.mergeSort le2) → Q (.ref p) (upd H p (.lst (qs.map V.ref)))
/-- a value that is such a pair -/
def IsPr (H : Hp) (v : Value) (k : Str × Str) : Prop := ∃ q : Addr, v = .ref q ∧ H q = some (.tup [.str k.1, .str k.2])
theorem prs_of {H : Hp} : ∀ {kvs : List (List Key × V)} {xs : List (List Key × Addr × Value)} {ks : List (Str × Str)}, KT H kvs xs → kvs.map (·.1) = ks.map keyOf → PySem.W.EachIs (IsPr H) ((xs.map fun x => x.2.1).map Value.ref) ks
  | _, _, [], .nil, _ => .nil
  | _, _, _ :: _, .nil, h => nomatch h
  | _, _, [], .cons _ _, h => nomatch h
  | p :: kvs, x :: xs, k :: ks, .cons r t, h => by
    rw [List.map_cons, List.map_cons] at h
    injection h with h1 h2
    refine .cons ⟨_, rfl, ?_⟩ (prs_of t h2)
    rw [r.2.1, h1]
    rfl
theorem prs_pairs {H : Hp} : ∀ {out : List Value} {ks : List (Str × Str)}, PySem.W.EachIs (IsPr H) out ks → ∃ qs : List Addr, out = qs.map Value.ref ∧ Pairs H qs ks
  | _, _, .nil => ⟨[], rfl, .nil⟩
  | _, _, .cons ⟨q, e, h⟩ t => by
    obtain ⟨qs, e2, h2⟩ := prs_pairs t
    exact ⟨q :: qs, by rw [e, e2]; rfl, .cons h h2⟩
theorem each_mono2 {α β : Type} {R R' : α → β → Prop} (h : ∀ a b, R a b → R' a b) : ∀ {as : List α} {bs : List β}, PySem.W.EachIs R as bs → PySem.W.EachIs R' as bs
  | _, _, .nil => .nil
  | _, _, .cons r t => .cons (h _ _ r) (each_mono2 h t)
section
variable {X : Cx}
theorem cr_sortT2 (hc : X.calm = true) (hu : X.A.units + 60 < cLine) : CallR X (.builtin "sorted") rSortT2 := by
  intro pins s σ H xs us Q I r h
  obtain ⟨d, kvs, ks, rfl, hd, hks, hl, q⟩ := h
  obtain ⟨u, rfl, rx⟩ := r.one
  cases rx
  obtain ⟨z, hs, es', pr, o, es, ep, ho, hx, hdt, he, hn⟩ := (show ObjOk X.prog X.w H s.heap d (.dT kvs) from hd.ok I.hok)
  have l1 : es.size = es'.length := size_of_entries he
  have l2 : kvs.length = es'.length := Paired.length pr
  have l3 : kvs.length = ks.length := by
    have := congrArg List.length hks
    rwa [List.length_map, List.length_map] at this
  have lim : 100 ≤ sizeLine := by decide
  refine Calls.call_function_entry kind_sorted plain_sorted entry_sorted (args_sorted1 _) ?_
  unfold Builtin.«sorted»
  refine wpAny_bind (m := checkCount "sorted" 1 1 _) (wpAny_pure ?_)
  refine wpAny_bind (PySem.W.kdu_collect (A := X.A.in1) (kdl_raw hs hx hdt) (I.ok.hd hc) ho (by omega) fun h' tk acc kp it => ?_)
  have ea : acc.toList = (es'.map fun x => x.2.1).map Value.ref := by
    have hl : acc.toList.length = es'.length := by rw [Array.length_toList, it.1]; exact l1
    refine List.ext_getElem (by rw [hl, List.length_map, List.length_map]) fun j h1 h2 => ?_
    have hj : j < es'.length := by omega
    obtain ⟨en, hen, hv⟩ := it.2 j acc.toList[j] (by rw [← Array.getElem?_toList]; exact List.getElem?_eq_getElem h1)
    have qe := entry_at he j
    rw [hen, List.getElem?_eq_getElem hj] at qe
    rw [hv, Option.some.inj qe, List.getElem_map, List.getElem_map]
    rfl
  have ev : PySem.W.EachIs (IsPr H) acc.toList ks := by
    rw [ea]
    exact prs_of pr hks
  have lv : acc.toList.length = ks.length := by
    rw [ea, List.length_map, List.length_map]
    omega
  have I1 : Inv X pins σ H { s with heap := h', toks := tk } := I.kept kp
  refine wpAny_bind (wpAny_newList ?_ (by rw [lv]; omega))
  have at0 : (h'.push (seqObj "list" acc.toList.toArray 0)).get? h'.objs.size = some (seqObj "list" acc.toList.toArray 0) := Heap.get?_push_size _ rfl
  have I2 : Inv X pins σ H { s with heap := h'.push (seqObj "list" acc.toList.toArray 0), toks := tk } := I.kept fun b ob e => Heap.get?_push_of_some _ (kp b ob e)
  have rd : ∀ v k, IsPr H v k → ∃ as, Reads (h'.push (seqObj "list" acc.toList.toArray 0)) v (enc2 k) as ∧ h'.objs.size ∉ as := by
    rintro v k ⟨a, rfl, ha⟩
    obtain ⟨its, rv, ⟨ob, e1, e2, n, e3⟩, _⟩ := I2.tuple (SqT.of ha)
    cases rv with
    | cons r1 t1 =>
      obtain ⟨k1, rfl⟩ := r1
      cases t1 with
      | cons r2 t2 =>
        obtain ⟨k2, rfl⟩ := r2
        cases t2
        exact ⟨_, .tuple e1 e2 e3 (.cons (.str _ _) (.cons (.str _ _) .nil)), fun z => nomatch z⟩
  refine wpAny_bind (wpAny_holding (PySem.W.list_sort_data (s := { s with heap := h'.push (seqObj "list" acc.toList.toArray 0), toks := tk }) (enc := enc2) at0 ev (each_mono2 rd ev)
    (PySem.W.AllAlike.of fun _ _ => by simp [PySem.W.alike, PySem.W.alikeAll]) (PySem.W.Sortable.tuples fun k => ⟨_, _, rfl⟩) (by omega) (fun k _ => ?_) fun out lo eo => ?_))
  · show X.A.units + 1 + 1 + (enc2 k).depth < cLine
    have : (enc2 k).depth ≤ 2 := by simp [enc2, PyData.depth, PyData.depthAll]
    omega
  rw [enc2_le] at eo
  obtain ⟨qs, rfl, hq⟩ := prs_pairs eo
  obtain ⟨c, hcc⟩ := sortedHeap_at (vs := acc.toList) (out := (qs.map Value.ref).toArray) at0
  have lq : qs.length = ks.length := by rw [← lo, List.length_map]
  refine wpAny_pure ⟨_, rfl, .ref h'.objs.size, upd H h'.objs.size (.lst (qs.map V.ref)), I1.laid (t' := tk) (o := .lst (qs.map V.ref)) (fun b u e => ?_) (Nat.le_refl _) ⟨by rw [List.length_map]; omega, _, c, vals_refs qs, hcc⟩, rfl, q _ qs (I1.hok.fresh (Nat.le_refl _)) hq⟩
  have lt := Heap.lt_size e
  rw [sortedHeap_old (Nat.ne_of_lt lt) (by rw [size_push']; exact Nat.lt_succ_of_lt lt)]
  exact Heap.get?_push_of_some _ e
end
end Mk

set_option Elab.async false
set_option linter.all false
set_option maxRecDepth 100000
set_option maxHeartbeats 4000000
/-! dict comprehensions, whatever the keys are: told by what a store into the new dict wants -/
namespace Mk
open PySem PySem.Spec PyProof.Rows L2

/-- what a store of z under y into the dict at D wants: the heap behind it is in C -/
abbrev PutK := Addr → V → V → Hp → (Hp → Prop) → Prop
/-- such a store is made by the dict's own step -/
structure PutOk (P : Program) (w : World) (E0 : HO) (Put : PutK) : Prop where
  start : ∀ (H : Hp) (h : Heap), sysModules < h.objs.size → ObjOk P w H (h.push { cls := .type "dict", data := .dict #[] }) h.objs.size E0
  store : ∀ (Y : Cx), Y.prog = P → Y.w = w → Y.calm = true → Y.A.units + 1 < cLine → ∀ (pins : List (Addr × Obj)) (σ : L2.St) (H : Hp) (s : Shared) (D : Addr) (y z : V) (u r : Value) (C : Hp → Prop) (Q : Unit → Shared → Prop) (E : Value → Shared → Prop),
    Inv Y pins σ H s → RelV y u → RelV z r → Put D y z H C → (∀ H' s', C H' → Inv Y pins σ H' s' → Q () s') → wpAny (model P w) Y.A (dictSet D u r) Q E s
/-- one turn of the comprehension behind the walk's step -/
def turnG (Put : PutK) (g : TG) (tt : TT) (tk tv : TE) (vs : List Nat) (σ : L2.St) (D : Addr) (x : V) (H : Hp) (Nx : Hp → Prop) : Prop :=
  g x (wipe σ vs) H fun σ2 H2 => wipe σ2 vs = wipe σ vs ∧ tt σ2 H2 fun b H3 => if b = true then tk σ2 H3 fun y H4 => tv σ2 H4 fun z H5 => Put D y z H5 Nx else Nx H3
def tDcG (E0 : HO) (Put : PutK) (wi : TI) (g : TG) (tt : TT) (tk tv : TE) (vs : List Nat) : TE := fun σ H Q => wi σ H fun J H1 => ∀ D, H1 D = none → ∃ W : Nat → Nat → Hp → Prop, (∃ m, W 0 m (upd H1 D E0)) ∧
  ∀ i m H, W i m H → (J.stop i H ∧ Q (.ref D) H) ∨ (J.go i H ∧ ∃ Nx : Hp → Prop, (∀ H', Nx H' → ∃ m', m' < m ∧ W (i + 1) m' H') ∧ ∀ x H', J.yld i H x H' → turnG Put g tt tk tv vs σ D x H' Nx)
section
variable {X : Cx}
/-- the block's context stands: its own things are its own -/
theorem blk_own {s0 : Shared} {H0 : Hp} {scope : Scope} {ce : Env} {fp : List Addr} {σ : L2.St} {H : Hp} {s : Shared} (I : Inv (X.blk s0 H0 scope ce fp) [] σ H s) (hn : ∀ b ∈ fp, H b = none) : ∀ b ∈ fp, FpOk (X.blk s0 H0 scope ce fp) [] H b := by
  intro b hb
  have ⟨e1, e2⟩ := I.ok.exf b hb
  refine ⟨hn b hb, e1, I.ok.exfs b hb, Or.inl hb, fun x c e => e2 x c e, fun p hp => ?_⟩
  cases hp
/-- one turn, in the block's context -/
theorem turn_blk {E0 : HO} {Put : PutK} (K : PutOk X.prog X.w E0 Put) {kx vx tg : Expr} {ifs : List Expr} {g : TG} {tt : TT} {tk tv : TE} {vs : List Nat} {σ : L2.St} {D : Addr} {s0 : Shared} {H0 : Hp} {scope : Scope} {ce : Env} {fp : List Addr} {tn : Nat → Heap → Prop} {J : It} {it : Addr}
    (cm : X.calm = true) (un : (X.blk s0 H0 scope ce fp).A.units + 1 < cLine) (T : Turn X.prog X.w X.K tg J fp it tn) (pg : PG (X.blk s0 H0 scope ce fp) tg g) (pt : PTs (X.blk s0 H0 scope ce fp) ifs tt) (pk : PE (X.blk s0 H0 scope ce fp) kx tk) (pe : PE (X.blk s0 H0 scope ce fp) vx tv)
    {i : Nat} {s : Shared} {H : Hp} {Nx : Hp → Prop} {Goal : Shared → Prop} {E : Value → Shared → Prop} (I : Inv (X.blk s0 H0 scope ce fp) [] (wipe σ vs) H s) (nf : ∀ b ∈ fp, H b = none) (st : tn (i + 1) s.heap) {x : V} {u : Value} (rx : RelV x u)
    (step : turnG Put g tt tk tv vs σ D x H Nx) (hE : ∀ e s', (X.blk s0 H0 scope ce fp).xe e s' → E e s')
    (fin : ∀ H' s', Nx H' → Inv (X.blk s0 H0 scope ce fp) [] (wipe σ vs) H' s' → tn (i + 1) s'.heap → (∀ b ∈ fp, H' b = none) → Goal s') :
    wpAny (model X.prog X.w) (X.blk s0 H0 scope ce fp).A (assign tg (X.blk s0 H0 scope ce fp).env u) (fun _ s2 => wpAny (model X.prog X.w) (X.blk s0 H0 scope ce fp).A (forIn ifs true fun c r => if r = true then do let ok ← isTrue c (X.blk s0 H0 scope ce fp).env (eval c (X.blk s0 H0 scope ce fp).env); pure (ForInStep.yield ok) else pure (ForInStep.yield r))
      (fun ok s3 => if ok = true then wpAny (model X.prog X.w) (X.blk s0 H0 scope ce fp).A (eval kx (X.blk s0 H0 scope ce fp).env) (fun kv s4 => wpAny (model X.prog X.w) (X.blk s0 H0 scope ce fp).A (eval vx (X.blk s0 H0 scope ce fp).env) (fun vv s5 =>
          wpAny (model X.prog X.w) (X.blk s0 H0 scope ce fp).A (dictSet D kv vv) (fun _ s6 => Goal s6) E s5) E s4) E s3 else Goal s3) E s2) E s := by
  have objs := T.obj _ _ st
  have Ip := I.pinned (blk_own I nf) objs
  -- the walk's own things are held fast while the target is set and the two expressions run
  have back : ∀ {σ8 : L2.St} {H' : Hp} {s' : Shared}, wipe σ8 vs = wipe σ vs → Inv (X.blk s0 H0 scope ce fp) ([] ++ pinsAt fp s.heap) σ8 H' s' → Nx H' → Goal s' := by
    intro σ8 H' s' hw I' nx
    have held : ∀ b ∈ fp, ∀ o, s.heap.get? b = some o → s'.heap.get? b = some o ∧ H' b = none := fun b hb o e => by
      have z := I'.pin (b, o) (List.mem_append_right _ (List.mem_append_right _ (mem_pinsAt hb e)))
      exact ⟨z.1, z.2.1⟩
    refine fin H' s' nx ((I'.unpinned (pins := [])).weak ?_ fun j v e => ?_) (T.keep _ _ _ st fun b hb o e => (held b hb o e).1) fun b hb => ?_
    · rw [← hw, wipe_length]
    · rw [← hw] at e
      exact (wipe_some e).1
    · have ⟨o, e, _⟩ := objs b hb
      exact (held b hb o e).2
  refine wpAny_mono (pg.run _ s _ H x u _ Ip rx step) (fun _ s2 z => ?_) hE
  obtain ⟨σ2, H2, I2, hw, q2⟩ := z
  refine wpAny_mono (pt.run _ s2 σ2 H2 _ I2 q2) (fun ok s3 z => ?_) hE
  obtain ⟨H3, I3, q3⟩ := z
  by_cases c : ok = true
  · rw [if_pos c] at q3 ⊢
    refine wpAny_mono (pk.run _ s3 σ2 H3 _ I3 q3) (fun kv s4 z => ?_) hE
    obtain ⟨y, H4, I4, ry, q4⟩ := z
    refine wpAny_mono (pe.run _ s4 σ2 H4 _ I4 q4) (fun vv s5 z => ?_) hE
    obtain ⟨z, H5, I5, rz, q5⟩ := z
    exact K.store (X.blk s0 H0 scope ce fp) rfl rfl cm un _ σ2 H5 s5 D y z kv vv Nx _ E I5 ry rz q5 fun H6 s6 nx I6 => back hw I6 nx
  · rw [if_neg c] at q3 ⊢
    exact back hw I3 q3
/-- the block's loop -/
theorem loop_blk {E0 : HO} {Put : PutK} (K : PutOk X.prog X.w E0 Put) {kx vx tg iter : Expr} {ifs : List Expr} {scope sc2 : Scope} {pos : Pos} {g : TG} {tt : TT} {tk tv : TE} {vs : List Nat} {σ : L2.St} {D : Addr} {s0 : Shared} {H0 : Hp} {ce : Env} {fp : List Addr} {tn : Nat → Heap → Prop} {J : It} {it : Addr} {Qd : Hp → Prop} {R : Result → Shared → Prop}
    (cm : X.calm = true) (un : (X.blk s0 H0 scope ce fp).A.units + 1 < cLine) (T : Turn X.prog X.w X.K tg J fp it tn) (pg : PG (X.blk s0 H0 scope ce fp) tg g) (pt : PTs (X.blk s0 H0 scope ce fp) ifs tt) (pk : PE (X.blk s0 H0 scope ce fp) kx tk) (pe : PE (X.blk s0 H0 scope ce fp) vx tv)
    {W : Nat → Nat → Hp → Prop} (turn : ∀ i m H, W i m H → (J.stop i H ∧ Qd H) ∨ (J.go i H ∧ ∃ Nx : Hp → Prop, (∀ H', Nx H' → ∃ m', m' < m ∧ W (i + 1) m' H') ∧ ∀ x H', J.yld i H x H' → turnG Put g tt tk tv vs σ D x H' Nx))
    (hE : ∀ e s', (X.blk s0 H0 scope ce fp).xe e s' → notedBy (model X.prog X.w) (X.blk s0 H0 scope ce fp).A (X.blk s0 H0 scope ce fp).env (fun e s' => R (.error e) s') e s')
    (hR : ∀ s' H', Inv (X.blk s0 H0 scope ce fp) [] (wipe σ vs) H' s' → (∀ b ∈ fp, H' b = none) → Qd H' → R (.ok .next) s')
    {m0 : Nat} {s : Shared} {H : Hp} (I : Inv (X.blk s0 H0 scope ce fp) [] (wipe σ vs) H s) (st : tn 0 s.heap) (nf : ∀ b ∈ fp, H b = none) (w0 : W 0 m0 H) :
    codeAny (model X.prog X.w) (X.blk s0 H0 scope ce fp).A (.compLoop (.DictComp kx vx [⟨tg, iter, ifs, 0⟩] sc2 pos) 0 (.ref it) (.ref D) (X.blk s0 H0 scope ce fp).env) R s := by
  refine compLoop_anyD (fun m s' => ∃ i H', Inv (X.blk s0 H0 scope ce fp) [] (wipe σ vs) H' s' ∧ tn i s'.heap ∧ (∀ b ∈ fp, H' b = none) ∧ W i m H') ?_ m0 ⟨0, H, I, st, nf, w0⟩
  rintro m s5 ⟨i, H5, I5, st5, n5, w5⟩
  rcases turn i m H5 w5 with ⟨stop, qd⟩ | ⟨go, Nx, less, step⟩
  · have e := T.done (X.blk s0 H0 scope ce fp) rfl rfl rfl cm i [] s5 _ H5 (fun _ _ => False) I5 (blk_own I5 n5) st5 stop
    refine wpAny_mono e (fun r s6 z => ?_) fun _ _ z => z.elim
    obtain ⟨rfl, I6⟩ := z
    exact hR s6 H5 I6 n5 qd
  · have e := T.item (X.blk s0 H0 scope ce fp) rfl rfl rfl cm i [] s5 _ H5 (fun _ _ => False) I5 (blk_own I5 n5) st5 go
    refine wpAny_mono e (fun r s6 z => ?_) fun _ _ z => z.elim
    obtain ⟨u, rfl, z⟩ := z
    refine wpAny_mono z (fun _ s7 z => ?_) fun _ _ z => z.elim
    obtain ⟨x, H7, I7, rx, y7, st7, n7⟩ := z
    refine turn_blk K cm un T pg pt pk pe I7 n7 st7 rx (step x H7 y7) hE fun H' s' nx I' st' n' => ?_
    obtain ⟨m', lt, w'⟩ := less H' nx
    exact ⟨m', lt, i + 1, H', I', st', n', w'⟩
/-- the whole comprehension, as a value -/
theorem pe_dcG {E0 : HO} {Put : PutK} (K : PutOk X.prog X.w E0 Put) {kx vx tg iter : Expr} {ifs : List Expr} {scope : Scope} {own : List (Str × Nat)} {pos : Pos} {wi : TI} {g : TG} {tt : TT} {tk tv : TE} (cm : X.calm = true) (nd : X.N.Nodup) (un : X.A.units + 20 < cLine) (hi : PI X tg iter wi) (ok : BlkOk X.N X.env.scope scope own)
    (hg : ∀ s H C cl fr, PG (X.blk s H scope (compEnvC scope cl C X.env) fr) tg g) (ht : ∀ s H C cl fr, PTs (X.blk s H scope (compEnvC scope cl C X.env) fr) ifs tt) (hk : ∀ s H C cl fr, PE (X.blk s H scope (compEnvC scope cl C X.env) fr) kx tk) (hv : ∀ s H C cl fr, PE (X.blk s H scope (compEnvC scope cl C X.env) fr) vx tv)
    (fs : ∀ x, foldedSetIterable iter X.env x = pure x := by intro _; rfl) : PE X (.DictComp kx vx [⟨tg, iter, ifs, 0⟩] scope pos) (tDcG E0 Put wi g tt tk tv (own.map (·.2))) := by
  refine ⟨fun pins s σ H Q I h => ?_⟩
  rw [arm_eval_DictComp]
  have cl : ∀ y ∈ scope.names, y.2 = .free → ∃ c, X.env.cells.lookup y.1 = some c := fun y hy e => I.ok.has _ ((ok.free y hy e).elim .inl .inr)
  refine wpAny_comprehension_free rfl fs (closure_ok cl) ok.kind (fun y hy e => by rw [ok.uniq y hy, e]) (thn (hi.run pins s σ H _ I h) fun xv s1 z1 => thn z1 fun itv s2 z2 => ?_)
  obtain ⟨it, fp, tn, J, H2, rfl, I2, T, st2, f2, q⟩ := z2
  refine wpAny_newObj_type (newEnv_comp ?_)
  obtain ⟨W, ⟨m0, w0⟩, turn⟩ := q s2.heap.objs.size (I2.hok.fresh (Nat.le_refl _))
  have I3 : Inv X pins σ (upd H2 s2.heap.objs.size E0) { s2 with heap := s2.heap.push { cls := .type "dict", data := .dict #[] } } :=
    I2.laid (t' := s2.toks) (fun b o e => Heap.get?_push_of_some _ e) (Nat.le_refl _) (K.start _ _ I2.big)
  have old : ∀ b ∈ fp, b < s2.heap.objs.size := fun b hb => have ⟨_, e, _⟩ := T.obj _ _ st2 b hb; Heap.lt_size e
  have f3 : ∀ b ∈ fp, FpOk X pins (upd H2 s2.heap.objs.size E0) b ∧ b < (s2.heap.push { cls := .type "dict", data := .dict #[] }).objs.size := fun b hb =>
    ⟨⟨by rw [upd_ne (Nat.ne_of_lt (old b hb))]; exact (f2 b hb).1, (f2 b hb).2⟩, by rw [Heap.size_push]; exact Nat.lt_succ_of_lt (old b hb)⟩
  have I4 := block_start I3 ok nd f3
  have nfp : ∀ b ∈ fp, upd H2 s2.heap.objs.size E0 b = none := fun b hb => (f3 b hb).1.1
  have st4 := T.keep 0 _ (pushCells ((s2.heap.push { cls := .type "dict", data := .dict #[] }).push { cls := .type "dict", data := .dict #[] }) scope.names) st2 fun b _ o e => pushCells_keeps _ _ _ _ (Heap.get?_push_of_some _ (Heap.get?_push_of_some _ e))
  have pg := hg { s2 with heap := s2.heap.push { cls := .type "dict", data := .dict #[] } } (upd H2 s2.heap.objs.size E0) (s2.heap.push { cls := .type "dict", data := .dict #[] }).objs.size (cellsFrom ((s2.heap.push { cls := .type "dict", data := .dict #[] }).objs.size + 1) scope.names (cloFrom X.env.cells scope.names [])) fp
  have pt := ht { s2 with heap := s2.heap.push { cls := .type "dict", data := .dict #[] } } (upd H2 s2.heap.objs.size E0) (s2.heap.push { cls := .type "dict", data := .dict #[] }).objs.size (cellsFrom ((s2.heap.push { cls := .type "dict", data := .dict #[] }).objs.size + 1) scope.names (cloFrom X.env.cells scope.names [])) fp
  have pk := hk { s2 with heap := s2.heap.push { cls := .type "dict", data := .dict #[] } } (upd H2 s2.heap.objs.size E0) (s2.heap.push { cls := .type "dict", data := .dict #[] }).objs.size (cellsFrom ((s2.heap.push { cls := .type "dict", data := .dict #[] }).objs.size + 1) scope.names (cloFrom X.env.cells scope.names [])) fp
  have pw := hv { s2 with heap := s2.heap.push { cls := .type "dict", data := .dict #[] } } (upd H2 s2.heap.objs.size E0) (s2.heap.push { cls := .type "dict", data := .dict #[] }).objs.size (cellsFrom ((s2.heap.push { cls := .type "dict", data := .dict #[] }).objs.size + 1) scope.names (cloFrom X.env.cells scope.names [])) fp
  have loop := loop_blk (kx := kx) (vx := vx) (iter := iter) (sc2 := scope) (pos := pos) (R := compPost (model X.prog X.w) X.A X.xe none (EP X pins σ Q) (.ref s2.heap.objs.size) (s2.heap.push { cls := .type "dict", data := .dict #[] }).objs.size)
    K cm (by show X.A.units + 1 < cLine; omega) T pg pt pk pw turn (fun _ _ z => False.elim z) (fun s6 H6 I6 n6 qd => ?_) I4 st4 nfp w0
  · exact codeAny_compStart_dict loop (T.self X.A 0 _ _ _ st4 loop)
  · have I7 : Inv X pins σ H6 s6 := I3.call' (ch := fp) I6.os I6.base I6.hok I6.bare fun b hb => by
      have ⟨_, e2, e3, e4, e5, e6⟩ := (f3 b hb).1
      exact ⟨e4, e2, e5, e6⟩
    obtain ⟨m, hn, _⟩ := I6.loc
    have nC : H6 (s2.heap.push { cls := .type "dict", data := .dict #[] }).objs.size = none := I6.free
    obtain ⟨e0, e1, e2, e3, e4, e5⟩ := I3.fpOk (Nat.le_refl _) nC
    exact ⟨m, hn, fun h'' sb => ⟨.ref s2.heap.objs.size, H6, I7.turned (t' := s6.toks) (fun b o hb e => (sb.2 b hb).trans e) e0 e1 e3 e4 e5, rfl, qd⟩⟩
end
/-- keys that are tuples of ints and texts -/
def putT : PutK := fun D y z H C => ∃ (kvs : List (List Key × V)) (k : List Key) (b : Addr), y = .ref b ∧ H b = some (.tup (k.map kV)) ∧ H D = some (.dT kvs) ∧ kvs.length < sizeLine ∧ C (upd H D (.dT (L2.putK kvs k z)))
/-- keys that are ints and texts -/
def putP : PutK := fun D y z H C => ∃ (kvs : List (Key × V)) (k : Key), y = kV k ∧ H D = some (.dK kvs) ∧ kvs.length < sizeLine ∧ C (upd H D (.dK (L2.putK kvs k z)))
theorem putP_ok {P : Program} {w : World} : PutOk P w (.dK []) putP where
  start := fun H h big => dk_empty h big
  store := by
    intro Y hP hw cm hu pins σ H s D y z u r C Q E I ry rz st fin
    subst hP hw
    obtain ⟨kvs, k, rfl, hD, hl, hC⟩ := st
    exact d_dictSet I hD hl ry rz fun s' J => fin _ s' hC J
theorem putT_ok {P : Program} {w : World} : PutOk P w (.dT []) putT where
  start := fun H h big => dt_empty h big
  store := by
    intro Y hP hw cm hu pins σ H s D y z u r C Q E I ry rz st fin
    subst hP hw
    obtain ⟨kvs, k, b, rfl, hb, hD, hl, hC⟩ := st
    obtain rfl : u = Value.ref b := ry
    have ⟨lo, hs, xs, rel, dd⟩ := dt_of I.hok hD
    have lx : xs.length ≤ sizeLine := by rw [← Paired.length rel]; exact lo
    have ln : (L2.putK kvs k z).length ≤ sizeLine := Nat.le_trans (length_putK kvs k z) hl
    refine wpAny_dictSet_heap (hsz := lx) (show (tupleKind (mixKind Y.prog Y.w)).room Y.A from Nat.lt_of_succ_lt hu) (key_of I.hok hb) dd fun h' dd' ext => fin _ _ hC ?_
    have ⟨o, es, ep, ho, h2, h3, h4, _, h5⟩ := dd'
    have rel2 := (rel.put k hb rz).keeps (H' := upd H D (.dT (L2.putK kvs k z))) fun c ys ec => by
      have ne : c ≠ D := fun e => by
        rw [e, hD] at ec
        cases ec
      rw [upd_ne ne]
      exact ec
    exact d_write I (by rw [hD]; exact True.intro) ext ⟨o, ho⟩ ⟨ln, hs, _, rel2, o, es, ep, ho, h2, h3, h4, h5⟩
end Mk

set_option Elab.async false
set_option linter.all false
set_option maxRecDepth 100000
set_option maxHeartbeats 4000000
namespace Mk
open PySem PySem.Spec L2 PyProof.Rows

abbrev sAsc : Stmt := top 12
/-! ### a table in another order -/
section
variable {α : Type} [DecidableEq α]
def look (t : List (α × Int)) (k : α) : Int := ((t.find? fun p => decide (p.1 = k)).map (·.2)).getD 0
theorem look_mem : ∀ {t : List (α × Int)}, (t.map (·.1)).Nodup → ∀ p ∈ t, look t p.1 = p.2
  | [], _, _, h => nomatch h
  | a :: t, nd, p, h => by
    rw [List.map_cons, List.nodup_cons] at nd
    unfold look
    by_cases e : a.1 = p.1
    · rw [List.find?_cons_of_pos (by simpa using e)]
      rcases List.mem_cons.mp h with rfl | m
      · rfl
      · exact absurd (List.mem_map.mpr ⟨p, m, e.symm⟩) nd.1
    · rw [List.find?_cons_of_neg (by simpa using e)]
      rcases List.mem_cons.mp h with rfl | m
      · exact absurd rfl e
      · exact look_mem nd.2 p m
def put (t : List (α × Int)) (ys : List α) : List (α × Int) := ys.map fun k => (k, look t k)
theorem put_perm {t : List (α × Int)} (nd : (t.map (·.1)).Nodup) {ys : List α} (p : ys.Perm (t.map (·.1))) : (put t ys).Perm t := by
  have e : (t.map (·.1)).map (fun k => (k, look t k)) = t := by
    rw [List.map_map]
    conv => rhs; rw [← List.map_id t]
    exact List.map_congr_left fun q hq => by
      show (q.1, look t q.1) = q
      rw [look_mem nd q hq]
  have := p.map fun k => (k, look t k)
  rw [e] at this
  exact this
theorem put_keys (t : List (α × Int)) (ys : List α) : (put t ys).map (·.1) = ys := by
  unfold put
  rw [List.map_map]
  conv => rhs; rw [← List.map_id ys]
  rfl
end
theorem valP {t : PTab} {k : Str} (h : k ∈ t.map (·.1)) : valV (kvsP t) (Sum.inr k) = some (V.int (look t k)) := by
  induction t with
  | nil => exact nomatch h
  | cons a t ih =>
    unfold look
    by_cases e : a.1 = k
    · rw [List.find?_cons_of_pos (by simpa using e)]
      exact valV_pos (by show (Sum.inr a.1 : Key) = Sum.inr k; rw [e])
    · rw [List.find?_cons_of_neg (by simpa using e)]
      have ne : ¬ (Sum.inr a.1 : Key) = Sum.inr k := fun q => e (Sum.inr.inj q)
      refine (valV_neg ne).trans (ih ?_)
      rcases List.mem_cons.mp (by rw [List.map_cons] at h; exact h) with q | q
      · exact absurd q.symm e
      · exact q
theorem noP {t : PTab} {k : Str} (h : k ∉ t.map (·.1)) : valV (kvsP t) (Sum.inr k) = none := by
  induction t with
  | nil => rfl
  | cons a t ih =>
    rw [List.map_cons, List.mem_cons, not_or] at h
    have ne : ¬ (Sum.inr a.1 : Key) = Sum.inr k := fun q => h.1 (Sum.inr.inj q).symm
    exact (valV_neg ne).trans (ih h.2)
theorem key_inj {a b : Str × Str} (h : keyOf a = keyOf b) : a = b := by
  obtain ⟨a1, a2⟩ := a
  obtain ⟨b1, b2⟩ := b
  injection h with h1 h2
  injection h2 with h2 _
  have e1 : a1 = b1 := Sum.inr.inj h1
  have e2 : a2 = b2 := Sum.inr.inj h2
  rw [e1, e2]
theorem valS {t : STab} {k : Str × Str} (h : k ∈ t.map (·.1)) : valV (kvsS t) (keyOf k) = some (V.int (look t k)) := by
  induction t with
  | nil => exact nomatch h
  | cons a t ih =>
    unfold look
    by_cases e : a.1 = k
    · rw [List.find?_cons_of_pos (by simpa using e)]
      exact valV_pos (by show keyOf a.1 = keyOf k; rw [e])
    · rw [List.find?_cons_of_neg (by simpa using e)]
      have ne : ¬ keyOf a.1 = keyOf k := fun q => e (key_inj q)
      refine (valV_neg ne).trans (ih ?_)
      rcases List.mem_cons.mp (by rw [List.map_cons] at h; exact h) with q | q
      · exact absurd q.symm e
      · exact q
theorem noS {t : STab} {k : Str × Str} (h : k ∉ t.map (·.1)) : valV (kvsS t) (keyOf k) = none := by
  induction t with
  | nil => rfl
  | cons a t ih =>
    rw [List.map_cons, List.mem_cons, not_or] at h
    have ne : ¬ keyOf a.1 = keyOf k := fun q => h.1 (key_inj q).symm
    exact (valV_neg ne).trans (ih h.2)
theorem putP_new {t : PTab} {k : Str} {n : Int} (h : k ∉ t.map (·.1)) : L2.putK (kvsP t) (Sum.inr k) (V.int n) = kvsP (t ++ [(k, n)]) := by
  rw [putK_new _ (noP h)]
  simp [kvsP]
theorem putS_new {t : STab} {k : Str × Str} {n : Int} (h : k ∉ t.map (·.1)) : L2.putK (kvsS t) (keyOf k) (V.int n) = kvsS (t ++ [(k, n)]) := by
  rw [putK_new _ (noS h)]
  simp [kvsS]
theorem take_put {α : Type} [DecidableEq α] (t : List (α × Int)) {ys : List α} {i : Nat} (h : i < ys.length) : put t (ys.take (i + 1)) = put t (ys.take i) ++ [(ys[i], look t ys[i])] := by
  unfold put
  rw [List.take_add_one, List.getElem?_eq_getElem h, List.map_append]
  rfl
theorem not_before {α : Type} {ys : List α} (nd : ys.Nodup) {i : Nat} (h : i < ys.length) : ys[i] ∉ ys.take i := fun m => by
  obtain ⟨j, hj, e⟩ := List.getElem_of_mem m
  rw [List.length_take] at hj
  rw [List.getElem_take] at e
  have := (List.getElem_inj nd).mp e
  omega
theorem le2_total (a b : Str × Str) : (le2 a b || le2 b a) = true := by
  unfold le2
  simp only [Bool.or_eq_true, Bool.and_eq_true, decide_eq_true_eq]
  by_cases e : a.1 = b.1
  · rcases List.le_total a.2.cps.toList b.2.cps.toList with h | h
    · exact .inl (.inr ⟨e, h⟩)
    · exact .inr (.inr ⟨e.symm, h⟩)
  · rcases Classical.em (a.1.cps.toList < b.1.cps.toList) with h | h
    · exact .inl (.inl h)
    · rcases Classical.em (b.1.cps.toList < a.1.cps.toList) with k | k
      · exact .inr (.inl k)
      · exact absurd (cs_inj (List.le_antisymm (List.not_lt.mp k) (List.not_lt.mp h))) e
theorem le2_trans (a b c : Str × Str) (h1 : le2 a b = true) (h2 : le2 b c = true) : le2 a c = true := by
  unfold le2 at *
  simp only [Bool.or_eq_true, Bool.and_eq_true, decide_eq_true_eq] at *
  rcases h1 with h1 | ⟨e1, h1⟩
  · rcases h2 with h2 | ⟨e2, h2⟩
    · exact .inl (List.lt_trans h1 h2)
    · rw [← e2]
      exact .inl h1
  · rcases h2 with h2 | ⟨e2, h2⟩
    · rw [e1]
      exact .inl h2
    · exact .inr ⟨e1.trans e2, List.le_trans h1 h2⟩
theorem le2_anti (a b : Str × Str) (h1 : le2 a b = true) (h2 : le2 b a = true) : a = b := by
  unfold le2 at *
  simp only [Bool.or_eq_true, Bool.and_eq_true, decide_eq_true_eq] at *
  obtain ⟨a1, a2⟩ := a
  obtain ⟨b1, b2⟩ := b
  have stop : ∀ {x y : Str}, x.cps.toList < y.cps.toList → y.cps.toList < x.cps.toList → False := fun h k => List.lt_asymm h k
  rcases h1 with h1 | ⟨e1, h1⟩
  · rcases h2 with h2 | ⟨e2, h2⟩
    · exact (stop h1 h2).elim
    · have e2 : b1 = a1 := e2
      have h1 : a1.cps.toList < b1.cps.toList := h1
      rw [e2] at h1
      exact (List.lt_irrefl _ h1).elim
  · have e1 : a1 = b1 := e1
    subst e1
    rcases h2 with h2 | ⟨_, h2⟩
    · exact (List.lt_irrefl _ h2).elim
    · have : a2 = b2 := cs_inj (List.le_antisymm h1 h2)
      rw [this]
def spAsc : Sp := fun vs H Q _ => ∃ d : Addr, vs = [.ref d] ∧
  ((∃ t : PTab, H d = some (.dK (kvsP t)) ∧ (t.map (·.1)).Nodup ∧ t.length ≤ 60 ∧ ∀ H' D (t' : PTab), Same H H' → H D = none → H' D = some (.dK (kvsP t')) → t'.Perm t → (t'.map (·.1)).Pairwise (fun a b => byCs a b = true) → Q (.ref D) H') ∨
   ∃ t : STab, H d = some (.dT (kvsS t)) ∧ (t.map (·.1)).Nodup ∧ t.length ≤ 60 ∧ ∀ H' D (t' : STab), Same H H' → H D = none → H' D = some (.dT (kvsS t')) → t'.Perm t → (t'.map (·.1)).Pairwise (fun a b => le2 a b = true) → Q (.ref D) H')
section
variable {P : Program} {w : World} {K : PySem.W.Frag} {mg : Str → Option Value} {base : Heap}
theorem scAsc : FnScope ["table", "key"] ["table"] (defScope sAsc) := ⟨rfl, rfl, rfl, by decide +kernel, rfl, by decide +kernel, by decide +kernel⟩
theorem ok_asc {f : Addr} {fd : FuncData} (F : Fun K "ascending_dict" "ascending_dict" sAsc f fd) (O : On mg) : FnOk P w K mg base CX0 1 f fd ["table"] spAsc := by
  refine F.ok scAsc (fun vs H Q E h => ?_) (fun cdv A outer s H vs Q E hr h => ?_)
  · obtain ⟨d, rfl, _⟩ := h
    rfl
  · have hu := hu_of hr
    have h3 : A.units + 3 + 60 < cLine := by
      have h2 : A.units + 3 + 16 * 0 + 200 < cLine := hr.un
      omega
    obtain ⟨d, rfl, ⟨t, hd, nd, hl, q⟩ | ⟨t, hd, nd, hl, q⟩⟩ := h
    · refine ⟨_, pss_one (ps_ret (pe_dcG putP_ok (own := [("key", 1)]) (g := gName 1) (tt := tYes) rfl scAsc.nd (by show A.units + 3 + 20 < cLine; omega) (pi_list (pe_callB (call_sortedD rfl) (by rfl) O.sorted (by decide +kernel) (pa_cons (pv 0) pa_nil))) (blkOk_by (N := ["table", "key"]) (sc := defScope sAsc) (by decide +kernel))
        (fun _ _ _ _ _ => pg_name (i := 1) scAsc.nd rfl (Or.inl rfl)) (fun _ _ _ _ _ => pts_nil) (fun _ _ _ _ _ => pv 1) (fun _ _ _ _ _ => pe_dget hu (pv 0) (pv 1) (fun _ _ => rfl)))), ?_⟩
      refine ⟨_, rfl, d, kvsP t, t.map (·.1), rfl, .inl hd, kvsP_keys t, by rw [List.length_map]; omega, fun ys p perm so hp => ?_⟩
      have ndy : ys.Nodup := perm.nodup_iff.mpr nd
      have ly : ys.length ≤ 60 := by rw [perm.length_eq, List.length_map]; exact hl
      refine ⟨p, rfl, ⟨_, SqL.of upd_same⟩, fun D hD => ?_⟩
      have ne : D ≠ p := fun e => by rw [e, upd_same] at hD; cases hD
      have hD0 : H D = none := by rwa [upd_ne ne] at hD
      refine wk_any (walk_list (K := K) (a := p) (xs := ys.map V.str)) (fun i H1 => Same H H1 ∧ H1 p = some (.lst (ys.map V.str)) ∧ H1 D = some (.dK (kvsP (put t (ys.take i))))) ?_ (fun i H1 _ h1 => SqL.of h1.2.1) ?_ ?_
      · refine ⟨Same.trans (Same.new hp) (Same.new hD), ?_, upd_same⟩
        rw [upd_ne ne.symm]
        exact upd_same
      · rintro i x H1 H2 hi ⟨hS, hP, hDc⟩ ⟨rfl, hx⟩
        rw [List.length_map] at hi
        have ex : x = V.str ys[i] := by
          rw [List.getElem?_map, List.getElem?_eq_getElem hi] at hx
          exact (Option.some.inj hx).symm
        subst ex
        have mk : ys[i] ∈ t.map (·.1) := perm.mem_iff.mp (List.getElem_mem hi)
        have nin : ys[i] ∉ (put t (ys.take i)).map (·.1) := by
          rw [put_keys]
          exact not_before ndy hi
        refine ⟨rfl, _, rfl, _, rfl, _, rfl, d, V.int (look t ys[i]), rfl, .inl ⟨kvsP t, Sum.inr ys[i], .inl (hS _ _ hd), rfl, (valP mk).symm⟩, _, Sum.inr ys[i], rfl, hDc, ?_, ?_⟩
        · rw [kvsP_len]
          unfold put
          rw [List.length_map, List.length_take]
          exact Nat.lt_of_lt_of_le (by omega : min i ys.length < 4000) (by decide)
        · refine ⟨Same.upN hS hD0, ?_, ?_⟩
          · rw [upd_ne ne.symm]
            exact hP
          · rw [upd_same, putP_new nin, take_put t hi]
      · rintro H1 ⟨hS, hP, hDc⟩
        rw [List.length_map, List.take_length] at hDc
        exact q _ _ _ hS hD0 hDc (put_perm nd perm) (by rw [put_keys]; exact sorted_up so)
    · refine ⟨_, pss_one (ps_ret (pe_dcG putT_ok (own := [("key", 1)]) (g := gName 1) (tt := tYes) rfl scAsc.nd (by show A.units + 3 + 20 < cLine; omega) (pi_list (pe_callB (cr_sortT2 rfl h3) (by rfl) O.sorted (by decide +kernel) (pa_cons (pv 0) pa_nil))) (blkOk_by (N := ["table", "key"]) (sc := defScope sAsc) (by decide +kernel))
        (fun _ _ _ _ _ => pg_name (i := 1) scAsc.nd rfl (Or.inl rfl)) (fun _ _ _ _ _ => pts_nil) (fun _ _ _ _ _ => pv 1) (fun _ _ _ _ _ => pe_dget hu (pv 0) (pv 1) (fun _ _ => rfl)))), ?_⟩
      have hks : (kvsS t).map (·.1) = (t.map (·.1)).map keyOf := by
        unfold kvsS
        rw [List.map_map, List.map_map]
        rfl
      refine ⟨_, rfl, d, kvsS t, t.map (·.1), rfl, .inl hd, hks, by rw [List.length_map]; omega, fun p qs hp hq => ?_⟩
      have perm := List.mergeSort_perm (t.map (·.1)) le2
      have srt : ((t.map (·.1)).mergeSort le2).Pairwise (fun a b => le2 a b = true) := List.pairwise_mergeSort le2_trans le2_total _
      generalize (t.map (·.1)).mergeSort le2 = ys at hq perm srt
      have ndy : ys.Nodup := perm.nodup_iff.mpr nd
      have ly : ys.length ≤ 60 := by rw [perm.length_eq, List.length_map]; exact hl
      have lq : qs.length = ys.length := Paired.length hq
      refine ⟨p, rfl, ⟨_, SqL.of upd_same⟩, fun D hD => ?_⟩
      have ne : D ≠ p := fun e => by rw [e, upd_same] at hD; cases hD
      have hD0 : H D = none := by rwa [upd_ne ne] at hD
      refine wk_any (walk_list (K := K) (a := p) (xs := qs.map V.ref)) (fun i H1 => Same H H1 ∧ H1 p = some (.lst (qs.map V.ref)) ∧ H1 D = some (.dT (kvsS (put t (ys.take i))))) ?_ (fun i H1 _ h1 => SqL.of h1.2.1) ?_ ?_
      · refine ⟨Same.trans (Same.new hp) (Same.new hD), ?_, upd_same⟩
        rw [upd_ne ne.symm]
        exact upd_same
      · rintro i x H1 H2 hi ⟨hS, hP, hDc⟩ ⟨rfl, hx⟩
        rw [List.length_map] at hi
        have hi2 : i < ys.length := by omega
        have ex : x = V.ref qs[i] := by
          rw [List.getElem?_map, List.getElem?_eq_getElem hi] at hx
          exact (Option.some.inj hx).symm
        subst ex
        obtain ⟨k, hk, eq⟩ := paired_get hq (List.getElem?_eq_getElem hi)
        have ek : k = ys[i] := Option.some.inj (hk.symm.trans (List.getElem?_eq_getElem hi2))
        subst ek
        have mk : ys[i] ∈ t.map (·.1) := perm.mem_iff.mp (List.getElem_mem hi2)
        have nin : ys[i] ∉ (put t (ys.take i)).map (·.1) := by
          rw [put_keys]
          exact not_before ndy hi2
        have eq1 := hS _ _ eq
        refine ⟨rfl, _, rfl, _, rfl, _, rfl, d, V.int (look t ys[i]), rfl, .inr ⟨kvsS t, keyOf ys[i], qs[i], .inl (hS _ _ hd), rfl, eq1, (valS mk).symm⟩, _, keyOf ys[i], qs[i], rfl, eq1, hDc, ?_, ?_⟩
        · rw [kvsS_len]
          unfold put
          rw [List.length_map, List.length_take]
          exact Nat.lt_of_lt_of_le (by omega : min i ys.length < 4000) (by decide)
        · refine ⟨Same.upN hS hD0, ?_, ?_⟩
          · rw [upd_ne ne.symm]
            exact hP
          · rw [upd_same, putS_new nin, take_put t hi2]
      · rintro H1 ⟨hS, hP, hDc⟩
        rw [List.length_map, lq, List.take_length] at hDc
        exact q _ _ _ hS hD0 hDc (put_perm nd perm) (by rw [put_keys]; exact srt)
end
end Mk

set_option Elab.async false
set_option linter.all false
set_option maxRecDepth 100000
set_option maxHeartbeats 4000000
namespace Mk
open PySem PySem.Spec L2 PyProof.Rows

abbrev sInit : Stmt := inClass (top 22) 0
theorem But.set {x : Addr} {H H1 : Hp} {o : HO} (a : But x H H1) : But x H (upd H1 x o) := fun b u hb e => by
  rw [upd_ne hb]
  exact a b u hb e
theorem But.same {x : Addr} {H H1 H2 : Hp} (a : But x H H1) (b : Same H1 H2) : But x H H2 := fun c o h e => b c o (a c o h e)
theorem putF_len (f : Str) (v : V) : ∀ fs : List (Str × V), (putF f v fs).length ≤ fs.length + 1
  | [] => Nat.le_refl _
  | p :: r => by
    unfold putF
    by_cases h : p.1 = f
    · rw [if_pos h]
      simp
    · rw [if_neg h, List.length_cons, List.length_cons]
      exact Nat.succ_le_succ (putF_len f v r)
theorem short1 (f : Str) (v : V) : (putF f v []).length < 1000 := Nat.lt_of_le_of_lt (putF_len f v []) (by decide)
theorem short2 (f g : Str) (v u : V) : (putF f v (putF g u [])).length < 1000 := by
  have a := putF_len g u []
  have b := putF_len f v (putF g u [])
  simp at a
  omega
theorem short3 (f g k : Str) (v u z : V) : (putF f v (putF g u (putF k z []))).length < 1000 := by
  have a := putF_len k z []
  have b := putF_len g u (putF k z [])
  have c := putF_len f v (putF g u (putF k z []))
  simp at a
  omega
structure Pc (K : PySem.W.Frag) (C : Addr) : Prop where
  cl : Cls K C
  n1 : NoAttr K C "_signs"
  n2 : NoAttr K C "_put"
  n3 : NoAttr K C "_out"
  n4 : NoAttr K C "_swap"
/-- the tables are ascending -/
structure Srt (t1 t2 : PTab) (t3 : STab) : Prop where
  a : (t1.map (·.1)).Pairwise (fun a b => byCs a b = true)
  b : (t2.map (·.1)).Pairwise (fun a b => byCs a b = true)
  c : (t3.map (·.1)).Pairwise (fun a b => le2 a b = true)
abbrev fldP (t a b c : Addr) : List (Str × V) := [("_signs", V.ref t), ("_put", V.ref a), ("_out", V.ref b), ("_swap", V.ref c)]
/-- the prices at x -/
def PrAt (C : Addr) (H : Hp) (x : Addr) (t1 t2 : PTab) (t3 : STab) : Prop := ∃ dx t a b c : Addr, H x = some (.ins C dx (fldP t a b c)) ∧ H t = some (.tup ((t1.map (·.1)).map V.str)) ∧ Tabs H a b c t1 t2 t3
theorem PrAt.same {C : Addr} {H H' : Hp} {x : Addr} {t1 t2 : PTab} {t3 : STab} (h : PrAt C H x t1 t2 t3) (k : Same H H') : PrAt C H' x t1 t2 t3 := by
  obtain ⟨dx, t, a, b, c, h1, h2, h3⟩ := h
  exact ⟨dx, t, a, b, c, k _ _ h1, k _ _ h2, h3.same k⟩
theorem fld_eq (t a b c : Addr) : putF "_swap" (V.ref c) (putF "_out" (V.ref b) (putF "_put" (V.ref a) (putF "_signs" (V.ref t) []))) = fldP t a b c := by
  have n1 : ¬ (("_signs" : Str) = "_put") := by decide +kernel
  have n2 : ¬ (("_signs" : Str) = "_out") := by decide +kernel
  have n3 : ¬ (("_signs" : Str) = "_swap") := by decide +kernel
  have n4 : ¬ (("_put" : Str) = "_out") := by decide +kernel
  have n5 : ¬ (("_put" : Str) = "_swap") := by decide +kernel
  have n6 : ¬ (("_out" : Str) = "_swap") := by decide +kernel
  simp [putF, n1, n2, n3, n4, n5, n6]
def spInit (C : Addr) : Sp := fun vs H Q _ => ∃ (x dx p o s : Addr) (t1 t2 : PTab) (t3 : STab), vs = [.ref x, .ref p, .ref o, .ref s] ∧ H x = some (.ins C dx []) ∧ Tabs H p o s t1 t2 t3 ∧ Agree t1 t2 t3 ∧ (t3.map (·.1)).Nodup ∧ rightB t1 t2 t3 = true ∧
  ∀ H' u1 u2 u3, But x H H' → PrAt C H' x u1 u2 u3 → u1.Perm t1 → u2.Perm t2 → u3.Perm t3 → Srt u1 u2 u3 → Q .non H'
section
variable {P : Program} {w : World} {K : PySem.W.Frag} {mg : Str → Option Value} {base : Heap}
theorem scInit : FnScope ["self", "put", "out", "swap"] ["self", "put", "out", "swap"] (defScope sInit) := ⟨rfl, rfl, rfl, by decide +kernel, rfl, by decide +kernel, by decide +kernel⟩
theorem ok_init {f C : Addr} {fd : FuncData} (F : Fun K "__init__" "Prices.__init__" sInit f fd) (T : Pc K C) (O : On mg) (J : Cd P w K mg base 5 "_are_tables" ["put", "out", "swap"] spAreT) (S : Cd P w K mg base 1 "ascending_dict" ["table"] spAsc) : FnOk P w K mg base CX0 6 f fd ["self", "put", "out", "swap"] (spInit C) := by
  obtain ⟨j, dj, G, gm, gk, gb⟩ := J.ex
  obtain ⟨c, dc, Gc, cm, ck, cb⟩ := S.ex
  refine F.ok scInit (fun vs H Q E h => ?_) (fun cdv A outer s H vs Q E hr h => ?_)
  · obtain ⟨x, dx, p, o, s, t1, t2, t3, rfl, _⟩ := h
    rfl
  · obtain ⟨x, dx, p, o, sw, t1, t2, t3, rfl, hx, hT, ag, nd3, hright, q⟩ := h
    have hr1 : Room 1 _ := hr.mono (by decide)
    refine ⟨_, pss_cons (ps_if (pt_not (pt_val (pe_call G hr (by rfl) gm gk gb .nil pass0 (pa_cons (pv 1) (pa_cons (pv 2) (pa_cons (pv 3) pa_nil)))))) (pss_one ps_never) pss_nil)
      (pss_cons (ps_fld (pv 0) (pe_callTy call_tuple_of (by rfl) O.tuple (by decide +kernel) (pa_cons (pe_callB (call_sortedD rfl) (by rfl) O.sorted (by decide +kernel) (pa_cons (pv 1) pa_nil)) pa_nil)) rfl)
      (pss_cons (ps_fld (pv 0) (pe_call Gc hr1 (by rfl) cm ck cb .nil pass0 (pa_cons (pv 1) pa_nil)) rfl)
      (pss_cons (ps_fld (pv 0) (pe_call Gc hr1 (by rfl) cm ck cb .nil pass0 (pa_cons (pv 2) pa_nil)) rfl)
      (pss_one (ps_fld (pv 0) (pe_call Gc hr1 (by rfl) cm ck cb .nil pass0 (pa_cons (pv 3) pa_nil)) rfl))))), ?_⟩
    refine ⟨_, rfl, _, rfl, _, rfl, p, o, sw, t1, t2, t3, rfl, hT, ag, fun H1 s1 => ⟨_, rfl, ?_⟩⟩
    rw [hright]
    refine iteF ?_
    have px : p ≠ x := ne_of hT.p hx (fun z => nomatch z)
    have ox : o ≠ x := ne_of hT.o hx (fun z => nomatch z)
    have sx : sw ≠ x := ne_of hT.s hx (fun z => nomatch z)
    have nd2 : (t2.map (·.1)).Nodup := ag.pm.nodup_iff.mpr ag.nd
    have hl1 := ag.l1
    have hl2 := ag.l2
    have hl3 := ag.l3
    refine ⟨_, rfl, p, kvsP t1, t1.map (·.1), rfl, .inl (s1 _ _ hT.p), kvsP_keys t1, by rw [List.length_map]; omega, fun ys a perm so ha => ?_⟩
    refine ⟨a, _, rfl, .inl ⟨SqL.of upd_same, fun t ht => ?_⟩⟩
    have s2 : Same H (upd (upd H1 a (.lst (ys.map V.str))) t (.tup (ys.map V.str))) := Same.trans (Same.trans s1 (Same.new ha)) (Same.new ht)
    refine ⟨_, rfl, x, C, dx, [], rfl, s2 _ _ hx, T.cl, T.n1, (by show 0 < 1000; decide), ?_⟩
    have b2 : But x H (upd (upd (upd H1 a (.lst (ys.map V.str))) t (.tup (ys.map V.str))) x (.ins C dx (putF "_signs" (V.ref t) []))) := (But.of_same s2).set
    have x2 : (upd (upd (upd H1 a (.lst (ys.map V.str))) t (.tup (ys.map V.str))) x (.ins C dx (putF "_signs" (V.ref t) []))) x = some (.ins C dx (putF "_signs" (V.ref t) [])) := upd_same
    have tx : t ≠ x := fun e => by
      rw [e] at ht
      rw [(Same.trans s1 (Same.new ha)) _ _ hx] at ht
      cases ht
    have y2 : (upd (upd (upd H1 a (.lst (ys.map V.str))) t (.tup (ys.map V.str))) x (.ins C dx (putF "_signs" (V.ref t) []))) t = some (.tup (ys.map V.str)) := by
      rw [upd_ne tx]
      exact upd_same
    generalize (upd (upd (upd H1 a (.lst (ys.map V.str))) t (.tup (ys.map V.str))) x (.ins C dx (putF "_signs" (V.ref t) []))) = H2 at b2 x2 y2 ⊢
    clear s2 s1 ha ht
    refine ⟨_, rfl, p, rfl, .inl ⟨t1, b2 _ _ px hT.p, ag.nd, by omega, fun H3 D3 u1 s3 f3 e3 p3 r3 => ?_⟩⟩
    have nx3 : D3 ≠ x := fun e => by rw [e, x2] at f3; cases f3
    refine ⟨_, rfl, x, C, dx, _, rfl, s3 _ _ x2, T.cl, T.n2, short1 _ _, ?_⟩
    have b3 : But x H (upd H3 x (.ins C dx (putF "_put" (V.ref D3) (putF "_signs" (V.ref t) [])))) := (b2.same s3).set
    have x3 : (upd H3 x (.ins C dx (putF "_put" (V.ref D3) (putF "_signs" (V.ref t) [])))) x = some (.ins C dx (putF "_put" (V.ref D3) (putF "_signs" (V.ref t) []))) := upd_same
    have y3 : (upd H3 x (.ins C dx (putF "_put" (V.ref D3) (putF "_signs" (V.ref t) [])))) t = some (.tup (ys.map V.str)) := by
      rw [upd_ne tx]
      exact s3 _ _ y2
    have z3 : (upd H3 x (.ins C dx (putF "_put" (V.ref D3) (putF "_signs" (V.ref t) [])))) D3 = some (.dK (kvsP u1)) := by
      rw [upd_ne nx3]
      exact e3
    generalize (upd H3 x (.ins C dx (putF "_put" (V.ref D3) (putF "_signs" (V.ref t) [])))) = H4 at b3 x3 y3 z3 ⊢
    clear s3 e3 f3 x2 y2 b2
    refine ⟨_, rfl, o, rfl, .inl ⟨t2, b3 _ _ ox hT.o, nd2, by omega, fun H5 D5 u2 s5 f5 e5 p5 r5 => ?_⟩⟩
    have nx5 : D5 ≠ x := fun e => by rw [e, x3] at f5; cases f5
    refine ⟨_, rfl, x, C, dx, _, rfl, s5 _ _ x3, T.cl, T.n3, short2 _ _ _ _, ?_⟩
    have b5 : But x H (upd H5 x (.ins C dx (putF "_out" (V.ref D5) (putF "_put" (V.ref D3) (putF "_signs" (V.ref t) []))))) := (b3.same s5).set
    have x5 : (upd H5 x (.ins C dx (putF "_out" (V.ref D5) (putF "_put" (V.ref D3) (putF "_signs" (V.ref t) []))))) x = some (.ins C dx (putF "_out" (V.ref D5) (putF "_put" (V.ref D3) (putF "_signs" (V.ref t) [])))) := upd_same
    have keep5 : ∀ {b : Addr} {u : HO}, b ≠ x → H4 b = some u → (upd H5 x (.ins C dx (putF "_out" (V.ref D5) (putF "_put" (V.ref D3) (putF "_signs" (V.ref t) []))))) b = some u := fun hb e => by
      rw [upd_ne hb]
      exact s5 _ _ e
    have y5 := keep5 tx y3
    have z5 := keep5 nx3 z3
    have v5 : (upd H5 x (.ins C dx (putF "_out" (V.ref D5) (putF "_put" (V.ref D3) (putF "_signs" (V.ref t) []))))) D5 = some (.dK (kvsP u2)) := by
      rw [upd_ne nx5]
      exact e5
    generalize (upd H5 x (.ins C dx (putF "_out" (V.ref D5) (putF "_put" (V.ref D3) (putF "_signs" (V.ref t) []))))) = H6 at b5 x5 y5 z5 v5 ⊢
    clear keep5 s5 e5 f5 x3 y3 z3 b3
    refine ⟨_, rfl, sw, rfl, .inr ⟨t3, b5 _ _ sx hT.s, nd3, by omega, fun H7 D7 u3 s7 f7 e7 p7 r7 => ?_⟩⟩
    have nx7 : D7 ≠ x := fun e => by rw [e, x5] at f7; cases f7
    refine ⟨_, rfl, x, C, dx, _, rfl, s7 _ _ x5, T.cl, T.n4, short3 _ _ _ _ _ _, ?_⟩
    have eys : ys = u1.map (·.1) := List.Perm.eq_of_pairwise (fun a b _ _ k1 k2 => byCs_anti a b k1 k2) (sorted_up so) r3 (perm.trans (p3.map (·.1)).symm)
    have keep7 : ∀ {b : Addr} {u : HO}, b ≠ x → H6 b = some u → (upd H7 x (.ins C dx (putF "_swap" (V.ref D7) (putF "_out" (V.ref D5) (putF "_put" (V.ref D3) (putF "_signs" (V.ref t) [])))))) b = some u := fun hb e => by
      rw [upd_ne hb]
      exact s7 _ _ e
    refine q _ u1 u2 u3 (b5.same s7).set ⟨dx, t, D3, D5, D7, ?_, ?_, ⟨keep7 nx3 z5, keep7 nx5 v5, ?_⟩⟩ p3 p5 p7 ⟨r3, r5, r7⟩
    · rw [upd_same, fld_eq]
    · rw [← eys]
      exact keep7 tx y5
    · rw [upd_ne nx7]
      exact e7
end
end Mk

set_option Elab.async false
set_option linter.all false
set_option maxRecDepth 100000
set_option maxHeartbeats 4000000
namespace Mk
open PySem PySem.Spec L2 PyProof.Rows

def prs (zs : List Str) (x : Str) : List (Str × Str) := (zs.filter fun y => decide (x ≠ y)).map fun y => (x, y)
def pairsOf (zs : List Str) : List (Str × Str) := zs.flatMap (prs zs)
theorem Pairs.keep {H H' : Hp} (k : ∀ q xs, H q = some (.tup xs) → H' q = some (.tup xs)) : ∀ {qs : List Addr} {ks : List (Str × Str)}, Pairs H qs ks → Pairs H' qs ks
  | _, _, .nil => .nil
  | _, _, .cons h t => .cons (k _ _ h) (Pairs.keep k t)
theorem Pairs.snoc {H : Hp} {q : Addr} {k : Str × Str} (hq : H q = some (.tup [.str k.1, .str k.2])) : ∀ {qs : List Addr} {ks : List (Str × Str)}, Pairs H qs ks → Pairs H (qs ++ [q]) (ks ++ [k])
  | _, _, .nil => .cons hq .nil
  | _, _, .cons h t => .cons h (Pairs.snoc hq t)
theorem prs_len (zs : List Str) (x : Str) : (prs zs x).length ≤ zs.length := by
  unfold prs
  rw [List.length_map]
  exact List.length_filter_le _ _
theorem flat_len {α β : Type} (f : α → List β) (n : Nat) (h : ∀ a, (f a).length ≤ n) : ∀ l : List α, (l.flatMap f).length ≤ l.length * n
  | [] => by simp
  | a :: l => by
    rw [List.flatMap_cons, List.length_append, List.length_cons, Nat.succ_mul]
    have := flat_len f n h l
    have := h a
    omega
def spPairs : Sp := fun vs H Q _ => ∃ (t : Addr) (zs : List Str), vs = [.ref t] ∧ H t = some (.tup (zs.map V.str)) ∧ zs.length ≤ 5 ∧
  ∀ H' p qs, Same H H' → H p = none → H' p = some (.lst (qs.map V.ref)) → Pairs H' qs (pairsOf zs) → Q (.ref p) H'
/-- the list that grows at D -/
structure Grow (H H1 : Hp) (D : Addr) (ks : List (Str × Str)) : Prop where
  same : Same H H1
  out : ∃ qs : List Addr, H1 D = some (.lst (qs.map V.ref)) ∧ Pairs H1 qs ks
section
variable {P : Program} {w : World} {K : PySem.W.Frag} {mg : Str → Option Value} {base : Heap}
end
end Mk

set_option Elab.async false
set_option linter.all false
set_option maxRecDepth 100000
set_option maxHeartbeats 4000000
namespace Mk
open PySem PySem.Spec L2 PyProof.Rows

abbrev sEven : Stmt := inClass (top 22) 1
section
variable {X : Cx} {CX : CXT} {i k : Nat} {f C : Addr} {fd : FuncData} {ps ks : List Str} {sp : Sp} {E : XK} {x : Str} {p pos : Pos} {kws : List Keyword} {tk : TA} {g : List Value → List Value → List Value} {gV : List V → List V → List V}
/-- c(k = v, ..), the class in a local name -/
def tMakeL (i : Nat) (C : Addr) (m : Nat) (sp : Sp) (gV : List V → List V → List V) (E : XK) (tk : TA) : TE := fun σ H Q => σ[i]? = some (some (.ref C)) ∧ tMakeK C 0 m sp gV E tNil tk σ H Q
theorem pe_makeL (M : L2.Mk X.K C f) (F : FnOk X.prog X.w X.K X.mg X.base CX k f fd ps sp) (hr : Room (k + 1) X.A) (hN : X.N[i]? = some x) (hv : Vis X.env.scope x) (hb : KBn X.K fd ps 1 ks g gV) (hx : Passes CX X E) (hkw : PK X kws tk)
    (hall : (backToKw pos (keywordEach kws X.env)).all (·.1.isSome) = true := by rfl) (hks : (backToKw pos (keywordEach kws X.env)).filterMap (·.1) = ks := by rfl) (hdb : (x == ("__debug__" : Str)) = false := by decide) (hcd : (x == ("__classdict__" : Str)) = false := by decide)
    (hpl : ((backTo pos (starEach [] X.env)).any (·.1) || (backToKw pos (keywordEach kws X.env)).any (·.1.isNone)) = false := by rfl) :
    PE X (.Call (.Name x p) [] kws pos) (tMakeL i C ks.length sp gV E tk) := by
  refine ⟨fun pins s σ H Q I h => ?_⟩
  obtain ⟨hs, h⟩ := h
  refine wpAny_Call_Name_kw (thn ((pe_var (pos := p) hN hv hdb hcd).run pins s σ H (fun v H1 => v = .ref C ∧ H1 = H) I ⟨.ref C, hs, rfl, rfl⟩) fun u s1 ⟨v, H1, I1, r1, q1⟩ => ?_)
  obtain ⟨rfl, rfl⟩ := q1
  obtain rfl : u = Value.ref C := r1
  refine PySem.W.callWith_KW0 (h₀ := X.base) I1.ok.mod.kin M.kp hall ?_ hpl
  refine thn (hkw.run pos pins s1 σ _ _ I1 h) fun ws s2 ⟨zs, H2, I2, rz, l1, l2, q2⟩ => ⟨I2.kIn, ?_⟩
  rw [hks]
  exact run_makeK (us := []) (vs := []) M F hr hb hx I2 .nil rz rfl l2 q2
end

section
variable {X : Cx}
/-- name = {..} of a dict comprehension, the name a local -/
theorem ps_setDc {i : Nat} {y : Str} {py : Pos} {kx vx tg iter : Expr} {ifs : List Expr} {scope : Scope} {own : List (Str × Nat)} {pos spos : Pos} {wi : TI} {g : TG} {tt : TT} {tk tv : TE} (cm : X.calm = true) (nd : X.N.Nodup) (hy : X.N[i]? = some y) (lo : X.env.scope.names.lookup y = some .local)
    (sw : swapsWith (.DictComp kx vx [⟨tg, iter, ifs, 0⟩] scope pos) (some (.Name y py)) spos.line X.env = pure true) (hi : PI X tg iter wi) (ok : BlkOk X.N X.env.scope scope own)
    (hg : ∀ (s : Shared) (H : Hp) (C : Addr) (cl : List (Str × Addr)) (fr : List Addr), PG (X.blk s H scope (compEnvC scope cl C X.env) fr) tg g) (ht : ∀ (s : Shared) (H : Hp) (C : Addr) (cl : List (Str × Addr)) (fr : List Addr), PTs (X.blk s H scope (compEnvC scope cl C X.env) fr) ifs tt)
    (hk : ∀ (s : Shared) (H : Hp) (C : Addr) (cl : List (Str × Addr)) (fr : List Addr), PE (X.blk s H scope (compEnvC scope cl C X.env) fr) kx tk) (hv : ∀ (s : Shared) (H : Hp) (C : Addr) (cl : List (Str × Addr)) (fr : List Addr), PE (X.blk s H scope (compEnvC scope cl C X.env) fr) vx tv)
    (fs : ∀ x, foldedSetIterable iter X.env x = pure x := by intro _; rfl) : PS X (.Assign [.Name y py] (.DictComp kx vx [⟨tg, iter, ifs, 0⟩] scope pos) spos) (tAsg (tDc wi g tt tk tv (own.map (·.2))) (gName i)) := by
  refine ⟨fun pins s σ H D I h => ?_⟩
  rw [exec_Assign_Name_used _ _ _ _ sw]
  refine wpAny_bind (wpAny_standAt (wpAny_bind ?_))
  show wpAny _ X.A (do let _ ← comprehension (.DictComp kx vx [⟨tg, iter, ifs, 0⟩] scope pos) scope X.env (firstIterPos [⟨tg, iter, ifs, 0⟩] pos) newDict false (eval iter X.env) (some (assign (.Name y py) X.env))) _ _ s
  have h2 : tDc wi g tt tk tv (own.map (·.2)) σ H (fun x H1 => gName i x σ H1 D.nx) := h
  refine wpAny_bind (thn (dc_core (Qf := fun _ s' => SP X pins D .next s') cm nd I hi ok hg ht hk hv fs h2 fun L C s' m H' J q hn f => ?_) fun _ s' z => wpAny_pure (wpAny_pure z))
  show wpAny _ _ (assign (.Name y py) X.env (.ref L)) _ _ _
  refine wpAny_assign_Name (store_ok2 (v := V.ref L) J nd hy (.inl lo) rfl (fun s2 J2 ⟨a, sb, ha⟩ => ?_) (.inr lo))
  obtain ⟨f0, f1, f2, f3, f4, f5⟩ := f
  have ne : C ≠ a := ha.elim (fun z => z ▸ f1) fun z e => f4 y a z e.symm
  exact ⟨m, hn.sameBut sb ne, fun h3 sb3 => ⟨_, H', J2.turned (t' := s2.toks) (fun b o hb e => (sb3.2 b hb).trans e) f0 f1 f3 f4 f5, q⟩⟩
end
/-! ### even tables -/
def evP (zs : List Str) (i : Int) : PTab := zs.map fun z => (z, i)
def evS (zs : List Str) (i : Int) : STab := (pairsOf zs).map fun k => (k, i)
theorem evP_keys (zs : List Str) (i : Int) : (evP zs i).map (·.1) = zs := by
  unfold evP
  rw [List.map_map]
  exact List.map_id zs
theorem evS_keys (zs : List Str) (i : Int) : (evS zs i).map (·.1) = pairsOf zs := by
  unfold evS
  rw [List.map_map]
  exact List.map_id _
theorem mem_prs {zs : List Str} {x : Str} {k : Str × Str} : k ∈ prs zs x ↔ k.1 = x ∧ k.2 ∈ zs ∧ x ≠ k.2 := by
  unfold prs
  rw [List.mem_map]
  constructor
  · rintro ⟨y, hy, rfl⟩
    rw [List.mem_filter, decide_eq_true_iff] at hy
    exact ⟨rfl, hy.1, hy.2⟩
  · rintro ⟨h1, h2, h3⟩
    refine ⟨k.2, ?_, by rw [← h1]⟩
    rw [List.mem_filter, decide_eq_true_iff]
    exact ⟨h2, h3⟩
theorem mem_pairs {zs : List Str} {k : Str × Str} : k ∈ pairsOf zs ↔ k.1 ∈ zs ∧ k.2 ∈ zs ∧ k.1 ≠ k.2 := by
  unfold pairsOf
  rw [List.mem_flatMap]
  constructor
  · rintro ⟨x, hx, hk⟩
    obtain ⟨h1, h2, h3⟩ := mem_prs.mp hk
    rw [h1]
    exact ⟨hx, h2, h3⟩
  · rintro ⟨h1, h2, h3⟩
    exact ⟨k.1, h1, mem_prs.mpr ⟨rfl, h2, h3⟩⟩
theorem nodup_pairs {zs : List Str} (nd : zs.Nodup) : (pairsOf zs).Nodup := by
  unfold pairsOf List.Nodup
  rw [List.pairwise_flatMap]
  refine ⟨fun x _ => ?_, List.Pairwise.imp (fun {x y} ne => ?_) nd⟩
  · unfold prs
    rw [List.pairwise_map]
    exact (nd.sublist List.filter_sublist).imp fun {a b} h e => h (by injection e)
  · intro p hp q hq e
    have h1 := (mem_prs.mp hp).1
    have h2 := (mem_prs.mp hq).1
    exact ne (by rw [← h1, ← h2, e])
theorem len_pairs {zs : List Str} (hl : zs.length ≤ 5) : (pairsOf zs).length ≤ 20 := by
  have one : ∀ x ∈ zs, (prs zs x).length ≤ 4 := fun x hx => by
    unfold prs
    rw [List.length_map]
    have : (zs.filter fun y => decide (x ≠ y)).length < zs.length := List.length_filter_lt_length_iff_exists.mpr ⟨x, hx, by simp⟩
    omega
  have all : ∀ l : List Str, (∀ x ∈ l, (prs zs x).length ≤ 4) → (l.flatMap (prs zs)).length ≤ l.length * 4 := by
    intro l
    induction l with
    | nil => intro _; simp
    | cons a l ih =>
      intro h
      rw [List.flatMap_cons, List.length_append, List.length_cons]
      have a1 := h a List.mem_cons_self
      have a2 := ih fun x hx => h x (List.mem_cons_of_mem _ hx)
      omega
  have := all zs one
  unfold pairsOf
  omega
theorem ev_agree {zs : List Str} {i : Int} (a : AscSg zs) (hl : zs.length ≤ 5) : Agree (evP zs i) (evP zs i) (evS zs i) where
  sg := fun p hp => by
    obtain ⟨z, hz, rfl⟩ := List.mem_map.mp hp
    exact a.2.1 z hz
  nd := by
    rw [evP_keys]
    exact nodup_lt a.2.2
  l1 := by
    unfold evP
    rw [List.length_map]
    exact hl
  pm := .refl _
  l3 := by
    unfold evS
    rw [List.length_map]
    exact len_pairs hl
  pr := fun p hp => by
    obtain ⟨k, hk, rfl⟩ := List.mem_map.mp hp
    rw [evP_keys]
    exact mem_pairs.mp hk
theorem nw_up {i : Int} (h : nwB i 1 9 = true) : nwB i 1 18 = true := by
  unfold nwB at *
  simp only [Bool.and_eq_true, decide_eq_true_eq] at *
  exact ⟨h.1, h.2.1, by omega⟩
theorem ev_right {zs : List Str} {i : Int} (a : AscSg zs) (h : nwB i 1 9 = true) : rightB (evP zs i) (evP zs i) (evS zs i) = true := by
  have e1 : okP (evP zs i) 9 = true := by
    unfold okP evP
    rw [List.all_map]
    exact List.all_eq_true.mpr fun _ _ => h
  have e2 : okS (evS zs i) 18 = true := by
    unfold okS evS
    rw [List.all_map]
    exact List.all_eq_true.mpr fun _ _ => nw_up h
  have e3 : (evP zs i).isEmpty = false := by
    cases zs with
    | nil => exact absurd rfl a.1
    | cons z l => rfl
  unfold rightB
  rw [e1, e2, e3]
  rfl
def spEven (C : Addr) : Sp := fun vs H Q _ => ∃ (t : Addr) (zs : List Str) (i : Int), vs = [.ref C, .ref t, .int i] ∧ H t = some (.tup (zs.map V.str)) ∧ AscSg zs ∧ zs.length ≤ 5 ∧ nwB i 1 9 = true ∧
  ∀ H' x u1 u2 u3, Same H H' → H x = none → PrAt C H' x u1 u2 u3 → u1.Perm (evP zs i) → u2.Perm (evP zs i) → u3.Perm (evS zs i) → Srt u1 u2 u3 → Q (.ref x) H'
section
variable {P : Program} {w : World} {K : PySem.W.Frag} {mg : Str → Option Value} {base : Heap}
theorem kbn_init {f : Addr} {fd : FuncData} (F : Fun K "__init__" "Prices.__init__" sInit f fd) : KBn K fd ["self", "put", "out", "swap"] 1 ["put", "out", "swap"] (fun us ws => us ++ ws) (fun vs zs => vs ++ zs) := by
  obtain ⟨oc, od, kV, doc, pm, an, cdv, ct, osl, rfl, lk, hcd⟩ := F.ex
  refine ⟨fun s us ws X l1 l2 => BindsTo.of_eq ?_, fun r1 r2 => r1.append r2⟩
  match us, ws, l1, l2 with
  | [_], [_, _, _], _, _ => rfl
end
end Mk

set_option Elab.async false
set_option linter.all false
set_option maxRecDepth 100000
set_option maxHeartbeats 4000000
namespace Mk
open PySem PySem.Spec L2 PyProof.Rows

abbrev sPutP : Stmt := inClass (top 22) 3
abbrev sOutP : Stmt := inClass (top 22) 4
abbrev sSwapP : Stmt := inClass (top 22) 5
abbrev sMult : Stmt := top 0
abbrev sIsPrice : Stmt := top 0
/-- the three tables of the prices at x -/
def spTabP (C : Addr) (g : PTab → PTab → PTab) : Sp := fun vs H Q _ => ∃ (x : Addr) (t1 t2 : PTab) (t3 : STab), vs = [.ref x] ∧ PrAt C H x t1 t2 t3 ∧ ((g t1 t2).map (·.1)).Nodup ∧ (g t1 t2).length ≤ 60 ∧ Srt t1 t2 t3 ∧
  ∀ H' D, Same H H' → H D = none → H' D = some (.dK (kvsP (g t1 t2))) → Q (.ref D) H'
def spTabS (C : Addr) : Sp := fun vs H Q _ => ∃ (x : Addr) (t1 t2 : PTab) (t3 : STab), vs = [.ref x] ∧ PrAt C H x t1 t2 t3 ∧ (t3.map (·.1)).Nodup ∧ t3.length ≤ 60 ∧ Srt t1 t2 t3 ∧
  ∀ H' D, Same H H' → H D = none → H' D = some (.dT (kvsS t3)) → Q (.ref D) H'
theorem tab_one {α : Type} {t u : List (α × Int)} {le : α → α → Bool} (anti : ∀ a b, le a b = true → le b a = true → a = b) (nd : (t.map (·.1)).Nodup) (p : u.Perm t) (s1 : (t.map (·.1)).Pairwise (fun a b => le a b = true)) (s2 : (u.map (·.1)).Pairwise (fun a b => le a b = true)) : u = t := by
  rw [List.pairwise_map] at s1 s2
  refine List.Perm.eq_of_pairwise (fun a b ha hb h1 h2 => ?_) s2 s1 p
  have e := anti _ _ h1 h2
  have ha2 := p.mem_iff.mp ha
  obtain ⟨i, hi, e1⟩ := List.getElem_of_mem ha2
  obtain ⟨j, hj, e2⟩ := List.getElem_of_mem hb
  have hij : (t.map (·.1))[i]'(by rw [List.length_map]; exact hi) = (t.map (·.1))[j]'(by rw [List.length_map]; exact hj) := by
    rw [List.getElem_map, List.getElem_map, e1, e2, e]
  have := (List.getElem_inj nd).mp hij
  subst this
  rw [← e1, ← e2]
section
variable {P : Program} {w : World} {K : PySem.W.Frag} {mg : Str → Option Value} {base : Heap}
theorem look_no {f g : Str} {v : V} {r : List (Str × V)} (h : ¬ f = g) : List.lookup f ((g, v) :: r) = List.lookup f r := by
  have e : (f == g) = false := beq_eq_false_iff_ne.mpr h
  rw [List.lookup_cons, e]
theorem look_yes {f : Str} {v : V} {r : List (Str × V)} : List.lookup f ((f, v) :: r) = some v := by
  rw [List.lookup_cons, beq_self_eq_true]
theorem fld_put (t a b c : Addr) : List.lookup ("_put" : Str) (fldP t a b c) = some (V.ref a) :=
  (look_no (by decide +kernel)).trans look_yes
theorem fld_out (t a b c : Addr) : List.lookup ("_out" : Str) (fldP t a b c) = some (V.ref b) :=
  (look_no (by decide +kernel)).trans ((look_no (by decide +kernel)).trans look_yes)
theorem fld_swap (t a b c : Addr) : List.lookup ("_swap" : Str) (fldP t a b c) = some (V.ref c) :=
  (look_no (by decide +kernel)).trans ((look_no (by decide +kernel)).trans ((look_no (by decide +kernel)).trans look_yes))
theorem fld_signs (t a b c : Addr) : List.lookup ("_signs" : Str) (fldP t a b c) = some (V.ref t) := look_yes
theorem scPutP : FnScope ["self"] ["self"] (defScope sPutP) := ⟨rfl, rfl, rfl, by decide +kernel, rfl, by decide +kernel, by decide +kernel⟩
theorem ok_putP {f C : Addr} {fd : FuncData} (F : Fun K "put" "Prices.put" sPutP f fd) (T : Pc K C) (S : Cd P w K mg base 1 "ascending_dict" ["table"] spAsc) : FnOk P w K mg base CX0 2 f fd ["self"] (spTabP C fun t _ => t) := by
  obtain ⟨c, dc, Gc, cm, ck, cb⟩ := S.ex
  refine F.ok scPutP (fun vs H Q E h => ?_) (fun cdv A outer s H vs Q E hr h => ?_)
  · obtain ⟨x, t1, t2, t3, rfl, _⟩ := h
    rfl
  · obtain ⟨x, t1, t2, t3, rfl, ⟨dx, t, a, b, d, hx, ht, hT⟩, nd, hl, sr, q⟩ := h
    refine ⟨_, pss_one (ps_ret (pe_call Gc hr (by rfl) cm ck cb .nil pass0 (pa_cons (pe_fld (pv 0) rfl) pa_nil))), ?_⟩
    refine ⟨_, rfl, x, C, dx, _, _, rfl, hx, T.cl, T.n2, fld_put t a b d, a, rfl, .inl ⟨t1, hT.p, nd, hl, fun H1 D u s1 f1 e1 p1 r1 => ?_⟩⟩
    obtain rfl := tab_one byCs_anti nd p1 sr.a r1
    exact q _ _ s1 f1 e1
theorem scOutP : FnScope ["self"] ["self"] (defScope sOutP) := ⟨rfl, rfl, rfl, by decide +kernel, rfl, by decide +kernel, by decide +kernel⟩
theorem ok_outP {f C : Addr} {fd : FuncData} (F : Fun K "out" "Prices.out" sOutP f fd) (T : Pc K C) (S : Cd P w K mg base 1 "ascending_dict" ["table"] spAsc) : FnOk P w K mg base CX0 2 f fd ["self"] (spTabP C fun _ t => t) := by
  obtain ⟨c, dc, Gc, cm, ck, cb⟩ := S.ex
  refine F.ok scOutP (fun vs H Q E h => ?_) (fun cdv A outer s H vs Q E hr h => ?_)
  · obtain ⟨x, t1, t2, t3, rfl, _⟩ := h
    rfl
  · obtain ⟨x, t1, t2, t3, rfl, ⟨dx, t, a, b, d, hx, ht, hT⟩, nd, hl, sr, q⟩ := h
    refine ⟨_, pss_one (ps_ret (pe_call Gc hr (by rfl) cm ck cb .nil pass0 (pa_cons (pe_fld (pv 0) rfl) pa_nil))), ?_⟩
    refine ⟨_, rfl, x, C, dx, _, _, rfl, hx, T.cl, T.n3, fld_out t a b d, b, rfl, .inl ⟨t2, hT.o, nd, hl, fun H1 D u s1 f1 e1 p1 r1 => ?_⟩⟩
    obtain rfl := tab_one byCs_anti nd p1 sr.b r1
    exact q _ _ s1 f1 e1
theorem scSwapP : FnScope ["self"] ["self"] (defScope sSwapP) := ⟨rfl, rfl, rfl, by decide +kernel, rfl, by decide +kernel, by decide +kernel⟩
theorem ok_swapP {f C : Addr} {fd : FuncData} (F : Fun K "swap" "Prices.swap" sSwapP f fd) (T : Pc K C) (S : Cd P w K mg base 1 "ascending_dict" ["table"] spAsc) : FnOk P w K mg base CX0 2 f fd ["self"] (spTabS C) := by
  obtain ⟨c, dc, Gc, cm, ck, cb⟩ := S.ex
  refine F.ok scSwapP (fun vs H Q E h => ?_) (fun cdv A outer s H vs Q E hr h => ?_)
  · obtain ⟨x, t1, t2, t3, rfl, _⟩ := h
    rfl
  · obtain ⟨x, t1, t2, t3, rfl, ⟨dx, t, a, b, d, hx, ht, hT⟩, nd, hl, sr, q⟩ := h
    refine ⟨_, pss_one (ps_ret (pe_call Gc hr (by rfl) cm ck cb .nil pass0 (pa_cons (pe_fld (pv 0) rfl) pa_nil))), ?_⟩
    refine ⟨_, rfl, x, C, dx, _, _, rfl, hx, T.cl, T.n4, fld_swap t a b d, d, rfl, .inr ⟨t3, hT.s, nd, hl, fun H1 D u s1 f1 e1 p1 r1 => ?_⟩⟩
    obtain rfl := tab_one le2_anti nd p1 sr.c r1
    exact q _ _ s1 f1 e1
end
end Mk

set_option Elab.async false
set_option linter.all false
set_option maxRecDepth 100000
set_option maxHeartbeats 4000000
namespace Mk
open PySem PySem.Spec L2 PyProof.Rows

def timesP {α : Type} (t : List (α × Int)) (m : Int) : List (α × Int) := t.map fun p => (p.1, p.2 * m)
theorem timesP_keys {α : Type} (t : List (α × Int)) (m : Int) : (timesP t m).map (·.1) = t.map (·.1) := by
  unfold timesP
  rw [List.map_map]
  rfl
theorem cm100 {i m : Int} (h0 : 0 ≤ i) (h1 : i ≤ 100) : CMul i m := .inl ⟨by omega, by omega⟩
def spMult : Sp := fun vs H Q _ => ∃ (d : Addr) (m : Int), vs = [.ref d, .int m] ∧
  ((∃ t : PTab, H d = some (.dK (kvsP t)) ∧ (t.map (·.1)).Nodup ∧ t.length ≤ 60 ∧ (∀ p ∈ t, 0 ≤ p.2 ∧ p.2 ≤ 100) ∧ ∀ H' D, Same H H' → H D = none → H' D = some (.dK (kvsP (timesP t m))) → Q (.ref D) H') ∨
   ∃ t : STab, H d = some (.dT (kvsS t)) ∧ (t.map (·.1)).Nodup ∧ t.length ≤ 60 ∧ (∀ p ∈ t, 0 ≤ p.2 ∧ p.2 ≤ 100) ∧ ∀ H' D, Same H H' → H D = none → H' D = some (.dT (kvsS (timesP t m))) → Q (.ref D) H')
/-- the new dict at D grows while d is locked -/
structure Grw (H H1 : Hp) (d D : Addr) (u v : HO) : Prop where
  but : ∀ b o, b ≠ d → H b = some o → H1 b = some o
  at_ : H1 d = some u
  out : H1 D = some v
theorem Grw.start {H : Hp} {d D : Addr} {u v : HO} (hD : upd H d u D = none) : D ≠ d ∧ H D = none ∧ Grw H (upd (upd H d u) D v) d D u v := by
  have ne : D ≠ d := fun e => by
    rw [e, upd_same] at hD
    cases hD
  have h0 : H D = none := by rwa [upd_ne ne] at hD
  refine ⟨ne, h0, fun b o hb e => ?_, ?_, upd_same⟩
  · rw [upd_ne (ne_of_none e h0), upd_ne hb]
    exact e
  · rw [upd_ne ne.symm]
    exact upd_same
theorem Grw.next {H H1 : Hp} {d D : Addr} {u v v2 : HO} (W : Grw H H1 d D u v) (ne : D ≠ d) (h0 : H D = none) : Grw H (upd H1 D v2) d D u v2 := by
  refine ⟨fun a o hb e => ?_, ?_, upd_same⟩
  · rw [upd_ne (ne_of_none e h0)]
    exact W.but a o hb e
  · rw [upd_ne ne.symm]
    exact W.at_
theorem Grw.done {H H1 : Hp} {d D : Addr} {u v u0 : HO} (W : Grw H H1 d D u v) (hd : H d = some u0) : Same H (upd H1 d u0) := fun b o e => by
  by_cases hb : b = d
  · subst hb
    rw [hd] at e
    cases e
    exact upd_same
  · rw [upd_ne hb]
    exact W.but b o hb e
section
variable {P : Program} {w : World} {K : PySem.W.Frag} {mg : Str → Option Value} {base : Heap}
end
end Mk

set_option Elab.async false
set_option linter.all false
set_option maxRecDepth 100000
set_option maxHeartbeats 4000000
namespace Mk
open PySem PySem.Spec L2 PyProof.Rows

abbrev sIsPriceF : Stmt := top 0
abbrev sIsKind : Stmt := top 0
/-- a right price for this kind of change -/
def PrOk (k : Str) (v : V) : Prop := (k = "swap" ∧ (v = .non ∨ ∃ i, v = .int i ∧ nwB i 1 18 = true)) ∨ (¬ k = "swap" ∧ ∃ i, v = .int i ∧ nwB i 1 9 = true)
def spIsPrice : Sp := fun vs H Q _ => ∃ (k : Str) (v : V), vs = [.str k, v] ∧ PrOk k v ∧ Q (.bl true) H
/-- a kind of change of the signs zs, as a tuple of texts -/
def KiOk (zs : List Str) (xs : List Str) : Prop := (∃ k x : Str, xs = [k, x] ∧ (k = "put" ∨ k = "out") ∧ x ∈ zs) ∨ ∃ x y : Str, xs = [("swap" : Str), x, y] ∧ x ∈ zs ∧ y ∈ zs ∧ x ≠ y
def spIsKind : Sp := fun vs H Q _ => ∃ (c t : Addr) (xs zs : List Str), vs = [.ref c, .ref t] ∧ H c = some (.tup (xs.map V.str)) ∧ H t = some (.tup (zs.map V.str)) ∧ KiOk zs xs ∧ ∀ H', Same H H' → Q (.bl true) H'
section
variable {P : Program} {w : World} {K : PySem.W.Frag} {mg : Str → Option Value} {base : Heap}
end
end Mk

set_option Elab.async false
set_option linter.all false
set_option maxRecDepth 100000
set_option maxHeartbeats 4000000
namespace Mk
open PySem PySem.Spec L2 PyProof.Rows

/-! ### a table with another price, or with one less -/
section
variable {α : Type} [DecidableEq α]
def setT (t : List (α × Int)) (k : α) (i : Int) : List (α × Int) := if k ∈ t.map (·.1) then t.map (fun p => if p.1 = k then (p.1, i) else p) else t ++ [(k, i)]
def delT (t : List (α × Int)) (k : α) : List (α × Int) := t.filter fun p => decide (p.1 ≠ k)
theorem setT_in {t : List (α × Int)} {k : α} {i : Int} (h : k ∈ t.map (·.1)) : (setT t k i).map (·.1) = t.map (·.1) := by
  unfold setT
  rw [if_pos h, List.map_map]
  refine List.map_congr_left fun p _ => ?_
  show (if p.1 = k then (p.1, i) else p).1 = p.1
  split <;> rfl
theorem setT_out {t : List (α × Int)} {k : α} {i : Int} (h : k ∉ t.map (·.1)) : setT t k i = t ++ [(k, i)] := by
  unfold setT
  rw [if_neg h]
theorem setT_mem {t : List (α × Int)} {k : α} {i : Int} {q : α × Int} (h : q ∈ setT t k i) : q ∈ t ∨ q = (k, i) := by
  unfold setT at h
  split at h
  · obtain ⟨p, hp, e⟩ := List.mem_map.mp h
    by_cases c : p.1 = k
    · rw [if_pos c] at e
      rw [← e, c]
      exact .inr rfl
    · rw [if_neg c] at e
      rw [← e]
      exact .inl hp
  · rcases List.mem_append.mp h with h | h
    · exact .inl h
    · exact .inr (List.mem_singleton.mp h)
theorem setT_nd {t : List (α × Int)} {k : α} {i : Int} (nd : (t.map (·.1)).Nodup) : ((setT t k i).map (·.1)).Nodup := by
  by_cases h : k ∈ t.map (·.1)
  · rw [setT_in h]
    exact nd
  · rw [setT_out h, List.map_append]
    refine List.nodup_append.mpr ⟨nd, by simp, fun a ha b hb e => ?_⟩
    have : b = k := by simpa using hb
    rw [e, this] at ha
    exact h ha
theorem delT_nd {t : List (α × Int)} {k : α} (nd : (t.map (·.1)).Nodup) : ((delT t k).map (·.1)).Nodup := nd.sublist (List.filter_sublist.map _)
theorem delT_mem {t : List (α × Int)} {k : α} {q : α × Int} (h : q ∈ delT t k) : q ∈ t := (List.mem_filter.mp h).1
end
theorem putP_set (t : PTab) (k : Str) (i : Int) : L2.putK (kvsP t) (Sum.inr k) (V.int i) = kvsP (setT t k i) := by
  by_cases h : k ∈ t.map (·.1)
  · have a : ((kvsP t).any fun kv => decide (kv.1 = (Sum.inr k : Key))) = true := by
      obtain ⟨p, hp, e⟩ := List.mem_map.mp h
      refine List.any_eq_true.mpr ⟨_, List.mem_map.mpr ⟨p, hp, rfl⟩, ?_⟩
      rw [decide_eq_true_iff, ← e]
    unfold L2.putK setT
    rw [if_pos a, if_pos h]
    unfold kvsP
    rw [List.map_map, List.map_map]
    refine List.map_congr_left fun p _ => ?_
    show (if (Sum.inr p.1 : Key) = Sum.inr k then (Sum.inr p.1, V.int i) else (Sum.inr p.1, V.int p.2)) = (Sum.inr (if p.1 = k then (p.1, i) else p).1, V.int (if p.1 = k then (p.1, i) else p).2)
    by_cases c : p.1 = k
    · rw [if_pos c, if_pos (by rw [c])]
    · rw [if_neg c, if_neg fun z => c (Sum.inr.inj z)]
  · rw [putP_new h, setT_out h]
theorem putS_set (t : STab) (k : Str × Str) (i : Int) : L2.putK (kvsS t) (keyOf k) (V.int i) = kvsS (setT t k i) := by
  by_cases h : k ∈ t.map (·.1)
  · have a : ((kvsS t).any fun kv => decide (kv.1 = keyOf k)) = true := by
      obtain ⟨p, hp, e⟩ := List.mem_map.mp h
      refine List.any_eq_true.mpr ⟨_, List.mem_map.mpr ⟨p, hp, rfl⟩, ?_⟩
      rw [decide_eq_true_iff, ← e]
    unfold L2.putK setT
    rw [if_pos a, if_pos h]
    unfold kvsS
    rw [List.map_map, List.map_map]
    refine List.map_congr_left fun p _ => ?_
    show (if keyOf p.1 = keyOf k then (keyOf p.1, V.int i) else (keyOf p.1, V.int p.2)) = (keyOf (if p.1 = k then (p.1, i) else p).1, V.int (if p.1 = k then (p.1, i) else p).2)
    by_cases c : p.1 = k
    · rw [if_pos c, if_pos (by rw [c])]
    · rw [if_neg c, if_neg fun z => c (key_inj z)]
  · rw [putS_new h, setT_out h]
theorem dropS_del (t : STab) (k : Str × Str) : L2.dropK (kvsS t) (keyOf k) = kvsS (delT t k) := by
  unfold L2.dropK delT kvsS
  rw [List.filter_map]
  refine congrArg _ (List.filter_congr fun p _ => ?_)
  show decide (keyOf p.1 ≠ keyOf k) = decide (p.1 ≠ k)
  by_cases c : p.1 = k
  · rw [c]
    simp
  · have n2 : keyOf p.1 ≠ keyOf k := fun z => c (key_inj z)
    rw [decide_eq_true c, decide_eq_true n2]
/-! ### the three tables stay alike -/
theorem Agree.set1 {t1 t2 : PTab} {t3 : STab} (a : Agree t1 t2 t3) {k : Str} {i : Int} (h : k ∈ t1.map (·.1)) : Agree (setT t1 k i) t2 t3 where
  sg := fun p hp => by
    rcases setT_mem hp with hp | rfl
    · exact a.sg p hp
    · obtain ⟨q, hq, e⟩ := List.mem_map.mp h
      rw [← e]
      exact a.sg q hq
  nd := setT_nd a.nd
  l1 := by
    have := congrArg List.length (setT_in (i := i) h)
    rw [List.length_map, List.length_map] at this
    rw [this]
    exact a.l1
  pm := by
    rw [setT_in h]
    exact a.pm
  l3 := a.l3
  pr := fun p hp => by
    rw [setT_in h]
    exact a.pr p hp
theorem Agree.set2 {t1 t2 : PTab} {t3 : STab} (a : Agree t1 t2 t3) {k : Str} {i : Int} (h : k ∈ t1.map (·.1)) : Agree t1 (setT t2 k i) t3 where
  sg := a.sg
  nd := a.nd
  l1 := a.l1
  pm := by
    rw [setT_in (a.pm.mem_iff.mpr h)]
    exact a.pm
  l3 := a.l3
  pr := a.pr
theorem okP_set {t : PTab} {k : Str} {i m : Int} (h : okP t m = true) (hi : nwB i 1 m = true) : okP (setT t k i) m = true := by
  unfold okP at *
  refine List.all_eq_true.mpr fun p hp => ?_
  rcases setT_mem hp with hp | rfl
  · exact List.all_eq_true.mp h p hp
  · exact hi
theorem okS_set {t : STab} {k : Str × Str} {i m : Int} (h : okS t m = true) (hi : nwB i 1 m = true) : okS (setT t k i) m = true := by
  unfold okS at *
  refine List.all_eq_true.mpr fun p hp => ?_
  rcases setT_mem hp with hp | rfl
  · exact List.all_eq_true.mp h p hp
  · exact hi
theorem okS_del {t : STab} {k : Str × Str} {m : Int} (h : okS t m = true) : okS (delT t k) m = true := by
  unfold okS at *
  exact List.all_eq_true.mpr fun p hp => List.all_eq_true.mp h p (delT_mem hp)
end Mk

set_option Elab.async false
set_option linter.all false
set_option maxRecDepth 100000
set_option maxHeartbeats 4000000
namespace Mk
open PySem PySem.Spec L2 PyProof.Rows

/-- what a deed makes of the tables -/
def Deed (t1 t2 : PTab) (t3 : STab) (xs : List Str) (v : V) (r1 r2 : PTab) (r3 : STab) : Prop :=
  (∃ (s : Str) (i : Int), xs = [("put" : Str), s] ∧ s ∈ t1.map (·.1) ∧ v = .int i ∧ nwB i 1 9 = true ∧ r1 = setT t1 s i ∧ r2 = t2 ∧ r3 = t3) ∨
  (∃ (s : Str) (i : Int), xs = [("out" : Str), s] ∧ s ∈ t1.map (·.1) ∧ v = .int i ∧ nwB i 1 9 = true ∧ r1 = t1 ∧ r2 = setT t2 s i ∧ r3 = t3) ∨
  (∃ (a b : Str), xs = [("swap" : Str), a, b] ∧ a ∈ t1.map (·.1) ∧ b ∈ t1.map (·.1) ∧ a ≠ b ∧ r1 = t1 ∧ r2 = t2 ∧ ((v = .non ∧ r3 = delT t3 (a, b)) ∨ ∃ i, v = .int i ∧ nwB i 1 18 = true ∧ r3 = setT t3 (a, b) i ∧ r3.length ≤ 20))
/-- a def of the class that is read as a property -/
abbrev tb (a b c : Addr) : List (Key × V) := [(Sum.inr ("put" : Str), V.ref a), (Sum.inr ("out" : Str), V.ref b), (Sum.inr ("swap" : Str), V.ref c)]
theorem kn {a b : Str} (h : ¬ a = b) : ¬ (Sum.inr a : Key) = Sum.inr b := fun z => h (Sum.inr.inj z)
theorem tb_eq (a b c : Addr) : mergeK [] (tb a b c) = tb a b c := by
  have n1 : ¬ ("put" : Str) = "out" := by decide +kernel
  have n2 : ¬ ("put" : Str) = "swap" := by decide +kernel
  have n3 : ¬ ("out" : Str) = "swap" := by decide +kernel
  unfold mergeK tb
  simp only [List.foldl_cons, List.foldl_nil]
  rw [putK_new _ (show valV ([] : List (Key × V)) (Sum.inr "put") = none from rfl), List.nil_append, putK_new _ ((valV_neg (kn n1)).trans rfl), List.singleton_append, putK_new _ ((valV_neg (kn n2)).trans ((valV_neg (kn n3)).trans rfl))]
  rfl
theorem tb_put (a b c : Addr) : valV (tb a b c) (Sum.inr "put") = some (V.ref a) := valV_pos rfl
theorem tb_out (a b c : Addr) : valV (tb a b c) (Sum.inr "out") = some (V.ref b) := (valV_neg (kn (by decide +kernel))).trans (valV_pos rfl)
theorem tb_swap (a b c : Addr) : valV (tb a b c) (Sum.inr "swap") = some (V.ref c) := (valV_neg (kn (by decide +kernel))).trans ((valV_neg (kn (by decide +kernel))).trans (valV_pos rfl))
theorem Agree.del3 {t1 t2 : PTab} {t3 : STab} {k : Str × Str} (a : Agree t1 t2 t3) : Agree t1 t2 (delT t3 k) where
  sg := a.sg
  nd := a.nd
  l1 := a.l1
  pm := a.pm
  l3 := Nat.le_trans (List.length_filter_le _ _) a.l3
  pr := fun p hp => a.pr p (delT_mem hp)
theorem Agree.set3 {t1 t2 : PTab} {t3 : STab} {x y : Str} {i : Int} (a : Agree t1 t2 t3) (hx : x ∈ t1.map (·.1)) (hy : y ∈ t1.map (·.1)) (hxy : x ≠ y) (hl : (setT t3 (x, y) i).length ≤ 20) : Agree t1 t2 (setT t3 (x, y) i) where
  sg := a.sg
  nd := a.nd
  l1 := a.l1
  pm := a.pm
  l3 := hl
  pr := fun p hp => by
    rcases setT_mem hp with hp | rfl
    · exact a.pr p hp
    · exact ⟨hx, hy, hxy⟩
theorem right_1 {t1 t2 : PTab} {t3 : STab} {k : Str} {i : Int} (h : rightB t1 t2 t3 = true) (hi : nwB i 1 9 = true) : rightB (setT t1 k i) t2 t3 = true := by
  unfold rightB at *
  simp only [Bool.and_eq_true, Bool.not_eq_true'] at *
  refine ⟨okP_set h.1 hi, ?_, h.2.2⟩
  cases t1 with
  | nil => exact absurd h.2.1 (by simp)
  | cons p r =>
    unfold setT
    split <;> simp
theorem right_2 {t1 t2 : PTab} {t3 : STab} {k : Str} {i : Int} (h : rightB t1 t2 t3 = true) (hi : nwB i 1 9 = true) : rightB t1 (setT t2 k i) t3 = true := by
  unfold rightB at *
  simp only [Bool.and_eq_true, Bool.not_eq_true'] at *
  exact ⟨h.1, h.2.1, okP_set h.2.2.1 hi, h.2.2.2⟩
theorem right_3 {t1 t2 : PTab} {t3 u3 : STab} (h : rightB t1 t2 t3 = true) (hu : okS t3 18 = true → okS u3 18 = true) : rightB t1 t2 u3 = true := by
  unfold rightB at *
  simp only [Bool.and_eq_true, Bool.not_eq_true'] at *
  exact ⟨h.1, h.2.1, h.2.2.1, hu h.2.2.2⟩
structure Pd (P : Program) (w : World) (K : PySem.W.Frag) (mg : Str → Option Value) (base : Heap) (C : Addr) (k : Nat) (f : Str) (sp : Sp) : Prop where
  ex : ∃ (p g : Addr) (fd : FuncData), PropOf K C f p g ∧ FnOk P w K mg base CX0 k g fd ["self"] sp ∧ Binds K fd ["self"] []
section
variable {P : Program} {w : World} {K : PySem.W.Frag} {mg : Str → Option Value} {base : Heap}
def spWith (C : Addr) : Sp := fun vs H Q _ => ∃ (x c : Addr) (v : V) (xs : List Str) (t1 t2 : PTab) (t3 : STab) (r1 r2 : PTab) (r3 : STab), vs = [.ref x, .ref c, v] ∧ PrAt C H x t1 t2 t3 ∧ H c = some (.tup (xs.map V.str)) ∧ Agree t1 t2 t3 ∧ (t3.map (·.1)).Nodup ∧ rightB t1 t2 t3 = true ∧ Srt t1 t2 t3 ∧ Deed t1 t2 t3 xs v r1 r2 r3 ∧
  ∀ H' y u1 u2 u3, Same H H' → H y = none → PrAt C H' y u1 u2 u3 → u1.Perm r1 → u2.Perm r2 → u3.Perm r3 → Srt u1 u2 u3 → Q (.ref y) H'
end
end Mk

set_option Elab.async false
set_option linter.all false
set_option maxRecDepth 100000
set_option maxHeartbeats 4000000
/-! a class's own len, in, str, == and != -/
namespace Mk
open PySem PySem.Spec L2 PyProof.Rows

/-- the def g of the class at C under this name -/
structure OwnD (K : PySem.W.Frag) (C g : Addr) (name : Str) : Prop where
  find : PySem.W.findIn K (.ref C) name = some (some (.ref g))
  fn : PySem.W.isFn K (.ref g) = true
/-- it, with its promise -/
structure OwnF (X : Cx) (C : Addr) (n : Nat) (name : Str) (ps : List Str) (sp : Sp) : Prop where
  ex : ∃ (g : Addr) (fd : FuncData), OwnD X.K C g name ∧ FnOk X.prog X.w X.K X.mg X.base CX0 n g fd ps sp ∧ Binds X.K fd ps []
section
variable {X : Cx} {n : Nat} {C g : Addr} {fd : FuncData} {ps : List Str} {sp : Sp} {pins : List (Addr × Obj)} {σ : L2.St} {H : Hp} {s : Shared} {name : Str} {Q : VK}
theorem own_run (F : FnOk X.prog X.w X.K X.mg X.base CX0 n g fd ps sp) (hb : Binds X.K fd ps []) {A : Around} (sb : Sub X n A) (I : Inv X pins σ H s) {vs : List V} {us : List Value} (r : Vals vs us) (hsp : sp vs H Q (fun _ _ _ => False)) :
    wpAny (model X.prog X.w) A (call (.ref g) us) (fun v s' => ∃ x H', Inv X pins σ H' s' ∧ RelV x v ∧ Q x H') X.xe s := by
  have e1 := I.env0
  have e0 : Env0 X.prog X.w X.K X.mg X.base A X.stack s H := ⟨sb.fr.trans e1.frames, e1.mod, e1.bs, e1.bsz, e1.funs, e1.frf, e1.hok, e1.bare⟩
  have lu : us.length = ps.length := r.length.symm.trans (F.len _ _ _ _ hsp)
  have bd := hb s us I.kIn (by simpa using lu)
  rw [List.append_nil] at bd
  refine wpAny_call (codeAny_mono (F.run A X.stack s H ⟨us, []⟩ us vs Q _ sb.room e0 bd r hsp) fun res s' z => ?_)
  match res, z with
  | .error e, z => exact pass0 pins σ H s e s' I z
  | .ok (.ret u), z => exact I.after z
  | .ok .next, z => exact z.elim
  | .ok .brk, z => exact z.elim
  | .ok .cont, z => exact z.elim
theorem sub_1 {A : Around} (hr : Room (n + 1) X.A) : Sub X n X.A.in1 := ⟨hr.in1, rfl⟩
theorem sub_2 {A : Around} (hr : Room (n + 2) X.A) : Sub X n X.A.in1.in1 := ⟨hr.in1.in1, rfl⟩
/-- what stands behind a token more -/
theorem inv_tok {t : Nat} (I : Inv X pins σ H s) : Inv X pins σ H { s with toks := t } := by
  have := I.kept (h' := s.heap) (t' := t) fun _ _ e => e
  exact this
theorem call_len_own (O : OwnF X C n "__len__" ps sp) (hr : Room (n + 1) X.A) : CallR X (.builtin "len") (fun xs H Q => ∃ a dx fs, xs = [.ref a] ∧ H a = some (.ins C dx fs) ∧ sp [.ref a] H (fun v H' => ∃ k : Nat, v = .int k ∧ k < 2 ^ 63 ∧ Q v H') (fun _ _ _ => False)) := by
  intro pins s σ H xs us Q I r h
  obtain ⟨a, dx, fs, rfl, ha, h⟩ := h
  obtain ⟨u, rfl, hu⟩ := vals1 r
  obtain rfl : u = Value.ref a := hu
  obtain ⟨g, fd, D, F, hb⟩ := O.ex
  obtain ⟨mA, J, _⟩ := ins_get I.hok ha
  obtain ⟨od, J, _⟩ := J.look
  obtain ⟨m, hF⟩ := I.fr
  refine PySem.W.len_K hF I.ok.mod.kin J D.find D.fn (wpAny_mono (own_run F hb (sub_1 (A := X.A) hr) I r h) (fun v s' z => ?_) fun _ _ z => z)
  obtain ⟨x, H', I', rx, k, rfl, hk, q⟩ := z
  obtain ⟨t, rfl⟩ := rx
  exact ⟨⟨by omega, by omega⟩, .int k, H', inv_tok I', ⟨_, rfl⟩, q⟩
/-- x in o -/
def rInOwn (C : Addr) (sp : Sp) : R2 := fun x y H Q => ∃ a dx fs, y = .ref a ∧ H a = some (.ins C dx fs) ∧ sp [.ref a, x] H (fun v H' => ∃ b, v = .bl b ∧ Q v H') (fun _ _ _ => False)
theorem op_in_own (O : OwnF X C n "__contains__" ps sp) (hr : Room n X.A) : OpR X (compareOp .In) (rInOwn C sp) := by
  intro pins s σ H x y v u Q I rx ry h
  obtain ⟨a, dx, fs, rfl, ha, h⟩ := h
  obtain rfl : u = Value.ref a := ry
  obtain ⟨g, fd, D, F, hb⟩ := O.ex
  obtain ⟨mA, J, _⟩ := ins_get I.hok ha
  obtain ⟨od, J, _⟩ := J.look
  obtain ⟨m, hF⟩ := I.fr
  refine PySem.W.in_K hF I.ok.mod.kin J D.find D.fn (wpAny_mono (own_run (vs := [.ref a, x]) F hb ⟨hr, rfl⟩ I (.cons rfl (.cons rx .nil)) h) (fun w s' z => ?_) fun _ _ z => z)
  obtain ⟨x', H', I', rx', b, rfl, q⟩ := z
  obtain rfl : w = Value.bool b := rx'
  exact wpAny_truthy_bool ⟨.bl b, H', I', rfl, q⟩
theorem call_str_own (O : OwnF X C n "__str__" ps sp) (hr : Room (n + 2) X.A) : CallR X (.type "str") (fun xs H Q => ∃ a dx fs, xs = [.ref a] ∧ H a = some (.ins C dx fs) ∧ sp [.ref a] H (fun v H' => ∃ z : Str, v = .str z ∧ Q v H') (fun _ _ _ => False)) := by
  intro pins s σ H xs us Q I r h
  obtain ⟨a, dx, fs, rfl, ha, h⟩ := h
  obtain ⟨u, rfl, hu⟩ := vals1 r
  obtain rfl : u = Value.ref a := hu
  obtain ⟨g, fd, D, F, hb⟩ := O.ex
  obtain ⟨mA, J, _⟩ := ins_get I.hok ha
  obtain ⟨od, J, _⟩ := J.look
  refine PySem.W.kso_call hr.in1.in1.units0 I.kIn J D.find D.fn (wpAny_mono (own_run F hb (sub_2 (A := X.A) hr) I r h) (fun v s' z => ?_) fun _ _ z => z)
  obtain ⟨x, H', I', rx, k, rfl, q⟩ := z
  obtain ⟨t, rfl⟩ := rx
  exact ⟨.str k, H', I', ⟨_, rfl⟩, q⟩
/-- the kind of what stands on the right of o == .. -/
inductive Rgt (K : PySem.W.Frag) (C : Addr) (H : Hp) : V → Prop where
  | ins {b dx : Addr} {fs : List (Str × V)} : H b = some (.ins C dx fs) → Rgt K C H (.ref b)
  | lst {b : Addr} {xs : List V} : H b = some (.lst xs) → PySem.W.subIn K (.type "list") (.ref C) = some false → Rgt K C H (.ref b)
  | int (i : Int) : PySem.W.subIn K (.type "int") (.ref C) = some false → Rgt K C H (.int i)
def rEqOwn (X : Cx) (C : Addr) (sp : Sp) : R2 := fun x y H Q => ∃ a dx fs, x = .ref a ∧ H a = some (.ins C dx fs) ∧ Rgt X.K C H y ∧ sp [.ref a, y] H (fun v H' => ∃ b, v = .bl b ∧ Q v H') (fun _ _ _ => False)
theorem Rgt.looks {M : Model} {y : V} {u : Value} (h : Rgt X.K C H y) (I : Inv X pins σ H s) (r : RelV y u) : ∃ tb, PySem.W.Looks M s.heap (typeOf u) tb ∧ PySem.W.notFirst X.K C tb = true := by
  cases h with
  | ins e =>
    obtain rfl := r
    obtain ⟨mB, J, _⟩ := ins_get I.hok e
    obtain ⟨od, J, _⟩ := J.look
    exact ⟨_, J.type, by simp [PySem.W.notFirst]⟩
  | lst e hs =>
    obtain rfl := r
    obtain ⟨z, its, k, r, e⟩ := I.hok _ _ e
    refine ⟨.type "list", fun A Q E s2 kp q => wpAny_typeOf_ref (kp _ _ e) q, ?_⟩
    unfold PySem.W.notFirst
    rw [hs]
    simp
  | int i hs =>
    obtain ⟨t, rfl⟩ := r
    refine ⟨.type "int", fun A Q E s2 kp q => wpAny_pure q, ?_⟩
    unfold PySem.W.notFirst
    rw [hs]
    simp
theorem op_eq_own (O : OwnF X C n "__eq__" ps sp) (hr : Room n X.A) : OpR X (compareOp .Eq) (rEqOwn X C sp) := by
  intro pins s σ H x y v u Q I rx ry h
  obtain ⟨a, dx, fs, rfl, ha, hy, h⟩ := h
  obtain rfl : v = Value.ref a := rx
  obtain ⟨g, fd, D, F, hb⟩ := O.ex
  obtain ⟨mA, J, _⟩ := ins_get I.hok ha
  obtain ⟨od, J, _⟩ := J.look
  obtain ⟨m, hF⟩ := I.fr
  obtain ⟨tb, hl, hn⟩ := hy.looks (M := model X.prog X.w) I ry
  refine PySem.W.cmp_K (op := .Eq) hr.units0 hF I.ok.mod.kin J hl hn D.find D.fn (wpAny_mono (own_run (vs := [.ref a, y]) F hb ⟨hr, rfl⟩ I (.cons rfl (.cons ry .nil)) h) (fun w s' z => ?_) fun _ _ z => z)
  obtain ⟨x', H', I', rx', b, rfl, q⟩ := z
  obtain rfl : w = Value.bool b := rx'
  exact ⟨.bl b, H', I', rfl, q⟩
/-- what != of an own == leans on -/
structure NeD (K : PySem.W.Frag) (C : Addr) : Prop where
  find : PySem.W.findIn K (.ref C) "__ne__" = some (some (.builtin "object.__ne__"))
  obj : PySem.W.mroIn K C (.type "object") = some true
theorem run_ne (O : OwnF X C n "__eq__" ps sp) (hr : Room (n + 1) X.A) {a dx : Addr} {fs : List (Str × V)} {y : V} {u : Value} (ne : NeD X.K C) (I : Inv X pins σ H s) (ha : H a = some (.ins C dx fs)) (ry : RelV y u) (h : sp [.ref a, y] H (fun v H' => ∃ b, v = .bl b ∧ Q (.bl (!b)) H') (fun _ _ _ => False)) :
    wpAny (model X.prog X.w) X.A (tryCompare (.ref a) "__ne__" u) (fun r s' => ∃ x H' v, r = some v ∧ Inv X pins σ H' s' ∧ RelV x v ∧ Q x H' ∧ ∃ b, v = .bool b) X.xe s := by
  obtain ⟨g, fd, D, F, hb⟩ := O.ex
  obtain ⟨mA, J, _⟩ := ins_get I.hok ha
  obtain ⟨od, J, _⟩ := J.look
  have body : wpAny (model X.prog X.w) X.A.in1 (Builtin.«object.__ne__» ⟨[.ref a, u], []⟩) (fun fin s' => ∃ b H', fin = .done (.ret (.bool (!b))) ∧ Inv X pins σ H' s' ∧ Q (.bl (!b)) H') X.xe s := by
    unfold Builtin.«object.__ne__»
    refine wpAny_bind (m := slotArgs "__ne__" 1 _) (wpAny_pure ?_)
    refine wpAny_bind (m := cRoomFor _ _) (wpAny_cRoomFor hr.in1.units0 ?_)
    refine wpAny_bind (m := callSpecialIfBound? (.ref a) _ _) (PySem.W.ifBound_K I.kIn J D.find D.fn (wpAny_mono (own_run (vs := [.ref a, y]) F hb (sub_1 (A := X.A) hr) I (.cons rfl (.cons ry .nil)) h) (fun w s' z => ?_) fun _ _ z => z))
    obtain ⟨x', H', I', rx', b, rfl, q⟩ := z
    obtain rfl : w = Value.bool b := rx'
    exact wpAny_bind (wpAny_truthy_bool (wpAny_pure ⟨b, H', rfl, I', q⟩))
  unfold tryCompare
  refine wpAny_bind (m := callSpecialIfBound? (.ref a) _ _) ?_
  simp only [callSpecialIfBound?, bindSpecialIfBound?]
  refine wpAny_holding (wpAny_bind (wpAny_bind (wpAny_bind (J.type.here ((PySem.W.looks_findIn I.kIn ne.find).here ?_)))))
  refine wpAny_bind (wpAny_askSetting (wpAny_ite ?_))
  have fin : ∀ R : Option Value → Shared → Prop, (∀ b H' s', Inv X pins σ H' s' → Q (.bl (!b)) H' → R (some (.bool (!b))) s') → wpAny (model X.prog X.w) X.A (call (.builtin "object.__ne__") ([.ref a] ++ [u]) >>= fun v => pure (some v)) R X.xe s := fun R hR => by
    refine wpAny_bind (wpAny_call (codeAny_call_builtin PySem.F.slot_enumerate_ne.plain PySem.F.cmpEntry_ne (PySem.W.check_slot (i := "object.__ne__") (owner := "object") (n := "__ne__") PySem.F.cmpKind_ne PySem.F.cmpSplit_ne (J.type.andThen (PySem.W.looks_mroIn I.kIn ne.obj)) (PySem.F.cmpArgs_ne _ _) ?_)))
    refine wpAny_mono body (fun fn s' z => ?_) fun _ _ z => z
    obtain ⟨b, H', rfl, I', q⟩ := z
    exact wpAny_pure (hR b H' s' I' q)
  have last : ∀ b H' s', Inv X pins σ H' s' → Q (.bl (!b)) H' → ∃ x H'' v, some (Value.bool (!b)) = some v ∧ Inv X pins σ H'' s' ∧ RelV x v ∧ Q x H'' ∧ ∃ b, v = .bool b := fun b H' s' I' q => ⟨.bl (!b), H', _, rfl, I', rfl, q, _, rfl⟩
  split
  · refine wpAny_bind ((PySem.W.Looks.of_pure (PySem.F.slot_enumerate_ne.bind _)).here (wpAny_pure ?_))
    exact fin _ fun b H' s' I' q => wpAny_pure (last b H' s' I' q)
  · refine wpAny_tryCatch (wpAny_bind ((PySem.W.Looks.of_pure (PySem.F.slot_enumerate_ne.bind _)).here (wpAny_pure ?_)))
    exact fin _ fun b H' s' I' q => wpAny_pure (last b H' s' I' q)
def rNeOwn (X : Cx) (C : Addr) (sp : Sp) : R2 := fun x y H Q => ∃ a dx fs, x = .ref a ∧ H a = some (.ins C dx fs) ∧ Rgt X.K C H y ∧ sp [.ref a, y] H (fun v H' => ∃ b, v = .bl b ∧ Q (.bl (!b)) H') (fun _ _ _ => False)
theorem op_ne_own (O : OwnF X C n "__eq__" ps sp) (ne : NeD X.K C) (hr : Room (n + 1) X.A) : OpR X (compareOp .NotEq) (rNeOwn X C sp) := by
  intro pins s σ H x y v u Q I rx ry h
  obtain ⟨a, dx, fs, rfl, ha, hy, h⟩ := h
  obtain rfl : v = Value.ref a := rx
  obtain ⟨mA, J, _⟩ := ins_get I.hok ha
  obtain ⟨od, J, _⟩ := J.look
  obtain ⟨tb, hl, hn⟩ := hy.looks (M := model X.prog X.w) I ry
  have one := run_ne O hr ne I ha ry h
  show wpAny (model X.prog X.w) X.A (richCompare .NotEq (.ref a) u) (EP X pins σ Q) X.xe s
  unfold richCompare
  simp only [oneThing_ref]
  refine wpAny_holding (wpAny_bind (wpAny_cRoomFor hr.units0 ?_))
  refine wpAny_bind (J.type.here (wpAny_bind (hl.here ?_)))
  have fin : ∀ r s', (∃ x H' v, r = some v ∧ Inv X pins σ H' s' ∧ RelV x v ∧ Q x H' ∧ ∃ b, v = .bool b) → ∃ v, r = some v ∧ EP X pins σ Q v s' := fun r s' ⟨x, H', v, e, I', rv, q, _⟩ => ⟨v, e, x, H', I', rv, q⟩
  split
  · rename_i q
    have e : PySem.W.subIn X.K tb (.ref C) = some false := by
      rcases Bool.or_eq_true_iff.mp hn with e | e
      · rw [beq_iff_eq.mp e] at q; simp at q
      · exact beq_iff_eq.mp e
    refine wpAny_bind ((PySem.W.looks_subIn I.kIn e).here ?_)
    simp only [Bool.false_eq_true, if_false]
    refine wpAny_bind (wpAny_mono one (fun r s' z => ?_) fun _ _ e => e)
    obtain ⟨v, rfl, hq⟩ := fin _ _ z
    exact wpAny_pure hq
  · refine wpAny_bind (wpAny_pure ?_)
    simp only [Bool.false_eq_true, if_false]
    refine wpAny_bind (wpAny_mono one (fun r s' z => ?_) fun _ _ e => e)
    obtain ⟨v, rfl, hq⟩ := fin _ _ z
    exact wpAny_pure hq
end
end Mk

set_option Elab.async false
set_option linter.all false
set_option maxRecDepth 100000
set_option maxHeartbeats 1000000
namespace Mk
open PySem PySem.Spec L2 PyProof.Rows

abbrev sContP : Stmt := inClass (top 22) 13
/-- data, an empty dict too -/
inductive Da (K : PySem.W.Frag) (H : Hp) : V → PyData → Prop where
  | of {v : V} {d : PyData} : Dp K H v d → SeqAt.shaped d = true → Da K H v d
  | dic {a : Addr} : H a = some (.dK []) → Da K H (.ref a) (.dict [])
/-- it is one of these texts -/
def inS (zs : List Str) : PyData → Bool
  | .str z => decide (z ∈ zs)
  | _ => false
theorem any_inS : ∀ (zs : List Str) (d : PyData), ((zs.map PyData.str).any fun y => PyData.eqv y d) = inS zs d
  | [], .str z => by simp [inS]
  | [], .none | [], .bool _ | [], .int _ | [], .list _ | [], .tuple _ | [], .dict _ => by simp [inS]
  | x :: zs, .str z => by
    have ih := any_inS zs (.str z)
    rw [List.map_cons, List.any_cons, ih]
    unfold inS
    have e : PyData.eqv (.str x) (.str z) = decide (x = z) := by
      show (x == z) = decide (x = z)
      by_cases h : x = z
      · rw [decide_eq_true h, h, beq_self_eq_true]
      · rw [decide_eq_false h, beq_eq_false_iff_ne.mpr h]
    rw [e]
    by_cases h : x = z
    · subst h
      simp
    · have h2 : ¬ z = x := fun k => h k.symm
      simp [h, h2]
  | x :: zs, .none | x :: zs, .bool _ | x :: zs, .int _ | x :: zs, .list _ | x :: zs, .tuple _ | x :: zs, .dict _ => by
    rw [List.map_cons, List.any_cons, any_inS zs _]
    simp [inS, PyData.eqv]
theorem strs_read {h : Heap} : ∀ {zs : List Str} {vs : List Value} {as : List Addr}, ReadsAll h vs (zs.map PyData.str) as → ∀ y ∈ vs, ∃ (z : Str) (t : Tok), y = .str z t
  | [], _, _, .nil, _, hy => nomatch hy
  | z :: zs, _, _, .cons r1 r2, y, hy => by
    rcases List.mem_cons.mp hy with rfl | hy
    · cases r1
      exact ⟨_, _, rfl⟩
    · exact strs_read r2 y hy
theorem lay_strs' (zs : List Str) (h : ∀ z ∈ zs, PyData.strOk z = true) : PyData.canLayAll0 (zs.map PyData.str) = true := lay_strs zs h
section
variable {A : Around} {s : Shared}
/-- a text is no dict -/
theorem eq_str_dict {d : Addr} {o : Obj} {es : Array DictEntry} {ep : Nat} (b : Str) (u : Tok) (ho : s.heap.get? d = some o) (hx : o.ExactDict) (hd : o.data = .dict es ep) (hu : A.units < cLine) : SeqAt.EqAt A s (.str b u) (.ref d) false := fun prog w E Q h => by
  have ty : s.TypeIs (.ref d) "dict" := ⟨o, ho, hx.1⟩
  have f1 : wpAny (model prog w) A (richCompare .Eq (.str b u) (.ref d)) (fun v s' => v = .bool false ∧ s' = s) E s := by
    refine SeqAt.rc_eq_decline_or (k := false) (typeIs_str s b u) ty (by decide) PySem.F.sub_dict_str PySem.F.slot_str_eq PySem.F.slot_dict_eq_refl (fun Q' hq => ?_) (fun Q' hq => ?_) (fun Q' hq => wpAny_of_eq (rfl : isSame (.str b u) (.ref d) = pure false) hq) (.inr hu) ⟨rfl, rfl⟩
    · refine wpAny_call_entry PySem.F.slot_str_eq (typeIs_str s b u) PySem.F.entry_str_eq ?_ (PySem.F.args_str_eq_2 _ _)
      wp_walk using wpAny_load ho
      rw [hd]
      refine wpAny_pure (wpAny_bind (wpAny_rule (wpAny_pure ⟨_, rfl, hq⟩)))
    · refine wpAny_call_entry PySem.F.slot_dict_eq ty PySem.F.entry_dict_eq ?_ (PySem.F.args_dict_eq_2 _ _)
      show wpAny (model prog w) _ (Builtin.Dict.dictSlotArgs "__eq__" ⟨[.ref d, .str b u], []⟩ >>= _) _ _ s
      unfold Builtin.Dict.dictSlotArgs
      refine wpAny_bind (wpAny_bind (wpAny_notOrdered_dict ty ?_))
      show wpAny (model prog w) _ (pure (Value.ref d, Value.str b u)) _ _ s
      refine wpAny_pure (wpAny_bind (wpAny_isInstance (T := "str") (typeIs_str s b u) PySem.F.sub_str_dict ?_))
      simp only [Bool.not_false, ite_true]
      first
        | exact wpAny_bind (wpAny_rule (wpAny_pure ⟨_, rfl, hq⟩))
        | exact wpAny_rule (wpAny_pure ⟨_, rfl, hq⟩)
        | exact wpAny_bind (wpAny_rule (wpAny_bind (wpAny_pure (wpAny_pure ⟨_, rfl, hq⟩))))
  unfold eqBool
  refine wpAny_holding (wpAny_ite_split (fun hab => absurd (eq_of_beq hab) nofun) fun _ => wpAny_bind (wpAny_mono f1 (fun v s' z => ?_) fun _ _ z => z))
  obtain ⟨rfl, rfl⟩ := z
  exact wpAny_truthy_bool h
end
section
variable {X : Cx}
def rInS (K : PySem.W.Frag) : R2 := fun x y H Q => ∃ p d, ∃ zs : List Str, y = .ref p ∧ SqT K H p (zs.map V.str) ∧ (∀ z ∈ zs, PyData.strOk z = true) ∧ Da K H x d ∧ Q (.bl (inS zs d)) H
theorem op_inS (hu : X.A.units + 65 < cLine) : OpR X (compareOp .In) (rInS X.K) := by
  intro pins s σ H x y v u Q I rx ry h
  obtain ⟨p, d, zs, rfl, hp, ok, hd, q⟩ := h
  obtain ⟨bs, r2⟩ := Dp.reads I (.tuple (zs.map PyData.str)) (.ref p) u (.tup hp (dpAll_str zs)) ry
  have dep : PyData.depthAll (zs.map PyData.str) = 0 := depth_strs zs
  have fin : wpAny (model X.prog X.w) X.A (compareOp .In v u) (EP X pins σ Q) X.xe s → wpAny (model X.prog X.w) X.A (compareOp .In v u) (EP X pins σ Q) X.xe s := id
  have last : EP X pins σ Q (Value.bool ((zs.map PyData.str).any fun y => PyData.eqv y d)) s := by
    rw [any_inS]
    exact ⟨.bl (inS zs d), H, I, rfl, q⟩
  cases hd with
  | of h1 h2 =>
    obtain ⟨as, r1⟩ := Dp.reads I d x v h1 rx
    exact SeqAt.in_tuple_reads r2 r1 (lay_strs' zs ok) (SeqAt.canLay_of_shaped h2) (by rw [dep]; omega) last
  | dic h1 =>
    obtain rfl := rx
    obtain ⟨_, _, vs, kv, o, es, ep, ho, hx, hdt, r⟩ := I.hok _ _ h1
    have e0 : vs = [] := by cases kv; rfl
    subst e0
    have ez : es = #[] := by
      have := r.2.1.length
      simpa using this
    subst ez
    have all : ((zs.map PyData.str).any fun y => PyData.eqv y (.dict [])) = false := any_inS zs (.dict [])
    rw [all] at last
    cases r2 with
    | tuple h1 h2 h3 h4 =>
      refine SeqAt.in_tupleAt (fun _ => false) ⟨_, h1, h2, _, h3⟩ (fun y hy => ?_) (by rw [show (Array.any _ fun _ => false) = false from Array.any_eq_false.mpr (by simp)]; exact last)
      obtain ⟨dy, cs, ry, _, _⟩ := SeqAt.readsAll_mem _ _ _ (lay_strs' zs ok) h4 y (by simpa using hy)
      have hs := strs_read h4 y (by simpa using hy)
      obtain ⟨z, tk, rfl⟩ := hs
      exact eq_str_dict z tk ho hx hdt (by show X.A.units + 1 < cLine; omega)
theorem inSK (K : PySem.W.Frag) (hu : X.A.units + 65 < cLine) (hK : X.K = K := by rfl) : OpR X (compareOp .In) (rInS K) := by
  subst hK
  exact op_inS hu
end
def spCont (K : PySem.W.Frag) (C : Addr) : Sp := fun vs H Q _ => ∃ (x : Addr) (v : V) (d : PyData) (t1 t2 : PTab) (t3 : STab), vs = [.ref x, v] ∧ PrAt C H x t1 t2 t3 ∧ (∀ p ∈ t1, sgB p.1 = true) ∧ Da K H v d ∧ Q (.bl (inS (t1.map (·.1)) d)) H
def spHave (C : Addr) : Sp := fun vs H Q _ => ∃ (x t : Addr) (zs : List Str) (t1 t2 : PTab) (t3 : STab), vs = [.ref x, .ref t] ∧ PrAt C H x t1 t2 t3 ∧ (∀ p ∈ t1, sgB p.1 = true) ∧ H t = some (.tup (zs.map V.str)) ∧ zs.length ≤ 4000 ∧ (∀ z ∈ zs, z ∈ t1.map (·.1)) ∧ ∀ H', Same H H' → Q (.bl true) H'
section
variable {P : Program} {w : World} {K : PySem.W.Frag} {mg : Str → Option Value} {base : Heap}
theorem scContP : FnScope ["self", "value"] ["self", "value"] (defScope sContP) := ⟨rfl, rfl, rfl, by decide +kernel, rfl, by decide +kernel, by decide +kernel⟩
theorem ok_contP {f C : Addr} {fd : FuncData} (F : Fun K "__contains__" "Prices.__contains__" sContP f fd) (T : Pc K C) : FnOk P w K mg base CX0 1 f fd ["self", "value"] (spCont K C) := by
  refine F.ok scContP (fun vs H Q E h => ?_) (fun cdv A outer s H vs Q E hr h => ?_)
  · obtain ⟨x, v, d, t1, t2, t3, rfl, _⟩ := h
    rfl
  · obtain ⟨x, v, d, t1, t2, t3, rfl, ⟨dx, t, a, b, e, hx, ht, hT⟩, sg, hd, q⟩ := h
    have hu : A.units + 3 + 65 < cLine := by
      have h2 : A.units + 3 + 16 * 0 + 200 < cLine := hr.un
      omega
    refine ⟨_, pss_one (ps_ret (pe_cmpR (op_inS hu) (pv 1) (pe_fld (pv 0) rfl) (by rfl))), ?_⟩
    exact ⟨_, rfl, _, rfl, x, C, dx, _, _, rfl, hx, T.cl, T.n1, fld_signs t a b e, t, d, t1.map (·.1), rfl, SqT.of ht, fun z hz => by
      obtain ⟨p, hp, rfl⟩ := List.mem_map.mp hz
      exact sg_ok (sg p hp), hd, q⟩
end
end Mk

set_option Elab.async false
set_option linter.all false
set_option maxRecDepth 100000
set_option maxHeartbeats 4000000
namespace Mk
open PySem PySem.Spec L2 PyProof.Rows

/-- the swaps among these signs -/
def within (t : STab) (zs : List Str) : STab := t.filter fun p => decide (p.1.1 ∈ zs) && (decide (p.1.2 ∈ zs) && decide (p.1.1 ≠ p.1.2))
section
variable {X : Cx}
theorem inSeqK (K : PySem.W.Frag) (hK : X.K = K := by rfl) : OpR X (compareOp .In) (rIn K false) := by
  subst hK
  exact op_in_seq
theorem fldK {o : Expr} {ta : TE} {f : Str} {pos : Pos} (K : PySem.W.Frag) (h : PE X o ta) (hb : attributeBase o f X.env (eval o X.env) = eval o X.env) (hK : X.K = K := by rfl) : PE X (.Attribute o f pos) (tFld K ta f) := by
  subst hK
  exact pe_fld h hb
end
def spLim (C : Addr) : Sp := fun vs H Q _ => ∃ (x t : Addr) (zs : List Str) (t1 t2 : PTab) (t3 : STab), vs = [.ref x, .ref t] ∧ PrAt C H x t1 t2 t3 ∧ H t = some (.tup (zs.map V.str)) ∧ AscSg zs ∧ zs.length ≤ 5 ∧ (∀ z ∈ zs, z ∈ t1.map (·.1)) ∧ Agree t1 t2 t3 ∧ (t3.map (·.1)).Nodup ∧ rightB t1 t2 t3 = true ∧
  ∀ H' y u1 u2 u3, Same H H' → H y = none → PrAt C H' y u1 u2 u3 → u1.Perm (put t1 zs) → u2.Perm (put t2 zs) → u3.Perm (within t3 zs) → Srt u1 u2 u3 → Q (.ref y) H'
theorem lim_agree {zs : List Str} {t1 t2 : PTab} {t3 : STab} (asc : AscSg zs) (hl : zs.length ≤ 5) (a : Agree t1 t2 t3) : Agree (put t1 zs) (put t2 zs) (within t3 zs) where
  sg := fun p hp => by
    obtain ⟨z, hz, rfl⟩ := List.mem_map.mp hp
    exact asc.2.1 z hz
  nd := by
    rw [put_keys]
    exact nodup_lt asc.2.2
  l1 := by
    unfold put
    rw [List.length_map]
    exact hl
  pm := by
    rw [put_keys, put_keys]
  l3 := Nat.le_trans (List.length_filter_le _ _) a.l3
  pr := fun p hp => by
    have h := (List.mem_filter.mp hp).2
    simp only [Bool.and_eq_true, decide_eq_true_eq] at h
    rw [put_keys]
    exact h
theorem okP_put {t : PTab} {zs : List Str} {m : Int} (nd : (t.map (·.1)).Nodup) (sub : ∀ z ∈ zs, z ∈ t.map (·.1)) (h : okP t m = true) : okP (put t zs) m = true := by
  unfold okP at *
  refine List.all_eq_true.mpr fun p hp => ?_
  obtain ⟨z, hz, rfl⟩ := List.mem_map.mp hp
  obtain ⟨r, hr, e⟩ := List.mem_map.mp (sub z hz)
  have := look_mem nd r hr
  rw [e] at this
  show nwB (look t z) 1 m = true
  rw [this]
  exact List.all_eq_true.mp h r hr
theorem lim_right {zs : List Str} {t1 t2 : PTab} {t3 : STab} (asc : AscSg zs) (sub : ∀ z ∈ zs, z ∈ t1.map (·.1)) (a : Agree t1 t2 t3) (h : rightB t1 t2 t3 = true) : rightB (put t1 zs) (put t2 zs) (within t3 zs) = true := by
  unfold rightB at *
  simp only [Bool.and_eq_true, Bool.not_eq_true'] at *
  refine ⟨okP_put a.nd sub h.1, ?_, okP_put (a.pm.nodup_iff.mpr a.nd) (fun z hz => a.pm.mem_iff.mpr (sub z hz)) h.2.2.1, ?_⟩
  · cases zs with
    | nil => exact absurd rfl asc.1
    | cons z l => rfl
  · unfold okS at *
    exact List.all_eq_true.mpr fun p hp => List.all_eq_true.mp h.2.2.2 p (List.mem_filter.mp hp).1
section
variable {P : Program} {w : World} {K : PySem.W.Frag} {mg : Str → Option Value} {base : Heap}
end
end Mk

set_option Elab.async false
set_option linter.all false
set_option maxRecDepth 100000
set_option maxHeartbeats 4000000
namespace Mk
open PySem PySem.Spec L2 PyProof.Rows

abbrev sSignsP : Stmt := inClass (top 22) 2
abbrev sLenP : Stmt := inClass (top 22) 14
def spSigns (C : Addr) : Sp := fun vs H Q _ => ∃ (x : Addr) (t1 t2 : PTab) (t3 : STab), vs = [.ref x] ∧ PrAt C H x t1 t2 t3 ∧ ∀ t, H t = some (.tup ((t1.map (·.1)).map V.str)) → Q (.ref t) H
def spLenP (C : Addr) : Sp := fun vs H Q _ => ∃ (x : Addr) (t1 t2 : PTab) (t3 : STab), vs = [.ref x] ∧ PrAt C H x t1 t2 t3 ∧ Q (.int (t1.length : Nat)) H
section
variable {P : Program} {w : World} {K : PySem.W.Frag} {mg : Str → Option Value} {base : Heap}
theorem scSignsP : FnScope ["self"] ["self"] (defScope sSignsP) := ⟨rfl, rfl, rfl, by decide +kernel, rfl, by decide +kernel, by decide +kernel⟩
theorem ok_signsP {f C : Addr} {fd : FuncData} (F : Fun K "signs" "Prices.signs" sSignsP f fd) (T : Pc K C) : FnOk P w K mg base CX0 1 f fd ["self"] (spSigns C) := by
  refine F.ok scSignsP (fun vs H Q E h => ?_) (fun cdv A outer s H vs Q E hr h => ?_)
  · obtain ⟨x, t1, t2, t3, rfl, _⟩ := h
    rfl
  · obtain ⟨x, t1, t2, t3, rfl, ⟨dx, t, a, b, d, hx, ht, hT⟩, q⟩ := h
    exact ⟨_, pss_one (ps_ret (pe_fld (pv 0) rfl)), _, rfl, x, C, dx, _, _, rfl, hx, T.cl, T.n1, fld_signs t a b d, q t ht⟩
end
end Mk

set_option Elab.async false
set_option linter.all false
set_option maxRecDepth 100000
set_option maxHeartbeats 1000000
namespace Mk
open PySem PySem.Spec L2 PyProof.Rows

/-- an own exception, made with a text -/
structure ExK (K : PySem.W.Frag) (mg : Str → Option Value) (x : Str) (C : Addr) : Prop where
  gC : mg x = some (.ref C)
  kC : PySem.W.keepIn K (.ref C) = true
  q : PySem.W.excIn K C [.type "ValueError", .type "Exception", .type "BaseException", .type "object"] "ValueError.__new__" = true
  b : PySem.W.subIn K (.ref C) (.type "BaseException") = some true
  t : PySem.W.typeIn K (.ref C) = some (.type "type")
theorem agree_times {t1 t2 : PTab} {t3 : STab} {m : Int} (a : Agree t1 t2 t3) : Agree (timesP t1 m) (timesP t2 m) (timesP t3 m) where
  sg := fun p hp => by
    obtain ⟨q, hq, rfl⟩ := List.mem_map.mp hp
    exact a.sg q hq
  nd := by rw [timesP_keys]; exact a.nd
  l1 := by unfold timesP; rw [List.length_map]; exact a.l1
  pm := by rw [timesP_keys, timesP_keys]; exact a.pm
  l3 := by unfold timesP; rw [List.length_map]; exact a.l3
  pr := fun p hp => by
    obtain ⟨q, hq, rfl⟩ := List.mem_map.mp hp
    rw [timesP_keys]
    exact a.pr q hq
theorem ok_bounds {t : PTab} {m : Int} (hm : m ≤ 18) (h : okP t m = true) : ∀ p ∈ t, 0 ≤ p.2 ∧ p.2 ≤ 100 := fun p hp => by
  have := List.all_eq_true.mp h p hp
  unfold nwB at this
  simp only [Bool.and_eq_true, decide_eq_true_eq] at this
  omega
theorem okS_bounds {t : STab} {m : Int} (hm : m ≤ 18) (h : okS t m = true) : ∀ p ∈ t, 0 ≤ p.2 ∧ p.2 ≤ 100 := fun p hp => by
  have := List.all_eq_true.mp h p hp
  unfold nwB at this
  simp only [Bool.and_eq_true, decide_eq_true_eq] at this
  omega
def spTimes (C CI : Addr) : Sp := fun vs H Q E => ∃ (x : Addr) (m : Int) (t1 t2 : PTab) (t3 : STab), vs = [.ref x, .int m] ∧ PrAt C H x t1 t2 t3 ∧ 1 ≤ m ∧ m ≤ LG ∧ Agree t1 t2 t3 ∧ (t3.map (·.1)).Nodup ∧ rightB t1 t2 t3 = true ∧
  (rightB (timesP t1 m) (timesP t2 m) (timesP t3 m) = true → ∀ H' y u1 u2 u3, Same H H' → H y = none → PrAt C H' y u1 u2 u3 → u1.Perm (timesP t1 m) → u2.Perm (timesP t2 m) → u3.Perm (timesP t3 m) → Srt u1 u2 u3 → Q (.ref y) H') ∧
  (rightB (timesP t1 m) (timesP t2 m) (timesP t3 m) = false → ∀ H', Same H H' → E (.ref CI) none H')
section
variable {P : Program} {w : World} {K : PySem.W.Frag} {mg : Str → Option Value} {base : Heap}
end
end Mk

set_option Elab.async false
set_option linter.all false
set_option maxRecDepth 100000
set_option maxHeartbeats 1000000
/-! == of two tables, keys texts or pairs of texts -/
namespace Mk
open PySem PySem.Spec L2 PyProof.Rows

section
variable {κ : Type} [DecidableEq κ]
/-- the pair is in the dict, its value equal -/
def hasP (ls : List (κ × V)) (p : κ × V) : Bool := match valV ls p.1 with
  | some v => eqV p.2 v
  | none => false
def sameKV (ks ls : List (κ × V)) : Bool := (ks.length == ls.length) && ks.all (hasP ls)
theorem hits_any {P : Program} {w : World} {A : Around} {s : Shared} {ls : List (κ × V)} {vb : List (κ × Value)} (rb : KV ls vb) (fb : ∀ p ∈ ls, flatV p.2 = true) : ∀ {ks : List (κ × V)} {va : List (κ × Value)}, KV ks va → (∀ p ∈ ks, flatV p.2 = true) → PySem.W.KeqHitsP P w A s vb va (ks.all (hasP ls))
  | [], _, .nil, _ => .nil
  | p :: ks, (k, v) :: va, .cons ⟨h1, h2⟩ t, hf => by
    have ih := hits_any (A := A) (s := s) (P := P) (w := w) rb fb t fun q hq => hf q (List.mem_cons_of_mem _ hq)
    have e1 : p.1 = k := h1
    subst e1
    have rr := rb.val p.1
    rw [List.all_cons]
    cases hv : valV ls p.1 with
    | none =>
      rw [hv] at rr
      cases hw : valueAt vb p.1 with
      | some y => rw [hw] at rr; exact rr.elim
      | none =>
        have : hasP ls p = false := by unfold hasP; rw [hv]
        rw [this, Bool.false_and]
        exact .miss hw
    | some u =>
      rw [hv] at rr
      cases hw : valueAt vb p.1 with
      | none => rw [hw] at rr; exact rr.elim
      | some y =>
        rw [hw] at rr
        have fu : flatV u = true := by
          unfold valV at hv
          obtain ⟨q, hq, e⟩ := Option.map_eq_some_iff.mp hv
          rw [← e]
          exact fb q (List.mem_of_find?_eq_some hq)
        have : hasP ls p = eqV p.2 u := by unfold hasP; rw [hv]
        rw [this]
        exact .hit hw (fun E Q hq => (eqAt_V (A := A) (s := s) h2 rr (hf p List.mem_cons_self) fu) P w E Q hq) ih
end
section
variable {X : Cx}
def rEqDK : R2 := fun x y H Q => ∃ a b ks ls, x = .ref a ∧ y = .ref b ∧ H a = some (.dK ks) ∧ H b = some (.dK ls) ∧ (∀ p ∈ ks, flatV p.2 = true) ∧ (∀ p ∈ ls, flatV p.2 = true) ∧ Q (.bl (sameKV ks ls)) H
theorem op_eq_dK (hu : X.A.units < cLine) : OpR X (compareOp .Eq) rEqDK := by
  intro pins s σ H x y v u Q I rx ry h
  obtain ⟨a, b, ks, ls, rfl, rfl, ea, eb, fk, fl, q⟩ := h
  cases rx
  cases ry
  obtain ⟨_, ya, va, ra, da⟩ := I.hok a _ ea
  obtain ⟨_, yb, vb, rb, db⟩ := I.hok b _ eb
  refine PySem.W.rcP_dicts (knd := mixKind X.prog X.w) (r := ks.all (hasP ls)) ya yb da db hu (fun _ => hits_any rb fl ra fk) _ _ ?_
  have e1 : va.length = ks.length := (Paired.length ra).symm
  have e2 : vb.length = ls.length := (Paired.length rb).symm
  rw [e1, e2]
  exact ⟨.bl _, H, I, rfl, q⟩
theorem keys_of {H : Hp} : ∀ {ls : List (List Key × V)} {xb : List (List Key × Addr × Value)}, KT H ls xb → ls.map (·.1) = xb.map (·.1)
  | _, _, .nil => rfl
  | _, _, .cons h t => by rw [List.map_cons, List.map_cons, h.1, keys_of t]
/-- the dicts with pairs as keys -/
theorem pairsT {P : Program} {w : World} {A : Around} {E : Value → Shared → Prop} {s : Shared} {H : Hp} {nm : String} {a b : Addr} {ks ls : List (List Key × V)} {xa xb : List (List Key × Addr × Value)} (hu : A.units < cLine) (na : (a == sysModules) = false) (nb : (b == sysModules) = false)
    (ra : KT H ks xa) (rb : KT H ls xb) (da : s.heap.DictOfH (tupleKind (mixKind P w)) a xa) (db : s.heap.DictOfH (tupleKind (mixKind P w)) b xb) (fk : ∀ p ∈ ks, flatV p.2 = true) (fl : ∀ p ∈ ls, flatV p.2 = true) {Q : Bool → Shared → Prop} (q : Q (sameKV ks ls) s) :
    wpAny (model P w) A (Builtin.Dict.samePairs nm a b) Q E s := by
  obtain ⟨oa, es, ep, hoa, _, hda, hea, hia, hna⟩ := da
  obtain ⟨ob, fs, fp, hob, _, hdb, heb, hib, hnb⟩ := db
  have la : es.size = ks.length := (size_of_entries hea).trans (Paired.length ra).symm
  have lb : fs.size = ls.length := (size_of_entries heb).trans (Paired.length rb).symm
  unfold Builtin.Dict.samePairs Builtin.Dict.showsAll
  rw [if_neg (by rw [na]; exact Bool.false_ne_true), if_neg (by rw [nb]; exact Bool.false_ne_true)]
  refine wpAny_bind (wpAny_pure (wpAny_bind (wpAny_pure (wpAny_bind (wpAny_dictEntries hoa hda ?_)))))
  dsimp only
  refine wpAny_bind (wpAny_dictEntries hob hdb ?_)
  by_cases hz : es.size = fs.size
  case neg =>
    have f : sameKV ks ls = false := by
      unfold sameKV
      rw [← la, ← lb, beq_eq_false_iff_ne.mpr hz, Bool.false_and]
    rw [f] at q
    rw [if_pos (by simpa using hz)]
    exact wpAny_bind (wpAny_rule (wpAny_pure q))
  case pos =>
    have f : sameKV ks ls = ks.all (hasP ls) := by
      unfold sameKV
      rw [← la, ← lb, hz, beq_self_eq_true, Bool.true_and]
    rw [f] at q
    rw [if_neg (by rw [hz]; simp)]
    refine wpAny_bind (wpAny_dictEpoch hoa hda (wpAny_bind ?_))
    rw [Std.Legacy.Range.forIn_eq_forIn_range']
    simp only [Std.Legacy.Range.size, Nat.sub_zero, Nat.add_sub_cancel, Nat.div_one]
    refine wpAny_forIn_list _ (fun rest z s' => s' = s ∧ z = (none, ()) ∧ ∃ i, rest = List.range' i (es.size - i) ∧ i ≤ es.size ∧ (ks.drop i).all (hasP ls) = ks.all (hasP ls)) _ ?_ ?_ _ _ ⟨rfl, rfl, 0, by simp, Nat.zero_le _, by rw [List.drop_zero]⟩
    · rintro i0 rest z s' ⟨rfl, rfl, i, hr, hi, hp⟩
      have hlt : i < es.size := by
        rcases Nat.lt_or_ge i es.size with h | h
        · exact h
        · rw [Nat.sub_eq_zero_of_le h] at hr
          cases hr
      obtain ⟨m, hm⟩ : ∃ m, es.size - i = m + 1 := ⟨es.size - i - 1, by omega⟩
      rw [hm, List.range'_succ] at hr
      injection hr with h1 h2
      subst h1
      have hk : i0 < ks.length := by omega
      obtain ⟨x, hx, e1, e2, e3⟩ := paired_get ra (List.getElem?_eq_getElem hk)
      have een : es[i0]? = some (entryOfKey (tupleKind (mixKind P w)) x) := by rw [entry_at hea i0, hx]; rfl
      have cell : xa[i0]? = some x := hx
      have hix := hia x (List.mem_of_getElem? cell)
      rw [List.drop_eq_getElem_cons hk, List.all_cons] at hp
      refine wpAny_bind (wpAny_dictEntries hoa hda ?_)
      rw [een]
      dsimp only
      have hash : (entryOfKey (tupleKind (mixKind P w)) x).hash = (tupleKind (mixKind P w)).hash x.1 := rfl
      have kref : (entryOfKey (tupleKind (mixKind P w)) x).key = .ref x.2.1 := rfl
      have vref : (entryOfKey (tupleKind (mixKind P w)) x).val = x.2.2 := rfl
      rw [hash, kref, vref]
      refine wpAny_bind (wpAny_holding (wpAny_bind (wpAny_dictFind_heap (knd := tupleKind (mixKind P w)) hu hix hob hdb heb hib hnb (fun hno => ?_) fun j pr hj => ?_)))
      · have vn : valV ls ks[i0].1 = none := by
          cases e : valV ls ks[i0].1 with
          | none => rfl
          | some u =>
            unfold valV at e
            obtain ⟨r, hr, _⟩ := Option.map_eq_some_iff.mp e
            obtain ⟨j, hj⟩ := List.mem_iff_getElem?.mp (List.mem_of_find?_eq_some hr)
            obtain ⟨y, hy, g1, _⟩ := paired_get rb hj
            have g2 : r.1 = ks[i0].1 := by
              have := List.find?_some hr
              exact of_decide_eq_true this
            refine absurd ?_ (hno j y.2)
            rw [← e1, ← g2, g1]
            exact hy
        have hf : hasP ls ks[i0] = false := by unfold hasP; rw [vn]
        rw [hf, Bool.false_and] at hp
        rw [← hp] at q
        refine wpAny_pure ?_
        show wpAny _ _ (if (!false) = true then _ else _) _ _ _
        rw [if_pos (by decide)]
        exact wpAny_pure (wpAny_pure q)
      · obtain ⟨r, hr, g1, _, g3⟩ := DX.pget rb hj
        have vr : valV ls ks[i0].1 = some r.2 := by
          have nd : (ls.map (·.1)).Nodup := by
            have e : ls.map (·.1) = xb.map (·.1) := by
              exact keys_of rb
            rw [e]
            exact hnb
          have := val_nodup nd r (List.mem_of_getElem? hr)
          rw [e1, ← this, g1]
        have hf : hasP ls ks[i0] = eqV ks[i0].2 r.2 := by unfold hasP; rw [vr]
        refine wpAny_bind (wpAny_dictEntries hob hdb ?_)
        rw [entry_at heb j, hj]
        refine wpAny_holding ((eqAt_V (A := A) (s := s') e3 g3 (fk _ (List.getElem_mem hk)) (fl _ (List.mem_of_getElem? hr))) P w _ _ ?_)
        rw [← hf]
        cases c : hasP ls ks[i0] with
        | false =>
          rw [c, Bool.false_and] at hp
          rw [← hp] at q
          show wpAny _ _ (if (!false) = true then _ else _) _ _ _
          rw [if_pos (by decide)]
          exact wpAny_pure (wpAny_pure q)
        | true =>
          rw [c, Bool.true_and] at hp
          show wpAny _ _ (if (!true) = true then _ else _) _ _ _
          rw [if_neg (by decide)]
          refine wpAny_bind (wpAny_dictEpoch hoa hda ?_)
          rw [if_neg (by simp)]
          exact wpAny_pure ⟨rfl, rfl, i0 + 1, by rw [h2]; congr 1; omega, hlt, hp⟩
    · rintro z s' ⟨rfl, rfl, i, hr, hi, hp⟩
      have hin : i = es.size := by
        rcases Nat.lt_or_ge i es.size with h | h
        · obtain ⟨m, hm⟩ : ∃ m, es.size - i = m + 1 := ⟨es.size - i - 1, by omega⟩
          rw [hm, List.range'_succ] at hr
          cases hr
        · omega
      rw [hin, la, List.drop_length] at hp
      rw [← hp] at q
      exact wpAny_pure q
def rEqDT : R2 := fun x y H Q => ∃ a b ks ls, x = .ref a ∧ y = .ref b ∧ H a = some (.dT ks) ∧ H b = some (.dT ls) ∧ (∀ p ∈ ks, flatV p.2 = true) ∧ (∀ p ∈ ls, flatV p.2 = true) ∧ Q (.bl (sameKV ks ls)) H
theorem op_eq_dT (hu : X.A.units + 1 < cLine) : OpR X (compareOp .Eq) rEqDT := by
  intro pins s σ H x y v u Q I rx ry h
  obtain ⟨a, b, ks, ls, rfl, rfl, ea, eb, fk, fl, q⟩ := h
  cases rx
  cases ry
  obtain ⟨_, na, xa, ra, da⟩ := dt_of I.hok ea
  obtain ⟨_, nb, xb, rb, db⟩ := dt_of I.hok eb
  show wpAny _ _ (richCompare .Eq (.ref a) (.ref b)) _ _ _
  refine wpAny_richCompare_same_room (op := .Eq) da.typeIs db.typeIs PySem.F.slot_dict_eq (wpAny_call_entry PySem.F.slot_dict_eq da.typeIs PySem.F.entry_dict_eq ?_ (PySem.F.args_dict_eq_2 _ _)) (by omega)
  show wpAny (model X.prog X.w) _ (Builtin.Dict.dictSlotArgs "__eq__" ⟨[.ref a, .ref b], []⟩ >>= _) _ _ s
  unfold Builtin.Dict.dictSlotArgs
  refine wpAny_bind (wpAny_bind (wpAny_notOrdered_dict da.typeIs ?_))
  show wpAny (model X.prog X.w) _ (pure (Value.ref a, Value.ref b)) _ _ s
  refine wpAny_pure (wpAny_bind (wpAny_isInstance (T := "dict") db.typeIs PySem.F.sub_dict_dict ?_))
  simp only [Bool.not_true, Bool.false_eq_true, ite_false]
  refine wpAny_bind (wpAny_pure (wpAny_bind (wpAny_pure (wpAny_bind (pairsT (by show X.A.units + 1 < cLine; exact hu) na nb ra rb da db fk fl ?_)))))
  have e : (sameKV ks ls == true) = sameKV ks ls := by cases sameKV ks ls <;> rfl
  rw [e]
  have last : EP X pins σ Q (Value.bool (sameKV ks ls)) s := ⟨.bl (sameKV ks ls), H, I, rfl, q⟩
  refine wpAny_pure ⟨_, rfl, ?_, last⟩
  intro z
  cases z
end
/-! ### tables of ints -/
theorem flat_P (t : PTab) : ∀ p ∈ kvsP t, flatV p.2 = true := fun p hp => by
  obtain ⟨q, _, rfl⟩ := List.mem_map.mp hp
  rfl
theorem flat_S (t : STab) : ∀ p ∈ kvsS t, flatV p.2 = true := fun p hp => by
  obtain ⟨q, _, rfl⟩ := List.mem_map.mp hp
  rfl
theorem same_P {t u : PTab} (p : u.Perm t) (nd : (t.map (·.1)).Nodup) : sameKV (kvsP t) (kvsP u) = true := by
  unfold sameKV
  rw [kvsP_len, kvsP_len, p.length_eq, beq_self_eq_true, Bool.true_and]
  refine List.all_eq_true.mpr fun q hq => ?_
  obtain ⟨r, hr, rfl⟩ := List.mem_map.mp hq
  have m : r.1 ∈ u.map (·.1) := List.mem_map.mpr ⟨r, p.mem_iff.mpr hr, rfl⟩
  have nu : (u.map (·.1)).Nodup := (p.map (·.1)).nodup_iff.mpr nd
  unfold hasP
  rw [valP m, look_mem nu r (p.mem_iff.mpr hr)]
  show (r.2 == r.2) = true
  exact beq_self_eq_true _
theorem same_S {t u : STab} (p : u.Perm t) (nd : (t.map (·.1)).Nodup) : sameKV (kvsS t) (kvsS u) = true := by
  unfold sameKV
  rw [kvsS_len, kvsS_len, p.length_eq, beq_self_eq_true, Bool.true_and]
  refine List.all_eq_true.mpr fun q hq => ?_
  obtain ⟨r, hr, rfl⟩ := List.mem_map.mp hq
  have m : r.1 ∈ u.map (·.1) := List.mem_map.mpr ⟨r, p.mem_iff.mpr hr, rfl⟩
  have nu : (u.map (·.1)).Nodup := (p.map (·.1)).nodup_iff.mpr nd
  unfold hasP
  have e := valS m
  rw [look_mem nu r (p.mem_iff.mpr hr)] at e
  show (match valV (kvsS u) (keyOf r.1) with | some v => eqV (.int r.2) v | none => false) = true
  rw [e]
  show (r.2 == r.2) = true
  exact beq_self_eq_true _
/-- another value at one key -/
theorem diff_P {t u : PTab} {k : Str} {i j : Int} (ht : (k, i) ∈ t) (hu : (k, j) ∈ u) (nu : (u.map (·.1)).Nodup) (ne : i ≠ j) : sameKV (kvsP t) (kvsP u) = false := by
  unfold sameKV
  have : (kvsP t).all (hasP (kvsP u)) = false := by
    refine List.all_eq_false.mpr ⟨_, List.mem_map.mpr ⟨(k, i), ht, rfl⟩, ?_⟩
    unfold hasP
    rw [valP (List.mem_map.mpr ⟨(k, j), hu, rfl⟩), look_mem nu (k, j) hu]
    show ¬ (i == j) = true
    simp [ne]
  rw [this, Bool.and_false]
end Mk

set_option Elab.async false
set_option linter.all false
set_option maxRecDepth 100000
set_option maxHeartbeats 1000000
/-! d.values() and d.items() as values: list(..), sorted(..), min(.., default=..) of them -/
namespace Mk
open PySem PySem.Spec PyProof.Rows L2

theorem paired_ix {α β : Type} {F : α → β → Prop} : ∀ {xs : List α} {ys : List β}, xs.length = ys.length → (∀ (j : Nat) (x : α) (y : β), xs[j]? = some x → ys[j]? = some y → F x y) → Paired F xs ys
  | [], [], _, _ => .nil
  | [], _ :: _, h, _ => nomatch h
  | _ :: _, [], h, _ => nomatch h
  | x :: xs, y :: ys, h, f => .cons (f 0 x y rfl rfl) (paired_ix (by simpa using h) fun j a b h1 h2 => f (j + 1) a b (by simpa using h1) (by simpa using h2))
/-- the pairs in the dict at a, in order -/
def RawAt (h : Heap) (a : Addr) (ps : List (V × V)) : Prop := (a == sysModules) = false ∧ ps.length ≤ sizeLine ∧ ∃ (es : Array DictEntry) (ep : Nat), DT.Raw h a es ep ∧ Paired (fun (p : V × V) (en : DictEntry) => RelV p.1 en.key ∧ RelV p.2 en.val) ps es.toList
section
variable {P : Program} {w : World} {H : Hp} {h : Heap} {a : Addr}
def psK (kvs : List (Key × V)) : List (V × V) := kvs.map fun p => (kV p.1, p.2)
def psT (qs : List Addr) (kvs : List (List Key × V)) : List (V × V) := (qs.zip kvs).map fun z => (V.ref z.1, z.2.2)
theorem rawK {kvs : List (Key × V)} (ok : HOk P w H h) (e : H a = some (.dK kvs)) : RawAt h a (psK kvs) := by
  obtain ⟨z, lo, vs, rk, o, es, ep, ho, hx, hd, hk, hp, hn⟩ := ok a _ e
  have l1 : kvs.length = vs.length := Paired.length rk
  have l2 : es.toList.length = vs.length := hp.length
  refine ⟨lo, by unfold psK; rw [List.length_map]; exact z, es, ep, ⟨o, ho, hx, hd⟩, paired_ix (by unfold psK; rw [List.length_map]; omega) fun j x en h1 h2 => ?_⟩
  unfold psK at h1
  rw [List.getElem?_map] at h1
  obtain ⟨q, hq, rfl⟩ := Option.map_eq_some_iff.mp h1
  obtain ⟨v, hv, e1, e2⟩ := paired_get rk hq
  obtain ⟨k1, v1⟩ := hp.get? (i := j) (e := en) (k := v.1) (v := v.2) h2 hv
  refine ⟨?_, by rw [v1]; exact e2⟩
  show RelV (kV q.1) en.key
  rw [e1]
  exact relV_key (show keyIs v.1 en.key = true from k1)
theorem rawT {kvs : List (List Key × V)} (ok : HOk P w H h) (e : H a = some (.dT kvs)) : ∃ qs, IsKeys H kvs qs ∧ RawAt h a (psT qs kvs) := by
  obtain ⟨z, lo, xs, rk, o, es, ep, ho, hx, hd, he, hi, hn⟩ := dt_of ok e
  have l1 : kvs.length = xs.length := Paired.length rk
  have l2 : es.toList.length = xs.length := by rw [he, List.length_map]
  refine ⟨_, isKeys_of rk, lo, ?_, es, ep, ⟨o, ho, hx, hd⟩, paired_ix ?_ fun j x en h1 h2 => ?_⟩
  · unfold psT
    rw [List.length_map, List.length_zip, List.length_map]
    omega
  · unfold psT
    rw [List.length_map, List.length_zip, List.length_map]
    omega
  unfold psT at h1
  rw [List.getElem?_map] at h1
  obtain ⟨z, hz, rfl⟩ := Option.map_eq_some_iff.mp h1
  obtain ⟨z1, z2⟩ := List.getElem?_zip_eq_some.mp hz
  rw [List.getElem?_map] at z1
  obtain ⟨x, hx1, e1⟩ := Option.map_eq_some_iff.mp z1
  obtain ⟨x', hx2, _, _, e3⟩ := paired_get rk z2
  have : x' = x := Option.some.inj (hx2.symm.trans hx1)
  subst this
  rw [he, List.getElem?_map, hx1] at h2
  have e4 : entryOfKey (tupleKind (mixKind P w)) x' = en := Option.some.inj h2
  subst e4
  refine ⟨?_, e3⟩
  show RelV (V.ref z.1) (.ref x'.2.1)
  rw [← e1]
  rfl
end
/-- the view d.values() at p -/
def valuesO (p d : Addr) : HO := .ext fun h => h.IsValuesView p d
def IsDct (H : Hp) (a : Addr) : Prop := (∃ kvs, H a = some (.dK kvs)) ∨ ∃ kvs, H a = some (.dT kvs)
theorem IsDct.raw {P : Program} {w : World} {H : Hp} {h : Heap} {a : Addr} (ok : HOk P w H h) (d : IsDct H a) : (a == sysModules) = false ∧ ∃ (es : Array DictEntry) (ep : Nat), DT.Raw h a es ep := by
  rcases d with ⟨kvs, e⟩ | ⟨kvs, e⟩
  · obtain ⟨lo, _, es, ep, r, _⟩ := rawK ok e
    exact ⟨lo, es, ep, r⟩
  · obtain ⟨qs, _, lo, _, es, ep, r, _⟩ := rawT ok e
    exact ⟨lo, es, ep, r⟩
section
variable {X : Cx}
def rVals : V → List V → Hp → VK → Prop := fun x xs H Q => ∃ a, x = .ref a ∧ xs = [] ∧ IsDct H a ∧ ∀ p, H p = none → Q (.ref p) (upd H p (valuesO p a))
def rItms : V → List V → Hp → VK → Prop := fun x xs H Q => ∃ a, x = .ref a ∧ xs = [] ∧ IsDct H a ∧ ∀ p, H p = none → Q (.ref p) (upd H p (DX.itemsO p a))
theorem mt_vals : MtR X "dict.values" rVals := by
  intro pins s σ H x xs v us Q I rx rxs h
  obtain ⟨a, rfl, rfl, hd, q⟩ := h
  cases rx
  cases rxs
  obtain ⟨lo, es, ep, r⟩ := hd.raw I.hok
  obtain ⟨o, ho, hx, hdt⟩ := r
  refine call_meetsIn PySem.F.slot_dict_values ⟨o, ho, hx.1⟩ PySem.F.entry_dict_values (PySem.F.args_dict_values_1 _) (meets_dict_values_raw a lo) ⟨⟨es, ep, o, ho, hx, hdt⟩, ?_⟩
  have hf : H s.heap.objs.size = none := I.hok.fresh (Nat.le_refl _)
  have at_ : (s.heap.push { cls := .type "dict_values", data := .fields #[.ref a] }).get? s.heap.objs.size = some { cls := .type "dict_values", data := .fields #[.ref a] } := Heap.get?_push_size _ rfl
  exact ⟨.ref s.heap.objs.size, upd H s.heap.objs.size (valuesO s.heap.objs.size a), I.laid (t' := s.toks) (fun b u e => Heap.get?_push_of_some _ e) (Nat.le_refl _) ⟨⟨_, at_, rfl, rfl⟩, ⟨_, at_⟩, fun h1 h2 x k => let ⟨o, ho, r⟩ := x; ⟨o, k o ho, r⟩⟩, rfl, q _ hf⟩
theorem mt_itms : MtR X "dict.items" rItms := by
  intro pins s σ H x xs v us Q I rx rxs h
  obtain ⟨a, rfl, rfl, hd, q⟩ := h
  cases rx
  cases rxs
  obtain ⟨lo, es, ep, r⟩ := hd.raw I.hok
  refine DT.callItems (es := es) (ep := ep) lo r ?_
  have hf : H s.heap.objs.size = none := I.hok.fresh (Nat.le_refl _)
  exact ⟨.ref s.heap.objs.size, upd H s.heap.objs.size (DX.itemsO s.heap.objs.size a), I.laid (t' := s.toks) (fun b u e => Heap.get?_push_of_some _ e) (Nat.le_refl _) (DX.itemsO_ok (Heap.get?_push_size _ rfl)), rfl, q _ hf⟩
/-- list(d.values()) -/
theorem vals_list {pins : List (Addr × Obj)} {s : Shared} {σ : L2.St} {H : Hp} {p a : Addr} {ps : List (V × V)} {Q : VK} (hc : X.calm = true) (I : Inv X pins σ H s) (hp : H p = some (valuesO p a)) (hr : RawAt s.heap a ps) (q : ∀ l, H l = none → Q (.ref l) (upd H l (.lst (ps.map (·.2))))) :
    wpAny (model X.prog X.w) X.A (call (.type "list") [.ref p]) (EP X pins σ Q) X.xe s := by
  obtain ⟨lo, hz, es, ep, r, pr⟩ := hr
  obtain ⟨vw, _⟩ := I.hok p _ hp
  have vw' : s.heap.IsValuesView p a := vw
  have le : ps.length = es.size := by
    have := Paired.length pr
    simpa using this
  refine PySem.W.kdl_call (KdlSrc.rawValues (r := p) (d := a) (es := es) (ep := ep)) (I.ok.hd hc) ⟨vw', r⟩ (by rw [← le]; exact hz) fun h' tk acc c hk hS it => ?_
  refine ⟨.ref s.heap.objs.size, upd H s.heap.objs.size (.lst (ps.map (·.2))), I.laid hk (Nat.le_refl _) ⟨by rw [List.length_map]; exact hz, acc.toList, c, ?_, by rw [Array.toArray_toList]; exact hS⟩, rfl, q _ (I.hok.fresh (Nat.le_refl _))⟩
  have la : acc.toList.length = acc.size := by simp
  refine paired_ix (by rw [List.length_map, la, it.1]; exact le) fun j x w h1 h2 => ?_
  rw [List.getElem?_map] at h1
  obtain ⟨z, hz1, rfl⟩ := Option.map_eq_some_iff.mp h1
  obtain ⟨hi, hv⟩ := it.2 j w (by rw [← Array.getElem?_toList]; exact h2)
  obtain ⟨en, he, _, e2⟩ := paired_get pr hz1
  have : en = es[j] := by
    rw [Array.getElem?_toList, Array.getElem?_eq_getElem hi] at he
    exact (Option.some.inj he).symm
  subst this
  rw [hv]
  exact e2
def rLstVals : List V → Hp → VK → Prop := fun xs H Q => ∃ p a, xs = [.ref p] ∧ H p = some (valuesO p a) ∧ ((∃ kvs, H a = some (.dK kvs) ∧ ∀ l, H l = none → Q (.ref l) (upd H l (.lst (kvs.map (·.2))))) ∨ ∃ kvs, H a = some (.dT kvs) ∧ ∀ l, H l = none → Q (.ref l) (upd H l (.lst (kvs.map (·.2)))))
theorem call_listVals (hc : X.calm = true) : CallR X (.type "list") rLstVals := by
  intro pins s σ H xs us Q I r h
  obtain ⟨p, a, rfl, hp, h⟩ := h
  obtain ⟨u, rfl, rx⟩ := vals1 r
  obtain rfl : u = Value.ref p := rx
  rcases h with ⟨kvs, e, q⟩ | ⟨kvs, e, q⟩
  · refine vals_list hc I hp (rawK I.hok e) fun l hl => ?_
    have e2 : (psK kvs).map (·.2) = kvs.map (·.2) := by
      unfold psK
      rw [List.map_map]
      rfl
    rw [e2]
    exact q l hl
  · obtain ⟨qs, hq, hr⟩ := rawT I.hok e
    refine vals_list hc I hp hr fun l hl => ?_
    have e2 : (psT qs kvs).map (·.2) = kvs.map (·.2) := by
      unfold psT
      rw [List.map_map]
      have : ((fun x : V × V => x.2) ∘ fun z : Addr × List Key × V => (V.ref z.1, z.2.2)) = (fun p : List Key × V => p.2) ∘ (fun z : Addr × List Key × V => z.2) := rfl
      rw [this, ← List.map_map, List.map_snd_zip (by have := Paired.length hq; omega)]
    rw [e2]
    exact q l hl
end
/-! ### list(d.items()), sorted(d.items()) -/
section
variable {P : Program} {w : World} {A : Around} {E : Value → Shared → Prop} {s : Shared} {es : Array DictEntry} {ep : Nat} {r d : Addr}
theorem listI {Q : Value → Shared → Prop} (hh : A.handled = none) (hv : s.heap.IsItemsView r d) (hm : DT.Raw s.heap d es ep) (hn : es.size ≤ sizeLine)
    (hQ : ∀ (h' : Heap) (tk : Nat) (acc : Array Value) (c : Nat) (as : List Addr), (∀ b o, s.heap.get? b = some o → h'.get? b = some o) → h'.get? s.heap.objs.size = some { cls := .type "list", dict := none, data := .seq acc c, slots := #[] } → as.length = es.size → DT.Made es s.heap.objs.size h' as → acc.toList = as.map Value.ref →
      Q (.ref s.heap.objs.size) { s with heap := h', toks := tk }) : wpAny (model P w) A (call (.type "list") [.ref r]) Q E s := by
  refine callType_codes (Q₁ := fun obj s1 => obj = .ref s.heap.objs.size ∧ s1 = { s with heap := s.heap.push { cls := .type "list", data := .seq #[] } }) PySem.F.called_list (PySem.F.typeCall_list_1 _) PySem.F.entry_list_init (code_list_new _ ⟨rfl, rfl⟩) fun obj s1 h1 => ?_
  obtain ⟨rfl, rfl⟩ := h1
  have e0 : (s.heap.push { cls := .type "list", data := .seq #[] }).get? s.heap.objs.size = some { cls := .type "list", data := .seq #[] } := Heap.get?_push_size _ rfl
  have lr : r < s.heap.objs.size := let ⟨_, ho, _⟩ := hv; Heap.lt_size ho
  have ld : d < s.heap.objs.size := hm.lt
  refine ⟨⟨_, e0, rfl⟩, PySem.F.args_list_init_2 _ _, ?_⟩
  show wpAny (model P w) A.in1.in1 (do let old ← Builtin.List.listItems (.ref s.heap.objs.size); Builtin.List.listUpdate (.ref s.heap.objs.size) (fun _ => #[]); letGo old.toList.reverse; Builtin.List.listExtendWith (.ref s.heap.objs.size) (.ref r) .none) _ _ _
  refine wpAny_bind ?_
  unfold Builtin.List.listItems
  refine wpAny_bind (wpAny_seqItems e0 rfl (wpAny_pure ?_))
  show wpAny (model P w) A.in1.in1 (updateSeq s.heap.objs.size (fun _ => #[]) >>= fun _ => letGo (#[] : Array Value).toList.reverse >>= fun _ => Builtin.List.listExtendWith (.ref s.heap.objs.size) (.ref r) .none) _ _ _
  refine wpAny_bind (wpAny_updateSeq e0 rfl (wpAny_bind (wpAny_letGo ?_)))
  have e1 := Heap.get?_update_self (Obj.mapSeq (fun _ => (#[] : Array Value))) e0 rfl
  have oth : ∀ b o, b ≠ s.heap.objs.size → s.heap.get? b = some o → ((s.heap.push { cls := .type "list", data := .seq #[] }).update s.heap.objs.size (Obj.mapSeq (fun _ => (#[] : Array Value)))).get? b = some o := fun b o hb e => (Heap.get?_update_other _ _ (Ne.symm hb)).trans (Heap.get?_push_of_some _ e)
  refine DT.extI (A := A.in1) (es := es) (ep := ep) hh (let ⟨o, ho, x⟩ := hv; ⟨o, oth r o (Nat.ne_of_lt lr) ho, x⟩) (hm.at' fun o e => oth d o (Nat.ne_of_lt ld) e) s.heap.objs.size (Nat.ne_of_gt lr) (Nat.ne_of_lt ld) .none _ e1 (fun h' tk acc c as hk hS hl hG ha => ?_) hn
  refine ⟨rfl, hQ h' tk acc c as (fun b o e => ?_) hS hl (hG.low ?_) ha⟩
  · have nb := Nat.ne_of_lt (Heap.lt_size e)
    exact hk b o nb (oth b o nb e)
  · exact Nat.le_of_lt (Heap.lt_size e1)
end
section
variable {X : Cx} {pins : List (Addr × Obj)} {s : Shared} {σ : L2.St} {H : Hp}
/-- the tuples that were made are told -/
theorem made_told {H1 : Hp} {h' : Heap} {tk : Nat} {es : Array DictEntry} {lo : Addr} {as : List Addr} {ps : List (V × V)} (I : Inv X pins σ H s) (I1 : Inv X pins σ H1 { s with heap := h', toks := tk }) (lo0 : s.heap.objs.size ≤ lo) (hG : DT.Made es lo h' as) (hl : as.length = ps.length) (hn : ∀ a ∈ as, H1 a = none)
    (pr : Paired (fun (p : V × V) (en : DictEntry) => RelV p.1 en.key ∧ RelV p.2 en.val) ps es.toList) :
    ∃ H2, Inv X pins σ H2 { s with heap := h', toks := tk } ∧ (∀ b o, H1 b = some o → H2 b = some o) ∧ Paired (fun (t : Addr) (p : V × V) => H2 t = some (.tup [p.1, p.2])) as ps := by
  have nd : as.Nodup := List.Pairwise.imp (fun h => Nat.ne_of_lt h) hG.rise
  obtain ⟨H2, I2, g, q⟩ := DX.takeT (P := fun b vs => ∃ (j : Nat) (p : V × V), as[j]? = some b ∧ ps[j]? = some p ∧ vs = [p.1, p.2]) I as H1 I1 nd fun b hb => by
    obtain ⟨j, hj⟩ := List.mem_iff_getElem?.mp hb
    have hj2 : j < ps.length := by
      obtain ⟨h1, _⟩ := List.getElem?_eq_some_iff.mp hj
      omega
    obtain ⟨en, he, r1, r2⟩ := paired_get pr (List.getElem?_eq_getElem hj2)
    obtain ⟨en', he', hg⟩ := hG.pairs j b hj
    rw [Array.getElem?_toList] at he
    have : en' = en := Option.some.inj (he'.symm.trans he)
    subst this
    refine ⟨Nat.le_trans lo0 (Nat.le_of_lt (hG.above b hb)), hn b hb, [ps[j].1, ps[j].2], ⟨j, ps[j], hj, List.getElem?_eq_getElem hj2, rfl⟩, fun H3 => ⟨(by show 2 ≤ sizeLine; decide), [en'.key, en'.val], .cons r1 (.cons r2 .nil), ⟨_, hg, rfl, 0, rfl⟩⟩⟩
  refine ⟨H2, I2, g, paired_ix hl fun j t p h1 h2 => ?_⟩
  obtain ⟨vs, ⟨i, p', i1, i2, e⟩, hH⟩ := q t (List.mem_of_getElem? h1)
  have eij : i = j := (List.getElem?_inj (List.getElem?_eq_some_iff.mp i1).1 nd).mp (i1.trans h1.symm)
  subst eij
  have : p' = p := Option.some.inj (i2.symm.trans h2)
  subst this
  rw [hH, e]
theorem refs_vals : ∀ bs : List Addr, Vals (bs.map V.ref) (bs.map Value.ref)
  | [] => .nil
  | _ :: r => .cons rfl (refs_vals r)
/-- list(d.items()) -/
theorem itms_list {p a : Addr} {ps : List (V × V)} {Q : VK} (hc : X.calm = true) (I : Inv X pins σ H s) (hp : H p = some (DX.itemsO p a)) (hr : RawAt s.heap a ps)
    (q : ∀ (H' : Hp) (l : Addr) (ts : List Addr), Same H H' → H l = none → H' l = some (.lst (ts.map V.ref)) → Paired (fun (t : Addr) (p : V × V) => H' t = some (.tup [p.1, p.2])) ts ps → Q (.ref l) H') :
    wpAny (model X.prog X.w) X.A (call (.type "list") [.ref p]) (EP X pins σ Q) X.xe s := by
  obtain ⟨lo, hz, es, ep, r, pr⟩ := hr
  obtain ⟨vw, _⟩ := I.hok p _ hp
  have vw' : s.heap.IsItemsView p a := vw
  have le : ps.length = es.size := by
    have := Paired.length pr
    simpa using this
  refine listI (es := es) (ep := ep) (I.ok.hd hc) vw' r (by rw [← le]; exact hz) fun h' tk acc c as hk hS hl hG ha => ?_
  have I1 : Inv X pins σ (upd H s.heap.objs.size (.lst (as.map V.ref))) { s with heap := h', toks := tk } := I.laid hk (Nat.le_refl _) ⟨by rw [List.length_map]; omega, acc.toList, c, by rw [ha]; exact refs_vals as, by rw [Array.toArray_toList]; exact hS⟩
  have hn0 : H s.heap.objs.size = none := I.hok.fresh (Nat.le_refl _)
  obtain ⟨H2, I2, g, tp⟩ := made_told I I1 (Nat.le_refl _) hG (by omega) (fun b hb => by
    have := hG.above b hb
    rw [upd_ne (Nat.ne_of_gt this)]
    exact I.hok.fresh (Nat.le_of_lt this)) pr
  exact ⟨.ref s.heap.objs.size, H2, I2, rfl, q H2 _ as (fun b o e => g b o (by rw [upd_ne (ne_of_none e hn0)]; exact e)) hn0 (g _ _ upd_same) tp⟩
def rLstItms : List V → Hp → VK → Prop := fun xs H Q => ∃ p a, xs = [.ref p] ∧ H p = some (DX.itemsO p a) ∧ ((∃ kvs, H a = some (.dK kvs) ∧ ∀ (H' : Hp) (l : Addr) (ts : List Addr), Same H H' → H l = none → H' l = some (.lst (ts.map V.ref)) → Paired (fun (t : Addr) (p : V × V) => H' t = some (.tup [p.1, p.2])) ts (psK kvs) → Q (.ref l) H') ∨
  ∃ kvs, H a = some (.dT kvs) ∧ ∀ (H' : Hp) (l : Addr) (ts qs : List Addr), Same H H' → H l = none → IsKeys H kvs qs → H' l = some (.lst (ts.map V.ref)) → Paired (fun (t : Addr) (p : V × V) => H' t = some (.tup [p.1, p.2])) ts (psT qs kvs) → Q (.ref l) H')
theorem call_listItms (hc : X.calm = true) : CallR X (.type "list") rLstItms := by
  intro pins s σ H xs us Q I r h
  obtain ⟨p, a, rfl, hp, h⟩ := h
  obtain ⟨u, rfl, rx⟩ := vals1 r
  obtain rfl : u = Value.ref p := rx
  rcases h with ⟨kvs, e, q⟩ | ⟨kvs, e, q⟩
  · exact itms_list hc I hp (rawK I.hok e) q
  · obtain ⟨qs, hq, hr⟩ := rawT I.hok e
    exact itms_list hc I hp hr fun H' l ts a1 a2 a3 a4 => q H' l ts qs a1 a2 hq a3 a4
end
end Mk

set_option Elab.async false
set_option linter.all false
set_option maxRecDepth 100000
set_option maxHeartbeats 1000000
/-! min(d.values(), default=e) -/
namespace Mk
open PySem PySem.Spec PyProof.Rows L2

section
variable {X : Cx}
/-- the least of the values of a dict with pairs as keys, or what is told -/
def tMinDT (t : TA) (td : TE) : TE := fun σ H Q => t σ H fun vs H1 => td σ H1 fun y H2 => ∃ (p a : Addr) (d : Int) (kvs : List (List Key × V)) (is : List Int), vs = [.ref p] ∧ y = .int d ∧ H2 p = some (valuesO p a) ∧ H2 a = some (.dT kvs) ∧ kvs.map (·.2) = is.map V.int ∧
  ∀ m : Int, (is = [] → m = d) → (is ≠ [] → m ∈ is ∧ ∀ j ∈ is, m ≤ j) → Q (.int m) H2
theorem pe_minDT {e de : Expr} {t : TA} {td : TE} {p kp pos : Pos} (hc : X.calm = true) (hg : Gl X "min") (hm : X.mg "min" = none) (ha : PA X [e] t) (hd : PE X de td)
    (he : backTo pos (starEach [e] X.env) = (false, eval e X.env) :: backTo pos (starEach [] X.env) := by rfl) (hpl : (backTo pos (starEach [e] X.env)).any (·.1) = false := by rfl) :
    PE X (.Call (.Name "min" p) [e] [⟨some "default", de, kp⟩] pos) (tMinDT t td) := by
  refine ⟨fun pins s σ H Q I h => ?_⟩
  refine wpAny_Call_Name_kw (ld_blt I hg hm (u := .builtin "min") (by decide +kernel) ?_)
  refine PyProof.Rows.callWith_kw (thn (ha.run pos pins s σ H _ I h) fun us s1 ⟨vs, H1, I1, r1, q1⟩ => ?_) he hpl
  show wpAny _ _ (evalAll [do let v ← eval de X.env; standAt pos; pure v]) _ _ s1
  refine wpAny_evalAll_cons (wpAny_bind (thn (hd.run pins s1 σ H1 _ I1 q1) fun u s2 ⟨y, H2, I2, r2, q2⟩ => wpAny_bind (wpAny_standAt (wpAny_pure (wpAny_evalAll_nil ?_)))))
  show wpAny _ _ (call (.builtin "min") us [(Str.ofString "default", u)]) _ _ s2
  obtain ⟨v, a, d, kvs, is, rfl, rfl, hv, ha2, hi, q⟩ := q2
  rw [Vals.ref1 r1]
  obtain ⟨tk0, rfl⟩ := r2
  obtain ⟨qs, hq, lo, hz, es, ep, r, pr⟩ := rawT I2.hok ha2
  obtain ⟨vw, _⟩ := I2.hok v _ hv
  have vw' : s2.heap.IsValuesView v a := vw
  have lk : kvs.length = is.length := by
    have := congrArg List.length hi
    rwa [List.length_map, List.length_map] at this
  have le : is.length = es.size := by
    have h1 := Paired.length pr
    have h2 := Paired.length hq
    unfold psT at h1
    rw [List.length_map, List.length_zip, ← h2, Nat.min_self] at h1
    have h3 : es.toList.length = es.size := by simp
    omega
  have hval : ∀ (i : Nat) (x : Value), (∃ hi : i < es.size, x = es[i].val) → ∃ t, x = Value.int (is.getD i 0) t := fun i x ⟨hl, e⟩ => by
    have hk : i < kvs.length := by omega
    have hqi : i < qs.length := by have := Paired.length hq; omega
    have e1 : (psT qs kvs)[i]? = some (V.ref qs[i], kvs[i].2) := by
      have z1 : (qs.zip kvs)[i]? = some (qs[i], kvs[i]) := by
        rw [List.getElem?_zip_eq_some]
        exact ⟨List.getElem?_eq_getElem hqi, List.getElem?_eq_getElem hk⟩
      unfold psT
      rw [List.getElem?_map, z1]
      rfl
    obtain ⟨en, he, _, r2⟩ := paired_get pr e1
    rw [Array.getElem?_toList, Array.getElem?_eq_getElem hl] at he
    have : es[i] = en := Option.some.inj he
    rw [← this, ← e] at r2
    have e3 : kvs[i].2 = V.int (is.getD i 0) := by
      have h1 : (kvs.map (·.2))[i]? = some kvs[i].2 := by rw [List.getElem?_map, List.getElem?_eq_getElem hk]; rfl
      rw [hi, List.getElem?_map, List.getElem?_eq_getElem (by omega : i < is.length)] at h1
      rw [List.getD_eq_getElem?_getD, List.getElem?_eq_getElem (by omega : i < is.length)]
      exact (Option.some.inj h1).symm
    have r3 : RelV (V.int (is.getD i 0)) x := by rw [← e3]; exact r2
    exact r3
  have ne : a ≠ s2.heap.objs.size := Nat.ne_of_lt r.lt
  refine PySem.call_min_walkD (wpAny_pyIter_values_raw (v := v) (d := a) vw' r ⟨s2.heap.objs.size, _, _, _, es.size, _, _, s2.heap, fun i j => decide (is.getD i 0 < is.getD j 0), rfl, (Walks.rawValues (A := X.A.in1) (I.ok.hd hc) s2.heap.objs.size a ne es ep).toS, ⟨⟨_, Heap.get?_push_size _ rfl, rfl, rfl⟩, r.at' fun o e => Heap.get?_push_of_some _ e⟩, fun b hb => ?_, fun b o e hb => ?_, fun b o e => Heap.get?_push_of_some _ e, fun h0 s' mv => ?_, fun h0 => ⟨fun i j vi vj s' Q' E' _ h1 h2 h3 => CmpOf.ints_lt (fun i => is.getD i 0) hval i j vi vj s' Q' E' h1 h2 h3, fun x s' hx mv => ?_⟩⟩)
  · show b < (s2.heap.push _).objs.size
    rw [Heap.size_push]
    rcases List.mem_cons.mp hb with rfl | hb
    · exact Nat.lt_succ_self _
    · rw [List.mem_singleton.mp hb]
      exact Nat.lt_succ_of_lt r.lt
  · exact absurd (Heap.lt_size e) (by rw [List.mem_singleton.mp hb]; exact Nat.lt_irrefl _)
  · obtain ⟨h', tk, rfl, kp⟩ := PySem.W.moved_old rfl rfl mv
    have e0 : is = [] := List.length_eq_zero_iff.mp (by omega)
    exact ⟨.int d, H2, I2.kept kp, ⟨_, rfl⟩, q d (fun _ => rfl) fun z => absurd e0 z⟩
  · obtain ⟨h', tk, rfl, kp⟩ := PySem.W.moved_old rfl rfl mv
    obtain ⟨t1, rfl⟩ := hval _ x hx
    obtain ⟨b1, b2⟩ := argBest_lt (fun i => is.getD i 0) (es.size - 1)
    refine ⟨.int _, H2, I2.kept kp, ⟨t1, rfl⟩, q _ (fun z => ?_) fun _ => ⟨?_, fun j hj => ?_⟩⟩
    · rw [z] at le
      simp at le
      omega
    · have hb : argBest (fun i j => decide (is.getD i 0 < is.getD j 0)) (es.size - 1) < is.length := by omega
      rw [List.getD_eq_getElem?_getD, List.getElem?_eq_getElem hb]
      exact List.getElem_mem hb
    · obtain ⟨i, hi2, e⟩ := List.mem_iff_getElem.mp hj
      have e2 : is.getD i 0 = j := by
        rw [List.getD_eq_getElem?_getD, List.getElem?_eq_getElem hi2, ← e]
        rfl
      rw [← e2]
      exact b2 i (by omega)
end
end Mk

set_option Elab.async false
set_option linter.all false
set_option maxRecDepth 100000
set_option maxHeartbeats 1000000
namespace Mk
open PySem PySem.Spec L2 PyProof.Rows

abbrev sSmall : Stmt := inClass (top 22) 6
abbrev sEqP : Stmt := inClass (top 22) 15
abbrev sStrP : Stmt := inClass (top 22) 16
/-- all prices of a record -/
def allP (t1 t2 : PTab) (t3 : STab) : List Int := t1.map (·.2) ++ t2.map (·.2) ++ t3.map (·.2)
/-- the least one -/
def Least (m : Int) (is : List Int) : Prop := m ∈ is ∧ ∀ j ∈ is, m ≤ j
def spSmall (C : Addr) : Sp := fun vs H Q _ => ∃ (x : Addr) (t1 t2 : PTab) (t3 : STab), vs = [.ref x] ∧ PrAt C H x t1 t2 t3 ∧ t1 ≠ [] ∧ t2 ≠ [] ∧ (∀ p ∈ t1, p.2 ≤ 9) ∧ ∀ H' m, Same H H' → Least m (allP t1 t2 t3) → Q (.int m) H'
def spStrP (C : Addr) : Sp := fun vs H Q _ => ∃ (x : Addr) (t1 t2 : PTab) (t3 : STab), vs = [.ref x] ∧ PrAt C H x t1 t2 t3 ∧ t1.length ≤ 60 ∧ t3.length ≤ 60 ∧ ∀ z : Str, z = Str.empty ++ "prices of " ++ toString ((t1.length : Nat) : Int) ++ " signs, " ++ toString ((t3.length : Nat) : Int) ++ " swaps" → Q (.str z) H
def spEqP (K : PySem.W.Frag) (C : Addr) : Sp := fun vs H Q _ => ∃ (x : Addr) (y : V) (t1 t2 : PTab) (t3 : STab), vs = [.ref x, y] ∧ PrAt C H x t1 t2 t3 ∧
  ((∃ (z : Addr) (u1 u2 : PTab) (u3 : STab), y = .ref z ∧ PrAt C H z u1 u2 u3 ∧ Q (.bl (sameKV (kvsP t1) (kvsP u1) && (sameKV (kvsP t2) (kvsP u2) && sameKV (kvsS t3) (kvsS u3)))) H) ∨
  ((∃ t, TyX K H y t ∧ PySem.W.kitOne K t (.ref C) = some false) ∧ Q (.bl false) H))
/-- what isinstance of a value of the own class leans on -/
structure IsK (K : PySem.W.Frag) (C : Addr) : Prop where
  ha : PySem.W.findIn K (.ref C) "__class__" = some (some (.builtin "object.__class__"))
  hn : PySem.W.specialIn K (.builtin "object.__class__") "__get__" = some (some (.builtin "getset_descriptor.__get__"))
  htk : PySem.W.takesIn K (.builtin "object.__class__") = some true
  hm : PySem.W.mroIn K C (.type "object") = some true
section
variable {P : Program} {w : World} {K : PySem.W.Frag} {mg : Str → Option Value} {base : Heap}
theorem mem_snd {α : Type} {t : List (α × Int)} {is : List Int} {f : List (α × Int) → List (Key × V)} (h : t.map (·.2) = is) : ∀ j, j ∈ is ↔ j ∈ t.map (·.2) := fun j => by rw [h]
theorem kvsP_snd (t : PTab) : (kvsP t).map (·.2) = (t.map (·.2)).map V.int := by
  unfold kvsP
  rw [List.map_map, List.map_map]
  rfl
theorem kvsS_snd (t : STab) : (kvsS t).map (·.2) = (t.map (·.2)).map V.int := by
  unfold kvsS
  rw [List.map_map, List.map_map]
  rfl
theorem small_log {n : Nat} (h : n ≤ 60) : ((n : Int)).natAbs.log2 < 1920 := by
  have e : ((n : Int)).natAbs = n := by omega
  rw [e]
  by_cases z : n = 0
  · subst z
    decide
  · have := (Nat.log2_lt (k := 6) z).mpr (by omega)
    omega
theorem lenapp {a b : Str} {m n : Nat} (ha : a.length ≤ m) (hb : b.length ≤ n) : (a ++ b).length ≤ m + n := by
  rw [PySem.Str.length_append]
  omega
theorem small_txt : ∀ {n : Nat}, n ≤ 60 → (toString ((n : Nat) : Int) : Str).length ≤ 2 := by
  intro n h
  have : ∀ n : Fin 61, (toString ((n.val : Nat) : Int) : Str).length ≤ 2 := by decide +kernel
  exact this ⟨n, by omega⟩
end
end Mk

set_option Elab.async false
set_option linter.all false
set_option maxRecDepth 100000
set_option maxHeartbeats 1000000
/-! sorted(d.items()) of a table -/
namespace Mk
open PySem PySem.Spec PyProof.Rows L2

/-- how keys are ordered, and written as data -/
structure KOrd (α : Type) [DecidableEq α] (enc : α → PyData) (le : α → α → Bool) : Prop where
  eq : ∀ a b, PyData.eqv (enc a) (enc b) = decide (a = b)
  lt : ∀ a b, (!PySem.W.dataLt (enc b) (enc a)) = le a b
  al : ∀ a b, PySem.W.alike (enc a) (enc b) = true
  dp : ∀ a, (enc a).depth ≤ 2
  tot : ∀ a b, (le a b || le b a) = true
  tr : ∀ a b c, le a b = true → le b c = true → le a c = true
  an : ∀ a b, le a b = true → le b a = true → a = b
abbrev encV {α : Type} (enc : α → PyData) (p : α × Int) : PyData := .tuple [enc p.1, .int p.2]
def leV {α : Type} [DecidableEq α] (le : α → α → Bool) (p q : α × Int) : Bool := if p.1 = q.1 then decide (p.2 ≤ q.2) else le p.1 q.1
section
variable {α : Type} [DecidableEq α] {enc : α → PyData} {le : α → α → Bool}
theorem encV_le (O : KOrd α enc le) : PySem.W.dataLe false (encV enc) = leV le := by
  funext p q
  show (!PySem.W.dataLt (encV enc q) (encV enc p)) = leV le p q
  unfold encV leV
  rw [PySem.W.dataLt_pair (O.al _ _) (by simp [PySem.W.alike]), PySem.W.dataLt_int, O.eq]
  by_cases e : p.1 = q.1
  · rw [if_pos e, if_pos (by rw [e, decide_eq_true rfl])]
    rw [Bool.eq_iff_iff]
    simp
    intro h
    have h2 : (q.2 == p.2) = true := h
    have h3 : q.2 = p.2 := by simpa using h2
    omega
  · rw [if_neg e, if_neg (by rw [decide_eq_false (fun z => e z.symm)]; decide)]
    exact O.lt _ _
theorem leV_tot (O : KOrd α enc le) (p q : α × Int) : (leV le p q || leV le q p) = true := by
  unfold leV
  by_cases e : p.1 = q.1
  · rw [if_pos e, if_pos e.symm, Bool.or_eq_true, decide_eq_true_eq, decide_eq_true_eq]
    omega
  · rw [if_neg e, if_neg fun z => e z.symm]
    exact O.tot _ _
theorem leV_tr (O : KOrd α enc le) (p q r : α × Int) (h1 : leV le p q = true) (h2 : leV le q r = true) : leV le p r = true := by
  unfold leV at *
  by_cases e1 : p.1 = q.1
  · rw [if_pos e1, decide_eq_true_eq] at h1
    by_cases e2 : q.1 = r.1
    · rw [if_pos e2, decide_eq_true_eq] at h2
      rw [if_pos (e1.trans e2), decide_eq_true_eq]
      omega
    · rw [if_neg e2] at h2
      rw [if_neg (by rw [e1]; exact e2), e1]
      exact h2
  · rw [if_neg e1] at h1
    by_cases e2 : q.1 = r.1
    · rw [if_neg (by rw [← e2]; exact e1), ← e2]
      exact h1
    · rw [if_neg e2] at h2
      have h3 := O.tr _ _ _ h1 h2
      by_cases e3 : p.1 = r.1
      · exact absurd (O.an _ _ h1 (by rw [e3]; exact h2)) e1
      · rw [if_neg e3]
        exact h3
theorem sortV_up (O : KOrd α enc le) (t : List (α × Int)) : ((t.mergeSort (leV le)).map (·.1)).Pairwise (fun a b => le a b = true) := by
  rw [List.pairwise_map]
  refine List.Pairwise.imp ?_ (List.pairwise_mergeSort (fun a b c => leV_tr O a b c) (leV_tot O) t)
  intro p q h
  unfold leV at h
  by_cases e : p.1 = q.1
  · rw [e]
    have := O.tot q.1 q.1
    simpa using this
  · rwa [if_neg e] at h
end
theorem ordK : KOrd Str PyData.str byCs where
  eq := fun a b => by
    show (a == b) = decide (a = b)
    by_cases h : a = b
    · rw [decide_eq_true h, h, beq_self_eq_true]
    · rw [decide_eq_false h, beq_eq_false_iff_ne.mpr h]
  lt := fun a b => by
    rw [PySem.W.dataLt_str]
    unfold byCs
    rw [Bool.eq_iff_iff]
    simp
  al := fun a b => by simp [PySem.W.alike]
  dp := fun a => by simp [PyData.depth]
  tot := byCs_total
  tr := byCs_trans
  an := byCs_anti
theorem ordT : KOrd (Str × Str) enc2 le2 where
  eq := fun a b => by
    by_cases h : a = b
    · rw [decide_eq_true h, h]
      simp [enc2, PyData.eqv, PyData.eqvAll]
    · rw [decide_eq_false h]
      have : ¬ (a.1 = b.1 ∧ a.2 = b.2) := fun z => h (Prod.ext z.1 z.2)
      simp [enc2, PyData.eqv, PyData.eqvAll]
      intro e1 e2
      exact this ⟨e1, e2⟩
  lt := fun a b => congrFun (congrFun enc2_le a) b
  al := fun a b => by simp [PySem.W.alike, PySem.W.alikeAll]
  dp := fun a => by simp [enc2, PyData.depth, PyData.depthAll]
  tot := le2_total
  tr := le2_trans
  an := le2_anti
theorem each_ix {β : Type} {R : Value → β → Prop} : ∀ {as : List Addr} {t : List β}, as.length = t.length → (∀ (j : Nat) (b : Addr) (y : β), as[j]? = some b → t[j]? = some y → R (.ref b) y) → PySem.W.EachIs R (as.map Value.ref) t
  | [], [], _, _ => .nil
  | [], _ :: _, h, _ => nomatch h
  | _ :: _, [], h, _ => nomatch h
  | b :: as, y :: t, h, f => .cons (f 0 b y rfl rfl) (each_ix (by simpa using h) fun j c z h1 h2 => f (j + 1) c z (by simpa using h1) (by simpa using h2))
theorem each_refs {β : Type} {F : Addr → β → Prop} : ∀ {out : List Value} {ys : List β}, PySem.W.EachIs (fun v y => ∃ b : Addr, v = .ref b ∧ F b y) out ys → ∃ ts : List Addr, out = ts.map Value.ref ∧ Paired F ts ys
  | _, _, .nil => ⟨[], rfl, .nil⟩
  | _, _, .cons ⟨b, e, h⟩ r => by
    obtain ⟨ts, e2, h2⟩ := each_refs r
    exact ⟨b :: ts, by rw [e, e2]; rfl, .cons h h2⟩
section
variable {X : Cx}
/-- sorted of a view of items, by what the made pairs are as data -/
theorem itms_sorted {α : Type} [DecidableEq α] {enc : α → PyData} {le : α → α → Bool} (O : KOrd α enc le) {pins : List (Addr × Obj)} {s : Shared} {σ : L2.St} {H : Hp} {p a : Addr} {ps : List (V × V)} {t : List (α × Int)} {Q : VK} (hc : X.calm = true) (hu : X.A.units + 60 < cLine) (I : Inv X pins σ H s) (hp : H p = some (DX.itemsO p a)) (hr : RawAt s.heap a ps)
    (hl : ps.length = t.length) (h100 : t.length ≤ 100) (tell : ∀ (j : Nat) (x : V × V) (y : α × Int), ps[j]? = some x → t[j]? = some y → x.2 = .int y.2 ∧ ∀ (u : Value), RelV x.1 u → ∀ h : Heap, (∀ b o, s.heap.get? b = some o → h.get? b = some o) → Reads h u (enc y.1) [])
    (q : ∀ (H' : Hp) (l : Addr) (ts : List Addr) (u : List (α × Int)), Same H H' → H l = none → H' l = some (.lst (ts.map V.ref)) → u.Perm t → (u.map (·.1)).Pairwise (fun a b => le a b = true) → Paired (fun (b : Addr) (y : α × Int) => ∃ x : V × V, H' b = some (.tup [x.1, x.2]) ∧ ∃ j : Nat, ps[j]? = some x ∧ t[j]? = some y) ts u → Q (.ref l) H') :
    wpAny (model X.prog X.w) X.A (call (.builtin "sorted") [.ref p]) (EP X pins σ Q) X.xe s := by
  obtain ⟨lo, hz, es, ep, r, pr⟩ := hr
  obtain ⟨vw, _⟩ := I.hok p _ hp
  have vw' : s.heap.IsItemsView p a := vw
  have le0 : ps.length = es.size := by
    have := Paired.length pr
    simpa using this
  have lim : 100 ≤ sizeLine := by decide
  refine DT.sortedI (es := es) (ep := ep) (I.ok.hd hc) vw' r (by omega) fun h' tk as hk hlt hla hG => ?_
  have nd : as.Nodup := List.Pairwise.imp (fun h => Nat.ne_of_lt h) hG.rise
  have at0 : (h'.push { cls := .type "list", data := .seq (as.map Value.ref).toArray }).get? h'.objs.size = some (seqObj "list" (as.map Value.ref).toArray 0) := Heap.get?_push_size _ rfl
  have kb : ∀ b o, h'.get? b = some o → (h'.push { cls := .type "list", data := .seq (as.map Value.ref).toArray }).get? b = some o := fun b o e => Heap.get?_push_of_some _ e
  generalize h'.push { cls := .type "list", data := .seq (as.map Value.ref).toArray } = h2 at at0 kb ⊢
  -- what a made pair is
  have made : ∀ (j : Nat) (b : Addr), as[j]? = some b → ∃ (x : V × V) (y : α × Int) (k v : Value), ps[j]? = some x ∧ t[j]? = some y ∧ RelV x.1 k ∧ RelV x.2 v ∧ h'.get? b = some { cls := .type "tuple", data := .seq #[k, v] } := fun j b hj => by
    obtain ⟨h1, _⟩ := List.getElem?_eq_some_iff.mp hj
    have j1 : j < ps.length := by omega
    have j2 : j < t.length := by omega
    obtain ⟨en, he, r1, r2⟩ := paired_get pr (List.getElem?_eq_getElem j1)
    obtain ⟨en', he', hg⟩ := hG.pairs j b hj
    rw [Array.getElem?_toList] at he
    have : en' = en := Option.some.inj (he'.symm.trans he)
    subst this
    exact ⟨_, _, _, _, List.getElem?_eq_getElem j1, List.getElem?_eq_getElem j2, r1, r2, hg⟩
  let R : Value → α × Int → Prop := fun v y => ∃ b : Addr, v = .ref b ∧ ∃ j : Nat, as[j]? = some b ∧ t[j]? = some y
  have ev : PySem.W.EachIs R (as.map Value.ref) t := by
    exact each_ix (by omega) fun j b y h1 h2 => ⟨b, rfl, j, h1, h2⟩
  have rd : ∀ v y, R v y → ∃ bs, Reads h2 v (encV enc y) bs ∧ h'.objs.size ∉ bs := by
    rintro v y ⟨b, rfl, j, hj, hy⟩
    obtain ⟨x, y', k, u, hx, hy', r1, r2, hg⟩ := made j b hj
    have : y' = y := Option.some.inj (hy'.symm.trans hy)
    subst this
    obtain ⟨t1, t2⟩ := tell j x y' hx hy
    rw [t1] at r2
    obtain ⟨tk2, rfl⟩ := r2
    have r3 := t2 k r1 h2 fun b o e => kb b o (hk b o e)
    exact ⟨_, .tuple (kb _ _ hg) rfl rfl (.cons r3 (.cons (.int _ _) .nil)), fun z => nomatch z⟩
  refine wpAny_mono (PySem.W.list_sort_data (A := X.A.in1) (s := { s with heap := h2, toks := tk }) (enc := encV enc) (Q := fun v s' => EP X pins σ Q (.ref h'.objs.size) s') at0 ev (each_mono2 rd ev) (PySem.W.AllAlike.of fun y z => by simp [encV, PySem.W.alike, PySem.W.alikeAll, O.al]) (PySem.W.Sortable.tuples fun k => ⟨_, _, rfl⟩) (by omega) (fun k _ => ?_) fun out lo2 eo => ?_) (fun _ _ z => z) fun _ _ z => z
  · show X.A.units + 1 + 1 + (encV enc k).depth < cLine
    have d1 := O.dp k.1
    have : (encV enc k).depth ≤ 3 := by
      simp only [encV, PyData.depth, PyData.depthAll]
      omega
    omega
  rw [encV_le O] at eo
  obtain ⟨ts, rfl, tp⟩ := each_refs eo
  have lts : ts.length = t.length := by rw [← lo2, List.length_map]
  obtain ⟨c, hcc⟩ := sortedHeap_at (vs := as.map Value.ref) (out := (ts.map Value.ref).toArray) at0
  have kF : ∀ b o, b ≠ h'.objs.size → h2.get? b = some o → (sortedHeap h2 h'.objs.size (as.map Value.ref) (ts.map Value.ref).toArray).get? b = some o := fun b o hb e => (sortedHeap_old hb (Heap.lt_size e)).trans e
  have kH : ∀ b o, h'.get? b = some o → (sortedHeap h2 h'.objs.size (as.map Value.ref) (ts.map Value.ref).toArray).get? b = some o := fun b o e => kF b o (Nat.ne_of_lt (Heap.lt_size e)) (kb b o e)
  generalize sortedHeap h2 h'.objs.size (as.map Value.ref) (ts.map Value.ref).toArray = h3 at hcc kH ⊢
  have I0 : Inv X pins σ H { s with heap := h3, toks := tk } := I.kept (t' := tk) fun b o e => kH b o (hk b o e)
  have hn0 : H h'.objs.size = none := I.hok.fresh (Nat.le_of_lt hlt)
  have I1 : Inv X pins σ (upd H h'.objs.size (.lst (ts.map V.ref))) { s with heap := h3, toks := tk } := I0.take (h' := h3) (t' := tk) (fun b ob _ e => e) (I.fpOk (Nat.le_of_lt hlt) hn0) ⟨by rw [List.length_map]; omega, _, c, refs_vals ts, hcc⟩
  have hG3 : DT.Made es s.heap.objs.size h3 as := ⟨hG.rise, hG.above, fun j b h => let ⟨e, he, hg⟩ := hG.pairs j b h; ⟨e, he, kH _ _ hg⟩⟩
  obtain ⟨H2, I2, g, mt⟩ := made_told I I1 (Nat.le_refl _) hG3 (by omega) (fun b hb => by
    have l1 : b < h'.objs.size := hG.there hb
    rw [upd_ne (Nat.ne_of_lt l1)]
    exact I.hok.fresh (Nat.le_of_lt (hG.above b hb))) pr
  refine ⟨.ref h'.objs.size, H2, I2, rfl, q H2 _ ts _ (fun b o e => g b o (by rw [upd_ne (ne_of_none e hn0)]; exact e)) hn0 (g _ _ upd_same) (List.mergeSort_perm _ _) (sortV_up O t) ?_⟩
  refine Paired.mapP tp fun b y ⟨j, h1, h2⟩ => ?_
  obtain ⟨h4, _⟩ := List.getElem?_eq_some_iff.mp h1
  have j1 : j < ps.length := by omega
  obtain ⟨x, hx, e⟩ := paired_get mt h1
  exact ⟨x, e, j, hx, h2⟩
def rSortK : List V → Hp → VK → Prop := fun vs H Q => ∃ (p a : Addr) (t : PTab), vs = [.ref p] ∧ H p = some (DX.itemsO p a) ∧ H a = some (.dK (kvsP t)) ∧ t.length ≤ 100 ∧
  ∀ (H' : Hp) (l : Addr) (ts : List Addr) (u : PTab), Same H H' → H l = none → H' l = some (.lst (ts.map V.ref)) → u.Perm t → (u.map (·.1)).Pairwise (fun a b => byCs a b = true) → Paired (fun (b : Addr) (y : Str × Int) => H' b = some (.tup [.str y.1, .int y.2])) ts u → Q (.ref l) H'
theorem call_sortK (hc : X.calm = true) (hu : X.A.units + 60 < cLine) : CallR X (.builtin "sorted") rSortK := by
  intro pins s σ H xs us Q I r h
  obtain ⟨p, a, t, rfl, hp, ha, hl, q⟩ := h
  obtain ⟨u, rfl, rx⟩ := vals1 r
  obtain rfl : u = Value.ref p := rx
  have at_ : ∀ (j : Nat) (x : V × V) (y : Str × Int), (psK (kvsP t))[j]? = some x → t[j]? = some y → x = (.str y.1, .int y.2) := fun j x y h1 h2 => by
    unfold psK kvsP at h1
    rw [List.map_map, List.getElem?_map, h2] at h1
    exact (Option.some.inj h1).symm
  refine itms_sorted ordK hc hu I hp (rawK I.hok ha) (t := t) (by unfold psK kvsP; rw [List.length_map, List.length_map]) hl (fun j x y h1 h2 => ?_) fun H' l ts u a1 a2 a3 a4 a5 a6 => q H' l ts u a1 a2 a3 a4 a5 (Paired.mapP a6 fun b y ⟨x, e, j, h1, h2⟩ => ?_)
  · rw [at_ j x y h1 h2]
    refine ⟨rfl, fun u r h _ => ?_⟩
    obtain ⟨tk, rfl⟩ := r
    exact .str _ _
  · rw [e, at_ j x y h1 h2]
def rSortT : List V → Hp → VK → Prop := fun vs H Q => ∃ (p a : Addr) (t : STab), vs = [.ref p] ∧ H p = some (DX.itemsO p a) ∧ H a = some (.dT (kvsS t)) ∧ t.length ≤ 100 ∧
  ∀ (H' : Hp) (l : Addr) (ts : List Addr) (u : STab), Same H H' → H l = none → H' l = some (.lst (ts.map V.ref)) → u.Perm t → (u.map (·.1)).Pairwise (fun a b => le2 a b = true) → Paired (fun (b : Addr) (y : (Str × Str) × Int) => ∃ k : Addr, H' b = some (.tup [.ref k, .int y.2]) ∧ H' k = some (.tup [.str y.1.1, .str y.1.2])) ts u → Q (.ref l) H'
theorem zip_at {qs : List Addr} {kvs : List (List Key × V)} {j : Nat} {x : V × V} (h : (psT qs kvs)[j]? = some x) : ∃ q p, qs[j]? = some q ∧ kvs[j]? = some p ∧ x = (V.ref q, p.2) := by
  unfold psT at h
  rw [List.getElem?_map] at h
  obtain ⟨z, hz, rfl⟩ := Option.map_eq_some_iff.mp h
  obtain ⟨z1, z2⟩ := List.getElem?_zip_eq_some.mp hz
  exact ⟨z.1, z.2, z1, z2, rfl⟩
theorem keys_at {H : Hp} {kvs : List (List Key × V)} {qs : List Addr} (h : IsKeys H kvs qs) {j : Nat} {q : Addr} {p : List Key × V} (h1 : qs[j]? = some q) (h2 : kvs[j]? = some p) : H q = some (.tup (p.1.map kV)) := by
  obtain ⟨q', e1, e2⟩ := paired_get h h2
  have : q' = q := Option.some.inj (e1.symm.trans h1)
  rwa [this] at e2
theorem call_sortT (hc : X.calm = true) (hu : X.A.units + 60 < cLine) : CallR X (.builtin "sorted") rSortT := by
  intro pins s σ H xs us Q I r h
  obtain ⟨p, a, t, rfl, hp, ha, hl, q⟩ := h
  obtain ⟨u, rfl, rx⟩ := vals1 r
  obtain rfl : u = Value.ref p := rx
  obtain ⟨qs, hq, hr⟩ := rawT I.hok ha
  have at_ : ∀ (j : Nat) (x : V × V) (y : (Str × Str) × Int), (psT qs (kvsS t))[j]? = some x → t[j]? = some y → ∃ k : Addr, x = (.ref k, .int y.2) ∧ H k = some (.tup [.str y.1.1, .str y.1.2]) := fun j x y h1 h2 => by
    obtain ⟨k, pr, e1, e2, e3⟩ := zip_at h1
    have e4 := keys_at hq e1 e2
    unfold kvsS at e2
    rw [List.getElem?_map, h2] at e2
    have e5 := (Option.some.inj e2).symm
    rw [e5] at e3 e4
    exact ⟨k, e3, e4⟩
  have lk : (psT qs (kvsS t)).length = t.length := by
    have := Paired.length hq
    unfold psT
    rw [List.length_map, List.length_zip, ← this, Nat.min_self, kvsS_len]
  refine itms_sorted ordT hc hu I hp hr (t := t) lk hl (fun j x y h1 h2 => ?_) fun H' l ts u a1 a2 a3 a4 a5 a6 => q H' l ts u a1 a2 a3 a4 a5 (Paired.mapP a6 fun b y ⟨x, e, j, h1, h2⟩ => ?_)
  · obtain ⟨k, rfl, hk⟩ := at_ j x y h1 h2
    refine ⟨rfl, fun u r h kp => ?_⟩
    obtain rfl := r
    obtain ⟨its, rv, ⟨ob, e1, e2, n, e3⟩, _⟩ := I.tuple (SqT.of hk)
    cases rv with
    | cons r1 t1 =>
      obtain ⟨k1, rfl⟩ := r1
      cases t1 with
      | cons r2 t2 =>
        obtain ⟨k2, rfl⟩ := r2
        cases t2
        exact .tuple (kp _ _ e1) e2 e3 (.cons (.str _ _) (.cons (.str _ _) .nil))
  · obtain ⟨k, rfl, hk⟩ := at_ j x y h1 h2
    exact ⟨k, e, a1 _ _ hk⟩
end
end Mk

set_option Elab.async false
set_option linter.all false
set_option maxRecDepth 100000
set_option maxHeartbeats 1000000
/-! dict(l) of a list of pairs whose first items are tuples, each there once -/
namespace Mk
open PySem PySem.Spec PyProof.Rows L2

abbrev PrsT (K : PySem.W.Frag) (H : Hp) : List Addr → List (List Key × V) → Prop := Paired fun p kv => ∃ b, H b = some (.tup (kv.1.map kV)) ∧ SqT K H p [.ref b, kv.2]
section
variable {X : Cx}
theorem pairsT_of {pins : List (Addr × Obj)} {σ : L2.St} {H : Hp} {s : Shared} (I : Inv X pins σ H s) : ∀ {ps : List Addr} {kvs : List (List Key × V)}, PrsT X.K H ps kvs →
    ∃ xs : List (List Key × Addr × Value), KT H kvs xs ∧ xs.length = ps.length ∧ ∀ (j : Nat) (q : List Key × Addr × Value), xs[j]? = some q → ∃ p, ps[j]? = some p ∧ IsTup s.heap p #[.ref q.2.1, q.2.2]
  | _, _, .nil => ⟨[], .nil, rfl, fun j q e => by simp at e⟩
  | _, _, .cons (a := p) (b := kv) h t => by
    obtain ⟨xs, r, hl, hp⟩ := pairsT_of I t
    obtain ⟨b, hb, hq⟩ := h
    obtain ⟨its, rv, ht, _⟩ := I.tuple hq
    obtain ⟨u, y, ei, ru, ry⟩ := vals2 rv
    subst ei
    obtain rfl : u = Value.ref b := ru
    refine ⟨(kv.1, b, y) :: xs, .cons ⟨rfl, hb, ry⟩ r, by rw [List.length_cons, List.length_cons, hl], fun j q e => ?_⟩
    cases j with
    | zero =>
      have e' : (kv.1, b, y) = q := Option.some.inj e
      subst e'
      exact ⟨p, rfl, ht⟩
    | succ j =>
      obtain ⟨p', e1, e2⟩ := hp j q (by simpa using e)
      exact ⟨p', by simpa using e1, e2⟩
theorem KT.keys {H : Hp} {kvs : List (List Key × V)} {xs : List (List Key × Addr × Value)} (r : KT H kvs xs) : xs.map (·.1) = kvs.map (·.1) := by
  induction r with
  | nil => rfl
  | cons h t ih => rw [List.map_cons, List.map_cons, ih, h.1]
theorem call_dictPT (hcalm : X.calm = true) (hu : X.A.units + 8 < cLine) : CallR X (.type "dict") (fun xs H Q => ∃ (a : Addr) (ps : List Addr) (kvs : List (List Key × V)), xs = [.ref a] ∧ SqL X.K H a (ps.map V.ref) ∧ PrsT X.K H ps kvs ∧ (kvs.map (·.1)).Nodup ∧
    ∀ p, H p = none → Q (.ref p) (upd H p (.dT kvs))) := by
  intro pins s σ H xs us Q I r q
  obtain ⟨a, ps, kvs, ex, hq, hp, nd, q⟩ := q
  subst ex
  obtain ⟨u, eu, rx⟩ := vals1 r
  subst eu
  cases rx
  obtain ⟨its, rv, pl, hz⟩ := I.list hq
  have ei := refs_at rv
  subst ei
  rw [List.length_map] at hz
  obtain ⟨prs, rel, hl, hpr⟩ := pairsT_of I hp
  obtain ⟨o, n, ho, hc, hd, hdat⟩ := pl
  have hk2 : ∀ x ∈ prs, (tupleKind (mixKind X.prog X.w)).is s.heap x.1 x.2.1 := by
    have all : ∀ {l : List (List Key × V)} {m : List (List Key × Addr × Value)}, KT H l m → ∀ x ∈ m, (tupleKind (mixKind X.prog X.w)).is s.heap x.1 x.2.1 := by
      intro l m q
      induction q with
      | nil => intro x hx; exact nomatch hx
      | @cons p q ps qs hq t ih =>
        intro x hx
        rcases List.mem_cons.mp hx with e | hx
        · subst e
          exact key_of I.hok (by rw [← hq.1]; exact hq.2.1)
        · exact ih x hx
    exact all rel
  have er : storedAllH [] prs = prs := storedAllH_nil_of_nodup prs (by rw [KT.keys rel]; exact nd)
  refine PySem.call_dict_pairsH (knd := tupleKind (mixKind X.prog X.w)) (ps := prs) (PySem.PairArg.list a (ps.map Value.ref).toArray (fun j => ps.getD j 0) (prs.map fun q => (Value.ref q.2.1, q.2.2))) (I.ok.hd hcalm) (show (tupleKind (mixKind X.prog X.w)).room X.A.in1.in1 from ?_) ⟨⟨o, n, ho, hc, hd, hdat⟩, ?_, ?_⟩ ⟨by simp, ?_⟩ ?_ (by rw [List.length_map, hl]; exact hz) fun h' tk hd' k => ?_
  · show X.A.units + 1 + 1 < cLine
    omega
  · simp [hl]
  · intro j k v e
    rw [List.getElem?_map] at e
    obtain ⟨q, eq, e⟩ := Option.map_eq_some_iff.mp e
    cases e
    obtain ⟨p, e1, e2⟩ := hpr j q eq
    refine ⟨?_, .inl ?_⟩
    · simp [e1]
    · simp [e1]
      exact e2
  · intro i key v e
    have e : (prs.map fun q => (Value.ref q.2.1, q.2.2))[i]? = some (key, v) := e
    rw [List.getElem?_map] at e
    obtain ⟨q, eq, e⟩ := Option.map_eq_some_iff.mp e
    cases e
    exact ⟨q.1, q.2.1, eq, rfl⟩
  · intro h' hk x hx
    obtain ⟨o', its, m, h1, h2, h3, h4⟩ := hk2 x hx
    exact ⟨o', its, m, hk _ _ (Nat.ne_of_lt (Heap.lt_size h1)) (fun z => nomatch z) h1, h2, h3, h4⟩
  · rw [er] at hd'
    have hm : (s.heap.objs.size == sysModules) = false := beq_eq_false_iff_ne.mpr (Nat.ne_of_gt I.big)
    have hlen : kvs.length ≤ sizeLine := by
      rw [Paired.length rel, hl]
      exact hz
    have nS : H s.heap.objs.size = none := I.hok.fresh (Nat.le_refl _)
    have rel2 : KT (upd H s.heap.objs.size (.dT kvs)) kvs prs := rel.keeps fun b ys e => by
      rw [upd_ne (ne_of_none e nS)]
      exact e
    obtain ⟨o', es, ep, h1, h2, h3, h4, _, h5⟩ := hd'
    exact ⟨.ref s.heap.objs.size, upd H s.heap.objs.size (.dT kvs), I.laid (t' := tk) (fun b o e => k b o (fun z => nomatch z) e) (Nat.le_refl _) (show ObjOk X.prog X.w _ _ _ (.dT kvs) from ⟨hlen, hm, prs, rel2, o', es, ep, h1, h2, h3, h4, h5⟩), rfl, q _ nS⟩
end
end Mk

set_option Elab.async false
set_option linter.all false
set_option maxRecDepth 100000
set_option maxHeartbeats 1000000
namespace Mk
open PySem PySem.Spec L2 PyProof.Rows

abbrev sLSigns : Stmt := top 0
/-- the signs of a text -/
def sgs (z : Str) : List Str := (cs z).map fun c => ⟨#[c]⟩
section
variable {X : Cx}
theorem sign_vals {z : Str} {acc : Array Value} (h : ItemsOf (SignAt z) acc z.cps.size) : Vals ((sgs z).map V.str) acc.toList := by
  refine paired_ix (by simp [sgs, h.1]) fun j x y e1 e2 => ?_
  obtain ⟨c, u, hc, rfl⟩ := h.2 j y (by simpa using e2)
  have e3 : (sgs z)[j]? = some ⟨#[c]⟩ := by
    have : (cs z)[j]? = some c := by rw [← hc]; simp [cs]
    unfold sgs
    rw [List.getElem?_map, this]
    rfl
  rw [List.getElem?_map, e3] at e1
  cases e1
  exact ⟨u, rfl⟩
theorem call_listS (hc : X.calm = true) : CallR X (.type "list") (fun xs H Q => ∃ z : Str, xs = [.str z] ∧ z.length ≤ sizeLine ∧ ∀ l, H l = none → Q (.ref l) (upd H l (.lst ((sgs z).map V.str)))) := by
  intro pins s σ H xs us Q I r h
  obtain ⟨z, rfl, hl, q⟩ := h
  obtain ⟨u, rfl, rx⟩ := vals1 r
  obtain ⟨t, rfl⟩ := rx
  refine call_list_str (hn := hl) (I.ok.hd hc) z t fun h' tk acc' c' kp e it => ?_
  have rv := sign_vals it
  refine ⟨.ref s.heap.objs.size, _, I.laid (t' := tk) kp (Nat.le_refl _) (show ObjOk X.prog X.w _ h' _ (.lst ((sgs z).map V.str)) from ⟨?_, acc'.toList, c', rv, by simpa using e⟩), rfl, q _ (I.hok.fresh (Nat.le_refl _))⟩
  rw [List.length_map, sgs, List.length_map]
  exact hl
end
theorem strs_perm {ys : List V} {zs : List Str} (p : ys.Perm (zs.map V.str)) : ∃ ws : List Str, ys = ws.map V.str ∧ ws.Perm zs := by
  let f : V → Str := fun v => match v with | .str s => s | _ => ""
  have e : ∀ l : List Str, (l.map V.str).map f = l := fun l => by
    rw [List.map_map]
    exact (List.map_congr_left fun _ _ => rfl).trans (List.map_id l)
  refine ⟨ys.map f, ?_, ?_⟩
  · rw [List.map_map]
    refine ((List.map_congr_left fun v hv => ?_).trans (List.map_id ys)).symm
    obtain ⟨z, _, rfl⟩ := List.mem_map.mp (p.mem_iff.mp hv)
    rfl
  · have := p.map f
    rwa [e] at this
theorem cut_strs (ws : List Str) (j : Nat) : cutV (ws.map V.str) none (some (j : Int)) = (ws.take (min j ws.length)).map V.str := by
  unfold cutV
  rw [HT.sIx_none, HT.sIx_nat, List.length_map, List.drop_zero, Nat.sub_zero, List.map_take]
def spShufS : Sp := fun vs H Q _ => ∃ (p : Addr) (z : Str) (n : Nat), vs = [.ref p, .str z] ∧ z.length < 100000 ∧ Pot H p n ∧ n + z.length < PB ∧
  ∀ H' D ys, But p H H' → H D = none → H' D = some (.lst ys) → ys.Perm ((sgs z).map V.str) → Pot H' p (n + z.length) → Q (.ref D) H'
/-- signs, ascending -/
structure SgL (zs : List Str) : Prop where
  ne : zs ≠ []
  le : zs.length ≤ 5
  sg : ∀ z ∈ zs, sgB z = true
  nd : zs.Nodup
  up : sortedS zs = true
def spLSigns : Sp := fun vs H Q _ => ∃ (p : Addr) (n : Nat), vs = [.ref p] ∧ Pot H p n ∧ n + 6 < PB ∧
  ∀ H' S zs, But p H H' → H S = none → H' S = some (.lst (zs.map V.str)) → SgL zs → Pot H' p (n + 6) → Q (.ref S) H'
theorem But.nul {p b : Addr} {H H' : Hp} {n : Nat} (B : But p H H') (P : Pot H' p n) (h : H' b = none) : H b = none := by
  cases e : H b with
  | none => rfl
  | some o =>
    have := B b o (P.ne h).symm e
    rw [h] at this
    cases this
section
variable {P : Program} {w : World} {K : PySem.W.Frag} {mg : Str → Option Value} {base : Heap}
theorem five_sg : (∀ z ∈ sgs "abcde", sgB z = true) ∧ (sgs "abcde").Nodup ∧ (sgs "abcde").length = 5 := by
  refine ⟨by decide +kernel, by decide +kernel, by decide +kernel⟩
end
end Mk

set_option Elab.async false
set_option linter.all false
set_option maxRecDepth 100000
set_option maxHeartbeats 1000000
namespace Mk
open PySem PySem.Spec L2 PyProof.Rows

abbrev sLTables : Stmt := top 0
structure Dn (mg : Str → Option Value) : Prop where
  dict : mg "dict" = none
theorem not_in_append {t : List (Str × Int)} {p : Str × Int} {r : List (Str × Int)} (h : ((t ++ p :: r).map (·.1)).Nodup) : p.1 ∉ t.map (·.1) := fun m => by
  rw [List.map_append, List.map_cons] at h
  exact (List.nodup_append.mp h).2.2 _ m _ List.mem_cons_self rfl
theorem merge_P : ∀ (b a : PTab), ((a ++ b).map (·.1)).Nodup → mergeK (kvsP a) (kvsP b) = kvsP (a ++ b)
  | [], a, _ => by rw [List.append_nil]; rfl
  | p :: b, a, h => by
    show mergeK (L2.putK (kvsP a) (Sum.inr p.1) (V.int p.2)) (kvsP b) = _
    rw [putP_new (not_in_append h)]
    have e : a ++ [(p.1, p.2)] ++ b = a ++ p :: b := by simp
    have := merge_P b (a ++ [(p.1, p.2)]) (by rw [e]; exact h)
    rw [this, e]
theorem merge_P0 {t : PTab} (h : (t.map (·.1)).Nodup) : mergeK [] (kvsP t) = kvsP t := merge_P t [] h
/-- pairs of a sign and a number, told by tuples -/
abbrev Tups (H : Hp) (ts : List Addr) (tab : PTab) : Prop := Paired (fun (t : Addr) (q : Str × Int) => H t = some (.tup [.str q.1, .int q.2])) ts tab
theorem tups_sq {K : PySem.W.Frag} {H : Hp} : ∀ {ts : List Addr} {tab : PTab}, Tups H ts tab → Paired (fun (p : Addr) (kv : Key × V) => SqT K H p [kV kv.1, kv.2]) ts (kvsP tab)
  | _, _, .nil => .nil
  | _, _, .cons h t => .cons (SqT.of h) (tups_sq t)
theorem Paired.snocP {α β : Type} {F : α → β → Prop} {a : α} {b : β} (h : F a b) : ∀ {l : List α} {m : List β}, Paired F l m → Paired F (l ++ [a]) (m ++ [b])
  | _, _, .nil => .cons h .nil
  | _, _, .cons x t => .cons x (Paired.snocP h t)
theorem Paired.appendP {α β : Type} {F : α → β → Prop} : ∀ {l l2 : List α} {m m2 : List β}, Paired F l m → Paired F l2 m2 → Paired F (l ++ l2) (m ++ m2)
  | _, _, _, _, .nil, h => h
  | _, _, _, _, .cons x t, h => .cons x (Paired.appendP t h)
theorem Paired.permL {α β : Type} {F : α → β → Prop} {ps qs : List α} (p : ps.Perm qs) : ∀ {ks : List β}, Paired F qs ks → ∃ ls, ls.Perm ks ∧ Paired F ps ls := by
  induction p with
  | nil =>
    intro ks h
    cases h
    exact ⟨[], .refl _, .nil⟩
  | cons x _ ih =>
    intro ks h
    cases h with
    | cons a t =>
      obtain ⟨ls, p, q⟩ := ih t
      exact ⟨_ :: ls, p.cons _, .cons a q⟩
  | swap x y l =>
    intro ks h
    cases h with
    | cons a t =>
      cases t with
      | cons b t => exact ⟨_, List.Perm.swap _ _ _, .cons b (.cons a t)⟩
  | trans _ _ i1 i2 =>
    intro ks h
    obtain ⟨l1, p1, q1⟩ := i2 h
    obtain ⟨l2, p2, q2⟩ := i1 q1
    exact ⟨l2, p2.trans p1, q2⟩
theorem Paired.subL {α β : Type} {F : α → β → Prop} {ps qs : List α} (p : List.Sublist ps qs) : ∀ {ks : List β}, Paired F qs ks → ∃ ls : List β, List.Sublist ls ks ∧ Paired F ps ls := by
  induction p with
  | slnil =>
    intro ks h
    cases h
    exact ⟨[], .slnil, .nil⟩
  | cons x _ ih =>
    intro ks h
    cases h with
    | cons a t =>
      obtain ⟨ls, p, q⟩ := ih t
      exact ⟨ls, p.cons _, q⟩
  | cons_cons x _ ih =>
    intro ks h
    cases h with
    | cons a t =>
      obtain ⟨ls, p, q⟩ := ih t
      exact ⟨_ :: ls, p.cons_cons _, .cons a q⟩
/-- addresses of a permuted list of addresses -/
theorem refs_perm {ys : List V} {qs : List Addr} (p : ys.Perm (qs.map V.ref)) : ∃ ps : List Addr, ys = ps.map V.ref ∧ ps.Perm qs := by
  let f : V → Addr := fun v => match v with | .ref s => s | _ => 0
  have e : ∀ l : List Addr, (l.map V.ref).map f = l := fun l => by
    rw [List.map_map]
    exact (List.map_congr_left fun _ _ => rfl).trans (List.map_id l)
  refine ⟨ys.map f, ?_, ?_⟩
  · rw [List.map_map]
    refine ((List.map_congr_left fun v hv => ?_).trans (List.map_id ys)).symm
    obtain ⟨z, _, rfl⟩ := List.mem_map.mp (p.mem_iff.mp hv)
    rfl
  · have := p.map f
    rwa [e] at this
theorem But.new {p l : Addr} {o : HO} {H H1 : Hp} (B : But p H H1) (hl : H1 l = none) : But p H (upd H1 l o) := B.same (Same.new hl)
/-- signs with prices that are dealt out, in the list at D -/
structure Dealt (p : Addr) (H H1 : Hp) (D : Addr) (ws : List Str) (m : Int) (n : Nat) : Prop where
  but : But p H H1
  pot : Pot H1 p n
  ex : ∃ (ts : List Addr) (tab : PTab), H1 D = some (.lst (ts.map V.ref)) ∧ Tups H1 ts tab ∧ tab.map (·.1) = ws ∧ ∀ q ∈ tab, 1 ≤ q.2 ∧ q.2 ≤ m
theorem Tups.keep {H H' : Hp} (k : ∀ b xs, H b = some (.tup xs) → H' b = some (.tup xs)) {ts : List Addr} {tab : PTab} (h : Tups H ts tab) : Tups H' ts tab := L2.Paired.mapP h fun _ _ e => k _ _ e
theorem Dealt.next {p : Addr} {H H1 H2 : Hp} {D t : Addr} {ws : List Str} {z : Str} {m i : Int} {n : Nat} (W : Dealt p H H1 D ws m n) (D0 : H D = none) (b2 : But p H1 H2) (P2 : Pot H2 p (n + 1)) (h1 : 1 ≤ i) (h2 : i ≤ m) (ht : H2 t = none) (nD : D ≠ p) :
    ∃ acc, (upd H2 t (.tup [.str z, .int i])) D = some (.lst acc) ∧ acc.length = ws.length ∧ Dealt p H (upd (upd H2 t (.tup [.str z, .int i])) D (.lst (acc ++ [.ref t]))) D (ws ++ [z]) m (n + 1) := by
  obtain ⟨ts, tab, e1, e2, e3, e4⟩ := W.ex
  have e1' := b2 _ _ nD e1
  have Dt : D ≠ t := ne_of_none e1' ht
  refine ⟨ts.map V.ref, by rw [upd_ne Dt]; exact e1', ?_, ?_, ?_, ts ++ [t], tab ++ [(z, i)], ?_, ?_, ?_, ?_⟩
  · have : ts.length = tab.length := Paired.length e2
    rw [List.length_map, this, ← e3, List.length_map]
  · exact But.up ((W.but.trans b2).new ht) D0
  · exact (P2.up (P2.ne ht)).up nD.symm
  · rw [upd_same, List.map_append]
    rfl
  · refine Paired.snocP ?_ (Tups.keep (fun b xs e => ?_) e2)
    · show (upd (upd H2 t _) D _) t = _
      rw [upd_ne Dt.symm, upd_same]
    · have e' : H2 b = some (.tup xs) := b2 _ _ (fun z => by
        obtain ⟨_, _, _, ep, _⟩ := W.pot
        rw [z, ep] at e
        cases e) e
      have nb : b ≠ D := fun z => by
        rw [z, e1'] at e'
        cases e'
      rw [upd_ne nb, upd_ne (ne_of_none e' ht)]
      exact e'
  · rw [List.map_append, e3]
    rfl
  · intro q hq
    rcases List.mem_append.mp hq with hq | hq
    · exact e4 q hq
    · rw [List.mem_singleton.mp hq]
      exact ⟨h1, h2⟩
theorem pot_same {H H' : Hp} {p : Addr} {n : Nat} (h : Same H H') (P : Pot H p n) : Pot H' p n := by
  obtain ⟨u, m, c, e, r⟩ := P
  exact ⟨u, m, c, h _ _ e, r⟩
theorem rows_told {K : PySem.W.Frag} {H : Hp} : ∀ {ts : List Addr} {rows : List (Addr × Int)} {ms : List (Str × Str)}, Paired (fun (t : Addr) (r : Addr × Int) => H t = some (.tup [.ref r.1, .int r.2])) ts rows → Pairs H (rows.map (·.1)) ms →
    ∃ t3 : STab, t3.map (·.1) = ms ∧ t3.map (·.2) = rows.map (·.2) ∧ PrsT K H ts (kvsS t3)
  | _, [], _, .nil, h => by
    cases h
    exact ⟨[], rfl, rfl, .nil⟩
  | _, r :: rows, _, .cons a t, h => by
    rw [List.map_cons] at h
    cases h with
    | @cons _ k _ ms b h =>
      obtain ⟨t3, e1, e2, pr⟩ := rows_told (K := K) t h
      exact ⟨(k, r.2) :: t3, by rw [List.map_cons, e1], by rw [List.map_cons, e2, List.map_cons], .cons ⟨r.1, b, SqT.of a⟩ pr⟩
theorem kvsS_nd {t : STab} (h : (t.map (·.1)).Nodup) : ((kvsS t).map (·.1)).Nodup := by
  have e : (kvsS t).map (·.1) = (t.map (·.1)).map keyOf := by
    unfold kvsS
    rw [List.map_map, List.map_map]
    rfl
  rw [e]
  exact List.Pairwise.map _ (fun a b n z => n (key_inj z)) h
theorem nw_in {i m : Int} (h1 : 1 ≤ i) (h2 : i ≤ m) (h3 : m ≤ LG) : nwB i 1 m = true := by
  unfold nwB nuB
  have g : (-LG) ≤ 1 := by decide
  simp only [Bool.and_eq_true, decide_eq_true_eq]
  exact ⟨⟨Int.le_trans g h1, Int.le_trans h2 h3⟩, h1, h2⟩
/-- the list of pairs that grows at l -/
structure GrowL (H H1 : Hp) (l : Addr) (ks : List (Str × Str)) : Prop where
  but : But l H H1
  out : ∃ qs : List Addr, H1 l = some (.lst (qs.map V.ref)) ∧ Pairs H1 qs ks
/-- what is right about tables -/
structure RtT (t1 t2 : PTab) (t3 : STab) : Prop where
  ag : Agree t1 t2 t3
  nd : (t3.map (·.1)).Nodup
  rt : rightB t1 t2 t3 = true
def spLTables : Sp := fun vs H Q _ => ∃ (p S : Addr) (n : Nat) (zs : List Str), vs = [.ref p, .ref S] ∧ Pot H p n ∧ n + 100 < PB ∧ H S = some (.lst (zs.map V.str)) ∧ SgL zs ∧
  ∀ H' L a b c t1 t2 t3, But p H H' → H' L = some (.lst [.ref a, .ref b, .ref c]) → Tabs H' a b c t1 t2 t3 → RtT t1 t2 t3 → Pot H' p (n + 100) → Q (.ref L) H'
theorem pick1 {v : V} (h : v ∈ [V.int 2, V.int 9, V.int 9]) : ∃ m : Int, v = .int m ∧ 1 ≤ m ∧ m ≤ 9 := by
  simp only [List.mem_cons, List.not_mem_nil, or_false] at h
  rcases h with rfl | rfl | rfl
  · exact ⟨_, rfl, by decide, by decide⟩
  · exact ⟨_, rfl, by decide, by decide⟩
  · exact ⟨_, rfl, by decide, by decide⟩
theorem pick2 {v : V} (h : v ∈ [V.int 1, V.int 2, V.int 6, V.int 18]) : ∃ m : Int, v = .int m ∧ 1 ≤ m ∧ m ≤ 18 := by
  simp only [List.mem_cons, List.not_mem_nil, or_false] at h
  rcases h with rfl | rfl | rfl | rfl
  · exact ⟨_, rfl, by decide, by decide⟩
  · exact ⟨_, rfl, by decide, by decide⟩
  · exact ⟨_, rfl, by decide, by decide⟩
  · exact ⟨_, rfl, by decide, by decide⟩
theorem pick3 {v : V} (h : v ∈ [V.int 1, V.int 2, V.int 4, V.int 9]) : ∃ m : Int, v = .int m ∧ 1 ≤ m ∧ m ≤ 18 := by
  simp only [List.mem_cons, List.not_mem_nil, or_false] at h
  rcases h with rfl | rfl | rfl | rfl
  · exact ⟨_, rfl, by decide, by decide⟩
  · exact ⟨_, rfl, by decide, by decide⟩
  · exact ⟨_, rfl, by decide, by decide⟩
  · exact ⟨_, rfl, by decide, by decide⟩
section
variable {P : Program} {w : World} {K : PySem.W.Frag} {mg : Str → Option Value} {base : Heap}
abbrev nTab : List Str := ["_law_pot", "_law_signs_here", "_law_most", "_law_far", "_law_share", "_law_puts", "_law_outs", "_law_pairs", "_law_one", "_law_sign", "_law_other", "_law_pair"]
end
end Mk

set_option Elab.async false
set_option linter.all false
set_option maxRecDepth 100000
set_option maxHeartbeats 1000000
/-! values of any kind; is one of them a change -/
namespace Mk
open PySem PySem.Spec L2 PyProof.Rows

abbrev sIsCh : Stmt := top 35
mutual
theorem Dp.keep {K : PySem.W.Frag} {H H' : Hp} (k : Same H H') : ∀ {v : V} {d : PyData}, Dp K H v d → Dp K H' v d
  | _, _, .non => .non
  | _, _, .bl b => .bl b
  | _, _, .int i => .int i
  | _, _, .str x => .str x
  | _, _, .lst h t => .lst (k.seq h) (DpAll.keep k t)
  | _, _, .tup h t => .tup (h.imp (fun r => r.imp (k _ _) fun ⟨o, e⟩ => ⟨o, k _ _ e⟩) id) (DpAll.keep k t)
theorem DpAll.keep {K : PySem.W.Frag} {H H' : Hp} (k : Same H H') : ∀ {vs : List V} {ds : List PyData}, DpAll K H vs ds → DpAll K H' vs ds
  | _, _, .nil => .nil
  | _, _, .cons a t => .cons (Dp.keep k a) (DpAll.keep k t)
end
def tyD : PyData → String
  | .none => "NoneType"
  | .bool _ => "bool"
  | .int _ => "int"
  | .str _ => "str"
  | .list _ => "list"
  | .tuple _ => "tuple"
  | .dict _ => "dict"
/-- data, or an empty dict -/
inductive Dv (K : PySem.W.Frag) (H : Hp) : V → PyData → Prop where
  | of {v : V} {d : PyData} : Dp K H v d → Dv K H v d
  | dic {a : Addr} : H a = some (.dK []) → Dv K H (.ref a) (.dict [])
theorem Dv.keep {K : PySem.W.Frag} {H H' : Hp} {v : V} {d : PyData} (k : Same H H') (h : Dv K H v d) : Dv K H' v d := by
  cases h with
  | of h => exact .of (Dp.keep k h)
  | dic h => exact .dic (k _ _ h)
theorem Dp.ty {K : PySem.W.Frag} {H : Hp} {v : V} {d : PyData} (h : Dp K H v d) : TyX K H v (.type (tyD d)) := by
  cases h with
  | non => exact .base .non
  | bl b => exact .base (.bl b)
  | int i => exact .base (.int i)
  | str x => exact .base (.str x)
  | lst h _ =>
    rcases h with (e | ⟨o, e⟩) | ⟨o, its, n, e, c, _⟩
    · exact .base (.lst e)
    · exact .base (.frz e)
    · exact .kList e c
  | tup h _ =>
    rcases h with (e | ⟨o, e⟩) | ⟨o, its, n, e, c, _⟩
    · exact .base (.tup e)
    · exact .fTuple e
    · exact .kTuple e c
theorem Dv.ty {K : PySem.W.Frag} {H : Hp} {v : V} {d : PyData} (h : Dv K H v d) : TyX K H v (.type (tyD d)) := by
  cases h with
  | of h => exact Dp.ty h
  | dic h => exact .base (.dK h)
def isTup : PyData → Bool
  | .tuple _ => true
  | _ => false
def isIntD : PyData → Bool
  | .int _ | .bool _ => true
  | _ => false
def isBoolD : PyData → Bool
  | .bool _ => true
  | _ => false
def isStrD : PyData → Bool
  | .str _ => true
  | _ => false
section
variable {K : PySem.W.Frag}
theorem kit_tup : ∀ d : PyData, PySem.W.kitOne K (.type (tyD d)) (.type "tuple") = some (isTup d)
  | .none => kit_ty (by decide +kernel : kitB "NoneType" "tuple" = some false)
  | .bool _ => kit_ty (by decide +kernel : kitB "bool" "tuple" = some false)
  | .int _ => kit_ty (by decide +kernel : kitB "int" "tuple" = some false)
  | .str _ => kit_ty (by decide +kernel : kitB "str" "tuple" = some false)
  | .list _ => kit_ty (by decide +kernel : kitB "list" "tuple" = some false)
  | .tuple _ => kit_ty (by decide +kernel : kitB "tuple" "tuple" = some true)
  | .dict _ => kit_ty (by decide +kernel : kitB "dict" "tuple" = some false)
theorem kit_int : ∀ d : PyData, PySem.W.kitOne K (.type (tyD d)) (.type "int") = some (isIntD d)
  | .none => kit_ty (by decide +kernel : kitB "NoneType" "int" = some false)
  | .bool _ => kit_ty (by decide +kernel : kitB "bool" "int" = some true)
  | .int _ => kit_ty (by decide +kernel : kitB "int" "int" = some true)
  | .str _ => kit_ty (by decide +kernel : kitB "str" "int" = some false)
  | .list _ => kit_ty (by decide +kernel : kitB "list" "int" = some false)
  | .tuple _ => kit_ty (by decide +kernel : kitB "tuple" "int" = some false)
  | .dict _ => kit_ty (by decide +kernel : kitB "dict" "int" = some false)
theorem kit_bool : ∀ d : PyData, PySem.W.kitOne K (.type (tyD d)) (.type "bool") = some (isBoolD d)
  | .none => kit_ty (by decide +kernel : kitB "NoneType" "bool" = some false)
  | .bool _ => kit_ty (by decide +kernel : kitB "bool" "bool" = some true)
  | .int _ => kit_ty (by decide +kernel : kitB "int" "bool" = some false)
  | .str _ => kit_ty (by decide +kernel : kitB "str" "bool" = some false)
  | .list _ => kit_ty (by decide +kernel : kitB "list" "bool" = some false)
  | .tuple _ => kit_ty (by decide +kernel : kitB "tuple" "bool" = some false)
  | .dict _ => kit_ty (by decide +kernel : kitB "dict" "bool" = some false)
theorem kit_str : ∀ d : PyData, PySem.W.kitOne K (.type (tyD d)) (.type "str") = some (isStrD d)
  | .none => kit_ty (by decide +kernel : kitB "NoneType" "str" = some false)
  | .bool _ => kit_ty (by decide +kernel : kitB "bool" "str" = some false)
  | .int _ => kit_ty (by decide +kernel : kitB "int" "str" = some false)
  | .str _ => kit_ty (by decide +kernel : kitB "str" "str" = some true)
  | .list _ => kit_ty (by decide +kernel : kitB "list" "str" = some false)
  | .tuple _ => kit_ty (by decide +kernel : kitB "tuple" "str" = some false)
  | .dict _ => kit_ty (by decide +kernel : kitB "dict" "str" = some false)
end
def numD (d : PyData) (a b : Int) : Bool := match d with
  | .int i => nwB i a b
  | _ => false
def sgD : PyData → Bool
  | .str z => sgB z
  | _ => false
def eqS (d : PyData) (z : Str) : Bool := match d with
  | .str x => decide (x = z)
  | _ => false
theorem eqv_S (d : PyData) (z : Str) : PyData.eqv d (.str z) = eqS d z := by
  cases d with
  | str x =>
    show (x == z) = decide (x = z)
    by_cases h : x = z
    · rw [decide_eq_true h, h, beq_self_eq_true]
    · rw [decide_eq_false h, beq_eq_false_iff_ne.mpr h]
  | _ => simp [PyData.eqv, eqS]
theorem eqS_of {d : PyData} {z : Str} (h : eqS d z = true) : d = .str z := by
  cases d with
  | str x => exact congrArg PyData.str (of_decide_eq_true h)
  | _ => cases h
theorem eqS_no {x z : Str} (h : x ≠ z) : eqS (.str x) z = false := decide_eq_false h
def spIsNumD : Sp := fun vs H Q _ => ∃ (v : V) (d : PyData) (K : PySem.W.Frag), vs = [v] ∧ False
def spNumD (K : PySem.W.Frag) : Sp := fun vs H Q _ => ∃ (v : V) (d : PyData), vs = [v] ∧ Dp K H v d ∧ Q (.bl (match d with | .int i => nuB i | _ => false)) H
def spNumWD (K : PySem.W.Frag) : Sp := fun vs H Q _ => ∃ (v : V) (d : PyData) (a b : Int), vs = [v, .int a, .int b] ∧ Dp K H v d ∧ Q (.bl (numD d a b)) H
/-- it is another sign than the one that stands there -/
def nsD (a s : PyData) (sg : List Str) : Bool := match a, s with
  | .int i, .str z => !decide (sg[i.toNat]? = some z)
  | _, _ => false
/-- the change that a value tells, in a word of these signs -/
def chB (d : PyData) (sg : List Str) : Bool := match d with
  | .tuple [k, a] => !eqS k "put" && numD a 0 ((sg.length : Int) - 1) && eqS k "out"
  | .tuple [k, a, s] => if eqS k "put" then numD a 0 sg.length && sgD s else numD a 0 ((sg.length : Int) - 1) && !eqS k "out" && eqS k "swap" && sgD s && nsD a s sg
  | _ => false
def spIsCh (K : PySem.W.Frag) : Sp := fun vs H Q _ => ∃ (v : V) (d : PyData) (L : Addr) (sg : List Str), vs = [v, .ref L] ∧ Dp K H v d ∧ (∀ ds, d = .tuple ds → ∀ x ∈ ds, SeqAt.shaped x = true) ∧ H L = some (.lst (sg.map V.str)) ∧ sg.length ≤ 2000 ∧ (∀ ds, d = .tuple ds → ∀ z, PyData.str z ∈ ds → z.length ≤ 100000) ∧ ∀ H', Same H H' → Q (.bl (chB d sg)) H'
section
variable {P : Program} {w : World} {K : PySem.W.Frag} {mg : Str → Option Value} {base : Heap}
theorem ok_numD {f : Addr} {fd : FuncData} (F : Fun K "is_number" "is_number" sIsNum f fd) (B : Bn mg) (W : Wn mg) (N : Nn mg) : FnOk P w K mg base CX0 1 f fd ["value"] (spNumD K) := by
  obtain ⟨t, hL⟩ := N.lg
  refine F.ok scIsNum (fun vs H Q E h => ?_) (fun cdv A outer s H vs Q E hr h => ?_)
  · obtain ⟨v, d, rfl, _⟩ := h
    rfl
  · obtain ⟨v, d, rfl, hd, q⟩ := h
    refine ⟨_, pss_cons (ps_if (PW.pt (pw_or (pt_val (pe_callB call_isi (by rfl) W.isi (by decide +kernel) (pa_cons (pv 0) (pa_cons (pe_bltn (v := .ty "bool") (u := .type "bool") (by rfl) N.bool (by decide +kernel) rfl) pa_nil))))
        (pw_or1 (pt_not (pt_val (pe_callB call_isi (by rfl) W.isi (by decide +kernel) (pa_cons (pv 0) (pa_cons (pe_bltn (v := .ty "int") (u := .type "int") (by rfl) B.int (by decide +kernel) rfl) pa_nil)))))))) (pss_one (ps_ret pe_bl)) pss_nil)
      (pss_one (ps_ret (pe_chain op_le op_le (pe_un un_neg (pe_glob (v := .int LG) (by rfl) hL ⟨_, rfl⟩)) (pv 0) (pe_glob (v := .int LG) (by rfl) hL ⟨_, rfl⟩)))), ?_⟩
    have ty := Dp.ty hd
    refine ⟨_, rfl, _, _, _, _, isBoolD d, rfl, .ty "bool", ty, kit_bool d, _, rfl, ?_⟩
    cases d with
    | bool b => exact iteT (iteT q)
    | int i =>
      cases hd
      refine iteF ?_
      refine ⟨_, rfl, _, _, _, _, true, rfl, .ty "int", ty, kit_int (.int i), _, rfl, iteF ?_⟩
      refine ⟨_, rfl, _, rfl, _, _, rfl, rfl, _, rfl, ?_⟩
      have q : Q (.bl (nuB i)) H := q
      by_cases h1 : -LG ≤ i
      · rw [decide_eq_true h1]
        refine iteT ⟨_, _, rfl, rfl, ?_⟩
        have e : decide (i ≤ LG) = nuB i := by
          unfold nuB
          rw [decide_eq_true h1, Bool.true_and]
        rw [← e] at q
        exact q
      · rw [decide_eq_false h1]
        have e : nuB i = false := by
          unfold nuB
          rw [decide_eq_false h1, Bool.false_and]
        rw [e] at q
        exact iteF q
    | none => exact iteF ⟨_, rfl, _, _, _, _, false, rfl, .ty "int", ty, kit_int .none, _, rfl, iteT q⟩
    | str z => exact iteF ⟨_, rfl, _, _, _, _, false, rfl, .ty "int", ty, kit_int (.str z), _, rfl, iteT q⟩
    | list z => exact iteF ⟨_, rfl, _, _, _, _, false, rfl, .ty "int", ty, kit_int (.list z), _, rfl, iteT q⟩
    | tuple z => exact iteF ⟨_, rfl, _, _, _, _, false, rfl, .ty "int", ty, kit_int (.tuple z), _, rfl, iteT q⟩
    | dict z => exact iteF ⟨_, rfl, _, _, _, _, false, rfl, .ty "int", ty, kit_int (.dict z), _, rfl, iteT q⟩
theorem ok_numWD {f : Addr} {fd : FuncData} (F : Fun K "is_number_within" "is_number_within" sIsNumW f fd) (J : Cd P w K mg base 1 "is_number" ["value"] (spNumD K)) : FnOk P w K mg base CX0 2 f fd ["value", "least", "most"] (spNumWD K) := by
  obtain ⟨j, dj, G, gm, gk, gb⟩ := J.ex
  refine F.ok scIsNumW (fun vs H Q E h => ?_) (fun cdv A outer s H vs Q E hr h => ?_)
  · obtain ⟨v, d, a, b, rfl, _⟩ := h
    rfl
  · obtain ⟨v, d, a, b, rfl, hd, q⟩ := h
    refine ⟨_, pss_one (ps_ret (pe_and (pe_call G hr (by rfl) gm gk gb .nil pass0 (pa_cons (pv 0) pa_nil)) (pe_one (pe_chain op_le op_le (pv 1) (pv 0) (pv 2))))), ?_⟩
    refine ⟨_, rfl, v, d, rfl, hd, _, rfl, ?_⟩
    cases d with
    | int i =>
      cases hd
      have q : Q (.bl (nwB i a b)) H := q
      unfold nwB at q
      show (if nuB i = true then _ else _)
      cases e : nuB i with
      | false =>
        rw [e, Bool.false_and] at q
        exact iteF q
      | true =>
        rw [e, Bool.true_and] at q
        refine iteT ⟨_, rfl, _, rfl, _, _, rfl, rfl, _, rfl, ?_⟩
        by_cases h1 : a ≤ i
        · rw [decide_eq_true h1] at q ⊢
          rw [Bool.true_and] at q
          exact iteT ⟨_, rfl, _, _, rfl, rfl, q⟩
        · rw [decide_eq_false h1] at q ⊢
          rw [Bool.false_and] at q
          exact iteF q
    | none => exact iteF q
    | bool b => exact iteF q
    | str z => exact iteF q
    | list z => exact iteF q
    | tuple z => exact iteF q
    | dict z => exact iteF q
theorem noStr_of {H : Hp} {v : V} {d : PyData} (h : Dp K H v d) (n : isStrD d = false) : NoStr K H v := ⟨_, Dp.ty h, by rw [← n]; exact kit_str d⟩
theorem sg_dp {H : Hp} {v : V} {d : PyData} {Q : VK} (h : Dp K H v d) (sh : SeqAt.shaped d = true) (small : ∀ z, d = .str z → z.length ≤ 100000) (q : Q (.bl (sgD d)) H) : spJudge sgB K [v] H Q E0 := by
  cases d with
  | str z =>
    cases h
    exact ⟨_, rfl, .inl ⟨z, rfl, small z rfl, q⟩⟩
  | none => exact ⟨_, rfl, .inr ⟨noStr_of h rfl, q⟩⟩
  | bool b => exact ⟨_, rfl, .inr ⟨noStr_of h rfl, q⟩⟩
  | int b => exact ⟨_, rfl, .inr ⟨noStr_of h rfl, q⟩⟩
  | list b => exact ⟨_, rfl, .inr ⟨noStr_of h rfl, q⟩⟩
  | tuple b => exact ⟨_, rfl, .inr ⟨noStr_of h rfl, q⟩⟩
  | dict b => exact ⟨_, rfl, .inr ⟨noStr_of h rfl, q⟩⟩
end
end Mk

set_option Elab.async false
set_option linter.all false
set_option maxRecDepth 100000
set_option maxHeartbeats 1000000
/-! is a value a change -/
namespace Mk
open PySem PySem.Spec L2 PyProof.Rows

theorem dpall2 {K : PySem.W.Frag} {H : Hp} : ∀ {xs : List V} {ds : List PyData}, DpAll K H xs ds → xs.length = ds.length
  | _, _, .nil => rfl
  | _, _, .cons _ t => by rw [List.length_cons, List.length_cons, dpall2 t]
theorem in23 (n : Nat) : inV (V.int n) [V.int 2, V.int 3] = decide (n = 2 ∨ n = 3) := by
  rw [Bool.eq_iff_iff, decide_eq_true_iff]
  simp [inV, eqV]
  omega
section
variable {P : Program} {w : World} {K : PySem.W.Frag} {mg : Str → Option Value} {base : Heap}
theorem scIsCh : FnScope ["value", "signs"] ["value", "signs"] (defScope sIsCh) := ⟨rfl, rfl, rfl, by decide +kernel, rfl, by decide +kernel, by decide +kernel⟩
theorem ok_isCh {f : Addr} {fd : FuncData} (F : Fun K "_is_change" "_is_change" sIsCh f fd) (B : Bn mg) (W : Wn mg) (O : On mg) (J : Cd P w K mg base 2 "is_number_within" ["value", "least", "most"] (spNumWD K)) (J2 : Cd P w K mg base 1 "is_sign" ["value"] (spJudge sgB K)) : FnOk P w K mg base CX0 3 f fd ["value", "signs"] (spIsCh K) := by
  obtain ⟨j, dj, G, gm, gk, gb⟩ := J.ex
  obtain ⟨e, de, Ge, em, ek, eb⟩ := J2.ex
  refine F.ok scIsCh (fun vs H Q E h => ?_) (fun cdv A outer s H vs Q E hr h => ?_)
  · obtain ⟨v, d, L, sg, rfl, _⟩ := h
    rfl
  · obtain ⟨v, d, L, sg, rfl, hd, sh, hL, lg, small, q⟩ := h
    have h64 : A.units + 3 + 64 < cLine := by
      have h2 : A.units + 3 + 16 * 2 + 200 < cLine := hr.un
      omega
    have r1 : Room 1 _ := hr.mono (by decide)
    refine ⟨_, pss_cons (ps_if (PW.pt (pw_or (pt_not (pt_val (pe_callB call_isi (by rfl) W.isi (by decide +kernel) (pa_cons (pv 0) (pa_cons (pe_bltn (v := .ty "tuple") (u := .type "tuple") (by rfl) O.tuple (by decide +kernel) rfl) pa_nil)))))
        (pw_or1 (pt_cmpR op_notIn_seq (pe_callB call_len_seq (by rfl) B.len PySem.boot_len (pa_cons (pv 0) pa_nil)) (pe_tup (pa_cons pe_int (pa_cons pe_int pa_nil))) (by rfl))))) (pss_one (ps_ret pe_bl)) pss_nil)
      (pss_cons (ps_if (pt_cmpR (op_eqD h64) (pe_ix ix_tup (pv 0) pe_int (fun _ _ => rfl)) pe_str (nomark _)) (pss_one (ps_ret (pe_and (pe_cmpR op_eq (pe_callB call_len_seq (by rfl) B.len PySem.boot_len (pa_cons (pv 0) pa_nil)) pe_int (nomark _))
          (pe_and (pe_call G hr (by rfl) gm gk gb .nil pass0 (pa_cons (pe_ix ix_tup (pv 0) pe_int (fun _ _ => rfl)) (pa_cons pe_int (pa_cons (pe_callB call_len_seq (by rfl) B.len PySem.boot_len (pa_cons (pv 1) pa_nil)) pa_nil)))) (pe_one (pe_call Ge r1 (by rfl) em ek eb .nil pass0 (pa_cons (pe_ix ix_tup (pv 0) pe_int (fun _ _ => rfl)) pa_nil))))))) pss_nil)
      (pss_cons (ps_if (pt_not (pt_val (pe_call G hr (by rfl) gm gk gb .nil pass0 (pa_cons (pe_ix ix_tup (pv 0) pe_int (fun _ _ => rfl)) (pa_cons pe_int (pa_cons (pe_op op_sub (pe_callB call_len_seq (by rfl) B.len PySem.boot_len (pa_cons (pv 1) pa_nil)) pe_int) pa_nil)))))) (pss_one (ps_ret pe_bl)) pss_nil)
      (pss_cons (ps_if (pt_cmpR (op_eqD h64) (pe_ix ix_tup (pv 0) pe_int (fun _ _ => rfl)) pe_str (nomark _)) (pss_one (ps_ret (pe_cmpR op_eq (pe_callB call_len_seq (by rfl) B.len PySem.boot_len (pa_cons (pv 0) pa_nil)) pe_int (nomark _)))) pss_nil)
      (pss_one (ps_ret (pe_and (pe_cmpR (op_eqD h64) (pe_ix ix_tup (pv 0) pe_int (fun _ _ => rfl)) pe_str (nomark _)) (pe_and (pe_cmpR op_eq (pe_callB call_len_seq (by rfl) B.len PySem.boot_len (pa_cons (pv 0) pa_nil)) pe_int (nomark _))
          (pe_and (pe_call Ge r1 (by rfl) em ek eb .nil pass0 (pa_cons (pe_ix ix_tup (pv 0) pe_int (fun _ _ => rfl)) pa_nil)) (pe_one (pe_cmpR op_ne (pe_ix ix_tup (pv 0) pe_int (fun _ _ => rfl)) (pe_ix ix_list (pv 1) (pe_ix ix_tup (pv 0) pe_int (fun _ _ => rfl)) (fun _ _ => rfl)) (nomark _))))))))))), ?_⟩
    have n2 : 2 ≤ sizeLine := by decide
    refine ⟨_, rfl, _, _, _, _, isTup d, rfl, .ty "tuple", Dp.ty hd, kit_tup d, _, rfl, ?_⟩
    cases d with
    | none => exact iteT (iteT (q _ fun _ _ e => e))
    | bool _ => exact iteT (iteT (q _ fun _ _ e => e))
    | int _ => exact iteT (iteT (q _ fun _ _ e => e))
    | str _ => exact iteT (iteT (q _ fun _ _ e => e))
    | list _ => exact iteT (iteT (q _ fun _ _ e => e))
    | dict _ => exact iteT (iteT (q _ fun _ _ e => e))
    | tuple ds =>
      cases hd with
      | @tup a xs _ ht hall =>
      have lx := dpall2 hall
      have sh := sh ds rfl
      refine iteF ⟨_, rfl, a, xs, rfl, .inr ht, n2, fun p hp => ?_⟩
      have s1 := Same.new (o := .tup [V.int 2, V.int 3]) hp
      have ep : (upd H p (.tup [V.int 2, V.int 3])) p = some (.tup [V.int 2, V.int 3]) := upd_same
      have hL1 := s1 _ _ hL
      have ht1 : SqT K (upd H p (.tup [V.int 2, V.int 3])) a xs := ht.imp (fun r => r.imp (s1 _ _) fun ⟨o, e⟩ => ⟨o, s1 _ _ e⟩) id
      have hall1 := DpAll.keep s1 hall
      have q1 : Q (.bl (chB (.tuple ds) sg)) (upd H p (.tup [V.int 2, V.int 3])) := q _ s1
      generalize upd H p (.tup [V.int 2, V.int 3]) = H1 at ep hL1 ht1 hall1 q1 ⊢
      refine ⟨p, _, rfl, .inr (SqT.of ep), rfl, rfl, _, rfl, ?_⟩
      show (if (!inV (V.int (xs.length : Nat)) [V.int 2, V.int 3]) = true then _ else _)
      rw [in23]
      -- the number of parts
      cases hall1 with
      | nil => exact iteT q1
      | @cons vk vs k ks hk t1 =>
      cases t1 with
      | nil => exact iteT q1
      | @cons va vs a' ks ha t2 =>
      have shk := sh k List.mem_cons_self
      have stS : ∀ z : Str, PyData.strOk z = true → SeqAt.shaped (.str z) = true := fun z h => by simp [SeqAt.shaped, PyData.canLay0, PyData.depth, h]
      have sP := stS "put" (by decide +kernel)
      have sO := stS "out" (by decide +kernel)
      have sW := stS "swap" (by decide +kernel)
      cases t2 with
      | nil =>
        have q1 : Q (.bl (!eqS k "put" && numD a' 0 ((sg.length : Int) - 1) && eqS k "out")) H1 := q1
        refine iteF ?_
        refine ⟨_, rfl, a, _, _, _, rfl, rfl, ht1, atI_nat (j := 0) rfl, k, .str "put", hk, .str _, shk, sP, _, rfl, ?_⟩
        rw [eqv_S]
        cases e1 : eqS k "put" with
        | true =>
          rw [e1] at q1
          refine iteT ⟨_, rfl, a, _, rfl, .inr ht1, rfl, _, rfl, iteF q1⟩
        | false =>
          rw [e1] at q1
          refine iteF ⟨_, rfl, a, _, _, _, rfl, rfl, ht1, atI_nat (j := 1) rfl, _, rfl, L, _, rfl, .inl (SqL.of hL1), _, _, rfl, rfl, va, a', 0, _, rfl, ha, _, rfl, ?_⟩
          rw [List.length_map]
          cases e2 : numD a' 0 ((sg.length : Int) - 1) with
          | false =>
            rw [e2] at q1
            exact iteT q1
          | true =>
            rw [e2] at q1
            refine iteF ⟨_, rfl, a, _, _, _, rfl, rfl, ht1, atI_nat (j := 0) rfl, k, .str "out", hk, .str _, shk, sO, _, rfl, ?_⟩
            rw [eqv_S]
            cases e3 : eqS k "out" with
            | true =>
              rw [e3] at q1
              refine iteT ⟨_, rfl, a, _, rfl, .inr ht1, rfl, ?_⟩
              exact q1
            | false =>
              rw [e3] at q1
              refine iteF ⟨_, rfl, a, _, _, _, rfl, rfl, ht1, atI_nat (j := 0) rfl, k, .str "swap", hk, .str _, shk, sW, _, rfl, ?_⟩
              rw [eqv_S]
              cases eqS k "swap" with
              | false => exact iteF q1
              | true => exact iteT ⟨_, rfl, a, _, rfl, .inr ht1, rfl, _, rfl, iteF q1⟩
      | @cons vz vs zz ks hz t3 =>
      cases t3 with
      | @cons v4 vs4 d4 ds4 h4 t4 =>
        have hn : decide ((vk :: va :: vz :: v4 :: vs4).length = 2 ∨ (vk :: va :: vz :: v4 :: vs4).length = 3) = false := decide_eq_false (by rw [List.length_cons, List.length_cons, List.length_cons, List.length_cons]; omega)
        rw [hn]
        exact iteT q1
      | nil =>
        have q1 : Q (.bl (if eqS k "put" then numD a' 0 sg.length && sgD zz else numD a' 0 ((sg.length : Int) - 1) && !eqS k "out" && eqS k "swap" && sgD zz && nsD a' zz sg)) H1 := q1
        have shz := sh zz (List.mem_cons_of_mem _ (List.mem_cons_of_mem _ List.mem_cons_self))
        have smz : ∀ z, zz = .str z → z.length ≤ 100000 := fun z e => small _ rfl z (by rw [← e]; exact List.mem_cons_of_mem _ (List.mem_cons_of_mem _ List.mem_cons_self))
        refine iteF ?_
        refine ⟨_, rfl, a, _, _, _, rfl, rfl, ht1, atI_nat (j := 0) rfl, k, .str "put", hk, .str _, shk, sP, _, rfl, ?_⟩
        rw [eqv_S]
        cases e1 : eqS k "put" with
        | true =>
          rw [e1] at q1
          have q1 : Q (.bl (numD a' 0 sg.length && sgD zz)) H1 := q1
          refine iteT ⟨_, rfl, a, _, rfl, .inr ht1, rfl, _, rfl, iteT ?_⟩
          refine ⟨_, rfl, a, _, _, _, rfl, rfl, ht1, atI_nat (j := 1) rfl, _, rfl, L, _, rfl, .inl (SqL.of hL1), va, a', 0, _, rfl, ha, _, rfl, ?_⟩
          rw [List.length_map]
          cases e2 : numD a' 0 sg.length with
          | false =>
            rw [e2] at q1
            exact iteF q1
          | true =>
            rw [e2] at q1
            exact iteT ⟨_, rfl, a, _, _, _, rfl, rfl, ht1, atI_nat (j := 2) rfl, sg_dp hz shz smz q1⟩
        | false =>
          rw [e1] at q1
          have q1 : Q (.bl (numD a' 0 ((sg.length : Int) - 1) && !eqS k "out" && eqS k "swap" && sgD zz && nsD a' zz sg)) H1 := q1
          refine iteF ⟨_, rfl, a, _, _, _, rfl, rfl, ht1, atI_nat (j := 1) rfl, _, rfl, L, _, rfl, .inl (SqL.of hL1), _, _, rfl, rfl, va, a', 0, _, rfl, ha, _, rfl, ?_⟩
          rw [List.length_map]
          cases e2 : numD a' 0 ((sg.length : Int) - 1) with
          | false =>
            rw [e2] at q1
            exact iteT q1
          | true =>
            rw [e2] at q1
            refine iteF ⟨_, rfl, a, _, _, _, rfl, rfl, ht1, atI_nat (j := 0) rfl, k, .str "out", hk, .str _, shk, sO, _, rfl, ?_⟩
            rw [eqv_S]
            cases e3 : eqS k "out" with
            | true =>
              rw [e3] at q1
              exact iteT ⟨_, rfl, a, _, rfl, .inr ht1, rfl, q1⟩
            | false =>
              rw [e3] at q1
              refine iteF ⟨_, rfl, a, _, _, _, rfl, rfl, ht1, atI_nat (j := 0) rfl, k, .str "swap", hk, .str _, shk, sW, _, rfl, ?_⟩
              rw [eqv_S]
              cases e4 : eqS k "swap" with
              | false =>
                rw [e4] at q1
                exact iteF q1
              | true =>
                rw [e4] at q1
                refine iteT ⟨_, rfl, a, _, rfl, .inr ht1, rfl, _, rfl, iteT ?_⟩
                refine ⟨_, rfl, a, _, _, _, rfl, rfl, ht1, atI_nat (j := 2) rfl, ?_⟩
                dsimp only [tNil]
                refine sg_dp hz shz smz ?_
                refine ⟨_, rfl, ?_⟩
                cases e5 : sgD zz with
                | false =>
                  rw [e5] at q1
                  exact iteF q1
                | true =>
                  rw [e5] at q1
                  have q1 : Q (.bl (nsD a' zz sg)) H1 := q1
                  refine iteT ?_
                  -- both are what they should be
                  cases a' with
                  | int i =>
                    cases zz with
                    | str z =>
                      cases ha
                      cases hz
                      have e2 : nwB i 0 ((sg.length : Int) - 1) = true := e2
                      unfold nwB at e2
                      simp only [Bool.and_eq_true, decide_eq_true_eq] at e2
                      have hi : i.toNat < sg.length := by omega
                      refine ⟨_, rfl, a, _, _, _, rfl, rfl, ht1, atI_nat (j := 2) rfl, _, rfl, _, rfl, a, _, _, _, rfl, rfl, ht1, atI_nat (j := 1) rfl, L, _, i, V.str sg[i.toNat], rfl, rfl, SqL.of hL1, at_ofA (j := i.toNat) (by omega) (by rw [List.getElem?_map, List.getElem?_eq_getElem hi]; rfl), rfl, ?_⟩
                      have eb : nsD (.int i) (.str z) sg = !decide (V.str z = V.str sg[i.toNat]) := by
                        show (!decide (sg[i.toNat]? = some z)) = _
                        rw [List.getElem?_eq_getElem hi]
                        have : (some sg[i.toNat] = some z) ↔ V.str z = V.str sg[i.toNat] := ⟨fun h => by injection h with h; rw [h], fun h => by injection h with h; rw [h]⟩
                        simp only [decide_eq_decide.mpr this]
                      rw [eb] at q1
                      exact q1
                    | _ => cases e5
                  | _ => cases e2
end
end Mk

set_option Elab.async false
set_option linter.all false
set_option maxRecDepth 100000
set_option maxHeartbeats 1000000
/-! xs[a:c] = ys -/
namespace Mk
open PySem PySem.Spec PyProof.Rows L2

def gSlc (te : TE) (tl th : TO) : TG := fun v σ H Q => te σ H fun o H1 => tl σ H1 fun l H2 => th σ H2 fun u H3 => ∃ (L b : Addr) (xs ys : List V) (a c : Int), o = .ref L ∧ v = .ref b ∧ l = some a ∧ u = some c ∧ H3 L = some (.lst xs) ∧ H3 b = some (.lst ys) ∧ L ≠ b ∧
  0 ≤ a ∧ a ≤ c ∧ c ≤ xs.length ∧ xs.length + ys.length ≤ sizeLine ∧ Q σ (upd H3 L (.lst (xs.take a.toNat ++ ys ++ xs.drop c.toNat)))
theorem pg_slc {X : Cx} {e lo hi : Expr} {te : TE} {tl th : TO} {p2 pos : Pos} (he : PE X e te) (hl : PO X (some lo) tl) (hu : PO X (some hi) th)
    (ha : ∀ v, assign (.Subscript e (.Slice (some lo) (some hi) none p2) pos) X.env v = (do
      let ov ← holding [v] (eval e X.env)
      let iv ← holding [v, ov] (eval (.Slice (some lo) (some hi) none p2) X.env)
      standAt pos
      holding [v, ov, iv] (setItem ov iv v)
      release [iv, v, ov] []) := by intro _; rfl) : PG X (.Subscript e (.Slice (some lo) (some hi) none p2) pos) (gSlc te tl th) := by
  refine ⟨fun pins s σ H v w Q I rv q => ?_⟩
  rw [ha]
  refine wpAny_bind (wpAny_holding (thn (he.run pins s σ H _ I q) fun ov s1 ⟨x, H1, I1, rx, q1⟩ => ?_))
  refine wpAny_bind (wpAny_holding (wpAny_Slice (thn (hl.run pins s1 σ H1 _ I1 q1) fun vl s2 ⟨l, H2, I2, pl, q2⟩ => thn (hu.run pins s2 σ H2 _ I2 q2) fun vu s3 ⟨u, H3, I3, pu, q3⟩ => ?_)))
  rw [evalPart_none]
  refine wpAny_pure ?_
  obtain ⟨L, b, xs, ys, a, c, rfl, rfl, rfl, rfl, hL, hb, ne, h0, h1, h2, h3, q4⟩ := q3
  have Iv : Inv X pins σ H3 { s3 with heap := s3.heap.push { cls := .type "slice", data := .fields #[vl, vu, .none] } } := I3.kept (t' := s3.toks) fun b ob z => Heap.get?_push_of_some _ z
  obtain rfl : ov = Value.ref L := rx
  obtain rfl : w = Value.ref b := rv
  have pa : RelV (.int a) vl := by
    cases pl
    exact ⟨_, rfl⟩
  have pc : RelV (.int c) vu := by
    cases pu
    exact ⟨_, rfl⟩
  refine wpAny_bind (wpAny_standAt (wpAny_bind (wpAny_holding ?_)))
  refine set_slice Iv hL hb ne (Heap.IsSliceOf.new ..) pa pc h0 h1 h2 h3 fun s4 I4 => ?_
  exact wpAny_release ⟨σ, _, I4, q4⟩
end Mk

set_option Elab.async false
set_option linter.all false
set_option maxRecDepth 100000
set_option maxHeartbeats 1000000
namespace Mk
open PySem PySem.Spec L2 PyProof.Rows

abbrev sMade : Stmt := top 0
abbrev sCopied : Stmt := top 0
/-- the record at L has these tables -/
structure Rec (H : Hp) (L a b c : Addr) (t1 t2 : PTab) (t3 : STab) : Prop where
  l : H L = some (.lst [.ref a, .ref b, .ref c])
  t : Tabs H a b c t1 t2 t3
theorem Rec.same {H H' : Hp} {L a b c : Addr} {t1 t2 : PTab} {t3 : STab} (r : Rec H L a b c t1 t2 t3) (s : Same H H') : Rec H' L a b c t1 t2 t3 := ⟨s _ _ r.l, r.t.same s⟩
def spMade (C : Addr) : Sp := fun vs H Q _ => ∃ (L a b c : Addr) (t1 t2 : PTab) (t3 : STab), vs = [.ref L] ∧ Rec H L a b c t1 t2 t3 ∧ RtT t1 t2 t3 ∧
  ∀ H' y u1 u2 u3, Same H H' → H y = none → PrAt C H' y u1 u2 u3 → u1.Perm t1 → u2.Perm t2 → u3.Perm t3 → Srt u1 u2 u3 → Q (.ref y) H'
def spCopied : Sp := fun vs H Q _ => ∃ (L a b c : Addr) (t1 t2 : PTab) (t3 : STab), vs = [.ref L] ∧ Rec H L a b c t1 t2 t3 ∧ (t1.map (·.1)).Nodup ∧ (t2.map (·.1)).Nodup ∧ (t3.map (·.1)).Nodup ∧
  ∀ H' M d e g, Same H H' → H M = none → Rec H' M d e g t1 t2 t3 → H d = none → H e = none → H g = none → d ≠ e → Q (.ref M) H'
theorem Paired.unmapR {α β γ : Type} {F : α → γ → Prop} {g : β → γ} : ∀ {l : List α} {m : List β}, Paired F l (m.map g) → Paired (fun a b => F a (g b)) l m
  | _, [], h => by cases h; exact .nil
  | _, _ :: _, h => by
    rw [List.map_cons] at h
    cases h with
    | cons a t => exact .cons a (Paired.unmapR t)
theorem Paired.memR {α β : Type} {F : α → β → Prop} : ∀ {l : List α} {m : List β}, Paired F l m → ∀ y ∈ m, ∃ x ∈ l, F x y
  | _, _, .nil, _, h => nomatch h
  | _, _, .cons a t, y, h => by
    rcases List.mem_cons.mp h with rfl | h
    · exact ⟨_, List.mem_cons_self, a⟩
    · obtain ⟨x, hx, f⟩ := Paired.memR t y h
      exact ⟨x, List.mem_cons_of_mem _ hx, f⟩
theorem paired3 {α β : Type} {F : α → β → Prop} {a b c : α} : ∀ {m : List β}, Paired F [a, b, c] m → ∃ d e g, m = [d, e, g] ∧ F a d ∧ F b e ∧ F c g
  | _, .cons x (.cons y (.cons z .nil)) => ⟨_, _, _, rfl, x, y, z⟩
theorem itms_T {K : PySem.W.Frag} {H : Hp} : ∀ {kvs : List (List Key × V)} {qs ts : List Addr}, IsKeys H kvs qs → Paired (fun (t : Addr) (p : V × V) => H t = some (.tup [p.1, p.2])) ts (psT qs kvs) → PrsT K H ts kvs
  | _, _, _, .nil, h => by
    cases h
    exact .nil
  | _, _, _, .cons (b := q) k r, h => by
    unfold psT at h
    rw [List.zip_cons_cons, List.map_cons] at h
    cases h with
    | cons a t => exact .cons ⟨q, k, SqT.of a⟩ (itms_T r t)
section
variable {X : Cx}
theorem atK0 {e : Expr} {T : String} {r : V → List V → Hp → VK → Prop} {to : TE} (K : PySem.W.Frag) (h : PE X e (tBM0 X.K T r to)) (hK : X.K = K := by rfl) : PE X e (tBM0 K T r to) := hK ▸ h
theorem call_dict2 (K : PySem.W.Frag) (hc : X.calm = true) (hu : X.A.units + 8 < cLine) (hK : X.K = K := by rfl) : CallR X (.type "dict") (fun xs H Q =>
    (∃ (a : Addr) (ps : List Addr) (kvs : List (Key × V)), xs = [.ref a] ∧ SqL K H a (ps.map V.ref) ∧ Paired (fun p kv => SqT K H p [kV kv.1, kv.2]) ps kvs ∧ ∀ p, H p = none → Q (.ref p) (upd H p (.dK (mergeK [] kvs)))) ∨
    (∃ (a : Addr) (ps : List Addr) (kvs : List (List Key × V)), xs = [.ref a] ∧ SqL K H a (ps.map V.ref) ∧ PrsT K H ps kvs ∧ (kvs.map (·.1)).Nodup ∧ ∀ p, H p = none → Q (.ref p) (upd H p (.dT kvs)))) := by
  subst hK
  exact CallR.or (call_dictP hc) (call_dictPT hc hu)
end
/-- a dict that stands for a table -/
def IsTb (o : HO) : Prop := (∃ t : PTab, o = .dK (kvsP t) ∧ (t.map (·.1)).Nodup) ∨ ∃ t : STab, o = .dT (kvsS t) ∧ (t.map (·.1)).Nodup
section
variable {P : Program} {w : World} {K : PySem.W.Frag} {mg : Str → Option Value} {base : Heap}
end
end Mk

set_option Elab.async false
set_option linter.all false
namespace Mk

/-! ### closed costs -/
section
variable {α : Type} {P : List α} {d d' c c' : α → α → Int}
structure IsCl (P : List α) (d c : α → α → Int) : Prop where
  zero : ∀ x ∈ P, c x x = 0
  tri : ∀ x ∈ P, ∀ y ∈ P, ∀ z ∈ P, c x y ≤ c x z + c z y
  le : ∀ x ∈ P, ∀ y ∈ P, c x y ≤ d x y
  max : ∀ F : α → Int, (∀ z ∈ P, ∀ y ∈ P, F y ≤ F z + d z y) → ∀ z ∈ P, ∀ y ∈ P, F y ≤ F z + c z y
theorem IsCl.below (h : IsCl P d c) (h' : IsCl P d c') {x y : α} (hx : x ∈ P) (hy : y ∈ P) : c x y ≤ c' x y := by
  have h2 := h'.max (fun y => c x y) (fun z hz y hy => by
    have h1 := h.tri x hx y hy z hz
    have h2 := h.le z hz y hy
    show c x y ≤ c x z + d z y
    omega) x hx y hy
  have h1 := h.zero x hx
  have h3 : c x y ≤ c x x + c' x y := h2
  omega
theorem IsCl.uniq (h : IsCl P d c) (h' : IsCl P d c') {x y : α} (hx : x ∈ P) (hy : y ∈ P) : c x y = c' x y := by
  have h1 := h.below h' hx hy
  have h2 := h'.below h hx hy
  omega
theorem IsCl.between (h : IsCl P d c) (a : ∀ x ∈ P, ∀ y ∈ P, c x y ≤ d' x y) (b : ∀ x ∈ P, ∀ y ∈ P, d' x y ≤ d x y) : IsCl P d' c :=
  ⟨h.zero, h.tri, a, fun F hF => h.max F fun z hz y hy => by
    have := hF z hz y hy
    have := b z hz y hy
    omega⟩
theorem IsCl.self (h : IsCl P d c) : IsCl P c c := h.between (fun _ _ _ _ => Int.le_refl _) h.le
theorem IsCl.congr (h : IsCl P d c) (e : ∀ x ∈ P, ∀ y ∈ P, c' x y = c x y) (f : ∀ x ∈ P, ∀ y ∈ P, d' x y = d x y) : IsCl P d' c' where
  zero := fun x hx => by rw [e x hx x hx]; exact h.zero x hx
  tri := fun x hx y hy z hz => by rw [e x hx y hy, e x hx z hz, e z hz y hy]; exact h.tri x hx y hy z hz
  le := fun x hx y hy => by rw [e x hx y hy, f x hx y hy]; exact h.le x hx y hy
  max := fun F hF z hz y hy => by
    rw [e z hz y hy]
    exact h.max F (fun z hz y hy => by rw [← f z hz y hy]; exact hF z hz y hy) z hz y hy
theorem IsCl.twice (h : IsCl P d c) : IsCl P (fun x y => d x y * 2) (fun x y => c x y * 2) where
  zero := fun x hx => by have := h.zero x hx; omega
  tri := fun x hx y hy z hz => by have := h.tri x hx y hy z hz; omega
  le := fun x hx y hy => by have := h.le x hx y hy; omega
  max := fun F hF z hz y hy => by
    have k := h.max (fun y => (F y - F z + 1) / 2) (fun u hu v hv => by
      have := hF u hu v hv
      show (F v - F z + 1) / 2 ≤ (F u - F z + 1) / 2 + d u v
      omega) z hz y hy
    have k2 : (F y - F z + 1) / 2 ≤ (F z - F z + 1) / 2 + c z y := k
    omega
theorem IsCl.ge [DecidableEq α] (h : IsCl P d c) {m : Int} (m0 : 0 ≤ m) (d0 : ∀ x ∈ P, ∀ y ∈ P, 0 ≤ d x y) (dm : ∀ x ∈ P, ∀ y ∈ P, x ≠ y → m ≤ d x y) {x y : α} (hx : x ∈ P) (hy : y ∈ P) (ne : x ≠ y) : m ≤ c x y := by
  have k := h.max (fun y => if y = x then 0 else m) (fun z hz y hy => by
    show (if y = x then 0 else m) ≤ (if z = x then 0 else m) + d z y
    have a := d0 z hz y hy
    by_cases e : y = x
    · rw [if_pos e]
      split <;> omega
    · rw [if_neg e]
      by_cases f : z = x
      · rw [if_pos f, f]
        have := dm x hx y hy (fun g => e g.symm)
        omega
      · rw [if_neg f]
        omega) x hx y hy
  have k2 : (if y = x then 0 else m) ≤ (if x = x then 0 else m) + c x y := k
  rw [if_neg (fun g => ne g.symm), if_pos rfl] at k2
  omega
end
/-! ### look and setT -/
section
variable {κ : Type} [DecidableEq κ]
theorem look_none {t : List (κ × Int)} {k : κ} (h : k ∉ t.map (·.1)) : t.find? (fun p => decide (p.1 = k)) = none := by
  rw [List.find?_eq_none]
  intro p hp e
  exact h (List.mem_map.mpr ⟨p, hp, of_decide_eq_true e⟩)
theorem look_setT (t : List (κ × Int)) (k k' : κ) (i : Int) : look (setT t k i) k' = if k' = k then i else look t k' := by
  by_cases h : k ∈ t.map (·.1)
  · unfold setT
    rw [if_pos h]
    induction t with
    | nil => cases h
    | cons a t ih =>
      unfold look at ih ⊢
      rw [List.map_cons]
      by_cases e : a.1 = k
      · rw [if_pos e]
        by_cases e2 : k' = k
        · subst e2
          rw [List.find?_cons_of_pos (by simpa using e), if_pos rfl]
          rfl
        · have n1 : ¬ decide (a.1 = k') = true := fun z => e2 ((of_decide_eq_true z).symm.trans e)
          rw [List.find?_cons_of_neg (by exact n1), List.find?_cons_of_neg (by exact n1), if_neg e2]
          by_cases m : k ∈ t.map (·.1)
          · rw [ih m, if_neg e2]
          · congr 2
            have : (t.map fun p => if p.1 = k then (p.1, i) else p) = t := by
              conv => rhs; rw [← List.map_id t]
              refine List.map_congr_left fun p hp => ?_
              rw [if_neg fun z => m (List.mem_map.mpr ⟨p, hp, z⟩)]
              rfl
            rw [this]
      · rw [if_neg e]
        have m : k ∈ t.map (·.1) := by
          rw [List.map_cons] at h
          rcases List.mem_cons.mp h with h | h
          · exact absurd h.symm e
          · exact h
        by_cases e3 : a.1 = k'
        · rw [List.find?_cons_of_pos (by simpa using e3), List.find?_cons_of_pos (by simpa using e3), if_neg (fun z => e (e3.trans z))]
        · rw [List.find?_cons_of_neg (by simpa using e3), List.find?_cons_of_neg (by simpa using e3)]
          exact ih m
  · unfold setT
    rw [if_neg h]
    unfold look
    rw [List.find?_append]
    by_cases e : k' = k
    · subst e
      rw [look_none h, if_pos rfl]
      simp
    · rw [if_neg e]
      cases t.find? (fun p => decide (p.1 = k')) with
      | some p => rfl
      | none =>
        have : ¬ k = k' := fun z => e z.symm
        simp [this]
theorem keys_setT (t : List (κ × Int)) (k k' : κ) (i : Int) : k' ∈ (setT t k i).map (·.1) ↔ k' ∈ t.map (·.1) ∨ k' = k := by
  by_cases h : k ∈ t.map (·.1)
  · rw [setT_in h]
    constructor
    · exact .inl
    · rintro (m | rfl)
      · exact m
      · exact h
  · rw [setT_out h, List.map_append, List.mem_append]
    simp
end
/-! ### the rounds of the program -/
section
variable {α : Type} [DecidableEq α]
abbrev Mt (α : Type) := List ((α × α) × Int)
def relx (D : Mt α) (v x y : α) : Mt α := setT D (x, y) (min (look D (x, y)) (look D (x, v) + look D (v, y)))
def fw3 (P : List α) (v x : α) (D : Mt α) : Mt α := P.foldl (fun D y => relx D v x y) D
def fw2 (P : List α) (v : α) (D : Mt α) : Mt α := P.foldl (fun D x => fw3 P v x D) D
def fw (P : List α) (D : Mt α) : Mt α := P.foldl (fun D v => fw2 P v D) D
def nw (D : Mt α) (v x y : α) : Int := min (look D (x, y)) (look D (x, v) + look D (v, y))
structure Mid (P : List α) (v : α) (D E : Mt α) : Prop where
  mid : ∀ a ∈ P, ∀ b ∈ P, look E (a, b) = look D (a, b) ∨ look E (a, b) = nw D v a b
  to : ∀ a ∈ P, look E (a, v) = look D (a, v)
  of : ∀ b ∈ P, look E (v, b) = look D (v, b)
theorem Mid.step {P : List α} {v x y : α} {D E : Mt α} (h : Mid P v D E) (hv : v ∈ P) (hx : x ∈ P) (hy : y ∈ P) (z : look D (v, v) = 0) : Mid P v D (relx E v x y) ∧ look (relx E v x y) (x, y) = nw D v x y ∧
    ∀ a b, look E (a, b) = nw D v a b → look (relx E v x y) (a, b) = nw D v a b := by
  have key : min (look E (x, y)) (look E (x, v) + look E (v, y)) = nw D v x y := by
    rw [h.to x hx, h.of y hy]
    rcases h.mid x hx y hy with e | e
    · rw [e]; rfl
    · rw [e]; unfold nw; omega
  have at_ : ∀ q, look (relx E v x y) q = if q = (x, y) then nw D v x y else look E q := fun q => by
    unfold relx
    rw [look_setT, key]
  refine ⟨⟨fun a ha b hb => ?_, fun a ha => ?_, fun b hb => ?_⟩, ?_, fun a b e => ?_⟩
  · rw [at_]
    by_cases q : (a, b) = (x, y)
    · cases q
      rw [if_pos rfl]
      exact .inr rfl
    · rw [if_neg q]
      exact h.mid a ha b hb
  · rw [at_]
    by_cases q : (a, v) = (x, y)
    · cases q
      rw [if_pos rfl]
      unfold nw
      omega
    · rw [if_neg q]
      exact h.to a ha
  · rw [at_]
    by_cases q : (v, b) = (x, y)
    · cases q
      rw [if_pos rfl]
      unfold nw
      omega
    · rw [if_neg q]
      exact h.of b hb
  · rw [at_, if_pos rfl]
  · rw [at_]
    by_cases q : (a, b) = (x, y)
    · cases q
      rw [if_pos rfl]
    · rw [if_neg q]
      exact e
theorem fw3_mid {P : List α} {v x : α} {D : Mt α} (hv : v ∈ P) (hx : x ∈ P) (z : look D (v, v) = 0) : ∀ (ys : List α) (E : Mt α), (∀ y ∈ ys, y ∈ P) → Mid P v D E →
    Mid P v D (ys.foldl (fun D y => relx D v x y) E) ∧ (∀ y ∈ ys, look (ys.foldl (fun D y => relx D v x y) E) (x, y) = nw D v x y) ∧ ∀ a b, look E (a, b) = nw D v a b → look (ys.foldl (fun D y => relx D v x y) E) (a, b) = nw D v a b
  | [], E, _, h => ⟨h, fun _ m => (nomatch m), fun _ _ e => e⟩
  | y :: ys, E, hs, h => by
    obtain ⟨s1, s2, s3⟩ := h.step hv hx (hs y List.mem_cons_self) z
    obtain ⟨r1, r2, r3⟩ := fw3_mid hv hx z ys _ (fun y hy => hs y (List.mem_cons_of_mem _ hy)) s1
    rw [List.foldl_cons]
    refine ⟨r1, fun u hu => ?_, fun a b e => r3 a b (s3 a b e)⟩
    rcases List.mem_cons.mp hu with rfl | hu
    · exact r3 _ _ s2
    · exact r2 u hu
theorem fw2_mid {P : List α} {v : α} {D : Mt α} (hv : v ∈ P) (z : look D (v, v) = 0) : ∀ (xs : List α) (E : Mt α), (∀ x ∈ xs, x ∈ P) → Mid P v D E →
    Mid P v D (xs.foldl (fun D x => fw3 P v x D) E) ∧ (∀ x ∈ xs, ∀ y ∈ P, look (xs.foldl (fun D x => fw3 P v x D) E) (x, y) = nw D v x y) ∧ ∀ a b, look E (a, b) = nw D v a b → look (xs.foldl (fun D x => fw3 P v x D) E) (a, b) = nw D v a b
  | [], E, _, h => ⟨h, fun _ m => (nomatch m), fun _ _ e => e⟩
  | x :: xs, E, hs, h => by
    obtain ⟨s1, s2, s3⟩ := fw3_mid hv (hs x List.mem_cons_self) z P E (fun _ h => h) h
    obtain ⟨r1, r2, r3⟩ := fw2_mid hv z xs _ (fun y hy => hs y (List.mem_cons_of_mem _ hy)) s1
    rw [List.foldl_cons]
    refine ⟨r1, fun u hu y hy => ?_, fun a b e => r3 a b (s3 a b e)⟩
    rcases List.mem_cons.mp hu with rfl | hu
    · exact r3 _ _ (s2 y hy)
    · exact r2 u hu y hy
theorem fw2_look {P : List α} {v x y : α} {D : Mt α} (hv : v ∈ P) (z : look D (v, v) = 0) (hx : x ∈ P) (hy : y ∈ P) : look (fw2 P v D) (x, y) = nw D v x y :=
  (fw2_mid hv z P D (fun _ h => h) ⟨fun _ _ _ _ => .inl rfl, fun _ _ => rfl, fun _ _ => rfl⟩).2.1 x hx y hy
structure Part (P S : List α) (d : α → α → Int) (D : Mt α) : Prop where
  zero : ∀ x ∈ P, look D (x, x) = 0
  ge : ∀ x ∈ P, ∀ y ∈ P, 0 ≤ look D (x, y)
  tri : ∀ x ∈ P, ∀ y ∈ P, ∀ z ∈ S, look D (x, y) ≤ look D (x, z) + look D (z, y)
  le : ∀ x ∈ P, ∀ y ∈ P, look D (x, y) ≤ d x y
  max : ∀ F : α → Int, (∀ z ∈ P, ∀ y ∈ P, F y ≤ F z + d z y) → ∀ z ∈ P, ∀ y ∈ P, F y ≤ F z + look D (z, y)
theorem Part.step {P S : List α} {v : α} {d : α → α → Int} {D : Mt α} (h : Part P S d D) (hv : v ∈ P) (hS : ∀ z ∈ S, z ∈ P) : Part P (v :: S) d (fw2 P v D) := by
  have at_ : ∀ {x y}, x ∈ P → y ∈ P → look (fw2 P v D) (x, y) = min (look D (x, y)) (look D (x, v) + look D (v, y)) := fun hx hy => fw2_look hv (h.zero v hv) hx hy
  refine ⟨fun x hx => ?_, fun x hx y hy => ?_, fun x hx y hy z hz => ?_, fun x hx y hy => ?_, fun F hF z hz y hy => ?_⟩
  · rw [at_ hx hx, h.zero x hx]
    have := h.ge x hx v hv
    have := h.ge v hv x hx
    omega
  · rw [at_ hx hy]
    have := h.ge x hx v hv
    have := h.ge v hv y hy
    have := h.ge x hx y hy
    omega
  · have v0 := h.zero v hv
    rcases List.mem_cons.mp hz with rfl | hz
    · rw [at_ hx hy, at_ hx hv, at_ hv hy]
      omega
    · have zp := hS z hz
      have t1 := h.tri x hx y hy z hz
      have t2 := h.tri x hx v hv z hz
      have t3 := h.tri v hv y hy z hz
      have t4 := h.tri v hv v hv z hz
      rw [at_ hx hy, at_ hx zp, at_ zp hy]
      omega
  · rw [at_ hx hy]
    have := h.le x hx y hy
    omega
  · rw [at_ hz hy]
    have a := h.max F hF z hz y hy
    have b := h.max F hF z hz v hv
    have c := h.max F hF v hv y hy
    omega
theorem fw_part {P : List α} {d : α → α → Int} : ∀ (vs S : List α) (D : Mt α), (∀ v ∈ vs, v ∈ P) → (∀ z ∈ S, z ∈ P) → Part P S d D → Part P (vs.reverse ++ S) d (vs.foldl (fun D v => fw2 P v D) D)
  | [], _, _, _, _, h => h
  | v :: vs, S, D, hv, hS, h => by
    have := fw_part vs (v :: S) _ (fun u hu => hv u (List.mem_cons_of_mem _ hu)) (fun z hz => by
      rcases List.mem_cons.mp hz with rfl | hz
      · exact hv _ List.mem_cons_self
      · exact hS z hz) (h.step (hv v List.mem_cons_self) hS)
    rw [List.foldl_cons, List.reverse_cons, List.append_assoc]
    exact this
theorem fw_cl {P : List α} {d : α → α → Int} {D : Mt α} (e : ∀ x ∈ P, ∀ y ∈ P, look D (x, y) = d x y) (z : ∀ x ∈ P, d x x = 0) (g : ∀ x ∈ P, ∀ y ∈ P, 0 ≤ d x y) : IsCl P d (fun x y => look (fw P D) (x, y)) := by
  have p0 : Part P [] d D := ⟨fun x hx => by rw [e x hx x hx]; exact z x hx, fun x hx y hy => by rw [e x hx y hy]; exact g x hx y hy, fun _ _ _ _ _ m => (nomatch m), fun x hx y hy => by rw [e x hx y hy]; exact Int.le_refl _, fun F hF z hz y hy => by rw [e z hz y hy]; exact hF z hz y hy⟩
  have p := fw_part P [] D (fun _ h => h) (fun _ m => (nomatch m)) p0
  exact ⟨p.zero, fun x hx y hy z hz => p.tri x hx y hy z (List.mem_append_left _ (List.mem_reverse.mpr hz)), p.le, p.max⟩
end
end Mk

set_option Elab.async false
set_option linter.all false
set_option maxRecDepth 100000
set_option maxHeartbeats 1000000
/-! the program's direct prices, as plain lists -/
namespace Mk
open PySem L2
section
variable {α : Type} [DecidableEq α]
theorem len_setT (t : List (α × Int)) (k : α) (i : Int) : (setT t k i).length ≤ t.length + 1 := by
  unfold setT
  split
  · rw [List.length_map]; omega
  · rw [List.length_append]; simp
def dget (t : List (α × Int)) (k : α) (d : Int) : Int := if k ∈ t.map (·.1) then look t k else d
end
theorem foldl_take {α β : Type} (f : β → α → β) (a : β) (l : List α) {i : Nat} (h : i < l.length) : (l.take (i + 1)).foldl f a = f ((l.take i).foldl f a) l[i] := by
  rw [List.take_add_one, List.getElem?_eq_getElem h, List.foldl_append]
  rfl
def dirS (t1 t2 : PTab) (t3 : STab) (one : Str) (D : STab) (other : Str) : STab := setT D (one, other) (dget t3 (one, other) (look t2 one + look t1 other))
def dirA (t1 t2 : PTab) (D : STab) (one : Str) : STab := setT (setT D (("" : Str), one) (look t1 one)) (one, ("" : Str)) (look t2 one)
def dirI (t1 t2 : PTab) (t3 : STab) (one : Str) (ys : List Str) (D : STab) : STab := ys.foldl (dirS t1 t2 t3 one) D
def dirO (t1 t2 : PTab) (t3 : STab) (ks : List Str) (D : STab) (one : Str) : STab := setT (dirI t1 t2 t3 one ks (dirA t1 t2 D one)) (one, one) 0
def dir0 : STab := [(("", ""), 0)]
def dirL (t1 t2 : PTab) (t3 : STab) (ks xs : List Str) : STab := xs.foldl (dirO t1 t2 t3 ks) dir0
def dir (t1 t2 : PTab) (t3 : STab) : STab := dirL t1 t2 t3 (t1.map (·.1)) (t1.map (·.1))
theorem dirI_len (t1 t2 : PTab) (t3 : STab) (one : Str) : ∀ (ys : List Str) (D : STab), (dirI t1 t2 t3 one ys D).length ≤ D.length + ys.length
  | [], D => by show D.length ≤ D.length + 0; omega
  | y :: ys, D => by
    have a := dirI_len t1 t2 t3 one ys (dirS t1 t2 t3 one D y)
    have b := len_setT D (one, y) (dget t3 (one, y) (look t2 one + look t1 y))
    show (dirI t1 t2 t3 one ys (dirS t1 t2 t3 one D y)).length ≤ _
    rw [List.length_cons]
    unfold dirS at a ⊢
    omega
theorem dirO_len (t1 t2 : PTab) (t3 : STab) (ks : List Str) (D : STab) (one : Str) : (dirO t1 t2 t3 ks D one).length ≤ D.length + ks.length + 3 := by
  unfold dirO
  have a := len_setT (dirI t1 t2 t3 one ks (dirA t1 t2 D one)) (one, one) 0
  have b := dirI_len t1 t2 t3 one ks (dirA t1 t2 D one)
  unfold dirA at a b ⊢
  have c := len_setT (setT D (("" : Str), one) (look t1 one)) (one, ("" : Str)) (look t2 one)
  have d := len_setT D (("" : Str), one) (look t1 one)
  omega
theorem dirL_len (t1 t2 : PTab) (t3 : STab) (ks : List Str) : ∀ (xs : List Str) (D : STab), (xs.foldl (dirO t1 t2 t3 ks) D).length ≤ D.length + xs.length * (ks.length + 3)
  | [], D => by show D.length ≤ _; omega
  | x :: xs, D => by
    have a := dirL_len t1 t2 t3 ks xs (dirO t1 t2 t3 ks D x)
    have b := dirO_len t1 t2 t3 ks D x
    rw [List.foldl_cons, List.length_cons, Nat.add_mul]
    omega
/-! what stands in it -/
/-- the direct price of a way -/
def dd (t1 t2 : PTab) (t3 : STab) (x y : Str) : Int :=
  if x = y then 0 else if x = "" then look t1 y else if y = "" then look t2 x else dget t3 (x, y) (look t2 x + look t1 y)
theorem dirI_look (t1 t2 : PTab) (t3 : STab) (one : Str) : ∀ (ys : List Str) (D : STab) (q : Str × Str), look (dirI t1 t2 t3 one ys D) q = if q.1 = one ∧ q.2 ∈ ys then dget t3 q (look t2 q.1 + look t1 q.2) else look D q
  | [], D, q => by
    show look D q = _
    rw [if_neg (by rintro ⟨_, h⟩; cases h)]
  | y :: ys, D, q => by
    show look (dirI t1 t2 t3 one ys (dirS t1 t2 t3 one D y)) q = _
    rw [dirI_look t1 t2 t3 one ys]
    unfold dirS
    rw [look_setT]
    by_cases h1 : q.1 = one ∧ q.2 ∈ ys
    · rw [if_pos h1, if_pos ⟨h1.1, List.mem_cons_of_mem _ h1.2⟩]
    · rw [if_neg h1]
      by_cases h2 : q = (one, y)
      · subst h2
        rw [if_pos rfl, if_pos ⟨rfl, List.mem_cons_self⟩]
      · rw [if_neg h2, if_neg]
        rintro ⟨e, m⟩
        rcases List.mem_cons.mp m with m | m
        · exact h2 (by rw [← e, ← m])
        · exact h1 ⟨e, m⟩
theorem dirI_keys (t1 t2 : PTab) (t3 : STab) (one : Str) : ∀ (ys : List Str) (D : STab) (q : Str × Str), q ∈ (dirI t1 t2 t3 one ys D).map (·.1) ↔ (q.1 = one ∧ q.2 ∈ ys) ∨ q ∈ D.map (·.1)
  | [], D, q => by
    show q ∈ D.map (·.1) ↔ _
    simp
  | y :: ys, D, q => by
    show q ∈ (dirI t1 t2 t3 one ys (dirS t1 t2 t3 one D y)).map (·.1) ↔ _
    rw [dirI_keys t1 t2 t3 one ys]
    unfold dirS
    rw [keys_setT, List.mem_cons]
    obtain ⟨a, b⟩ := q
    show (a = one ∧ b ∈ ys) ∨ (a, b) ∈ D.map (·.1) ∨ (a, b) = (one, y) ↔ (a = one ∧ (b = y ∨ b ∈ ys)) ∨ (a, b) ∈ D.map (·.1)
    rw [Prod.mk.injEq]
    constructor
    · rintro (⟨e, m⟩ | m | ⟨e, m⟩)
      · exact .inl ⟨e, .inr m⟩
      · exact .inr m
      · exact .inl ⟨e, .inl m⟩
    · rintro (⟨e, m | m⟩ | m)
      · exact .inr (.inr ⟨e, m⟩)
      · exact .inl ⟨e, m⟩
      · exact .inr (.inl m)
theorem dirO_look (t1 t2 : PTab) (t3 : STab) (ks : List Str) (D : STab) (one : Str) (n1 : one ≠ "") (n0 : ("" : Str) ∉ ks) (q : Str × Str) : look (dirO t1 t2 t3 ks D one) q =
    if q = (one, one) then 0 else if q.1 = one ∧ q.2 ∈ ks then dget t3 q (look t2 q.1 + look t1 q.2) else if q = (one, ("" : Str)) then look t2 one else if q = (("" : Str), one) then look t1 one else look D q := by
  unfold dirO dirA
  rw [look_setT, dirI_look, look_setT, look_setT]
theorem dirO_keys (t1 t2 : PTab) (t3 : STab) (ks : List Str) (D : STab) (one : Str) (q : Str × Str) : q ∈ (dirO t1 t2 t3 ks D one).map (·.1) ↔ q = (one, one) ∨ (q.1 = one ∧ q.2 ∈ ks) ∨ q = (one, ("" : Str)) ∨ q = (("" : Str), one) ∨ q ∈ D.map (·.1) := by
  unfold dirO dirA
  rw [keys_setT, dirI_keys, keys_setT, keys_setT]
  constructor
  · rintro ((h | (h | h) | h) | h)
    · exact .inr (.inl h)
    · exact .inr (.inr (.inr (.inr h)))
    · exact .inr (.inr (.inr (.inl h)))
    · exact .inr (.inr (.inl h))
    · exact .inl h
  · rintro (h | h | h | h | h)
    · exact .inr h
    · exact .inl (.inl h)
    · exact .inl (.inr (.inr h))
    · exact .inl (.inr (.inl (.inr h)))
    · exact .inl (.inr (.inl (.inl h)))
/-- where the walk has been -/
structure DirAt (t1 t2 : PTab) (t3 : STab) (ks xs : List Str) (D : STab) : Prop where
  keys : ∀ x y : Str, (x, y) ∈ D.map (·.1) ↔ (x = "" ∧ y = "") ∨ (x = "" ∧ y ∈ xs) ∨ (x ∈ xs ∧ (y = "" ∨ y ∈ ks))
  val : ∀ x y : Str, (x, y) ∈ D.map (·.1) → look D (x, y) = dd t1 t2 t3 x y
theorem DirAt.next {t1 t2 : PTab} {t3 : STab} {ks xs : List Str} {D : STab} (n0 : ("" : Str) ∉ ks) (h : DirAt t1 t2 t3 ks xs D) {one : Str} (m : one ∈ ks) : DirAt t1 t2 t3 ks (xs ++ [one]) (dirO t1 t2 t3 ks D one) := by
  have n1 : one ≠ "" := fun e => n0 (e ▸ m)
  refine ⟨fun x y => ?_, fun x y hq => ?_⟩
  · rw [dirO_keys, h.keys]
    simp only [Prod.mk.injEq, List.mem_append, List.mem_singleton]
    constructor
    · rintro (⟨rfl, rfl⟩ | ⟨rfl, b⟩ | ⟨rfl, rfl⟩ | ⟨rfl, rfl⟩ | a | ⟨a, b⟩ | ⟨a, b⟩)
      · exact .inr (.inr ⟨.inr rfl, .inr m⟩)
      · exact .inr (.inr ⟨.inr rfl, .inr b⟩)
      · exact .inr (.inr ⟨.inr rfl, .inl rfl⟩)
      · exact .inr (.inl ⟨rfl, .inr rfl⟩)
      · exact .inl a
      · exact .inr (.inl ⟨a, .inl b⟩)
      · exact .inr (.inr ⟨.inl a, b⟩)
    · rintro (a | ⟨a, b | b⟩ | ⟨a | a, b⟩)
      · exact .inr (.inr (.inr (.inr (.inl a))))
      · exact .inr (.inr (.inr (.inr (.inr (.inl ⟨a, b⟩)))))
      · exact .inr (.inr (.inr (.inl ⟨a, b⟩)))
      · exact .inr (.inr (.inr (.inr (.inr (.inr ⟨a, b⟩)))))
      · rcases b with b | b
        · exact .inr (.inr (.inl ⟨a, b⟩))
        · exact .inr (.inl ⟨a, b⟩)
  · rw [dirO_look t1 t2 t3 ks D one n1 n0]
    unfold dd
    by_cases c1 : (x, y) = (one, one)
    · rw [if_pos c1, if_pos (by cases c1; rfl)]
    · rw [if_neg c1]
      by_cases c2 : x = one ∧ y ∈ ks
      · have xy : x ≠ y := fun e => c1 (by rw [← e, c2.1])
        have y0 : y ≠ "" := fun e => n0 (e ▸ c2.2)
        rw [if_pos c2, if_neg xy, if_neg (by rw [c2.1]; exact n1), if_neg y0]
      · rw [if_neg c2]
        by_cases c3 : (x, y) = (one, ("" : Str))
        · cases c3
          rw [if_pos rfl, if_neg n1, if_neg n1, if_pos rfl]
        · rw [if_neg c3]
          by_cases c4 : (x, y) = (("" : Str), one)
          · cases c4
            rw [if_pos rfl, if_neg n1.symm, if_pos rfl]
          · rw [if_neg c4]
            rw [dirO_keys] at hq
            have hq' : (x, y) ∈ D.map (·.1) := by
              rcases hq with a | a | a | a | a
              · exact absurd a c1
              · exact absurd a c2
              · exact absurd a c3
              · exact absurd a c4
              · exact a
            rw [h.val x y hq']
            rfl
theorem dirL_at {t1 t2 : PTab} {t3 : STab} {ks : List Str} (n0 : ("" : Str) ∉ ks) : ∀ (xs ys : List Str) (D : STab), (∀ x ∈ xs, x ∈ ks) → DirAt t1 t2 t3 ks ys D → DirAt t1 t2 t3 ks (ys ++ xs) (xs.foldl (dirO t1 t2 t3 ks) D)
  | [], ys, D, _, h => by rw [List.append_nil]; exact h
  | x :: xs, ys, D, s, h => by
    have := dirL_at n0 xs (ys ++ [x]) _ (fun u hu => s u (List.mem_cons_of_mem _ hu)) (h.next n0 (s x List.mem_cons_self))
    rw [List.append_assoc] at this
    exact this
theorem dir_at {t1 t2 : PTab} {t3 : STab} (n0 : ("" : Str) ∉ t1.map (·.1)) : DirAt t1 t2 t3 (t1.map (·.1)) (t1.map (·.1)) (dir t1 t2 t3) := by
  refine dirL_at n0 _ [] dir0 (fun _ h => h) ⟨fun x y => ?_, fun x y h => ?_⟩
  · unfold dir0
    simp
  · unfold dir0 at h
    simp only [List.map_cons, List.map_nil, List.mem_singleton, Prod.mk.injEq] at h
    obtain ⟨rfl, rfl⟩ := h
    unfold dd
    rw [if_pos rfl]
    rfl
/-- the places of a way -/
abbrev plc (t1 : PTab) : List Str := "" :: t1.map (·.1)
theorem dir_keys {t1 t2 : PTab} {t3 : STab} (n0 : ("" : Str) ∉ t1.map (·.1)) {x y : Str} : (x, y) ∈ (dir t1 t2 t3).map (·.1) ↔ x ∈ plc t1 ∧ y ∈ plc t1 := by
  rw [(dir_at n0).keys, List.mem_cons, List.mem_cons]
  constructor
  · rintro (⟨a, b⟩ | ⟨a, b⟩ | ⟨a, b⟩)
    · exact ⟨.inl a, .inl b⟩
    · exact ⟨.inl a, .inr b⟩
    · exact ⟨.inr a, b⟩
  · rintro ⟨a | a, b | b⟩
    · exact .inl ⟨a, b⟩
    · exact .inr (.inl ⟨a, b⟩)
    · exact .inr (.inr ⟨a, .inl b⟩)
    · exact .inr (.inr ⟨a, .inr b⟩)
theorem dir_val {t1 t2 : PTab} {t3 : STab} (n0 : ("" : Str) ∉ t1.map (·.1)) {x y : Str} (hx : x ∈ plc t1) (hy : y ∈ plc t1) : look (dir t1 t2 t3) (x, y) = dd t1 t2 t3 x y := (dir_at n0).val x y ((dir_keys n0).mpr ⟨hx, hy⟩)
/-! the least costs -/
def lc (t1 t2 : PTab) (t3 : STab) : STab := fw (plc t1) (dir t1 t2 t3)
theorem relx_keys {D : STab} {v x y : Str} (h : (x, y) ∈ D.map (·.1)) : (relx D v x y).map (·.1) = D.map (·.1) := setT_in h
theorem fw3_keys {v x : Str} : ∀ (ys : List Str) (D : STab), (∀ y ∈ ys, (x, y) ∈ D.map (·.1)) → (ys.foldl (fun D y => relx D v x y) D).map (·.1) = D.map (·.1)
  | [], D, _ => rfl
  | y :: ys, D, h => by
    have e := relx_keys (v := v) (h y List.mem_cons_self)
    rw [List.foldl_cons, fw3_keys ys _ (fun u hu => by rw [e]; exact h u (List.mem_cons_of_mem _ hu)), e]
theorem fw2_keys {P : List Str} {v : Str} : ∀ (xs : List Str) (D : STab), (∀ x ∈ xs, ∀ y ∈ P, (x, y) ∈ D.map (·.1)) → (xs.foldl (fun D x => fw3 P v x D) D).map (·.1) = D.map (·.1)
  | [], D, _ => rfl
  | x :: xs, D, h => by
    have e : (fw3 P v x D).map (·.1) = D.map (·.1) := fw3_keys P D (h x List.mem_cons_self)
    rw [List.foldl_cons, fw2_keys xs _ (fun u hu y hy => by rw [e]; exact h u (List.mem_cons_of_mem _ hu) y hy), e]
theorem fw_keys {P : List Str} : ∀ (vs : List Str) (D : STab), (∀ x ∈ P, ∀ y ∈ P, (x, y) ∈ D.map (·.1)) → (vs.foldl (fun D v => fw2 P v D) D).map (·.1) = D.map (·.1)
  | [], D, _ => rfl
  | v :: vs, D, h => by
    have e : (fw2 P v D).map (·.1) = D.map (·.1) := fw2_keys (P := P) P D h
    rw [List.foldl_cons, fw_keys vs _ (fun x hx y hy => by rw [e]; exact h x hx y hy), e]
theorem lc_keys {t1 t2 : PTab} {t3 : STab} (n0 : ("" : Str) ∉ t1.map (·.1)) : (lc t1 t2 t3).map (·.1) = (dir t1 t2 t3).map (·.1) := fw_keys _ _ fun x hx y hy => (dir_keys n0).mpr ⟨hx, hy⟩
/-- what a way costs -/
def cc (t1 t2 : PTab) (t3 : STab) (x y : Str) : Int := look (lc t1 t2 t3) (x, y)
theorem cc_cl {t1 t2 : PTab} {t3 : STab} (n0 : ("" : Str) ∉ t1.map (·.1)) (g : ∀ x ∈ plc t1, ∀ y ∈ plc t1, 0 ≤ dd t1 t2 t3 x y) : IsCl (plc t1) (dd t1 t2 t3) (cc t1 t2 t3) :=
  fw_cl (fun x hx y hy => dir_val n0 hx hy) (fun x _ => by unfold dd; rw [if_pos rfl]) g
end Mk

set_option Elab.async false
set_option linter.all false
set_option maxRecDepth 100000
set_option maxHeartbeats 4000000
/-! a dict display whose keys are tuples -/
namespace Mk
open PySem PySem.Spec PyProof.Rows L2

abbrev Row3 := List Key × Addr × V
def allT (acc : List (List Key × V)) (ks : List Row3) : List (List Key × V) := ks.foldl (fun a k => L2.putK a k.1 k.2.2) acc
def tDispT (trs : List (TE × TE)) : TE := fun σ H Q => ∀ p, H p = none → tPairs trs σ (upd H p (.dT [])) fun ps H2 => H2 p = some (.dT []) ∧ ∃ ks : List Row3, ps = ks.map (fun k => (V.ref k.2.1, k.2.2)) ∧
  (∀ k ∈ ks, H2 k.2.1 = some (.tup (k.1.map kV))) ∧ ks.length ≤ 15 ∧ Q (.ref p) (upd H2 p (.dT (allT [] ks)))
theorem allT_len : ∀ (ks : List Row3) (acc : List (List Key × V)), (allT acc ks).length ≤ acc.length + ks.length
  | [], acc => by show acc.length ≤ acc.length + 0; omega
  | k :: ks, acc => by
    have a := allT_len ks (L2.putK acc k.1 k.2.2)
    have b := length_putK acc k.1 k.2.2
    show (allT (L2.putK acc k.1 k.2.2) ks).length ≤ _
    rw [List.length_cons]
    omega
theorem kt_all {H : Hp} : ∀ {ks : List Row3} {ws : List (Value × Value)} {acc : List (List Key × V)} {xs : List (List Key × Addr × Value)}, KT H acc xs → VV (ks.map fun k => (V.ref k.2.1, k.2.2)) ws → (∀ k ∈ ks, H k.2.1 = some (.tup (k.1.map kV))) →
    ∃ ps : List (List Key × Addr × Value), KT H (allT acc ks) (storedAllH xs ps) ∧ ps.length = ks.length ∧ ws = ps.map (fun p => (Value.ref p.2.1, p.2.2)) ∧ ∀ p ∈ ps, H p.2.1 = some (.tup (p.1.map kV))
  | [], ws, acc, xs, r, v, _ => by
    cases v
    exact ⟨[], r, rfl, rfl, fun _ m => (nomatch m)⟩
  | k :: ks, ws, acc, xs, r, v, h => by
    rw [List.map_cons] at v
    cases v with
    | @cons _ q _ ws hq t =>
      obtain ⟨a1, a2⟩ := hq
      have a1 : q.1 = Value.ref k.2.1 := a1
      obtain ⟨ps, e1, e2, e3, e4⟩ := kt_all (r.put k.1 (h k List.mem_cons_self) a2) t fun k' hk' => h k' (List.mem_cons_of_mem _ hk')
      refine ⟨(k.1, k.2.1, q.2) :: ps, e1, by rw [List.length_cons, e2, List.length_cons], ?_, fun p hp => ?_⟩
      · rw [List.map_cons, ← e3, ← a1]
      · rcases List.mem_cons.mp hp with rfl | hp
        · exact h k List.mem_cons_self
        · exact e4 p hp
theorem carries_all {P : Program} {w : World} {h : Heap} : ∀ {ps : List (List Key × Addr × Value)}, (∀ p ∈ ps, (tupleKind (mixKind P w)).is h p.1 p.2.1) → CarriesH (tupleKind (mixKind P w)) h (ps.map fun p => (Value.ref p.2.1, p.2.2)) ps
  | [], _ => True.intro
  | p :: ps, a => ⟨rfl, rfl, a p List.mem_cons_self, carries_all fun q hq => a q (List.mem_cons_of_mem _ hq)⟩
theorem pe_dispT {X : Cx} {pos : Pos} {keys : List (Option Expr)} {values : List Expr} {trs : List (TE × TE)} (hu : X.A.units + 1 < cLine) (h : PPs X pos keys values trs) (hall : keys.all (·.isSome) = true) (hl : keys.length = values.length) (h0 : keys ≠ [])
    (h15 : keys.length ≤ 15) : PE X (.Dict keys values pos) (tDispT trs) := by
  refine ⟨fun pins s σ H Q I q => ?_⟩
  have nn := I.hok.fresh (Nat.le_refl s.heap.objs.size)
  have I1 := I.laid (a := s.heap.objs.size) (o := .dT []) (t' := s.toks) (fun _ _ z => Heap.get?_push_of_some _ z) (Nat.le_refl _) (dt_empty s.heap I.big)
  have ln := pairTrees_length keys values X.env pos hall hl
  have ne : pairTrees keys values X.env pos ≠ [] := fun e => by
    rw [e] at ln
    exact h0 (List.length_eq_zero_iff.mp ln.symm)
  rw [arm_eval_Dict, zip_pairTrees keys values X.env pos hall hl, dictDisplay_pairs _ ne (by omega)]
  refine wpAny_bind (wpAny_standAt (wpAny_bind ?_))
  refine wpAny_subDictH (knd := tupleKind (mixKind X.prog X.w)) (show (tupleKind (mixKind X.prog X.w)).room X.A from Nat.lt_of_succ_lt hu) (by omega) ?_
  refine thn (h.run pins _ σ _ _ I1 (q _ nn)) fun ws s2 z => ?_
  obtain ⟨ps, H2, I2, rel, e, ks, rfl, hk, lk, q2⟩ := z
  obtain ⟨lo, hs, xs, rk, dd⟩ := dt_of I2.hok e
  cases rk
  obtain ⟨rs, k1, k2, rfl, k4⟩ := kt_all (H := H2) (acc := []) (xs := []) .nil rel hk
  refine ⟨rs, carries_all fun p hp => key_of I2.hok (k4 p hp), dd, fun h' tk dd' ext => wpAny_pure ⟨.ref s.heap.objs.size, _, ?_, rfl, q2⟩⟩
  have k1' := k1.keeps (H' := upd H2 s.heap.objs.size (.dT (allT [] ks))) fun c ys ec => by
    have n : c ≠ s.heap.objs.size := fun z => by
      rw [z, e] at ec
      cases ec
    rw [upd_ne n]
    exact ec
  have lz : (allT [] ks).length ≤ sizeLine := by
    have := allT_len ks []
    rw [List.length_nil] at this
    rw [sizeLine_eq]
    omega
  have ⟨o, es, ep, ho, h2, h3, h4, _, h5⟩ := dd'
  exact d_write I2 (by rw [e]; exact True.intro) ext ⟨o, ho⟩ ⟨lz, hs, _, k1', o, es, ep, ho, h2, h3, h4, h5⟩
end Mk

set_option Elab.async false
set_option linter.all false
set_option maxRecDepth 100000
set_option maxHeartbeats 1000000
/-! _direct_costs -/
namespace Mk
open PySem PySem.Spec L2 PyProof.Rows

/-- all but the dict at c stands, and at c the ways of D have their costs -/
structure Wy (H0 H1 : Hp) (c : Addr) (D : STab) : Prop where
  same : ∀ b o, b ≠ c → H0 b = some o → H1 b = some o
  out : H1 c = some (.dT (kvsS D))
theorem Wy.new {H0 H1 : Hp} {c t : Addr} {D : STab} {o : HO} (W : Wy H0 H1 c D) (ht : H1 t = none) : Wy H0 (upd H1 t o) c D := by
  refine ⟨fun b u n e => ?_, ?_⟩
  · have := W.same b u n e
    rw [upd_ne (ne_of_none this ht)]
    exact this
  · rw [upd_ne (ne_of_none W.out ht)]
    exact W.out
theorem Wy.get {H0 H1 : Hp} {c t : Addr} {D : STab} {x y : Str} (W : Wy H0 H1 c D) (ht : H1 t = none) (hk : (x, y) ∈ D.map (·.1)) : DGet (upd H1 t (.tup [.str x, .str y])) c (.ref t) (some (V.int (look D (x, y)))) :=
  .inr ⟨kvsS D, keyOf (x, y), t, .inl (W.new ht).out, rfl, upd_same, (valS hk).symm⟩
theorem Wy.put {H0 H1 : Hp} {c t : Addr} {D : STab} {x y : Str} {i : Int} (W : Wy H0 H1 c D) (ht : H1 t = none) (hl : D.length < 1000) : ∃ H4, DPut (upd H1 t (.tup [.str x, .str y])) c (.ref t) (.int i) H4 ∧ Wy H0 H4 c (setT D (x, y) i) := by
  have W2 := W.new (o := .tup [.str x, .str y]) ht
  refine ⟨_, .inr ⟨kvsS D, keyOf (x, y), t, W2.out, rfl, upd_same, ?_, rfl⟩, fun b u n e => ?_, ?_⟩
  · rw [kvsS_len]
    exact Nat.lt_of_lt_of_le hl (by decide)
  · rw [upd_ne n]
    exact W2.same b u n e
  · rw [upd_same, putS_set]
theorem getP {H : Hp} {d : Addr} {t : PTab} {k : Str} (h : Rd H d (.dK (kvsP t))) (hk : k ∈ t.map (·.1)) : DGet H d (.str k) (some (V.int (look t k))) := .inl ⟨kvsP t, Sum.inr k, h, rfl, (valP hk).symm⟩
theorem dget_S (t : STab) (k : Str × Str) (z : Int) : (valV (kvsS t) (keyOf k)).getD (V.int z) = V.int (dget t k z) := by
  unfold dget
  by_cases m : k ∈ t.map (·.1)
  · rw [valS m, if_pos m]
    rfl
  · rw [noS m, if_neg m]
    rfl
def spDir : Sp := fun vs H Q _ => ∃ (p o s : Addr) (t1 t2 : PTab) (t3 : STab), vs = [.ref p, .ref o, .ref s] ∧ p ≠ o ∧ Tabs H p o s t1 t2 t3 ∧ (∀ k ∈ t1.map (·.1), k ∈ t2.map (·.1)) ∧ t1.length ≤ 5 ∧
  ∀ H' c, Same H H' → H c = none → H' c = some (.dT (kvsS (dir t1 t2 t3))) → Q (.ref c) H'
abbrev nDir : List Str := ["put", "out", "swap", "costs", "one", "other"]
section
variable {P : Program} {w : World} {K : PySem.W.Frag} {mg : Str → Option Value} {base : Heap}
end
end Mk

set_option Elab.async false
set_option linter.all false
set_option maxRecDepth 100000
set_option maxHeartbeats 1000000
/-! the law's words behind one change -/
namespace Mk
open PySem PySem.Spec L2 PyProof.Rows

abbrev sBeh : Stmt := top 0
abbrev nBeh : List Str := ["_law_tables_here", "_law_word", "_law_puts", "_law_outs", "_law_swaps", "_law_found", "_law_at", "_law_sign"]
def pre (z : Str) (k : Int) : Str := cutS z none (some k)
def post (z : Str) (k : Int) : Str := cutS z (some k) none
abbrev sgAt (z : Str) (i : Nat) : Str := ⟨#[(cs z).getD i 0]⟩
def bhS (t3 : STab) (w : Str) (i : Nat) (s : Str) : PTab := if (sgAt w i, s) ∈ t3.map (·.1) then [(pre w i ++ s ++ post w ((i : Int) + 1), look t3 (sgAt w i, s))] else []
def bhA (t1 t2 : PTab) (t3 : STab) (w : Str) (i : Nat) : PTab := (pre w i ++ post w ((i : Int) + 1), look t2 (sgAt w i)) :: (t1.map (·.1)).flatMap (bhS t3 w i)
def bhB (t1 : PTab) (w : Str) (i : Nat) : PTab := (t1.map (·.1)).map fun s => (pre w i ++ s ++ post w i, look t1 s)
def nPut (w : Str) : Nat := if w.length < 2 then w.length + 1 else 0
def bh (t1 t2 : PTab) (t3 : STab) (w : Str) : PTab := (List.range w.length).flatMap (bhA t1 t2 t3 w) ++ (List.range (nPut w)).flatMap (bhB t1 w)
/-- all but the list at l stands; it holds the words and prices of tab -/
structure Gw (H0 H1 : Hp) (l : Addr) (tab : PTab) : Prop where
  same : ∀ b o, b ≠ l → H0 b = some o → H1 b = some o
  out : ∃ ts : List Addr, H1 l = some (.lst (ts.map V.ref)) ∧ Tups H1 ts tab
def spBeh : Sp := fun vs H Q _ => ∃ (L a b c : Addr) (t1 t2 : PTab) (t3 : STab) (z : Str), vs = [.ref L, .str z] ∧ Rec H L a b c t1 t2 t3 ∧ (∀ k ∈ t1.map (·.1), k ∈ t2.map (·.1)) ∧ t1.length ≤ 5 ∧ (∀ k ∈ t1.map (·.1), k.length ≤ 1) ∧ z.length ≤ 2 ∧ (∀ i, i < z.length → sgAt z i ∈ t1.map (·.1)) ∧
  ∀ H' l ts, Same H H' → H l = none → H' l = some (.lst (ts.map V.ref)) → Tups H' ts (bh t1 t2 t3 z) → Q (.ref l) H'
theorem Gw.new {H0 H1 : Hp} {l t : Addr} {tab : PTab} {o : HO} (W : Gw H0 H1 l tab) (ht : H1 t = none) : Gw H0 (upd H1 t o) l tab := by
  obtain ⟨ts, e1, e2⟩ := W.out
  refine ⟨fun b u n e => ?_, ts, ?_, Tups.keep (fun b xs e => ?_) e2⟩
  · have := W.same b u n e
    rw [upd_ne (ne_of_none this ht)]
    exact this
  · rw [upd_ne (ne_of_none e1 ht)]
    exact e1
  · rw [upd_ne (ne_of_none e ht)]
    exact e
theorem Gw.push {H0 H1 : Hp} {l t : Addr} {tab : PTab} {z : Str} {i : Int} (W : Gw H0 H1 l tab) (ht : H1 t = some (.tup [.str z, .int i])) (hl : H0 t = none ∨ t ≠ l) : ∃ acc, H1 l = some (.lst acc) ∧ acc.length = tab.length ∧ Gw H0 (upd H1 l (.lst (acc ++ [.ref t]))) l (tab ++ [(z, i)]) := by
  obtain ⟨ts, e1, e2⟩ := W.out
  have nt : t ≠ l := fun e => by
    rw [e, e1] at ht
    cases ht
  refine ⟨_, e1, ?_, fun b u n e => ?_, ts ++ [t], ?_, Paired.snocP ?_ (Tups.keep (fun b xs e => ?_) e2)⟩
  · rw [List.length_map]
    exact Paired.length e2
  · rw [upd_ne n]
    exact W.same b u n e
  · rw [upd_same, List.map_append]
    rfl
  · show (upd H1 l _) t = _
    rw [upd_ne nt]
    exact ht
  · rw [upd_ne (fun z => by rw [z, e1] at e; cases e)]
    exact e
theorem cut_len (z : Str) (lo hi : Option Int) : (cutS z lo hi).length ≤ z.length := by
  show (((z.cps.toList.drop _).take _).toArray).size ≤ z.cps.size
  rw [List.size_toArray, List.length_take, List.length_drop, Array.length_toList]
  omega
theorem pre_len (z : Str) (k : Int) : (pre z k).length ≤ z.length := cut_len _ _ _
theorem post_len (z : Str) (k : Int) : (post z k).length ≤ z.length := cut_len _ _ _
theorem app_len (x y : Str) : (x ++ y).length = x.length + y.length := by
  rw [len_cs, cs_append, List.length_append, ← len_cs, ← len_cs]
theorem bhS_len (t3 : STab) (w : Str) (i : Nat) (s : Str) : (bhS t3 w i s).length ≤ 1 := by
  unfold bhS
  split <;> simp
section
variable {P : Program} {w : World} {K : PySem.W.Frag} {mg : Str → Option Value} {base : Heap}
end
end Mk

set_option Elab.async false
set_option linter.all false
set_option maxRecDepth 100000
set_option maxHeartbeats 1000000
/-! words near words, and the least costs through them -/
namespace Mk
open PySem L2

theorem sgs_app (x y : Str) : sgs (x ++ y) = sgs x ++ sgs y := by
  unfold sgs
  rw [cs_append, List.map_append]
theorem sgs_at {z : Str} {i c : Nat} (h : z.cps[i]? = some c) : (sgs z)[i]? = some ⟨#[c]⟩ := by
  have : (cs z)[i]? = some c := by rw [← h]; simp [cs]
  unfold sgs
  rw [List.getElem?_map, this]
  rfl
theorem mk_len {x : Str} (h : x.length = 1) : sgs x = [x] := by
  obtain ⟨a⟩ := x
  obtain ⟨l⟩ := a
  match l, h with
  | [c], _ => rfl
theorem sgs_one {z y : Str} (h : y ∈ sgs z) : y.length = 1 := by
  obtain ⟨c, _, rfl⟩ := List.mem_map.mp h
  rfl
theorem cs_flat (z : Str) : (sgs z).flatMap cs = cs z := by
  unfold sgs
  generalize cs z = l
  induction l with
  | nil => rfl
  | cons c l ih =>
    rw [List.map_cons, List.flatMap_cons, ih]
    rfl
theorem sgs_inj {a b : Str} (h : sgs a = sgs b) : a = b := by
  apply cs_inj
  rw [← cs_flat a, ← cs_flat b, h]
/-- the word of these signs -/
def wd (l : List Str) : Str := ⟨(l.flatMap cs).toArray⟩
theorem sgs_wd : ∀ {l : List Str}, (∀ x ∈ l, x.length = 1) → sgs (wd l) = l
  | [], _ => rfl
  | x :: l, h => by
    have e : wd (x :: l) = x ++ wd l := by
      apply cs_inj
      rw [cs_append]
      simp [wd, cs]
    rw [e, sgs_app, mk_len (h x List.mem_cons_self), sgs_wd fun y hy => h y (List.mem_cons_of_mem _ hy)]
    rfl
theorem wd_sgs (z : Str) : wd (sgs z) = z := sgs_inj (sgs_wd fun _ hy => sgs_one hy)
theorem sgs_length (z : Str) : (sgs z).length = z.length := by
  unfold sgs
  rw [List.length_map]
  rfl
theorem sgs_pre (z : Str) (i : Nat) : sgs (pre z i) = (sgs z).take i := by
  have e : cs (pre z i) = (cs z).take i := by
    unfold pre cutS
    rw [HT.sIx_none, HT.sIx_nat, List.drop_zero, Nat.sub_zero]
    show (z.cps.toList.take (min i z.length)) = _
    have hl : z.length = z.cps.toList.length := rfl
    rw [hl, ← List.take_take, List.take_of_length_le (l := z.cps.toList) (Nat.le_refl _)]
  unfold sgs
  rw [e, List.map_take]
theorem sgs_post (z : Str) (i : Nat) : sgs (post z i) = (sgs z).drop i := by
  have e : cs (post z i) = (cs z).drop i := by
    unfold post cutS
    rw [HT.sIx_none, HT.sIx_nat]
    show ((z.cps.toList.drop (min i z.length)).take (z.length - min i z.length)) = _
    have hl : z.length = z.cps.toList.length := rfl
    rw [hl]
    by_cases h : i ≤ z.cps.toList.length
    · rw [Nat.min_eq_left h, List.take_of_length_le (by rw [List.length_drop]; omega)]
    · rw [Nat.min_eq_right (by omega), List.drop_of_length_le (Nat.le_refl _), List.drop_of_length_le (l := cs z) (by show z.cps.toList.length ≤ i; omega)]
      exact List.take_nil
  unfold sgs
  rw [e, List.map_drop]
theorem sgAt_at {z : Str} {i : Nat} (h : i < (sgs z).length) : (sgs z)[i] = sgAt z i := by
  have h2 : i < (cs z).length := by
    unfold sgs at h
    rwa [List.length_map] at h
  have e : (sgs z)[i]? = some (sgAt z i) := by
    unfold sgs sgAt
    rw [List.getElem?_map, List.getElem?_eq_getElem h2, List.getD_eq_getElem?_getD, List.getElem?_eq_getElem h2]
    rfl
  rw [List.getElem?_eq_getElem h] at e
  exact Option.some.inj e
/-! changed words -/
def insW (w : Str) (i : Nat) (s : Str) : Str := pre w i ++ s ++ post w i
def swpW (w : Str) (i : Nat) (s : Str) : Str := pre w i ++ s ++ post w ((i + 1 : Nat) : Int)
def outW (w : Str) (i : Nat) : Str := pre w i ++ post w ((i + 1 : Nat) : Int)
theorem sgs_ins (w : Str) (i : Nat) {s : Str} (h : s.length = 1) : sgs (insW w i s) = (sgs w).take i ++ s :: (sgs w).drop i := by
  unfold insW
  rw [sgs_app, sgs_app, sgs_pre, sgs_post, mk_len h, List.append_assoc]
  rfl
theorem sgs_swp (w : Str) (i : Nat) {s : Str} (h : s.length = 1) : sgs (swpW w i s) = (sgs w).take i ++ s :: (sgs w).drop (i + 1) := by
  unfold swpW
  rw [sgs_app, sgs_app, sgs_pre, sgs_post, mk_len h, List.append_assoc]
  rfl
theorem sgs_out (w : Str) (i : Nat) : sgs (outW w i) = (sgs w).take i ++ (sgs w).drop (i + 1) := by
  unfold outW
  rw [sgs_app, sgs_pre, sgs_post]
theorem sgs_split {w : Str} {i : Nat} (h : i < (sgs w).length) : sgs w = (sgs w).take i ++ sgAt w i :: (sgs w).drop (i + 1) := by
  rw [← sgAt_at h, List.getElem_cons_drop, List.take_append_drop]
end Mk

set_option Elab.async false
set_option linter.all false
set_option maxRecDepth 100000
set_option maxHeartbeats 1000000
/-! the steps that a row of changes tells -/
namespace Mk
open PySem PySem.Spec L2 PyProof.Rows

abbrev sSteps : Stmt := top 32
abbrev sBehd : Stmt := top 37
abbrev nSteps : List Str := ["word", "value", "signs", "steps", "change", "at", "old", "new"]
/-- a step: the place, the sign that goes, the sign that comes -/
abbrev St3 := Nat × Str × Str
def stepOf (d : PyData) (sg : List Str) : St3 := match d with
  | .tuple [_, .int i] => (i.toNat, sg.getD i.toNat "", "")
  | .tuple [.str k, .int i, .str z] => (i.toNat, (if k = "put" then "" else sg.getD i.toNat ""), z)
  | _ => (0, "", "")
def app3 (sg : List Str) (q : St3) : List Str := sg.take q.1 ++ sgs q.2.2 ++ sg.drop (q.1 + q.2.1.length)
def runD : List PyData → List Str → Option (List St3)
  | [], _ => some []
  | d :: ds, sg => if chB d sg = true then (runD ds (app3 sg (stepOf d sg))).map (stepOf d sg :: ·) else none
theorem ch_cases {d : PyData} {sg : List Str} (h : chB d sg = true) : (∃ i : Nat, d = .tuple [.str "out", .int i] ∧ i < sg.length ∧ stepOf d sg = (i, sg.getD i ("" : Str), ("" : Str))) ∨ (∃ (i : Nat) (z : Str), d = .tuple [.str "put", .int i, .str z] ∧ i ≤ sg.length ∧ sgB z = true ∧ stepOf d sg = (i, ("" : Str), z)) ∨
    (∃ (i : Nat) (z : Str), d = .tuple [.str "swap", .int i, .str z] ∧ i < sg.length ∧ sgB z = true ∧ sg[i]? ≠ some z ∧ stepOf d sg = (i, sg.getD i ("" : Str), z)) := by
  have num : ∀ {a : PyData} {n : Int}, numD a 0 n = true → ∃ i : Nat, a = .int i ∧ (i : Int) ≤ n := fun {a n} h => by
    cases a with
    | int i =>
      have h : nwB i 0 n = true := h
      unfold nwB at h
      simp only [Bool.and_eq_true, decide_eq_true_eq] at h
      exact ⟨i.toNat, by rw [Int.toNat_of_nonneg h.2.1], by omega⟩
    | _ => cases h
  have sgn : ∀ {a : PyData}, sgD a = true → ∃ z : Str, a = .str z ∧ sgB z = true := fun {a} h => by
    cases a with
    | str z => exact ⟨z, rfl, h⟩
    | _ => cases h
  match d, h with
  | .tuple [k, a], h =>
    have h : (!eqS k "put" && numD a 0 ((sg.length : Int) - 1) && eqS k "out") = true := h
    simp only [Bool.and_eq_true, Bool.not_eq_true'] at h
    obtain ⟨i, rfl, hi⟩ := num h.1.2
    obtain rfl := eqS_of h.2
    exact .inl ⟨i, rfl, by omega, rfl⟩
  | .tuple [k, a, s], h =>
    have h : (if eqS k "put" = true then numD a 0 sg.length && sgD s else numD a 0 ((sg.length : Int) - 1) && !eqS k "out" && eqS k "swap" && sgD s && nsD a s sg) = true := h
    by_cases e : eqS k "put" = true
    · rw [if_pos e] at h
      simp only [Bool.and_eq_true] at h
      obtain ⟨i, rfl, hi⟩ := num h.1
      obtain ⟨z, rfl, hz⟩ := sgn h.2
      obtain rfl := eqS_of e
      exact .inr (.inl ⟨i, z, rfl, by omega, hz, rfl⟩)
    · rw [if_neg e] at h
      simp only [Bool.and_eq_true, Bool.not_eq_true'] at h
      obtain ⟨⟨⟨⟨h1, h2⟩, h3⟩, h4⟩, h5⟩ := h
      obtain ⟨i, rfl, hi⟩ := num h1
      obtain ⟨z, rfl, hz⟩ := sgn h4
      obtain rfl := eqS_of h3
      refine .inr (.inr ⟨i, z, rfl, by omega, hz, fun c => ?_, ?_⟩)
      · have h5 : (!decide (sg[(i : Int).toNat]? = some z)) = true := h5
        rw [Int.toNat_natCast, c] at h5
        simp at h5
      · show ((i : Int).toNat, (if ("swap" : Str) = "put" then ("" : Str) else sg.getD (i : Int).toNat ("" : Str)), z) = _
        rw [Int.toNat_natCast, if_neg (by decide +kernel)]
/-- what is asked of a row's data -/
def OkD (d : PyData) : Prop := ∀ ds, d = .tuple ds → ds.length ≤ 200 ∧ ∀ x ∈ ds, ∀ es, x = .tuple es → (∀ y ∈ es, SeqAt.shaped y = true) ∧ ∀ z, PyData.str z ∈ es → z.length ≤ 100000
abbrev Tup3 (H : Hp) (ts : List Addr) (st : List St3) : Prop := Paired (fun (t : Addr) (q : St3) => H t = some (.tup [.int q.1, .str q.2.1, .str q.2.2])) ts st
theorem Tup3.keep {H H' : Hp} (k : ∀ b xs, H b = some (.tup xs) → H' b = some (.tup xs)) {ts : List Addr} {st : List St3} (h : Tup3 H ts st) : Tup3 H' ts st := L2.Paired.mapP h fun _ _ e => k _ _ e
def spSteps (K : PySem.W.Frag) : Sp := fun vs H Q _ => ∃ (z : Str) (v : V) (d : PyData), vs = [.str z, v] ∧ Dv K H v d ∧ OkD d ∧ z.length ≤ 1000 ∧ (∀ x ∈ sgs z, sgB x = true) ∧
  (∀ H', (∀ ds st, d = .tuple ds → runD ds (sgs z) = some st → False) → Same H H' → Q .non H') ∧
  ∀ H' L ts ds st, d = .tuple ds → runD ds (sgs z) = some st → Same H H' → H L = none → H' L = some (.lst (ts.map V.ref)) → Tup3 H' ts st → Q (.ref L) H'
theorem app3_len {sg : List Str} {d : PyData} (h : chB d sg = true) : (app3 sg (stepOf d sg)).length ≤ sg.length + 1 := by
  unfold app3
  rw [List.length_append, List.length_append, List.length_take, List.length_drop]
  rcases ch_cases h with ⟨i, rfl, hi, e⟩ | ⟨i, z, rfl, hi, hz, e⟩ | ⟨i, z, rfl, hi, hz, _, e⟩
  · rw [e]
    show min i sg.length + 0 + (sg.length - (i + _)) ≤ _
    omega
  · rw [e]
    have : (sgs z).length = 1 := by rw [sgs_length]; exact (by unfold sgB at hz; simp only [Bool.and_eq_true, decide_eq_true_eq] at hz; exact hz.1)
    show min i sg.length + (sgs z).length + (sg.length - (i + 0)) ≤ _
    omega
  · rw [e]
    have : (sgs z).length = 1 := by rw [sgs_length]; exact (by unfold sgB at hz; simp only [Bool.and_eq_true, decide_eq_true_eq] at hz; exact hz.1)
    show min i sg.length + (sgs z).length + (sg.length - (i + _)) ≤ _
    omega
theorem app3_sg {sg : List Str} {d : PyData} (hs : ∀ x ∈ sg, sgB x = true) (h : chB d sg = true) : ∀ x ∈ app3 sg (stepOf d sg), sgB x = true := by
  have one : ∀ {z : Str}, sgB z = true → ∀ x ∈ sgs z, sgB x = true := fun {z} hz x hx => by
    have l : z.length = 1 := by
      unfold sgB at hz
      simp only [Bool.and_eq_true, decide_eq_true_eq] at hz
      exact hz.1
    rw [mk_len l] at hx
    rw [List.mem_singleton.mp hx]
    exact hz
  intro x hx
  unfold app3 at hx
  rcases List.mem_append.mp hx with hx | hx
  · rcases List.mem_append.mp hx with hx | hx
    · exact hs x (List.mem_of_mem_take hx)
    · rcases ch_cases h with ⟨i, rfl, hi, e⟩ | ⟨i, z, rfl, hi, hz, e⟩ | ⟨i, z, rfl, hi, hz, _, e⟩
      · rw [e] at hx
        exact (List.not_mem_nil (show x ∈ [] from hx)).elim
      · rw [e] at hx
        exact one hz x hx
      · rw [e] at hx
        exact one hz x hx
  · exact hs x (List.mem_of_mem_drop hx)
theorem dpall_at {K : PySem.W.Frag} {H : Hp} : ∀ {xs : List V} {ds : List PyData}, DpAll K H xs ds → ∀ {i : Nat} {v : V}, xs[i]? = some v → ∃ d, ds[i]? = some d ∧ Dp K H v d
  | _, _, .nil, _, _, h => by cases h
  | _, _, .cons a _, 0, _, h => by
    cases h
    exact ⟨_, rfl, a⟩
  | _, _, .cons _ t, i + 1, _, h => dpall_at t (i := i) h
/-- the signs at S, the steps told at L, all else as in H0 -/
structure Wks (H0 H1 : Hp) (S L : Addr) (sg : List Str) (ts : List Addr) (st : List St3) : Prop where
  same : Same H0 H1
  s : H1 S = some (.lst (sg.map V.str))
  l : H1 L = some (.lst (ts.map V.ref))
  t : Tup3 H1 ts st
section
variable {H0 H1 : Hp} {S L : Addr} {sg : List Str} {ts : List Addr} {st : List St3}
theorem Wks.go {H2 : Hp} (W : Wks H0 H1 S L sg ts st) (k : Same H1 H2) : Wks H0 H2 S L sg ts st := ⟨W.same.trans k, k _ _ W.s, k _ _ W.l, W.t.keep fun b xs e => k _ _ e⟩
theorem Wks.sgs {sg' : List Str} (W : Wks H0 H1 S L sg ts st) (fs : H0 S = none) (ne : S ≠ L) : Wks H0 (upd H1 S (.lst (sg'.map V.str))) S L sg' ts st :=
  ⟨Same.upN W.same fs, upd_same, (upd_ne ne.symm).trans W.l, W.t.keep fun b xs e => (upd_ne fun c => by rw [c, W.s] at e; cases e).trans e⟩
theorem Wks.push {p : Addr} {q : St3} (W : Wks H0 H1 S L sg ts st) (fl : H0 L = none) (ne : S ≠ L) (hp : H1 p = some (.tup [.int q.1, .str q.2.1, .str q.2.2])) : Wks H0 (upd H1 L (.lst (ts.map V.ref ++ [.ref p]))) S L sg (ts ++ [p]) (st ++ [q]) :=
  have k : ∀ b xs, H1 b = some (.tup xs) → (upd H1 L (.lst (ts.map V.ref ++ [.ref p]))) b = some (.tup xs) := fun b xs e => (upd_ne fun c => by rw [c, W.l] at e; cases e).trans e
  ⟨Same.upN W.same fl, (upd_ne ne).trans W.s, by rw [List.map_append]; exact upd_same, Paired.appendP (W.t.keep k) (.cons (k _ _ hp) .nil)⟩
end
section
variable {P : Program} {w : World} {K : PySem.W.Frag} {mg : Str → Option Value} {base : Heap}
theorem scSteps : FnScope nSteps ["word", "value"] (defScope sSteps) := ⟨rfl, rfl, rfl, by decide +kernel, rfl, by decide +kernel, by decide +kernel⟩
theorem ok_steps {f : Addr} {fd : FuncData} (F : Fun K "steps_of" "steps_of" sSteps f fd) (B : Bn mg) (W : Wn mg) (O : On mg) (J : Cd P w K mg base 3 "_is_change" ["value", "signs"] (spIsCh K)) : FnOk P w K mg base CX0 4 f fd ["word", "value"] (spSteps K) := by
  obtain ⟨j, dj, G, gm, gk, gb⟩ := J.ex
  refine F.ok scSteps (fun vs H Q E h => ?_) (fun cdv A outer s H vs Q E hr h => ?_)
  · obtain ⟨z, v, d, rfl, _⟩ := h
    rfl
  · obtain ⟨z, v, d, rfl, hd, ok, lz, hs, qn, q⟩ := h
    have h64 : A.units + 3 + 64 < cLine := by
      have h2 : A.units + 3 + 16 * 3 + 200 < cLine := hr.un
      omega
    refine ⟨_, pss_cons (ps_if (pt_not (pt_val (pe_callB call_isi (by rfl) W.isi (by decide +kernel) (pa_cons (pv 1) (pa_cons (pe_bltn (v := .ty "tuple") (u := .type "tuple") (by rfl) O.tuple (by decide +kernel) rfl) pa_nil))))) (pss_one (ps_ret pe_non)) pss_nil)
      (pss_cons (ps_set (i := 2) scSteps.nd rfl (.inl rfl) (pe_callTy (call_listS rfl) (by rfl) B.list (by decide +kernel) (pa_cons (pv 0) pa_nil)))
      (pss_cons (ps_set (i := 3) scSteps.nd rfl (.inl rfl) (pe_lst pa_nil))
      (pss_cons (ps_for PassesOwn.never rfl (pi_tup (pv 1)) (pg_name (i := 4) scSteps.nd rfl (.inl rfl))
        (pss_cons (ps_if (pt_not (pt_val (pe_call G hr (by rfl) gm gk gb .nil pass0 (pa_cons (pv 4) (pa_cons (pv 2) pa_nil))))) (pss_one (ps_ret pe_non)) pss_nil)
        (pss_cons (ps_set (i := 5) scSteps.nd rfl (.inl rfl) (pe_ix ix_tup (pv 4) pe_int (fun _ _ => rfl)))
        (pss_cons (ps_set (i := 6) scSteps.nd rfl (.inl rfl) (pe_ifExp (pt_cmpR op_eq (pe_ix ix_tup (pv 4) pe_int (fun _ _ => rfl)) pe_str (nomark _)) pe_str (pe_ix ix_list (pv 2) (pv 5) (fun _ _ => rfl))))
        (pss_cons (ps_set (i := 7) scSteps.nd rfl (.inl rfl) (pe_ifExp (pt_cmpR op_eq (pe_ix ix_tup (pv 4) pe_int (fun _ _ => rfl)) pe_str (nomark _)) pe_str (pe_ix ix_tup (pv 4) pe_int (fun _ _ => rfl))))
        (pss_cons (ps_asg (pe_callTy (call_listS rfl) (by rfl) B.list (by decide +kernel) (pa_cons (pv 7) pa_nil)) (pg_slc (pv 2) (po_some (pv 5)) (po_some (pe_op op_add (pv 5) (pe_callB call_len_str (by rfl) B.len PySem.boot_len (pa_cons (pv 6) pa_nil))))))
        (pss_one (ps_expr (pe_bm PySem.F.plainAttrs_list PySem.F.slot_list_append PySem.F.type_list_append mt_append (pv 3) (pa_cons (pe_tup (pa_cons (pv 5) (pa_cons (pv 6) (pa_cons (pv 7) pa_nil)))) pa_nil))))))))))
      (pss_one (ps_ret (pv 3)))))), ?_⟩
    have lt1 : ∀ {n : Nat}, n ≤ 5000 → n < sizeLine := fun h1 => by rw [sizeLine_eq]; omega
    have n3 : 3 ≤ sizeLine := by decide
    refine ⟨_, rfl, _, _, _, _, isTup d, rfl, .ty "tuple", Dv.ty hd, kit_tup d, _, rfl, ?_⟩
    cases hd with
    | dic hd => exact iteT (qn _ (fun _ _ e => nomatch e) (Same.refl _))
    | of hd =>
    cases d with
    | none => exact iteT (qn _ (fun _ _ e => nomatch e) (Same.refl _))
    | bool _ => exact iteT (qn _ (fun _ _ e => nomatch e) (Same.refl _))
    | int _ => exact iteT (qn _ (fun _ _ e => nomatch e) (Same.refl _))
    | str _ => exact iteT (qn _ (fun _ _ e => nomatch e) (Same.refl _))
    | list _ => exact iteT (qn _ (fun _ _ e => nomatch e) (Same.refl _))
    | dict _ => exact iteT (qn _ (fun _ _ e => nomatch e) (Same.refl _))
    | tuple ds =>
    obtain ⟨lds, okd⟩ := ok ds rfl
    refine iteF ?_
    refine ⟨_, rfl, z, rfl, Nat.le_of_lt (lt1 (n := z.length) (by omega)), fun S hS => ?_⟩
    refine ⟨Nat.zero_le _, fun L hL => ?_⟩
    cases hd with
    | @tup a xs _ ht hall =>
    have lx := dpall2 hall
    have ne : S ≠ L := fun c => by rw [← c, upd_same] at hL; cases hL
    have hL0 : H L = none := by rw [← hL, upd_ne ne.symm]
    have W0 : Wks H (upd (upd H S (.lst ((sgs z).map V.str))) L (.lst [])) S L (sgs z) [] [] := ⟨(Same.new hS).trans (Same.new hL), (upd_ne ne).trans upd_same, upd_same, .nil⟩
    generalize upd (upd H S (.lst ((sgs z).map V.str))) L (.lst []) = H1 at W0 ⊢
    refine ⟨_, rfl, a, rfl, ⟨xs, ht.imp (fun r => r.imp (W0.same _ _) fun ⟨o, e⟩ => ⟨o, W0.same _ _ e⟩) id⟩, for_tup (xs := xs) (fun j σ H2 => (∃ o1 o2 o3 o4, σ = [some (.str z), some (.ref a), some (.ref S), some (.ref L), o1, o2, o3, o4]) ∧ ∃ sg ts st, Wks H H2 S L sg ts st ∧ runD ds (sgs z) = (runD (ds.drop j) sg).map (st ++ ·) ∧ sg.length ≤ 1000 + j ∧ (∀ x ∈ sg, sgB x = true) ∧ ts.length = j) ?_ (fun j σ H2 _ h2 => ?_) ?_ ?_⟩
    · exact ⟨⟨_, _, _, _, rfl⟩, sgs z, [], [], W0, by rw [List.drop_zero]; cases runD ds (sgs z) <;> rfl, by rw [sgs_length]; omega, hs, rfl⟩
    · obtain ⟨_, sg, ts, st, W, _⟩ := h2
      exact ht.imp (fun r => r.imp (W.same _ _) fun ⟨o, e⟩ => ⟨o, W.same _ _ e⟩) id
    · rintro j x σ H2 hj ⟨⟨o1, o2, o3, o4, rfl⟩, sg, ts, st, W, er, lg, hsg, lts⟩
      obtain ⟨d, hdj, hd⟩ := dpall_at hall hj
      have hd2 := Dp.keep W.same hd
      have jl : j < ds.length := by
        rw [List.getElem?_eq_some_iff] at hdj
        exact hdj.1
      have dd : ds.drop j = d :: ds.drop (j + 1) := by
        rw [List.drop_eq_getElem_cons jl]
        rw [List.getElem?_eq_getElem jl] at hdj
        rw [Option.some.inj hdj]
      have okj := okd d (List.mem_of_getElem? hdj)
      rw [dd] at er
      refine ⟨_, rfl, _, rfl, x, d, S, sg, rfl, hd2, fun es e y hy => (okj es e).1 y hy, W.s, by omega, fun es e y hy => (okj es e).2 y hy, fun H3 s3 => ⟨_, rfl, ?_⟩⟩
      have W := W.go s3
      clear s3 hd2
      cases hc : chB d sg with
      | false =>
        refine iteT (qn _ (fun ds2 st2 e1 e2 => ?_) W.same)
        cases e1
        rw [er] at e2
        have e2 : Option.map (st ++ ·) (if chB d sg = true then _ else none) = some st2 := e2
        rw [hc] at e2
        cases e2
      | true =>
        refine iteF ?_
        have er : runD ds (sgs z) = Option.map (st ++ ·) (if chB d sg = true then (runD (ds.drop (j + 1)) (app3 sg (stepOf d sg))).map (stepOf d sg :: ·) else none) := er
        rw [hc, if_pos rfl] at er
        have er : runD ds (sgs z) = (runD (ds.drop (j + 1)) (app3 sg (stepOf d sg))).map ((st ++ [stepOf d sg]) ++ ·) := by
          rw [er]
          cases runD (ds.drop (j + 1)) (app3 sg (stepOf d sg)) with
          | none => rfl
          | some r => exact congrArg some (show st ++ (stepOf d sg :: r) = (st ++ [stepOf d sg]) ++ r by rw [List.append_assoc]; rfl)
        have hd3 := Dp.keep W.same hd
        have al := app3_len hc
        have as := app3_sg hsg hc
        have one : ∀ {i : Nat}, i < sg.length → (sg.getD i ("" : Str)).length = 1 := fun {i} hi => by
          have m : sg.getD i ("" : Str) ∈ sg := by
            rw [List.getD_eq_getElem?_getD, List.getElem?_eq_getElem hi]
            exact List.getElem_mem hi
          have := hsg _ m
          unfold sgB at this
          simp only [Bool.and_eq_true, decide_eq_true_eq] at this
          exact this.1
        have onz : ∀ {z : Str}, sgB z = true → z.length = 1 := fun h => by
          unfold sgB at h
          simp only [Bool.and_eq_true, decide_eq_true_eq] at h
          exact h.1
        have gt : ∀ {i : Nat}, i < sg.length → atI (sg.map V.str) (i : Int) = some (.str (sg.getD i ("" : Str))) := fun {i} hi => atI_nat (by rw [List.getElem?_map, List.getElem?_eq_getElem hi, List.getD_eq_getElem?_getD, List.getElem?_eq_getElem hi]; rfl)
        rcases ch_cases hc with ⟨i, rfl, hi, es⟩ | ⟨i, y, rfl, hi, hy, es⟩ | ⟨i, y, rfl, hi, hy, _, es⟩
        · cases hd3 with
          | @tup b ys _ hb hal =>
          cases hal with
          | cons h1 t1 =>
          cases t1 with
          | cons h2 t2 =>
          cases t2 with
          | nil =>
          cases h1; cases h2
          refine ⟨_, rfl, b, _, _, _, rfl, rfl, hb, atI_nat (j := 1) rfl, ?_⟩
          refine ⟨_, rfl, b, _, _, _, rfl, rfl, hb, atI_nat (j := 0) rfl, rfl, _, rfl, ?_⟩
          rw [decide_eq_false (by decide +kernel)]
          refine iteF ⟨_, rfl, _, rfl, S, _, _, _, rfl, rfl, .of W.s, gt hi, ?_⟩
          refine ⟨_, rfl, b, _, _, _, rfl, rfl, hb, atI_nat (j := 0) rfl, rfl, _, rfl, ?_⟩
          rw [decide_eq_true rfl]
          refine iteT ?_
          have ho : i + (sg.getD i ("" : Str)).length ≤ sg.length := by rw [one hi]; omega
          have hn : (("" : Str)).length ≤ 1 := Nat.zero_le _
          have hol : (sg.getD i ("" : Str)).length ≤ 1 := Nat.le_of_eq (one hi)
          refine ⟨_, rfl, (("" : Str)), rfl, Nat.le_of_lt (lt1 (by omega)), fun p hp => ?_⟩
          have W1 := W.go (Same.new (o := .lst ((sgs (("" : Str))).map V.str)) hp)
          have pS : S ≠ p := ne_of_none W.s hp
          have ep : (upd H3 p (.lst ((sgs (("" : Str))).map V.str))) p = some (.lst ((sgs (("" : Str))).map V.str)) := upd_same
          generalize upd H3 p (.lst ((sgs (("" : Str))).map V.str)) = H4 at W1 ep ⊢
          refine ⟨_, rfl, _, rfl, _, rfl, _, rfl, _, rfl, (sg.getD i ("" : Str)), rfl, Nat.le_of_lt (lt1 (by omega)), _, _, rfl, rfl, _, rfl, ?_⟩
          refine ⟨S, p, _, _, (i : Int), _, rfl, rfl, rfl, rfl, W1.s, ep, pS, by omega, by omega, by rw [List.length_map]; omega, by rw [List.length_map, List.length_map, sgs_length]; exact Nat.le_of_lt (lt1 (by omega)), ?_⟩
          have eq : (sg.map V.str).take ((i : Int)).toNat ++ (sgs (("" : Str))).map V.str ++ (sg.map V.str).drop ((i : Int) + (((sg.getD i ("" : Str)).length : Nat) : Int)).toNat = (app3 sg (i, (sg.getD i ("" : Str)), (("" : Str)))).map V.str := by
            rw [Int.toNat_natCast, (by omega : ((i : Int) + (((sg.getD i ("" : Str)).length : Nat) : Int)).toNat = i + (sg.getD i ("" : Str)).length), ← List.map_take, ← List.map_drop, ← List.map_append, ← List.map_append]
            rfl
          rw [eq]
          rw [es] at er al as
          have W2 := W1.sgs (sg' := app3 sg (i, (sg.getD i ("" : Str)), (("" : Str)))) hS ne
          generalize upd H4 S (.lst ((app3 sg (i, (sg.getD i ("" : Str)), (("" : Str)))).map V.str)) = H5 at W2 ⊢
          refine ⟨_, rfl, .inl ⟨rfl, _, SqL.of W2.l⟩, _, rfl, _, rfl, _, rfl, n3, fun t ht => ?_⟩
          have W3 := (W2.go (Same.new (o := .tup [.int i, .str (sg.getD i ("" : Str)), .str (("" : Str))]) ht)).push (q := (i, (sg.getD i ("" : Str)), (("" : Str)))) hL0 ne upd_same
          refine ⟨L, _, _, rfl, rfl, Same.new ht _ _ W2.l, lt1 (by rw [List.length_map, lts]; omega), ?_⟩
          exact ⟨⟨_, _, _, _, rfl⟩, _, _, _, W3, er, by omega, as, by rw [List.length_append, lts]; rfl⟩
        · cases hd3 with
          | @tup b ys _ hb hal =>
          cases hal with
          | cons h1 t1 =>
          cases t1 with
          | cons h2 t2 =>
          cases t2 with
          | cons h3 t3 =>
          cases t3 with
          | nil =>
          cases h1; cases h2; cases h3
          refine ⟨_, rfl, b, _, _, _, rfl, rfl, hb, atI_nat (j := 1) rfl, ?_⟩
          refine ⟨_, rfl, b, _, _, _, rfl, rfl, hb, atI_nat (j := 0) rfl, rfl, _, rfl, ?_⟩
          rw [decide_eq_true rfl]
          refine iteT ?_
          refine ⟨_, rfl, b, _, _, _, rfl, rfl, hb, atI_nat (j := 0) rfl, rfl, _, rfl, ?_⟩
          rw [decide_eq_false (by decide +kernel)]
          refine iteF ⟨_, rfl, b, _, _, _, rfl, rfl, hb, atI_nat (j := 2) rfl, ?_⟩
          have ho : i + (("" : Str)).length ≤ sg.length := hi
          have hn : (y).length ≤ 1 := Nat.le_of_eq (onz hy)
          have hol : (("" : Str)).length ≤ 1 := Nat.zero_le _
          refine ⟨_, rfl, (y), rfl, Nat.le_of_lt (lt1 (by omega)), fun p hp => ?_⟩
          have W1 := W.go (Same.new (o := .lst ((sgs (y)).map V.str)) hp)
          have pS : S ≠ p := ne_of_none W.s hp
          have ep : (upd H3 p (.lst ((sgs (y)).map V.str))) p = some (.lst ((sgs (y)).map V.str)) := upd_same
          generalize upd H3 p (.lst ((sgs (y)).map V.str)) = H4 at W1 ep ⊢
          refine ⟨_, rfl, _, rfl, _, rfl, _, rfl, _, rfl, (("" : Str)), rfl, Nat.le_of_lt (lt1 (by omega)), _, _, rfl, rfl, _, rfl, ?_⟩
          refine ⟨S, p, _, _, (i : Int), _, rfl, rfl, rfl, rfl, W1.s, ep, pS, by omega, by omega, by rw [List.length_map]; omega, by rw [List.length_map, List.length_map, sgs_length]; exact Nat.le_of_lt (lt1 (by omega)), ?_⟩
          have eq : (sg.map V.str).take ((i : Int)).toNat ++ (sgs (y)).map V.str ++ (sg.map V.str).drop ((i : Int) + (((("" : Str)).length : Nat) : Int)).toNat = (app3 sg (i, (("" : Str)), (y))).map V.str := by
            rw [Int.toNat_natCast, (by omega : ((i : Int) + (((("" : Str)).length : Nat) : Int)).toNat = i + (("" : Str)).length), ← List.map_take, ← List.map_drop, ← List.map_append, ← List.map_append]
            rfl
          rw [eq]
          rw [es] at er al as
          have W2 := W1.sgs (sg' := app3 sg (i, (("" : Str)), (y))) hS ne
          generalize upd H4 S (.lst ((app3 sg (i, (("" : Str)), (y))).map V.str)) = H5 at W2 ⊢
          refine ⟨_, rfl, .inl ⟨rfl, _, SqL.of W2.l⟩, _, rfl, _, rfl, _, rfl, n3, fun t ht => ?_⟩
          have W3 := (W2.go (Same.new (o := .tup [.int i, .str (("" : Str)), .str (y)]) ht)).push (q := (i, (("" : Str)), (y))) hL0 ne upd_same
          refine ⟨L, _, _, rfl, rfl, Same.new ht _ _ W2.l, lt1 (by rw [List.length_map, lts]; omega), ?_⟩
          exact ⟨⟨_, _, _, _, rfl⟩, _, _, _, W3, er, by omega, as, by rw [List.length_append, lts]; rfl⟩
        · cases hd3 with
          | @tup b ys _ hb hal =>
          cases hal with
          | cons h1 t1 =>
          cases t1 with
          | cons h2 t2 =>
          cases t2 with
          | cons h3 t3 =>
          cases t3 with
          | nil =>
          cases h1; cases h2; cases h3
          refine ⟨_, rfl, b, _, _, _, rfl, rfl, hb, atI_nat (j := 1) rfl, ?_⟩
          refine ⟨_, rfl, b, _, _, _, rfl, rfl, hb, atI_nat (j := 0) rfl, rfl, _, rfl, ?_⟩
          rw [decide_eq_false (by decide +kernel)]
          refine iteF ⟨_, rfl, _, rfl, S, _, _, _, rfl, rfl, .of W.s, gt hi, ?_⟩
          refine ⟨_, rfl, b, _, _, _, rfl, rfl, hb, atI_nat (j := 0) rfl, rfl, _, rfl, ?_⟩
          rw [decide_eq_false (by decide +kernel)]
          refine iteF ⟨_, rfl, b, _, _, _, rfl, rfl, hb, atI_nat (j := 2) rfl, ?_⟩
          have ho : i + (sg.getD i ("" : Str)).length ≤ sg.length := by rw [one hi]; omega
          have hn : (y).length ≤ 1 := Nat.le_of_eq (onz hy)
          have hol : (sg.getD i ("" : Str)).length ≤ 1 := Nat.le_of_eq (one hi)
          refine ⟨_, rfl, (y), rfl, Nat.le_of_lt (lt1 (by omega)), fun p hp => ?_⟩
          have W1 := W.go (Same.new (o := .lst ((sgs (y)).map V.str)) hp)
          have pS : S ≠ p := ne_of_none W.s hp
          have ep : (upd H3 p (.lst ((sgs (y)).map V.str))) p = some (.lst ((sgs (y)).map V.str)) := upd_same
          generalize upd H3 p (.lst ((sgs (y)).map V.str)) = H4 at W1 ep ⊢
          refine ⟨_, rfl, _, rfl, _, rfl, _, rfl, _, rfl, (sg.getD i ("" : Str)), rfl, Nat.le_of_lt (lt1 (by omega)), _, _, rfl, rfl, _, rfl, ?_⟩
          refine ⟨S, p, _, _, (i : Int), _, rfl, rfl, rfl, rfl, W1.s, ep, pS, by omega, by omega, by rw [List.length_map]; omega, by rw [List.length_map, List.length_map, sgs_length]; exact Nat.le_of_lt (lt1 (by omega)), ?_⟩
          have eq : (sg.map V.str).take ((i : Int)).toNat ++ (sgs (y)).map V.str ++ (sg.map V.str).drop ((i : Int) + (((sg.getD i ("" : Str)).length : Nat) : Int)).toNat = (app3 sg (i, (sg.getD i ("" : Str)), (y))).map V.str := by
            rw [Int.toNat_natCast, (by omega : ((i : Int) + (((sg.getD i ("" : Str)).length : Nat) : Int)).toNat = i + (sg.getD i ("" : Str)).length), ← List.map_take, ← List.map_drop, ← List.map_append, ← List.map_append]
            rfl
          rw [eq]
          rw [es] at er al as
          have W2 := W1.sgs (sg' := app3 sg (i, (sg.getD i ("" : Str)), (y))) hS ne
          generalize upd H4 S (.lst ((app3 sg (i, (sg.getD i ("" : Str)), (y))).map V.str)) = H5 at W2 ⊢
          refine ⟨_, rfl, .inl ⟨rfl, _, SqL.of W2.l⟩, _, rfl, _, rfl, _, rfl, n3, fun t ht => ?_⟩
          have W3 := (W2.go (Same.new (o := .tup [.int i, .str (sg.getD i ("" : Str)), .str (y)]) ht)).push (q := (i, (sg.getD i ("" : Str)), (y))) hL0 ne upd_same
          refine ⟨L, _, _, rfl, rfl, Same.new ht _ _ W2.l, lt1 (by rw [List.length_map, lts]; omega), ?_⟩
          exact ⟨⟨_, _, _, _, rfl⟩, _, _, _, W3, er, by omega, as, by rw [List.length_append, lts]; rfl⟩
    · rintro σ H2 ⟨⟨o1, o2, o3, o4, rfl⟩, sg, ts, st, W, er, _⟩
      rw [List.drop_eq_nil_of_le (by omega)] at er
      refine ⟨_, rfl, q _ L ts ds st rfl ?_ W.same hL0 W.l W.t⟩
      rw [er]
      exact congrArg some (List.append_nil _)
end
end Mk

set_option Elab.async false
set_option linter.all false
set_option maxRecDepth 100000
set_option maxHeartbeats 1000000
/-! words are asked for; the steps of a row that must be one; the word behind them; a change of a step -/
namespace Mk
open PySem PySem.Spec L2 PyProof.Rows

abbrev sChkW : Stmt := top 18
abbrev sChkS : Stmt := top 34
abbrev sChange : Stmt := top 36
abbrev nBehd : List Str := ["word", "steps", "signs", "at", "old", "new"]
theorem wd_join (ys : List Str) : Txt.join "" ys = wd ys := by
  apply cs_inj
  rw [cs_join, ← List.flatMap_def]
  simp [wd, cs]
theorem wB_sg {z : Str} (h : wB z = true) : ∀ x ∈ sgs z, sgB x = true := fun x hx => by
  obtain ⟨c, hc, rfl⟩ := List.mem_map.mp hx
  have := List.all_eq_true.mp h c hc
  unfold sgB wB
  have e : cs (⟨#[c]⟩ : Str) = [c] := by simp [cs]
  rw [e]
  show (true && ([c].all gB)) = true
  simp [this]
theorem wB_ofs {z : Str} (h : ∀ x ∈ sgs z, sgB x = true) : wB z = true := by
  unfold wB
  refine List.all_eq_true.mpr fun c hc => ?_
  have := h _ (List.mem_map.mpr ⟨c, hc, rfl⟩)
  unfold sgB wB at this
  simp only [Bool.and_eq_true] at this
  exact List.all_eq_true.mp this.2 c (by simp [cs])
def spChkW : Sp := fun vs H Q _ => ∃ z : Str, vs = [.str z] ∧ wB z = true ∧ z.length ≤ 1000 ∧ Q .non H
def spChkS (K : PySem.W.Frag) (CI : Addr) : Sp := fun vs H Q E => ∃ (z : Str) (v : V) (d : PyData), vs = [.str z, v] ∧ Dv K H v d ∧ OkD d ∧ z.length ≤ 1000 ∧ wB z = true ∧
  (∀ H', (∀ ds st, d = .tuple ds → runD ds (sgs z) = some st → False) → Same H H' → E (.ref CI) none H') ∧
  ∀ H' L ts ds st, d = .tuple ds → runD ds (sgs z) = some st → Same H H' → H L = none → H' L = some (.lst (ts.map V.ref)) → Tup3 H' ts st → Q (.ref L) H'
/-- the change of a step -/
def chOf (q : St3) : PyData := if q.2.1 = "" then .tuple [.str "put", .int q.1, .str q.2.2] else if q.2.2 = "" then .tuple [.str "out", .int q.1] else .tuple [.str "swap", .int q.1, .str q.2.2]
def chV (q : St3) : List V := if q.2.1 = "" then [.str "put", .int q.1, .str q.2.2] else if q.2.2 = "" then [.str "out", .int q.1] else [.str "swap", .int q.1, .str q.2.2]
theorem chDp {K : PySem.W.Frag} {H : Hp} {p : Addr} {q : St3} (h : H p = some (.tup (chV q))) : Dp K H (.ref p) (chOf q) := by
  unfold chOf
  unfold chV at h
  by_cases h1 : q.2.1 = ""
  · rw [if_pos h1] at h ⊢
    exact .tup (.inl (.inl h)) (.cons (.str _) (.cons (.int _) (.cons (.str _) .nil)))
  · rw [if_neg h1] at h ⊢
    by_cases h2 : q.2.2 = ""
    · rw [if_pos h2] at h ⊢
      exact .tup (.inl (.inl h)) (.cons (.str _) (.cons (.int _) .nil))
    · rw [if_neg h2] at h ⊢
      exact .tup (.inl (.inl h)) (.cons (.str _) (.cons (.int _) (.cons (.str _) .nil)))
def spChange : Sp := fun vs H Q _ => ∃ (i : Nat) (o n : Str), vs = [.int i, .str o, .str n] ∧ ∀ H' p, Same H H' → H p = none → H' p = some (.tup (chV (i, o, n))) → Q (.ref p) H'
/-- steps that can be made of these signs -/
def okSt : List Str → List St3 → Prop
  | _, [] => True
  | sg, q :: qs => q.1 + q.2.1.length ≤ sg.length ∧ q.2.1.length ≤ 1 ∧ q.2.2.length ≤ 1 ∧ okSt (app3 sg q) qs
def endS (sg : List Str) (st : List St3) : List Str := st.foldl app3 sg
theorem app3_one {sg : List Str} {q : St3} (h : ∀ x ∈ sg, x.length = 1) : ∀ x ∈ app3 sg q, x.length = 1 := fun x hx => by
  unfold app3 at hx
  rcases List.mem_append.mp hx with hx | hx
  · rcases List.mem_append.mp hx with hx | hx
    · exact h x (List.mem_of_mem_take hx)
    · exact sgs_one hx
  · exact h x (List.mem_of_mem_drop hx)
theorem app3_le {sg : List Str} {q : St3} (h : q.2.2.length ≤ 1) : (app3 sg q).length ≤ sg.length + 1 := by
  unfold app3
  rw [List.length_append, List.length_append, List.length_take, List.length_drop, sgs_length]
  omega
theorem runD_ok : ∀ {ds : List PyData} {sg : List Str} {st : List St3}, (∀ x ∈ sg, sgB x = true) → runD ds sg = some st → okSt sg st
  | [], _, _, _, h => by cases h; trivial
  | d :: ds, sg, st, hs, h => by
    have h : (if chB d sg = true then (runD ds (app3 sg (stepOf d sg))).map (stepOf d sg :: ·) else none) = some st := h
    by_cases c : chB d sg = true
    · rw [if_pos c] at h
      cases hr : runD ds (app3 sg (stepOf d sg)) with
      | none => rw [hr] at h; cases h
      | some r =>
        rw [hr] at h
        cases h
        have one : ∀ {i : Nat}, i < sg.length → (sg.getD i ("" : Str)).length = 1 := fun {i} hi => by
          have m : sg.getD i ("" : Str) ∈ sg := by
            rw [List.getD_eq_getElem?_getD, List.getElem?_eq_getElem hi]
            exact List.getElem_mem hi
          have := hs _ m
          unfold sgB at this
          simp only [Bool.and_eq_true, decide_eq_true_eq] at this
          exact this.1
        have onz : ∀ {z : Str}, sgB z = true → z.length = 1 := fun h => by
          unfold sgB at h
          simp only [Bool.and_eq_true, decide_eq_true_eq] at h
          exact h.1
        have ih := runD_ok (app3_sg hs c) hr
        rcases ch_cases c with ⟨i, rfl, hi, es⟩ | ⟨i, y, rfl, hi, hy, es⟩ | ⟨i, y, rfl, hi, hy, _, es⟩
        · refine ⟨?_, ?_, ?_, ih⟩
          · rw [es]; show i + _ ≤ _; rw [one hi]; omega
          · rw [es]; exact Nat.le_of_eq (one hi)
          · rw [es]; exact Nat.zero_le _
        · refine ⟨?_, ?_, ?_, ih⟩
          · rw [es]; exact hi
          · rw [es]; exact Nat.zero_le _
          · rw [es]; exact Nat.le_of_eq (onz hy)
        · refine ⟨?_, ?_, ?_, ih⟩
          · rw [es]; show i + _ ≤ _; rw [one hi]; omega
          · rw [es]; exact Nat.le_of_eq (one hi)
          · rw [es]; exact Nat.le_of_eq (onz hy)
    · rw [if_neg c] at h
      cases h
theorem runD_len : ∀ {ds : List PyData} {sg : List Str} {st : List St3}, runD ds sg = some st → st.length = ds.length
  | [], _, _, h => by cases h; rfl
  | d :: ds, sg, st, h => by
    have h : (if chB d sg = true then (runD ds (app3 sg (stepOf d sg))).map (stepOf d sg :: ·) else none) = some st := h
    by_cases c : chB d sg = true
    · rw [if_pos c] at h
      cases hr : runD ds (app3 sg (stepOf d sg)) with
      | none => rw [hr] at h; cases h
      | some r =>
        rw [hr] at h
        cases h
        rw [List.length_cons, List.length_cons, runD_len hr]
    · rw [if_neg c] at h
      cases h
def spBehd : Sp := fun vs H Q _ => ∃ (z : Str) (L : Addr) (ts : List Addr) (st : List St3), vs = [.str z, .ref L] ∧ H L = some (.lst (ts.map V.ref)) ∧ Tup3 H ts st ∧ okSt (sgs z) st ∧ z.length ≤ 1000 ∧ st.length ≤ 200 ∧ ∀ H', Same H H' → Q (.str (wd (endS (sgs z) st))) H'
section
variable {P : Program} {w : World} {K : PySem.W.Frag} {mg : Str → Option Value} {base : Heap}
theorem scChkW : FnScope ["word"] ["word"] (defScope sChkW) := ⟨rfl, rfl, rfl, by decide +kernel, rfl, by decide +kernel, by decide +kernel⟩
theorem ok_chkW {f : Addr} {fd : FuncData} (F : Fun K "check_word" "check_word" sChkW f fd) (B : Bn mg) (hm : ∃ t, mg "MAX_WORD" = some (.int 1000 t)) (J : Cd P w K mg base 1 "is_word" ["value"] (spJudge wB K)) : FnOk P w K mg base CX0 2 f fd ["word"] spChkW := by
  obtain ⟨j, dj, G, gm, gk, gb⟩ := J.ex
  obtain ⟨tm, hm⟩ := hm
  refine F.ok scChkW (fun vs H Q E h => ?_) (fun cdv A outer s H vs Q E hr h => ?_)
  · obtain ⟨z, rfl, _⟩ := h
    rfl
  · obtain ⟨z, rfl, hz, hl, q⟩ := h
    refine ⟨_, pss_one (ps_if (PW.pt (pw_or (pt_not (pt_val (pe_call G hr (by rfl) gm gk gb .nil pass0 (pa_cons (pv 0) pa_nil)))) (pw_or1 (pt_cmpR op_gt (pe_callB call_len_str (by rfl) B.len PySem.boot_len (pa_cons (pv 0) pa_nil)) (pe_glob (v := .int 1000) (by rfl) hm ⟨_, rfl⟩) (nomark _))))) (pss_one ps_never) pss_nil), ?_⟩
    refine ⟨_, rfl, _, rfl, .inl ⟨z, rfl, by omega, _, rfl, ?_⟩⟩
    rw [hz]
    refine iteF ⟨_, rfl, z, rfl, Nat.le_trans hl (by decide), _, _, rfl, rfl, _, rfl, ?_⟩
    rw [decide_eq_false (by omega)]
    exact iteF q
theorem scChkS : FnScope ["word", "changes", "steps"] ["word", "changes"] (defScope sChkS) := ⟨rfl, rfl, rfl, by decide +kernel, rfl, by decide +kernel, by decide +kernel⟩
theorem ok_chkS {f CI : Addr} {fd : FuncData} (F : Fun K "_checked_steps" "_checked_steps" sChkS f fd) (X0 : ExK K mg "InvalidChange" CI) (J : Cd P w K mg base 2 "check_word" ["word"] spChkW) (J2 : Cd P w K mg base 4 "steps_of" ["word", "value"] (spSteps K)) : FnOk P w K mg base (L2.CX P w) 5 f fd ["word", "changes"] (spChkS K CI) := by
  obtain ⟨j, dj, G, gm, gk, gb⟩ := J.ex
  obtain ⟨e, de, Ge, em, ek, eb⟩ := J2.ex
  refine F.okX scChkS (fun vs H Q E h => ?_) (fun cdv A outer s H vs Q E hr h => ?_)
  · obtain ⟨z, v, d, rfl, _⟩ := h
    rfl
  · obtain ⟨z, v, d, rfl, hd, ok, lz, wz, qn, q⟩ := h
    refine ⟨_, pss_cons (ps_expr (pe_call G (hr.mono (by decide)) (by rfl) gm gk gb .nil pass0 (pa_cons (pv 0) pa_nil)))
      (pss_cons (ps_set (i := 2) scChkS.nd rfl (.inl rfl) (pe_call Ge (hr.mono (by decide)) (by rfl) em ek eb .nil pass0 (pa_cons (pv 0) (pa_cons (pv 1) pa_nil))))
      (pss_cons (ps_if (pt_cmpR op_isN (pv 2) pe_non (nomark _)) (pss_one (ps_raise rfl (takes_of rfl rfl rfl rfl) (pmk_own PySem.F.excBase_ValueError X0.q X0.gC X0.kC (raises_own X0.b X0.t) (by rfl)))) pss_nil)
      (pss_one (ps_ret (pv 2))))), ?_⟩
    refine ⟨_, rfl, z, rfl, wz, lz, ?_⟩
    refine ⟨_, rfl, _, rfl, z, v, d, rfl, hd, ok, lz, wB_sg wz, fun H' no s' => ?_, fun H' L ts ds st e1 e2 s' fL eL et => ?_⟩
    · refine ⟨_, rfl, rfl, _, rfl, ?_⟩
      rw [decide_eq_true rfl]
      exact iteT (qn _ no s')
    · refine ⟨_, rfl, rfl, _, rfl, ?_⟩
      rw [decide_eq_false (fun c => nomatch c)]
      exact iteF ⟨_, rfl, q _ L ts ds st e1 e2 s' fL eL et⟩
theorem scChange : FnScope ["at", "old", "new"] ["at", "old", "new"] (defScope sChange) := ⟨rfl, rfl, rfl, by decide +kernel, rfl, by decide +kernel, by decide +kernel⟩
theorem ok_change {f : Addr} {fd : FuncData} (F : Fun K "_change" "_change" sChange f fd) : FnOk P w K mg base CX0 1 f fd ["at", "old", "new"] spChange := by
  refine F.ok scChange (fun vs H Q E h => ?_) (fun cdv A outer s H vs Q E hr h => ?_)
  · obtain ⟨i, o, n, rfl, _⟩ := h
    rfl
  · obtain ⟨i, o, n, rfl, q⟩ := h
    refine ⟨_, pss_cons (ps_if (pt_cmpR op_eq (pv 1) pe_str (nomark _)) (pss_one (ps_ret (pe_tup (pa_cons pe_str (pa_cons (pv 0) (pa_cons (pv 2) pa_nil)))))) pss_nil)
      (pss_cons (ps_if (pt_cmpR op_eq (pv 2) pe_str (nomark _)) (pss_one (ps_ret (pe_tup (pa_cons pe_str (pa_cons (pv 0) pa_nil))))) pss_nil)
      (pss_one (ps_ret (pe_tup (pa_cons pe_str (pa_cons (pv 0) (pa_cons (pv 2) pa_nil))))))), ?_⟩
    have n3 : 3 ≤ sizeLine := by decide
    refine ⟨_, rfl, rfl, _, rfl, ?_⟩
    by_cases h1 : o = ""
    · rw [decide_eq_true (congrArg V.str h1)]
      refine iteT ⟨_, rfl, _, rfl, n3, fun p hp => q _ p (Same.new hp) hp ?_⟩
      have e : chV (i, o, n) = [.str "put", .int i, .str n] := if_pos h1
      rw [e]
      exact upd_same
    · rw [decide_eq_false (fun c => h1 (V.str.inj c))]
      refine iteF ⟨_, rfl, rfl, _, rfl, ?_⟩
      by_cases h2 : n = ""
      · rw [decide_eq_true (congrArg V.str h2)]
        refine iteT ⟨_, rfl, Nat.le_trans (by show 2 ≤ 3; decide) n3, fun p hp => q _ p (Same.new hp) hp ?_⟩
        have e : chV (i, o, n) = [.str "out", .int i] := (if_neg h1).trans (if_pos h2)
        rw [e]
        exact upd_same
      · rw [decide_eq_false (fun c => h2 (V.str.inj c))]
        refine iteF ⟨_, rfl, _, rfl, n3, fun p hp => q _ p (Same.new hp) hp ?_⟩
        have e : chV (i, o, n) = [.str "swap", .int i, .str n] := (if_neg h1).trans (if_neg h2)
        rw [e]
        exact upd_same
theorem scBehd : FnScope nBehd ["word", "steps"] (defScope sBehd) := ⟨rfl, rfl, rfl, by decide +kernel, rfl, by decide +kernel, by decide +kernel⟩
theorem okSt_at : ∀ {st : List St3} {sg : List Str} {j : Nat} {q : St3}, okSt sg st → st[j]? = some q → q.1 + q.2.1.length ≤ (endS sg (st.take j)).length ∧ q.2.1.length ≤ 1 ∧ q.2.2.length ≤ 1
  | [], _, _, _, _, h => by cases h
  | x :: st, sg, 0, q, h, e => by
    cases e
    exact ⟨h.1, h.2.1, h.2.2.1⟩
  | x :: st, sg, j + 1, q, h, e => okSt_at (st := st) (sg := app3 sg x) (j := j) h.2.2.2 e
theorem endS_len : ∀ {st : List St3} {sg : List Str}, okSt sg st → (endS sg st).length ≤ sg.length + st.length
  | [], _, _ => Nat.le_refl _
  | x :: st, sg, h => by
    have a := endS_len (st := st) (sg := app3 sg x) h.2.2.2
    have b := app3_le (sg := sg) (q := x) h.2.2.1
    show (endS (app3 sg x) st).length ≤ sg.length + (st.length + 1)
    omega
theorem endS_one {st : List St3} {sg : List Str} (h : ∀ x ∈ sg, x.length = 1) : ∀ x ∈ endS sg st, x.length = 1 := by
  induction st generalizing sg with
  | nil => exact h
  | cons q st ih => exact ih (app3_one h)
theorem okSt_take : ∀ {st : List St3} {sg : List Str} (j : Nat), okSt sg st → okSt sg (st.take j)
  | [], _, _, _ => by rw [List.take_nil]; trivial
  | x :: st, sg, 0, h => trivial
  | x :: st, sg, j + 1, h => ⟨h.1, h.2.1, h.2.2.1, okSt_take j h.2.2.2⟩
theorem sum_wd {l : List Str} (h : ∀ x ∈ l, x.length = 1) : (l.map (·.length)).sum = l.length := by
  induction l with
  | nil => rfl
  | cons x l ih =>
    rw [List.map_cons, List.sum_cons, ih fun y hy => h y (List.mem_cons_of_mem _ hy), h x List.mem_cons_self, List.length_cons]
    omega
theorem ok_behd {f : Addr} {fd : FuncData} (F : Fun K "word_behind" "word_behind" sBehd f fd) (B : Bn mg) : FnOk P w K mg base CX0 1 f fd ["word", "steps"] spBehd := by
  refine F.ok scBehd (fun vs H Q E h => ?_) (fun cdv A outer s H vs Q E hr h => ?_)
  · obtain ⟨z, L, ts, st, rfl, _⟩ := h
    rfl
  · obtain ⟨z, L, ts, st, rfl, eL, et, hok, lz, ls, q⟩ := h
    refine ⟨_, pss_cons (ps_set (i := 2) scBehd.nd rfl (.inl rfl) (pe_callTy (call_listS rfl) (by rfl) B.list (by decide +kernel) (pa_cons (pv 0) pa_nil)))
      (pss_cons (ps_for PassesOwn.never rfl (pi_list (pv 1)) (pg_tup rfl (pgs_cons (pg_name (i := 3) scBehd.nd rfl (.inl rfl)) (pgs_cons (pg_name (i := 4) scBehd.nd rfl (.inl rfl)) (pgs_cons (pg_name (i := 5) scBehd.nd rfl (.inl rfl)) pgs_nil))))
        (pss_one (ps_asg (pe_callTy (call_listS rfl) (by rfl) B.list (by decide +kernel) (pa_cons (pv 5) pa_nil)) (pg_slc (pv 2) (po_some (pv 3)) (po_some (pe_op op_add (pv 3) (pe_callB call_len_str (by rfl) B.len PySem.boot_len (pa_cons (pv 4) pa_nil))))))))
      (pss_one (ps_ret (pe_join pe_str (pv 2))))), ?_⟩
    have lt1 : ∀ {n : Nat}, n ≤ 5000 → n < sizeLine := fun h1 => by rw [sizeLine_eq]; omega
    have ltl := Paired.length et
    refine ⟨_, rfl, z, rfl, Nat.le_of_lt (lt1 (n := z.length) (by omega)), fun S hS => ?_⟩
    have s0 : Same H (upd H S (.lst ((sgs z).map V.str))) := Same.new hS
    have eS : (upd H S (.lst ((sgs z).map V.str))) S = some (.lst ((sgs z).map V.str)) := upd_same
    generalize upd H S (.lst ((sgs z).map V.str)) = H0 at s0 eS ⊢
    refine ⟨_, rfl, L, rfl, ⟨_, SqL.of (s0 _ _ eL)⟩, for_list (xs := ts.map V.ref) (fun j σ H1 => (∃ o1 o2 o3, σ = [some (.str z), some (.ref L), some (.ref S), o1, o2, o3]) ∧ Same H H1 ∧ H1 S = some (.lst ((endS (sgs z) (st.take j)).map V.str))) ?_ (fun j σ H1 _ h1 => SqL.of (h1.2.1 _ _ eL)) ?_ ?_⟩
    · exact ⟨⟨_, _, _, rfl⟩, s0, eS⟩
    · rintro j x σ H1 hj ⟨⟨o1, o2, o3, rfl⟩, s1, eS1⟩
      rw [List.getElem?_map] at hj
      cases htj : ts[j]? with
      | none => rw [htj] at hj; cases hj
      | some t =>
      rw [htj] at hj
      cases hj
      obtain ⟨qq, hq, ht⟩ := L2.paired_get et htj
      have nx : st.take (j + 1) = st.take j ++ [qq] := by rw [List.take_add_one, hq]; rfl
      obtain ⟨h1, h2, h3⟩ := okSt_at hok hq
      have le := endS_len (okSt_take j hok)
      rw [sgs_length, List.length_take] at le
      rw [nx]
      have en : endS (sgs z) (st.take j ++ [qq]) = app3 (endS (sgs z) (st.take j)) qq := by
        unfold endS
        rw [List.foldl_append]
        rfl
      rw [en]
      generalize endS (sgs z) (st.take j) = sg at h1 le eS1 ⊢
      obtain ⟨i, o, n⟩ := qq
      have h1 : i + o.length ≤ sg.length := h1
      have h2 : o.length ≤ 1 := h2
      have h3 : n.length ≤ 1 := h3
      refine ⟨t, _, rfl, .inl (.inl (s1 _ _ ht)), rfl, _, _, rfl, _, _, rfl, _, _, rfl, rfl, ?_⟩
      refine ⟨_, rfl, n, rfl, Nat.le_of_lt (lt1 (by omega)), fun p hp => ?_⟩
      have s2 := s1.trans (Same.new (o := .lst ((sgs n).map V.str)) hp)
      have pS : S ≠ p := ne_of_none eS1 hp
      have ep : (upd H1 p (.lst ((sgs n).map V.str))) p = some (.lst ((sgs n).map V.str)) := upd_same
      have eS2 : (upd H1 p (.lst ((sgs n).map V.str))) S = _ := (upd_ne pS).trans eS1
      generalize upd H1 p (.lst ((sgs n).map V.str)) = H4 at s2 ep eS2 ⊢
      refine ⟨_, rfl, _, rfl, _, rfl, _, rfl, _, rfl, o, rfl, Nat.le_of_lt (lt1 (by omega)), _, _, rfl, rfl, _, rfl, ?_⟩
      refine ⟨S, p, _, _, (i : Int), _, rfl, rfl, rfl, rfl, eS2, ep, pS, by omega, by omega, by rw [List.length_map]; omega, by rw [List.length_map, List.length_map, sgs_length]; exact Nat.le_of_lt (lt1 (by omega)), ?_⟩
      have eq : (sg.map V.str).take ((i : Int)).toNat ++ (sgs n).map V.str ++ (sg.map V.str).drop ((i : Int) + ((o.length : Nat) : Int)).toNat = (app3 sg (i, o, n)).map V.str := by
        rw [Int.toNat_natCast, (by omega : ((i : Int) + ((o.length : Nat) : Int)).toNat = i + o.length), ← List.map_take, ← List.map_drop, ← List.map_append, ← List.map_append]
        rfl
      rw [eq]
      exact ⟨⟨_, _, _, rfl⟩, Same.upN s2 hS, upd_same⟩
    · rintro σ H1 ⟨⟨o1, o2, o3, rfl⟩, s1, eS1⟩
      rw [List.length_map, ltl, List.take_length] at eS1
      have one := endS_one (st := st) (sg := sgs z) fun y hy => sgs_one hy
      have le := endS_len hok
      rw [sgs_length] at le
      refine ⟨⟨_, rfl⟩, _, rfl, _, S, _, rfl, rfl, .inl (SqL.of eS1), ?_, ?_⟩
      · rw [sum_wd one]
        show _ + _ * 0 ≤ 16777216
        omega
      · rw [wd_join]
        exact q _ s1
end
end Mk

set_option Elab.async false
set_option linter.all false
set_option maxRecDepth 100000
set_option maxHeartbeats 1000000
/-! some signs drawn -/
namespace Mk
open PySem PySem.Spec L2 PyProof.Rows

abbrev sAlph : Stmt := top 43
abbrev nChs : List Str := ["_law_cup_here", "_law_items", "_law_many", "_law_left", "_law_found", "_law_turn"]
theorem map_erase {α β : Type} (f : α → β) : ∀ (l : List α) (k : Nat), (l.eraseIdx k).map f = (l.map f).eraseIdx k
  | [], _ => rfl
  | _ :: _, 0 => rfl
  | a :: l, k + 1 => by
    rw [List.eraseIdx_cons_succ, List.map_cons, List.map_cons, List.eraseIdx_cons_succ, map_erase f l k]
def spChoices : Sp := fun vs H Q _ => ∃ (p : Addr) (z : Str) (n m : Nat), vs = [.ref p, .str z, .int m] ∧ z.length < 1000 ∧ m ≤ z.length ∧ Pot H p n ∧ n + m < PB ∧
  ∀ H' D (zs rest : List Str), But p H H' → H D = none → H' D = some (.lst (zs.map V.str)) → zs.length = m → (zs ++ rest).Perm (sgs z) → Pot H' p (n + m) → Q (.ref D) H'
def spAlph : Sp := fun vs H Q _ => ∃ (p : Addr) (n : Nat), vs = [.ref p, .int 3] ∧ Pot H p n ∧ n + 6 < PB ∧
  ∀ H' S (zs : List Str), But p H H' → H S = none → H' S = some (.lst (zs.map V.str)) → SgL zs → zs.length ≤ 3 → Pot H' p (n + 6) → Q (.ref S) H'
section
variable {P : Program} {w : World} {K : PySem.W.Frag} {mg : Str → Option Value} {base : Heap}
theorem scChs : FnScope nChs ["_law_cup_here", "_law_items", "_law_many"] (defScope sChoices) := ⟨rfl, rfl, rfl, by decide +kernel, rfl, by decide +kernel, by decide +kernel⟩
theorem ok_choices {f : Addr} {fd : FuncData} (F : Fun K "_law_choices" "_law_choices" sChoices f fd) (B : Bn mg) (D : Cd P w K mg base 1 "_law_toss" ["_law_cup_here", "_law_total"] spDip) : FnOk P w K mg base CX0 2 f fd ["_law_cup_here", "_law_items", "_law_many"] spChoices := by
  obtain ⟨d, dd, G, gm, gk, gb⟩ := D.ex
  refine F.ok scChs (fun vs H Q E h => ?_) (fun cdv A outer s H vs Q E hr h => ?_)
  · obtain ⟨p, z, n, m, rfl, _⟩ := h
    rfl
  · obtain ⟨p, z, n, m, rfl, hz, hm, hp, hn, q⟩ := h
    refine ⟨_, pss_cons (ps_par (i := 3) (j := 4) rfl scChs.nd rfl rfl (by decide) rfl rfl (pa_cons (pe_callTy (call_listS rfl) (by rfl) B.list (by decide +kernel) (pa_cons (pv 1) pa_nil)) (pa_cons (pe_lst pa_nil) pa_nil)) (by rfl))
      (pss_cons (ps_for PassesOwn.never rfl (pi_range1 (by rfl) B.range (pa_cons (pe_callB (call_min2 rfl) (by rfl) B.min (by decide +kernel) (pa_cons (pv 2) (pa_cons (pe_callB call_len_str (by rfl) B.len PySem.boot_len (pa_cons (pv 1) pa_nil)) pa_nil))) pa_nil)) (pg_name (i := 5) scChs.nd rfl (.inl rfl))
        (pss_one (ps_expr (pe_bm PySem.F.plainAttrs_list PySem.F.slot_list_append PySem.F.type_list_append mt_append (pv 4) (pa_cons (pe_bm PySem.F.plainAttrs_list PySem.F.slot_list_pop PySem.F.type_list_pop mt_popAt (pv 3) (pa_cons (pe_call G hr (by rfl) gm gk gb .nil pass0 (pa_cons (pv 0) (pa_cons (pe_callB call_len_seq (by rfl) B.len PySem.boot_len (pa_cons (pv 3) pa_nil)) pa_nil))) pa_nil)) pa_nil)))))
      (pss_one (ps_ret (pv 4)))), ?_⟩
    have hzs : z.length ≤ sizeLine := Nat.le_trans (Nat.le_of_lt hz) (by decide)
    have hxl : (sgs z).length = z.length := by
      rw [sgs, List.length_map]
      rfl
    refine ⟨_, rfl, z, rfl, hzs, fun l hl0 => ⟨Nat.zero_le _, fun D hD => ⟨_, _, rfl, ?_⟩⟩⟩
    have hpl : p ≠ l := hp.ne hl0
    have hDl : D ≠ l := (ne_of_none (upd_same : upd H l (.lst ((sgs z).map V.str)) l = some (.lst ((sgs z).map V.str))) hD).symm
    have hD0 : H D = none := by rw [upd_ne hDl] at hD; exact hD
    refine ⟨_, rfl, _, rfl, z, rfl, hzs, _, _, rfl, _, rfl, ?_⟩
    have em : (if ((z.length : Nat) : Int) < (m : Int) then ((z.length : Nat) : Int) else (m : Int)) = (m : Int) := if_neg (by omega)
    rw [em]
    refine ⟨by omega, by omega, ?_⟩
    rw [Int.toNat_natCast]
    refine for_range (lo := 0) (n := m) (fun i σ H1 => (∃ o5, σ = [some (.ref p), some (.str z), some (.int m), some (.ref l), some (.ref D), o5]) ∧ ∃ (ys left : List Str), But p H H1 ∧ H1 l = some (.lst (left.map V.str)) ∧ H1 D = some (.lst (ys.map V.str)) ∧ ys.length = i ∧ (ys ++ left).Perm (sgs z) ∧ Pot H1 p (n + i)) ?_ ?_ ?_
    · refine ⟨⟨_, rfl⟩, [], sgs z, (But.up (But.up But.refl hl0) hD0), ?_, upd_same, rfl, .refl _, (hp.up hpl).up (hp.ne hD0)⟩
      rw [upd_ne hDl.symm]
      exact upd_same
    · rintro i σ H1 hi ⟨⟨o5, rfl⟩, ys, left, hB, h1, h2, hy, hperm, hP⟩
      have hlen : left.length = z.length - i := by
        have := hperm.length_eq
        rw [List.length_append] at this
        omega
      refine ⟨_, rfl, .inl ⟨rfl, _, SqL.of h2⟩, _, rfl, .inl ⟨rfl, _, SqL.of h1⟩, _, rfl, _, rfl, l, left.map V.str, rfl, .inl (SqL.of h1), p, n + i, _, rfl, hP, by omega, by rw [List.length_map]; omega, by rw [List.length_map]; omega, fun H2 k hb hf hP2 hk0 hk1 => ?_⟩
      rw [List.length_map] at hk1
      have hkn : k.toNat < left.length := by omega
      have hlp : l ≠ p := hpl.symm
      have h1' := hb _ _ hlp h1
      have h2' := hb _ _ (hp.ne hD0).symm h2
      refine ⟨l, left.map V.str, k, k.toNat, V.str left[k.toNat], rfl, rfl, h1', by omega, by omega, by rw [List.length_map]; exact seq_at hk0 hk1, by rw [List.getElem?_map, List.getElem?_eq_getElem hkn]; rfl, ?_⟩
      refine ⟨D, ys.map V.str, _, rfl, rfl, by rw [upd_ne hDl]; exact h2', by rw [List.length_map]; exact Nat.lt_of_lt_of_le (by omega : ys.length < 4000) (by decide), ⟨_, rfl⟩, ys ++ [left[k.toNat]], left.eraseIdx k.toNat, But.up (But.up (hB.trans hb) hl0) hD0, ?_, ?_, ?_, ?_, (hP2.up hpl).up (hp.ne hD0)⟩
      · rw [upd_ne hDl.symm, upd_same, map_erase]
      · rw [upd_same, List.map_append]
        rfl
      · rw [List.length_append, hy]
        rfl
      · rw [List.append_assoc]
        exact (List.Perm.append_left ys (perm_erase hkn)).trans hperm
    · rintro σ H1 ⟨⟨o5, rfl⟩, ys, left, hB, h1, h2, hy, hperm, hP⟩
      exact ⟨_, rfl, q _ _ _ _ hB hD0 h2 hy hperm hP⟩
theorem scAlph : FnScope ["_law_cup_here", "_law_most"] ["_law_cup_here", "_law_most"] (defScope sAlph) := ⟨rfl, rfl, rfl, by decide +kernel, rfl, by decide +kernel, by decide +kernel⟩
theorem ok_alph {f : Addr} {fd : FuncData} (F : Fun K "_law_alphabet" "_law_alphabet" sAlph f fd) (O : On mg) (D : Cd P w K mg base 1 "_law_toss" ["_law_cup_here", "_law_total"] spDip) (S : Cd P w K mg base 2 "_law_choices" ["_law_cup_here", "_law_items", "_law_many"] spChoices) : FnOk P w K mg base CX0 3 f fd ["_law_cup_here", "_law_most"] spAlph := by
  obtain ⟨d, dd, G, gm, gk, gb⟩ := D.ex
  obtain ⟨a, da, Gs, sm, sk, sb⟩ := S.ex
  refine F.ok scAlph (fun vs H Q E h => ?_) (fun cdv A outer s H vs Q E hr h => ?_)
  · obtain ⟨p, n, rfl, _⟩ := h
    rfl
  · obtain ⟨p, n, rfl, hp, hn, q⟩ := h
    refine ⟨_, pss_one (ps_ret (pe_callB cr_sortedS (by rfl) O.sorted (by decide +kernel) (pa_cons (pe_call Gs hr (by rfl) sm sk sb .nil pass0 (pa_cons (pv 0) (pa_cons pe_str (pa_cons (pe_op op_add pe_int (pe_call G (hr.mono (by decide)) (by rfl) gm gk gb .nil pass0 (pa_cons (pv 0) (pa_cons (pv 1) pa_nil)))) pa_nil)))) pa_nil))), ?_⟩
    obtain ⟨f1, f2, f3⟩ := five_sg
    have l5 : ("abcde" : Str).length = 5 := by decide +kernel
    refine ⟨_, rfl, _, rfl, _, rfl, p, n, 3, rfl, hp, by omega, by decide, by decide, fun H2 k b2 fr2 P2 k0 k1 => ?_⟩
    obtain ⟨j, rfl⟩ : ∃ j : Nat, k = (j : Int) := ⟨k.toNat, by omega⟩
    refine ⟨_, _, rfl, rfl, p, "abcde", n + 1, j + 1, ?_, by decide +kernel, by omega, P2, by omega, fun H1 L ws rest b1 L0 hL lw pw P1 => ?_⟩
    · exact congrArg (fun x => [V.ref p, V.str "abcde", V.int x]) (show (1 : Int) + (j : Int) = ((j + 1 : Nat) : Int) by omega)
    have ps : ∀ z ∈ ws, z ∈ sgs "abcde" := fun z hz => pw.mem_iff.mp (List.mem_append_left _ hz)
    refine ⟨L, ws, rfl, SqL.of hL, by omega, fun zs S pz so hS => ?_⟩
    have b3 : But p H H1 := b2.trans b1
    have S0 : H S = none := b3.nul P1 hS
    refine q _ S zs (b3.same (Same.new hS)) S0 upd_same ?_ (by have := pz.length_eq; omega) ((P1.up (P1.ne hS)).mono (by omega))
    have lz := pz.length_eq
    refine ⟨fun e => ?_, by omega, fun z hz => f1 z (ps z (pz.mem_iff.mp hz)), ?_, so⟩
    · rw [e] at lz
      simp at lz
      omega
    · exact pz.nodup_iff.mpr ((pw.nodup_iff.mpr f2).sublist (List.sublist_append_left _ _))
end
end Mk

set_option Elab.async false
set_option linter.all false
set_option maxRecDepth 100000
set_option maxHeartbeats 1000000
/-! drawn tables -/
namespace Mk
open PySem PySem.Spec L2 PyProof.Rows

abbrev sRates : Stmt := top 45
abbrev nRates : List Str := ["_law_cup_here", "_law_letters", "_law_most", "_law_wide", "_law_one", "_law_gains", "_law_losses", "_law_turns", "_law_other"]
def spRates : Sp := fun vs H Q _ => ∃ (p S : Addr) (n : Nat) (zs : List Str), vs = [.ref p, .ref S, .int 3] ∧ Pot H p n ∧ n + 100 < PB ∧ H S = some (.lst (zs.map V.str)) ∧ SgL zs ∧ zs.length ≤ 3 ∧
  ∀ H' L a b c t1 t2 t3, But p H H' → Rec H' L a b c t1 t2 t3 → RtT t1 t2 t3 → t1.map (·.1) = zs → t2.map (·.1) = zs → Pot H' p (n + 100) → Q (.ref L) H'
/-- the turns that grow at T -/
structure Trn (zs : List Str) (p T : Addr) (H0 H1 : Hp) (t : STab) (k n : Nat) : Prop where
  but : ∀ b o, b ≠ p → b ≠ T → H0 b = some o → H1 b = some o
  out : H1 T = some (.dT (kvsS t))
  pot : Pot H1 p n
  nd : (t.map (·.1)).Nodup
  le : t.length ≤ k
  ok : ∀ q ∈ t, 1 ≤ q.2 ∧ q.2 ≤ 18
  key : ∀ q ∈ t.map (·.1), q.1 ∈ zs ∧ q.2 ∈ zs ∧ q.1 ≠ q.2
theorem mem_setT {κ : Type} [DecidableEq κ] {t : List (κ × Int)} {k : κ} {i : Int} {q : κ × Int} (h : q ∈ setT t k i) : q ∈ t ∨ q = (k, i) := by
  unfold setT at h
  split at h
  · obtain ⟨p, hp, e⟩ := List.mem_map.mp h
    split at e
    · rename_i hk
      exact .inr (by rw [← e, ← hk])
    · exact .inl (e ▸ hp)
  · rcases List.mem_append.mp h with e | e
    · exact .inl e
    · exact .inr (List.mem_singleton.mp e)
theorem pickW {v : V} (h : v ∈ [V.int 3, V.int 3, V.int 3, V.int 9]) : ∃ m : Int, v = .int m ∧ 3 ≤ m ∧ m ≤ 9 := by
  simp only [List.mem_cons, List.not_mem_nil, or_false] at h
  rcases h with rfl | rfl | rfl | rfl <;> exact ⟨_, rfl, by decide, by decide⟩
theorem pickF {v : V} {w x : Int} (hw : 3 ≤ w) (hw9 : w ≤ 9) (hx : x = 2 * w) (h : v ∈ [V.int 3, V.int w, V.int x]) : ∃ m : Int, v = .int m ∧ 1 ≤ m ∧ m ≤ 18 := by
  simp only [List.mem_cons, List.not_mem_nil, or_false] at h
  rcases h with rfl | rfl | rfl
  · exact ⟨_, rfl, by decide, by decide⟩
  · exact ⟨_, rfl, by omega, by omega⟩
  · exact ⟨_, rfl, by omega, by omega⟩
section
variable {P : Program} {w : World} {K : PySem.W.Frag} {mg : Str → Option Value} {base : Heap}
theorem scRates : FnScope nRates ["_law_cup_here", "_law_letters", "_law_most"] (defScope sRates) := ⟨rfl, rfl, rfl, by decide +kernel, rfl, by decide +kernel, by decide +kernel⟩
theorem ok_rates {f : Addr} {fd : FuncData} (F : Fun K "_law_rates" "_law_rates" sRates f fd) (Dd : Dn mg) (D : Cd P w K mg base 1 "_law_toss" ["_law_cup_here", "_law_total"] spDip) (C : Cd P w K mg base 2 "_law_choice" ["_law_cup_here", "_law_items"] spChoose) : FnOk P w K mg base CX0 3 f fd ["_law_cup_here", "_law_letters", "_law_most"] spRates := by
  obtain ⟨d, dd, G, gm, gk, gb⟩ := D.ex
  obtain ⟨c, dc, Gc, cm, ck, cb⟩ := C.ex
  refine F.ok scRates (fun vs H Q E h => ?_) (fun cdv A outer s H vs Q E hr h => ?_)
  · obtain ⟨p, S, n, zs, rfl, _⟩ := h
    rfl
  · obtain ⟨p, S, n, zs, rfl, hp, hn, hS, sg, hl3, q⟩ := h
    have r1 : Room 1 _ := hr.mono (by decide)
    have hu := hu_of hr
    refine ⟨_, pss_cons (ps_set (i := 3) scRates.nd rfl (.inr rfl) (pe_call Gc hr (by rfl) cm ck cb .nil pass0 (pa_cons (pv 0) (pa_cons (pe_lst (pa_cons (pv 2) (pa_cons (pv 2) (pa_cons (pv 2) (pa_cons pe_int pa_nil))))) pa_nil))))
      (pss_cons (ps_set (i := 5) scRates.nd rfl (.inl rfl) (pe_callTy (call_dictP rfl) (by rfl) Dd.dict (by decide +kernel) (pa_cons (pe_lc (own := [("_law_one", 4)]) (g := gName 4) (tt := tYes) rfl scRates.nd (pi_list (pv 1)) (blkOk_by (N := nRates) (sc := defScope sRates) (by decide +kernel))
          (fun _ _ _ _ _ => pg_name (i := 4) scRates.nd rfl (Or.inl rfl)) (fun _ _ _ _ _ => pts_nil)
          (fun _ _ _ _ _ => pe_tup (pa_cons (pv 4) (pa_cons (pe_op op_add pe_int (pe_call G r1 (by rfl) gm gk gb .nil pass0 (pa_cons (pv 0) (pa_cons (pv 3) pa_nil)))) pa_nil)))) pa_nil)))
      (pss_cons (ps_par (i := 6) (j := 7) rfl scRates.nd rfl rfl (by decide) rfl rfl (pa_cons (pe_callTy (call_dictP rfl) (by rfl) Dd.dict (by decide +kernel) (pa_cons (pe_lc (own := [("_law_one", 4)]) (g := gName 4) (tt := tYes) rfl scRates.nd (pi_list (pv 1)) (blkOk_by (N := nRates) (sc := defScope sRates) (by decide +kernel))
          (fun _ _ _ _ _ => pg_name (i := 4) scRates.nd rfl (Or.inl rfl)) (fun _ _ _ _ _ => pts_nil)
          (fun _ _ _ _ _ => pe_tup (pa_cons (pv 4) (pa_cons (pe_op op_add pe_int (pe_call G r1 (by rfl) gm gk gb .nil pass0 (pa_cons (pv 0) (pa_cons (pv 3) pa_nil)))) pa_nil)))) pa_nil)) (pa_cons pe_dnewT pa_nil)) (by rfl))
      (pss_cons (ps_for PassesOwn.never rfl (pi_list (pv 1)) (pg_name (i := 4) scRates.nd rfl (.inl rfl))
        (pss_one (ps_for PassesOwn.never rfl (pi_list (pv 1)) (pg_name (i := 8) scRates.nd rfl (.inl rfl))
          (pss_one (ps_if (PW.pt (pw_and (pt_cmpR op_ne (pv 4) (pv 8) (nomark _)) (pw_and1 (pt_cmpR op_gt (pe_call G r1 (by rfl) gm gk gb .nil pass0 (pa_cons (pv 0) (pa_cons pe_int pa_nil))) pe_int (nomark _)))))
            (pss_one (ps_asg (pe_op op_add pe_int (pe_call G r1 (by rfl) gm gk gb .nil pass0 (pa_cons (pv 0) (pa_cons (pe_call Gc hr (by rfl) cm ck cb .nil pass0 (pa_cons (pv 0) (pa_cons (pe_lst (pa_cons (pv 2) (pa_cons (pv 3) (pa_cons (pe_op op_mul pe_int (pv 3)) pa_nil)))) pa_nil))) pa_nil)))) (pg_sub (pv 7) (pe_tup (pa_cons (pv 4) (pa_cons (pv 8) pa_nil))) (set_dict hu)))) pss_nil)))))
      (pss_one (ps_ret (pe_lst (pa_cons (pv 5) (pa_cons (pv 6) (pa_cons (pv 7) pa_nil))))))))), ?_⟩
    have pS : S ≠ p := fun e => by
      obtain ⟨_, _, _, ep, _⟩ := hp
      rw [e, ep] at hS
      obtain ⟨z, r, _, k, _⟩ := List.map_eq_cons_iff.mp (by injection Option.some.inj hS with z; exact z.symm)
      cases k
    have nar : ∀ {n m : Nat}, n ≤ m → m ≤ 1000 → n ≤ sizeLine := fun h1 h2 => by rw [sizeLine_eq]; omega
    have lt1 : ∀ {n : Nat}, n ≤ 100 → n < sizeLine := fun h1 => by rw [sizeLine_eq]; omega
    refine ⟨_, rfl, _, rfl, _, rfl, _, rfl, nar (m := 4) (by decide) (by decide), fun l1 hl1 => ⟨p, n, hp.up (hp.ne hl1), by omega, .inl ⟨l1, _, rfl, (hp.ne hl1).symm, upd_same, by decide, by decide, fun H1 v1 N1 m1 => ?_⟩⟩⟩
    obtain ⟨wi, rfl, wi3, wi9⟩ := pickW m1
    have b4 : But p H H1 := (But.refl.new hl1).trans N1.but
    have P4 := N1.pot
    clear N1 hl1 m1
    have lz : (zs.map V.str).length = zs.length := List.length_map _
    have ndz := sg.nd
    have hS4 := b4 _ _ pS hS
    -- the gains
    refine ⟨_, rfl, S, rfl, ⟨_, SqL.of hS4⟩, fun D hD => lc_it (walk_list (K := K) (a := S) (xs := zs.map V.str)) (fun i H6 => H6 S = some (.lst (zs.map V.str)) ∧ Dealt p H H6 D (zs.take i) wi (n + 1 + i)) ?_ (fun i H6 _ h6 => SqL.of h6.1) ?_ ?_⟩
    · exact ⟨(Same.new hD) _ _ hS4, b4.new hD, P4.up (P4.ne hD), [], [], upd_same, .nil, rfl, fun _ h => nomatch h⟩
    · rintro i x H6 H7 hi ⟨e6, W6⟩ ⟨rfl, hx⟩
      rw [List.length_map] at hi
      have ex : x = V.str zs[i] := by
        rw [List.getElem?_map, List.getElem?_eq_getElem hi] at hx
        exact (Option.some.inj hx).symm
      subst ex
      refine ⟨rfl, _, rfl, _, rfl, _, rfl, p, _, wi, rfl, W6.pot, by omega, by omega, by omega, fun H8 k b8 f8 P8 k0 k1 => ⟨_, _, rfl, rfl, (show 2 ≤ sizeLine from nar (m := 2) (by decide) (by decide)), fun t ht => ?_⟩⟩
      have D0 : H D = none := b4.nul P4 hD
      obtain ⟨acc, a1, a2, W9⟩ := W6.next (z := zs[i]) (i := 1 + k) D0 b8 P8 (by omega) (by omega) ht (P4.ne hD).symm
      refine ⟨acc, a1, lt1 (by rw [a2, List.length_take]; omega), ?_, ?_⟩
      · have L8 := b8 _ _ pS e6
        rw [upd_ne (ne_of_none hS4 hD), upd_ne (ne_of_none L8 ht)]
        exact L8
      · have et : zs.take (i + 1) = zs.take i ++ [zs[i]] := by rw [List.take_add_one, List.getElem?_eq_getElem hi]; rfl
        rw [et]
        exact W9
    rintro H6 ⟨e6, W6⟩
    rw [List.length_map] at W6
    rw [List.take_length] at W6
    obtain ⟨ts1, tab1, w1, w2, w3, w4⟩ := W6.ex
    have nd1 : (tab1.map (·.1)).Nodup := by rw [w3]; exact ndz
    refine ⟨D, ts1, kvsP tab1, rfl, SqL.of w1, tups_sq w2, fun d1 hd1 => ?_⟩
    rw [merge_P0 nd1]
    have b6 := W6.but.new (o := .dK (kvsP tab1)) hd1
    have np1 : d1 ≠ p := (W6.pot.ne hd1).symm
    have P6 : Pot (upd H6 d1 (.dK (kvsP tab1))) p (n + 10) := (W6.pot.up np1.symm).mono (by omega)
    have x1 : (upd H6 d1 (.dK (kvsP tab1))) d1 = some (.dK (kvsP tab1)) := upd_same
    have k1 : tab1.map (·.1) = zs := w3
    generalize upd H6 d1 (.dK (kvsP tab1)) = H7 at b6 P6 x1 ⊢
    clear W6 e6 w1 w2 w3 hd1 hD b4 P4 hS4
    -- the losses
    have hS6 := b6 _ _ pS hS
    refine ⟨_, rfl, S, rfl, ⟨_, SqL.of hS6⟩, fun D hD => lc_it (walk_list (K := K) (a := S) (xs := zs.map V.str)) (fun i H6 => (H6 S = some (.lst (zs.map V.str)) ∧ H6 d1 = some (.dK (kvsP tab1))) ∧ Dealt p H H6 D (zs.take i) wi (n + 10 + i)) ?_ (fun i H6 _ h6 => SqL.of h6.1.1) ?_ ?_⟩
    · exact ⟨⟨(Same.new hD) _ _ hS6, (Same.new hD) _ _ x1⟩, b6.new hD, P6.up (P6.ne hD), [], [], upd_same, .nil, rfl, fun _ h => nomatch h⟩
    · rintro i x H6 H7 hi ⟨e6, W6⟩ ⟨rfl, hx⟩
      rw [List.length_map] at hi
      have ex : x = V.str zs[i] := by
        rw [List.getElem?_map, List.getElem?_eq_getElem hi] at hx
        exact (Option.some.inj hx).symm
      subst ex
      refine ⟨rfl, _, rfl, _, rfl, _, rfl, p, _, wi, rfl, W6.pot, by omega, by omega, by omega, fun H8 k b8 f8 P8 k0 k1 => ⟨_, _, rfl, rfl, (show 2 ≤ sizeLine from nar (m := 2) (by decide) (by decide)), fun t ht => ?_⟩⟩
      have D0 : H D = none := b6.nul P6 hD
      obtain ⟨acc, a1, a2, W9⟩ := W6.next (z := zs[i]) (i := 1 + k) D0 b8 P8 (by omega) (by omega) ht (P6.ne hD).symm
      refine ⟨acc, a1, lt1 (by rw [a2, List.length_take]; omega), ⟨?_, ?_⟩, ?_⟩
      · have L8 := b8 _ _ pS e6.1
        rw [upd_ne (ne_of_none hS6 hD), upd_ne (ne_of_none L8 ht)]
        exact L8
      · have L8 := b8 _ _ np1 e6.2
        rw [upd_ne (ne_of_none x1 hD), upd_ne (ne_of_none L8 ht)]
        exact L8
      · have et : zs.take (i + 1) = zs.take i ++ [zs[i]] := by rw [List.take_add_one, List.getElem?_eq_getElem hi]; rfl
        rw [et]
        exact W9
    rintro H6 ⟨e6, W6⟩
    rw [List.length_map] at W6
    rw [List.take_length] at W6
    obtain ⟨ts2, tab2, w1, w2, w3, w42⟩ := W6.ex
    have nd2 : (tab2.map (·.1)).Nodup := by rw [w3]; exact ndz
    refine ⟨D, ts2, kvsP tab2, rfl, SqL.of w1, tups_sq w2, fun d2 hd2 => ?_⟩
    rw [merge_P0 nd2]
    have b7 := W6.but.new (o := .dK (kvsP tab2)) hd2
    have np2 : d2 ≠ p := (W6.pot.ne hd2).symm
    have P7 : Pot (upd H6 d2 (.dK (kvsP tab2))) p (n + 20) := (W6.pot.up np2.symm).mono (by omega)
    have x2 : (upd H6 d2 (.dK (kvsP tab2))) d2 = some (.dK (kvsP tab2)) := upd_same
    have x1' : (upd H6 d2 (.dK (kvsP tab2))) d1 = some (.dK (kvsP tab1)) := (Same.new hd2) _ _ e6.2
    have k2 : tab2.map (·.1) = zs := w3
    generalize upd H6 d2 (.dK (kvsP tab2)) = H7 at b7 P7 x2 x1' ⊢
    clear W6 e6 w1 w2 w3 hd2 hD b6 P6 x1 hS6
    -- the turns
    refine fun T hT => ⟨_, _, rfl, ?_⟩
    have npT : T ≠ p := (P7.ne hT).symm
    have b8 := b7.new (o := .dT []) hT
    have P8 := P7.up (o := .dT []) npT.symm
    have y1 := (Same.new (o := .dT []) hT) _ _ x1'
    have y2 := (Same.new (o := .dT []) hT) _ _ x2
    have yT : (upd H7 T (.dT [])) T = some (.dT (kvsS [])) := upd_same
    have nT1 : d1 ≠ T := ne_of_none x1' hT
    have nT2 : d2 ≠ T := ne_of_none x2 hT
    have ST : S ≠ T := ne_of_none (b7 _ _ pS hS) hT
    have T0 : H T = none := b7.nul P7 hT
    generalize upd H7 T (.dT []) = H8 at b8 P8 y1 y2 yT ⊢
    have hS8 := b8 _ _ pS hS
    clear b7 P7 x2 x1' hT
    refine ⟨_, rfl, S, rfl, ⟨_, SqL.of hS8⟩, for_it (walk_list (K := K) (a := S) (xs := zs.map V.str)) (fun i σ H9 => (∃ o4 o8, σ = [some (.ref p), some (.ref S), some (.int 3), some (.int wi), o4, some (.ref d1), some (.ref d2), some (.ref T), o8]) ∧ ∃ t, Trn zs p T H8 H9 t (3 * i) (n + 20 + 9 * i)) ?_ (fun i σ H9 _ h9 => by obtain ⟨_, t, W⟩ := h9; exact SqL.of (W.but _ _ pS ST hS8)) ?_ ?_⟩
    · exact ⟨⟨_, _, rfl⟩, [], fun _ _ _ _ e => e, yT, P8, List.nodup_nil, Nat.zero_le _, (fun _ h => nomatch h), (fun _ h => nomatch h)⟩
    · rintro i x σ H9 H10 hi ⟨⟨o4, o8, rfl⟩, t, W⟩ ⟨rfl, hx⟩
      rw [List.length_map] at hi
      have ex : x = V.str zs[i] := by
        rw [List.getElem?_map, List.getElem?_eq_getElem hi] at hx
        exact (Option.some.inj hx).symm
      subst ex
      have mi : zs[i] ∈ zs := List.getElem_mem hi
      generalize zs[i] = one at mi hx ⊢
      refine ⟨_, rfl, S, rfl, ⟨_, SqL.of (W.but _ _ pS ST hS8)⟩, for_it (walk_list (K := K) (a := S) (xs := zs.map V.str)) (fun j σ H11 => (∃ o8, σ = [some (.ref p), some (.ref S), some (.int 3), some (.int wi), some (.str one), some (.ref d1), some (.ref d2), some (.ref T), o8]) ∧ ∃ t, Trn zs p T H8 H11 t (3 * i + j) (n + 20 + 9 * i + 3 * j)) ?_ (fun i σ H9 _ h9 => by obtain ⟨_, t, W⟩ := h9; exact SqL.of (W.but _ _ pS ST hS8)) ?_ ?_⟩
      · exact ⟨⟨_, rfl⟩, t, W⟩
      · rintro j y σ H11 H12 hj ⟨⟨o8, rfl⟩, t, W⟩ ⟨rfl, hy⟩
        rw [List.length_map] at hj
        have ey : y = V.str zs[j] := by
          rw [List.getElem?_map, List.getElem?_eq_getElem hj] at hy
          exact (Option.some.inj hy).symm
        subst ey
        have mj : zs[j] ∈ zs := List.getElem_mem hj
        generalize zs[j] = other at mj hy ⊢
        refine ⟨_, rfl, _, rfl, rfl, _, rfl, ?_⟩
        by_cases h : one = other
        · have e : (!decide (V.str one = V.str other)) = false := by rw [decide_eq_true (by rw [h])]; rfl
          rw [e]
          exact iteF (iteF ⟨⟨_, rfl⟩, t, W.but, W.out, W.pot.mono (by omega), W.nd, Nat.le_trans W.le (by omega), W.ok, W.key⟩)
        · have e : (!decide (V.str one = V.str other)) = true := by rw [decide_eq_false (fun z => h (by injection z))]; rfl
          rw [e]
          refine iteT ⟨_, rfl, p, _, 3, rfl, W.pot, by omega, by decide, by decide, fun H13 k b13 f13 P13 k0 k1 => ⟨_, _, rfl, rfl, _, rfl, ?_⟩⟩
          have W13 : Trn zs p T H8 H13 t (3 * i + j) (n + 20 + 9 * i + 3 * j + 1) := ⟨fun b o n1 n2 e => b13 _ _ n1 (W.but _ _ n1 n2 e), b13 _ _ npT W.out, P13, W.nd, W.le, W.ok, W.key⟩
          clear W b13 f13 P13
          by_cases hk : k > 0
          · rw [decide_eq_true hk]
            refine iteT ⟨_, rfl, _, rfl, _, rfl, _, rfl, _, rfl, _, _, rfl, rfl, .inl ⟨by decide, by decide⟩, (show 3 ≤ sizeLine from nar (m := 3) (by decide) (by decide)), fun l hl => ⟨p, _, W13.pot.up (W13.pot.ne hl), by omega, .inl ⟨l, _, rfl, (W13.pot.ne hl).symm, upd_same, Nat.succ_pos 2, (show 3 < 1000000 by decide), fun H14 v N14 m14 => ?_⟩⟩⟩
            obtain ⟨fa, rfl, fa1, fa18⟩ := pickF wi3 wi9 rfl m14
            have nTl : T ≠ l := ne_of_none W13.out hl
            refine ⟨p, _, fa, rfl, N14.pot, by omega, by omega, by omega, fun H15 m b15 f15 P15 m0 m1 => ⟨_, _, rfl, rfl, _, rfl, _, rfl, _, rfl, (show 2 ≤ sizeLine from nar (m := 2) (by decide) (by decide)), fun tt htt => ?_⟩⟩
            have eT : H15 T = some (.dT (kvsS t)) := b15 _ _ npT (N14.but _ _ npT (by rw [upd_ne nTl]; exact W13.out))
            have lt : t.length < 1000 := by have := W13.le; omega
            have nTt : T ≠ tt := ne_of_none eT htt
            refine ⟨T, _, rfl, .inr ⟨kvsS t, keyOf (one, other), tt, by rw [upd_ne nTt]; exact eT, rfl, upd_same, by rw [kvsS_len]; exact Nat.lt_of_lt_of_le lt (by decide), rfl⟩, ⟨_, rfl⟩, setT t (one, other) (1 + m), fun b o n1 n2 e => ?_, ?_, ?_, setT_nd W13.nd, Nat.le_trans (len_setT _ _ _) (by have := W13.le; omega), fun q hq => ?_, fun q hq => ?_⟩
            · have e2 := b15 _ _ n1 (N14.but _ _ n1 (by rw [upd_ne (ne_of_none (W13.but _ _ n1 n2 e) hl)]; exact W13.but _ _ n1 n2 e))
              rw [upd_ne n2, upd_ne (ne_of_none e2 htt)]
              exact e2
            · rw [upd_same, putS_set]
            · exact ((P15.up (P15.ne htt)).up npT.symm).mono (by omega)
            · rcases mem_setT hq with hq | rfl
              · exact W13.ok q hq
              · exact ⟨(by omega : (1 : Int) ≤ 1 + m), (by omega : 1 + m ≤ 18)⟩
            · rcases (keys_setT _ _ _ _).mp hq with hq | rfl
              · exact W13.key q hq
              · exact ⟨mi, mj, h⟩
          · rw [decide_eq_false hk]
            exact iteF ⟨⟨_, rfl⟩, t, W13.but, W13.out, W13.pot.mono (by omega), W13.nd, Nat.le_trans W13.le (by omega), W13.ok, W13.key⟩
      · rintro σ H11 ⟨⟨o8, rfl⟩, t, W⟩
        rw [List.length_map] at W
        exact ⟨⟨_, _, rfl⟩, t, W.but, W.out, W.pot.mono (by omega), W.nd, Nat.le_trans W.le (by omega), W.ok, W.key⟩
    · rintro σ H9 ⟨⟨o4, o8, rfl⟩, t, W⟩
      rw [List.length_map] at W
      refine ⟨_, rfl, _, rfl, _, rfl, (show 3 ≤ sizeLine from nar (m := 3) (by decide) (by decide)), fun L hL => ?_⟩
      have s5 : Same H9 (upd H9 L (.lst [.ref d1, .ref d2, .ref T])) := Same.new hL
      refine q _ L d1 d2 T tab1 tab2 t (fun b o nb e => s5 _ _ (W.but _ _ nb (fun z => by rw [z, T0] at e; cases e) (b8 _ _ nb e))) ⟨upd_same, s5 _ _ (W.but _ _ np1 nT1 y1), s5 _ _ (W.but _ _ np2 nT2 y2), s5 _ _ W.out⟩ ?_ k1 k2 ((pot_same s5 W.pot).mono (by omega))
      have mem1 : ∀ z, z ∈ tab1.map (·.1) ↔ z ∈ zs := fun z => by rw [k1]
      refine ⟨⟨fun p hp => sg.sg _ ((mem1 _).mp (List.mem_map.mpr ⟨p, hp, rfl⟩)), nd1, ?_, ?_, ?_, fun p hp => ?_⟩, W.nd, ?_⟩
      · have := congrArg List.length k1
        rw [List.length_map] at this
        omega
      · rw [k1, k2]
      · have := W.le
        omega
      · have h := W.key _ (List.mem_map.mpr ⟨p, hp, rfl⟩)
        exact ⟨(mem1 _).mpr h.1, (mem1 _).mpr h.2.1, h.2.2⟩
      · unfold rightB
        simp only [Bool.and_eq_true]
        refine ⟨?_, ?_, ?_, ?_⟩
        · exact List.all_eq_true.mpr fun p hp => nw_in (w4 p hp).1 (Int.le_trans (w4 p hp).2 wi9) (by decide)
        · cases tab1 with
          | nil => exact absurd k1.symm sg.ne
          | cons _ _ => rfl
        · exact List.all_eq_true.mpr fun p hp => nw_in (w42 p hp).1 (Int.le_trans (w42 p hp).2 wi9) (by decide)
        · exact List.all_eq_true.mpr fun p hp => nw_in (W.ok p hp).1 (W.ok p hp).2 (by decide)
end
end Mk

set_option Elab.async false
set_option linter.all false
set_option maxRecDepth 100000
set_option maxHeartbeats 1000000
/-! the prices of single changes, by what they take away and set -/
namespace Mk
open PySem PySem.Spec L2 PyProof.Rows

abbrev sByP : Stmt := top 38
abbrev nByP : List Str := ["prices", "table", "put", "out", "sign", "swap", "pair"]
/-- these signs and pairs have their prices in D -/
structure PTp (t1 t2 : PTab) (t3 : STab) (ks : List Str) (ps : List (Str × Str)) (D : STab) : Prop where
  put : ∀ k ∈ ks, (("" : Str), k) ∈ D.map (·.1) ∧ look D ("", k) = look t1 k
  out : ∀ k ∈ ks, (k, ("" : Str)) ∈ D.map (·.1) ∧ look D (k, "") = look t2 k
  swp : ∀ p ∈ ps, p ∈ D.map (·.1) ∧ look D p = look t3 p
  only : ∀ p ∈ D.map (·.1), (∃ k ∈ ks, p = (("" : Str), k)) ∨ (∃ k ∈ ks, p = (k, ("" : Str))) ∨ p ∈ ps
  len : D.length ≤ 2 * ks.length + ps.length
section
variable {t1 t2 : PTab} {t3 : STab} {ks : List Str} {ps : List (Str × Str)} {D : STab}
theorem PTp.nil : PTp t1 t2 t3 [] [] [] := ⟨(fun _ h => nomatch h), (fun _ h => nomatch h), (fun _ h => nomatch h), (fun _ h => nomatch h), Nat.zero_le _⟩
theorem PTp.sign {k : Str} (T : PTp t1 t2 t3 ks [] D) (hk : k ≠ "") (hks : ∀ y ∈ ks, y ≠ "") : PTp t1 t2 t3 (ks ++ [k]) [] (setT (setT D (("" : Str), k) (look t1 k)) (k, ("" : Str)) (look t2 k)) where
  put := fun y hy => by
    have hy0 : y ≠ "" := (List.mem_append.mp hy).elim (hks y) fun h => by rw [List.mem_singleton.mp h]; exact hk
    have n1 : (("" : Str), y) ≠ (k, ("" : Str)) := fun e => hk (congrArg Prod.fst e).symm
    rw [keys_setT, keys_setT, look_setT, if_neg n1, look_setT]
    rcases List.mem_append.mp hy with h | h
    · obtain ⟨a, b⟩ := T.put y h
      refine ⟨.inl (.inl a), ?_⟩
      by_cases e : (("" : Str), y) = (("" : Str), k)
      · rw [if_pos e]; exact (congrArg (fun z : Str × Str => look t1 z.2) e).symm
      · rw [if_neg e]; exact b
    · rw [List.mem_singleton.mp h]
      exact ⟨.inl (.inr rfl), if_pos rfl⟩
  out := fun y hy => by
    have hy0 : y ≠ "" := (List.mem_append.mp hy).elim (hks y) fun h => by rw [List.mem_singleton.mp h]; exact hk
    rw [keys_setT, keys_setT, look_setT]
    rcases List.mem_append.mp hy with h | h
    · obtain ⟨a, b⟩ := T.out y h
      refine ⟨.inl (.inl a), ?_⟩
      by_cases e : (y, ("" : Str)) = (k, ("" : Str))
      · rw [if_pos e]; exact (congrArg (fun z : Str × Str => look t2 z.1) e).symm
      · rw [if_neg e, look_setT, if_neg (fun c => hy0 (congrArg Prod.fst c))]; exact b
    · rw [List.mem_singleton.mp h]
      exact ⟨.inr rfl, if_pos rfl⟩
  swp := fun _ h => nomatch h
  only := fun p hp => by
    rw [keys_setT, keys_setT] at hp
    rcases hp with (h | h) | h
    · rcases T.only p h with ⟨y, a, b⟩ | ⟨y, a, b⟩ | h
      · exact .inl ⟨y, List.mem_append_left _ a, b⟩
      · exact .inr (.inl ⟨y, List.mem_append_left _ a, b⟩)
      · cases h
    · exact .inl ⟨k, List.mem_append_right _ (List.mem_singleton.mpr rfl), h⟩
    · exact .inr (.inl ⟨k, List.mem_append_right _ (List.mem_singleton.mpr rfl), h⟩)
  len := by
    have a := len_setT (setT D (("" : Str), k) (look t1 k)) (k, ("" : Str)) (look t2 k)
    have b := len_setT D (("" : Str), k) (look t1 k)
    have c := T.len
    have d : ([] : List (Str × Str)).length = 0 := rfl
    rw [List.length_append, List.length_singleton]
    omega
theorem PTp.pair {p : Str × Str} (T : PTp t1 t2 t3 ks ps D) (h1 : p.1 ≠ "") (h2 : p.2 ≠ "") : PTp t1 t2 t3 ks (ps ++ [p]) (setT D p (look t3 p)) where
  put := fun y hy => by
    obtain ⟨a, b⟩ := T.put y hy
    rw [keys_setT, look_setT, if_neg (fun e => h1 (congrArg Prod.fst e).symm)]
    exact ⟨.inl a, b⟩
  out := fun y hy => by
    obtain ⟨a, b⟩ := T.out y hy
    rw [keys_setT, look_setT, if_neg (fun e => h2 (congrArg Prod.snd e).symm)]
    exact ⟨.inl a, b⟩
  swp := fun q hq => by
    rw [keys_setT, look_setT]
    rcases List.mem_append.mp hq with h | h
    · obtain ⟨a, b⟩ := T.swp q h
      refine ⟨.inl a, ?_⟩
      by_cases e : q = p
      · rw [if_pos e, e]
      · rw [if_neg e]; exact b
    · rw [List.mem_singleton.mp h]
      exact ⟨.inr rfl, if_pos rfl⟩
  only := fun q hq => by
    rw [keys_setT] at hq
    rcases hq with h | h
    · rcases T.only q h with ⟨y, a, b⟩ | ⟨y, a, b⟩ | h
      · exact .inl ⟨y, a, b⟩
      · exact .inr (.inl ⟨y, a, b⟩)
      · exact .inr (.inr (List.mem_append_left _ h))
    · exact .inr (.inr (List.mem_append_right _ (List.mem_singleton.mpr h)))
  len := by
    have a := len_setT D p (look t3 p)
    have b := T.len
    rw [List.length_append, List.length_singleton]
    omega
end
theorem ne_em {z : Str} (h : sgB z = true) : z ≠ "" := fun e => by
  rw [e] at h
  exact absurd h (by decide +kernel)
def spByP (C : Addr) : Sp := fun vs H Q _ => ∃ (x : Addr) (t1 t2 : PTab) (t3 : STab), vs = [.ref x] ∧ PrAt C H x t1 t2 t3 ∧ RtT t1 t2 t3 ∧ Srt t1 t2 t3 ∧
  ∀ H' c D, Same H H' → H c = none → H' c = some (.dT (kvsS D)) → PTp t1 t2 t3 (t1.map (·.1)) (t3.map (·.1)) D → Q (.ref c) H'
section
variable {P : Program} {w : World} {K : PySem.W.Frag} {mg : Str → Option Value} {base : Heap}
theorem scByP : FnScope nByP ["prices"] (defScope sByP) := ⟨rfl, rfl, rfl, by decide +kernel, rfl, by decide +kernel, by decide +kernel⟩
theorem ok_byP {f C : Addr} {fd : FuncData} (F : Fun K "_prices_by_ends" "_prices_by_ends" sByP f fd) (T : Pc K C) (P0 : Pd P w K mg base C 1 "signs" (spSigns C)) (P1 : Pd P w K mg base C 2 "put" (spTabP C fun t _ => t)) (P2 : Pd P w K mg base C 2 "out" (spTabP C fun _ t => t)) (P3 : Pd P w K mg base C 2 "swap" (spTabS C)) : FnOk P w K mg base CX0 4 f fd ["prices"] (spByP C) := by
  obtain ⟨p0, g0, d0, o0, F0, b0⟩ := P0.ex
  obtain ⟨pa, ga, da, oa, Fa, ba⟩ := P1.ex
  obtain ⟨pb, gb, db, ob, Fb, bb⟩ := P2.ex
  obtain ⟨pc, gc, dc, oc, Fc, bc⟩ := P3.ex
  refine F.ok scByP (fun vs H Q E h => ?_) (fun cdv A outer s H vs Q E hr h => ?_)
  · obtain ⟨x, t1, t2, t3, rfl, _⟩ := h
    rfl
  · have hu := hu_of hr
    have r1 : Room 2 _ := hr.mono (by decide)
    obtain ⟨x, t1, t2, t3, rfl, hx, R, sr, q⟩ := h
    refine ⟨_, pss_cons (ps_set (i := 1) scByP.nd rfl (.inl rfl) pe_dnewT)
      (pss_cons (ps_set (i := 2) scByP.nd rfl (.inl rfl) (pe_prop (pv 0) T.cl oa Fa hr ba .nil pass0 rfl))
      (pss_cons (ps_set (i := 3) scByP.nd rfl (.inl rfl) (pe_prop (pv 0) T.cl ob Fb hr bb .nil pass0 rfl))
      (pss_cons (ps_for PassesOwn.never rfl (pi_tup (pe_prop (pv 0) T.cl o0 F0 r1 b0 .nil pass0 rfl)) (pg_name (i := 4) scByP.nd rfl (.inl rfl))
        (pss_cons (ps_dput hu (pv 1) (pe_tup (pa_cons pe_str (pa_cons (pv 4) pa_nil))) (pe_dget hu (pv 2) (pv 4) (fun _ _ => rfl)) rfl)
        (pss_one (ps_dput hu (pv 1) (pe_tup (pa_cons (pv 4) (pa_cons pe_str pa_nil))) (pe_dget hu (pv 3) (pv 4) (fun _ _ => rfl)) rfl))))
      (pss_cons (ps_set (i := 5) scByP.nd rfl (.inl rfl) (pe_prop (pv 0) T.cl oc Fc hr bc .nil pass0 rfl))
      (pss_cons (ps_lock (ps_for PassesOwn.never rfl (pi_keys (pv 5)) (pg_name (i := 6) scByP.nd rfl (.inl rfl))
        (pss_one (ps_dput hu (pv 1) (pv 6) (pe_dget hu (pv 5) (pv 6) (fun _ _ => rfl)) rfl))))
      (pss_one (ps_ret (pv 1)))))))), ?_⟩
    have n2 : 2 ≤ sizeLine := by decide
    have ag := R.ag
    have hl1 := ag.l1
    have hl2 := ag.l2
    have hl3 := ag.l3
    have nd2 : (t2.map (·.1)).Nodup := ag.pm.nodup_iff.mpr ag.nd
    have ksn : ∀ k ∈ t1.map (·.1), k ≠ ("" : Str) := fun k hk => by
      obtain ⟨p, hp, rfl⟩ := List.mem_map.mp hk
      exact ne_em (ag.sg p hp)
    obtain ⟨dx, t, a, b, d, hx0, ht, hT⟩ := id hx
    refine fun c hc => ?_
    have s0 : Same H (upd H c (.dT [])) := Same.new hc
    have e0 : (upd H c (.dT [])) c = some (.dT (kvsS [])) := upd_same
    generalize upd H c (.dT []) = H0 at s0 e0 ⊢
    refine ⟨_, rfl, x, dx, _, rfl, s0 _ _ hx0, x, t1, t2, t3, rfl, hx.same s0, ag.nd, (by show t1.length ≤ 60; omega), sr, fun H1 D1 s1 f1 e1 => ?_⟩
    have s01 := Same.trans s0 s1
    refine ⟨_, rfl, x, dx, _, rfl, s01 _ _ hx0, x, t1, t2, t3, rfl, hx.same s01, nd2, (by show t2.length ≤ 60; omega), sr, fun H2 D2 s2 f2 e2 => ?_⟩
    have s02 := Same.trans s01 s2
    have c1 : D1 ≠ c := (ne_of_none e0 f1).symm
    have c2 : D2 ≠ c := (ne_of_none (s1 _ _ e0) f2).symm
    have tc : t ≠ c := ne_of_none ht hc
    have xc : x ≠ c := ne_of_none hx0 hc
    have g1 := s2 _ _ e1
    have g0 := (Same.trans s1 s2) _ _ e0
    have gt := s02 _ _ ht
    refine ⟨_, rfl, x, dx, _, rfl, s02 _ _ hx0, x, t1, t2, t3, rfl, hx.same s02, fun t' ht' => ?_⟩
    have et : t' = t ∨ True := .inr trivial
    have tc' : t' ≠ c := fun e => by rw [e, g0] at ht'; cases ht'
    refine ⟨t', rfl, ⟨_, SqT.of ht'⟩, for_tup (xs := (t1.map (·.1)).map V.str) (fun i σ H3 => (∃ o1 o2 o3, σ = [some (.ref x), some (.ref c), some (.ref D1), some (.ref D2), o1, o2, o3]) ∧ ∃ D, Wy H2 H3 c D ∧ PTp t1 t2 t3 ((t1.map (·.1)).take i) [] D) ?_ (fun i σ H3 _ h3 => ?_) ?_ ?_⟩
    · exact ⟨⟨_, _, _, rfl⟩, [], ⟨fun b u _ e => e, g0⟩, PTp.nil⟩
    · obtain ⟨_, D, W, _⟩ := h3
      exact SqT.of (W.same _ _ tc' ht')
    · rintro i v σ H3 hi ⟨⟨o1, o2, o3, rfl⟩, D, W, TT⟩
      rw [List.getElem?_map] at hi
      cases hk : (t1.map (·.1))[i]? with
      | none => rw [hk] at hi; cases hi
      | some k =>
      rw [hk] at hi
      cases hi
      have mk : k ∈ t1.map (·.1) := List.mem_of_getElem? hk
      have nx : (t1.map (·.1)).take (i + 1) = (t1.map (·.1)).take i ++ [k] := by rw [List.take_add_one, hk]; rfl
      rw [nx]
      have lD := TT.len
      rw [List.length_take, List.length_map] at lD
      have TT2 := TT.sign (ksn k mk) fun y hy => ksn y (List.mem_of_mem_take hy)
      refine ⟨_, rfl, _, rfl, D1, _, rfl, getP (.inl (W.same _ _ c1 g1)) mk, _, rfl, _, rfl, n2, fun a1 ha1 => ?_⟩
      obtain ⟨H4, d4, W4⟩ := W.put (x := "") (y := k) (i := look t1 k) ha1 (by simp at lD; omega)
      refine ⟨c, H4, rfl, d4, ?_⟩
      refine ⟨_, rfl, _, rfl, D2, _, rfl, getP (.inl (W4.same _ _ c2 e2)) (ag.pm.mem_iff.mpr mk), _, rfl, _, rfl, n2, fun a2 ha2 => ?_⟩
      have l4 := len_setT D (("" : Str), k) (look t1 k)
      obtain ⟨H5, d5, W5⟩ := W4.put (x := k) (y := "") (i := look t2 k) ha2 (by simp at lD; omega)
      exact ⟨c, H5, rfl, d5, ⟨_, _, _, rfl⟩, _, W5, TT2⟩
    · rintro σ H3 ⟨⟨o1, o2, o3, rfl⟩, D, W, TT⟩
      rw [List.length_map, List.take_length] at TT
      have sH3 : Same H H3 := fun b u e => W.same b u (ne_of_none e hc) (s02 b u e)
      refine ⟨_, rfl, x, dx, _, rfl, sH3 _ _ hx0, x, t1, t2, t3, rfl, hx.same sH3, R.nd, by omega, sr, fun H4 D3 s4 f4 e4 => ?_⟩
      have c3 : D3 ≠ c := (ne_of_none W.out f4).symm
      have sH4 := Same.trans sH3 s4
      have f4' : H D3 = none := sH3.free f4
      have g4 := s4 _ _ W.out
      refine ⟨D3, _, e4, trivial, fun od => ⟨_, rfl, D3, od, rfl, .inr ⟨kvsS t3, upd_same, ?_⟩⟩⟩
      have sL : Same H (upd H4 D3 (.frz od (.dT (kvsS t3)))) := Same.upN sH4 f4'
      have ec : (upd H4 D3 (.frz od (.dT (kvsS t3)))) c = some (.dT (kvsS D)) := (upd_ne c3.symm).trans g4
      have eD : (upd H4 D3 (.frz od (.dT (kvsS t3)))) D3 = some (.frz od (.dT (kvsS t3))) := upd_same
      generalize upd H4 D3 (.frz od (.dT (kvsS t3))) = HL at sL ec eD ⊢
      refine for_it (walk_keysT (d := D3) (o := od) (kvs := kvsS t3)) (fun i σ H5 => (∃ o1 o2, σ = [some (.ref x), some (.ref c), some (.ref D1), some (.ref D2), o1, some (.ref D3), o2]) ∧ ∃ D, Wy HL H5 c D ∧ PTp t1 t2 t3 (t1.map (·.1)) ((t3.map (·.1)).take i) D) ?_ (fun i σ H5 _ h5 => ?_) ?_ ?_
      · exact ⟨⟨_, _, rfl⟩, D, ⟨fun b u _ e => e, ec⟩, TT⟩
      · obtain ⟨_, D, W5, _⟩ := h5
        exact W5.same _ _ c3 eD
      · rintro i v σ H5 H6 hi ⟨⟨o3, o4, rfl⟩, D5, W5, T5⟩ ⟨rfl, k, vv, qa, hk, rfl, hq⟩
        rw [kvsS_len] at hi
        rw [kvsS_at hi] at hk
        cases hk
        have eone : (t3.map (·.1))[i]? = some t3[i].1 := by rw [List.getElem?_map, List.getElem?_eq_getElem hi]; rfl
        have mp : t3[i] ∈ t3 := List.getElem_mem hi
        have mk : t3[i].1 ∈ t3.map (·.1) := List.mem_map.mpr ⟨_, mp, rfl⟩
        have pr := ag.pr t3[i] mp
        have nx : (t3.map (·.1)).take (i + 1) = (t3.map (·.1)).take i ++ [t3[i].1] := by rw [List.take_add_one, eone]; rfl
        rw [nx]
        generalize t3[i].1 = kk at mk pr hq ⊢
        obtain ⟨y, z⟩ := kk
        have T6 := T5.pair (p := (y, z)) (ksn _ pr.1) (ksn _ pr.2.1)
        have l5 := T5.len
        rw [List.length_take, List.length_map, List.length_map] at l5
        have hq : H6 qa = some (.tup [.str y, .str z]) := hq
        refine ⟨_, rfl, _, rfl, D3, _, rfl, .inr ⟨kvsS t3, keyOf (y, z), qa, .inr ⟨od, W5.same _ _ c3 eD⟩, rfl, hq, (valS mk).symm⟩, _, rfl, _, rfl, ?_⟩
        refine ⟨c, _, rfl, .inr ⟨kvsS D5, keyOf (y, z), qa, W5.out, rfl, hq, by rw [kvsS_len]; exact Nat.lt_of_le_of_lt l5 (Nat.lt_of_lt_of_le (by omega : _ < 100) (by decide)), rfl⟩, ⟨_, _, rfl⟩, _, ⟨fun b u n e => (upd_ne n).trans (W5.same b u n e), ?_⟩, T6⟩
        rw [upd_same, putS_set]
      · rintro σ H5 ⟨⟨o3, o4, rfl⟩, D5, W5, T5⟩
        rw [kvsS_len, ← List.length_map (f := fun x : (Str × Str) × Int => x.1), List.take_length] at T5
        refine ⟨W5.same _ _ c3 eD, _, rfl, q _ c D5 (fun b u e => ?_) hc ?_ T5⟩
        · have nb : b ≠ D3 := ne_of_none e f4'
          rw [upd_ne nb]
          exact W5.same _ _ (ne_of_none e hc) (sL _ _ e)
        · rw [upd_ne c3.symm]
          exact W5.out
end
end Mk

set_option Elab.async false
set_option linter.all false
set_option maxRecDepth 100000
set_option maxHeartbeats 1000000
/-! the price of steps -/
namespace Mk
open PySem PySem.Spec L2 PyProof.Rows

abbrev sPS : Stmt := top 33
abbrev nPS : List Str := ["steps", "prices", "table", "_", "old", "new"]
def prc1 (t1 t2 : PTab) (t3 : STab) (o n : Str) : Option Int :=
  if o = "" then (if n ∈ t1.map (·.1) then some (look t1 n) else none)
  else if n = "" then (if o ∈ t1.map (·.1) then some (look t2 o) else none)
  else if (o, n) ∈ t3.map (·.1) then some (look t3 (o, n)) else none
def prc (t1 t2 : PTab) (t3 : STab) (st : List St3) : Option Int :=
  if st.all (fun q => (prc1 t1 t2 t3 q.2.1 q.2.2).isSome) = true then some ((st.map fun q => (prc1 t1 t2 t3 q.2.1 q.2.2).getD 0).sum) else none
def optV : Option Int → V
  | some i => .int i
  | none => .non
theorem PTp.prc {t1 t2 : PTab} {t3 : STab} {D : STab} (T : PTp t1 t2 t3 (t1.map (·.1)) (t3.map (·.1)) D) (R : RtT t1 t2 t3) (o n : Str) : ((o, n) ∈ D.map (·.1) → prc1 t1 t2 t3 o n = some (look D (o, n))) ∧ ((o, n) ∉ D.map (·.1) → prc1 t1 t2 t3 o n = none) := by
  have ksn : ∀ k ∈ t1.map (·.1), k ≠ ("" : Str) := fun k hk => by
    obtain ⟨p, hp, rfl⟩ := List.mem_map.mp hk
    exact ne_em (R.ag.sg p hp)
  have psn : ∀ p ∈ t3.map (·.1), p.1 ≠ ("" : Str) ∧ p.2 ≠ ("" : Str) := fun k hk => by
    obtain ⟨p, hp, rfl⟩ := List.mem_map.mp hk
    have := R.ag.pr p hp
    exact ⟨ksn _ this.1, ksn _ this.2.1⟩
  refine ⟨fun h => ?_, fun h => ?_⟩
  · rcases T.only _ h with ⟨k, hk, e⟩ | ⟨k, hk, e⟩ | hp
    · cases e
      unfold prc1
      rw [if_pos rfl, if_pos hk, (T.put _ hk).2]
    · cases e
      unfold prc1
      rw [if_neg (ksn _ hk), if_pos rfl, if_pos hk, (T.out _ hk).2]
    · unfold prc1
      rw [if_neg (psn _ hp).1, if_neg (psn _ hp).2, if_pos hp, (T.swp _ hp).2]
  · unfold prc1
    by_cases e1 : o = ""
    · rw [if_pos e1]
      by_cases h1 : n ∈ t1.map (·.1)
      · rw [e1] at h
        exact absurd (T.put n h1).1 h
      · rw [if_neg h1]
    · rw [if_neg e1]
      by_cases e2 : n = ""
      · rw [if_pos e2]
        by_cases h1 : o ∈ t1.map (·.1)
        · rw [e2] at h
          exact absurd (T.out o h1).1 h
        · rw [if_neg h1]
      · rw [if_neg e2]
        by_cases h1 : (o, n) ∈ t3.map (·.1)
        · exact absurd (T.swp _ h1).1 h
        · rw [if_neg h1]
def spPS (C : Addr) : Sp := fun vs H Q _ => ∃ (L x : Addr) (ts : List Addr) (st : List St3) (t1 t2 : PTab) (t3 : STab), vs = [.ref L, .ref x] ∧ H L = some (.lst (ts.map V.ref)) ∧ Tup3 H ts st ∧ st.length ≤ 200 ∧ PrAt C H x t1 t2 t3 ∧ RtT t1 t2 t3 ∧ Srt t1 t2 t3 ∧
  ∀ H', Same H H' → Q (optV (prc t1 t2 t3 st)) H'
section
variable {P : Program} {w : World} {K : PySem.W.Frag} {mg : Str → Option Value} {base : Heap}
theorem scPS : FnScope nPS ["steps", "prices"] (defScope sPS) := ⟨rfl, rfl, rfl, by decide +kernel, rfl, by decide +kernel, by decide +kernel⟩
theorem ok_ps {f C : Addr} {fd : FuncData} (F : Fun K "price_of_steps" "price_of_steps" sPS f fd) (O : On mg) (hsum : mg "sum" = none) (J : Cd P w K mg base 4 "_prices_by_ends" ["prices"] (spByP C)) : FnOk P w K mg base CX0 5 f fd ["steps", "prices"] (spPS C) := by
  obtain ⟨j, dj, G, gm, gk, gb⟩ := J.ex
  refine F.ok scPS (fun vs H Q E h => ?_) (fun cdv A outer s H vs Q E hr h => ?_)
  · obtain ⟨L, x, ts, st, t1, t2, t3, rfl, _⟩ := h
    rfl
  · have hu := hu_of hr
    obtain ⟨L, x, ts, st, t1, t2, t3, rfl, hL, hT, ls, hx, R, sr, q⟩ := h
    refine ⟨_, pss_cons (ps_set (i := 2) scPS.nd rfl (.inr rfl) (pe_call G hr (by rfl) gm gk gb .nil pass0 (pa_cons (pv 1) pa_nil)))
      (pss_cons (ps_if (pt_not (pt_val (pe_callB (cr_all rfl) (by rfl) O.all (by decide +kernel) (pa_cons (pe_lc (own := [("_", 3), ("old", 4), ("new", 5)]) (g := gTup K 3 (gCons (gName 3) (gCons (gName 4) (gCons (gName 5) gNil)))) (tt := tYes) rfl scPS.nd (pi_list (pv 0)) (blkOk_by (N := nPS) (sc := defScope sPS) (by decide +kernel))
          (fun _ _ _ _ _ => pg_tup rfl (pgs_cons (pg_name (i := 3) scPS.nd rfl (Or.inl rfl)) (pgs_cons (pg_name (i := 4) scPS.nd rfl (Or.inl rfl)) (pgs_cons (pg_name (i := 5) scPS.nd rfl (Or.inl rfl)) pgs_nil)))) (fun _ _ _ _ _ => pts_nil)
          (fun _ _ _ _ _ => pe_cmp (pc_din hu (pe_tup (pa_cons (pv 4) (pa_cons (pv 5) pa_nil))) (pv 2)))) pa_nil)))) (pss_one (ps_ret pe_non)) pss_nil)
      (pss_one (ps_ret (pe_callB (cr_sum rfl) (by rfl) hsum (by decide +kernel) (pa_cons (pe_lc (own := [("_", 3), ("old", 4), ("new", 5)]) (g := gTup K 3 (gCons (gName 3) (gCons (gName 4) (gCons (gName 5) gNil)))) (tt := tYes) rfl scPS.nd (pi_list (pv 0)) (blkOk_by (N := nPS) (sc := defScope sPS) (by decide +kernel))
          (fun _ _ _ _ _ => pg_tup rfl (pgs_cons (pg_name (i := 3) scPS.nd rfl (Or.inl rfl)) (pgs_cons (pg_name (i := 4) scPS.nd rfl (Or.inl rfl)) (pgs_cons (pg_name (i := 5) scPS.nd rfl (Or.inl rfl)) pgs_nil)))) (fun _ _ _ _ _ => pts_nil)
          (fun _ _ _ _ _ => pe_dget hu (pv 2) (pe_tup (pa_cons (pv 4) (pa_cons (pv 5) pa_nil))) (fun _ _ => rfl))) pa_nil))))), ?_⟩
    have n2 : 2 ≤ sizeLine := by decide
    have lt1 : ∀ {n : Nat}, n ≤ 5000 → n < sizeLine := fun h1 => by rw [sizeLine_eq]; omega
    have ltl := Paired.length hT
    refine ⟨_, rfl, x, t1, t2, t3, rfl, hx, R, sr, fun H1 c D s1 fc ec T => ?_⟩
    refine ⟨_, rfl, L, rfl, ⟨_, SqL.of (s1 _ _ hL)⟩, fun D1 hD1 => lc_list (xs := ts.map V.ref) (fun i H2 => Same H1 H2 ∧ H2 D1 = some (.lst (((st.take i).map fun q => decide ((q.2.1, q.2.2) ∈ D.map (·.1))).map V.bl))) ⟨Same.new hD1, upd_same⟩ (fun i H2 _ h2 => SqL.of (h2.1 _ _ (s1 _ _ hL))) ?_ ?_⟩
    · rintro i v H2 hi ⟨s2, e2⟩
      rw [List.getElem?_map] at hi
      cases hti : ts[i]? with
      | none => rw [hti] at hi; cases hi
      | some t =>
      rw [hti] at hi
      cases hi
      obtain ⟨⟨qi, qo, qn⟩, hq, ht⟩ := L2.paired_get hT hti
      have il : i < st.length := (List.getElem?_eq_some_iff.mp hq).1
      have nx : st.take (i + 1) = st.take i ++ [(qi, qo, qn)] := by rw [List.take_add_one, hq]; rfl
      refine ⟨t, _, rfl, .inl (.inl (s2 _ _ (s1 _ _ ht))), rfl, _, _, rfl, _, _, rfl, _, _, rfl, rfl, ?_⟩
      refine ⟨rfl, _, rfl, _, rfl, n2, fun p hp => ?_⟩
      have eD := (upd_ne (o := .tup [.str qo, .str qn]) (ne_of_none e2 hp)).trans e2
      refine ⟨_, rfl, c, _, rfl, .inr ⟨kvsS D, keyOf (qo, qn), p, .inl (Same.new hp _ _ (s2 _ _ ec)), rfl, upd_same, rfl⟩, _, eD, ?_, Same.upN (s2.trans (Same.new hp)) hD1, ?_⟩
      · rw [List.length_map, List.length_map, List.length_take]
        exact lt1 (by omega)
      · rw [upd_same, nx, List.map_append, List.map_append]
        by_cases h : (qo, qn) ∈ D.map (·.1)
        · rw [valS h]
          show _ = some (HO.lst (_ ++ [V.bl (decide ((qo, qn) ∈ D.map (·.1)))]))
          rw [decide_eq_true h]
          rfl
        · rw [noS h]
          show _ = some (HO.lst (_ ++ [V.bl (decide ((qo, qn) ∈ D.map (·.1)))]))
          rw [decide_eq_false h]
          rfl
    · rintro H2 ⟨s2, e2⟩
      rw [List.length_map, ltl, List.take_length] at e2
      refine ⟨_, _, rfl, SqL.of e2, _, rfl, ?_⟩
      have s12 := Same.trans s1 s2
      cases hall : (st.map fun q => decide ((q.2.1, q.2.2) ∈ D.map (·.1))).all id with
      | false =>
        have e : prc t1 t2 t3 st = none := by
          refine if_neg fun c => ?_
          have : (st.map fun q => decide ((q.2.1, q.2.2) ∈ D.map (·.1))).all id = true := by
            rw [List.all_map]
            refine List.all_eq_true.mpr fun q hq => ?_
            have h1 := List.all_eq_true.mp c q hq
            show decide _ = true
            refine decide_eq_true (Classical.byContradiction fun h => ?_)
            rw [(T.prc R _ _).2 h] at h1
            cases h1
          rw [this] at hall
          cases hall
        have q2 := q _ s12
        rw [e] at q2
        exact iteT q2
      | true =>
        have mem : ∀ q ∈ st, (q.2.1, q.2.2) ∈ D.map (·.1) := fun q hq => by
          rw [List.all_map] at hall
          exact of_decide_eq_true (List.all_eq_true.mp hall q hq)
        have e : prc t1 t2 t3 st = some ((st.map fun q => look D (q.2.1, q.2.2)).sum) := by
          unfold Mk.prc
          rw [if_pos (List.all_eq_true.mpr fun q hq => by rw [(T.prc R _ _).1 (mem q hq)]; rfl)]
          refine congrArg some (congrArg List.sum (List.map_congr_left fun q hq => ?_))
          rw [(T.prc R _ _).1 (mem q hq)]
          rfl
        refine iteF ?_
        refine ⟨_, rfl, L, rfl, ⟨_, SqL.of (s12 _ _ hL)⟩, fun D2 hD2 => lc_list (xs := ts.map V.ref) (fun i H3 => Same H2 H3 ∧ H3 D2 = some (.lst (((st.take i).map fun q => look D (q.2.1, q.2.2)).map V.int))) ⟨Same.new hD2, upd_same⟩ (fun i H3 _ h3 => SqL.of (h3.1 _ _ (s12 _ _ hL))) ?_ ?_⟩
        · rintro i v H3 hi ⟨s3, e3⟩
          rw [List.getElem?_map] at hi
          cases hti : ts[i]? with
          | none => rw [hti] at hi; cases hi
          | some t =>
          rw [hti] at hi
          cases hi
          obtain ⟨⟨qi, qo, qn⟩, hq, ht⟩ := L2.paired_get hT hti
          have il : i < st.length := (List.getElem?_eq_some_iff.mp hq).1
          have nx : st.take (i + 1) = st.take i ++ [(qi, qo, qn)] := by rw [List.take_add_one, hq]; rfl
          have mq : (qo, qn) ∈ D.map (·.1) := mem _ (List.mem_of_getElem? hq)
          refine ⟨t, _, rfl, .inl (.inl (s3 _ _ (s12 _ _ ht))), rfl, _, _, rfl, _, _, rfl, _, _, rfl, rfl, ?_⟩
          refine ⟨rfl, _, rfl, _, rfl, _, rfl, n2, fun p hp => ?_⟩
          have eD := (upd_ne (o := .tup [.str qo, .str qn]) (ne_of_none e3 hp)).trans e3
          refine ⟨c, _, rfl, .inr ⟨kvsS D, keyOf (qo, qn), p, .inl (Same.new hp _ _ (s3 _ _ (s2 _ _ ec))), rfl, upd_same, (valS mq).symm⟩, _, eD, ?_, Same.upN (s3.trans (Same.new hp)) hD2, ?_⟩
          · rw [List.length_map, List.length_map, List.length_take]
            exact lt1 (by omega)
          · rw [upd_same, nx, List.map_append, List.map_append]
            rfl
        · rintro H3 ⟨s3, e3⟩
          rw [List.length_map, ltl, List.take_length] at e3
          refine ⟨_, _, rfl, SqL.of e3, ?_⟩
          have q2 := q _ (s12.trans s3)
          rw [e] at q2
          exact q2
end
end Mk

set_option Elab.async false
set_option linter.all false
set_option maxRecDepth 100000
set_option maxHeartbeats 4000000
namespace Mk
open PySem PySem.Spec PyProof.Rows L2

section
variable {prog : Program} {w : World} {A : Around} {E : Value → Shared → Prop} {s : Shared}
theorem places_back (n : Nat) : Builtin.Slice.slicePlaces ((n : Int) - 1) (-1) (-1) = n := by
  unfold Builtin.Slice.slicePlaces
  rw [if_neg (by decide)]
  by_cases h : (n : Int) - 1 > -1
  · rw [if_pos h]
    have e : ((n : Int) - 1 - -1 - 1) / (- -1) + 1 = (n : Int) := by
      rw [show (- -1 : Int) = 1 by decide, Int.ediv_one]
      omega
    rw [e]
    omega
  · rw [if_neg h]
    show 0 = n
    omega
theorem applied_back {sl : Addr} {vl vu vs : Value} {n : Nat} {Q : Int × Int × Nat → Shared → Prop} (hs : s.heap.IsSliceOf sl vl vu vs) (pl : IsPart vl none) (pu : IsPart vu none) (ps : IsPart vs (some (-1)))
    (h : Q ((n : Int) - 1, -1, n) s) : wpAny (model prog w) A (Builtin.Slice.sliceApplied (.ref sl) (pure (n : Int))) Q E s := by
  obtain ⟨os, hos, hcs, hds⟩ := id hs
  unfold Builtin.Slice.sliceApplied Builtin.Slice.sliceFields
  refine wpAny_bind (wpAny_bind (wpAny_field hos hds (x := vl) rfl (wpAny_bind (wpAny_field hos hds (x := vu) rfl (wpAny_bind (wpAny_field hos hds (x := vs) rfl (wpAny_pure ?_)))))))
  refine wpAny_bind (HT.slicePart_ ps ?_)
  show wpAny _ _ (if ((-1 : Int) == 0) = true then _ else _) _ _ s
  rw [if_neg (by decide)]
  refine wpAny_bind (HT.slicePart_ pl (wpAny_bind (HT.slicePart_ pu (wpAny_bind (wpAny_pure ?_)))))
  show wpAny _ _ (pure ((n : Int) - 1, (-1 : Int), Builtin.Slice.slicePlaces ((n : Int) - 1) (-1) (-1))) _ _ s
  rw [places_back]
  exact wpAny_pure h
theorem pick_back (xs : Array Value) : ((List.range xs.size).filterMap fun (m : Nat) => xs[((xs.size : Int) - 1 + (m : Int) * -1).toNat]?).toArray = xs.toList.reverse.toArray := by
  have e : (List.range xs.size).filterMap (fun (m : Nat) => xs[((xs.size : Int) - 1 + (m : Int) * -1).toNat]?) = ((List.range xs.size).map fun m => xs.size - 1 - m).filterMap (xs[·]?) := by
    rw [List.filterMap_map]
    have g : ∀ l : List Nat, (∀ m ∈ l, m < xs.size) → l.filterMap (fun (m : Nat) => xs[((xs.size : Int) - 1 + (m : Int) * -1).toNat]?) = l.filterMap ((xs[·]?) ∘ fun m => xs.size - 1 - m) := by
      intro l
      induction l with
      | nil => exact fun _ => rfl
      | cons m t ih =>
        intro h
        have := h m List.mem_cons_self
        have q : ((xs.size : Int) - 1 + (m : Int) * -1).toNat = xs.size - 1 - m := by omega
        rw [List.filterMap_cons, List.filterMap_cons, ih fun x hx => h x (List.mem_cons_of_mem _ hx), q]
        rfl
    exact g _ fun m hm => List.mem_range.mp hm
  rw [e, PySem.W.krv_range, List.filterMap_reverse, PySem.W.krv_all]
theorem getItem_tuple_back {t sl : Addr} {items : Array Value} {vl vu vs : Value} {Q : Value → Shared → Prop} (ht : IsTup s.heap t items) (hs : s.heap.IsSliceOf sl vl vu vs) (pl : IsPart vl none) (pu : IsPart vu none) (ps : IsPart vs (some (-1)))
    (h : Q (.ref s.heap.objs.size) { s with heap := s.heap.push { cls := .type "tuple", data := .seq items.toList.reverse.toArray } }) (hsz : items.size ≤ sizeLine) : wpAny (model prog w) A (getItem (.ref t) (.ref sl)) Q E s := by
  have ok : sizeOk (.seq items.toList.reverse.toArray) := by
    show items.toList.reverse.toArray.size ≤ sizeLine
    rw [List.size_toArray, List.length_reverse, Array.length_toList]
    exact hsz
  obtain ⟨os, hos, hcs, hds⟩ := id hs
  have tS : s.TypeIs (.ref sl) "slice" := ⟨os, hos, hcs⟩
  unfold getItem
  try with_reducible refine wpAny_holding ?_
  first | refine wpAny_bind (wpAny_pure ?_) | skip
  refine wpAny_bind (wpAny_sequenceKey ht.typeIs (by decide) ?_)
  refine wpAny_bind (wpAny_callSpecial?_slot (name := Str.ofString "__getitem__") ht.typeIs slot_tuple_getitem (wpAny_call_entry slot_tuple_getitem ht.typeIs entry_tuple_getitem ?_ (args_tuple_getitem _ _)))
  show wpAny _ _ (Builtin.Tuple.tupleItemsOf (.ref t) >>= _) _ _ s
  refine wpAny_bind (tupleItemsOf_ ht (wpAny_bind (wpAny_typeOf tS ?_)))
  rw [if_pos (by decide)]
  refine wpAny_bind (applied_back hs pl pu ps ?_)
  have no : ¬ (((items.size : Int) - 1 == 0 && (-1 : Int) == 1 && items.size == items.size) = true) := by
    simp
  show wpAny _ _ (if ((items.size : Int) - 1 == 0 && (-1 : Int) == 1 && items.size == items.size) = true then _ else _) _ _ s
  rw [if_neg no, pick_back]
  first
    | exact wpAny_bind (m := Builtin.Tuple.tupleExact _) (wpAny_newObj_type (wpAny_pure ⟨_, rfl, wpAny_pure h⟩) ok)
    | exact wpAny_bind (m := Builtin.Tuple.tupleExact _) (wpAny_newObj_type (wpAny_bind (wpAny_pure (wpAny_pure ⟨_, rfl, wpAny_pure h⟩))) ok)
    | exact wpAny_bind (wpAny_bind (m := Builtin.Tuple.tupleExact _) (wpAny_newObj_type (wpAny_pure (wpAny_pure ⟨_, rfl, wpAny_pure h⟩)) ok))
    | exact wpAny_bind (wpAny_bind (m := Builtin.Tuple.tupleExact _) (wpAny_newObj_type (wpAny_pure ⟨_, rfl, wpAny_pure h⟩) ok))
end
/-- t[::-1], a tuple -/
def tRevT (K : PySem.W.Frag) (te : TE) : TE := fun σ H Q => te σ H fun x H1 => ∃ a xs, x = .ref a ∧ SqT K H1 a xs ∧ ∀ p, H1 p = none → Q (.ref p) (upd H1 p (.tup xs.reverse))
section
variable {X : Cx}
theorem pe_revT {e : Expr} {te : TE} {k : Nat} {p1 p2 p3 pos : Pos} (he : PE X e te) : PE X (.Subscript e (.Slice none none (some (.UnaryOp .USub (.Constant (.int 1) k p1) p2)) p3) pos) (tRevT X.K te) := by
  refine ⟨fun pins s σ H Q I h => Subscript_ (thn (he.run pins s σ H _ I h) fun v s1 ⟨x, H1, I1, r1, a, xs, ex, hx, q⟩ => ?_)⟩
  subst ex
  obtain rfl : v = Value.ref a := r1
  have st : PO X (some (.UnaryOp .USub (.Constant (.int 1) k p1) p2)) (tPart (tUn (rU fun i => .int (-i)) (tC (.int 1)))) := po_some (pe_un un_neg pe_int)
  refine wpAny_Slice (thn (po_none.run pins s1 σ H1 (fun o H2 => o = none ∧ H2 = H1) I1 ⟨rfl, rfl⟩) fun vl s2 ⟨l, H2, I2, pl, el, e2⟩ => ?_)
  subst el e2
  refine thn (po_none.run pins s2 σ H2 (fun o H3 => o = none ∧ H3 = H2) I2 ⟨rfl, rfl⟩) fun vu s3 ⟨u, H3, I3, pu, eu, e3⟩ => ?_
  subst eu e3
  refine thn (st.run pins s3 σ H3 (fun o H4 => o = some (-1) ∧ H4 = H3) I3 ⟨1, rfl, -1, rfl, rfl, rfl⟩) fun vs s4 ⟨o, H4, I4, ps, eo, e4⟩ => ?_
  subst eo e4
  have I5 : Inv X pins σ H4 { s4 with heap := s4.heap.push { cls := .type "slice", data := .fields #[vl, vu, vs] } } := I4.kept (t' := s4.toks) fun b ob q => Heap.get?_push_of_some _ q
  obtain ⟨its, r, ht, hz⟩ := I5.tuple hx
  have ln := r.length
  have hT : IsTup (s4.heap.push { cls := .type "slice", data := .fields #[vl, vu, vs] }) a its.toArray := by
    obtain ⟨o, e1, e2, n, e3⟩ := ht
    exact ⟨o, e1, e2, n, e3⟩
  show wpAny (model X.prog X.w) X.A (subscriptTail e (.Slice none none (some (.UnaryOp .USub (.Constant (.int 1) k p1) p2)) p3) (.ref a) (.ref s4.heap.objs.size)) (EP X pins σ Q) X.xe { s4 with heap := s4.heap.push { cls := .type "slice", data := .fields #[vl, vu, vs] } }
  refine tail_any (ops := [.ref a, .ref s4.heap.objs.size]) hT.typeIs (slot_tuple_getitem.lookup) ?_ (by with_unfolding_all rfl)
  refine getItem_tuple_back hT (Heap.IsSliceOf.new _ vl vu vs) pl pu ps ?_ (by rw [List.size_toArray]; omega)
  refine ⟨.ref _, _, I5.laid (t' := s4.toks) (o := .tup xs.reverse) (fun b ob q => Heap.get?_push_of_some _ q) (Nat.le_refl _) ?_, rfl, q _ (I5.hok.fresh (Nat.le_refl _))⟩
  exact ⟨by rw [List.length_reverse]; exact hz, _, r.reverse, _, Heap.get?_push_size _ rfl, rfl, _, rfl⟩
end
end Mk

set_option Elab.async false
set_option linter.all false
set_option maxRecDepth 100000
set_option maxHeartbeats 4000000
/-! xs[::-1], a list -/
namespace Mk
open PySem PySem.Spec PyProof.Rows L2
def tRevL (K : PySem.W.Frag) (te : TE) : TE := fun σ H Q => te σ H fun x H1 => ∃ a xs, x = .ref a ∧ SqL K H1 a xs ∧ ∀ p, H1 p = none → Q (.ref p) (upd H1 p (.lst xs.reverse))
section
variable {X : Cx}
theorem pe_revL {e : Expr} {te : TE} {k : Nat} {p1 p2 p3 pos : Pos} (he : PE X e te) : PE X (.Subscript e (.Slice none none (some (.UnaryOp .USub (.Constant (.int 1) k p1) p2)) p3) pos) (tRevL X.K te) := by
  refine ⟨fun pins s σ H Q I h => Subscript_ (thn (he.run pins s σ H _ I h) fun v s1 ⟨x, H1, I1, r1, a, xs, ex, hx, q⟩ => ?_)⟩
  subst ex
  obtain rfl : v = Value.ref a := r1
  have st : PO X (some (.UnaryOp .USub (.Constant (.int 1) k p1) p2)) (tPart (tUn (rU fun i => .int (-i)) (tC (.int 1)))) := po_some (pe_un un_neg pe_int)
  refine wpAny_Slice (thn (po_none.run pins s1 σ H1 (fun o H2 => o = none ∧ H2 = H1) I1 ⟨rfl, rfl⟩) fun vl s2 ⟨l, H2, I2, pl, el, e2⟩ => ?_)
  subst el e2
  refine thn (po_none.run pins s2 σ H2 (fun o H3 => o = none ∧ H3 = H2) I2 ⟨rfl, rfl⟩) fun vu s3 ⟨u, H3, I3, pu, eu, e3⟩ => ?_
  subst eu e3
  refine thn (st.run pins s3 σ H3 (fun o H4 => o = some (-1) ∧ H4 = H3) I3 ⟨1, rfl, -1, rfl, rfl, rfl⟩) fun vs s4 ⟨o, H4, I4, ps, eo, e4⟩ => ?_
  subst eo e4
  have I5 : Inv X pins σ H4 { s4 with heap := s4.heap.push { cls := .type "slice", data := .fields #[vl, vu, vs] } } := I4.kept (t' := s4.toks) fun b ob q => Heap.get?_push_of_some _ q
  obtain ⟨its, r, ht, hz⟩ := I5.list hx
  have ln := r.length
  show wpAny (model X.prog X.w) X.A (subscriptTail e (.Slice none none (some (.UnaryOp .USub (.Constant (.int 1) k p1) p2)) p3) (.ref a) (.ref s4.heap.objs.size)) (EP X pins σ Q) X.xe { s4 with heap := s4.heap.push { cls := .type "slice", data := .fields #[vl, vu, vs] } }
  refine tail_any (ops := [.ref a, .ref s4.heap.objs.size]) ht.isList.typeIs (slot_list_getitem.lookup) ?_ (by with_unfolding_all rfl)
  refine wpAny_getItem_list_slice ht.isList (Heap.IsSliceOf.new _ vl vu vs) pl pu ps (by decide) ?_ (by rw [List.size_toArray]; omega)
  have ek : slicePick its.toArray none none (some (-1)) = its.reverse.toArray := PySem.W.krv_pick its.toArray
  rw [ek]
  refine ⟨.ref _, _, I5.laid (t' := s4.toks) (o := .lst xs.reverse) (fun b ob q => Heap.get?_push_of_some _ q) (Nat.le_refl _) ?_, rfl, q _ (I5.hok.fresh (Nat.le_refl _))⟩
  exact ⟨by rw [List.length_reverse]; exact hz, _, 0, r.reverse, Heap.get?_push_size _ rfl⟩
end
end Mk

set_option Elab.async false
set_option linter.all false
set_option maxRecDepth 100000
set_option maxHeartbeats 1000000
namespace Mk
open PySem PySem.Spec L2 PyProof.Rows

section
variable {α : Type} [DecidableEq α]
theorem setT_perm {t u : List (α × Int)} (p : u.Perm t) (k : α) (i : Int) : (setT u k i).Perm (setT t k i) := by
  have m : k ∈ u.map (·.1) ↔ k ∈ t.map (·.1) := (p.map (·.1)).mem_iff
  by_cases h : k ∈ t.map (·.1)
  · unfold setT
    rw [if_pos h, if_pos (m.mpr h)]
    exact p.map _
  · rw [setT_out h, setT_out (fun z => h (m.mp z))]
    exact p.append_right _
theorem delT_perm {t u : List (α × Int)} (p : u.Perm t) (k : α) : (delT u k).Perm (delT t k) := p.filter _
theorem look_perm {t u : List (α × Int)} (p : u.Perm t) (nd : (t.map (·.1)).Nodup) {k : α} (h : k ∈ t.map (·.1)) : look u k = look t k := by
  obtain ⟨q, hq, rfl⟩ := List.mem_map.mp h
  rw [look_mem nd q hq, look_mem ((p.map (·.1)).nodup_iff.mpr nd) q (p.mem_iff.mpr hq)]
theorem put_same {t u : List (α × Int)} (p : u.Perm t) (nd : (t.map (·.1)).Nodup) {zs : List α} (h : ∀ z ∈ zs, z ∈ t.map (·.1)) : put u zs = put t zs :=
  List.map_congr_left fun z hz => by rw [look_perm p nd (h z hz)]
end
theorem okP_perm {t u : PTab} (p : u.Perm t) {m : Int} (h : okP t m = true) : okP u m = true := List.all_eq_true.mpr fun q hq => List.all_eq_true.mp h q (p.mem_iff.mp hq)
theorem okS_perm {t u : STab} (p : u.Perm t) {m : Int} (h : okS t m = true) : okS u m = true := List.all_eq_true.mpr fun q hq => List.all_eq_true.mp h q (p.mem_iff.mp hq)
theorem Agree.perm {t1 t2 u1 u2 : PTab} {t3 u3 : STab} (a : Agree t1 t2 t3) (p1 : u1.Perm t1) (p2 : u2.Perm t2) (p3 : u3.Perm t3) : Agree u1 u2 u3 where
  sg := fun p hp => a.sg p (p1.mem_iff.mp hp)
  nd := (p1.map (·.1)).nodup_iff.mpr a.nd
  l1 := by rw [p1.length_eq]; exact a.l1
  pm := ((p2.map (·.1)).trans a.pm).trans (p1.map (·.1)).symm
  l3 := by rw [p3.length_eq]; exact a.l3
  pr := fun p hp => by
    have h := a.pr p (p3.mem_iff.mp hp)
    exact ⟨(p1.map (·.1)).mem_iff.mpr h.1, (p1.map (·.1)).mem_iff.mpr h.2.1, h.2.2⟩
theorem right_perm {t1 t2 u1 u2 : PTab} {t3 u3 : STab} (h : rightB t1 t2 t3 = true) (p1 : u1.Perm t1) (p2 : u2.Perm t2) (p3 : u3.Perm t3) : rightB u1 u2 u3 = true := by
  unfold rightB at h ⊢
  simp only [Bool.and_eq_true] at h ⊢
  refine ⟨okP_perm p1 h.1, ?_, okP_perm p2 h.2.2.1, okS_perm p3 h.2.2.2⟩
  have h2 := h.2.1
  cases u1 with
  | nil =>
    have := List.Perm.nil_eq p1
    rw [← this] at h2
    exact h2
  | cons _ _ => rfl
theorem RtT.perm {t1 t2 u1 u2 : PTab} {t3 u3 : STab} (r : RtT t1 t2 t3) (p1 : u1.Perm t1) (p2 : u2.Perm t2) (p3 : u3.Perm t3) : RtT u1 u2 u3 :=
  ⟨r.ag.perm p1 p2 p3, (p3.map (·.1)).nodup_iff.mpr r.nd, right_perm r.rt p1 p2 p3⟩
section
variable {t1 t2 : PTab} {t3 : STab}
theorem RtT.set1 (r : RtT t1 t2 t3) {k : Str} {i : Int} (h : k ∈ t1.map (·.1)) (hi : nwB i 1 9 = true) : RtT (setT t1 k i) t2 t3 := ⟨r.ag.set1 h, r.nd, right_1 r.rt hi⟩
theorem RtT.set2 (r : RtT t1 t2 t3) {k : Str} {i : Int} (h : k ∈ t1.map (·.1)) (hi : nwB i 1 9 = true) : RtT t1 (setT t2 k i) t3 := ⟨r.ag.set2 h, r.nd, right_2 r.rt hi⟩
theorem RtT.del3 (r : RtT t1 t2 t3) (k : Str × Str) : RtT t1 t2 (delT t3 k) := ⟨r.ag.del3, delT_nd r.nd, right_3 r.rt fun h => okS_del h⟩
theorem nodup_len {α : Type} [DecidableEq α] : ∀ {ks ls : List α}, ks.Nodup → (∀ k ∈ ks, k ∈ ls) → ks.length ≤ ls.length
  | [], _, _, _ => Nat.zero_le _
  | k :: ks, ls, nd, h => by
    have hk := h k List.mem_cons_self
    obtain ⟨n1, n2⟩ := List.nodup_cons.mp nd
    have ih := nodup_len (ls := ls.erase k) n2 fun x hx => (List.mem_erase_of_ne (fun e : x = k => n1 (by rw [← e]; exact hx))).mpr (h x (List.mem_cons_of_mem _ hx))
    rw [List.length_erase_of_mem hk] at ih
    have := List.length_pos_of_mem hk
    rw [List.length_cons]
    omega
/-- pairs of at most five signs are at most twenty -/
theorem few_pairs {zs : List Str} {ks : List (Str × Str)} (nd : ks.Nodup) (ndz : zs.Nodup) (hl : zs.length ≤ 5) (h : ∀ k ∈ ks, k.1 ∈ zs ∧ k.2 ∈ zs ∧ k.1 ≠ k.2) : ks.length ≤ 20 :=
  Nat.le_trans (nodup_len nd fun k hk => mem_pairs.mpr (h k hk)) (len_pairs hl)
theorem RtT.set3 (r : RtT t1 t2 t3) {x y : Str} {i : Int} (hx : x ∈ t1.map (·.1)) (hy : y ∈ t1.map (·.1)) (hxy : x ≠ y) (hi : nwB i 1 18 = true) : (setT t3 (x, y) i).length ≤ 20 ∧ RtT t1 t2 (setT t3 (x, y) i) := by
  have nd := setT_nd (k := (x, y)) (i := i) r.nd
  have l20 : (setT t3 (x, y) i).length ≤ 20 := by
    have := few_pairs (zs := t1.map (·.1)) nd r.ag.nd (by rw [List.length_map]; exact r.ag.l1) fun k hk => by
      obtain ⟨q, hq, rfl⟩ := List.mem_map.mp hk
      rcases setT_mem hq with h | rfl
      · exact r.ag.pr q h
      · exact ⟨hx, hy, hxy⟩
    rwa [List.length_map] at this
  exact ⟨l20, r.ag.set3 hx hy hxy l20, nd, right_3 r.rt fun h => okS_set h hi⟩
end
/-- the prices at x tell these tables -/
def Told (C : Addr) (H : Hp) (x : Addr) (t1 t2 : PTab) (t3 : STab) : Prop := ∃ u1 u2 u3, PrAt C H x u1 u2 u3 ∧ u1.Perm t1 ∧ u2.Perm t2 ∧ u3.Perm t3 ∧ Srt u1 u2 u3
theorem Told.same {C : Addr} {H H' : Hp} {x : Addr} {t1 t2 : PTab} {t3 : STab} (h : Told C H x t1 t2 t3) (s : Same H H') : Told C H' x t1 t2 t3 := by
  obtain ⟨u1, u2, u3, a, r⟩ := h
  exact ⟨u1, u2, u3, a.same s, r⟩
def Good (C : Addr) (H : Hp) (x L : Addr) : Prop := ∃ a b c t1 t2 t3, Told C H x t1 t2 t3 ∧ Rec H L a b c t1 t2 t3 ∧ RtT t1 t2 t3
theorem Good.same {C : Addr} {H H' : Hp} {x L : Addr} (h : Good C H x L) (s : Same H H') : Good C H' x L := by
  obtain ⟨a, b, c, t1, t2, t3, t, r, q⟩ := h
  exact ⟨a, b, c, t1, t2, t3, t.same s, r.same s, q⟩
section
variable {C p x L a b c : Addr} {H H' : Hp} {n : Nat} {t1 t2 : PTab} {t3 : STab}
theorem Pot.not {o : HO} (P : Pot H p n) (e : H b = some o) (h : ∀ i j k : Int, o ≠ .lst [.int i, .int j, .int k]) : b ≠ p := fun z => by
  obtain ⟨u, m, k, ep, _⟩ := P
  rw [z, ep] at e
  exact h _ _ _ (Option.some.inj e).symm
theorem But.at_ {o : HO} (B : But p H H') (P : Pot H p n) (e : H b = some o) (h : ∀ i j k : Int, o ≠ .lst [.int i, .int j, .int k]) : H' b = some o := B _ _ (P.not e h) e
theorem Tabs.but (h : Tabs H a b c t1 t2 t3) (B : But p H H') (P : Pot H p n) : Tabs H' a b c t1 t2 t3 := ⟨B.at_ P h.p (fun _ _ _ z => nomatch z), B.at_ P h.o (fun _ _ _ z => nomatch z), B.at_ P h.s (fun _ _ _ z => nomatch z)⟩
theorem Rec.but (h : Rec H L a b c t1 t2 t3) (B : But p H H') (P : Pot H p n) : Rec H' L a b c t1 t2 t3 := ⟨B.at_ P h.l (fun _ _ _ z => by cases z), h.t.but B P⟩
theorem strs_not {zs : List Str} : ∀ i j k : Int, (HO.lst (zs.map V.str)) ≠ .lst [.int i, .int j, .int k] := fun i j k z => by
  injection z with z
  obtain ⟨y, r, _, e, _⟩ := List.map_eq_cons_iff.mp z
  cases e
theorem Told.but (h : Told C H x t1 t2 t3) (B : But p H H') (P : Pot H p n) : Told C H' x t1 t2 t3 := by
  obtain ⟨u1, u2, u3, ⟨dx, t, a, b, c, h1, h2, h3⟩, r⟩ := h
  exact ⟨u1, u2, u3, ⟨dx, t, a, b, c, B.at_ P h1 (fun _ _ _ z => nomatch z), B.at_ P h2 (fun _ _ _ z => nomatch z), h3.but B P⟩, r⟩
theorem Good.but (h : Good C H x L) (B : But p H H') (P : Pot H p n) : Good C H' x L := by
  obtain ⟨a, b, c, t1, t2, t3, t, r, q⟩ := h
  exact ⟨a, b, c, t1, t2, t3, t.but B P, r.but B P, q⟩
end
/-- a deed of the law: from prices and their record to other ones -/
def spDeedL (C : Addr) : Sp := fun vs H Q _ => ∃ (p x L : Addr) (n : Nat), vs = [.ref p, .ref x, .ref L] ∧ Pot H p n ∧ n + 200 < PB ∧ Good C H x L ∧
  ∀ H' M y L', But p H H' → H' M = some (.lst [.ref y, .ref L']) → Good C H' y L' → Pot H' p (n + 200) → Q (.ref M) H'
/-- a method of the class -/
structure Md (P : Program) (w : World) (K : PySem.W.Frag) (mg : Str → Option Value) (base : Heap) (C : Addr) (CX : CXT) (k : Nat) (m : Str) (ps : List Str) (sp : Sp) : Prop where
  ex : ∃ (g : Addr) (fd : FuncData), Meth K C m g ∧ FnOk P w K mg base CX k g fd ps sp ∧ Binds K fd ps []
theorem fld_no {m : Str} (n1 : ¬ m = "_signs") (n2 : ¬ m = "_put") (n3 : ¬ m = "_out") (n4 : ¬ m = "_swap") (t a b c : Addr) : List.lookup m (fldP t a b c) = none := by
  unfold fldP
  rw [look_no n1, look_no n2, look_no n3, look_no n4]
  rfl
end Mk

set_option Elab.async false
set_option linter.all false
set_option maxRecDepth 100000
set_option maxHeartbeats 1000000
/-! changed, undone, price_of -/
namespace Mk
open PySem PySem.Spec L2 PyProof.Rows

abbrev sChgd : Stmt := top 29
abbrev sUndn : Stmt := top 30
abbrev sPof : Stmt := top 31
abbrev sChkPr : Stmt := top 23
/-- a word and a value, both of them within bounds -/
structure Ask (K : PySem.W.Frag) (H : Hp) (z : Str) (v : V) (d : PyData) : Prop where
  v : Dv K H v d
  ok : OkD d
  l : z.length ≤ 1000
  w : wB z = true
/-- no steps of this word -/
abbrev NoSt (d : PyData) (z : Str) : Prop := ∀ ds st, d = .tuple ds → runD ds (sgs z) = some st → False
def spChgd (K : PySem.W.Frag) (CI : Addr) : Sp := fun vs H Q E => ∃ (z : Str) (v : V) (d : PyData), vs = [.str z, v] ∧ Ask K H z v d ∧
  (∀ H', NoSt d z → Same H H' → E (.ref CI) none H') ∧ ∀ H' ds st, d = .tuple ds → runD ds (sgs z) = some st → Same H H' → Q (.str (wd (endS (sgs z) st))) H'
/-- the way back -/
def backD (st : List St3) : List PyData := st.reverse.map fun q => chOf (q.1, q.2.2, q.2.1)
def spUndn (K : PySem.W.Frag) (CI : Addr) : Sp := fun vs H Q E => ∃ (z : Str) (v : V) (d : PyData), vs = [.str z, v] ∧ Ask K H z v d ∧
  (∀ H', NoSt d z → Same H H' → E (.ref CI) none H') ∧ ∀ H' p ds st, d = .tuple ds → runD ds (sgs z) = some st → Same H H' → H p = none → Dp K H' (.ref p) (.tuple (backD st)) → Q (.ref p) H'
def spPof (K : PySem.W.Frag) (C CI CO : Addr) : Sp := fun vs H Q E => ∃ (z : Str) (v : V) (d : PyData) (x : Addr) (t1 t2 : PTab) (t3 : STab), vs = [.str z, v, .ref x] ∧ Ask K H z v d ∧ PrAt C H x t1 t2 t3 ∧ RtT t1 t2 t3 ∧ Srt t1 t2 t3 ∧
  (∀ H', NoSt d z → Same H H' → E (.ref CI) none H') ∧ (∀ H' ds st, d = .tuple ds → runD ds (sgs z) = some st → prc t1 t2 t3 st = none → Same H H' → E (.ref CO) none H') ∧
  ∀ H' ds st i, d = .tuple ds → runD ds (sgs z) = some st → prc t1 t2 t3 st = some i → Same H H' → Q (.int i) H'
/-- as Cd, for a def that may raise -/
structure CdX (P : Program) (w : World) (K : PySem.W.Frag) (mg : Str → Option Value) (base : Heap) (k : Nat) (x : Str) (ps : List Str) (sp : Sp) : Prop where
  ex : ∃ (f : Addr) (fd : FuncData), FnOk P w K mg base (L2.CX P w) k f fd ps sp ∧ mg x = some (.ref f) ∧ PySem.W.keepIn K (.ref f) = true ∧ Binds K fd ps []
def spChkPr (C : Addr) : Sp := fun vs H Q _ => ∃ (x : Addr) (t1 t2 : PTab) (t3 : STab), vs = [.ref x] ∧ PrAt C H x t1 t2 t3 ∧ Q .non H
theorem pairedRev {α β : Type} {F : α → β → Prop} : ∀ {xs : List α} {ys : List β}, Paired F xs ys → Paired F xs.reverse ys.reverse
  | _, _, .nil => .nil
  | _, _, .cons h t => by
    rw [List.reverse_cons, List.reverse_cons]
    exact Paired.appendP (pairedRev t) (.cons h .nil)
theorem dpall_of {K : PySem.W.Frag} {H : Hp} : ∀ {us : List Addr} {st : List St3}, Paired (fun (u : Addr) (q : St3) => H u = some (.tup (chV (q.1, q.2.2, q.2.1)))) us st → DpAll K H (us.map V.ref) (st.map fun q => chOf (q.1, q.2.2, q.2.1))
  | _, _, .nil => .nil
  | _, _, .cons h t => .cons (chDp h) (dpall_of t)
section
variable {P : Program} {w : World} {K : PySem.W.Frag} {mg : Str → Option Value} {base : Heap}
theorem st_le {d : PyData} {ds : List PyData} {st : List St3} {z : Str} (ok : OkD d) (e : d = .tuple ds) (h : runD ds (sgs z) = some st) : st.length ≤ 200 := by
  rw [runD_len h]
  exact (ok ds e).1
theorem scChgd : FnScope ["word", "changes"] ["word", "changes"] (defScope sChgd) := ⟨rfl, rfl, rfl, by decide +kernel, rfl, by decide +kernel, by decide +kernel⟩
theorem ok_chgd {f CI : Addr} {fd : FuncData} (F : Fun K "changed" "changed" sChgd f fd) (J : Cd P w K mg base 1 "word_behind" ["word", "steps"] spBehd) (J2 : CdX P w K mg base 5 "_checked_steps" ["word", "changes"] (spChkS K CI)) : FnOk P w K mg base (L2.CX P w) 6 f fd ["word", "changes"] (spChgd K CI) := by
  obtain ⟨j, dj, G, gm, gk, gb⟩ := J.ex
  obtain ⟨e, de, Ge, em, ek, eb⟩ := J2.ex
  refine F.okX scChgd (fun vs H Q E h => ?_) (fun cdv A outer s H vs Q E hr h => ?_)
  · obtain ⟨z, v, d, rfl, _⟩ := h
    rfl
  · obtain ⟨z, v, d, rfl, a, qn, q⟩ := h
    refine ⟨_, pss_one (ps_ret (pe_call G (hr.mono (by decide)) (by rfl) gm gk gb .nil pass0 (pa_cons (pv 0) (pa_cons (pe_call Ge hr (by rfl) em ek eb .nil (passes_call (takes_of rfl rfl rfl rfl) fun _ _ _ _ h => h) (pa_cons (pv 0) (pa_cons (pv 1) pa_nil))) pa_nil)))), ?_⟩
    refine ⟨_, rfl, _, rfl, _, rfl, z, v, d, rfl, a.v, a.ok, a.l, a.w, qn, fun H' L ts ds st e1 e2 s' fL eL et => ?_⟩
    exact ⟨z, L, ts, st, rfl, eL, et, runD_ok (wB_sg a.w) e2, a.l, st_le a.ok e1 e2, fun H2 s2 => q _ ds st e1 e2 (s'.trans s2)⟩
theorem scUndn : FnScope ["word", "changes", "at", "old", "new"] ["word", "changes"] (defScope sUndn) := ⟨rfl, rfl, rfl, by decide +kernel, rfl, by decide +kernel, by decide +kernel⟩
theorem ok_undn {f CI : Addr} {fd : FuncData} (F : Fun K "undone" "undone" sUndn f fd) (O : On mg) (J : Cd P w K mg base 1 "_change" ["at", "old", "new"] spChange) (J2 : CdX P w K mg base 5 "_checked_steps" ["word", "changes"] (spChkS K CI)) : FnOk P w K mg base (L2.CX P w) 6 f fd ["word", "changes"] (spUndn K CI) := by
  obtain ⟨j, dj, G, gm, gk, gb⟩ := J.ex
  obtain ⟨e, de, Ge, em, ek, eb⟩ := J2.ex
  refine F.okX scUndn (fun vs H Q E h => ?_) (fun cdv A outer s H vs Q E hr h => ?_)
  · obtain ⟨z, v, d, rfl, _⟩ := h
    rfl
  · obtain ⟨z, v, d, rfl, a, qn, q⟩ := h
    have r1 : Room 1 _ := hr.mono (by decide)
    refine ⟨_, pss_one (ps_ret (pe_callTy call_tuple_of (by rfl) O.tuple (by decide +kernel) (pa_cons (pe_lc (own := [("at", 2), ("old", 3), ("new", 4)]) (g := gTup K 3 (gCons (gName 2) (gCons (gName 3) (gCons (gName 4) gNil)))) (tt := tYes) rfl scUndn.nd (pi_list (pe_revL (pe_call Ge hr (by rfl) em ek eb .nil (passes_call (takes_of rfl rfl rfl rfl) fun _ _ _ _ h => h) (pa_cons (pv 0) (pa_cons (pv 1) pa_nil))))) (blkOk_by (N := ["word", "changes", "at", "old", "new"]) (sc := defScope sUndn) (by decide +kernel))
          (fun _ _ _ _ _ => pg_tup rfl (pgs_cons (pg_name (i := 2) scUndn.nd rfl (Or.inl rfl)) (pgs_cons (pg_name (i := 3) scUndn.nd rfl (Or.inl rfl)) (pgs_cons (pg_name (i := 4) scUndn.nd rfl (Or.inl rfl)) pgs_nil)))) (fun _ _ _ _ _ => pts_nil)
          (fun _ _ _ _ _ => pe_call G r1 (by rfl) gm gk gb .nil pass0 (pa_cons (pv 2) (pa_cons (pv 4) (pa_cons (pv 3) pa_nil))))) pa_nil))), ?_⟩
    refine ⟨_, rfl, _, rfl, z, v, d, rfl, a.v, a.ok, a.l, a.w, qn, fun H1 L ts ds st e1 e2 s1 fL eL et => ?_⟩
    have ls := st_le a.ok e1 e2
    have lt1 : ∀ {n : Nat}, n ≤ 5000 → n < sizeLine := fun h1 => by rw [sizeLine_eq]; omega
    have ltl := Paired.length et
    refine ⟨L, _, rfl, SqL.of eL, fun R hR => ?_⟩
    have sR := s1.trans (Same.new (o := .lst ((ts.map V.ref).reverse)) hR)
    have eR : (upd H1 R (.lst ((ts.map V.ref).reverse))) R = some (.lst ((ts.map V.ref).reverse)) := upd_same
    have etR := Tup3.keep (H' := upd H1 R (.lst ((ts.map V.ref).reverse))) (fun b xs e => (upd_ne (ne_of_none e hR)).trans e) et
    generalize upd H1 R (.lst ((ts.map V.ref).reverse)) = H2 at sR eR etR ⊢
    have er : (ts.map V.ref).reverse = ts.reverse.map V.ref := List.map_reverse.symm
    rw [er] at eR
    have etr : Tup3 H2 ts.reverse st.reverse := pairedRev etR
    refine ⟨R, rfl, ⟨_, SqL.of eR⟩, fun D1 hD1 => lc_list (xs := ts.reverse.map V.ref) (fun i H3 => Same H2 H3 ∧ ∃ us : List Addr, H3 D1 = some (.lst (us.map V.ref)) ∧ Paired (fun (u : Addr) (q : St3) => H3 u = some (.tup (chV (q.1, q.2.2, q.2.1)))) us (st.reverse.take i)) ⟨Same.new hD1, [], upd_same, .nil⟩ (fun i H3 _ h3 => SqL.of (h3.1 _ _ eR)) ?_ ?_⟩
    · rintro i x H3 hi ⟨s3, us, e3, p3⟩
      rw [List.getElem?_map] at hi
      cases hti : ts.reverse[i]? with
      | none => rw [hti] at hi; cases hi
      | some t =>
      rw [hti] at hi
      cases hi
      obtain ⟨⟨qi, qo, qn⟩, hq, ht⟩ := L2.paired_get etr hti
      have il : i < st.reverse.length := (List.getElem?_eq_some_iff.mp hq).1
      rw [List.length_reverse] at il
      have nx : st.reverse.take (i + 1) = st.reverse.take i ++ [(qi, qo, qn)] := by rw [List.take_add_one, hq]; rfl
      refine ⟨t, _, rfl, .inl (.inl (s3 _ _ ht)), rfl, _, _, rfl, _, _, rfl, _, _, rfl, rfl, ?_⟩
      refine ⟨rfl, _, rfl, _, rfl, _, rfl, qi, qn, qo, rfl, fun H4 p s4 hp ep => ?_⟩
      have lu := Paired.length p3
      rw [List.length_take] at lu
      have nD : ∀ {b xs}, H4 b = some (HO.tup xs) → b ≠ D1 := fun {b xs} e c => by
        rw [c, s4 _ _ e3] at e
        cases e
      refine ⟨_, s4 _ _ e3, by rw [List.length_map]; exact lt1 (by omega), Same.upN (s3.trans s4) hD1, us ++ [p], by rw [upd_same, List.map_append]; rfl, ?_⟩
      rw [nx]
      exact Paired.appendP (L2.Paired.mapP p3 fun b q e => (upd_ne (nD (s4 _ _ e))).trans (s4 _ _ e)) (.cons ((upd_ne (nD ep)).trans ep) .nil)
    · rintro H3 ⟨s3, us, e3, p3⟩
      rw [List.length_map, List.length_reverse, ltl, ← List.length_reverse, List.take_length] at p3
      dsimp only [tNil]
      refine ⟨D1, _, rfl, .inl ⟨SqL.of e3, fun p hp => ?_⟩⟩
      have s4 := Same.new (o := .tup (us.map V.ref)) hp
      refine q _ p ds st e1 e2 (sR.trans (s3.trans s4)) (sR.free (s3.free hp)) (.tup (.inl (.inl upd_same)) ?_)
      exact dpall_of (L2.Paired.mapP p3 fun b q e => s4 _ _ e)
theorem scChkPr : FnScope ["prices"] ["prices"] (defScope sChkPr) := ⟨rfl, rfl, rfl, by decide +kernel, rfl, by decide +kernel, by decide +kernel⟩
theorem ok_chkPr {f C : Addr} {fd : FuncData} (F : Fun K "check_prices" "check_prices" sChkPr f fd) (T : Pc K C) (O : IsK K C) (mgC : mg "Prices" = some (.ref C)) (hi : mg "isinstance" = none) : FnOk P w K mg base CX0 1 f fd ["prices"] (spChkPr C) := by
  refine F.ok scChkPr (fun vs H Q E h => ?_) (fun cdv A outer s H vs Q E hr h => ?_)
  · obtain ⟨x, t1, t2, t3, rfl, _⟩ := h
    rfl
  · obtain ⟨x, t1, t2, t3, rfl, ⟨dx, t, a, b, d, hx, ht, hT⟩, q⟩ := h
    refine ⟨_, pss_one (ps_if (pt_not (pt_val (pe_callB call_isi (by rfl) hi (by decide +kernel) (pa_cons (pv 0) (pa_cons (pe_glob (v := .ref C) (by rfl) mgC rfl) pa_nil))))) (pss_one ps_never) pss_nil), ?_⟩
    exact ⟨_, rfl, .ref x, .ref C, .ref C, .ref C, true, rfl, .own C, .base (.ins hx T.cl O.ha O.hn O.htk O.hm), if_pos (beq_self_eq_true _), true, rfl, iteF q⟩
theorem scPof : FnScope ["word", "changes", "prices", "steps", "price"] ["word", "changes", "prices"] (defScope sPof) := ⟨rfl, rfl, rfl, by decide +kernel, rfl, by decide +kernel, by decide +kernel⟩
theorem ok_pof {f C CI CO : Addr} {fd : FuncData} (F : Fun K "price_of" "price_of" sPof f fd) (X0 : ExK K mg "InvalidOperation" CO) (J : Cd P w K mg base 1 "check_prices" ["prices"] (spChkPr C)) (J2 : CdX P w K mg base 5 "_checked_steps" ["word", "changes"] (spChkS K CI)) (J3 : Cd P w K mg base 5 "price_of_steps" ["steps", "prices"] (spPS C)) : FnOk P w K mg base (L2.CX P w) 6 f fd ["word", "changes", "prices"] (spPof K C CI CO) := by
  obtain ⟨j, dj, G, gm, gk, gb⟩ := J.ex
  obtain ⟨e, de, Ge, em, ek, eb⟩ := J2.ex
  obtain ⟨u, du, Gu, um, uk, ub⟩ := J3.ex
  refine F.okX scPof (fun vs H Q E h => ?_) (fun cdv A outer s H vs Q E hr h => ?_)
  · obtain ⟨z, v, d, x, t1, t2, t3, rfl, _⟩ := h
    rfl
  · obtain ⟨z, v, d, x, t1, t2, t3, rfl, a, hx, R, sr, qn, qo, q⟩ := h
    refine ⟨_, pss_cons (ps_set (i := 3) scPof.nd rfl (.inl rfl) (pe_call Ge hr (by rfl) em ek eb .nil (passes_call (takes_of rfl rfl rfl rfl) fun _ _ _ _ h => h) (pa_cons (pv 0) (pa_cons (pv 1) pa_nil))))
      (pss_cons (ps_expr (pe_call G (hr.mono (by decide)) (by rfl) gm gk gb .nil pass0 (pa_cons (pv 2) pa_nil)))
      (pss_cons (ps_set (i := 4) scPof.nd rfl (.inl rfl) (pe_call Gu hr (by rfl) um uk ub .nil pass0 (pa_cons (pv 3) (pa_cons (pv 2) pa_nil))))
      (pss_cons (ps_if (pt_cmpR op_isN (pv 4) pe_non (nomark _)) (pss_one (ps_raise rfl (takes_of rfl rfl rfl rfl) (pmk_own PySem.F.excBase_ValueError X0.q X0.gC X0.kC (raises_own X0.b X0.t) (by rfl)))) pss_nil)
      (pss_one (ps_ret (pv 4)))))), ?_⟩
    refine ⟨_, rfl, _, rfl, z, v, d, rfl, a.v, a.ok, a.l, a.w, qn, fun H1 L ts ds st e1 e2 s1 fL eL et => ?_⟩
    have hx1 := hx.same s1
    refine ⟨_, rfl, x, t1, t2, t3, rfl, hx1, ?_⟩
    refine ⟨_, rfl, _, rfl, L, x, ts, st, t1, t2, t3, rfl, eL, et, st_le a.ok e1 e2, hx1, R, sr, fun H2 s2 => ?_⟩
    cases hp : prc t1 t2 t3 st with
    | none =>
      refine ⟨_, rfl, rfl, _, rfl, ?_⟩
      exact iteT (qo _ ds st e1 e2 hp (s1.trans s2))
    | some i =>
      refine ⟨_, rfl, rfl, _, rfl, ?_⟩
      exact iteF ⟨_, rfl, q _ ds st i e1 e2 hp (s1.trans s2)⟩
end
end Mk

set_option Elab.async false
set_option linter.all false
set_option maxRecDepth 100000
set_option maxHeartbeats 1000000
/-! words and steps that the law draws -/
namespace Mk
open PySem PySem.Spec L2 PyProof.Rows

abbrev sSpell : Stmt := top 46
abbrev sStepD : Stmt := top 48
def spSpell : Sp := fun vs H Q _ => ∃ (p S : Addr) (n m : Nat) (zs : List Str), vs = [.ref p, .ref S, .int m] ∧ m < 1000 ∧ Pot H p n ∧ n + m + 1 < PB ∧ H S = some (.lst (zs.map V.str)) ∧ SgL zs ∧ zs.length ≤ 3 ∧
  ∀ H' z, But p H H' → Pot H' p (n + m + 1) → (∀ x ∈ sgs z, x ∈ zs) → z.length ≤ m → Q (.str z) H'
def spStepD : Sp := fun vs H Q _ => ∃ (p S : Addr) (n : Nat) (zs : List Str) (z : Str), vs = [.ref p, .ref S, .str z] ∧ Pot H p n ∧ n + 10 < PB ∧ H S = some (.lst (zs.map V.str)) ∧ SgL zs ∧ zs.length ≤ 3 ∧ z.length ≤ 1000 ∧ (∀ x ∈ sgs z, sgB x = true) ∧
  ∀ H' t q, But p H H' → H t = none → H' t = some (.tup (chV q)) → chB (chOf q) (sgs z) = true → stepOf (chOf q) (sgs z) = q → Pot H' p (n + 10) → Q (.ref t) H'
theorem nwB_nat {i n : Nat} (h : i ≤ n) (h2 : n ≤ 100000) : nwB (i : Int) 0 (n : Int) = true := by
  have g : (100000 : Int) ≤ LG := by decide +kernel
  have g2 : -LG ≤ 0 := by decide +kernel
  unfold nwB nuB
  simp only [Bool.and_eq_true, decide_eq_true_eq]
  omega
theorem by_way5 (Cn : Hp → Prop) {X : Hp → Prop} {G : Prop} (h1 : (∀ H, Cn H → X H) → G) (h2 : ∀ H, Cn H → X H) : G := h1 h2
theorem sgB_len {z : Str} (h : sgB z = true) : z.length = 1 := by
  unfold sgB at h
  simp only [Bool.and_eq_true, decide_eq_true_eq] at h
  exact h.1
theorem chB_put {i : Nat} {y : Str} {sg : List Str} (hi : i ≤ sg.length) (h1 : sg.length ≤ 5000) (hy : sgB y = true) : chB (chOf (i, ("" : Str), y)) sg = true ∧ stepOf (chOf (i, ("" : Str), y)) sg = (i, ("" : Str), y) := by
  have e : chOf (i, ("" : Str), y) = .tuple [.str "put", .int i, .str y] := if_pos rfl
  rw [e]
  refine ⟨?_, rfl⟩
  show (if eqS (.str "put") "put" = true then numD (.int i) 0 sg.length && sgD (.str y) else numD (.int i) 0 ((sg.length : Int) - 1) && !eqS (.str "put") "out" && eqS (.str "put") "swap" && sgD (.str y) && nsD (.int i) (.str y) sg) = true
  rw [if_pos (by decide +kernel)]
  show (nwB (i : Int) 0 (sg.length : Int) && sgB y) = true
  rw [nwB_nat hi (by omega), hy]
  rfl
theorem chB_out {i : Nat} {sg : List Str} (hi : i < sg.length) (h1 : sg.length ≤ 5000) (hs : ∀ x ∈ sg, sgB x = true) : chB (chOf (i, sg.getD i ("" : Str), ("" : Str))) sg = true ∧ stepOf (chOf (i, sg.getD i ("" : Str), ("" : Str))) sg = (i, sg.getD i ("" : Str), ("" : Str)) := by
  have m : sg.getD i ("" : Str) ∈ sg := by
    rw [List.getD_eq_getElem?_getD, List.getElem?_eq_getElem hi]
    exact List.getElem_mem hi
  have ne := ne_em (hs _ m)
  have e : chOf (i, sg.getD i ("" : Str), ("" : Str)) = .tuple [.str "out", .int i] := (if_neg ne).trans (if_pos rfl)
  rw [e]
  refine ⟨?_, rfl⟩
  show (!eqS (.str "out") "put" && nwB (i : Int) 0 ((sg.length : Int) - 1) && eqS (.str "out") "out") = true
  have e2 : ((sg.length : Int) - 1) = ((sg.length - 1 : Nat) : Int) := by omega
  rw [e2, nwB_nat (by omega) (by omega)]
  decide +kernel
theorem chB_swap {i : Nat} {y : Str} {sg : List Str} (hi : i < sg.length) (h1 : sg.length ≤ 5000) (hs : ∀ x ∈ sg, sgB x = true) (hy : sgB y = true) (ne2 : y ≠ sg.getD i ("" : Str)) : chB (chOf (i, sg.getD i ("" : Str), y)) sg = true ∧ stepOf (chOf (i, sg.getD i ("" : Str), y)) sg = (i, sg.getD i ("" : Str), y) := by
  have g : sg.getD i ("" : Str) = sg[i] := by rw [List.getD_eq_getElem?_getD, List.getElem?_eq_getElem hi]; rfl
  have m : sg.getD i ("" : Str) ∈ sg := by
    rw [g]
    exact List.getElem_mem hi
  have ne := ne_em (hs _ m)
  have e : chOf (i, sg.getD i ("" : Str), y) = .tuple [.str "swap", .int i, .str y] := (if_neg ne).trans (if_neg (ne_em hy))
  rw [e]
  refine ⟨?_, ?_⟩
  · show (if eqS (.str "swap") "put" = true then numD (.int i) 0 sg.length && sgD (.str y) else nwB (i : Int) 0 ((sg.length : Int) - 1) && !eqS (.str "swap") "out" && eqS (.str "swap") "swap" && sgB y && !decide (sg[(i : Int).toNat]? = some y)) = true
    rw [if_neg (by decide +kernel)]
    have e2 : ((sg.length : Int) - 1) = ((sg.length - 1 : Nat) : Int) := by omega
    rw [e2, nwB_nat (by omega) (by omega), hy, Int.toNat_natCast, List.getElem?_eq_getElem hi, ← g, decide_eq_false (fun c => ne2 (Option.some.inj c).symm)]
    decide +kernel
  · show ((i : Int).toNat, (if ("swap" : Str) = "put" then ("" : Str) else sg.getD (i : Int).toNat ("" : Str)), y) = _
    rw [Int.toNat_natCast, if_neg (by decide +kernel)]
section
variable {P : Program} {w : World} {K : PySem.W.Frag} {mg : Str → Option Value} {base : Heap}
abbrev nSpell : List Str := ["_law_cup_here", "_law_letters", "_law_most", "_law_turn"]
theorem scSpell : FnScope nSpell ["_law_cup_here", "_law_letters", "_law_most"] (defScope sSpell) := ⟨rfl, rfl, rfl, by decide +kernel, rfl, by decide +kernel, by decide +kernel⟩
theorem flat_sgs : ∀ {ys : List Str}, (∀ y ∈ ys, y.length = 1) → sgs (Txt.join "" ys) = ys := fun {ys} h => by rw [wd_join, sgs_wd h]
theorem ok_spell {f : Addr} {fd : FuncData} (F : Fun K "_law_spelled" "_law_spelled" sSpell f fd) (B : Bn mg) (D : Cd P w K mg base 1 "_law_toss" ["_law_cup_here", "_law_total"] spDip) (C : Cd P w K mg base 2 "_law_choice" ["_law_cup_here", "_law_items"] spChoose) : FnOk P w K mg base CX0 3 f fd ["_law_cup_here", "_law_letters", "_law_most"] spSpell := by
  obtain ⟨d, dd, G, gm, gk, gb⟩ := D.ex
  obtain ⟨c, dc, Gc, cm, ck, cb⟩ := C.ex
  refine F.ok scSpell (fun vs H Q E h => ?_) (fun cdv A outer s H vs Q E hr h => ?_)
  · obtain ⟨p, S, n, m, zs, rfl, _⟩ := h
    rfl
  · obtain ⟨p, S, n, m, zs, rfl, hm, hp, hn, hS, sg, lz, q⟩ := h
    refine ⟨_, pss_one (ps_ret (pe_join pe_str (pe_lc (own := [("_law_turn", 3)]) (g := gName 3) (tt := tYes) rfl scSpell.nd (pi_range1 (by rfl) B.range (pa_cons (pe_call G (hr.mono (by decide)) (by rfl) gm gk gb .nil pass0 (pa_cons (pv 0) (pa_cons (pe_op op_add (pv 2) pe_int) pa_nil))) pa_nil)) (blkOk_by (N := nSpell) (sc := defScope sSpell) (by decide +kernel))
        (fun _ _ _ _ _ => pg_name (i := 3) scSpell.nd rfl (Or.inl rfl)) (fun _ _ _ _ _ => pts_nil)
        (fun _ _ _ _ _ => pe_call Gc hr (by rfl) cm ck cb .nil pass0 (pa_cons (pv 0) (pa_cons (pv 1) pa_nil)))))), ?_⟩
    have pS : S ≠ p := fun e => by
      obtain ⟨_, _, _, ep, _⟩ := hp
      rw [e, ep] at hS
      obtain ⟨z, r, _, k, _⟩ := List.map_eq_cons_iff.mp (by injection Option.some.inj hS with z; exact z.symm)
      cases k
    refine ⟨⟨_, rfl⟩, _, rfl, _, rfl, _, _, rfl, rfl, p, n, (m : Int) + 1, rfl, hp, by omega, by omega, by omega, fun H1 k hb hf hP hk0 hk1 => ?_⟩
    refine ⟨k, rfl, by omega, by omega, fun D hD => ?_⟩
    have hpD := hP.ne hD
    have hS1 := hb _ _ pS hS
    have hSD := ne_of_none hS1 hD
    have hD0 : H D = none := by
      cases e : H D with
      | none => rfl
      | some o => have := hb D o hpD.symm e; rw [hD] at this; cases this
    refine lc_range (lo := 0) (n := k.toNat) (fun i H2 => ∃ ys : List Str, But p H H2 ∧ H2 D = some (.lst (ys.map V.str)) ∧ ys.length = i ∧ (∀ y ∈ ys, y ∈ zs) ∧ Pot H2 p (n + 1 + i)) ?_ ?_ ?_
    · exact ⟨[], But.up hb hD0, upd_same, rfl, (fun _ h => nomatch h), hP.up hpD⟩
    · rintro i H2 hi ⟨ys, hB, h1, hl, hw, hP2⟩
      refine ⟨rfl, _, rfl, _, rfl, p, n + 1 + i, hP2, by omega, .inl ⟨S, _, rfl, pS, hB _ _ pS hS, by rw [List.length_map]; exact List.length_pos_iff.mpr sg.ne, by rw [List.length_map]; omega, fun H3 v hN hv => ?_⟩⟩
      obtain ⟨y, hy, rfl⟩ := List.mem_map.mp hv
      refine ⟨ys.map V.str, hN.but _ _ hpD.symm h1, ?_, ys ++ [y], But.up (hB.trans hN.but) hD0, ?_, ?_, ?_, hN.pot.up hpD⟩
      · rw [List.length_map, hl]
        exact Nat.lt_of_lt_of_le (by omega : i < 100000) (by decide)
      · rw [upd_same, List.map_append]
        rfl
      · rw [List.length_append, hl]
        rfl
      · intro x hx
        rcases List.mem_append.mp hx with hx | hx
        · exact hw x hx
        · rw [List.mem_singleton.mp hx]
          exact hy
    · rintro H2 ⟨ys, hB, h1, hl, hw, hP2⟩
      have one : ∀ y ∈ ys, y.length = 1 := fun y hy => sgB_len (sg.sg y (hw y hy))
      have hsum := sum_wd one
      refine ⟨_, D, ys, rfl, rfl, .inl (SqL.of h1), ?_, q _ _ hB (hP2.mono (by omega)) ?_ ?_⟩
      · rw [hsum, hl]
        show k.toNat + k.toNat * 0 ≤ 16777216
        omega
      · rw [flat_sgs one]
        exact hw
      · rw [len_join, hsum, hl]
        omega
abbrev nStepD : List Str := ["_law_cup_here", "_law_letters", "_law_word", "_law_way", "_law_at", "_law_sign"]
theorem scStepD : FnScope nStepD ["_law_cup_here", "_law_letters", "_law_word"] (defScope sStepD) := ⟨rfl, rfl, rfl, by decide +kernel, rfl, by decide +kernel, by decide +kernel⟩
theorem ok_stepD {f : Addr} {fd : FuncData} (F : Fun K "_law_step_drawn" "_law_step_drawn" sStepD f fd) (B : Bn mg) (D : Cd P w K mg base 1 "_law_toss" ["_law_cup_here", "_law_total"] spDip) (C : Cd P w K mg base 2 "_law_choice" ["_law_cup_here", "_law_items"] spChoose) : FnOk P w K mg base CX0 3 f fd ["_law_cup_here", "_law_letters", "_law_word"] spStepD := by
  obtain ⟨d, dd, G, gm, gk, gb⟩ := D.ex
  obtain ⟨c, dc, Gc, cm, ck, cb⟩ := C.ex
  refine F.ok scStepD (fun vs H Q E h => ?_) (fun cdv A outer s H vs Q E hr h => ?_)
  · obtain ⟨p, S, n, zs, z, rfl, _⟩ := h
    rfl
  · obtain ⟨p, S, n, zs, z, rfl, hp, hn, hS, sg, lz, lw, hs, q⟩ := h
    have r1 : Room 1 _ := hr.mono (by decide)
    refine ⟨_, pss_cons (ps_set (i := 3) scStepD.nd rfl (.inl rfl) (pe_call G r1 (by rfl) gm gk gb .nil pass0 (pa_cons (pv 0) (pa_cons pe_int pa_nil))))
      (pss_cons (ps_if (PW.pt (pw_or (pt_cmpR op_eq (pv 3) pe_int (nomark _)) (pw_or1 (pt_cmpR op_eq (pv 2) pe_str (nomark _)))))
        (pss_one (ps_ret (pe_tup (pa_cons pe_str (pa_cons (pe_call G r1 (by rfl) gm gk gb .nil pass0 (pa_cons (pv 0) (pa_cons (pe_op op_add (pe_callB call_len_str (by rfl) B.len PySem.boot_len (pa_cons (pv 2) pa_nil)) pe_int) pa_nil))) (pa_cons (pe_call Gc hr (by rfl) cm ck cb .nil pass0 (pa_cons (pv 0) (pa_cons (pv 1) pa_nil))) pa_nil)))))) pss_nil)
      (pss_cons (ps_set (i := 4) scStepD.nd rfl (.inr rfl) (pe_call G r1 (by rfl) gm gk gb .nil pass0 (pa_cons (pv 0) (pa_cons (pe_callB call_len_str (by rfl) B.len PySem.boot_len (pa_cons (pv 2) pa_nil)) pa_nil))))
      (pss_cons (ps_if (pt_cmpR op_eq (pv 3) pe_int (nomark _)) (pss_one (ps_ret (pe_tup (pa_cons pe_str (pa_cons (pv 4) pa_nil))))) pss_nil)
      (pss_one (ps_ret (pe_tup (pa_cons pe_str (pa_cons (pv 4) (pa_cons (pe_call Gc hr (by rfl) cm ck cb .nil pass0 (pa_cons (pv 0) (pa_cons
          (pe_lc (own := [("_law_sign", 5)]) (g := gName 5) rfl scStepD.nd (pi_str pe_str) (blkOk_by (N := nStepD) (sc := defScope sStepD) (by decide +kernel))
            (fun _ _ _ _ _ => pg_name (i := 5) scStepD.nd rfl (Or.inl rfl)) (fun _ _ _ _ _ => pts_one (pt_cmpR op_ne (pv 5) (pe_ix ix_str (pv 2) (pv 4) (fun _ _ => rfl)) (nomark _))) (fun _ _ _ _ _ => pv 5)) pa_nil))) pa_nil))))))))), ?_⟩
    have n3 : 3 ≤ sizeLine := by decide
    have pS : S ≠ p := fun e => by
      obtain ⟨_, _, _, ep, _⟩ := hp
      rw [e, ep] at hS
      obtain ⟨z, r, _, k, _⟩ := List.map_eq_cons_iff.mp (by injection Option.some.inj hS with z; exact z.symm)
      cases k
    have zl : z.length ≤ sizeLine := Nat.le_trans lw (by decide)
    have lsg := sgs_length z
    refine ⟨_, rfl, p, n, 3, rfl, hp, by omega, by omega, by omega, fun H1 k hb hf hP hk0 hk1 => ?_⟩
    have hS1 := hb _ _ pS hS
    refine ⟨_, rfl, rfl, _, rfl, ?_⟩
    by_cases hk : k = 0 ∨ z = ""
    · apply by_way5 (fun H5 => H5 = H1)
      · intro hX
        by_cases h0 : k = 0
        · rw [decide_eq_true (congrArg V.int h0)]
          exact iteT (iteT (hX H1 rfl))
        · rw [decide_eq_false (fun c => h0 (V.int.inj c))]
          refine iteF ⟨_, rfl, rfl, _, rfl, ?_⟩
          rw [decide_eq_true (congrArg V.str (hk.resolve_left h0))]
          exact iteT (hX H1 rfl)
      · rintro H5 rfl
        refine ⟨_, rfl, _, rfl, z, rfl, zl, _, _, rfl, rfl, p, n + 1, (z.length : Int) + 1, rfl, hP, by omega, by omega, by omega, fun H2 j hb2 hf2 hP2 j0 j1 => ?_⟩
        obtain ⟨j, rfl⟩ : ∃ i : Nat, j = (i : Int) := ⟨j.toNat, by omega⟩
        refine ⟨_, rfl, _, rfl, p, n + 1 + 1, hP2, by omega, .inl ⟨S, _, rfl, pS, hb2 _ _ pS hS1, by rw [List.length_map]; exact List.length_pos_iff.mpr sg.ne, by rw [List.length_map]; omega, fun H3 v N hv => ?_⟩⟩
        obtain ⟨y, hy, rfl⟩ := List.mem_map.mp hv
        refine ⟨n3, fun t ht => ?_⟩
        have B := (hb.trans hb2).trans N.but
        have h0 := B.nul N.pot ht
        obtain ⟨c1, c2⟩ := chB_put (i := j) (y := y) (sg := sgs z) (by omega) (by omega) (sg.sg y hy)
        refine q _ t (j, ("" : Str), y) (But.up B h0) h0 ?_ c1 c2 ((N.pot.up (N.pot.ne ht)).mono (by omega))
        rw [upd_same]
        exact congrArg (fun l => some (HO.tup l)) (if_pos rfl).symm
    · have h0 : ¬ k = 0 := fun e => hk (.inl e)
      have hz : ¬ z = "" := fun e => hk (.inr e)
      have zp : 0 < z.length := Nat.pos_of_ne_zero fun e => hz (sgs_inj (by rw [List.length_eq_zero_iff.mp ((sgs_length z).trans e)]; rfl))
      rw [decide_eq_false (fun c => h0 (V.int.inj c))]
      refine iteF ⟨_, rfl, rfl, _, rfl, ?_⟩
      rw [decide_eq_false (fun c => hz (V.str.inj c))]
      refine iteF ?_
      refine ⟨_, rfl, _, rfl, z, rfl, zl, p, n + 1, (z.length : Int), rfl, hP, by omega, by omega, by omega, fun H2 j hb2 hf2 hP2 j0 j1 => ?_⟩
      obtain ⟨j, rfl⟩ : ∃ i : Nat, j = (i : Int) := ⟨j.toNat, by omega⟩
      have jl : j < (sgs z).length := by omega
      refine ⟨_, rfl, rfl, _, rfl, ?_⟩
      by_cases hk1' : k = 1
      · rw [decide_eq_true (congrArg V.int hk1')]
        refine iteT ⟨_, rfl, Nat.le_trans (by show 2 ≤ 3; decide) n3, fun t ht => ?_⟩
        have B := hb.trans hb2
        have h0 := B.nul hP2 ht
        obtain ⟨c1, c2⟩ := chB_out (i := j) (sg := sgs z) jl (by omega) hs
        refine q _ t (j, (sgs z).getD j ("" : Str), ("" : Str)) (But.up B h0) h0 ?_ c1 c2 ((hP2.up (hP2.ne ht)).mono (by omega))
        rw [upd_same]
        have m : (sgs z).getD j ("" : Str) ∈ sgs z := by
          rw [List.getD_eq_getElem?_getD, List.getElem?_eq_getElem jl]
          exact List.getElem_mem jl
        exact congrArg (fun l => some (HO.tup l)) ((if_neg (ne_em (hs _ m))).trans (if_pos rfl)).symm
      · rw [decide_eq_false (fun c => hk1' (V.int.inj c))]
        refine iteF ?_
        have jc : j < z.cps.toList.length := by
          have : z.cps.toList.length = z.length := rfl
          omega
        have gw : (sgs z).getD j ("" : Str) = ⟨#[z.cps.toList[j]]⟩ := by
          have e1 : z.cps[j]? = some z.cps.toList[j] := by
            rw [Array.getElem?_eq_getElem (by simpa using jc)]
            rfl
          rw [List.getD_eq_getElem?_getD, sgs_at e1]
          rfl
        refine ⟨_, rfl, _, rfl, "abcde", rfl, fun D hD => lc_it walk_str (fun i H3 => But p H2 H3 ∧ (∀ b, b ≠ D → H2 b = none → H3 b = none) ∧ Pot H3 p (n + 1 + 1) ∧ H3 D = some (.lst ((((sgs "abcde").take i).filter fun s => decide (s ≠ (sgs z).getD j ("" : Str))).map V.str))) ?_ (fun _ _ _ _ => trivial) ?_ ?_⟩
        · exact ⟨But.of_same (Same.new hD), fun b hb0 e => (upd_ne hb0).trans e, hP2.up (hP2.ne hD), upd_same⟩
        · rintro i x H3 H4 hi ⟨hB3, hF3, hP3, e3⟩ ⟨rfl, cd, hcd, rfl⟩
          have nx : (sgs "abcde").take (i + 1) = (sgs "abcde").take i ++ [⟨#[cd]⟩] := by rw [List.take_add_one, sgs_at hcd]; rfl
          have il : i < 5 := hi
          have lf : (((sgs "abcde").take i).filter fun s => decide (s ≠ (sgs z).getD j ("" : Str))).length ≤ 5 := Nat.le_trans (List.length_filter_le _ _) (by rw [List.length_take]; omega)
          refine ⟨rfl, _, rfl, _, rfl, _, rfl, z, (j : Int), _, rfl, rfl, zl, atI_nat (List.getElem?_eq_getElem jc), rfl, _, rfl, ?_⟩
          rw [nx, List.filter_append]
          rw [gw] at e3 lf ⊢
          by_cases he : (⟨#[cd]⟩ : Str) = ⟨#[z.cps.toList[j]]⟩
          · rw [decide_eq_true (congrArg V.str he)]
            refine iteF ⟨hB3, hF3, hP3, ?_⟩
            rw [e3, List.filter_cons_of_neg (by simpa using he)]
            simp
          · rw [decide_eq_false (fun c => he (V.str.inj c))]
            refine iteT ⟨_, rfl, _, e3, ?_, ?_, fun b hb0 e => (upd_ne hb0).trans (hF3 b hb0 e), hP3.up (hP2.ne hD), ?_⟩
            · rw [List.length_map]
              exact Nat.lt_of_le_of_lt lf (by decide)
            · exact fun b u n1 e => (upd_ne (ne_of_none e hD)).trans (hB3 b u n1 e)
            · rw [upd_same, List.filter_cons_of_pos (by simpa using he), List.map_append]
              rfl
        · rintro H3 ⟨hB3, hF3, hP3, e3⟩
          have e5 : ("abcde" : Str).cps.size = 5 := by decide +kernel
          rw [e5, List.take_of_length_le (by decide +kernel : (sgs "abcde").length ≤ 5)] at e3
          dsimp only [tNil]
          have Dp' : D ≠ p := (hP2.ne hD).symm
          have lf : ((sgs "abcde").filter fun s => decide (s ≠ (sgs z).getD j ("" : Str))).length ≤ 5 := Nat.le_trans (List.length_filter_le _ _) (by decide +kernel)
          refine ⟨p, n + 1 + 1, hP3, by omega, .inl ⟨D, _, rfl, Dp', e3, ?_, by rw [List.length_map]; omega, fun H4 v N hv => ?_⟩⟩
          · rw [List.length_map]
            have ma : ("a" : Str) ∈ sgs "abcde" := by decide +kernel
            have mb : ("b" : Str) ∈ sgs "abcde" := by decide +kernel
            by_cases ea : ("a" : Str) = (sgs z).getD j ("" : Str)
            · exact List.length_pos_of_mem (List.mem_filter.mpr ⟨mb, decide_eq_true (by rw [← ea]; decide +kernel)⟩)
            · exact List.length_pos_of_mem (List.mem_filter.mpr ⟨ma, decide_eq_true ea⟩)
          obtain ⟨y, hy, rfl⟩ := List.mem_map.mp hv
          obtain ⟨hy1, hy2⟩ := List.mem_filter.mp hy
          have ys : sgB y = true := (by decide +kernel : ∀ y ∈ sgs "abcde", sgB y = true) y hy1
          refine ⟨n3, fun t ht => ?_⟩
          have B2 : But p H H2 := hb.trans hb2
          have B := (B2.trans hB3).trans N.but
          have h0 := B.nul N.pot ht
          obtain ⟨c1, c2⟩ := chB_swap (i := j) (y := y) (sg := sgs z) jl (by omega) hs ys (of_decide_eq_true hy2)
          refine q _ t (j, (sgs z).getD j ("" : Str), y) (But.up B h0) h0 ?_ c1 c2 ((N.pot.up (N.pot.ne ht)).mono (by omega))
          rw [upd_same]
          have m : (sgs z).getD j ("" : Str) ∈ sgs z := by
            rw [List.getD_eq_getElem?_getD, List.getElem?_eq_getElem jl]
            exact List.getElem_mem jl
          exact congrArg (fun l => some (HO.tup l)) ((if_neg (ne_em (hs _ m))).trans (if_neg (ne_em ys))).symm
end
end Mk

set_option Elab.async false
set_option linter.all false
set_option maxRecDepth 100000
set_option maxHeartbeats 2000000
/-! the law's word behind a change -/
namespace Mk
open PySem PySem.Spec L2 PyProof.Rows

abbrev sMd : Stmt := top 49
abbrev nMd : List Str := ["_law_word", "_law_change", "_law_at", "_law_room", "_law_rest"]
/-- what is asked of a change's data -/
def OkC (d : PyData) : Prop := ∀ es, d = .tuple es → (∀ y ∈ es, SeqAt.shaped y = true) ∧ ∀ z, PyData.str z ∈ es → z.length ≤ 100000
def mdV (z : Str) (d : PyData) : V := if chB d (sgs z) = true then .str (wd (app3 (sgs z) (stepOf d (sgs z)))) else .non
theorem mdV_no {z : Str} {d : PyData} (h : chB d (sgs z) = false) : mdV z d = .non := if_neg (by rw [h]; exact Bool.false_ne_true)
theorem mdV_yes {z x : Str} {d : PyData} {q : St3} (h : chB d (sgs z) = true) (e : stepOf d (sgs z) = q) (l : q.2.2.length ≤ 1) (hx : sgs x = app3 (sgs z) q) : mdV z d = .str x := by
  refine (if_pos h).trans (congrArg V.str (sgs_inj ?_))
  rw [e, hx, sgs_wd (app3_one fun y hy => sgs_one hy)]
def spMd (K : PySem.W.Frag) : Sp := fun vs H Q _ => ∃ (z : Str) (v : V) (d : PyData), vs = [.str z, v] ∧ Dp K H v d ∧ OkC d ∧ z.length ≤ 1000 ∧ (∀ x ∈ sgs z, sgB x = true) ∧ ∀ H', Same H H' → Q (mdV z d) H'
theorem nwB_dec {i : Int} {n : Nat} (h2 : n ≤ 100000) : nwB i 0 ((n : Int) - 1) = decide (0 ≤ i ∧ i < n) := by
  have g : (100000 : Int) ≤ LG := by decide +kernel
  have g2 : -LG ≤ 0 := by decide +kernel
  rw [Bool.eq_iff_iff, decide_eq_true_iff]
  unfold nwB nuB
  simp only [Bool.and_eq_true, decide_eq_true_eq]
  omega
theorem sgD_in (d : PyData) : inS (sgs "abcde") d = sgD d := by
  cases d with
  | str z =>
    show decide (z ∈ sgs "abcde") = sgB z
    rw [Bool.eq_iff_iff, decide_eq_true_iff]
    refine ⟨fun h => (by decide +kernel : ∀ y ∈ sgs "abcde", sgB y = true) z h, fun h => ?_⟩
    have l1 := sgB_len h
    obtain ⟨a⟩ := z
    obtain ⟨l⟩ := a
    match l, l1 with
    | [c], _ =>
      unfold sgB wB at h
      simp only [Bool.and_eq_true] at h
      have hc := List.all_eq_true.mp h.2 c (by simp [cs])
      unfold gB at hc
      simp only [Bool.and_eq_true, decide_eq_true_eq] at hc
      refine List.mem_map.mpr ⟨c, ?_, rfl⟩
      rw [show cs ("abcde" : Str) = [97, 98, 99, 100, 101] by decide +kernel]
      simp only [List.mem_cons, List.not_mem_nil, or_false]
      omega
  | _ => rfl
abbrev three : List Str := ["put", "out", "swap"]
theorem in3_no {k : PyData} (h : inS three k = false) : eqS k "put" = false ∧ eqS k "out" = false ∧ eqS k "swap" = false := by
  have g : ∀ x ∈ three, eqS k x = false := fun x hx => by
    cases e : eqS k x with
    | false => rfl
    | true =>
      rw [eqS_of e] at h
      have h : decide (x ∈ three) = false := h
      rw [decide_eq_true hx] at h
      cases h
  exact ⟨g _ (by decide +kernel), g _ (by decide +kernel), g _ (by decide +kernel)⟩
theorem in3_yes {k : PyData} (h : inS three k = true) : k = .str "put" ∨ k = .str "out" ∨ k = .str "swap" := by
  cases k with
  | str x =>
    have h : x ∈ three := of_decide_eq_true h
    simp only [List.mem_cons, List.not_mem_nil, or_false] at h
    rcases h with rfl | rfl | rfl
    · exact .inl rfl
    · exact .inr (.inl rfl)
    · exact .inr (.inr rfl)
  | _ => cases h
theorem ch2 (k a : PyData) (sg : List Str) : chB (.tuple [k, a]) sg = (!eqS k "put" && numD a 0 ((sg.length : Int) - 1) && eqS k "out") := rfl
theorem ch3 (k a s : PyData) (sg : List Str) : chB (.tuple [k, a, s]) sg = (if eqS k "put" = true then numD a 0 sg.length && sgD s else numD a 0 ((sg.length : Int) - 1) && !eqS k "out" && eqS k "swap" && sgD s && nsD a s sg) := rfl
theorem numD_no {a : PyData} {x y : Int} (h : isIntD a = false ∨ isBoolD a = true) : numD a x y = false := by
  cases a with
  | int i => rcases h with h | h <;> cases h
  | _ => rfl
theorem dpall_strs {K : PySem.W.Frag} {H : Hp} : ∀ xs : List Str, DpAll K H (xs.map V.str) (xs.map PyData.str)
  | [] => .nil
  | x :: xs => .cons (.str x) (dpall_strs xs)
section
variable {P : Program} {w : World} {K : PySem.W.Frag} {mg : Str → Option Value} {base : Heap}
theorem scMd : FnScope nMd ["_law_word", "_law_change"] (defScope sMd) := ⟨rfl, rfl, rfl, by decide +kernel, rfl, by decide +kernel, by decide +kernel⟩
theorem ok_md {f : Addr} {fd : FuncData} (F : Fun K "_law_made" "_law_made" sMd f fd) (B : Bn mg) (W : Wn mg) (O : On mg) (hbool : mg "bool" = none) : FnOk P w K mg base CX0 1 f fd ["_law_word", "_law_change"] (spMd K) := by
  refine F.ok scMd (fun vs H Q E h => ?_) (fun cdv A outer s H vs Q E hr h => ?_)
  · obtain ⟨z, v, d, rfl, _⟩ := h
    rfl
  · obtain ⟨z, v, d, rfl, hd, ok, lw, hs, q⟩ := h
    have h2 : A.units + 3 + 200 < cLine := by
      have h2 : A.units + 3 + 16 * 0 + 200 < cLine := hr.un
      omega
    have h65 : A.units + 3 + 65 < cLine := by omega
    have h64 : A.units + 3 + 64 < cLine := by omega
    refine ⟨_, pss_cons (ps_if (PW.pt (pw_or (pt_not (pt_val (pe_callB call_isi (by rfl) W.isi (by decide +kernel) (pa_cons (pv 1) (pa_cons (pe_bltn (v := .ty "tuple") (u := .type "tuple") (by rfl) O.tuple (by decide +kernel) rfl) pa_nil)))))
        (pw_or (pt_cmpR op_notIn_seq (pe_callB call_len_seq (by rfl) B.len PySem.boot_len (pa_cons (pv 1) pa_nil)) (pe_tup (pa_cons pe_int (pa_cons pe_int pa_nil))) (by rfl))
        (pw_or1 (pt_cmpR (op_notInD h65) (pe_ix ix_tup (pv 1) pe_int (fun _ _ => rfl)) (pe_lst (pa_cons pe_str (pa_cons pe_str (pa_cons pe_str pa_nil)))) (by rfl)))))) (pss_one (ps_ret pe_non)) pss_nil)
      (pss_cons (ps_if (PW.pt (pw_or (pt_cmpR op_ne (pe_callB call_len_seq (by rfl) B.len PySem.boot_len (pa_cons (pv 1) pa_nil)) (pe_ifExp (pt_cmpR op_eq (pe_ix ix_tup (pv 1) pe_int (fun _ _ => rfl)) pe_str (nomark _)) pe_int pe_int) (by rfl))
        (pw_or1 (pt_not (pt_val (pe_callB call_isi (by rfl) W.isi (by decide +kernel) (pa_cons (pe_ix ix_tup (pv 1) pe_int (fun _ _ => rfl)) (pa_cons (pe_bltn (v := .ty "int") (u := .type "int") (by rfl) B.int (by decide +kernel) rfl) pa_nil)))))))) (pss_one (ps_ret pe_non)) pss_nil)
      (pss_cons (ps_par (i := 2) (j := 3) rfl scMd.nd rfl rfl (by decide) rfl rfl (pa_cons (pe_ix ix_tup (pv 1) pe_int (fun _ _ => rfl)) (pa_cons (pe_op op_add (pe_callB call_len_str (by rfl) B.len PySem.boot_len (pa_cons (pv 0) pa_nil)) (pe_callTy call_int1 (by rfl) B.int (by decide +kernel) (pa_cons (pe_cmpR op_eq (pe_ix ix_tup (pv 1) pe_int (fun _ _ => rfl)) pe_str (nomark _)) pa_nil))) pa_nil)) (by rfl))
      (pss_cons (ps_if (PW.pt (pw_or (pt_val (pe_callB call_isi (by rfl) W.isi (by decide +kernel) (pa_cons (pv 2) (pa_cons (pe_bltn (v := .ty "bool") (u := .type "bool") (by rfl) hbool (by decide +kernel) rfl) pa_nil))))
        (pw_or1 (pt_not (pt_chain op_le op_lt pe_int (pv 2) (pv 3)))))) (pss_one (ps_ret pe_non)) pss_nil)
      (pss_cons (ps_if (pt_cmpR op_eq (pe_ix ix_tup (pv 1) pe_int (fun _ _ => rfl)) pe_str (nomark _)) (pss_one (ps_ret (pe_op op_add_str (pe_slice sl_str (pv 0) po_none (po_some (pv 2))) (pe_slice sl_str (pv 0) (po_some (pe_op op_add (pv 2) pe_int)) po_none)))) pss_nil)
      (pss_cons (ps_if (PW.pt (pw_or (pt_cmpR (op_notInD h65) (pe_ix ix_tup (pv 1) pe_int (fun _ _ => rfl)) (pe_callTy (call_listS rfl) (by rfl) B.list (by decide +kernel) (pa_cons pe_str pa_nil)) (by rfl))
        (pw_or1 (PW.pt (pw_and (pt_cmpR op_eq (pe_ix ix_tup (pv 1) pe_int (fun _ _ => rfl)) pe_str (nomark _)) (pw_and1 (pt_cmpR op_eq (pe_ix ix_tup (pv 1) pe_int (fun _ _ => rfl)) (pe_ix ix_str (pv 0) (pv 2) (fun _ _ => rfl)) (by rfl)))))))) (pss_one (ps_ret pe_non)) pss_nil)
      (pss_cons (ps_set (i := 4) scMd.nd rfl (.inl rfl) (pe_ifExp (pt_cmpR op_eq (pe_ix ix_tup (pv 1) pe_int (fun _ _ => rfl)) pe_str (nomark _)) (pe_slice sl_str (pv 0) (po_some (pe_op op_add (pv 2) pe_int)) po_none) (pe_slice sl_str (pv 0) (po_some (pv 2)) po_none)))
      (pss_one (ps_ret (pe_op op_add_str (pe_op op_add_str (pe_slice sl_str (pv 0) po_none (po_some (pv 2))) (pe_ix ix_tup (pv 1) pe_int (fun _ _ => rfl))) (pv 4)))))))))), ?_⟩
    have n3 : 3 ≤ sizeLine := by decide
    have n2 : 2 ≤ sizeLine := by decide
    have n2' : 2 ≤ sizeLine := n2
    have qn : chB d (sgs z) = false → ∀ H', Same H H' → Q .non H' := fun e H' s' => by
      have := q H' s'
      rwa [mdV_no e] at this
    refine ⟨_, rfl, _, _, _, _, isTup d, rfl, .ty "tuple", Dp.ty hd, kit_tup d, _, rfl, ?_⟩
    cases d with
    | none => exact iteT (iteT (qn rfl _ fun _ _ e => e))
    | bool _ => exact iteT (iteT (qn rfl _ fun _ _ e => e))
    | int _ => exact iteT (iteT (qn rfl _ fun _ _ e => e))
    | str _ => exact iteT (iteT (qn rfl _ fun _ _ e => e))
    | list _ => exact iteT (iteT (qn rfl _ fun _ _ e => e))
    | dict _ => exact iteT (iteT (qn rfl _ fun _ _ e => e))
    | tuple ds =>
      cases hd with
      | @tup a xs _ ht hall =>
      have lx := dpall2 hall
      have sh := (ok ds rfl).1
      refine iteF ⟨_, rfl, a, xs, rfl, .inr ht, n2, fun p hp => ?_⟩
      have s1 := Same.new (o := .tup [V.int 2, V.int 3]) hp
      have ep : (upd H p (.tup [V.int 2, V.int 3])) p = some (.tup [V.int 2, V.int 3]) := upd_same
      have ht1 : SqT K (upd H p (.tup [V.int 2, V.int 3])) a xs := ht.imp (fun r => r.imp (s1 _ _) fun ⟨o, e⟩ => ⟨o, s1 _ _ e⟩) id
      have hall1 := DpAll.keep s1 hall
      generalize upd H p (.tup [V.int 2, V.int 3]) = H1 at s1 ep ht1 hall1 ⊢
      refine ⟨p, _, rfl, .inr (SqT.of ep), rfl, rfl, _, rfl, ?_⟩
      show (if (!inV (V.int (xs.length : Nat)) [V.int 2, V.int 3]) = true then _ else _)
      rw [in23]
      have q1 : ∀ H', Same H1 H' → Q (mdV z (.tuple ds)) H' := fun H' s' => q H' (s1.trans s')
      have qn1 : chB (.tuple ds) (sgs z) = false → ∀ H', Same H1 H' → Q .non H' := fun e H' s' => qn e H' (s1.trans s')
      clear q qn
      have lsg := sgs_length z
      have zl : z.length ≤ sizeLine := Nat.le_trans lw (by decide)
      have sL : SeqAt.shaped (.list [.str "put", .str "out", .str "swap"]) = true := by decide +kernel
      have one : ∀ i, i < (sgs z).length → ((sgs z).getD i ("" : Str)).length = 1 := fun i hi => by
        have m : (sgs z).getD i ("" : Str) ∈ sgs z := by
          rw [List.getD_eq_getElem?_getD, List.getElem?_eq_getElem hi]
          exact List.getElem_mem hi
        exact sgs_one m
      have len2 : ∀ {i j : Int}, (pre z i).length + (post z j).length ≤ sizeLine := fun {i j} => by
        have h1 := pre_len z i
        have h2 := post_len z j
        rw [sizeLine_eq]
        omega
      have len3 : ∀ {i j : Int} {y : Str}, y.length ≤ 1 → (pre z i ++ y).length + (post z j).length ≤ sizeLine := fun {i j y} hy => by
        have h1 := pre_len z i
        have h2 := post_len z j
        rw [sizeLine_eq, app_len]
        omega
      have len1 : ∀ {i : Int} {y : Str}, y.length ≤ 1 → (pre z i).length + y.length ≤ sizeLine := fun {i y} hy => by
        have h1 := pre_len z i
        rw [sizeLine_eq]
        omega
      cases hall1 with
      | nil => exact iteT (iteT (qn1 rfl _ fun _ _ e => e))
      | @cons vk vs k ks hk t1 =>
      cases t1 with
      | nil => exact iteT (iteT (qn1 rfl _ fun _ _ e => e))
      | @cons va vs a' ks ha t2 =>
      have shk := sh k List.mem_cons_self
      have sha := sh a' (List.mem_cons_of_mem _ List.mem_cons_self)
      -- is it a kind
      cases t2 with
      | nil =>
        refine iteF ⟨_, rfl, a, _, _, _, rfl, rfl, ht1, atI_nat (j := 0) rfl, n3, fun p2 hp2 => ?_⟩
        have s2 := Same.new (o := .lst [V.str "put", V.str "out", V.str "swap"]) hp2
        have e2 : (upd H1 p2 (.lst [V.str "put", V.str "out", V.str "swap"])) p2 = some (.lst [V.str "put", V.str "out", V.str "swap"]) := upd_same
        generalize upd H1 p2 (.lst [V.str "put", V.str "out", V.str "swap"]) = H2 at s2 e2 ⊢
        have ht2 : SqT K H2 a [vk, va] := ht1.imp (fun r => r.imp (s2 _ _) fun ⟨o, e⟩ => ⟨o, s2 _ _ e⟩) id
        refine ⟨k, _, Dp.keep s2 hk, .lst (SqL.of e2) (.cons (.str _) (.cons (.str _) (.cons (.str _) .nil))), shk, sL, _, rfl, ?_⟩
        show (if (!(three.map PyData.str).any fun y => PyData.eqv y k) = true then _ else _)
        rw [any_inS]
        cases hin : inS three k with
        | false => exact iteT (qn1 (by rw [ch2, (in3_no hin).2.1, Bool.and_false]) _ s2)
        | true =>
        refine iteF ⟨_, rfl, a, _, rfl, .inr ht2, ?_⟩
        rcases in3_yes hin with rfl | rfl | rfl
        · cases hk
          refine ⟨_, rfl, a, _, _, _, rfl, rfl, ht2, atI_nat (j := 0) rfl, rfl, _, rfl, ?_⟩
          rw [decide_eq_false (by decide +kernel)]
          refine iteF ⟨rfl, _, rfl, ?_⟩
          exact iteT (iteT (qn1 rfl _ s2))
        · cases hk
          refine ⟨_, rfl, a, _, _, _, rfl, rfl, ht2, atI_nat (j := 0) rfl, rfl, _, rfl, ?_⟩
          rw [decide_eq_true rfl]
          refine iteT ⟨rfl, _, rfl, iteF ?_⟩
          have nn : (isIntD a' = false ∨ isBoolD a' = true) → chB (.tuple [.str "out", a']) (sgs z) = false := fun h => by
            rw [ch2, numD_no h, Bool.and_false]
            rfl
          have ha2 := Dp.keep s2 ha
          refine ⟨_, rfl, a, _, _, _, rfl, rfl, ht2, atI_nat (j := 1) rfl, _, _, _, _, isIntD a', rfl, .ty "int", Dp.ty ha2, kit_int a', _, rfl, ?_⟩
          cases hI : isIntD a' with
          | false => exact iteT (qn1 (nn (.inl hI)) _ s2)
          | true =>
          refine iteF ⟨_, rfl, a, _, _, _, rfl, rfl, ht2, atI_nat (j := 1) rfl, _, rfl, z, rfl, zl, _, rfl, a, _, _, _, rfl, rfl, ht2, atI_nat (j := 0) rfl, rfl, .inr ⟨_, rfl, _, _, rfl, rfl, ?_⟩⟩
          refine ⟨_, _, rfl, _, rfl, _, _, _, _, isBoolD a', rfl, .ty "bool", Dp.ty ha2, kit_bool a', _, rfl, ?_⟩
          cases hB : isBoolD a' with
          | true => exact iteT (iteT (qn1 (nn (.inr hB)) _ s2))
          | false =>
          obtain ⟨i, rfl⟩ : ∃ i, a' = .int i := by
            cases a' with
            | int i => exact ⟨i, rfl⟩
            | bool b => cases hB
            | _ => cases hI
          cases ha
          refine iteF ⟨_, rfl, _, _, rfl, rfl, _, rfl, ?_⟩
          have en : chB (.tuple [.str "out", .int i]) (sgs z) = decide (0 ≤ i ∧ i < (z.length : Nat)) := by
            rw [ch2]
            show (!eqS (.str "out") "put" && nwB i 0 (((sgs z).length : Int) - 1) && eqS (.str "out") "out") = _
            rw [nwB_dec (by omega), lsg]
            cases decide (0 ≤ i ∧ i < ((z.length : Nat) : Int)) <;> decide +kernel
          by_cases h0 : 0 ≤ i
          · rw [decide_eq_true h0]
            refine iteT ⟨_, rfl, _, _, rfl, rfl, _, rfl, ?_⟩
            by_cases h1 : i < ((z.length : Nat) : Int)
            · have h1' : i < ((z.length : Nat) : Int) + (if decide (V.str "out" = V.str "put") = true then 1 else 0) := by split <;> omega
              rw [decide_eq_true h1']
              refine iteF ?_
              obtain ⟨i, rfl⟩ : ∃ n : Nat, i = (n : Int) := ⟨i.toNat, by omega⟩
              have il : i < (sgs z).length := by omega
              refine ⟨_, rfl, a, _, _, _, rfl, rfl, ht2, atI_nat (j := 0) rfl, rfl, _, rfl, ?_⟩
              rw [decide_eq_true rfl]
              refine iteT ⟨_, rfl, _, rfl, _, rfl, z, rfl, zl, _, rfl, _, rfl, _, _, rfl, rfl, _, rfl, z, rfl, zl, pre z i, post z ((i : Int) + 1), rfl, rfl, len2, ?_⟩
              have e9 : sgs (pre z (i : Int) ++ post z ((i : Int) + 1)) = app3 (sgs z) (i, (sgs z).getD i ("" : Str), ("" : Str)) := by
                rw [sgs_app, sgs_pre, (by omega : ((i : Int) + 1) = ((i + 1 : Nat) : Int)), sgs_post]
                show _ = (sgs z).take i ++ [] ++ (sgs z).drop (i + ((sgs z).getD i ("" : Str)).length)
                rw [one i il, List.append_nil]
              have q2 := q1 _ s2
              rw [mdV_yes (by rw [en]; exact decide_eq_true ⟨h0, h1⟩) (q := (i, (sgs z).getD i ("" : Str), ("" : Str))) rfl (Nat.zero_le _) e9] at q2
              exact q2
            · have h1' : ¬ i < ((z.length : Nat) : Int) + (if decide (V.str "out" = V.str "put") = true then 1 else 0) := by
                rw [decide_eq_false (by decide +kernel)]
                simpa using h1
              rw [decide_eq_false h1']
              exact iteT (qn1 (by rw [en]; exact decide_eq_false fun c => h1 c.2) _ s2)
          · rw [decide_eq_false h0]
            refine iteF ⟨_, rfl, ?_⟩
            exact iteT (qn1 (by rw [en]; exact decide_eq_false fun c => h0 c.1) _ s2)
        · cases hk
          refine ⟨_, rfl, a, _, _, _, rfl, rfl, ht2, atI_nat (j := 0) rfl, rfl, _, rfl, ?_⟩
          rw [decide_eq_false (by decide +kernel)]
          refine iteF ⟨rfl, _, rfl, ?_⟩
          exact iteT (iteT (qn1 (by rw [ch2]; exact Bool.and_false _) _ s2))
      | @cons vz vs zz ks hz' t3 =>
      cases t3 with
      | @cons v4 vs4 d4 ds4 h4 t4 =>
        have hn : decide ((vk :: va :: vz :: v4 :: vs4).length = 2 ∨ (vk :: va :: vz :: v4 :: vs4).length = 3) = false := decide_eq_false (by rw [List.length_cons, List.length_cons, List.length_cons, List.length_cons]; omega)
        rw [hn]
        exact iteT (iteT (qn1 rfl _ fun _ _ e => e))
      | nil =>
        have shz := sh zz (List.mem_cons_of_mem _ (List.mem_cons_of_mem _ List.mem_cons_self))
        refine iteF ⟨_, rfl, a, _, _, _, rfl, rfl, ht1, atI_nat (j := 0) rfl, n3, fun p2 hp2 => ?_⟩
        have s2 := Same.new (o := .lst [V.str "put", V.str "out", V.str "swap"]) hp2
        have e2 : (upd H1 p2 (.lst [V.str "put", V.str "out", V.str "swap"])) p2 = some (.lst [V.str "put", V.str "out", V.str "swap"]) := upd_same
        generalize upd H1 p2 (.lst [V.str "put", V.str "out", V.str "swap"]) = H2 at s2 e2 ⊢
        have ht2 : SqT K H2 a [vk, va, vz] := ht1.imp (fun r => r.imp (s2 _ _) fun ⟨o, e⟩ => ⟨o, s2 _ _ e⟩) id
        refine ⟨k, _, Dp.keep s2 hk, .lst (SqL.of e2) (.cons (.str _) (.cons (.str _) (.cons (.str _) .nil))), shk, sL, _, rfl, ?_⟩
        show (if (!(three.map PyData.str).any fun y => PyData.eqv y k) = true then _ else _)
        rw [any_inS]
        cases hin : inS three k with
        | false => exact iteT (qn1 (by
            have h3 := in3_no hin
            rw [ch3, h3.1, h3.2.2, if_neg Bool.false_ne_true, Bool.and_false, Bool.false_and, Bool.false_and]) _ s2)
        | true =>
        refine iteF ⟨_, rfl, a, _, rfl, .inr ht2, ?_⟩
        rcases in3_yes hin with rfl | rfl | rfl
        · cases hk
          refine ⟨_, rfl, a, _, _, _, rfl, rfl, ht2, atI_nat (j := 0) rfl, rfl, _, rfl, ?_⟩
          rw [decide_eq_false (by decide +kernel)]
          refine iteF ⟨rfl, _, rfl, iteF ?_⟩
          have nn : (isIntD a' = false ∨ isBoolD a' = true) → chB (.tuple [.str "put", a', zz]) (sgs z) = false := fun h => by
            rw [ch3, numD_no h, numD_no h]
            split <;> rfl
          have ha2 := Dp.keep s2 ha
          refine ⟨_, rfl, a, _, _, _, rfl, rfl, ht2, atI_nat (j := 1) rfl, _, _, _, _, isIntD a', rfl, .ty "int", Dp.ty ha2, kit_int a', _, rfl, ?_⟩
          cases hI : isIntD a' with
          | false => exact iteT (qn1 (nn (.inl hI)) _ s2)
          | true =>
          refine iteF ⟨_, rfl, a, _, _, _, rfl, rfl, ht2, atI_nat (j := 1) rfl, _, rfl, z, rfl, zl, _, rfl, a, _, _, _, rfl, rfl, ht2, atI_nat (j := 0) rfl, rfl, .inr ⟨_, rfl, _, _, rfl, rfl, ?_⟩⟩
          refine ⟨_, _, rfl, _, rfl, _, _, _, _, isBoolD a', rfl, .ty "bool", Dp.ty ha2, kit_bool a', _, rfl, ?_⟩
          cases hB : isBoolD a' with
          | true => exact iteT (iteT (qn1 (nn (.inr hB)) _ s2))
          | false =>
          obtain ⟨i, rfl⟩ : ∃ i, a' = .int i := by
            cases a' with
            | int i => exact ⟨i, rfl⟩
            | bool b => cases hB
            | _ => cases hI
          cases ha
          refine iteF ⟨_, rfl, _, _, rfl, rfl, _, rfl, ?_⟩
          have en : chB (.tuple [.str "put", .int i, zz]) (sgs z) = (decide (0 ≤ i ∧ i < ((z.length + 1 : Nat) : Int)) && sgD zz) := by
            rw [ch3, if_pos (by decide +kernel)]
            show (nwB i 0 (((sgs z).length : Nat) : Int) && sgD zz) = _
            have := nwB_dec (i := i) (n := z.length + 1) (by omega)
            rw [lsg, (by omega : ((z.length : Nat) : Int) = ((z.length + 1 : Nat) : Int) - 1), this]
          have rm : ((z.length : Nat) : Int) + (if decide (V.str "put" = V.str "put") = true then 1 else 0) = ((z.length + 1 : Nat) : Int) := by
            rw [decide_eq_true rfl]
            simp
          by_cases h0 : 0 ≤ i
          · rw [decide_eq_true h0]
            refine iteT ⟨_, rfl, _, _, rfl, rfl, _, rfl, ?_⟩
            rw [rm]
            by_cases h1 : i < ((z.length + 1 : Nat) : Int)
            · rw [decide_eq_true h1]
              refine iteF ?_
              obtain ⟨i, rfl⟩ : ∃ n : Nat, i = (n : Int) := ⟨i.toNat, by omega⟩
              refine ⟨_, rfl, a, _, _, _, rfl, rfl, ht2, atI_nat (j := 0) rfl, rfl, _, rfl, ?_⟩
              rw [decide_eq_false (by decide +kernel : ¬ V.str "put" = V.str "out")]
              refine iteF ⟨_, rfl, a, _, _, _, rfl, rfl, ht2, atI_nat (j := 2) rfl, "abcde", rfl, by decide, fun p3 hp3 => ?_⟩
              have s3 := Same.new (o := .lst ((sgs "abcde").map V.str)) hp3
              have e3 : (upd H2 p3 (.lst ((sgs "abcde").map V.str))) p3 = some (.lst ((sgs "abcde").map V.str)) := upd_same
              generalize upd H2 p3 (.lst ((sgs "abcde").map V.str)) = H3 at s3 e3 ⊢
              have s23 := Same.trans s2 s3
              have ht3 : SqT K H3 a _ := ht2.imp (fun r => r.imp (s3 _ _) fun ⟨o, e⟩ => ⟨o, s3 _ _ e⟩) id
              refine ⟨zz, _, Dp.keep s23 hz', .lst (SqL.of e3) (dpall_strs _), shz, (by decide +kernel : SeqAt.shaped (.list ((sgs "abcde").map PyData.str)) = true), _, rfl, ?_⟩
              rw [any_inS, sgD_in]
              cases hs' : sgD zz with
              | false => exact iteT (iteT (qn1 (by rw [en, hs', Bool.and_false]) _ s23))
              | true =>
              obtain ⟨y, rfl⟩ : ∃ y, zz = .str y := by
                cases zz with
                | str y => exact ⟨y, rfl⟩
                | _ => cases hs'
              cases hz'
              have hy : sgB y = true := hs'
              have yl := sgB_len hy
              refine iteF ⟨_, rfl, a, _, _, _, rfl, rfl, ht3, atI_nat (j := 0) rfl, rfl, _, rfl, ?_⟩
              rw [decide_eq_false (by decide +kernel : ¬ V.str "put" = V.str "swap")]
              refine iteF (iteF ?_)
              refine ⟨_, rfl, a, _, _, _, rfl, rfl, ht3, atI_nat (j := 0) rfl, rfl, _, rfl, ?_⟩
              rw [decide_eq_false (by decide +kernel : ¬ V.str "put" = V.str "swap")]
              refine iteF ⟨_, rfl, _, rfl, _, rfl, z, rfl, zl, ?_⟩
              refine ⟨_, rfl, _, rfl, _, rfl, z, rfl, zl, _, rfl, a, _, _, _, rfl, rfl, ht3, atI_nat (j := 2) rfl, pre z i, y, rfl, rfl, len1 (by omega), _, rfl, pre z i ++ y, post z i, rfl, rfl, len3 (by omega), ?_⟩
              have e9 : sgs (pre z (i : Int) ++ y ++ post z (i : Int)) = app3 (sgs z) (i, ("" : Str), y) := by
                rw [sgs_app, sgs_app, sgs_pre, sgs_post]
                rfl
              have q2 := q1 _ s23
              rw [mdV_yes (by rw [en, hs', decide_eq_true ⟨h0, h1⟩]; rfl) (q := (i, ("" : Str), y)) rfl (by show y.length ≤ 1; omega) e9] at q2
              exact q2
            · rw [decide_eq_false h1]
              exact iteT (qn1 (by rw [en, decide_eq_false fun c => h1 c.2]; rfl) _ s2)
          · rw [decide_eq_false h0]
            refine iteF ⟨_, rfl, ?_⟩
            exact iteT (qn1 (by rw [en, decide_eq_false fun c => h0 c.1]; rfl) _ s2)
        · cases hk
          refine ⟨_, rfl, a, _, _, _, rfl, rfl, ht2, atI_nat (j := 0) rfl, rfl, _, rfl, ?_⟩
          rw [decide_eq_true rfl]
          refine iteT ⟨rfl, _, rfl, ?_⟩
          exact iteT (iteT (qn1 (by
            rw [ch3, if_neg (by decide +kernel), (by decide +kernel : eqS (.str "out") "swap" = false), Bool.and_false, Bool.false_and, Bool.false_and]) _ s2))
        · cases hk
          refine ⟨_, rfl, a, _, _, _, rfl, rfl, ht2, atI_nat (j := 0) rfl, rfl, _, rfl, ?_⟩
          rw [decide_eq_false (by decide +kernel)]
          refine iteF ⟨rfl, _, rfl, iteF ?_⟩
          have nn : (isIntD a' = false ∨ isBoolD a' = true) → chB (.tuple [.str "swap", a', zz]) (sgs z) = false := fun h => by
            rw [ch3, numD_no h, numD_no h]
            split <;> rfl
          have ha2 := Dp.keep s2 ha
          refine ⟨_, rfl, a, _, _, _, rfl, rfl, ht2, atI_nat (j := 1) rfl, _, _, _, _, isIntD a', rfl, .ty "int", Dp.ty ha2, kit_int a', _, rfl, ?_⟩
          cases hI : isIntD a' with
          | false => exact iteT (qn1 (nn (.inl hI)) _ s2)
          | true =>
          refine iteF ⟨_, rfl, a, _, _, _, rfl, rfl, ht2, atI_nat (j := 1) rfl, _, rfl, z, rfl, zl, _, rfl, a, _, _, _, rfl, rfl, ht2, atI_nat (j := 0) rfl, rfl, .inr ⟨_, rfl, _, _, rfl, rfl, ?_⟩⟩
          refine ⟨_, _, rfl, _, rfl, _, _, _, _, isBoolD a', rfl, .ty "bool", Dp.ty ha2, kit_bool a', _, rfl, ?_⟩
          cases hB : isBoolD a' with
          | true => exact iteT (iteT (qn1 (nn (.inr hB)) _ s2))
          | false =>
          obtain ⟨i, rfl⟩ : ∃ i, a' = .int i := by
            cases a' with
            | int i => exact ⟨i, rfl⟩
            | bool b => cases hB
            | _ => cases hI
          cases ha
          refine iteF ⟨_, rfl, _, _, rfl, rfl, _, rfl, ?_⟩
          have en : chB (.tuple [.str "swap", .int i, zz]) (sgs z) = (decide (0 ≤ i ∧ i < ((z.length : Nat) : Int)) && sgD zz && nsD (.int i) zz (sgs z)) := by
            rw [ch3, if_neg (by decide +kernel)]
            show (nwB i 0 (((sgs z).length : Int) - 1) && !eqS (.str "swap") "out" && eqS (.str "swap") "swap" && sgD zz && nsD (.int i) zz (sgs z)) = _
            rw [nwB_dec (by omega), lsg, (by decide +kernel : eqS (.str "swap") "out" = false), (by decide +kernel : eqS (.str "swap") "swap" = true)]
            cases decide (0 ≤ i ∧ i < ((z.length : Nat) : Int)) <;> rfl
          have rm : ((z.length : Nat) : Int) + (if decide (V.str "swap" = V.str "put") = true then 1 else 0) = ((z.length : Nat) : Int) := by
            rw [decide_eq_false (by decide +kernel)]
            simp
          by_cases h0 : 0 ≤ i
          · rw [decide_eq_true h0]
            refine iteT ⟨_, rfl, _, _, rfl, rfl, _, rfl, ?_⟩
            rw [rm]
            by_cases h1 : i < ((z.length : Nat) : Int)
            · rw [decide_eq_true h1]
              refine iteF ?_
              obtain ⟨i, rfl⟩ : ∃ n : Nat, i = (n : Int) := ⟨i.toNat, by omega⟩
              refine ⟨_, rfl, a, _, _, _, rfl, rfl, ht2, atI_nat (j := 0) rfl, rfl, _, rfl, ?_⟩
              rw [decide_eq_false (by decide +kernel)]
              refine iteF ⟨_, rfl, a, _, _, _, rfl, rfl, ht2, atI_nat (j := 2) rfl, "abcde", rfl, by decide, fun p3 hp3 => ?_⟩
              have s3 := Same.new (o := .lst ((sgs "abcde").map V.str)) hp3
              have e3 : (upd H2 p3 (.lst ((sgs "abcde").map V.str))) p3 = some (.lst ((sgs "abcde").map V.str)) := upd_same
              generalize upd H2 p3 (.lst ((sgs "abcde").map V.str)) = H3 at s3 e3 ⊢
              have s23 := Same.trans s2 s3
              have ht3 : SqT K H3 a _ := ht2.imp (fun r => r.imp (s3 _ _) fun ⟨o, e⟩ => ⟨o, s3 _ _ e⟩) id
              refine ⟨zz, _, Dp.keep s23 hz', .lst (SqL.of e3) (dpall_strs _), shz, (by decide +kernel : SeqAt.shaped (.list ((sgs "abcde").map PyData.str)) = true), _, rfl, ?_⟩
              rw [any_inS, sgD_in]
              cases hs' : sgD zz with
              | false => exact iteT (iteT (qn1 (by rw [en, hs', Bool.and_false]; rfl) _ s23))
              | true =>
              obtain ⟨y, rfl⟩ : ∃ y, zz = .str y := by
                cases zz with
                | str y => exact ⟨y, rfl⟩
                | _ => cases hs'
              cases hz'
              have hy : sgB y = true := hs'
              have yl := sgB_len hy
              refine iteF ⟨_, rfl, a, _, _, _, rfl, rfl, ht3, atI_nat (j := 0) rfl, rfl, _, rfl, ?_⟩
              have il : i < (sgs z).length := by omega
              have jc : i < z.cps.toList.length := by
                have : z.cps.toList.length = z.length := rfl
                omega
              have gw : (sgs z)[i]? = some ⟨#[z.cps.toList[i]]⟩ := by
                refine sgs_at ?_
                rw [Array.getElem?_eq_getElem (by simpa using jc)]
                rfl
              rw [decide_eq_true rfl]
              refine iteT ⟨_, rfl, a, _, _, _, rfl, rfl, ht3, atI_nat (j := 2) rfl, _, rfl, _, rfl, z, (i : Int), _, rfl, rfl, zl, atI_nat (List.getElem?_eq_getElem jc), rfl, _, rfl, ?_⟩
              have ens : nsD (.int i) (.str y) (sgs z) = !decide ((⟨#[z.cps.toList[i]]⟩ : Str) = y) := by
                show (!decide ((sgs z)[(i : Int).toNat]? = some y)) = _
                rw [Int.toNat_natCast, gw]
                by_cases e : (⟨#[z.cps.toList[i]]⟩ : Str) = y
                · rw [e, decide_eq_true rfl, decide_eq_true rfl]
                · rw [decide_eq_false e, decide_eq_false fun c => e (Option.some.inj c)]
              by_cases e : y = (⟨#[z.cps.toList[i]]⟩ : Str)
              · rw [decide_eq_true (congrArg V.str e)]
                exact iteT (qn1 (by rw [en, ens, decide_eq_true e.symm]; exact Bool.and_false _) _ s23)
              · rw [decide_eq_false fun c => e (V.str.inj c)]
                refine iteF ?_
                refine ⟨_, rfl, a, _, _, _, rfl, rfl, ht3, atI_nat (j := 0) rfl, rfl, _, rfl, ?_⟩
                rw [decide_eq_true rfl]
                refine iteT ⟨_, rfl, _, rfl, _, _, rfl, rfl, _, rfl, z, rfl, zl, ?_⟩
                refine ⟨_, rfl, _, rfl, _, rfl, z, rfl, zl, _, rfl, a, _, _, _, rfl, rfl, ht3, atI_nat (j := 2) rfl, pre z i, y, rfl, rfl, len1 (by omega), _, rfl, pre z i ++ y, post z ((i : Int) + 1), rfl, rfl, len3 (by omega), ?_⟩
                have e9 : sgs (pre z (i : Int) ++ y ++ post z ((i : Int) + 1)) = app3 (sgs z) (i, (sgs z).getD i ("" : Str), y) := by
                  rw [sgs_app, sgs_app, sgs_pre, (by omega : ((i : Int) + 1) = ((i + 1 : Nat) : Int)), sgs_post]
                  show _ = (sgs z).take i ++ sgs y ++ (sgs z).drop (i + ((sgs z).getD i ("" : Str)).length)
                  rw [one i il]
                have q2 := q1 _ s23
                rw [mdV_yes (by rw [en, hs', ens, decide_eq_true ⟨h0, h1⟩, decide_eq_false fun c => e c.symm]; rfl) (q := (i, (sgs z).getD i ("" : Str), y)) (by show ((i : Int).toNat, (if ("swap" : Str) = "put" then ("" : Str) else (sgs z).getD (i : Int).toNat ("" : Str)), y) = _; rw [Int.toNat_natCast, if_neg (by decide +kernel)]) (by show y.length ≤ 1; omega) e9] at q2
                exact q2
            · rw [decide_eq_false h1]
              exact iteT (qn1 (by rw [en, decide_eq_false fun c => h1 c.2]; rfl) _ s2)
          · rw [decide_eq_false h0]
            refine iteF ⟨_, rfl, ?_⟩
            exact iteT (qn1 (by rw [en, decide_eq_false fun c => h0 c.1]; rfl) _ s2)
end
end Mk

set_option Elab.async false
set_option linter.all false
set_option maxRecDepth 100000
set_option maxHeartbeats 1000000
/-! rows of changes and their ways back -/
namespace Mk
open PySem PySem.Spec L2

theorem runD_cons (d : PyData) (ds : List PyData) (sg : List Str) : runD (d :: ds) sg = if chB d sg = true then (runD ds (app3 sg (stepOf d sg))).map (stepOf d sg :: ·) else none := rfl
theorem endS_cons (sg : List Str) (q : St3) (st : List St3) : endS sg (q :: st) = endS (app3 sg q) st := rfl
theorem endS_app (sg : List Str) (s t : List St3) : endS sg (s ++ t) = endS (endS sg s) t := by
  unfold endS
  rw [List.foldl_append]
theorem runD_app : ∀ (as bs : List PyData) (sg : List Str), runD (as ++ bs) sg = (runD as sg).bind fun s => (runD bs (endS sg s)).map (s ++ ·)
  | [], bs, sg => by
    show runD bs sg = (runD bs sg).map ([] ++ ·)
    cases runD bs sg <;> rfl
  | d :: as, bs, sg => by
    rw [List.cons_append, runD_cons, runD_cons]
    by_cases c : chB d sg = true
    · rw [if_pos c, if_pos c, runD_app as bs]
      cases runD as (app3 sg (stepOf d sg)) with
      | none => rfl
      | some s =>
        show ((runD bs (endS (app3 sg (stepOf d sg)) s)).map (s ++ ·)).map (stepOf d sg :: ·) = (runD bs (endS sg (stepOf d sg :: s))).map ((stepOf d sg :: s) ++ ·)
        rw [endS_cons]
        cases runD bs (endS (app3 sg (stepOf d sg)) s) <;> rfl
    · rw [if_neg c, if_neg c]
      rfl
theorem runD_at : ∀ {ds : List PyData} {sg : List Str} {st : List St3}, runD ds sg = some st → ∀ {j : Nat} {d : PyData}, ds[j]? = some d → chB d (endS sg (st.take j)) = true ∧ st[j]? = some (stepOf d (endS sg (st.take j)))
  | [], _, _, _, _, _, e => by cases e
  | x :: ds, sg, st, h, j, d, e => by
    rw [runD_cons] at h
    by_cases c : chB x sg = true
    · rw [if_pos c] at h
      cases hr : runD ds (app3 sg (stepOf x sg)) with
      | none => rw [hr] at h; cases h
      | some r =>
        rw [hr] at h
        cases h
        cases j with
        | zero =>
          cases e
          exact ⟨c, rfl⟩
        | succ j => exact runD_at hr (j := j) (d := d) e
    · rw [if_neg c] at h
      cases h
theorem endS_sg : ∀ {ds : List PyData} {sg : List Str} {st : List St3}, (∀ x ∈ sg, sgB x = true) → runD ds sg = some st → ∀ x ∈ endS sg st, sgB x = true
  | [], _, _, hs, h => by cases h; exact hs
  | d :: ds, sg, st, hs, h => by
    rw [runD_cons] at h
    by_cases c : chB d sg = true
    · rw [if_pos c] at h
      cases hr : runD ds (app3 sg (stepOf d sg)) with
      | none => rw [hr] at h; cases h
      | some r =>
        rw [hr] at h
        cases h
        rw [endS_cons]
        exact endS_sg (app3_sg hs c) hr
    · rw [if_neg c] at h
      cases h
theorem runD_take : ∀ {ds : List PyData} {sg : List Str} {st : List St3} (j : Nat), runD ds sg = some st → runD (ds.take j) sg = some (st.take j)
  | [], _, _, j, h => by cases h; rw [List.take_nil, List.take_nil]; rfl
  | d :: ds, sg, st, 0, h => rfl
  | d :: ds, sg, st, j + 1, h => by
    rw [runD_cons] at h
    by_cases c : chB d sg = true
    · rw [if_pos c] at h
      cases hr : runD ds (app3 sg (stepOf d sg)) with
      | none => rw [hr] at h; cases h
      | some r =>
        rw [hr] at h
        cases h
        rw [List.take_succ_cons, runD_cons, if_pos c, runD_take j hr]
        rfl
    · rw [if_neg c] at h
      cases h
theorem chOf_step {d : PyData} {sg : List Str} (hs : ∀ x ∈ sg, sgB x = true) (h : chB d sg = true) : chOf (stepOf d sg) = d := by
  have mem : ∀ {i : Nat}, i < sg.length → sg.getD i ("" : Str) ≠ "" := fun {i} hi => by
    refine ne_em (hs _ ?_)
    rw [List.getD_eq_getElem?_getD, List.getElem?_eq_getElem hi]
    exact List.getElem_mem hi
  rcases ch_cases h with ⟨i, rfl, hi, es⟩ | ⟨i, y, rfl, hi, hy, es⟩ | ⟨i, y, rfl, hi, hy, _, es⟩
  · rw [es]
    exact (if_neg (mem hi)).trans (if_pos rfl)
  · rw [es]
    exact if_pos rfl
  · rw [es]
    exact (if_neg (mem hi)).trans (if_neg (ne_em hy))
/-- the step back -/
abbrev bk (q : St3) : St3 := (q.1, q.2.2, q.2.1)
theorem getD_app {sg : List Str} {i : Nat} {y : Str} {r : List Str} (hi : i ≤ sg.length) : (sg.take i ++ y :: r).getD i ("" : Str) = y := by
  rw [List.getD_eq_getElem?_getD, List.getElem?_append_right (by rw [List.length_take]; omega), List.length_take, Nat.min_eq_left hi, Nat.sub_self]
  rfl
theorem back_one {d : PyData} {sg : List Str} (hs : ∀ x ∈ sg, sgB x = true) (l : sg.length ≤ 4000) (h : chB d sg = true) :
    chB (chOf (bk (stepOf d sg))) (app3 sg (stepOf d sg)) = true ∧ stepOf (chOf (bk (stepOf d sg))) (app3 sg (stepOf d sg)) = bk (stepOf d sg) ∧ app3 (app3 sg (stepOf d sg)) (bk (stepOf d sg)) = sg := by
  have hs' := app3_sg hs h
  have hl := app3_len h
  have mem : ∀ {i : Nat}, i < sg.length → sgB (sg.getD i ("" : Str)) = true := fun {i} hi => by
    refine hs _ ?_
    rw [List.getD_eq_getElem?_getD, List.getElem?_eq_getElem hi]
    exact List.getElem_mem hi
  have gd : ∀ {i : Nat} (hi : i < sg.length), sg.drop i = sg.getD i ("" : Str) :: sg.drop (i + 1) := fun {i} hi => by
    rw [List.drop_eq_getElem_cons hi, List.getD_eq_getElem?_getD, List.getElem?_eq_getElem hi]
    rfl
  have lt : ∀ {i : Nat}, i ≤ sg.length → (sg.take i).length = i := fun {i} hi => by rw [List.length_take]; omega
  have tk : ∀ {i : Nat} {r : List Str}, i ≤ sg.length → (sg.take i ++ r).take i = sg.take i := fun {i r} hi => by
    rw [List.take_append_of_le_length (by rw [lt hi]; exact Nat.le_refl _), List.take_take, Nat.min_self]
  have dr : ∀ {i k : Nat} {r : List Str}, i ≤ sg.length → (sg.take i ++ r).drop (i + k) = r.drop k := fun {i k r} hi => by
    have := List.drop_append (l₁ := sg.take i) (l₂ := r) (i := i + k)
    rw [this, lt hi, List.drop_of_length_le (by rw [lt hi]; omega), List.nil_append]
    congr 1
    omega
  rcases ch_cases h with ⟨i, rfl, hi, es⟩ | ⟨i, y, rfl, hi, hy, es⟩ | ⟨i, y, rfl, hi, hy, nsy, es⟩
  · rw [es] at hs' hl ⊢
    have ml := sgB_len (mem hi)
    have e1 : app3 sg (i, sg.getD i ("" : Str), ("" : Str)) = sg.take i ++ sg.drop (i + 1) := by
      show sg.take i ++ [] ++ sg.drop (i + (sg.getD i ("" : Str)).length) = _
      rw [ml, List.append_nil]
    rw [e1] at hs' hl ⊢
    have ll : i ≤ (sg.take i ++ sg.drop (i + 1)).length := by rw [List.length_append, lt (by omega)]; omega
    obtain ⟨c1, c2⟩ := chB_put (sg := sg.take i ++ sg.drop (i + 1)) ll (by omega) (mem hi)
    refine ⟨c1, c2, ?_⟩
    show (sg.take i ++ sg.drop (i + 1)).take i ++ sgs (sg.getD i ("" : Str)) ++ (sg.take i ++ sg.drop (i + 1)).drop (i + 0) = sg
    rw [tk (by omega), dr (by omega), mk_len ml, List.drop_zero, List.append_assoc, List.singleton_append, ← gd hi, List.take_append_drop]
  · rw [es] at hs' hl ⊢
    have ml := sgB_len hy
    have e1 : app3 sg (i, ("" : Str), y) = sg.take i ++ y :: sg.drop i := by
      show sg.take i ++ sgs y ++ sg.drop (i + 0) = _
      rw [mk_len ml, List.append_assoc]
      rfl
    rw [e1] at hs' hl ⊢
    have ll : i < (sg.take i ++ y :: sg.drop i).length := by rw [List.length_append, lt hi, List.length_cons]; omega
    have c := chB_out (sg := sg.take i ++ y :: sg.drop i) ll (by omega) hs'
    rw [getD_app hi] at c
    refine ⟨c.1, c.2, ?_⟩
    show (sg.take i ++ y :: sg.drop i).take i ++ [] ++ (sg.take i ++ y :: sg.drop i).drop (i + y.length) = sg
    rw [tk hi, dr hi, ml, List.append_nil]
    exact List.take_append_drop _ _
  · rw [es] at hs' hl ⊢
    have ml := sgB_len (mem hi)
    have my := sgB_len hy
    have e1 : app3 sg (i, sg.getD i ("" : Str), y) = sg.take i ++ y :: sg.drop (i + 1) := by
      show sg.take i ++ sgs y ++ sg.drop (i + (sg.getD i ("" : Str)).length) = _
      rw [ml, mk_len my, List.append_assoc]
      rfl
    rw [e1] at hs' hl ⊢
    have ll : i < (sg.take i ++ y :: sg.drop (i + 1)).length := by rw [List.length_append, lt (by omega), List.length_cons]; omega
    have nn : sg.getD i ("" : Str) ≠ y := fun e => nsy (by rw [List.getElem?_eq_getElem hi, ← e, List.getD_eq_getElem?_getD, List.getElem?_eq_getElem hi]; rfl)
    have c := chB_swap (sg := sg.take i ++ y :: sg.drop (i + 1)) (y := sg.getD i ("" : Str)) ll (by omega) hs' (mem hi) (by rw [getD_app (by omega)]; exact nn)
    rw [getD_app (by omega)] at c
    refine ⟨c.1, c.2, ?_⟩
    show (sg.take i ++ y :: sg.drop (i + 1)).take i ++ sgs (sg.getD i ("" : Str)) ++ (sg.take i ++ y :: sg.drop (i + 1)).drop (i + y.length) = sg
    rw [tk (by omega), dr (by omega), my, mk_len ml]
    show sg.take i ++ [sg.getD i ("" : Str)] ++ sg.drop (i + 1) = sg
    rw [List.append_assoc, List.singleton_append, ← gd hi, List.take_append_drop]
def bkS (st : List St3) : List St3 := st.reverse.map bk
theorem backD_eq (st : List St3) : backD st = (bkS st).map chOf := by
  unfold backD bkS
  rw [List.map_map]
  rfl
theorem back_all : ∀ {ds : List PyData} {sg : List Str} {st : List St3}, (∀ x ∈ sg, sgB x = true) → sg.length + ds.length ≤ 4000 → runD ds sg = some st → runD (backD st) (endS sg st) = some (bkS st) ∧ endS (endS sg st) (bkS st) = sg ∧ st.map chOf = ds
  | [], _, _, _, _, h => by cases h; exact ⟨rfl, rfl, rfl⟩
  | d :: ds, sg, st, hs, l, h => by
    rw [runD_cons] at h
    by_cases c : chB d sg = true
    · rw [if_pos c] at h
      cases hr : runD ds (app3 sg (stepOf d sg)) with
      | none => rw [hr] at h; cases h
      | some r =>
        rw [hr] at h
        cases h
        have hl := app3_len c
        rw [List.length_cons] at l
        obtain ⟨i1, i2, i3⟩ := back_all (app3_sg hs c) (by omega) hr
        obtain ⟨b1, b2, b3⟩ := back_one hs (by omega) c
        rw [endS_cons]
        have eb : bkS (stepOf d sg :: r) = bkS r ++ [bk (stepOf d sg)] := by
          unfold bkS
          rw [List.reverse_cons, List.map_append]
          rfl
        refine ⟨?_, ?_, ?_⟩
        · rw [backD_eq, eb, List.map_append, ← backD_eq, runD_app, i1]
          show (runD [chOf (bk (stepOf d sg))] (endS (endS (app3 sg (stepOf d sg)) r) (bkS r))).map (bkS r ++ ·) = _
          rw [i2, runD_cons, if_pos b1, b2]
          rfl
        · rw [eb, endS_app, i2]
          exact b3
        · rw [List.map_cons, i3, chOf_step hs c]
    · rw [if_neg c] at h
      cases h
theorem bkS_bkS (st : List St3) : bkS (bkS st) = st := by
  unfold bkS
  rw [← List.map_reverse, List.reverse_reverse, List.map_map]
  exact List.map_id _
/-- the words of the steps, one behind the other -/
def wrds (sg : List Str) (st : List St3) : List Str := (List.range (st.length + 1)).map fun j => wd (endS sg (st.take j))
theorem wrds_len (sg : List Str) (st : List St3) : (wrds sg st).length = st.length + 1 := by
  unfold wrds
  rw [List.length_map, List.length_range]
theorem wrds_at {sg : List Str} {st : List St3} {j : Nat} (h : j ≤ st.length) : (wrds sg st)[j]? = some (wd (endS sg (st.take j))) := by
  unfold wrds
  rw [List.getElem?_map, List.getElem?_range (by omega)]
  rfl
theorem wrds_snoc (sg : List Str) (st : List St3) (q : St3) : wrds sg (st ++ [q]) = wrds sg st ++ [wd (app3 (endS sg st) q)] := by
  unfold wrds
  rw [List.length_append, List.length_singleton, List.range_succ, List.map_append]
  congr 1
  · refine List.map_congr_left fun j hj => ?_
    rw [List.take_append_of_le_length (by have := List.mem_range.mp hj; omega)]
  · show [wd (endS sg ((st ++ [q]).take (st.length + 1)))] = _
    rw [List.take_of_length_le (by rw [List.length_append, List.length_singleton]; exact Nat.le_refl _), endS_app]
    rfl
end Mk

set_option Elab.async false
set_option linter.all false
set_option maxRecDepth 100000
set_option maxHeartbeats 1000000
/-! rows that the law draws; the words of a row -/
namespace Mk
open PySem PySem.Spec L2 PyProof.Rows

abbrev sStepsD : Stmt := top 50
abbrev sRun : Stmt := top 51
/-- the heap without the cup -/
def cutH (p : Addr) (H : Hp) : Hp := fun b => if b = p then none else H b
theorem cutH_ne {p b : Addr} {H : Hp} (h : b ≠ p) : cutH p H b = H b := if_neg h
theorem cutH_same {p : Addr} {H : Hp} : Same (cutH p H) H := fun b o e => by
  by_cases h : b = p
  · rw [h] at e
    rw [show cutH p H p = none from if_pos rfl] at e
    cases e
  · rwa [cutH_ne h] at e
theorem But.cut {p : Addr} {H H' : Hp} (B : But p H H') : Same (cutH p H) (cutH p H') := fun b o e => by
  by_cases h : b = p
  · rw [h] at e
    rw [show cutH p H p = none from if_pos rfl] at e
    cases e
  · rw [cutH_ne h] at e ⊢
    exact B b o h e
/-- a change that could be made in some word -/
def Drn (d : PyData) : Prop := ∃ sg : List Str, (∀ x ∈ sg, sgB x = true) ∧ sg.length ≤ 1000 ∧ chB d sg = true
def spStepsD (K : PySem.W.Frag) : Sp := fun vs H Q _ => ∃ (p S : Addr) (n : Nat) (zs : List Str) (z : Str), vs = [.ref p, .ref S, .str z, .int 9] ∧ Pot H p n ∧ n + 200 < PB ∧ H S = some (.lst (zs.map V.str)) ∧ SgL zs ∧ zs.length ≤ 3 ∧ z.length ≤ 900 ∧ (∀ x ∈ sgs z, sgB x = true) ∧
  ∀ H' L vs ds, But p H H' → H L = none → L ≠ p → H' L = some (.lst vs) → DpAll K (cutH p H') vs ds → (∀ d ∈ ds, OkC d ∧ Drn d) → ds.length ≤ 9 → Pot H' p (n + 200) → Q (.ref L) H'
def spRun (K : PySem.W.Frag) : Sp := fun vs H Q _ => ∃ (z : Str) (v : V) (d : PyData), vs = [.str z, v] ∧ Dv K H v d ∧ (∀ ds, d = .tuple ds → ds.length ≤ 20 ∧ ∀ x ∈ ds, OkC x) ∧ z.length ≤ 950 ∧ (∀ x ∈ sgs z, sgB x = true) ∧
  (∀ H', NoSt d z → Same H H' → Q .non H') ∧ ∀ H' L ds st, d = .tuple ds → runD ds (sgs z) = some st → Same H H' → H L = none → H' L = some (.lst ((wrds (sgs z) st).map V.str)) → Q (.ref L) H'
theorem dpall_ch {K : PySem.W.Frag} {H : Hp} : ∀ {us : List Addr} {st : List St3}, Paired (fun (u : Addr) (q : St3) => H u = some (.tup (chV q))) us st → DpAll K H (us.map V.ref) (st.map chOf)
  | _, _, .nil => .nil
  | _, _, .cons h t => .cons (chDp h) (dpall_ch t)
section
variable {P : Program} {w : World} {K : PySem.W.Frag} {mg : Str → Option Value} {base : Heap}
theorem okC_ch (q : St3) (h1 : q.2.1.length ≤ 1) (h2 : q.2.2.length ≤ 1) (h3 : PyData.strOk q.2.2 = true) : OkC (chOf q) := by
  have stS : ∀ z : Str, PyData.strOk z = true → SeqAt.shaped (.str z) = true := fun z h => by simp [SeqAt.shaped, PyData.canLay0, PyData.depth, h]
  have stI : ∀ i : Int, SeqAt.shaped (.int i) = true := fun i => rfl
  intro es e
  unfold chOf at e
  have fin : ∀ ys : List PyData, (∀ y ∈ ys, (∃ i, y = .int i) ∨ ∃ z : Str, y = .str z ∧ PyData.strOk z = true ∧ z.length ≤ 10) → (∀ y ∈ ys, SeqAt.shaped y = true) ∧ ∀ z, PyData.str z ∈ ys → z.length ≤ 100000 := fun ys h => by
    refine ⟨fun y hy => ?_, fun z hz => ?_⟩
    · rcases h y hy with ⟨i, rfl⟩ | ⟨z, rfl, hz, _⟩
      · exact stI i
      · exact stS z hz
    · rcases h _ hz with ⟨i, e⟩ | ⟨z', e, _, hl⟩
      · cases e
      · cases e
        omega
  have P0 : PyData.strOk "put" = true := by decide +kernel
  have P1 : PyData.strOk "out" = true := by decide +kernel
  have P2 : PyData.strOk "swap" = true := by decide +kernel
  split at e
  · cases e
    refine fin _ fun y hy => ?_
    simp only [List.mem_cons, List.not_mem_nil, or_false] at hy
    rcases hy with rfl | rfl | rfl
    · exact .inr ⟨_, rfl, P0, by decide⟩
    · exact .inl ⟨_, rfl⟩
    · exact .inr ⟨_, rfl, h3, by omega⟩
  · split at e
    · cases e
      refine fin _ fun y hy => ?_
      simp only [List.mem_cons, List.not_mem_nil, or_false] at hy
      rcases hy with rfl | rfl
      · exact .inr ⟨_, rfl, P1, by decide⟩
      · exact .inl ⟨_, rfl⟩
    · cases e
      refine fin _ fun y hy => ?_
      simp only [List.mem_cons, List.not_mem_nil, or_false] at hy
      rcases hy with rfl | rfl | rfl
      · exact .inr ⟨_, rfl, P2, by decide⟩
      · exact .inl ⟨_, rfl⟩
      · exact .inr ⟨_, rfl, h3, by omega⟩
theorem okC_step {d : PyData} {sg : List Str} (hs : ∀ x ∈ sg, sgB x = true) (h : chB d sg = true) : OkC (chOf (stepOf d sg)) := by
  have mem : ∀ {i : Nat}, i < sg.length → (sg.getD i ("" : Str)).length = 1 := fun {i} hi => by
    refine sgB_len (hs _ ?_)
    rw [List.getD_eq_getElem?_getD, List.getElem?_eq_getElem hi]
    exact List.getElem_mem hi
  rcases ch_cases h with ⟨i, rfl, hi, es⟩ | ⟨i, y, rfl, hi, hy, es⟩ | ⟨i, y, rfl, hi, hy, _, es⟩
  · rw [es]
    exact okC_ch _ (Nat.le_of_eq (mem hi)) (Nat.zero_le _) (by show PyData.strOk ("" : Str) = true; decide +kernel)
  · rw [es]
    exact okC_ch _ (Nat.zero_le _) (Nat.le_of_eq (sgB_len hy)) (sg_ok hy)
  · rw [es]
    exact okC_ch _ (Nat.le_of_eq (mem hi)) (Nat.le_of_eq (sgB_len hy)) (sg_ok hy)
abbrev nStepsD : List Str := ["_law_cup_here", "_law_letters", "_law_word", "_law_most", "_law_found", "_law_now", "_law_turn", "_law_change"]
theorem scStepsD : FnScope nStepsD ["_law_cup_here", "_law_letters", "_law_word", "_law_most"] (defScope sStepsD) := ⟨rfl, rfl, rfl, by decide +kernel, rfl, by decide +kernel, by decide +kernel⟩
theorem ok_stepsD {f : Addr} {fd : FuncData} (F : Fun K "_law_steps_drawn" "_law_steps_drawn" sStepsD f fd) (B : Bn mg) (D : Cd P w K mg base 1 "_law_toss" ["_law_cup_here", "_law_total"] spDip) (C : Cd P w K mg base 3 "_law_step_drawn" ["_law_cup_here", "_law_letters", "_law_word"] spStepD) (M : Cd P w K mg base 1 "_law_made" ["_law_word", "_law_change"] (spMd K)) : FnOk P w K mg base CX0 4 f fd ["_law_cup_here", "_law_letters", "_law_word", "_law_most"] (spStepsD K) := by
  obtain ⟨d, dd, G, gm, gk, gb⟩ := D.ex
  obtain ⟨c, dc, Gc, cm, ck, cb⟩ := C.ex
  obtain ⟨m, dm, Gm, mm, mk, mb⟩ := M.ex
  refine F.ok scStepsD (fun vs H Q E h => ?_) (fun cdv A outer s H vs Q E hr h => ?_)
  · obtain ⟨p, S, n, zs, z, rfl, _⟩ := h
    rfl
  · obtain ⟨p, S, n, zs, z, rfl, hp, hn, hS, sg, lz, lw, hs, q⟩ := h
    have r1 : Room 1 _ := hr.mono (by decide)
    refine ⟨_, pss_cons (ps_par (i := 4) (j := 5) rfl scStepsD.nd rfl rfl (by decide) rfl rfl (pa_cons (pe_lst pa_nil) (pa_cons (pv 2) pa_nil)) (by rfl))
      (pss_cons (ps_for PassesOwn.never rfl (pi_range1 (by rfl) B.range (pa_cons (pe_call G r1 (by rfl) gm gk gb .nil pass0 (pa_cons (pv 0) (pa_cons (pe_op op_add (pv 3) pe_int) pa_nil))) pa_nil)) (pg_name (i := 6) scStepsD.nd rfl (.inl rfl))
        (pss_cons (ps_set (i := 7) scStepsD.nd rfl (.inl rfl) (pe_call Gc hr (by rfl) cm ck cb .nil pass0 (pa_cons (pv 0) (pa_cons (pv 1) (pa_cons (pv 5) pa_nil)))))
        (pss_cons (ps_expr (pe_bm PySem.F.plainAttrs_list PySem.F.slot_list_append PySem.F.type_list_append mt_append (pv 4) (pa_cons (pv 7) pa_nil)))
        (pss_one (ps_set (i := 5) scStepsD.nd rfl (.inl rfl) (pe_call Gm r1 (by rfl) mm mk mb .nil pass0 (pa_cons (pv 5) (pa_cons (pv 7) pa_nil))))))))
      (pss_one (ps_ret (pv 4)))), ?_⟩
    have pS : S ≠ p := fun e => by
      obtain ⟨_, _, _, ep, _⟩ := hp
      rw [e, ep] at hS
      obtain ⟨z, r, _, k, _⟩ := List.map_eq_cons_iff.mp (by injection Option.some.inj hS with z; exact z.symm)
      cases k
    have lt1 : ∀ {n : Nat}, n ≤ 5000 → n < sizeLine := fun h1 => by rw [sizeLine_eq]; omega
    refine ⟨Nat.zero_le _, fun L hL => ?_⟩
    have Lp : L ≠ p := (hp.ne hL).symm
    have SL : S ≠ L := ne_of_none hS hL
    refine ⟨_, rfl, _, _, rfl, ?_⟩
    have B0 : But p H (upd H L (.lst [])) := But.of_same (Same.new hL)
    have P0 := hp.up (o := .lst []) (hp.ne hL)
    have e0 : (upd H L (.lst [])) L = some (.lst []) := upd_same
    generalize upd H L (.lst []) = H0 at B0 P0 e0 ⊢
    refine ⟨_, rfl, _, rfl, _, _, rfl, rfl, p, n, 10, rfl, P0, by omega, by omega, by omega, fun H1 k hb hf hP k0 k1 => ?_⟩
    refine ⟨k, rfl, by omega, by omega, for_range (lo := 0) (n := k.toNat) (fun i σ H2 => (∃ o6 o7 zn, σ = [some (.ref p), some (.ref S), some (.str z), some (.int 9), some (.ref L), some (.str zn), o6, o7] ∧ zn.length ≤ z.length + i ∧ ∀ x ∈ sgs zn, sgB x = true) ∧
      ∃ us st, But p H H2 ∧ Pot H2 p (n + 1 + 20 * i) ∧ H2 L = some (.lst (us.map V.ref)) ∧ Paired (fun (u : Addr) (q : St3) => H2 u = some (.tup (chV q))) us st ∧ (∀ q ∈ st, OkC (chOf q) ∧ Drn (chOf q)) ∧ us.length = i) ?_ ?_ ?_⟩
    · exact ⟨⟨_, _, z, rfl, by omega, hs⟩, [], [], B0.trans hb, hP, hb _ _ Lp e0, .nil, (fun _ h => nomatch h), rfl⟩
    · rintro i σ H2 hi ⟨⟨o6, o7, zn, rfl, lzn, hzn⟩, us, st, B2, P2, e2, p2, ok2, l2⟩
      rw [Int.zero_add]
      have ik : i < 10 := by omega
      refine ⟨_, rfl, _, rfl, _, rfl, p, S, n + 1 + 20 * i, zs, zn, rfl, P2, by omega, B2 _ _ pS hS, sg, lz, by omega, hzn, fun H3 t q B3 t0 et cb es P3 => ?_⟩
      have e3 := B3 _ _ Lp e2
      have ne2 : ∀ {u : Addr} {xs : List V}, H2 u = some (HO.tup xs) → u ≠ p := fun {u xs} e c => by
        obtain ⟨_, _, _, ep, _⟩ := P2
        rw [c, ep] at e
        cases e
      have p3 := L2.Paired.mapP (G := fun (u : Addr) (q : St3) => H3 u = some (.tup (chV q))) p2 fun b q e => B3 _ _ (ne2 e) e
      have okq : OkC (chOf q) ∧ Drn (chOf q) := by
        have := okC_step hzn cb
        rw [es] at this
        exact ⟨this, sgs zn, hzn, by rw [sgs_length]; omega, cb⟩
      refine ⟨_, rfl, .inl ⟨rfl, _, SqL.of e3⟩, _, rfl, L, _, _, rfl, rfl, e3, lt1 (by rw [List.length_map]; omega), ?_⟩
      have nL : ∀ {u : Addr} {xs : List V}, H3 u = some (HO.tup xs) → u ≠ L := fun {u xs} e c => by
        rw [c, e3] at e
        cases e
      have p4 : Paired (fun (u : Addr) (q : St3) => (upd H3 L (.lst (us.map V.ref ++ [.ref t]))) u = some (.tup (chV q))) (us ++ [t]) (st ++ [q]) :=
        Paired.appendP (L2.Paired.mapP p3 fun b q e => (upd_ne (nL e)).trans e) (.cons ((upd_ne (nL et)).trans et) .nil)
      have B4 : But p H (upd H3 L (.lst (us.map V.ref ++ [.ref t]))) := But.up (B2.trans B3) hL
      have P4 := P3.up (l := L) (o := .lst (us.map V.ref ++ [.ref t])) Lp.symm
      have e4 : (upd H3 L (.lst (us.map V.ref ++ [.ref t]))) L = some (.lst (us.map V.ref ++ [.ref t])) := upd_same
      have t4 := (upd_ne (o := .lst (us.map V.ref ++ [.ref t])) (nL et)).trans et
      generalize upd H3 L (.lst (us.map V.ref ++ [.ref t])) = H4 at p4 B4 P4 e4 t4 ⊢
      refine ⟨_, rfl, _, rfl, zn, .ref t, chOf q, rfl, chDp t4, okq.1, by omega, hzn, fun H5 s5 => ?_⟩
      have em : mdV zn (chOf q) = .str (wd (app3 (sgs zn) (stepOf (chOf q) (sgs zn)))) := if_pos cb
      rw [em]
      have l5 := app3_len cb
      have sw : sgs (wd (app3 (sgs zn) (stepOf (chOf q) (sgs zn)))) = app3 (sgs zn) (stepOf (chOf q) (sgs zn)) := sgs_wd (app3_one fun y hy => sgs_one hy)
      refine ⟨⟨_, _, _, rfl, ?_, ?_⟩, us ++ [t], st ++ [q], B4.trans (But.of_same s5), ?_, ?_, L2.Paired.mapP p4 fun _ _ e => s5 _ _ e, ?_, ?_⟩
      · rw [← sgs_length, sw]
        rw [sgs_length] at l5
        omega
      · rw [sw]
        exact app3_sg hzn cb
      · obtain ⟨a1, a2, a3, a4, a5⟩ := P4
        exact Pot.mono ⟨a1, a2, a3, s5 _ _ a4, a5⟩ (by omega)
      · rw [List.map_append]
        exact s5 _ _ e4
      · intro x hx
        rcases List.mem_append.mp hx with hx | hx
        · exact ok2 x hx
        · rw [List.mem_singleton.mp hx]
          exact okq
      · rw [List.length_append, l2]
        rfl
    · rintro σ H2 ⟨⟨o6, o7, zn, rfl, lzn, hzn⟩, us, st, B2, P2, e2, p2, ok2, l2⟩
      have ne2 : ∀ {u : Addr} {xs : List V}, H2 u = some (HO.tup xs) → u ≠ p := fun {u xs} e c => by
        obtain ⟨_, _, _, ep, _⟩ := P2
        rw [c, ep] at e
        cases e
      refine ⟨_, rfl, q _ L (us.map V.ref) (st.map chOf) B2 hL Lp e2 ?_ ?_ ?_ (P2.mono (by omega))⟩
      · exact dpall_ch (L2.Paired.mapP p2 fun b q e => (cutH_ne (ne2 e)).trans e)
      · intro d hd
        obtain ⟨q, hq, rfl⟩ := List.mem_map.mp hd
        exact ok2 q hq
      · rw [List.length_map, ← Paired.length p2, l2]
        omega
end
end Mk

set_option Elab.async false
set_option linter.all false
set_option maxRecDepth 100000
set_option maxHeartbeats 1000000
/-! the words of a row -/
namespace Mk
open PySem PySem.Spec L2 PyProof.Rows

section
variable {P : Program} {w : World} {K : PySem.W.Frag} {mg : Str → Option Value} {base : Heap}
abbrev nRun : List Str := ["_law_word", "_law_row", "_law_found", "_law_change", "_law_now"]
theorem scRun : FnScope nRun ["_law_word", "_law_row"] (defScope sRun) := ⟨rfl, rfl, rfl, by decide +kernel, rfl, by decide +kernel, by decide +kernel⟩
theorem wrds_nil (sg : List Str) : wrds sg [] = [wd sg] := rfl
theorem wrds_last (sg : List Str) (st : List St3) : ∃ ws, wrds sg st = ws ++ [wd (endS sg st)] := by
  unfold wrds
  rw [List.range_succ, List.map_append]
  refine ⟨_, congrArg _ ?_⟩
  show [wd (endS sg (st.take st.length))] = _
  rw [List.take_length]
theorem atI_neg1 {α : Type} {xs ws : List α} {v : α} (h : xs = ws ++ [v]) : atI xs (-1) = some v := by
  rw [h]
  exact atI_last ws v
theorem ok_run {f : Addr} {fd : FuncData} (F : Fun K "_law_run" "_law_run" sRun f fd) (W : Wn mg) (O : On mg) (M : Cd P w K mg base 1 "_law_made" ["_law_word", "_law_change"] (spMd K)) : FnOk P w K mg base CX0 2 f fd ["_law_word", "_law_row"] (spRun K) := by
  obtain ⟨m, dm, Gm, mm, mk, mb⟩ := M.ex
  refine F.ok scRun (fun vs H Q E h => ?_) (fun cdv A outer s H vs Q E hr h => ?_)
  · obtain ⟨z, v, d, rfl, _⟩ := h
    rfl
  · obtain ⟨z, v, d, rfl, hd, ok, lz, hs, qn, q⟩ := h
    refine ⟨_, pss_cons (ps_if (pt_not (pt_val (pe_callB call_isi (by rfl) W.isi (by decide +kernel) (pa_cons (pv 1) (pa_cons (pe_bltn (v := .ty "tuple") (u := .type "tuple") (by rfl) O.tuple (by decide +kernel) rfl) pa_nil))))) (pss_one (ps_ret pe_non)) pss_nil)
      (pss_cons (ps_set (i := 2) scRun.nd rfl (.inl rfl) (pe_lst (pa_cons (pv 0) pa_nil)))
      (pss_cons (ps_for PassesOwn.never rfl (pi_tup (pv 1)) (pg_name (i := 3) scRun.nd rfl (.inl rfl))
        (pss_cons (ps_set (i := 4) scRun.nd rfl (.inl rfl) (pe_call Gm hr (by rfl) mm mk mb .nil pass0 (pa_cons (pe_ix ix_list (pv 2) (pe_un un_neg pe_int) (fun _ _ => rfl)) (pa_cons (pv 3) pa_nil))))
        (pss_cons (ps_if (pt_cmpR op_isN (pv 4) pe_non (nomark _)) (pss_one (ps_ret pe_non)) pss_nil)
        (pss_one (ps_expr (pe_bm PySem.F.plainAttrs_list PySem.F.slot_list_append PySem.F.type_list_append mt_append (pv 2) (pa_cons (pv 4) pa_nil)))))))
      (pss_one (ps_ret (pv 2))))), ?_⟩
    have lt1 : ∀ {n : Nat}, n ≤ 5000 → n < sizeLine := fun h1 => by rw [sizeLine_eq]; omega
    refine ⟨_, rfl, _, _, _, _, isTup d, rfl, .ty "tuple", Dv.ty hd, kit_tup d, _, rfl, ?_⟩
    cases hd with
    | dic hd => exact iteT (qn _ (fun _ _ e => nomatch e) (Same.refl _))
    | of hd =>
    cases d with
    | none => exact iteT (qn _ (fun _ _ e => nomatch e) (Same.refl _))
    | bool _ => exact iteT (qn _ (fun _ _ e => nomatch e) (Same.refl _))
    | int _ => exact iteT (qn _ (fun _ _ e => nomatch e) (Same.refl _))
    | str _ => exact iteT (qn _ (fun _ _ e => nomatch e) (Same.refl _))
    | list _ => exact iteT (qn _ (fun _ _ e => nomatch e) (Same.refl _))
    | dict _ => exact iteT (qn _ (fun _ _ e => nomatch e) (Same.refl _))
    | tuple ds =>
    obtain ⟨lds, okd⟩ := ok ds rfl
    cases hd with
    | @tup a xs _ ht hall =>
    have lx := dpall2 hall
    refine iteF ⟨_, rfl, Nat.le_of_lt (lt1 (n := 1) (by decide)), fun L hL => ?_⟩
    have s0 : Same H (upd H L (.lst [.str z])) := Same.new hL
    have e0 : (upd H L (.lst [.str z])) L = some (.lst ((wrds (sgs z) []).map V.str)) := by
      rw [wrds_nil, wd_sgs]
      exact upd_same
    generalize upd H L (.lst [.str z]) = H0 at s0 e0 ⊢
    refine ⟨_, rfl, a, rfl, ⟨xs, ht.imp (fun r => r.imp (s0 _ _) fun ⟨o, e⟩ => ⟨o, s0 _ _ e⟩) id⟩, for_tup (xs := xs) (fun j σ H2 => (∃ o1 o2, σ = [some (.str z), some (.ref a), some (.ref L), o1, o2]) ∧ Same H H2 ∧ ∃ st, H2 L = some (.lst ((wrds (sgs z) st).map V.str)) ∧
      runD ds (sgs z) = (runD (ds.drop j) (endS (sgs z) st)).map (st ++ ·) ∧ (endS (sgs z) st).length ≤ z.length + j ∧ (∀ x ∈ endS (sgs z) st, sgB x = true) ∧ st.length = j) ?_ (fun j σ H2 _ h2 => ?_) ?_ ?_⟩
    · exact ⟨⟨_, _, rfl⟩, s0, [], e0, by rw [List.drop_zero]; show runD ds (sgs z) = (runD ds (sgs z)).map ([] ++ ·); cases runD ds (sgs z) <;> rfl, by show (sgs z).length ≤ _; rw [sgs_length]; omega, hs, rfl⟩
    · exact ht.imp (fun r => r.imp (h2.2.1 _ _) fun ⟨o, e⟩ => ⟨o, h2.2.1 _ _ e⟩) id
    · rintro j x σ H2 hj ⟨⟨o1, o2, rfl⟩, s2, st, e2, er, lg, hsg, lst⟩
      obtain ⟨d, hdj, hd⟩ := dpall_at hall hj
      have jl : j < ds.length := (List.getElem?_eq_some_iff.mp hdj).1
      have dd : ds.drop j = d :: ds.drop (j + 1) := by
        rw [List.drop_eq_getElem_cons jl]
        rw [List.getElem?_eq_getElem jl] at hdj
        rw [Option.some.inj hdj]
      have okj := okd d (List.mem_of_getElem? hdj)
      rw [dd, runD_cons] at er
      obtain ⟨ws, hws⟩ := wrds_last (sgs z) st
      have e1 := endS_one (st := st) (sg := sgs z) fun y hy => sgs_one hy
      have sw : sgs (wd (endS (sgs z) st)) = endS (sgs z) st := sgs_wd e1
      have lw : (wd (endS (sgs z) st)).length = (endS (sgs z) st).length := by rw [← sgs_length, sw]
      refine ⟨_, rfl, 1, rfl, L, _, (-1 : Int), _, rfl, rfl, SqL.of e2, atI_neg1 (ws := ws.map V.str) (v := V.str (wd (endS (sgs z) st))) (by rw [hws, List.map_append]; rfl), ?_⟩
      refine ⟨_, rfl, wd (endS (sgs z) st), x, d, rfl, Dp.keep s2 hd, okj, by omega, by rw [sw]; exact hsg, fun H3 s3 => ?_⟩
      have s23 := Same.trans s2 s3
      refine ⟨_, rfl, rfl, _, rfl, ?_⟩
      by_cases hc : chB d (endS (sgs z) st) = true
      · have em : mdV (wd (endS (sgs z) st)) d = .str (wd (app3 (endS (sgs z) st) (stepOf d (endS (sgs z) st)))) := by
          unfold mdV
          rw [sw, if_pos hc]
        rw [em, decide_eq_false (fun c => nomatch c)]
        rw [if_pos hc] at er
        have l5 := app3_len hc
        have e3 := s3 _ _ e2
        refine iteF ⟨_, rfl, .inl ⟨rfl, _, SqL.of e3⟩, _, rfl, L, _, _, rfl, rfl, e3, lt1 (by rw [List.length_map, wrds_len]; omega), ⟨_, _, rfl⟩, Same.upN s23 hL, st ++ [stepOf d (endS (sgs z) st)], ?_, ?_, ?_, ?_, ?_⟩
        · rw [upd_same, wrds_snoc, List.map_append]
          rfl
        · rw [endS_app]
          show runD ds (sgs z) = (runD (ds.drop (j + 1)) (app3 (endS (sgs z) st) (stepOf d (endS (sgs z) st)))).map ((st ++ [stepOf d (endS (sgs z) st)]) ++ ·)
          rw [er]
          cases runD (ds.drop (j + 1)) (app3 (endS (sgs z) st) (stepOf d (endS (sgs z) st))) with
          | none => rfl
          | some r => exact congrArg some (show st ++ (_ :: r) = (st ++ [_]) ++ r by rw [List.append_assoc]; rfl)
        · rw [endS_app]
          show (app3 (endS (sgs z) st) (stepOf d (endS (sgs z) st))).length ≤ _
          omega
        · rw [endS_app]
          exact app3_sg hsg hc
        · rw [List.length_append, lst]
          rfl
      · have em : mdV (wd (endS (sgs z) st)) d = .non := by
          unfold mdV
          rw [sw, if_neg hc]
        rw [em, decide_eq_true rfl]
        rw [if_neg hc] at er
        refine iteT (qn _ (fun ds2 st2 e1 e2 => ?_) s23)
        cases e1
        rw [er] at e2
        cases e2
    · rintro σ H2 ⟨⟨o1, o2, rfl⟩, s2, st, e2, er, _⟩
      rw [List.drop_eq_nil_of_le (by omega)] at er
      refine ⟨_, rfl, q _ L ds st rfl ?_ s2 hL e2⟩
      rw [er]
      exact congrArg some (List.append_nil _)
end
end Mk

set_option Elab.async false
set_option linter.all false
set_option maxRecDepth 100000
set_option maxHeartbeats 1000000
/-! zip of a list and a tuple -/
namespace Mk
open PySem PySem.Spec PyProof.Rows L2

/-- the items of the list at a and of the tuple at b, in new pairs -/
def ItzX (K : PySem.W.Frag) (a b : Addr) : It :=
  ⟨fun i H => ∃ (xs ys : List V) (x y : V), SqL K H a xs ∧ SqT K H b ys ∧ xs[i]? = some x ∧ ys[i]? = some y,
    fun i H v H' => ∃ T x y, v = .ref T ∧ H T = none ∧ H' = upd H T (.tup [x, y]) ∧ (∀ xs, SqL K H a xs → xs[i]? = some x) ∧ ∀ ys, SqT K H b ys → ys[i]? = some y,
    fun i H => ∃ xs ys : List V, SqL K H a xs ∧ SqT K H b ys ∧ i ≤ xs.length ∧ i ≤ ys.length ∧ (i = xs.length ∨ i = ys.length)⟩
/-- how the five objects of such a zip stand at the turn i -/
structure ZStand (z TI TO i1 i2 a b : Addr) (i : Nat) (h : Heap) : Prop where
  zip : IsZip h z TI TO .none
  its : IsPair h TI (.ref i1) (.ref i2)
  out : ∃ x y, IsPair h TO x y
  one : h.IsListIter i1 a i
  two : h.IsTupleIter i2 b i
theorem five {z TI TO i1 i2 c : Addr} (h : c ∈ [z, TI, TO, i1, i2]) : c = z ∨ c = TI ∨ c = TO ∨ c = i1 ∨ c = i2 := by simpa using h
theorem not_five {z TI TO i1 i2 c : Addr} (h : c ∉ [z, TI, TO, i1, i2]) : c ≠ z ∧ c ≠ TI ∧ c ≠ TO ∧ c ≠ i1 ∧ c ≠ i2 := by simpa using h
theorem ZStand.here {z TI TO i1 i2 a b : Addr} {i : Nat} {h : Heap} (S : ZStand z TI TO i1 i2 a b i h) {c : Addr} (hc : c ∈ [z, TI, TO, i1, i2]) : ∃ o, h.get? c = some o ∧ ∀ v, o.data ≠ .cell v := by
  obtain ⟨x, y, ho⟩ := S.out
  obtain ⟨o1, e1, _, d1⟩ := S.one
  obtain ⟨o2, e2, _, d2⟩ := S.two
  rcases five hc with rfl | rfl | rfl | rfl | rfl
  · exact ⟨_, S.zip, fun v q => nomatch q⟩
  · exact ⟨_, S.its, fun v q => nomatch q⟩
  · exact ⟨_, ho, fun v q => nomatch q⟩
  · exact ⟨o1, e1, fun v q => by rw [d1] at q; cases q⟩
  · exact ⟨o2, e2, fun v q => by rw [d2] at q; cases q⟩
theorem apart1 {z TI TO i1 i2 a b : Addr} {i : Nat} {h : Heap} {its : Array Value} (S : ZStand z TI TO i1 i2 a b i h) (l : h.IsList a its) : a ≠ i1 := fun e => by
  obtain ⟨o, e1, c1, _⟩ := S.one
  obtain ⟨o', e2, c2, _⟩ := l
  rw [e, e1] at e2
  cases e2
  rw [c1] at c2
  injection c2 with c2
  exact absurd c2 (by decide)
theorem apart2 {z TI TO i1 i2 a b : Addr} {i : Nat} {h : Heap} {its : Array Value} (S : ZStand z TI TO i1 i2 a b i h) (l : h.IsTuple b its) : b ≠ i2 := fun e => by
  obtain ⟨o, e1, c1, _⟩ := S.two
  obtain ⟨o', e2, c2, _⟩ := l
  rw [e, e1] at e2
  cases e2
  rw [c1] at c2
  injection c2 with c2
  exact absurd c2 (by decide)
theorem turn_zipX {P : Program} {w : World} {K : PySem.W.Frag} {elts : List Expr} {kk : Nat} {tpos : Pos} {a b z TI TO i1 i2 : Addr} (D : ZipSep2 z TI TO i1 i2 [i1, a] [i2, b]) :
    Turn P w K (.Tuple elts kk tpos) (ItzX K a b) [z, TI, TO, i1, i2] z (ZStand z TI TO i1 i2 a b) where
  mem := by simp
  obj := fun i h st c hc => st.here hc
  keep := fun i h h' st k =>
    have ⟨x, y, ho⟩ := st.out
    ⟨k z (by simp) _ st.zip, k TI (by simp) _ st.its, ⟨x, y, k TO (by simp) _ ho⟩, st.one.at fun o q => k i1 (by simp) o q, st.two.at fun o q => k i2 (by simp) o q⟩
  item := by
    intro X hP hw hK hc i pins s σ H E I hf st hg
    subst hP hw hK
    obtain ⟨xs, ys, x, y, hqx, hqy, hx, hy⟩ := hg
    obtain ⟨its, rv, p1, _⟩ := I.list hqx
    obtain ⟨its2, rv2, p2, _⟩ := I.tuple hqy
    have q2 : s.heap.IsTuple b its2.toArray := p2
    obtain ⟨u, hu, ru⟩ := rv.get hx
    obtain ⟨u2, hu2, ru2⟩ := rv2.get hy
    obtain ⟨x0, y0, hTO⟩ := st.out
    have hh : X.A.in1.handled = none := I.ok.hd hc
    have n1 : i < its.toArray.size := by
      rw [List.size_toArray]
      exact (List.getElem?_eq_some_iff.mp hu).1
    have n2 : i < its2.toArray.size := by
      rw [List.size_toArray]
      exact (List.getElem?_eq_some_iff.mp hu2).1
    refine wpAny_pyNext_zipD2_item D (Draws.list hh i1 a (apart1 st p1.isList) its.toArray) (Draws.tuple hh i2 b (apart2 st q2) its2.toArray) st.zip st.its hTO ⟨st.one, p1.isList⟩ ⟨st.two, q2⟩ n1 n2 fun v1 v2 h' tk ev1 ev2 hz hO s1 s2 hT hsz hk => ?_
    obtain rfl : v1 = u := Option.some.inj (ev1.symm.trans (by simpa using hu))
    obtain rfl : v2 = u2 := Option.some.inj (ev2.symm.trans (by simpa using hu2))
    have hzl : z < s.heap.objs.size := Heap.lt_size st.zip
    refine ⟨_, rfl, wpAny_letOwnedTupleGo_zip (s := { s with heap := h', toks := tk }) hz fun h2 z2 sb => ?_⟩
    have back : ∀ c o, c ∉ [z, TI, TO, i1, i2] → s.heap.get? c = some o → h2.get? c = some o := fun c o hc e => by
      obtain ⟨c1, _, c3, c4, c5⟩ := not_five hc
      exact (sb.2 c c1).trans (hk c o c1 c3 c4 c5 e)
    have new : ObjOk X.prog X.w (upd H s.heap.objs.size (.tup [x, y])) h2 s.heap.objs.size (.tup [x, y]) :=
      ⟨by show 2 ≤ sizeLine; decide, [v1, v2], .cons ru (.cons ru2 .nil), ⟨_, (sb.2 _ (Nat.ne_of_gt hzl)).trans hT, rfl, _, rfl⟩⟩
    refine ⟨.ref s.heap.objs.size, _, I.turnedNew (t' := tk) (ch := [z, TI, TO, i1, i2]) (fun c o hb q => back c o hb q) hf (Nat.le_refl _) new, rfl,
      ⟨_, x, y, rfl, I.hok.fresh (Nat.le_refl _), rfl, fun l hl => by rw [I.list_inj hl hqx]; exact hx, fun l hl => by rw [I.tuple_inj hl hqy]; exact hy⟩,
      ⟨z2, (sb.2 _ D.TIz).trans (hk _ _ D.TIz D.TITO D.TIi1 D.TIi2 st.its), ⟨v1, v2, (sb.2 _ D.TOz).trans hO⟩, s1.1.at fun o q => (sb.2 _ D.zi1.symm).trans q, s2.1.at fun o q => (sb.2 _ D.zi2.symm).trans q⟩, fun c hcm => ?_⟩
    obtain ⟨o, ho, _⟩ := st.here hcm
    rw [upd_ne (Nat.ne_of_lt (Heap.lt_size ho))]
    exact (hf c hcm).1
  done := by
    intro X hP hw hK hc i pins s σ H E I hf st hg
    subst hP hw hK
    obtain ⟨xs, ys, hqx, hqy, l1, l2, hend⟩ := hg
    obtain ⟨its, rv, p1, _⟩ := I.list hqx
    obtain ⟨its2, rv2, p2, _⟩ := I.tuple hqy
    have q2 : s.heap.IsTuple b its2.toArray := p2
    obtain ⟨x0, y0, hTO⟩ := st.out
    have hh : X.A.in1.handled = none := I.ok.hd hc
    have r1 : xs.length = its.toArray.size := by rw [List.size_toArray]; exact rv.length
    have r2 : ys.length = its2.toArray.size := by rw [List.size_toArray]; exact rv2.length
    refine wpAny_pyNext_zipD2_end D (Draws.list hh i1 a (apart1 st p1.isList) its.toArray) (Draws.tuple hh i2 b (apart2 st q2) its2.toArray) st.zip st.its hTO ⟨st.one, p1.isList⟩ ⟨st.two, q2⟩ (by omega) (by omega) (by omega) fun h' tk hk => ⟨rfl, ?_⟩
    exact I.turnedL (t' := tk) (ch := [z, TI, TO, i1, i2]) (fun c o hb q => by
      obtain ⟨c1, _, c3, c4, c5⟩ := not_five hb
      exact hk c o c1 c3 c4 c5 q) hf
  self := fun A i s Q E st h => wpAny_pyIter_zip st.zip h

def iZipX (K : PySem.W.Frag) (ta : TA) : TI := fun σ H R => ta σ H fun vs H1 => ∃ a b xs ys, vs = [.ref a, .ref b] ∧ SqL K H1 a xs ∧ SqT K H1 b ys ∧ R (ItzX K a b) H1
theorem pi_zipX {X : Cx} {e e2 : Expr} {ta : TA} {p pos tpos : Pos} {elts : List Expr} {kk : Nat} (hg : Gl X "zip") (hm : X.mg "zip" = none) (ha : PA X [e, e2] ta)
    (hs : starEach [e, e2] X.env = (false, eval e X.env) :: starEach [e2] X.env := by rfl) (hpl : (backTo pos (starEach [e2] X.env)).any (·.1) = false := by rfl) :
    PI X (.Tuple elts kk tpos) (.Call (.Name "zip" p) [e, e2] [] pos) (iZipX X.K ta) := by
  refine ⟨fun pins s σ H R I h => ?_⟩
  refine Call_ (ld_blt I hg hm PyProof.Rows.boot_zip (PyProof.Rows.callWith_type1 (thn (ha.run pos pins s σ H _ I h) fun us s1 ⟨vs, H1, I1, r1, a, b, xs, ys, ex, hqx, hqy, q⟩ => ?_) hs hpl))
  subst ex
  cases r1 with
  | cons r rr =>
  cases rr with
  | cons r' rr =>
  cases rr
  cases r
  cases r'
  obtain ⟨its, rv, p1, _⟩ := I1.list hqx
  obtain ⟨its2, rv2, p2, _⟩ := I1.tuple hqy
  have q2 : s1.heap.IsTuple b its2.toArray := p2
  obtain ⟨o2, ho2, _⟩ := id q2
  refine zip_begins2 (begins_list a its.toArray) (begins_tuple b its2.toArray) p1.isList q2 fun h' hz hTI hTO h1 h2 hsz hk => wpAny_pyIter_zip hz ?_
  refine ⟨s1.heap.objs.size + 4, [s1.heap.objs.size + 4, s1.heap.objs.size + 2, s1.heap.objs.size + 3, s1.heap.objs.size, s1.heap.objs.size + 1], _, _, H1, rfl, I1.kept (t' := s1.toks) hk,
    turn_zipX (zip_sep2 (fp1 := [a]) (fp2 := [b]) (fun c hc => by rw [List.mem_singleton.mp hc]; exact p1.lt) fun c hc => by rw [List.mem_singleton.mp hc]; exact Heap.lt_size ho2), ⟨hz, hTI, ⟨_, _, hTO⟩, ⟨_, h1, rfl, rfl⟩, ⟨_, h2, rfl, rfl⟩⟩, fun c hcm => ?_, q⟩
  have hle : s1.heap.objs.size ≤ c := by
    rcases five hcm with rfl | rfl | rfl | rfl | rfl
    · exact Nat.le_add_right _ _
    · exact Nat.le_add_right _ _
    · exact Nat.le_add_right _ _
    · exact Nat.le_refl _
    · exact Nat.le_add_right _ _
  exact I1.fpOk hle (I1.hok.fresh hle)
/-- a walk over such a zip: as many turns as the shorter has -/
theorem walk_zipX {K : PySem.W.Frag} {a b : Addr} {xs ys : List V} {n : Nat} (hn : n = min xs.length ys.length) : Walk (ItzX K a b) n (fun H => SqL K H a xs ∧ SqT K H b ys) (YPair (fun i => xs[i]?) (fun i => ys[i]?)) := by
  refine ⟨fun i H hi q => ⟨xs, ys, xs[i]'(by omega), ys[i]'(by omega), q.1, q.2, List.getElem?_eq_getElem _, List.getElem?_eq_getElem _⟩, fun H q => ⟨xs, ys, q.1, q.2, by omega, by omega, by omega⟩, fun i H v H' _ q y => ?_⟩
  obtain ⟨T, x, y, h1, h2, h3, h4, h5⟩ := y
  exact ⟨T, x, y, h1, h2, h3, h4 xs q.1, h5 ys q.2⟩
end Mk

set_option Elab.async false
set_option linter.all false
set_option maxRecDepth 100000
set_option maxHeartbeats 1000000
/-! what a row costs, by the law; the way back, by the law -/
namespace Mk
open PySem PySem.Spec L2 PyProof.Rows

abbrev sPaid : Stmt := top 52
abbrev sBack : Stmt := top 53
theorem by_way7 (Cn : Int → Hp → Prop) {X : Int → Hp → Prop} {G : Prop} (h1 : (∀ i H, Cn i H → X i H) → G) (h2 : ∀ i H, Cn i H → X i H) : G := h1 h2
theorem ch_at {K : PySem.W.Frag} {H : Hp} {x : V} {d : PyData} {sg : List Str} (hd : Dp K H x d) (h : chB d sg = true) :
    (∃ (b : Addr) (i : Nat), x = .ref b ∧ SqT K H b [.str "out", .int i] ∧ i < sg.length ∧ stepOf d sg = (i, sg.getD i ("" : Str), ("" : Str))) ∨
    (∃ (b : Addr) (i : Nat) (y : Str), x = .ref b ∧ SqT K H b [.str "put", .int i, .str y] ∧ sgB y = true ∧ stepOf d sg = (i, ("" : Str), y)) ∨
    ∃ (b : Addr) (i : Nat) (y : Str), x = .ref b ∧ SqT K H b [.str "swap", .int i, .str y] ∧ i < sg.length ∧ sgB y = true ∧ stepOf d sg = (i, sg.getD i ("" : Str), y) := by
  rcases ch_cases h with ⟨i, rfl, hi, es⟩ | ⟨i, y, rfl, hi, hy, es⟩ | ⟨i, y, rfl, hi, hy, _, es⟩
  · cases hd with
    | @tup b ys _ hb hal =>
    cases hal with
    | cons h1 t1 =>
    cases t1 with
    | cons h2 t2 =>
    cases t2 with
    | nil =>
    cases h1; cases h2
    exact .inl ⟨b, i, rfl, hb, hi, es⟩
  · cases hd with
    | @tup b ys _ hb hal =>
    cases hal with
    | cons h1 t1 =>
    cases t1 with
    | cons h2 t2 =>
    cases t2 with
    | cons h3 t3 =>
    cases t3 with
    | nil =>
    cases h1; cases h2; cases h3
    exact .inr (.inl ⟨b, i, y, rfl, hb, hy, es⟩)
  · cases hd with
    | @tup b ys _ hb hal =>
    cases hal with
    | cons h1 t1 =>
    cases t1 with
    | cons h2 t2 =>
    cases t2 with
    | cons h3 t3 =>
    cases t3 with
    | nil =>
    cases h1; cases h2; cases h3
    exact .inr (.inr ⟨b, i, y, rfl, hb, hi, hy, es⟩)
theorem ch_char {z : Str} {i : Nat} (h : i < (sgs z).length) : ∃ c, atI z.cps.toList (i : Int) = some c ∧ (sgs z).getD i ("" : Str) = ⟨#[c]⟩ := by
  have jc : i < z.cps.toList.length := by
    have : z.cps.toList.length = z.length := rfl
    rw [sgs_length] at h
    omega
  refine ⟨z.cps.toList[i], atI_nat (List.getElem?_eq_getElem jc), ?_⟩
  have e1 : z.cps[i]? = some z.cps.toList[i] := by
    rw [Array.getElem?_eq_getElem (by simpa using jc)]
    rfl
  rw [List.getD_eq_getElem?_getD, sgs_at e1]
  rfl
theorem prc_snoc {t1 t2 : PTab} {t3 : STab} {st : List St3} {q : St3} {a b : Int} (h : prc t1 t2 t3 st = some a) (hq : prc1 t1 t2 t3 q.2.1 q.2.2 = some b) : prc t1 t2 t3 (st ++ [q]) = some (a + b) := by
  unfold prc at h ⊢
  split at h
  · rename_i hs
    cases h
    rw [if_pos (by rw [List.all_append, hs, List.all_cons, hq]; rfl), List.map_append, List.sum_append, List.map_singleton, hq]
    refine congrArg some ?_
    show _ + (b + 0) = _ + b
    omega
  · cases h
theorem prc_bad {t1 t2 : PTab} {t3 : STab} {st : List St3} {q : St3} (m : q ∈ st) (hq : prc1 t1 t2 t3 q.2.1 q.2.2 = none) : prc t1 t2 t3 st = none := by
  refine if_neg fun c => ?_
  have := List.all_eq_true.mp c q m
  rw [hq] at this
  cases this
theorem dget_P (t : PTab) (k : Str) (z : Int) : (valV (kvsP t) (Sum.inr k)).getD (V.int z) = V.int (dget t k z) := by
  unfold dget
  by_cases m : k ∈ t.map (·.1)
  · rw [valP m, if_pos m]
    rfl
  · rw [noP m, if_neg m]
    rfl
theorem bnd_look {α : Type} [DecidableEq α] {t : List (α × Int)} (nd : (t.map (·.1)).Nodup) (b : ∀ p ∈ t, 0 ≤ p.2 ∧ p.2 ≤ 100) {k : α} (m : k ∈ t.map (·.1)) : look t k ≠ 999 := by
  obtain ⟨p, hp, rfl⟩ := List.mem_map.mp m
  rw [look_mem nd p hp]
  have := (b p hp).2
  omega
/-- 999 stands for no price -/
theorem cost_of {t1 t2 : PTab} {t3 : STab} (R : RtT t1 t2 t3) {o n : Str} {i : Int} (e : i = (prc1 t1 t2 t3 o n).getD 999) : (i = 999 ∧ prc1 t1 t2 t3 o n = none) ∨ (i ≠ 999 ∧ prc1 t1 t2 t3 o n = some i) := by
  have rt := R.rt
  unfold rightB at rt
  simp only [Bool.and_eq_true] at rt
  have b1 := ok_bounds (m := 9) (by decide) rt.1
  have b2 := ok_bounds (m := 9) (by decide) rt.2.2.1
  have b3 := okS_bounds (m := 18) (by decide) rt.2.2.2
  have nd2 : (t2.map (·.1)).Nodup := R.ag.pm.nodup_iff.mpr R.ag.nd
  cases h : prc1 t1 t2 t3 o n with
  | none =>
    rw [h] at e
    exact .inl ⟨e, rfl⟩
  | some j =>
    rw [h] at e
    obtain rfl : i = j := e
    refine .inr ⟨?_, rfl⟩
    unfold prc1 at h
    split at h
    · split at h
      · rename_i m
        cases h
        exact bnd_look R.ag.nd b1 m
      · cases h
    · split at h
      · split at h
        · rename_i m
          cases h
          exact bnd_look nd2 b2 (R.ag.pm.mem_iff.mpr m)
        · cases h
      · split at h
        · rename_i m
          cases h
          exact bnd_look R.nd b3 m
        · cases h
def spPaid (K : PySem.W.Frag) : Sp := fun vs H Q _ => ∃ (L a b c Wd : Addr) (t1 t2 : PTab) (t3 : STab) (v : V) (ds : List PyData) (st : List St3) (z : Str), vs = [.ref L, .ref Wd, v] ∧ Rec H L a b c t1 t2 t3 ∧ RtT t1 t2 t3 ∧ H Wd = some (.lst ((wrds (sgs z) st).map V.str)) ∧ Dp K H v (.tuple ds) ∧
  runD ds (sgs z) = some st ∧ ds.length ≤ 20 ∧ z.length ≤ 950 ∧ (∀ x ∈ sgs z, sgB x = true) ∧ ∀ H', Same H H' → Q (optV (prc t1 t2 t3 st)) H'
section
variable {P : Program} {w : World} {K : PySem.W.Frag} {mg : Str → Option Value} {base : Heap}
abbrev nPaid : List Str := ["_law_table", "_law_words", "_law_row", "_law_total", "_law_word", "_law_change", "_law_cost_now"]
theorem scPaid : FnScope nPaid ["_law_table", "_law_words", "_law_row"] (defScope sPaid) := ⟨rfl, rfl, rfl, by decide +kernel, rfl, by decide +kernel, by decide +kernel⟩
theorem ok_paid {f : Addr} {fd : FuncData} (F : Fun K "_law_paid" "_law_paid" sPaid f fd) (hzip : mg "zip" = none) : FnOk P w K mg base CX0 1 f fd ["_law_table", "_law_words", "_law_row"] (spPaid K) := by
  refine F.ok scPaid (fun vs H Q E h => ?_) (fun cdv A outer s H vs Q E hr h => ?_)
  · obtain ⟨L, a, b, c, Wd, t1, t2, t3, v, ds, st, z, rfl, _⟩ := h
    rfl
  · have hu := hu_of hr
    obtain ⟨L, a, b, c, Wd, t1, t2, t3, v, ds, st, z, rfl, r, R, hW, hd, hrun, lds, lz, hs, q⟩ := h
    refine ⟨_, pss_cons (ps_set (i := 3) scPaid.nd rfl (.inl rfl) pe_int)
      (pss_cons (ps_for PassesOwn.never rfl (pi_zipX (by rfl) hzip (pa_cons (pv 1) (pa_cons (pv 2) pa_nil))) (pg_tup rfl (pgs_cons (pg_name (i := 4) scPaid.nd rfl (.inl rfl)) (pgs_cons (pg_name (i := 5) scPaid.nd rfl (.inl rfl)) pgs_nil)))
        (pss_cons (ps_if (pt_cmpR op_eq (pe_ix ix_tup (pv 5) pe_int (fun _ _ => rfl)) pe_str (nomark _))
            (pss_one (ps_set (i := 6) scPaid.nd rfl (.inl rfl) (pe_dget2 hu (pe_ix ix_list (pv 0) pe_int (fun _ _ => rfl)) (pe_ix ix_tup (pv 5) pe_int (fun _ _ => rfl)) pe_int ⟨rfl, rfl, rfl, rfl⟩)))
            (pss_one (ps_if (pt_cmpR op_eq (pe_ix ix_tup (pv 5) pe_int (fun _ _ => rfl)) pe_str (nomark _))
              (pss_one (ps_set (i := 6) scPaid.nd rfl (.inl rfl) (pe_dget2 hu (pe_ix ix_list (pv 0) pe_int (fun _ _ => rfl)) (pe_ix ix_str (pv 4) (pe_ix ix_tup (pv 5) pe_int (fun _ _ => rfl)) (fun _ _ => rfl)) pe_int ⟨rfl, rfl, rfl, rfl⟩)))
              (pss_one (ps_set (i := 6) scPaid.nd rfl (.inl rfl) (pe_dget2 hu (pe_ix ix_list (pv 0) pe_int (fun _ _ => rfl)) (pe_tup (pa_cons (pe_ix ix_str (pv 4) (pe_ix ix_tup (pv 5) pe_int (fun _ _ => rfl)) (fun _ _ => rfl)) (pa_cons (pe_ix ix_tup (pv 5) pe_int (fun _ _ => rfl)) pa_nil))) pe_int ⟨rfl, rfl, rfl, rfl⟩))))))
        (pss_cons (ps_if (pt_cmpR op_eq (pv 6) pe_int (nomark _)) (pss_one (ps_ret pe_non)) pss_nil)
        (pss_one (ps_set (i := 3) scPaid.nd rfl (.inl rfl) (pe_op op_add (pv 3) (pv 6)))))))
      (pss_one (ps_ret (pv 3)))), ?_⟩
    have n2 : 2 ≤ sizeLine := by decide
    have lst := runD_len hrun
    have kt2 : ∀ k, k ∈ t2.map (·.1) ↔ k ∈ t1.map (·.1) := fun k => R.ag.pm.mem_iff
    cases hd with
    | @tup a' xs _ ht hall =>
    have lx := dpall2 hall
    refine ⟨_, rfl, _, rfl, Wd, a', _, xs, rfl, SqL.of hW, ht, for_it (walk_zipX (K := K) (a := Wd) (b := a') (xs := (wrds (sgs z) st).map V.str) (ys := xs) (n := ds.length) (by rw [List.length_map, wrds_len]; omega)) (fun i σ H1 => (∃ o4 o5 o6 tot, σ = [some (.ref L), some (.ref Wd), some (.ref a'), some (.int tot), o4, o5, o6] ∧ prc t1 t2 t3 (st.take i) = some tot) ∧ Same H H1) ?_ (fun i σ H1 _ h1 => ⟨SqL.of (h1.2 _ _ hW), ht.imp (fun r => r.imp (h1.2 _ _) fun ⟨o, e⟩ => ⟨o, h1.2 _ _ e⟩) id⟩) ?_ ?_⟩
    · exact ⟨⟨_, _, _, 0, rfl, rfl⟩, Same.refl _⟩
    · rintro j v0 σ H1 H2 hj ⟨⟨o4, o5, o6, tot, rfl, htot⟩, s1⟩ ⟨T, x, y, rfl, hT, rfl, ex, ey⟩
      have ex : ((wrds (sgs z) st).map V.str)[j]? = some x := ex
      have ey : xs[j]? = some y := ey
      rw [List.getElem?_map, wrds_at (by omega)] at ex
      cases ex
      obtain ⟨d, hdj, hdd⟩ := dpall_at hall ey
      obtain ⟨cb, eq⟩ := runD_at hrun hdj
      have s2 := s1.trans (Same.new (o := .tup [V.str (wd (endS (sgs z) (st.take j))), y]) hT)
      have eT : (upd H1 T (.tup [V.str (wd (endS (sgs z) (st.take j))), y])) T = some (.tup [V.str (wd (endS (sgs z) (st.take j))), y]) := upd_same
      generalize upd H1 T (.tup [V.str (wd (endS (sgs z) (st.take j))), y]) = H2 at s2 eT ⊢
      have e1 := endS_one (st := st.take j) (sg := sgs z) fun y hy => sgs_one hy
      have sw : sgs (wd (endS (sgs z) (st.take j))) = endS (sgs z) (st.take j) := sgs_wd e1
      have hsg := endS_sg hs (runD_take j hrun)
      have lsg := endS_len (runD_ok hs (runD_take j hrun))
      rw [List.length_take, sgs_length] at lsg
      have wl : (wd (endS (sgs z) (st.take j))).length ≤ sizeLine := by
        rw [← sgs_length, sw]
        exact Nat.le_trans (by omega : _ ≤ 1000) (by decide)
      have nx : st.take (j + 1) = st.take j ++ [stepOf d (endS (sgs z) (st.take j))] := by rw [List.take_add_one, eq]; rfl
      have mq := List.mem_of_getElem? eq
      rw [← sw] at cb mq nx
      generalize wd (endS (sgs z) (st.take j)) = w at eT sw wl cb mq nx ⊢
      have hsw : ∀ x ∈ sgs w, sgB x = true := by rw [sw]; exact hsg
      have r2 := r.same s2
      refine ⟨T, _, rfl, .inl (.inl eT), rfl, _, _, rfl, _, _, rfl, rfl, ?_⟩
      apply by_way7 (fun ci H5 => Same H H5 ∧ ci = (prc1 t1 t2 t3 (stepOf d (sgs w)).2.1 (stepOf d (sgs w)).2.2).getD 999)
      · intro hX
        rcases ch_at (Dp.keep s2 hdd) cb with ⟨b', i, eb, hb, hi, es⟩ | ⟨b', i, y', eb, hb, hy, es⟩ | ⟨b', i, y', eb, hb, hi, hy, es⟩
        · obtain ⟨cc, hcc, gw⟩ := ch_char hi
          refine ⟨_, rfl, b', _, _, _, eb, rfl, hb, atI_nat (j := 0) rfl, rfl, _, rfl, ?_⟩
          rw [decide_eq_false (by decide +kernel)]
          refine iteF ⟨_, rfl, b', _, _, _, eb, rfl, hb, atI_nat (j := 0) rfl, rfl, _, rfl, ?_⟩
          rw [decide_eq_true rfl]
          refine iteT ⟨_, rfl, L, _, _, _, rfl, rfl, SqL.of r2.l, atI_nat (j := 1) rfl, b, rfl, .inl ⟨_, .inl r2.t.o⟩, _, rfl, _, rfl, b', _, _, _, eb, rfl, hb, atI_nat (j := 1) rfl, w, (i : Int), cc, rfl, rfl, wl, hcc, _, .inl ⟨kvsP t2, Sum.inr ⟨#[cc]⟩, .inl r2.t.o, rfl, rfl⟩, ?_⟩
          rw [dget_P]
          have e9 : dget t2 (⟨#[cc]⟩ : Str) 999 = (prc1 t1 t2 t3 (stepOf d (sgs w)).2.1 (stepOf d (sgs w)).2.2).getD 999 := by
            rw [es, gw]
            have nem : (⟨#[cc]⟩ : Str) ≠ "" := fun c => absurd (congrArg Str.length c) (by show ¬ 1 = 0; decide)
            unfold dget prc1
            rw [if_neg nem, if_pos rfl]
            by_cases m : (⟨#[cc]⟩ : Str) ∈ t1.map (·.1)
            · rw [if_pos m, if_pos ((kt2 _).mpr m)]
              rfl
            · rw [if_neg m, if_neg fun c => m ((kt2 _).mp c)]
              rfl
          generalize dget t2 (⟨#[cc]⟩ : Str) 999 = ci at e9 ⊢
          exact hX ci H2 ⟨s2, e9⟩
        · refine ⟨_, rfl, b', _, _, _, eb, rfl, hb, atI_nat (j := 0) rfl, rfl, _, rfl, ?_⟩
          rw [decide_eq_true rfl]
          refine iteT ⟨_, rfl, L, _, _, _, rfl, rfl, SqL.of r2.l, atI_nat (j := 0) rfl, a, rfl, .inl ⟨_, .inl r2.t.p⟩, _, rfl, b', _, _, _, eb, rfl, hb, atI_nat (j := 2) rfl, _, .inl ⟨kvsP t1, Sum.inr y', .inl r2.t.p, rfl, rfl⟩, ?_⟩
          rw [dget_P]
          have e9 : dget t1 y' 999 = (prc1 t1 t2 t3 (stepOf d (sgs w)).2.1 (stepOf d (sgs w)).2.2).getD 999 := by
            rw [es]
            unfold dget prc1
            rw [if_pos rfl]
            by_cases m : y' ∈ t1.map (·.1)
            · rw [if_pos m, if_pos m]
              rfl
            · rw [if_neg m, if_neg m]
              rfl
          generalize dget t1 y' 999 = ci at e9 ⊢
          exact hX ci H2 ⟨s2, e9⟩
        · obtain ⟨cc, hcc, gw⟩ := ch_char hi
          refine ⟨_, rfl, b', _, _, _, eb, rfl, hb, atI_nat (j := 0) rfl, rfl, _, rfl, ?_⟩
          rw [decide_eq_false (by decide +kernel)]
          refine iteF ⟨_, rfl, b', _, _, _, eb, rfl, hb, atI_nat (j := 0) rfl, rfl, _, rfl, ?_⟩
          rw [decide_eq_false (by decide +kernel)]
          refine iteF ⟨_, rfl, L, _, _, _, rfl, rfl, SqL.of r2.l, atI_nat (j := 2) rfl, c, rfl, .inr ⟨_, .inl r2.t.s⟩, _, rfl, _, rfl, b', _, _, _, eb, rfl, hb, atI_nat (j := 1) rfl, w, (i : Int), cc, rfl, rfl, wl, hcc, _, rfl, b', _, _, _, eb, rfl, hb, atI_nat (j := 2) rfl, n2, fun p hp => ?_⟩
          have s3 := s2.trans (Same.new (o := .tup [.str ⟨#[cc]⟩, .str y']) hp)
          refine ⟨_, .inr ⟨kvsS t3, keyOf (⟨#[cc]⟩, y'), p, .inl (Same.new hp _ _ r2.t.s), rfl, upd_same, rfl⟩, ?_⟩
          rw [dget_S]
          have e9 : dget t3 ((⟨#[cc]⟩ : Str), y') 999 = (prc1 t1 t2 t3 (stepOf d (sgs w)).2.1 (stepOf d (sgs w)).2.2).getD 999 := by
            rw [es, gw]
            have nem : (⟨#[cc]⟩ : Str) ≠ "" := fun c => absurd (congrArg Str.length c) (by show ¬ 1 = 0; decide)
            unfold dget prc1
            rw [if_neg nem, if_neg (ne_em hy)]
            by_cases m : ((⟨#[cc]⟩ : Str), y') ∈ t3.map (·.1)
            · rw [if_pos m, if_pos m]
              rfl
            · rw [if_neg m, if_neg m]
              rfl
          generalize dget t3 ((⟨#[cc]⟩ : Str), y') 999 = ci at e9 ⊢
          generalize upd H2 p (.tup [.str ⟨#[cc]⟩, .str y']) = H6 at s3 ⊢
          exact hX ci H6 ⟨s3, e9⟩
      · rintro ci H5 ⟨s5, e5⟩
        refine ⟨_, rfl, rfl, _, rfl, ?_⟩
        rcases cost_of R e5 with ⟨e, hn⟩ | ⟨e, hn⟩
        · rw [decide_eq_true (congrArg V.int e)]
          have q2 := q _ s5
          rw [prc_bad mq hn] at q2
          exact iteT q2
        · rw [decide_eq_false fun c => e (V.int.inj c)]
          refine iteF ⟨_, rfl, _, rfl, _, _, rfl, rfl, ⟨_, _, _, _, rfl, ?_⟩, s5⟩
          rw [nx]
          exact prc_snoc htot hn
    · rintro σ H1 ⟨⟨o4, o5, o6, tot, rfl, htot⟩, s1⟩
      rw [← lst, List.take_length] at htot
      have q2 := q _ s1
      rw [htot] at q2
      exact ⟨_, rfl, q2⟩
end
end Mk

set_option Elab.async false
set_option linter.all false
set_option maxRecDepth 100000
set_option maxHeartbeats 1000000
/-! the way back, by the law -/
namespace Mk
open PySem PySem.Spec L2 PyProof.Rows

def spBackW (K : PySem.W.Frag) : Sp := fun vs H Q _ => ∃ (Wd : Addr) (v : V) (ds : List PyData) (st : List St3) (z : Str), vs = [.ref Wd, v] ∧ H Wd = some (.lst ((wrds (sgs z) st).map V.str)) ∧ Dp K H v (.tuple ds) ∧
  runD ds (sgs z) = some st ∧ ds.length ≤ 20 ∧ z.length ≤ 950 ∧ (∀ x ∈ sgs z, sgB x = true) ∧ ∀ H' p, Same H H' → H p = none → Dp K H' (.ref p) (.tuple (backD st)) → Q (.ref p) H'
section
variable {P : Program} {w : World} {K : PySem.W.Frag} {mg : Str → Option Value} {base : Heap}
abbrev nBackW : List Str := ["_law_words", "_law_row", "_law_found", "_law_word", "_law_change"]
theorem scBackW : FnScope nBackW ["_law_words", "_law_row"] (defScope sBack) := ⟨rfl, rfl, rfl, by decide +kernel, rfl, by decide +kernel, by decide +kernel⟩
theorem ok_backW {f : Addr} {fd : FuncData} (F : Fun K "_law_way_back" "_law_way_back" sBack f fd) (O : On mg) (hzip : mg "zip" = none) : FnOk P w K mg base CX0 1 f fd ["_law_words", "_law_row"] (spBackW K) := by
  refine F.ok scBackW (fun vs H Q E h => ?_) (fun cdv A outer s H vs Q E hr h => ?_)
  · obtain ⟨Wd, v, ds, st, z, rfl, _⟩ := h
    rfl
  · obtain ⟨Wd, v, ds, st, z, rfl, hW, hd, hrun, lds, lz, hs, q⟩ := h
    refine ⟨_, pss_cons (ps_set (i := 2) scBackW.nd rfl (.inl rfl) (pe_lst pa_nil))
      (pss_cons (ps_for PassesOwn.never rfl (pi_zipX (by rfl) hzip (pa_cons (pv 0) (pa_cons (pv 1) pa_nil))) (pg_tup rfl (pgs_cons (pg_name (i := 3) scBackW.nd rfl (.inl rfl)) (pgs_cons (pg_name (i := 4) scBackW.nd rfl (.inl rfl)) pgs_nil)))
        (pss_one (ps_if (pt_cmpR op_eq (pe_ix ix_tup (pv 4) pe_int (fun _ _ => rfl)) pe_str (nomark _))
            (pss_one (ps_expr (pe_bm PySem.F.plainAttrs_list PySem.F.slot_list_append PySem.F.type_list_append mt_append (pv 2) (pa_cons (pe_tup (pa_cons pe_str (pa_cons (pe_ix ix_tup (pv 4) pe_int (fun _ _ => rfl)) pa_nil))) pa_nil))))
            (pss_one (ps_expr (pe_bm PySem.F.plainAttrs_list PySem.F.slot_list_append PySem.F.type_list_append mt_append (pv 2) (pa_cons (pe_tup (pa_cons (pe_ifExp (pt_cmpR op_eq (pe_ix ix_tup (pv 4) pe_int (fun _ _ => rfl)) pe_str (nomark _)) pe_str pe_str) (pa_cons (pe_ix ix_tup (pv 4) pe_int (fun _ _ => rfl)) (pa_cons (pe_ix ix_str (pv 3) (pe_ix ix_tup (pv 4) pe_int (fun _ _ => rfl)) (fun _ _ => rfl)) pa_nil)))) pa_nil)))))))
      (pss_one (ps_ret (pe_callTy call_tuple_of (by rfl) O.tuple (by decide +kernel) (pa_cons (pe_revL (pv 2)) pa_nil))))), ?_⟩
    have n3 : 3 ≤ sizeLine := by decide
    have lt1 : ∀ {n : Nat}, n ≤ 5000 → n < sizeLine := fun h1 => by rw [sizeLine_eq]; omega
    have lst := runD_len hrun
    cases hd with
    | @tup a' xs _ ht hall =>
    have lx := dpall2 hall
    refine ⟨Nat.zero_le _, fun L hL => ?_⟩
    have s0 : Same H (upd H L (.lst [])) := Same.new hL
    have e0 : (upd H L (.lst [])) L = some (.lst []) := upd_same
    generalize upd H L (.lst []) = H0 at s0 e0 ⊢
    refine ⟨_, rfl, _, rfl, Wd, a', _, xs, rfl, SqL.of (s0 _ _ hW), ht.imp (fun r => r.imp (s0 _ _) fun ⟨o, e⟩ => ⟨o, s0 _ _ e⟩) id, for_it (walk_zipX (K := K) (a := Wd) (b := a') (xs := (wrds (sgs z) st).map V.str) (ys := xs) (n := ds.length) (by rw [List.length_map, wrds_len]; omega)) (fun i σ H1 => (∃ o4 o5, σ = [some (.ref Wd), some (.ref a'), some (.ref L), o4, o5]) ∧ Same H H1 ∧ ∃ us : List Addr, H1 L = some (.lst (us.map V.ref)) ∧ Paired (fun (u : Addr) (q : St3) => H1 u = some (.tup (chV (q.1, q.2.2, q.2.1)))) us (st.take i)) ?_ (fun i σ H1 _ h1 => ⟨SqL.of (h1.2.1 _ _ hW), ht.imp (fun r => r.imp (h1.2.1 _ _) fun ⟨o, e⟩ => ⟨o, h1.2.1 _ _ e⟩) id⟩) ?_ ?_⟩
    · exact ⟨⟨_, _, rfl⟩, s0, [], e0, .nil⟩
    · rintro j v0 σ H1 H2 hj ⟨⟨o4, o5, rfl⟩, s1, us, eL, pU⟩ ⟨T, x, y, rfl, hT, rfl, ex, ey⟩
      have ex : ((wrds (sgs z) st).map V.str)[j]? = some x := ex
      have ey : xs[j]? = some y := ey
      rw [List.getElem?_map, wrds_at (by omega)] at ex
      cases ex
      obtain ⟨d, hdj, hdd⟩ := dpall_at hall ey
      obtain ⟨cb, eq⟩ := runD_at hrun hdj
      have sN := Same.new (o := .tup [V.str (wd (endS (sgs z) (st.take j))), y]) hT
      have s2 := s1.trans sN
      have eT : (upd H1 T (.tup [V.str (wd (endS (sgs z) (st.take j))), y])) T = some (.tup [V.str (wd (endS (sgs z) (st.take j))), y]) := upd_same
      have eL2 := sN _ _ eL
      have pU2 : Paired (fun (u : Addr) (q : St3) => (upd H1 T (.tup [V.str (wd (endS (sgs z) (st.take j))), y])) u = some (.tup (chV (q.1, q.2.2, q.2.1)))) us (st.take j) := L2.Paired.mapP pU fun _ _ e => sN _ _ e
      generalize upd H1 T (.tup [V.str (wd (endS (sgs z) (st.take j))), y]) = H2 at s2 eT eL2 pU2 ⊢
      clear eL pU sN s1
      have e1 := endS_one (st := st.take j) (sg := sgs z) fun y hy => sgs_one hy
      have sw : sgs (wd (endS (sgs z) (st.take j))) = endS (sgs z) (st.take j) := sgs_wd e1
      have hsg := endS_sg hs (runD_take j hrun)
      have lsg := endS_len (runD_ok hs (runD_take j hrun))
      rw [List.length_take, sgs_length] at lsg
      have wl : (wd (endS (sgs z) (st.take j))).length ≤ sizeLine := by
        rw [← sgs_length, sw]
        exact Nat.le_trans (by omega : _ ≤ 1000) (by decide)
      have nx : st.take (j + 1) = st.take j ++ [stepOf d (endS (sgs z) (st.take j))] := by rw [List.take_add_one, eq]; rfl
      rw [← sw] at cb nx
      generalize wd (endS (sgs z) (st.take j)) = w at eT sw wl cb nx ⊢
      have hsw : ∀ x ∈ sgs w, sgB x = true := by rw [sw]; exact hsg
      have lu := Paired.length pU2
      rw [List.length_take] at lu
      have fin : ∀ (p : Addr) (xs : List V), H2 p = none → xs = chV (bk (stepOf d (sgs w))) → Same H (upd (upd H2 p (.tup xs)) L (.lst (us.map V.ref ++ [.ref p]))) ∧ ∃ us' : List Addr, (upd (upd H2 p (.tup xs)) L (.lst (us.map V.ref ++ [.ref p]))) L = some (.lst (us'.map V.ref)) ∧ Paired (fun (u : Addr) (q : St3) => (upd (upd H2 p (.tup xs)) L (.lst (us.map V.ref ++ [.ref p]))) u = some (.tup (chV (q.1, q.2.2, q.2.1)))) us' (st.take (j + 1)) := fun p xs hp exs => by
        have k2 := Same.new (o := .tup xs) hp
        have nL : ∀ {u : Addr} {ys : List V}, (upd H2 p (.tup xs)) u = some (HO.tup ys) → u ≠ L := fun {u ys} e c => by
          rw [c, k2 _ _ eL2] at e
          cases e
        refine ⟨Same.upN (s2.trans k2) hL, us ++ [p], by rw [upd_same, List.map_append]; rfl, ?_⟩
        rw [nx]
        refine Paired.appendP (L2.Paired.mapP pU2 fun b q e => (upd_ne (nL (k2 _ _ e))).trans (k2 _ _ e)) (.cons ?_ .nil)
        have ep : (upd H2 p (.tup xs)) p = some (.tup xs) := upd_same
        rw [upd_ne (nL ep), ep, exs]
      refine ⟨T, _, rfl, .inl (.inl eT), rfl, _, _, rfl, _, _, rfl, rfl, ?_⟩
      have mem : ∀ {i : Nat}, i < (sgs w).length → (sgs w).getD i ("" : Str) ≠ "" := fun {i} hi => by
        refine ne_em (hsw _ ?_)
        rw [List.getD_eq_getElem?_getD, List.getElem?_eq_getElem hi]
        exact List.getElem_mem hi
      have ll : us.length < sizeLine := lt1 (by omega)
      rcases ch_at (Dp.keep s2 hdd) cb with ⟨b', i, eb, hb, hi, es⟩ | ⟨b', i, y', eb, hb, hy, es⟩ | ⟨b', i, y', eb, hb, hi, hy, es⟩
      · obtain ⟨cc, hcc, gw⟩ := ch_char hi
        refine ⟨_, rfl, b', _, _, _, eb, rfl, hb, atI_nat (j := 0) rfl, rfl, _, rfl, ?_⟩
        rw [decide_eq_false (by decide +kernel)]
        refine iteF ⟨_, rfl, .inl ⟨rfl, _, SqL.of eL2⟩, _, rfl, b', _, _, _, eb, rfl, hb, atI_nat (j := 0) rfl, rfl, _, rfl, ?_⟩
        rw [decide_eq_true rfl]
        refine iteT ⟨_, rfl, b', _, _, _, eb, rfl, hb, atI_nat (j := 1) rfl, _, rfl, _, rfl, b', _, _, _, eb, rfl, hb, atI_nat (j := 1) rfl, w, (i : Int), cc, rfl, rfl, wl, hcc, n3, fun p hp => ?_⟩
        have F1 := fin p [V.str "put", V.int i, V.str ⟨#[cc]⟩] hp (by rw [es, ← gw]; exact (if_pos rfl).symm)
        exact ⟨L, _, _, rfl, rfl, Same.new hp _ _ eL2, by rw [List.length_map]; exact ll, ⟨_, _, rfl⟩, F1⟩
      · refine ⟨_, rfl, b', _, _, _, eb, rfl, hb, atI_nat (j := 0) rfl, rfl, _, rfl, ?_⟩
        rw [decide_eq_true rfl]
        refine iteT ⟨_, rfl, .inl ⟨rfl, _, SqL.of eL2⟩, _, rfl, b', _, _, _, eb, rfl, hb, atI_nat (j := 1) rfl, Nat.le_trans (by show 2 ≤ 3; decide) n3, fun p hp => ?_⟩
        have F1 := fin p [V.str "out", V.int i] hp (by rw [es]; exact ((if_neg (ne_em hy)).trans (if_pos rfl)).symm)
        exact ⟨L, _, _, rfl, rfl, Same.new hp _ _ eL2, by rw [List.length_map]; exact ll, ⟨_, _, rfl⟩, F1⟩
      · obtain ⟨cc, hcc, gw⟩ := ch_char hi
        refine ⟨_, rfl, b', _, _, _, eb, rfl, hb, atI_nat (j := 0) rfl, rfl, _, rfl, ?_⟩
        rw [decide_eq_false (by decide +kernel)]
        refine iteF ⟨_, rfl, .inl ⟨rfl, _, SqL.of eL2⟩, _, rfl, b', _, _, _, eb, rfl, hb, atI_nat (j := 0) rfl, rfl, _, rfl, ?_⟩
        rw [decide_eq_false (by decide +kernel)]
        refine iteF ⟨_, rfl, b', _, _, _, eb, rfl, hb, atI_nat (j := 1) rfl, _, rfl, _, rfl, b', _, _, _, eb, rfl, hb, atI_nat (j := 1) rfl, w, (i : Int), cc, rfl, rfl, wl, hcc, n3, fun p hp => ?_⟩
        have F1 := fin p [V.str "swap", V.int i, V.str ⟨#[cc]⟩] hp (by rw [es, ← gw]; exact ((if_neg (ne_em hy)).trans (if_neg (mem hi))).symm)
        exact ⟨L, _, _, rfl, rfl, Same.new hp _ _ eL2, by rw [List.length_map]; exact ll, ⟨_, _, rfl⟩, F1⟩
    · rintro σ H1 ⟨⟨o4, o5, rfl⟩, s1, us, eL, pU⟩
      rw [← lst, List.take_length] at pU
      refine ⟨_, rfl, L, _, rfl, SqL.of eL, fun R hR => ?_⟩
      have sR := Same.new (o := .lst ((us.map V.ref).reverse)) hR
      have eR : (upd H1 R (.lst ((us.map V.ref).reverse))) R = some (.lst ((us.map V.ref).reverse)) := upd_same
      have pR : Paired (fun (u : Addr) (q : St3) => (upd H1 R (.lst ((us.map V.ref).reverse))) u = some (.tup (chV (q.1, q.2.2, q.2.1)))) us st := L2.Paired.mapP pU fun _ _ e => sR _ _ e
      generalize upd H1 R (.lst ((us.map V.ref).reverse)) = H2 at sR eR pR ⊢
      dsimp only [tNil]
      refine ⟨R, _, rfl, .inl ⟨SqL.of eR, fun p hp => ?_⟩⟩
      have s4 := Same.new (o := .tup ((us.map V.ref).reverse)) hp
      have pk := L2.Paired.mapP (G := fun (u : Addr) (q : St3) => (upd H2 p (.tup ((us.map V.ref).reverse))) u = some (.tup (chV (q.1, q.2.2, q.2.1)))) (pairedRev pR) fun b q e => s4 _ _ e
      have ep : (upd H2 p (.tup ((us.map V.ref).reverse))) p = some (.tup ((us.map V.ref).reverse)) := upd_same
      generalize upd H2 p (.tup ((us.map V.ref).reverse)) = H3 at s4 pk ep ⊢
      refine q _ p (s1.trans (sR.trans s4)) (s1.free (sR.free hp)) (.tup (.inl (.inl ep)) ?_)
      rw [← List.map_reverse]
      exact dpall_of pk
end
end Mk

set_option Elab.async false
set_option linter.all false
set_option maxRecDepth 100000
set_option maxHeartbeats 1000000
/-! what a call tells -/
namespace Mk
open PySem PySem.Spec L2 PyProof.Rows

abbrev sTold : Stmt := top 54
/-- the two errors -/
structure Ex2 (K : PySem.W.Frag) (mg : Str → Option Value) (CI CO : Addr) : Prop where
  gI : mg "InvalidChange" = some (.ref CI)
  gO : mg "InvalidOperation" = some (.ref CO)
  ii : PySem.W.exmOne K (.ref CI) (.ref CI) = some true
  oi : PySem.W.exmOne K (.ref CO) (.ref CI) = some false
  oo : PySem.W.exmOne K (.ref CO) (.ref CO) = some true
/-- a new pair at p -/
def NewP (H : Hp) (Q : VK) (x : Str) (v : V) : Prop := ([V.str x, v] : List V).length ≤ sizeLine ∧ ∀ p, H p = none → Q (.ref p) (upd H p (.tup [V.str x, v]))
def ErrT (CI CO : Addr) (Q : VK) : XK := fun cls _ H => (cls = .ref CI ∧ ∀ p, H p = none → Q (.ref p) (upd H p (.tup [V.str "change", V.non]))) ∨ (cls = .ref CO ∧ ∀ p, H p = none → Q (.ref p) (upd H p (.tup [V.str "operation", V.non])))
/-- what it makes of the lambda's reading -/
def TT2 (CI CO : Addr) : (XK → Hp → VK → Prop) → Hp → VK → Prop := fun tl H Q => tl (ErrT CI CO Q) H fun v H1 => NewP H1 Q "told" v
theorem scTold : FnScope ["_law_call"] ["_law_call"] (defScope sTold) := ⟨rfl, rfl, rfl, by decide +kernel, rfl, by decide +kernel, by decide +kernel⟩
theorem told_gives2 {X : Cx} {g CI CO : Addr} {cdg : Value} {q : Str} (B : Ex2 X.K X.mg CI CO) : LamX.GivesTo X ["_law_call"] "_law_told_by" (defScope sTold) g cdg (defBody sTold) "_law_call" q (TT2 CI CO) := by
  intro f c' s H Q tl act hc h
  have n2 : 2 ≤ sizeLine := by decide
  refine ⟨_, pss_one (ps_try_many (tb := fun W D σ H => ∃ Ech : XK, (∀ cls d σ' H', Ech cls d H' → W cls d σ' H') ∧ σ[0]? = some (some (.ref f)) ∧ H c' = some (LamX.CodeO c' q) ∧ tl Ech H fun v H1 => NewP H1 D.rt "told" v)
      rfl rfl takes_none5 (fun W pn xe tk _ => ?_) (.cons (c := .ref CI) ⟨rfl, by decide, .inl B.gI⟩ (fun a oe cls d pn _ _ => pss_one (ps_ret (pe_tup (pa_cons pe_str (pa_cons pe_non pa_nil)))))
        (.cons (c := .ref CO) ⟨rfl, by decide, .inl B.gO⟩ (fun a oe cls d pn _ _ => pss_one (ps_ret (pe_tup (pa_cons pe_str (pa_cons pe_non pa_nil))))) .nil))), ?_⟩
  · refine ⟨fun pins s' σ H' D I h' => ?_⟩
    obtain ⟨Ech, hW, h1, h2, h3⟩ := h'
    exact (pss_one (ps_ret (pe_tup (pa_cons pe_str (pa_cons (act W pn xe Ech _ _ tk hW) pa_nil))))).run pins s' σ H' D I ⟨h1, h2, h3⟩
  · refine ⟨ErrT CI CO Q, fun cls d σ' H' e => ?_, rfl, hc, h⟩
    rcases e with ⟨rfl, k⟩ | ⟨rfl, k⟩
    · exact ⟨true, B.ii, fun _ a _ => ⟨n2, k⟩, fun z => (Bool.noConfusion z)⟩
    · exact ⟨false, B.oi, fun z => (Bool.noConfusion z), fun _ => ⟨true, B.oo, fun _ a _ => ⟨n2, k⟩, fun z => (Bool.noConfusion z)⟩⟩
end Mk

set_option Elab.async false
set_option linter.all false
set_option maxRecDepth 100000
set_option maxHeartbeats 1000000
/-! data that repr can show, and how long their texts are -/
namespace Mk
open PySem PySem.Spec L2 PyProof.Rows

structure Shw (d : PyData) (n k : Nat) : Prop where
  s : d.showable = true
  h : d.hasDict = false
  dp : d.depth ≤ k
  l : d.shown.length ≤ n
theorem Shw.mono {d : PyData} {n k n' k' : Nat} (h : Shw d n k) (hn : n ≤ n') (hk : k ≤ k') : Shw d n' k' := ⟨h.s, h.h, Nat.le_trans h.dp hk, Nat.le_trans h.l hn⟩
theorem shown_all : ∀ xs : List PyData, PyData.shownAll xs = xs.map PyData.shown
  | [] => by simp only [PyData.shownAll, List.map_nil]
  | x :: xs => by simp only [PyData.shownAll, List.map_cons, shown_all xs]
theorem showable_all : ∀ {xs : List PyData}, (∀ x ∈ xs, x.showable = true) → PyData.showableAll xs = true
  | [], _ => by simp only [PyData.showableAll]
  | x :: xs, h => by
    simp only [PyData.showableAll, h x List.mem_cons_self, showable_all fun y hy => h y (List.mem_cons_of_mem _ hy), Bool.and_self]
theorem hasDict_all : ∀ {xs : List PyData}, (∀ x ∈ xs, x.hasDict = false) → PyData.hasDictAll xs = false
  | [], _ => by simp only [PyData.hasDictAll]
  | x :: xs, h => by
    simp only [PyData.hasDictAll, h x List.mem_cons_self, hasDict_all fun y hy => h y (List.mem_cons_of_mem _ hy), Bool.or_self]
theorem depth_all {k : Nat} : ∀ {xs : List PyData}, (∀ x ∈ xs, x.depth ≤ k) → PyData.depthAll xs ≤ k
  | [], _ => by simp only [PyData.depthAll]; exact Nat.zero_le _
  | x :: xs, h => by
    have h1 := h x List.mem_cons_self
    have h2 := depth_all fun y hy => h y (List.mem_cons_of_mem _ hy)
    simp only [PyData.depthAll]
    omega
theorem piled_le {n : Nat} : ∀ {ts : List Str}, (∀ t ∈ ts, t.length ≤ n) → piled ts ≤ ts.length * (n + 2)
  | [], _ => Nat.zero_le _
  | t :: ts, h => by
    have h1 := h t List.mem_cons_self
    have h2 := piled_le fun y hy => h y (List.mem_cons_of_mem _ hy)
    rw [piled_cons, List.length_cons, Nat.succ_mul]
    omega
theorem joined_le (ts : List Str) : (Str.join ", " ts).length ≤ piled ts := by
  by_cases h : ts = []
  · rw [h]
    decide
  · have := join_length_add ts h
    omega
section
variable {xs : List PyData} {n k : Nat}
theorem shw_list (h : ∀ x ∈ xs, Shw x n k) : Shw (.list xs) (xs.length * (n + 2) + 2) (k + 1) := by
  refine ⟨?_, ?_, ?_, ?_⟩
  · simp only [PyData.showable]
    exact showable_all fun x hx => (h x hx).s
  · simp only [PyData.hasDict]
    exact hasDict_all fun x hx => (h x hx).h
  · have := depth_all fun x hx => (h x hx).dp
    simp only [PyData.depth]
    omega
  · have e : (PyData.list xs).shown = listText (xs.map PyData.shown) := by simp only [PyData.shown, shown_all]
    rw [e, listText_eq_join, strLen_append, strLen_append]
    have h1 := joined_le (xs.map PyData.shown)
    have h2 := piled_le (n := n) (ts := xs.map PyData.shown) fun t ht => by
      obtain ⟨x, hx, rfl⟩ := List.mem_map.mp ht
      exact (h x hx).l
    rw [List.length_map] at h2
    have e1 : ((("[" : String) : Str)).length = 1 := rfl
    have e2 : ((("]" : String) : Str)).length = 1 := rfl
    rw [e1, e2]
    omega
theorem shw_tuple (h : ∀ x ∈ xs, Shw x n k) : Shw (.tuple xs) (xs.length * (n + 2) + 3) (k + 1) := by
  refine ⟨?_, ?_, ?_, ?_⟩
  · simp only [PyData.showable]
    exact showable_all fun x hx => (h x hx).s
  · simp only [PyData.hasDict]
    exact hasDict_all fun x hx => (h x hx).h
  · have := depth_all fun x hx => (h x hx).dp
    simp only [PyData.depth]
    omega
  · have e : (PyData.tuple xs).shown = tupleText (xs.map PyData.shown) := by simp only [PyData.shown, shown_all]
    rw [e]
    unfold tupleText
    rw [strLen_append, strLen_append]
    have h1 := joined_le (xs.map PyData.shown)
    have h2 := piled_le (n := n) (ts := xs.map PyData.shown) fun t ht => by
      obtain ⟨x, hx, rfl⟩ := List.mem_map.mp ht
      exact (h x hx).l
    rw [List.length_map] at h2
    have e1 : ((("(" : String) : Str)).length = 1 := rfl
    have e3 : (((if (xs.map PyData.shown).length == 1 then ",)" else ")" : String) : Str)).length ≤ 2 := by split <;> decide
    rw [e1]
    omega
end
theorem shw_str {z : Str} {n : Nat} (h : (reprText z).length ≤ n) : Shw (.str z) n 0 := ⟨by simp only [PyData.showable], by simp only [PyData.hasDict], by simp only [PyData.depth]; exact Nat.le_refl _, by simp only [PyData.shown]; exact h⟩
theorem shw_bool (b : Bool) : Shw (.bool b) 5 0 := by
  cases b
  · exact ⟨rfl, rfl, Nat.le_refl _, by decide⟩
  · exact ⟨rfl, rfl, Nat.le_refl _, by decide⟩
theorem shw_int {i : Int} (h0 : 0 ≤ i) (h1 : i ≤ 60) : Shw (.int i) 2 0 := by
  obtain ⟨n, rfl⟩ : ∃ n : Nat, i = (n : Int) := ⟨i.toNat, by omega⟩
  refine ⟨?_, by simp only [PyData.hasDict], by simp only [PyData.depth]; exact Nat.le_refl _, ?_⟩
  · simp only [PyData.showable]
    exact decide_eq_true (small_log (by omega))
  · simp only [PyData.shown]
    exact small_txt (by omega)
/-- a sign is one of five -/
theorem sign_in {z : Str} (h : sgB z = true) : z ∈ sgs "abcde" := by
  unfold sgB at h
  simp only [Bool.and_eq_true, decide_eq_true_eq] at h
  have hw := isW_of h.2
  have hl : (cs z).length = 1 := h.1
  obtain ⟨c, hc⟩ := List.length_eq_one_iff.mp hl
  have h2 := hw c (by rw [hc]; exact List.mem_singleton.mpr rfl)
  have ez : z = ⟨#[c]⟩ := cs_inj (by rw [hc])
  have e : sgs "abcde" = [⟨#[97]⟩, ⟨#[98]⟩, ⟨#[99]⟩, ⟨#[100]⟩, ⟨#[101]⟩] := by decide +kernel
  rw [ez, e]
  rcases (by omega : c = 97 ∨ c = 98 ∨ c = 99 ∨ c = 100 ∨ c = 101) with rfl | rfl | rfl | rfl | rfl <;> simp
theorem shw_sign {z : Str} (h : sgB z = true) : Shw (.str z) 3 0 := by
  have : ∀ z ∈ sgs "abcde", (reprText z).length ≤ 3 := by decide +kernel
  exact shw_str (this z (sign_in h))
/-- a row of a table, as data -/
def rowP (q : Str × Int) : PyData := .tuple [.str q.1, .int q.2]
def rowS (q : (Str × Str) × Int) : PyData := .tuple [.tuple [.str q.1.1, .str q.1.2], .int q.2]
theorem shw_rowP {q : Str × Int} (h : sgB q.1 = true) (h0 : 0 ≤ q.2) (h1 : q.2 ≤ 60) : Shw (rowP q) 13 1 := shw_tuple (n := 3) (k := 0) (xs := [.str q.1, .int q.2]) fun x hx => by
  simp only [List.mem_cons, List.not_mem_nil, or_false] at hx
  rcases hx with rfl | rfl
  · exact shw_sign h
  · exact (shw_int h0 h1).mono (by decide) (Nat.le_refl _)
theorem shw_rowS {q : (Str × Str) × Int} (h : sgB q.1.1 = true) (h' : sgB q.1.2 = true) (h0 : 0 ≤ q.2) (h1 : q.2 ≤ 60) : Shw (rowS q) 33 2 := shw_tuple (n := 13) (k := 1) (xs := [.tuple [.str q.1.1, .str q.1.2], .int q.2]) fun x hx => by
  simp only [List.mem_cons, List.not_mem_nil, or_false] at hx
  rcases hx with rfl | rfl
  · exact shw_tuple (n := 3) (k := 0) (xs := [.str q.1.1, .str q.1.2]) fun x hx => by
      simp only [List.mem_cons, List.not_mem_nil, or_false] at hx
      rcases hx with rfl | rfl
      · exact shw_sign h
      · exact shw_sign h'
  · exact (shw_int h0 h1).mono (by decide) (by decide)
/-- all tables, as data -/
def tabD (t1 t2 : PTab) (t3 : STab) : PyData := .list [.tuple ((t1.map (·.1)).map PyData.str), .list (t1.map rowP), .list (t2.map rowP), .list (t3.map rowS)]
theorem shw_tab {t1 t2 : PTab} {t3 : STab} (r : RtT t1 t2 t3) : Shw (tabD t1 t2 t3) 2818 4 := by
  have hrt := r.rt
  unfold rightB at hrt
  simp only [Bool.and_eq_true] at hrt
  have b1 : ∀ p ∈ t1, 0 ≤ p.2 ∧ p.2 ≤ 60 := fun p hp => by
    have h := List.all_eq_true.mp hrt.1 p hp
    unfold nwB at h
    simp only [Bool.and_eq_true, decide_eq_true_eq] at h
    omega
  have b2 : ∀ p ∈ t2, 0 ≤ p.2 ∧ p.2 ≤ 60 := fun p hp => by
    have h := List.all_eq_true.mp hrt.2.2.1 p hp
    unfold nwB at h
    simp only [Bool.and_eq_true, decide_eq_true_eq] at h
    omega
  have b3 : ∀ p ∈ t3, 0 ≤ p.2 ∧ p.2 ≤ 60 := fun p hp => by
    have h := List.all_eq_true.mp hrt.2.2.2 p hp
    unfold nwB at h
    simp only [Bool.and_eq_true, decide_eq_true_eq] at h
    omega
  have sgk : ∀ z ∈ t1.map (·.1), sgB z = true := fun z hz => by
    obtain ⟨q, hq, rfl⟩ := List.mem_map.mp hz
    exact r.ag.sg q hq
  have l1 := r.ag.l1
  have l2 := r.ag.l2
  have l3 := r.ag.l3
  have w1 : Shw (.tuple ((t1.map (·.1)).map PyData.str)) 28 1 := by
    have := shw_tuple (n := 3) (k := 0) (xs := (t1.map (·.1)).map PyData.str) fun x hx => by
      obtain ⟨z, hz, rfl⟩ := List.mem_map.mp hx
      exact shw_sign (sgk z hz)
    refine this.mono ?_ (Nat.le_refl _)
    rw [List.length_map, List.length_map]
    omega
  have w2 : ∀ {t : PTab}, t.length ≤ 5 → (∀ p ∈ t, sgB p.1 = true) → (∀ p ∈ t, 0 ≤ p.2 ∧ p.2 ≤ 60) → Shw (.list (t.map rowP)) 77 2 := fun {t} hl hs hb => by
    have := shw_list (n := 13) (k := 1) (xs := t.map rowP) fun x hx => by
      obtain ⟨q, hq, rfl⟩ := List.mem_map.mp hx
      exact shw_rowP (hs q hq) (hb q hq).1 (hb q hq).2
    refine this.mono ?_ (Nat.le_refl _)
    rw [List.length_map]
    omega
  have w3 : Shw (.list (t3.map rowS)) 702 3 := by
    have := shw_list (n := 33) (k := 2) (xs := t3.map rowS) fun x hx => by
      obtain ⟨q, hq, rfl⟩ := List.mem_map.mp hx
      have h := r.ag.pr q hq
      exact shw_rowS (sgk _ h.1) (sgk _ h.2.1) (b3 q hq).1 (b3 q hq).2
    refine this.mono ?_ (Nat.le_refl _)
    rw [List.length_map]
    omega
  refine (shw_list (n := 702) (k := 3) fun x hx => ?_).mono (by show 4 * (702 + 2) + 2 ≤ 2818; decide) (Nat.le_refl _)
  simp only [List.mem_cons, List.not_mem_nil, or_false] at hx
  rcases hx with rfl | rfl | rfl | rfl
  · exact w1.mono (by decide) (by decide)
  · exact (w2 l1 r.ag.sg b1).mono (by decide) (by decide)
  · exact (w2 l2 r.ag.sg2 b2).mono (by decide) (by decide)
  · exact w3
end Mk

set_option Elab.async false
set_option linter.all false
set_option maxRecDepth 100000
set_option maxHeartbeats 1000000
/-! values that stay while tables of code grow; their texts -/
namespace Mk
open PySem PySem.Spec L2 PyProof.Rows

theorem SqL.extN {K : PySem.W.Frag} {H H' : Hp} {a : Addr} {xs : List V} (k : LamX.ExtN H H') (h : SqL K H a xs) : SqL K H' a xs := h.imp (fun r => r.imp (fun e => k _ _ e (fun _ z => nomatch z)) fun ⟨o, e⟩ => ⟨o, k _ _ e (fun _ z => nomatch z)⟩) id
theorem SqT.extN {K : PySem.W.Frag} {H H' : Hp} {a : Addr} {xs : List V} (k : LamX.ExtN H H') (h : SqT K H a xs) : SqT K H' a xs := h.imp (fun r => r.imp (fun e => k _ _ e (fun _ z => nomatch z)) fun ⟨o, e⟩ => ⟨o, k _ _ e (fun _ z => nomatch z)⟩) id
mutual
theorem Dp.extN {K : PySem.W.Frag} {H H' : Hp} (k : LamX.ExtN H H') : ∀ {v : V} {d : PyData}, Dp K H v d → Dp K H' v d
  | _, _, .non => .non
  | _, _, .bl b => .bl b
  | _, _, .int i => .int i
  | _, _, .str x => .str x
  | _, _, .lst h t => .lst (SqL.extN k h) (DpAll.extN k t)
  | _, _, .tup h t => .tup (SqT.extN k h) (DpAll.extN k t)
theorem DpAll.extN {K : PySem.W.Frag} {H H' : Hp} (k : LamX.ExtN H H') : ∀ {vs : List V} {ds : List PyData}, DpAll K H vs ds → DpAll K H' vs ds
  | _, _, .nil => .nil
  | _, _, .cons a t => .cons (Dp.extN k a) (DpAll.extN k t)
end
theorem Dv.extN {K : PySem.W.Frag} {H H' : Hp} {v : V} {d : PyData} (k : LamX.ExtN H H') (h : Dv K H v d) : Dv K H' v d := by
  cases h with
  | of h => exact .of (Dp.extN k h)
  | dic h => exact .dic (k _ _ h (fun _ z => nomatch z))
theorem Tabs.extN {H H' : Hp} {p o s : Addr} {t1 t2 : PTab} {t3 : STab} (h : Tabs H p o s t1 t2 t3) (k : LamX.ExtN H H') : Tabs H' p o s t1 t2 t3 := ⟨k _ _ h.p (fun _ z => nomatch z), k _ _ h.o (fun _ z => nomatch z), k _ _ h.s (fun _ z => nomatch z)⟩
theorem PrAt.extN {C x : Addr} {H H' : Hp} {t1 t2 : PTab} {t3 : STab} (h : PrAt C H x t1 t2 t3) (k : LamX.ExtN H H') : PrAt C H' x t1 t2 t3 := by
  obtain ⟨dx, t, a, b, c, h1, h2, h3⟩ := h
  exact ⟨dx, t, a, b, c, k _ _ h1 (fun _ z => nomatch z), k _ _ h2 (fun _ z => nomatch z), h3.extN k⟩
theorem Rec.extN {H H' : Hp} {L a b c : Addr} {t1 t2 : PTab} {t3 : STab} (r : Rec H L a b c t1 t2 t3) (k : LamX.ExtN H H') : Rec H' L a b c t1 t2 t3 := ⟨k _ _ r.l (fun _ z => nomatch z), r.t.extN k⟩
theorem Ask.extN {K : PySem.W.Frag} {H H' : Hp} {z : Str} {v : V} {d : PyData} (h : Ask K H z v d) (k : LamX.ExtN H H') : Ask K H' z v d := ⟨Dv.extN k h.v, h.ok, h.l, h.w⟩
theorem sameN {H H' : Hp} (k : Same H H') : LamX.ExtN H H' := fun b o e _ => k b o e
mutual
theorem Dp.noDict {K : PySem.W.Frag} {H : Hp} : ∀ {v : V} {d : PyData}, Dp K H v d → d.hasDict = false
  | _, _, .non => by simp only [PyData.hasDict]
  | _, _, .bl b => by simp only [PyData.hasDict]
  | _, _, .int i => by simp only [PyData.hasDict]
  | _, _, .str x => by simp only [PyData.hasDict]
  | _, _, .lst h t => by simp only [PyData.hasDict]; exact DpAll.noDict t
  | _, _, .tup h t => by simp only [PyData.hasDict]; exact DpAll.noDict t
theorem DpAll.noDict {K : PySem.W.Frag} {H : Hp} : ∀ {vs : List V} {ds : List PyData}, DpAll K H vs ds → PyData.hasDictAll ds = false
  | _, _, .nil => by simp only [PyData.hasDictAll]
  | _, _, .cons a t => by simp only [PyData.hasDictAll, Dp.noDict a, DpAll.noDict t, Bool.or_self]
end
section
variable {X : Cx}
/-- repr of data, of an empty dict too -/
theorem call_reprV (gd : X.A.guards = some []) (hu : X.A.units + 100 < cLine) : CallR X (.builtin "repr") (fun xs H Q => ∃ (v : V) (d : PyData), xs = [v] ∧ Dv X.K H v d ∧ d.showable = true ∧ d.depth ≤ 60 ∧ d.shown.length ≤ sizeLine ∧ Q (.str d.shown) H) := by
  intro pins s σ H xs us Q I r h
  obtain ⟨v, d, rfl, hd, h1, h3, h4, q⟩ := h
  obtain ⟨u, rfl, hu1⟩ := vals1 r
  have done : ∀ {a : Addr} {as : List Addr}, Reads s.heap (.ref a) d as → (d.hasDict = true → sysModules ∉ as) → wpAny (model X.prog X.w) X.A (call (.builtin "repr") [.ref a]) (fun v s' => ∃ v0 H1, Inv X pins σ H1 s' ∧ RelV v0 v ∧ Q v0 H1) X.xe s := fun {a as} rd hm =>
    repr_of_reads' rd h1 hm gd (by omega) (fun _ _ z => z) (fun h' v tk k => ⟨.str d.shown, H, I.kept k, ⟨_, rfl⟩, q⟩) h4
  cases hd with
  | dic e =>
    obtain rfl : u = Value.ref _ := hu1
    obtain ⟨_, ne, vs, kv, o, es, ep, eo, ex, ed, _, pr, _⟩ := I.hok _ _ e
    cases kv
    cases hes : es.toList with
    | cons x y =>
      rw [hes] at pr
      cases pr
    | nil =>
      refine done (.dict eo ex.1 ed (by rw [hes]; exact .nil) (by rw [hes]; exact .nil)) fun _ m => ?_
      have m : sysModules ∈ [_] := m
      rw [List.mem_singleton] at m
      rw [← m] at ne
      cases ne
  | of hd =>
    have nd := Dp.noDict hd
    obtain ⟨as, rd⟩ := Dp.reads I d _ _ hd hu1
    cases hd with
    | non =>
      obtain rfl : u = Value.none := hu1
      exact P.repr_of_none ⟨.str _, H, I.tok _, ⟨_, rfl⟩, q⟩
    | bl b =>
      obtain rfl : u = Value.bool b := hu1
      exact P.repr_of_bool ⟨.str _, H, I.tok _, ⟨_, rfl⟩, q⟩
    | int i =>
      obtain ⟨t, rfl⟩ := hu1
      refine P.repr_of_int ?_ ⟨.str _, H, I.tok _, ⟨_, rfl⟩, q⟩
      have h1 := h1
      simp only [PyData.showable] at h1
      exact of_decide_eq_true h1
    | str x =>
      obtain ⟨t, rfl⟩ := hu1
      exact P.repr_of_str ⟨.str _, H, I.tok _, ⟨_, rfl⟩, q⟩ (by simpa only [PyData.shown] using h4)
    | lst _ _ =>
      obtain rfl : u = Value.ref _ := hu1
      exact done rd fun z => by rw [nd] at z; cases z
    | tup _ _ =>
      obtain rfl : u = Value.ref _ := hu1
      exact done rd fun z => by rw [nd] at z; cases z
end
end Mk

set_option Elab.async false
set_option linter.all false
set_option maxRecDepth 100000
set_option maxHeartbeats 1000000
/-! what the calls tell of a row -/
namespace Mk
open PySem PySem.Spec L2 PyProof.Rows

def runO (d : PyData) (z : Str) : Option (List St3) := match d with
  | .tuple ds => runD ds (sgs z)
  | _ => none
theorem noSt {d : PyData} {z : Str} (h : NoSt d z) : runO d z = none := by
  cases d with
  | tuple ds =>
    show runD ds (sgs z) = none
    cases e : runD ds (sgs z) with
    | none => rfl
    | some st => exact (h ds st rfl e).elim
  | _ => rfl
theorem noSt_of {d : PyData} {z : Str} (h : runO d z = none) : NoSt d z := fun ds st e1 e2 => by
  subst e1
  have h : runD ds (sgs z) = none := h
  rw [h] at e2
  cases e2
theorem isSt {d : PyData} {z : Str} {ds : List PyData} {st : List St3} (e1 : d = .tuple ds) (e2 : runD ds (sgs z) = some st) : runO d z = some st := by
  subst e1
  exact e2
theorem st_of {d : PyData} {z : Str} {st : List St3} (h : runO d z = some st) : ∃ ds, d = .tuple ds ∧ runD ds (sgs z) = some st := by
  cases d with
  | tuple ds => exact ⟨ds, rfl, h⟩
  | _ => cases h
def chgO : PyData := .tuple [.str "change", .none]
def opO : PyData := .tuple [.str "operation", .none]
def tellO (d : PyData) : PyData := .tuple [.str "told", d]
def o1 (d : PyData) (z : Str) : PyData := match runO d z with
  | none => chgO
  | some st => tellO (.str (wd (endS (sgs z) st)))
def o2 (d : PyData) (z : Str) : PyData := match runO d z with
  | none => chgO
  | some st => tellO (.tuple (backD st))
def o3 (t1 t2 : PTab) (t3 : STab) (d : PyData) (z : Str) : PyData := match runO d z with
  | none => chgO
  | some st => match prc t1 t2 t3 st with
    | none => opO
    | some i => tellO (.int i)
section
variable {K : PySem.W.Frag} {H : Hp} {Q : VK} {C CI CO x : Addr} {z : Str} {v : V} {d : PyData} {t1 t2 : PTab} {t3 : STab}
theorem dp_new {p : Addr} {x : Str} (hp : H p = none) (hv : Dp K H v d) : Dp K (upd H p (.tup [V.str x, v])) (.ref p) (.tuple [.str x, d]) := .tup (SqT.of upd_same) (.cons (.str x) (.cons (Dp.keep (Same.new hp) hv) .nil))
theorem n2_line : 2 ≤ sizeLine := by decide
theorem tell1 (a : Ask K H z v d) (q : ∀ H' p, Same H H' → H p = none → Dp K H' (.ref p) (o1 d z) → Q (.ref p) H') : spChgd K CI [.str z, v] H (fun v H1 => NewP H1 Q "told" v) (ErrT CI CO Q) := by
  refine ⟨z, v, d, rfl, a, fun H' n s => .inl ⟨rfl, fun p hp => ?_⟩, fun H' ds st e1 e2 s => ⟨n2_line, fun p hp => ?_⟩⟩
  · refine q _ p (s.trans (Same.new hp)) (s.free hp) ?_
    unfold o1
    rw [noSt n]
    exact dp_new hp .non
  · refine q _ p (s.trans (Same.new hp)) (s.free hp) ?_
    unfold o1
    rw [isSt e1 e2]
    exact dp_new hp (.str _)
theorem tell2 (a : Ask K H z v d) (q : ∀ H' p, Same H H' → H p = none → Dp K H' (.ref p) (o2 d z) → Q (.ref p) H') : spUndn K CI [.str z, v] H (fun v H1 => NewP H1 Q "told" v) (ErrT CI CO Q) := by
  refine ⟨z, v, d, rfl, a, fun H' n s => .inl ⟨rfl, fun p hp => ?_⟩, fun H' p0 ds st e1 e2 s _ hd => ⟨n2_line, fun p hp => ?_⟩⟩
  · refine q _ p (s.trans (Same.new hp)) (s.free hp) ?_
    unfold o2
    rw [noSt n]
    exact dp_new hp .non
  · refine q _ p (s.trans (Same.new hp)) (s.free hp) ?_
    unfold o2
    rw [isSt e1 e2]
    exact dp_new hp hd
theorem tell3 (a : Ask K H z v d) (hx : PrAt C H x t1 t2 t3) (R : RtT t1 t2 t3) (sr : Srt t1 t2 t3) (q : ∀ H' p, Same H H' → H p = none → Dp K H' (.ref p) (o3 t1 t2 t3 d z) → Q (.ref p) H') : spPof K C CI CO [.str z, v, .ref x] H (fun v H1 => NewP H1 Q "told" v) (ErrT CI CO Q) := by
  refine ⟨z, v, d, x, t1, t2, t3, rfl, a, hx, R, sr, fun H' n s => .inl ⟨rfl, fun p hp => ?_⟩, fun H' ds st e1 e2 e3 s => .inr ⟨rfl, fun p hp => ?_⟩, fun H' ds st i e1 e2 e3 s => ⟨n2_line, fun p hp => ?_⟩⟩
  · refine q _ p (s.trans (Same.new hp)) (s.free hp) ?_
    unfold o3
    rw [noSt n]
    exact dp_new hp .non
  · refine q _ p (s.trans (Same.new hp)) (s.free hp) ?_
    unfold o3
    rw [isSt e1 e2]
    show Dp K _ _ (match prc t1 t2 t3 st with | none => opO | some i => tellO (.int i))
    rw [e3]
    exact dp_new hp .non
  · refine q _ p (s.trans (Same.new hp)) (s.free hp) ?_
    unfold o3
    rw [isSt e1 e2]
    show Dp K _ _ (match prc t1 t2 t3 st with | none => opO | some i => tellO (.int i))
    rw [e3]
    exact dp_new hp (.int i)
end
/-! texts of them -/
theorem sgB_ok {y : Str} (h : sgB y = true) : PyData.strOk y = true := by
  have : ∀ z ∈ sgs "abcde", PyData.strOk z = true := by decide +kernel
  exact this y (sign_in h)
structure Okq (n : Nat) (q : St3) : Prop where
  i : q.1 ≤ n
  a : q.2.1 = "" ∨ sgB q.2.1 = true
  b : q.2.2 = "" ∨ sgB q.2.2 = true
theorem okq_step {d : PyData} {sg : List Str} (hs : ∀ x ∈ sg, sgB x = true) (h : chB d sg = true) : Okq sg.length (stepOf d sg) := by
  have mem : ∀ {i : Nat}, i < sg.length → sgB (sg.getD i ("" : Str)) = true := fun {i} hi => by
    refine hs _ ?_
    rw [List.getD_eq_getElem?_getD, List.getElem?_eq_getElem hi]
    exact List.getElem_mem hi
  rcases ch_cases h with ⟨i, rfl, hi, es⟩ | ⟨i, y, rfl, hi, hy, es⟩ | ⟨i, y, rfl, hi, hy, _, es⟩
  · rw [es]
    exact ⟨Nat.le_of_lt hi, .inr (mem hi), .inl rfl⟩
  · rw [es]
    exact ⟨hi, .inl rfl, .inr hy⟩
  · rw [es]
    exact ⟨Nat.le_of_lt hi, .inr (mem hi), .inr hy⟩
theorem runD_okq : ∀ {ds : List PyData} {sg : List Str} {st : List St3}, (∀ x ∈ sg, sgB x = true) → runD ds sg = some st → ∀ q ∈ st, Okq (sg.length + ds.length) q
  | [], _, _, hs, h, q, hq => by
    cases h
    cases hq
  | d :: ds, sg, st, hs, h, q, hq => by
    rw [runD_cons] at h
    by_cases c : chB d sg = true
    · rw [if_pos c] at h
      cases hr : runD ds (app3 sg (stepOf d sg)) with
      | none => rw [hr] at h; cases h
      | some r =>
        rw [hr] at h
        cases h
        have hl := app3_len c
        rw [List.length_cons]
        rcases List.mem_cons.mp hq with rfl | hq
        · have := okq_step hs c
          exact ⟨Nat.le_trans this.i (by omega), this.a, this.b⟩
        · have := runD_okq (app3_sg hs c) hr q hq
          exact ⟨Nat.le_trans this.i (by omega), this.a, this.b⟩
    · rw [if_neg c] at h
      cases h
theorem shw_intN {i : Nat} (h : i ≤ 2000) : Shw (.int (i : Int)) 4 0 := by
  have a : ∀ n : Fin 2001, ((n.val : Nat) : Int).natAbs.log2 < 1920 ∧ (toString ((n.val : Nat) : Int) : Str).length ≤ 4 := by decide +kernel
  have := a ⟨i, by omega⟩
  refine ⟨?_, by simp only [PyData.hasDict], by simp only [PyData.depth]; exact Nat.le_refl _, ?_⟩
  · simp only [PyData.showable]
    exact decide_eq_true this.1
  · simp only [PyData.shown]
    exact this.2
theorem shw_em : Shw (.str "") 3 0 := shw_str (by decide +kernel)
theorem shw_ch {n : Nat} {q : St3} (h : Okq n q) (hn : n ≤ 2000) : Shw (chOf q) 27 1 := by
  have wa : Shw (.str q.2.1) 6 0 := by
    rcases h.a with e | e
    · rw [e]; exact shw_em.mono (by decide) (Nat.le_refl _)
    · exact (shw_sign e).mono (by decide) (Nat.le_refl _)
  have wb : Shw (.str q.2.2) 6 0 := by
    rcases h.b with e | e
    · rw [e]; exact shw_em.mono (by decide) (Nat.le_refl _)
    · exact (shw_sign e).mono (by decide) (Nat.le_refl _)
  have wi : Shw (.int (q.1 : Int)) 6 0 := (shw_intN (Nat.le_trans h.i hn)).mono (by decide) (Nat.le_refl _)
  have w1 : Shw (.str "put") 6 0 := shw_str (by decide +kernel)
  have w2 : Shw (.str "out") 6 0 := shw_str (by decide +kernel)
  have w3 : Shw (.str "swap") 6 0 := shw_str (by decide +kernel)
  unfold chOf
  split
  · refine (shw_tuple (n := 6) (k := 0) fun x hx => ?_).mono (by show 3 * (6 + 2) + 3 ≤ 27; decide) (Nat.le_refl _)
    simp only [List.mem_cons, List.not_mem_nil, or_false] at hx
    rcases hx with rfl | rfl | rfl
    · exact w1
    · exact wi
    · exact wb
  · split
    · refine (shw_tuple (n := 6) (k := 0) fun x hx => ?_).mono (by show 2 * (6 + 2) + 3 ≤ 27; decide) (Nat.le_refl _)
      simp only [List.mem_cons, List.not_mem_nil, or_false] at hx
      rcases hx with rfl | rfl
      · exact w2
      · exact wi
    · refine (shw_tuple (n := 6) (k := 0) fun x hx => ?_).mono (by show 3 * (6 + 2) + 3 ≤ 27; decide) (Nat.le_refl _)
      simp only [List.mem_cons, List.not_mem_nil, or_false] at hx
      rcases hx with rfl | rfl | rfl
      · exact w3
      · exact wi
      · exact wb
theorem lay_ch {n : Nat} {q : St3} (h : Okq n q) : (chOf q).canLay0 = true ∧ (chOf q).depth ≤ 1 := by
  have wa : PyData.strOk q.2.2 = true := by
    rcases h.b with e | e
    · rw [e]; decide +kernel
    · exact sgB_ok e
  have s1 : PyData.strOk "put" = true := by decide +kernel
  have s2 : PyData.strOk "out" = true := by decide +kernel
  have s3 : PyData.strOk "swap" = true := by decide +kernel
  unfold chOf
  split
  · exact ⟨by simp [PyData.canLay0, PyData.canLayAll0, wa, s1], by simp [PyData.depth, PyData.depthAll]⟩
  · split
    · exact ⟨by simp [PyData.canLay0, PyData.canLayAll0, s2], by simp [PyData.depth, PyData.depthAll]⟩
    · exact ⟨by simp [PyData.canLay0, PyData.canLayAll0, wa, s3], by simp [PyData.depth, PyData.depthAll]⟩
theorem canLay_all : ∀ {xs : List PyData}, (∀ x ∈ xs, x.canLay0 = true) → PyData.canLayAll0 xs = true
  | [], _ => by simp only [PyData.canLayAll0]
  | x :: xs, h => by
    simp only [PyData.canLayAll0, h x List.mem_cons_self, canLay_all fun y hy => h y (List.mem_cons_of_mem _ hy), Bool.and_self]
theorem shaped_row {n : Nat} {st : List St3} (h : ∀ q ∈ st, Okq n q) : SeqAt.shaped (.tuple (st.map chOf)) = true := by
  unfold SeqAt.shaped
  rw [Bool.and_eq_true]
  refine ⟨?_, decide_eq_true ?_⟩
  · simp only [PyData.canLay0]
    refine canLay_all fun x hx => ?_
    obtain ⟨q, hq, rfl⟩ := List.mem_map.mp hx
    exact (lay_ch (h q hq)).1
  · have := depth_all (k := 1) (xs := st.map chOf) fun x hx => by
      obtain ⟨q, hq, rfl⟩ := List.mem_map.mp hx
      exact (lay_ch (h q hq)).2
    simp only [PyData.depth]
    omega
theorem okq_bk {n : Nat} {st : List St3} (h : ∀ q ∈ st, Okq n q) : ∀ q ∈ bkS st, Okq n q := fun q hq => by
  unfold bkS at hq
  obtain ⟨r, hr, rfl⟩ := List.mem_map.mp hq
  have := h r (List.mem_reverse.mp hr)
  exact ⟨this.i, this.b, this.a⟩
theorem shw_word {z : Str} (h : ∀ x ∈ sgs z, sgB x = true) : Shw (.str z) (10 * z.length + 2) 0 := by
  refine shw_str (StrLaws.reprText_len z fun c hc => ?_)
  have m : (⟨#[c]⟩ : Str) ∈ sgs z := List.mem_map.mpr ⟨c, hc, rfl⟩
  have e : sgs "abcde" = [⟨#[97]⟩, ⟨#[98]⟩, ⟨#[99]⟩, ⟨#[100]⟩, ⟨#[101]⟩] := by decide +kernel
  have := sign_in (h _ m)
  rw [e] at this
  simp only [List.mem_cons, List.not_mem_nil, or_false, Str.mk.injEq, Array.mk.injEq, List.cons.injEq, and_true] at this
  rcases this with r | r | r | r | r <;> · rw [r]; decide
end Mk

set_option Elab.async false
set_option linter.all false
set_option maxRecDepth 100000
set_option maxHeartbeats 1000000
/-! rows that are judged by the law -/
namespace Mk
open PySem PySem.Spec L2 PyProof.Rows

abbrev sRR : Stmt := top 55
theorem prc1_perm {t1 t2 u1 u2 : PTab} {t3 u3 : STab} (R : RtT t1 t2 t3) (p1 : u1.Perm t1) (p2 : u2.Perm t2) (p3 : u3.Perm t3) (o n : Str) : prc1 u1 u2 u3 o n = prc1 t1 t2 t3 o n := by
  have m1 : ∀ k : Str, (k ∈ u1.map (·.1)) ↔ (k ∈ t1.map (·.1)) := fun k => (p1.map _).mem_iff
  have m3 : ∀ k : Str × Str, (k ∈ u3.map (·.1)) ↔ (k ∈ t3.map (·.1)) := fun k => (p3.map _).mem_iff
  have nd2 : (t2.map (·.1)).Nodup := R.ag.pm.nodup_iff.mpr R.ag.nd
  unfold prc1
  by_cases e1 : o = ""
  · rw [if_pos e1, if_pos e1]
    by_cases h : n ∈ t1.map (·.1)
    · rw [if_pos h, if_pos ((m1 n).mpr h), look_perm p1 R.ag.nd h]
    · rw [if_neg h, if_neg (fun c => h ((m1 n).mp c))]
  · rw [if_neg e1, if_neg e1]
    by_cases e2 : n = ""
    · rw [if_pos e2, if_pos e2]
      by_cases h : o ∈ t1.map (·.1)
      · rw [if_pos h, if_pos ((m1 o).mpr h), look_perm p2 nd2 (R.ag.pm.mem_iff.mpr h)]
      · rw [if_neg h, if_neg (fun c => h ((m1 o).mp c))]
    · rw [if_neg e2, if_neg e2]
      by_cases h : (o, n) ∈ t3.map (·.1)
      · rw [if_pos h, if_pos ((m3 _).mpr h), look_perm p3 R.nd h]
      · rw [if_neg h, if_neg (fun c => h ((m3 _).mp c))]
theorem prc_perm {t1 t2 u1 u2 : PTab} {t3 u3 : STab} (R : RtT t1 t2 t3) (p1 : u1.Perm t1) (p2 : u2.Perm t2) (p3 : u3.Perm t3) (st : List St3) : prc u1 u2 u3 st = prc t1 t2 t3 st := by
  have e : prc1 u1 u2 u3 = prc1 t1 t2 t3 := funext fun o => funext fun n => prc1_perm R p1 p2 p3 o n
  unfold prc
  rw [e]
theorem prc1_b {t1 t2 : PTab} {t3 : STab} (R : RtT t1 t2 t3) {o n : Str} : 0 ≤ (prc1 t1 t2 t3 o n).getD 0 ∧ (prc1 t1 t2 t3 o n).getD 0 ≤ 100 := by
  have rt := R.rt
  unfold rightB at rt
  simp only [Bool.and_eq_true] at rt
  have b1 := ok_bounds (m := 9) (by decide) rt.1
  have b2 := ok_bounds (m := 9) (by decide) rt.2.2.1
  have b3 := okS_bounds (m := 18) (by decide) rt.2.2.2
  have nd2 : (t2.map (·.1)).Nodup := R.ag.pm.nodup_iff.mpr R.ag.nd
  have lk : ∀ {α : Type} [DecidableEq α] {t : List (α × Int)}, (t.map (·.1)).Nodup → (∀ p ∈ t, 0 ≤ p.2 ∧ p.2 ≤ 100) → ∀ {k : α}, k ∈ t.map (·.1) → 0 ≤ look t k ∧ look t k ≤ 100 := fun {α _ t} nd b {k} m => by
    obtain ⟨p, hp, rfl⟩ := List.mem_map.mp m
    rw [look_mem nd p hp]
    exact b p hp
  have z : (0 : Int) ≤ 0 ∧ (0 : Int) ≤ 100 := by decide
  unfold prc1
  by_cases e1 : o = ""
  · rw [if_pos e1]
    by_cases h : n ∈ t1.map (·.1)
    · rw [if_pos h]
      exact lk R.ag.nd b1 h
    · rw [if_neg h]
      exact z
  · rw [if_neg e1]
    by_cases e2 : n = ""
    · rw [if_pos e2]
      by_cases h : o ∈ t1.map (·.1)
      · rw [if_pos h]
        exact lk nd2 b2 (R.ag.pm.mem_iff.mpr h)
      · rw [if_neg h]
        exact z
    · rw [if_neg e2]
      by_cases h : (o, n) ∈ t3.map (·.1)
      · rw [if_pos h]
        exact lk R.nd b3 h
      · rw [if_neg h]
        exact z
theorem sum_b {α : Type} {f : α → Int} (h : ∀ a, 0 ≤ f a ∧ f a ≤ 100) : ∀ l : List α, 0 ≤ (l.map f).sum ∧ (l.map f).sum ≤ 100 * l.length
  | [] => ⟨Int.le_refl _, Int.le_refl _⟩
  | a :: l => by
    have h1 := h a
    have h2 := sum_b h l
    rw [List.map_cons, List.sum_cons, List.length_cons]
    omega
theorem prc_b {t1 t2 : PTab} {t3 : STab} (R : RtT t1 t2 t3) {st : List St3} {i : Int} (h : prc t1 t2 t3 st = some i) : 0 ≤ i ∧ i ≤ 100 * st.length := by
  unfold prc at h
  split at h
  · cases h
    exact sum_b (fun q => prc1_b R) st
  · cases h
/-! the texts of what is told -/
structure RowOk (d : PyData) : Prop where
  len : ∀ ds, d = .tuple ds → ds.length ≤ 20 ∧ ∀ x ∈ ds, OkC x
  s : d.showable = true
  dp : d.depth ≤ 60
  l : d.shown.length ≤ sizeLine
theorem RowOk.d {d : PyData} (h : RowOk d) : OkD d := fun ds e => ⟨Nat.le_trans (h.len ds e).1 (by decide), fun x hx => (h.len ds e).2 x hx⟩
section
variable {d : PyData} {z : Str} {t1 t2 : PTab} {t3 : STab}
theorem shw_pair {x : Str} {e : PyData} {n k : Nat} (hx : (reprText x).length ≤ n) (h : Shw e n k) : Shw (.tuple [.str x, e]) (2 * n + 7) (k + 1) := by
  refine (shw_tuple (n := n) (k := k) fun y hy => ?_).mono (by show 2 * (n + 2) + 3 ≤ 2 * n + 7; omega) (Nat.le_refl _)
  simp only [List.mem_cons, List.not_mem_nil, or_false] at hy
  rcases hy with rfl | rfl
  · exact (shw_str hx).mono (Nat.le_refl _) (Nat.zero_le _)
  · exact h
theorem shw_none : Shw .none 4 0 := ⟨by simp only [PyData.showable], by simp only [PyData.hasDict], by simp only [PyData.depth]; exact Nat.le_refl _, by simp only [PyData.shown]; decide +kernel⟩
theorem shw_chg : Shw chgO 30000 5 := (shw_pair (n := 20) (k := 0) (by decide +kernel) (shw_none.mono (by decide) (Nat.le_refl _))).mono (by decide) (by decide)
theorem shw_op : Shw opO 30000 5 := (shw_pair (n := 20) (k := 0) (by decide +kernel) (shw_none.mono (by decide) (Nat.le_refl _))).mono (by decide) (by decide)
theorem shw_tell {e : PyData} (h : Shw e 10000 2) : Shw (tellO e) 30000 5 := (shw_pair (n := 10000) (k := 2) (by decide +kernel) h).mono (by decide) (by decide)
theorem shw_o1 (o : RowOk d) (lz : z.length ≤ 950) (hs : ∀ x ∈ sgs z, sgB x = true) : Shw (o1 d z) 30000 5 := by
  unfold o1
  cases e : runO d z with
  | none => exact shw_chg
  | some st =>
    obtain ⟨ds, rfl, hr⟩ := st_of e
    have l1 := endS_len (runD_ok hs hr)
    have l2 := runD_len hr
    have l3 := (o.len ds rfl).1
    rw [sgs_length] at l1
    have e1 := endS_one (st := st) (sg := sgs z) fun y hy => sgs_one hy
    have sw : sgs (wd (endS (sgs z) st)) = endS (sgs z) st := sgs_wd e1
    have lw : (wd (endS (sgs z) st)).length = (endS (sgs z) st).length := by rw [← sgs_length, sw]
    exact shw_tell ((shw_word (by rw [sw]; exact endS_sg hs hr)).mono (by omega) (by decide))
theorem shw_o2 (o : RowOk d) (lz : z.length ≤ 950) (hs : ∀ x ∈ sgs z, sgB x = true) : Shw (o2 d z) 30000 5 := by
  unfold o2
  cases e : runO d z with
  | none => exact shw_chg
  | some st =>
    obtain ⟨ds, rfl, hr⟩ := st_of e
    have l2 := runD_len hr
    have l3 := (o.len ds rfl).1
    have ok := okq_bk (runD_okq hs hr)
    rw [sgs_length] at ok
    show Shw (tellO (.tuple (backD st))) 30000 5
    rw [backD_eq]
    have lb : (bkS st).length = st.length := by unfold bkS; rw [List.length_map, List.length_reverse]
    refine shw_tell ((shw_tuple (n := 27) (k := 1) fun x hx => ?_).mono ?_ (Nat.le_refl _))
    · obtain ⟨q, hq, rfl⟩ := List.mem_map.mp hx
      exact shw_ch (ok q hq) (by omega)
    · rw [List.length_map, lb]
      omega
theorem shw_o3 (R : RtT t1 t2 t3) (o : RowOk d) (lz : z.length ≤ 950) (hs : ∀ x ∈ sgs z, sgB x = true) : Shw (o3 t1 t2 t3 d z) 30000 5 := by
  unfold o3
  cases e : runO d z with
  | none => exact shw_chg
  | some st =>
    obtain ⟨ds, rfl, hr⟩ := st_of e
    have l2 := runD_len hr
    have l3 := (o.len ds rfl).1
    show Shw (match prc t1 t2 t3 st with | none => opO | some i => tellO (.int i)) 30000 5
    cases e3 : prc t1 t2 t3 st with
    | none => exact shw_op
    | some i =>
      have b := prc_b R e3
      obtain ⟨n, rfl⟩ : ∃ n : Nat, i = (n : Int) := ⟨i.toNat, by omega⟩
      exact shw_tell ((shw_intN (by omega)).mono (by decide) (by decide))
theorem shw_outs (R : RtT t1 t2 t3) (o : RowOk d) (lz : z.length ≤ 950) (hs : ∀ x ∈ sgs z, sgB x = true) : Shw (.list [o1 d z, o2 d z, o3 t1 t2 t3 d z]) 100000 6 := by
  refine (shw_list (n := 30000) (k := 5) fun y hy => ?_).mono (by show 3 * (30000 + 2) + 2 ≤ 100000; decide) (Nat.le_refl _)
  simp only [List.mem_cons, List.not_mem_nil, or_false] at hy
  rcases hy with rfl | rfl | rfl
  · exact shw_o1 o lz hs
  · exact shw_o2 o lz hs
  · exact shw_o3 R o lz hs
end
end Mk

set_option Elab.async false
set_option linter.all false
set_option maxRecDepth 100000
set_option maxHeartbeats 2000000
/-! one row, judged by the law -/
namespace Mk
open PySem PySem.Spec L2 PyProof.Rows

abbrev nRR : List Str := ["_law_prices", "_law_table", "_law_word", "_law_row", "_law_words", "_law_text", "_law_due", "_law_total", "_law_turn", "_law_told", "_law_back"]
def spRowR (K : PySem.W.Frag) (C : Addr) (T : List (Addr × Str)) : Sp := fun vs H Q _ => ∃ (x L a b c : Addr) (z : Str) (v : V) (d : PyData) (t1 t2 u1 u2 : PTab) (t3 u3 : STab), vs = [.ref x, .ref L, .str z, v] ∧ PrAt C H x u1 u2 u3 ∧ Srt u1 u2 u3 ∧ u1.Perm t1 ∧ u2.Perm t2 ∧ u3.Perm t3 ∧ Rec H L a b c t1 t2 t3 ∧ RtT t1 t2 t3 ∧
  Dv K H v d ∧ RowOk d ∧ z.length ≤ 950 ∧ (∀ x ∈ sgs z, sgB x = true) ∧ LamX.Tabs T H ∧ ∀ H', LamX.ExtN H H' → LamX.Tabs T H' → Q (.bl true) H'
section
variable {P : Program} {w : World} {K : PySem.W.Frag} {mg : Str → Option Value} {base : Heap} {k : Nat} {f : Addr} {sp : Sp} {N ps : List Str}
/-- a def whose code object is known, where nothing is being printed -/
theorem Fun_okGc {x qual : Str} {st : Stmt} {fd : FuncData} {c : Addr} (F : Fun K x qual st f fd) (hc : fd.code = .ref c) (S : FnScope N ps (defScope st)) (len : ∀ vs H Q E, sp vs H Q E → vs.length = ps.length)
    (hb : ∀ (A : Around) (outer : List Env) (s : Shared) (H : Hp) (vs : List V) (Q : VK) (E : XK), Room k (A.deeper (envOfC qual (defScope st) s.heap.objs.size f (.ref c))) → A.guards = some [] → sp vs H Q E →
      ∃ t, PSs (cxOf CX0 P w K mg base N qual (defScope st) f (.ref c) A outer s H E).nox (defBody st) t ∧ t { nx := fun _ H' => Q .non H', rt := Q } (start N vs) H) : FnG P w K mg base CX0 (k + 1) f fd ps sp := by
  obtain ⟨oc, od, kV, doc, pm, an, cdv, ct, osl, rfl, at0, cd0⟩ := F.ex
  have hc : cdv = .ref c := hc
  subst hc
  refine fn_ofG at0 cd0 S len fun A outer s H vs Q E hr gd hsp => ?_
  obtain ⟨t, h, q⟩ := hb A outer s H vs Q E hr gd hsp
  exact ⟨t, h.nox, q⟩
theorem scRR : FnScope nRR ["_law_prices", "_law_table", "_law_word", "_law_row"] (defScope sRR) := ⟨rfl, rfl, rfl, by decide +kernel, rfl, by decide +kernel, by decide +kernel⟩
/-- the def that gets a lambda -/
structure Tl (K : PySem.W.Frag) (mg : Str → Option Value) (g : Addr) (gd : FuncData) : Prop where
  F : Fun K "_law_told_by" "_law_told_by" sTold g gd
  m : mg "_law_told_by" = some (.ref g)
  k : PySem.W.keepIn K (.ref g) = true
  b : Binds K gd ["_law_call"] []
theorem pe_told {X : Cx} {T : List (Addr × Str)} {g c Pt CI CO : Addr} {gd : FuncData} {k : Nat} {params : Arguments} {body : Expr} {scope : Scope} {t : XK → TE} {p lpos pos : Pos} (G : Tl X.K X.mg g gd) (B : Ex2 X.K X.mg CI CO) (hg : Gl X "_law_told_by")
    (TB : LamX.TabB X.base X.mg c Pt) (hcode : X.env.code = .ref c) (hmT : (Pt, X.env.qual ++ "<lambda>") ∈ T) (hu : ∀ p ∈ T, p.1 = Pt → p.2 = X.env.qual ++ "<lambda>") (hr : Room (k + 2) X.A) (L : LamX.LamS X.env.scope scope) (hdef : defaultsOf params X.env = ([], []))
    (hbind : ∀ (q : Str) (cl : List (Str × Addr)) (pm cv ctv : Value), bindArgs (PySem.W.kla_fn "<lambda>" q params body scope cl pm cv ctv) ⟨[], []⟩ = pure [])
    (hbody : ∀ (A : Around) (outer : List Env) (s : Shared) (H : Hp) (E : XK) (f c' : Addr), Room k (A.deeper (LamX.lamEnv X scope s.heap.objs.size f c')) → PE (LamX.lamCx X A outer s H E scope f c') body (t E)) :
    PE X (.Call (.Name "_law_told_by" p) [.Lambda params body scope lpos] [] pos) (LamX.tLam T (TT2 CI CO) t) := by
  obtain ⟨oc, od, kV, doc, pm, an, cdv, ct, osl, e, at0, cd0⟩ := G.F.ex
  have gb := G.b
  rw [e] at gb at0
  exact LamX.pe_lamcall hg G.m G.k at0 cd0 gb scTold rfl (.inl (by rfl)) (told_gives2 B) TB hcode hmT hu hr L hdef hbind hbody
end

/-! what is told while a list grows -/
theorem ExtN.upN {H H1 : Hp} {l : Addr} {o : HO} (k : LamX.ExtN H H1) (hl : H l = none) : LamX.ExtN H (upd H1 l o) := fun b u e n => by
  have nb : b ≠ l := fun z => by rw [z, hl] at e; cases e
  rw [upd_ne nb]
  exact k b u e n
theorem ExtN.upF {H H1 : Hp} {l : Addr} {o : HO} (k : LamX.ExtN H H1) (hl : H1 l = none) : LamX.ExtN H (upd H1 l o) := fun b u e n => by
  have h1 := k b u e n
  have nb : b ≠ l := fun z => by rw [z, hl] at h1; cases h1
  rw [upd_ne nb]
  exact h1
theorem ExtN.cut {H H1 : Hp} {l : Addr} (k : LamX.ExtN H H1) : LamX.ExtN (cutH l H) (cutH l H1) := fun b u e n => by
  by_cases nb : b = l
  · rw [nb, show cutH l H l = none from if_pos rfl] at e
    cases e
  · rw [cutH_ne nb] at e ⊢
    exact k b u e n
theorem ExtN.cutUp {H : Hp} {l : Addr} {o : HO} : LamX.ExtN (cutH l H) (upd H l o) := fun b u e n => by
  have nb : b ≠ l := fun z => by
    rw [z, show cutH l H l = none from if_pos rfl] at e
    cases e
  rw [upd_ne nb]
  rw [cutH_ne nb] at e
  exact e
theorem ExtN.intoCut {H H1 : Hp} {l : Addr} (k : LamX.ExtN H H1) (hl : H l = none) : LamX.ExtN H (cutH l H1) := fun b u e n => by
  have nb : b ≠ l := fun z => by rw [z, hl] at e; cases e
  rw [cutH_ne nb]
  exact k b u e n
theorem tabs_new {T : List (Addr × Str)} {H : Hp} {l : Addr} {o : HO} (h : LamX.Tabs T H) (hl : H l = none) : LamX.Tabs T (upd H l o) := h.ext fun b u e => (upd_ne (ne_of_none e hl)).trans e
theorem tabs_up {T : List (Addr × Str)} {H : Hp} {l : Addr} {o : HO} {xs : List V} (h : LamX.Tabs T H) (hl : H l = some (.lst xs)) : LamX.Tabs T (upd H l o) := fun p hp => by
  obtain ⟨ps, h1, h2, h3⟩ := h p hp
  have n1 : p.1 ≠ l := fun z => by rw [z, hl] at h1; cases h1
  refine ⟨ps, (upd_ne n1).trans h1, h2, fun pos cv hc => ?_⟩
  obtain ⟨c, e, h4⟩ := h3 pos cv hc
  refine ⟨c, e, (upd_ne fun z => ?_).trans h4⟩
  rw [z, hl] at h4
  cases h4
theorem tabs_same {T : List (Addr × Str)} {H H1 : Hp} (h : LamX.Tabs T H) (k : Same H H1) : LamX.Tabs T H1 := h.ext k
/-- data without a list -/
inductive NoL : PyData → Prop
  | non : NoL .none
  | int (i : Int) : NoL (.int i)
  | str (x : Str) : NoL (.str x)
  | tup {ds : List PyData} : (∀ d ∈ ds, NoL d) → NoL (.tuple ds)
theorem Dp.cutL {K : PySem.W.Frag} {H : Hp} {l : Addr} {ys : List V} (hl : H l = some (.lst ys)) {d : PyData} (n : NoL d) : ∀ {v : V}, Dp K H v d → Dp K (cutH l H) v d := by
  induction n with
  | non => intro v h; cases h; exact .non
  | int i => intro v h; cases h; exact .int i
  | str x => intro v h; cases h; exact .str x
  | @tup ds _ ih =>
    intro v h
    cases h with
    | @tup a xs _ ht hall =>
    have all : ∀ {vs : List V} {es : List PyData}, (∀ d ∈ es, ∀ {v : V}, Dp K H v d → Dp K (cutH l H) v d) → DpAll K H vs es → DpAll K (cutH l H) vs es := by
      intro vs es
      induction es generalizing vs with
      | nil => intro _ h; cases h; exact .nil
      | cons e es ih2 =>
        intro hi h
        cases h with
        | cons h1 t1 => exact .cons (hi e List.mem_cons_self h1) (ih2 (fun d hd => hi d (List.mem_cons_of_mem _ hd)) t1)
    refine .tup ?_ (all ih hall)
    refine ht.imp (fun r => r.imp (fun e => ?_) fun ⟨o, e⟩ => ⟨o, ?_⟩) id
    · rw [cutH_ne (fun z => by rw [z, hl] at e; cases e)]
      exact e
    · rw [cutH_ne (fun z => by rw [z, hl] at e; cases e)]
      exact e
theorem noL_ch (q : St3) : NoL (chOf q) := by
  unfold chOf
  split
  · refine .tup fun d hd => ?_
    simp only [List.mem_cons, List.not_mem_nil, or_false] at hd
    rcases hd with rfl | rfl | rfl
    · exact .str _
    · exact .int _
    · exact .str _
  · split
    · refine .tup fun d hd => ?_
      simp only [List.mem_cons, List.not_mem_nil, or_false] at hd
      rcases hd with rfl | rfl
      · exact .str _
      · exact .int _
    · refine .tup fun d hd => ?_
      simp only [List.mem_cons, List.not_mem_nil, or_false] at hd
      rcases hd with rfl | rfl | rfl
      · exact .str _
      · exact .int _
      · exact .str _
theorem noL_pair {x : Str} {d : PyData} (h : NoL d) : NoL (.tuple [.str x, d]) := .tup fun e he => by
  simp only [List.mem_cons, List.not_mem_nil, or_false] at he
  rcases he with rfl | rfl
  · exact .str _
  · exact h
theorem noL_o1 (d : PyData) (z : Str) : NoL (o1 d z) := by
  unfold o1
  cases runO d z with
  | none => exact noL_pair .non
  | some st => exact noL_pair (.str _)
theorem noL_o2 (d : PyData) (z : Str) : NoL (o2 d z) := by
  unfold o2
  cases runO d z with
  | none => exact noL_pair .non
  | some st =>
    refine noL_pair (.tup fun e he => ?_)
    rw [backD_eq] at he
    obtain ⟨q, _, rfl⟩ := List.mem_map.mp he
    exact noL_ch q
theorem noL_o3 (t1 t2 : PTab) (t3 : STab) (d : PyData) (z : Str) : NoL (o3 t1 t2 t3 d z) := by
  unfold o3
  cases runO d z with
  | none => exact noL_pair .non
  | some st =>
    show NoL (match prc t1 t2 t3 st with | none => opO | some i => tellO (.int i))
    cases prc t1 t2 t3 st with
    | none => exact noL_pair .non
    | some i => exact noL_pair (.int i)
end Mk

set_option Elab.async false
set_option linter.all false
set_option maxRecDepth 100000
set_option maxHeartbeats 4000000
/-! one row, judged by the law: the def -/
namespace Mk
open PySem PySem.Spec L2 PyProof.Rows

def qLam : Str := (("_law_row_right" : Str) ++ ".<locals>.") ++ "<lambda>"
/-- the words of a row, or none -/
def WordsC (H : Hp) (W : V) (d : PyData) (z : Str) : Prop := (W = .non ∧ runO d z = none) ∨ ∃ (Wd : Addr) (st : List St3), W = .ref Wd ∧ runO d z = some st ∧ H Wd = some (.lst ((wrds (sgs z) st).map V.str))
theorem back_row {d : PyData} {z : Str} {st : List St3} (o : RowOk d) (hs : ∀ x ∈ sgs z, sgB x = true) (lz : z.length ≤ 950) (e : runO d z = some st) : ∃ ds, d = .tuple ds ∧ runD ds (sgs z) = some st ∧ runD (backD st) (endS (sgs z) st) = some (bkS st) ∧ endS (endS (sgs z) st) (bkS st) = sgs z ∧ backD (bkS st) = ds ∧ ds.length ≤ 20 := by
  obtain ⟨ds, rfl, hr⟩ := st_of e
  have l := (o.len ds rfl).1
  obtain ⟨h1, h2, h3⟩ := back_all hs (by rw [sgs_length]; omega) hr
  refine ⟨ds, rfl, hr, h1, h2, ?_, l⟩
  rw [backD_eq, bkS_bkS, h3]
theorem okD_back {n : Nat} {st : List St3} (h : ∀ q ∈ st, Okq n q) (l : st.length ≤ 200) : OkD (.tuple (backD st)) := fun ds e => by
  cases e
  rw [backD_eq]
  refine ⟨by rw [List.length_map]; unfold bkS; rw [List.length_map, List.length_reverse]; exact l, fun x hx es e => ?_⟩
  obtain ⟨q, hq, rfl⟩ := List.mem_map.mp hx
  have hq := okq_bk h q hq
  have l1 : ∀ {y : Str}, (y = "" ∨ sgB y = true) → y.length ≤ 1 := fun {y} h => by
    rcases h with rfl | h
    · decide
    · exact Nat.le_of_eq (sgB_len h)
  refine okC_ch q (l1 hq.a) (l1 hq.b) ?_ es e
  rcases hq.b with e | e
  · rw [e]; decide +kernel
  · exact sgB_ok e
section
variable {P : Program} {w : World} {K : PySem.W.Frag} {mg : Str → Option Value} {base : Heap}
theorem ok_rowR {f C CI CO c Pt g : Addr} {fd gd : FuncData} (F : Fun K "_law_row_right" "_law_row_right" sRR f fd) (hc : fd.code = .ref c) (TB : LamX.TabB base mg c Pt) (O : On mg) (B : Bn mg) (mr : mg "repr" = none) (X2 : Ex2 K mg CI CO) (Gt : Tl K mg g gd)
    (J1 : Cd P w K mg base 2 "_law_run" ["_law_word", "_law_row"] (spRun K)) (J2 : Cd P w K mg base 1 "_law_paid" ["_law_table", "_law_words", "_law_row"] (spPaid K)) (J3 : Cd P w K mg base 1 "_law_way_back" ["_law_words", "_law_row"] (spBackW K))
    (J4 : CdX P w K mg base 6 "changed" ["word", "changes"] (spChgd K CI)) (J5 : CdX P w K mg base 6 "undone" ["word", "changes"] (spUndn K CI)) (J6 : CdX P w K mg base 6 "price_of" ["word", "changes", "prices"] (spPof K C CI CO)) :
    FnG P w K mg base CX0 9 f fd ["_law_prices", "_law_table", "_law_word", "_law_row"] (spRowR K C [(Pt, qLam)]) := by
  obtain ⟨a1, d1, G1, m1, k1, b1⟩ := J1.ex
  obtain ⟨a2, d2, G2, m2, k2, b2⟩ := J2.ex
  obtain ⟨a3, d3, G3, m3, k3, b3⟩ := J3.ex
  obtain ⟨a4, d4, G4, m4, k4, b4⟩ := J4.ex
  obtain ⟨a5, d5, G5, m5, k5, b5⟩ := J5.ex
  obtain ⟨a6, d6, G6, m6, k6, b6⟩ := J6.ex
  refine Fun_okGc F hc scRR (fun vs H Q E h => ?_) (fun A outer s H vs Q E hr gd h => ?_)
  · obtain ⟨x, L, a, b, c, z, v, d, t1, t2, u1, u2, t3, u3, rfl, _⟩ := h
    rfl
  · obtain ⟨x, L, a, b, c', z, v, d, t1, t2, u1, u2, t3, u3, rfl, hx, sr, p1, p2, p3, r, R, hd, ok, lz, hs, hT, q⟩ := h
    have hu : A.units + 3 + 100 < cLine := by
      have h2 : A.units + 3 + 16 * 8 + 200 < cLine := hr.un
      omega
    have h64 : A.units + 3 + 64 < cLine := by omega
    have mT : ∀ q : Str, q = qLam → (Pt, q) ∈ [(Pt, qLam)] := fun q e => by rw [e]; exact List.mem_singleton.mpr rfl
    have uT : ∀ q : Str, q = qLam → ∀ p ∈ [(Pt, qLam)], p.1 = Pt → p.2 = q := fun q e p hp _ => by rw [List.mem_singleton.mp hp, e]
    have n1 : 1 ≤ sizeLine := by decide
    have lt3 : ∀ {n : Nat}, n ≤ 3 → n < sizeLine := fun h1 => Nat.lt_of_le_of_lt h1 (by decide)
    have Ru := R.perm p1 p2 p3
    have sw := shw_outs Ru ok lz hs
    have swl : (PyData.list [o1 d z, o2 d z, o3 u1 u2 u3 d z]).shown.length ≤ sizeLine := Nat.le_trans sw.l (by decide)
    have swd : (PyData.list [o1 d z, o2 d z, o3 u1 u2 u3 d z]).depth ≤ 60 := Nat.le_trans sw.dp (by decide)
    have ask : ∀ {H' : Hp}, LamX.ExtN H H' → Ask K H' z v d := fun {H'} e => ⟨Dv.extN e hd, ok.d, by omega, wB_ofs hs⟩
    have tail : PSs (cxOf CX0 P w K mg base nRR "_law_row_right" (defScope sRR) f (.ref c) A outer s H E).nox ((defBody sRR).drop 2) (fun D σ H0 => ∃ (Wv : V) (Du : Addr) (o7 o8 o9 o10 : Option V), σ = [some (.ref x), some (.ref L), some (.str z), some v, some Wv, some (.str d.shown), some (.ref Du), o7, o8, o9, o10] ∧
        LamX.ExtN H H0 ∧ LamX.Tabs [(Pt, qLam)] H0 ∧ Dp K H0 (.ref Du) (.list [o1 d z, o2 d z, o3 u1 u2 u3 d z]) ∧ WordsC H0 Wv d z ∧ ∀ H', LamX.ExtN H H' → LamX.Tabs [(Pt, qLam)] H' → D.rt (.bl true) H') := by
      refine ⟨fun pins s' σ H0 D I h => ?_⟩
      obtain ⟨Wv, Du, o7, o8, o9, o10, rfl, e0, T0, dD, hW, q⟩ := h
      refine (show PSs (cxOf CX0 P w K mg base nRR "_law_row_right" (defScope sRR) f (.ref c) A outer s H E).nox ((defBody sRR).drop 2) _ from pss_cons (ps_for PassesOwn.never rfl (pi_range1 (by rfl) B.range (pa_cons pe_int pa_nil)) (pg_name (i := 8) scRR.nd rfl (.inl rfl))
          (pss_cons (ps_set (i := 9) scRR.nd rfl (.inl rfl) (pe_lst (pa_cons (pe_told Gt X2 (by rfl) TB rfl (mT _ rfl) (uT _ rfl) hr (LamX.lamS_by (sc := defScope sRR) (by decide +kernel)) (by rfl) (fun _ _ _ _ _ => rfl)
              (fun A outer s H E f c' hr' => pe_call G4 hr' (by rfl) m4 k4 b4 .nil (passes_call (takes_of rfl rfl rfl rfl) fun _ _ _ _ h => h) (pa_cons (pv 2) (pa_cons (pv 3) pa_nil)))) pa_nil)))
          (pss_cons (ps_expr (pe_bm PySem.F.plainAttrs_list PySem.F.slot_list_append PySem.F.type_list_append mt_append (pv 9) (pa_cons (pe_told Gt X2 (by rfl) TB rfl (mT _ rfl) (uT _ rfl) hr (LamX.lamS_by (sc := defScope sRR) (by decide +kernel)) (by rfl) (fun _ _ _ _ _ => rfl)
              (fun A outer s H E f c' hr' => pe_call G5 hr' (by rfl) m5 k5 b5 .nil (passes_call (takes_of rfl rfl rfl rfl) fun _ _ _ _ h => h) (pa_cons (pv 2) (pa_cons (pv 3) pa_nil)))) pa_nil)))
          (pss_cons (ps_expr (pe_bm PySem.F.plainAttrs_list PySem.F.slot_list_append PySem.F.type_list_append mt_append (pv 9) (pa_cons (pe_told Gt X2 (by rfl) TB rfl (mT _ rfl) (uT _ rfl) hr (LamX.lamS_by (sc := defScope sRR) (by decide +kernel)) (by rfl) (fun _ _ _ _ _ => rfl)
              (fun A outer s H E f c' hr' => pe_call G6 hr' (by rfl) m6 k6 b6 .nil (passes_call (takes_of rfl rfl rfl rfl) fun _ _ _ _ h => h) (pa_cons (pv 2) (pa_cons (pv 3) (pa_cons (pv 0) pa_nil))))) pa_nil)))
          (pss_one (ps_if (PW.pt (pw_or (pt_cmpR op_ne (pe_callB (call_reprV gd hu) (by rfl) mr (by decide +kernel) (pa_cons (pv 9) pa_nil)) (pe_callB (call_reprV gd hu) (by rfl) mr (by decide +kernel) (pa_cons (pv 6) pa_nil)) (nomark _))
            (pw_or1 (pt_cmpR op_ne (pe_callB (call_reprV gd hu) (by rfl) mr (by decide +kernel) (pa_cons (pv 3) pa_nil)) (pv 5) (nomark _))))) (pss_one (ps_ret pe_bl)) pss_nil))))))
        (pss_cons (ps_if (pt_cmpR op_isN (pv 4) pe_non (nomark _)) (pss_one (ps_ret pe_bl)) pss_nil)
        (pss_cons (ps_set (i := 10) scRR.nd rfl (.inl rfl) (pe_call G5 (hr.mono (by decide)) (by rfl) m5 k5 b5 .nil (passes_call takes_none5 fun _ _ _ _ h => h) (pa_cons (pv 2) (pa_cons (pv 3) pa_nil))))
        (pss_one (ps_ret (pe_and (pe_cmpR op_eq (pe_call G4 (hr.mono (by decide)) (by rfl) m4 k4 b4 .nil (passes_call takes_none5 fun _ _ _ _ h => h) (pa_cons (pe_ix ix_list (pv 4) (pe_un un_neg pe_int) (fun _ _ => rfl)) (pa_cons (pv 10) pa_nil))) (pv 2) (nomark _))
          (pe_one (pe_cmpR (op_eqD h64) (pe_call G5 (hr.mono (by decide)) (by rfl) m5 k5 b5 .nil (passes_call takes_none5 fun _ _ _ _ h => h) (pa_cons (pe_ix ix_list (pv 4) (pe_un un_neg pe_int) (fun _ _ => rfl)) (pa_cons (pv 10) pa_nil))) (pv 3) (nomark _))))))))).run pins s' _ H0 D I ?_
      refine ⟨2, rfl, by decide, by decide, for_range (lo := 0) (n := 2) (fun i σ H1 => (∃ o8 o9, σ = [some (.ref x), some (.ref L), some (.str z), some v, some Wv, some (.str d.shown), some (.ref Du), o7, o8, o9, o10]) ∧ LamX.ExtN H0 H1 ∧ LamX.Tabs [(Pt, qLam)] H1) ⟨⟨_, _, rfl⟩, LamX.ExtN.refl _, T0⟩ ?_ ?_⟩
      · rintro i σ H1 hi ⟨⟨o8, o9, rfl⟩, e1, T1⟩
        refine ⟨T1, fun H2 x2 T2 => ⟨_, rfl, _, rfl, tell1 (ask (e0.trans (e1.trans x2))) fun H3 P1 s3 f3 dp1 => ⟨n1, fun Tl hTl => ?_⟩⟩⟩
        have e3 := e1.trans (x2.trans (sameN s3))
        have T3 := tabs_new (o := .lst [V.ref P1]) (tabs_same T2 s3) hTl
        have e4 := ExtN.upF (o := .lst [V.ref P1]) e3 hTl
        have eT : (upd H3 Tl (.lst [V.ref P1])) Tl = some (.lst [V.ref P1]) := upd_same
        have dc1 : Dp K (cutH Tl (upd H3 Tl (.lst [V.ref P1]))) (.ref P1) (o1 d z) := Dp.extN (ExtN.intoCut (ExtN.upF (LamX.ExtN.refl _) hTl) hTl) dp1
        have fTl : ∀ b o, H0 b = some o → (∀ ps, o ≠ .tbl ps) → b ≠ Tl := fun b o e n z => by
          have := e3 b o e n
          rw [z, hTl] at this
          cases this
        clear hTl dp1 e3
        generalize upd H3 Tl (.lst [V.ref P1]) = H4 at T3 e4 eT dc1 ⊢
        clear T1 e1 T2 x2 s3 f3 H1 H2 H3
        -- the second call
        refine ⟨_, rfl, .inl ⟨rfl, _, SqL.of eT⟩, T3, fun H2 x2 T2 => ⟨_, rfl, _, rfl, tell2 (ask (e0.trans (e4.trans x2))) fun H3 P2 s3 f3 dp2 => ?_⟩⟩
        have y3 := x2.trans (sameN s3)
        have eT3 := y3 _ _ eT (fun _ z => nomatch z)
        refine ⟨Tl, _, _, rfl, rfl, eT3, lt3 (by show 1 ≤ 3; decide), ?_⟩
        have T4 := tabs_up (o := .lst ([V.ref P1] ++ [V.ref P2])) (tabs_same T2 s3) eT3
        have e5 : LamX.ExtN H0 (upd H3 Tl (.lst ([V.ref P1] ++ [V.ref P2]))) := fun b o e n => by
          rw [upd_ne (fTl b o e n)]
          exact y3 _ _ (e4 b o e n) n
        have eT5 : (upd H3 Tl (.lst ([V.ref P1] ++ [V.ref P2]))) Tl = some (.lst [V.ref P1, V.ref P2]) := upd_same
        have cc : LamX.ExtN (cutH Tl H3) (cutH Tl (upd H3 Tl (.lst ([V.ref P1] ++ [V.ref P2])))) := fun b o e n => by
          have nb : b ≠ Tl := fun z => by rw [z, show cutH Tl H3 Tl = none from if_pos rfl] at e; cases e
          rw [cutH_ne nb] at e ⊢
          rw [upd_ne nb]
          exact e
        have dd1 := Dp.extN cc (Dp.extN (ExtN.cut y3) dc1)
        have dd2 := Dp.extN cc (Dp.cutL eT3 (noL_o2 d z) dp2)
        clear dc1 dp2 cc eT3 y3 x2 T3 e4 eT T2 s3 f3
        generalize upd H3 Tl (.lst ([V.ref P1] ++ [V.ref P2])) = H5 at T4 e5 eT5 dd1 dd2 ⊢
        clear H2 H3 H4
        -- the third call
        refine ⟨_, rfl, .inl ⟨rfl, _, SqL.of eT5⟩, T4, fun H2 x2 T2 => ⟨_, rfl, _, rfl, _, rfl, tell3 (ask (e0.trans (e5.trans x2))) (hx.extN (e0.trans (e5.trans x2))) Ru sr fun H3 P3 s3 f3 dp3 => ?_⟩⟩
        have y3 := x2.trans (sameN s3)
        have eT3 := y3 _ _ eT5 (fun _ z => nomatch z)
        refine ⟨Tl, _, _, rfl, rfl, eT3, lt3 (by show 2 ≤ 3; decide), ?_⟩
        have T6 := tabs_up (o := .lst ([V.ref P1, V.ref P2] ++ [V.ref P3])) (tabs_same T2 s3) eT3
        have e6 : LamX.ExtN H0 (upd H3 Tl (.lst ([V.ref P1, V.ref P2] ++ [V.ref P3]))) := fun b o e n => by
          rw [upd_ne (fTl b o e n)]
          exact y3 _ _ (e5 b o e n) n
        have eT6 : (upd H3 Tl (.lst ([V.ref P1, V.ref P2] ++ [V.ref P3]))) Tl = some (.lst [V.ref P1, V.ref P2, V.ref P3]) := upd_same
        have cu : LamX.ExtN (cutH Tl H3) (upd H3 Tl (.lst ([V.ref P1, V.ref P2] ++ [V.ref P3]))) := ExtN.cutUp
        have f1 := Dp.extN cu (Dp.extN (ExtN.cut y3) dd1)
        have f2 := Dp.extN cu (Dp.extN (ExtN.cut y3) dd2)
        have f3 := Dp.extN cu (Dp.cutL eT3 (noL_o3 u1 u2 u3 d z) dp3)
        clear dd1 dd2 dp3 cu eT3 y3 x2 T4 e5 eT5 T2 s3
        generalize upd H3 Tl (.lst ([V.ref P1, V.ref P2] ++ [V.ref P3])) = H7 at T6 e6 eT6 f1 f2 f3 ⊢
        have dT : Dp K H7 (.ref Tl) (.list [o1 d z, o2 d z, o3 u1 u2 u3 d z]) := .lst (SqL.of eT6) (.cons f1 (.cons f2 (.cons f3 .nil)))
        refine ⟨_, rfl, .ref Tl, _, rfl, .of dT, sw.s, swd, swl, ?_⟩
        refine ⟨_, rfl, .ref Du, _, rfl, .of (Dp.extN e6 dD), sw.s, swd, swl, rfl, _, rfl, ?_⟩
        rw [decide_eq_true rfl]
        refine iteF ⟨_, rfl, v, d, rfl, Dv.extN (e0.trans e6) hd, ok.s, ok.dp, ok.l, _, rfl, rfl, _, rfl, ?_⟩
        rw [decide_eq_true rfl]
        exact iteF ⟨⟨_, _, rfl⟩, e6, T6⟩
      · rintro σ H1 ⟨⟨o8, o9, rfl⟩, e1, T1⟩
        refine ⟨_, rfl, rfl, _, rfl, ?_⟩
        rcases hW with ⟨rfl, eW⟩ | ⟨Wd, st, rfl, eW, hWd⟩
        · rw [decide_eq_true rfl]
          exact iteT (q _ (e0.trans e1) T1)
        · rw [decide_eq_false (fun z => nomatch z)]
          obtain ⟨ds, ed, hr1, bk1, bk2, bk3, lds⟩ := back_row ok hs lz eW
          have okq := runD_okq hs hr1
          refine iteF ⟨_, rfl, _, rfl, z, v, d, rfl, ask (e0.trans e1), fun _ n _ => (n ds st ed hr1).elim, fun H2 bp ds2 st2 ee1 ee2 s2 fb db => ?_⟩
          obtain rfl : ds = ds2 := PyData.tuple.inj (ed.symm.trans ee1)
          obtain rfl : st = st2 := Option.some.inj (hr1.symm.trans ee2)
          have hdp : Dp K H v (.tuple ds) := by
            rw [ed] at hd
            cases hd with
            | of h => exact h
          have e2 := e0.trans (e1.trans (sameN s2))
          have x2 := e1.trans (sameN s2)
          have hW2 := x2 _ _ hWd (fun _ z => nomatch z)
          obtain ⟨ws, hws⟩ := wrds_last (sgs z) st
          have l2 := runD_len hr1
          have eone := endS_one (st := st) (sg := sgs z) fun y hy => sgs_one hy
          have swd' : sgs (wd (endS (sgs z) st)) = endS (sgs z) st := sgs_wd eone
          have lwd : (wd (endS (sgs z) st)).length ≤ 1000 := by
            rw [← sgs_length, swd']
            have := endS_len (runD_ok hs hr1)
            rw [sgs_length] at this
            omega
          have lastw : atI ((wrds (sgs z) st).map V.str) (-1) = some (V.str (wd (endS (sgs z) st))) := atI_neg1 (ws := ws.map V.str) (by rw [hws, List.map_append]; rfl)
          have ask2 : Ask K H2 (wd (endS (sgs z) st)) (.ref bp) (.tuple (backD st)) := ⟨.of db, okD_back okq (by omega), lwd, wB_ofs (by rw [swd']; exact endS_sg hs hr1)⟩
          have bk1' : runD (backD st) (sgs (wd (endS (sgs z) st))) = some (bkS st) := by rw [swd']; exact bk1
          refine ⟨_, rfl, 1, rfl, Wd, _, (-1 : Int), _, rfl, rfl, SqL.of hW2, lastw, _, rfl, _, _, _, rfl, ask2, fun _ n _ => (n _ _ rfl bk1').elim, fun H3 ds3 st3 g1 g2 s3 => ?_⟩
          obtain rfl := PyData.tuple.inj g1
          obtain rfl : bkS st = st3 := Option.some.inj (bk1'.symm.trans g2)
          rw [swd', bk2, wd_sgs]
          refine ⟨_, rfl, rfl, _, rfl, ?_⟩
          rw [decide_eq_true rfl]
          refine iteT ⟨_, rfl, 1, rfl, Wd, _, (-1 : Int), _, rfl, rfl, SqL.of (s3 _ _ hW2), lastw, _, rfl, _, _, _, rfl, ⟨Dv.keep s3 ask2.v, ask2.ok, ask2.l, ask2.w⟩, fun _ n _ => (n _ _ rfl bk1').elim, fun H4 bp2 ds4 st4 g3 g4 s4 f4 d4 => ?_⟩
          obtain rfl := PyData.tuple.inj g3
          obtain rfl : bkS st = st4 := Option.some.inj (bk1'.symm.trans g4)
          rw [bk3] at d4
          have shr : SeqAt.shaped (.tuple ds) = true := by
            have := shaped_row (okq_bk (okq_bk okq))
            rw [← backD_eq, bk3] at this
            exact this
          refine ⟨_, rfl, .tuple ds, .tuple ds, d4, Dp.extN (e2.trans (sameN (s3.trans s4))) hdp, shr, shr, ?_⟩
          rw [SeqAt.eqv_refl _ (SeqAt.canLay_of_shaped shr)]
          exact q _ (e2.trans (sameN (s3.trans s4))) (tabs_same (tabs_same (tabs_same T1 s2) s3) s4)
    refine ⟨_, pss_cons (ps_par (i := 4) (j := 5) rfl scRR.nd rfl rfl (by decide) rfl rfl (pa_cons (pe_call G1 (hr.mono (by decide)) (by rfl) m1 k1 b1 .nil pass0 (pa_cons (pv 2) (pa_cons (pv 3) pa_nil))) (pa_cons (pe_callB (call_reprV gd hu) (by rfl) mr (by decide +kernel) (pa_cons (pv 3) pa_nil)) pa_nil)) (by rfl))
      (pss_cons (ps_if (pt_cmpR op_isN (pv 4) pe_non (nomark _)) (pss_one (ps_set (i := 6) scRR.nd rfl (.inl rfl) (pe_op op_rep (pe_lst (pa_cons (pe_tup (pa_cons pe_str (pa_cons pe_non pa_nil))) pa_nil)) pe_int)))
        (pss_cons (ps_set (i := 7) scRR.nd rfl (.inl rfl) (pe_call G2 (hr.mono (by decide)) (by rfl) m2 k2 b2 .nil pass0 (pa_cons (pv 1) (pa_cons (pv 4) (pa_cons (pv 3) pa_nil)))))
        (pss_cons (ps_set (i := 6) scRR.nd rfl (.inl rfl) (pe_lst (pa_cons (pe_tup (pa_cons pe_str (pa_cons (pe_ix ix_list (pv 4) (pe_un un_neg pe_int) (fun _ _ => rfl)) pa_nil))) (pa_cons (pe_tup (pa_cons pe_str (pa_cons (pe_call G3 (hr.mono (by decide)) (by rfl) m3 k3 b3 .nil pass0 (pa_cons (pv 4) (pa_cons (pv 3) pa_nil))) pa_nil))) pa_nil))))
        (pss_one (ps_expr (pe_bm PySem.F.plainAttrs_list PySem.F.slot_list_append PySem.F.type_list_append mt_append (pv 6) (pa_cons (pe_ifExp (pt_cmpR op_isN (pv 7) pe_non (nomark _)) (pe_tup (pa_cons pe_str (pa_cons pe_non pa_nil))) (pe_tup (pa_cons pe_str (pa_cons (pv 7) pa_nil)))) pa_nil)))))))
      tail), ?_⟩
    refine ⟨_, rfl, _, rfl, z, v, d, rfl, hd, ok.len, lz, hs, fun H1 n s1 => ?_, fun H1 Wd ds st e1 e2 s1 fW eW => ?_⟩
    · have eN := noSt n
      refine ⟨_, rfl, v, d, rfl, Dv.keep s1 hd, ok.s, ok.dp, ok.l, _, _, rfl, ?_⟩
      refine ⟨_, rfl, rfl, _, rfl, ?_⟩
      rw [decide_eq_true rfl]
      refine iteT ⟨n2_line, fun p hp => ⟨n1, fun l hl => ?_⟩⟩
      have k1 := Same.new (o := .tup [V.str "change", V.non]) hp
      have ep : (upd H1 p (.tup [V.str "change", V.non])) p = some (.tup [V.str "change", V.non]) := upd_same
      generalize upd H1 p (.tup [V.str "change", V.non]) = H2 at k1 ep hl ⊢
      have k2 := Same.new (o := .lst [V.ref p]) hl
      have el : (upd H2 l (.lst [V.ref p])) l = some (.lst [V.ref p]) := upd_same
      have ep2 := k2 _ _ ep
      generalize upd H2 l (.lst [V.ref p]) = H3 at k2 el ep2 ⊢
      refine ⟨l, 3, _, rfl, rfl, el, by decide, by decide, (by show 1 * 3 ≤ sizeLine; decide), fun Du hDu => ?_⟩
      have k3 := Same.new (o := .lst [V.ref p, V.ref p, V.ref p]) hDu
      have s4 := s1.trans (k1.trans (k2.trans k3))
      have dp : Dp K (upd H3 Du (.lst [V.ref p, V.ref p, V.ref p])) (.ref p) chgO := .tup (SqT.of (k3 _ _ ep2)) (.cons (.str _) (.cons .non .nil))
      refine ⟨.non, Du, _, _, _, _, rfl, sameN s4, tabs_same hT s4, ?_, .inl ⟨rfl, eN⟩, q⟩
      have e1 : o1 d z = chgO := by unfold o1; rw [eN]
      have e2 : o2 d z = chgO := by unfold o2; rw [eN]
      have e3 : o3 u1 u2 u3 d z = chgO := by unfold o3; rw [eN]
      rw [e1, e2, e3]
      exact .lst (SqL.of upd_same) (.cons dp (.cons dp (.cons dp .nil)))
    · have eN := isSt e1 e2
      have hdp : Dp K H v (.tuple ds) := by
        rw [e1] at hd
        cases hd with
        | of h => exact h
      have lds := (ok.len ds e1).1
      obtain ⟨ws, hws⟩ := wrds_last (sgs z) st
      have lastw : atI ((wrds (sgs z) st).map V.str) (-1) = some (V.str (wd (endS (sgs z) st))) := atI_neg1 (ws := ws.map V.str) (by rw [hws, List.map_append]; rfl)
      refine ⟨_, rfl, v, d, rfl, Dv.keep s1 hd, ok.s, ok.dp, ok.l, _, _, rfl, ?_⟩
      refine ⟨_, rfl, rfl, _, rfl, ?_⟩
      rw [decide_eq_false (fun z => nomatch z)]
      refine iteF ⟨_, rfl, _, rfl, _, rfl, L, a, b, c', Wd, t1, t2, t3, v, ds, st, z, rfl, r.same s1, R, eW, Dp.keep s1 hdp, e2, lds, lz, hs, fun H2 s2 => ?_⟩
      have s12 := s1.trans s2
      refine ⟨_, rfl, 1, rfl, Wd, _, (-1 : Int), _, rfl, rfl, SqL.of (s2 _ _ eW), lastw, n2_line, fun pa hpa => ?_⟩
      have k1 := Same.new (o := .tup [V.str "told", V.str (wd (endS (sgs z) st))]) hpa
      have epa : (upd H2 pa (.tup [V.str "told", V.str (wd (endS (sgs z) st))])) pa = some (.tup [V.str "told", V.str (wd (endS (sgs z) st))]) := upd_same
      generalize upd H2 pa (.tup [V.str "told", V.str (wd (endS (sgs z) st))]) = H3 at k1 epa ⊢
      have s13 := s12.trans k1
      refine ⟨_, rfl, _, rfl, Wd, v, ds, st, z, rfl, k1 _ _ (s2 _ _ eW), Dp.keep s13 hdp, e2, lds, lz, hs, fun H4 bp s4 fb db => ⟨n2_line, fun pb hpb => ?_⟩⟩
      have dpb := dp_new (x := "told") hpb db
      have k2 := Same.new (o := .tup [V.str "told", V.ref bp]) hpb
      generalize upd H4 pb (.tup [V.str "told", V.ref bp]) = H5 at k2 dpb ⊢
      refine ⟨n2_line, fun Du hDu => ?_⟩
      have k3 := Same.new (o := .lst [V.ref pa, V.ref pb]) hDu
      have eDu : (upd H5 Du (.lst [V.ref pa, V.ref pb])) Du = some (.lst [V.ref pa, V.ref pb]) := upd_same
      have nDu : H Du = none := s13.free (s4.free (k2.free hDu))
      have nWd : H1 Wd ≠ none := by rw [eW]; exact fun z => nomatch z
      have cD : ∀ {b : Addr} {o : HO}, H5 b = some o → b ≠ Du := fun {b o} e z => by rw [z, hDu] at e; cases e
      have dpa5 : Dp K H5 (.ref pa) (o1 d z) := by
        unfold o1
        rw [eN]
        exact .tup (SqT.of (k2 _ _ (s4 _ _ epa))) (.cons (.str _) (.cons (.str _) .nil))
      have dpb5 : Dp K H5 (.ref pb) (o2 d z) := by
        unfold o2
        rw [eN]
        exact dpb
      have s15 : Same H H5 := s13.trans (s4.trans k2)
      have eW5 : H5 Wd = some (.lst ((wrds (sgs z) st).map V.str)) := k2 _ _ (s4 _ _ (k1 _ _ (s2 _ _ eW)))
      refine ⟨_, rfl, .inl ⟨rfl, _, SqL.of eDu⟩, _, rfl, rfl, _, rfl, ?_⟩
      have fin : ∀ (pc : Addr) (xs : List V) (H6 : Hp), H6 = upd H5 Du (.lst [V.ref pa, V.ref pb]) → H6 pc = none → Dp K (upd H6 pc (.tup xs)) (.ref pc) (o3 u1 u2 u3 d z) → NoL (o3 u1 u2 u3 d z) → (upd H6 pc (.tup xs)) Du = some (.lst [V.ref pa, V.ref pb]) ∧
          LamX.ExtN H (upd (upd H6 pc (.tup xs)) Du (.lst ([V.ref pa, V.ref pb] ++ [V.ref pc]))) ∧ LamX.Tabs [(Pt, qLam)] (upd (upd H6 pc (.tup xs)) Du (.lst ([V.ref pa, V.ref pb] ++ [V.ref pc]))) ∧ Dp K (upd (upd H6 pc (.tup xs)) Du (.lst ([V.ref pa, V.ref pb] ++ [V.ref pc]))) (.ref Du) (.list [o1 d z, o2 d z, o3 u1 u2 u3 d z]) ∧
          WordsC (upd (upd H6 pc (.tup xs)) Du (.lst ([V.ref pa, V.ref pb] ++ [V.ref pc]))) (.ref Wd) d z := fun pc xs H6 eH6 hpc d3 nl => by
        have k4 := Same.new (o := .tup xs) hpc
        have eD6 : (upd H6 pc (.tup xs)) Du = some (.lst [V.ref pa, V.ref pb]) := k4 _ _ (by rw [eH6]; exact eDu)
        have x5 : LamX.ExtN H5 (upd (upd H6 pc (.tup xs)) Du (.lst ([V.ref pa, V.ref pb] ++ [V.ref pc]))) := fun b o e _ => by
          rw [upd_ne (cD e)]
          exact k4 _ _ (by rw [eH6]; exact k3 _ _ e)
        refine ⟨eD6, (sameN s15).trans x5, tabs_up (tabs_new (by rw [eH6]; exact tabs_new (tabs_same hT s15) hDu) hpc) eD6, ?_, .inr ⟨Wd, st, rfl, eN, x5 _ _ eW5 (fun _ z => nomatch z)⟩⟩
        exact .lst (SqL.of upd_same) (.cons (Dp.extN x5 dpa5) (.cons (Dp.extN x5 dpb5) (.cons (Dp.extN ExtN.cutUp (Dp.cutL eD6 nl d3)) .nil)))
      cases ep : prc t1 t2 t3 st with
      | none =>
        have e3 : o3 u1 u2 u3 d z = opO := by
          unfold o3
          rw [eN]
          show (match prc u1 u2 u3 st with | none => opO | some i => tellO (.int i)) = opO
          rw [prc_perm R p1 p2 p3, ep]
        show (if decide (V.non = V.non) = true then _ else _)
        rw [decide_eq_true rfl]
        refine iteT ⟨n2_line, fun pc hpc => ?_⟩
        obtain ⟨g1, g2, g3, g4, g5⟩ := fin pc [V.str "operation", V.non] _ rfl hpc (by rw [e3]; exact .tup (SqT.of upd_same) (.cons (.str _) (.cons .non .nil))) (noL_o3 _ _ _ _ _)
        exact ⟨Du, _, _, rfl, rfl, g1, lt3 (by show 2 ≤ 3; decide), .ref Wd, Du, _, _, _, _, rfl, g2, g3, g4, g5, q⟩
      | some i =>
        have e3 : o3 u1 u2 u3 d z = tellO (.int i) := by
          unfold o3
          rw [eN]
          show (match prc u1 u2 u3 st with | none => opO | some i => tellO (.int i)) = tellO (.int i)
          rw [prc_perm R p1 p2 p3, ep]
        show (if decide (V.int i = V.non) = true then _ else _)
        rw [decide_eq_false (fun z => nomatch z)]
        refine iteF ⟨_, rfl, n2_line, fun pc hpc => ?_⟩
        obtain ⟨g1, g2, g3, g4, g5⟩ := fin pc [V.str "told", V.int i] _ rfl hpc (by rw [e3]; exact .tup (SqT.of upd_same) (.cons (.str _) (.cons (.int i) .nil))) (noL_o3 _ _ _ _ _)
        exact ⟨Du, _, _, rfl, rfl, g1, lt3 (by show 2 ≤ 3; decide), .ref Wd, Du, _, _, _, _, rfl, g2, g3, g4, g5, q⟩
end
end Mk

set_option Elab.async false
set_option linter.all false
set_option maxRecDepth 100000
set_option maxHeartbeats 2000000
/-! values that stand in the place of a change -/
namespace Mk
open PySem PySem.Spec L2 PyProof.Rows

abbrev sStrange : Stmt := top 56
/-! displays of data -/
theorem pe_weak {X : Cx} {e : Expr} {t t' : TE} (p : PE X e t) (w : ∀ σ H Q, t' σ H Q → t σ H Q) : PE X e t' := ⟨fun pins s σ H Q I h => p.run pins s σ H Q I (w σ H Q h)⟩
theorem pa_weak {X : Cx} {es : List Expr} {t t' : TA} (p : PA X es t) (w : ∀ σ H Q, t' σ H Q → t σ H Q) : PA X es t' := ⟨fun pos pins s σ H Q I h => p.run pos pins s σ H Q I (w σ H Q h)⟩
theorem Same.cut {p : Addr} {H H' : Hp} (k : Same H H') : Same (cutH p H) (cutH p H') := fun b o e => by
  by_cases h : b = p
  · rw [h, show cutH p H p = none from if_pos rfl] at e
    cases e
  · rw [cutH_ne h] at e ⊢
    exact k b o e
def tD (K : PySem.W.Frag) (p : Addr) (φ : L2.St → Prop) (d : PyData) : TE := fun σ H Q => φ σ ∧ H p ≠ none ∧ ∀ H' v, Same H H' → Dp K (cutH p H') v d → Q v H'
def tDs (K : PySem.W.Frag) (p : Addr) (φ : L2.St → Prop) (ds : List PyData) : TA := fun σ H R => φ σ ∧ H p ≠ none ∧ ∀ H' vs, Same H H' → DpAll K (cutH p H') vs ds → R vs H'
/-- a list that is written, its items told -/
def tLs (K : PySem.W.Frag) (p : Addr) (φ : L2.St → Prop) (ds : List PyData) : TE := fun σ H Q => φ σ ∧ H p ≠ none ∧ ∀ H' L vs, Same H H' → H L = none → H' L = some (.lst vs) → DpAll K (cutH p H') vs ds → Q (.ref L) H'
section
variable {X : Cx} {p : Addr} {φ : L2.St → Prop} {d : PyData} {ds : List PyData} {e : Expr} {es : List Expr} {pos : Pos}
theorem peD {v : V} {t : TE} (h : PE X e t) (w : ∀ σ H Q, φ σ → Q v H → t σ H Q) (hd : ∀ H, Dp X.K H v d) : PE X e (tD X.K p φ d) := pe_weak h fun σ H Q ⟨a, _, q⟩ => w σ H Q a (q H v (Same.refl H) (hd _))
theorem dStr {x : Str} {j : Nat} : PE X (.Constant (.str x) j pos) (tD X.K p φ (.str x)) := peD pe_str (fun _ _ _ _ q => q) fun _ => .str x
theorem dInt {i : Int} {j : Nat} : PE X (.Constant (.int i) j pos) (tD X.K p φ (.int i)) := peD pe_int (fun _ _ _ _ q => q) fun _ => .int i
theorem dBl {b : Bool} {j : Nat} : PE X (.Constant (.bool b) j pos) (tD X.K p φ (.bool b)) := peD pe_bl (fun _ _ _ _ q => q) fun _ => .bl b
theorem dNon {j : Nat} : PE X (.Constant .none j pos) (tD X.K p φ .none) := peD pe_non (fun _ _ _ _ q => q) fun _ => .non
theorem paD_nil : PA X [] (tDs X.K p φ []) := pa_weak pa_nil fun σ H Q ⟨a, _, q⟩ => q H [] (Same.refl H) .nil
theorem ne_keep {H H' : Hp} (k : Same H H') (n : H p ≠ none) : H' p ≠ none := fun z => by
  cases h : H p with
  | none => exact n h
  | some o => rw [k _ _ h] at z; cases z
theorem paD_cons {x : Expr} (h : PE X x (tD X.K p φ d)) (hs : PA X es (tDs X.K p φ ds)) (hstar : starEach (x :: es) X.env = (false, eval x X.env) :: starEach es X.env := by rfl) : PA X (x :: es) (tDs X.K p φ (d :: ds)) := by
  refine pa_weak (pa_cons h hs hstar) fun σ H Q ⟨a, n, q⟩ => ⟨a, n, fun H1 v s1 d1 => ⟨a, ne_keep s1 n, fun H2 vs s2 d2 => q H2 (v :: vs) (s1.trans s2) (.cons (Dp.keep (Same.cut s2) d1) d2)⟩⟩
theorem cut_new {H : Hp} {a : Addr} {o : HO} (ha : H a = none) (n : H p ≠ none) : (cutH p (upd H a o)) a = some o := by
  have ap : a ≠ p := fun z => n (by rw [← z]; exact ha)
  rw [cutH_ne ap]
  exact upd_same
theorem dTup {x1} (h : PA X es (tDs X.K p φ ds)) (l : ds.length ≤ 1000 := by exact Nat.le_of_ble_eq_true rfl) : PE X (.Tuple es x1 pos) (tD X.K p φ (.tuple ds)) := by
  refine pe_weak (pe_tup h) fun σ H Q ⟨a, n, q⟩ => ⟨a, n, fun H1 vs s1 d1 => ⟨?_, fun b hb => ?_⟩⟩
  · rw [dpall2 d1, sizeLine_eq]
    omega
  · have k := Same.new (o := .tup vs) hb
    exact q _ _ (s1.trans k) (.tup (SqT.of (cut_new hb (ne_keep s1 n))) (DpAll.keep (Same.cut k) d1))
theorem dLst (h : PA X es (tDs X.K p φ ds)) (l : ds.length ≤ 1000 := by exact Nat.le_of_ble_eq_true rfl) : PE X (.List es pos) (tD X.K p φ (.list ds)) := by
  refine pe_weak (pe_lst h) fun σ H Q ⟨a, n, q⟩ => ⟨a, n, fun H1 vs s1 d1 => ⟨?_, fun b hb => ?_⟩⟩
  · rw [dpall2 d1, sizeLine_eq]
    omega
  · have k := Same.new (o := .lst vs) hb
    exact q _ _ (s1.trans k) (.lst (SqL.of (cut_new hb (ne_keep s1 n))) (DpAll.keep (Same.cut k) d1))
theorem dLs (h : PA X es (tDs X.K p φ ds)) (l : ds.length ≤ 1000 := by exact Nat.le_of_ble_eq_true rfl) : PE X (.List es pos) (tLs X.K p φ ds) := by
  refine pe_weak (pe_lst h) fun σ H Q ⟨a, n, q⟩ => ⟨a, n, fun H1 vs s1 d1 => ⟨?_, fun b hb => ?_⟩⟩
  · rw [dpall2 d1, sizeLine_eq]
    omega
  · have k := Same.new (o := .lst vs) hb
    exact q _ b vs (s1.trans k) (s1.free hb) upd_same (DpAll.keep (Same.cut k) d1)
end
theorem okE_drn0 {d : PyData} (h : Drn d) : ∃ q, d = chOf q ∧ Okq 1000 q := by
  obtain ⟨sg, hs, l, c⟩ := h
  have := okq_step hs c
  exact ⟨_, (chOf_step hs c).symm, Nat.le_trans this.i l, this.a, this.b⟩
/-! small values -/
structure Sml (y : PyData) : Prop where
  sh : SeqAt.shaped y = true
  ln : ∀ z, y = .str z → z.length ≤ 100000
  sw : Shw y 120 2
structure OkE (d : PyData) : Prop where
  c : OkC d
  w : Shw d 1000 4
  y : d.canLay0 = true
theorem okE_drn {d : PyData} (h : OkC d ∧ Drn d) : OkE d := by
  obtain ⟨q, rfl, o⟩ := okE_drn0 h.2
  exact ⟨h.1, (shw_ch o (by decide)).mono (by decide) (by decide), (lay_ch o).1⟩
inductive Al (F : PyData → Prop) : List PyData → Prop
  | nil : Al F []
  | cons {d : PyData} {ds : List PyData} : F d → Al F ds → Al F (d :: ds)
theorem Al.mem {F : PyData → Prop} {ds : List PyData} (h : Al F ds) : ∀ d ∈ ds, F d := by
  induction h with
  | nil => intro d hd; cases hd
  | cons a _ ih =>
    intro d hd
    rcases List.mem_cons.mp hd with rfl | hd
    · exact a
    · exact ih d hd
theorem Al.append {F : PyData → Prop} {ds es : List PyData} (h : Al F ds) (k : Al F es) : Al F (ds ++ es) := by
  induction h with
  | nil => exact k
  | cons a _ ih => exact .cons a ih
theorem smS {z : Str} (h : PyData.strOk z = true) (l : z.length ≤ 20) (r : (reprText z).length ≤ 120) : Sml (.str z) := by
  refine ⟨by simp [SeqAt.shaped, PyData.canLay0, PyData.depth, h], fun y e => ?_, (shw_str r).mono (Nat.le_refl _) (by decide)⟩
  cases e
  omega
theorem smI {i : Int} (h0 : -1 ≤ i) (h1 : i ≤ 2000) : Sml (.int i) := by
  refine ⟨by simp [SeqAt.shaped, PyData.canLay0, PyData.depth], fun y e => (nomatch e), ?_⟩
  by_cases h : i = -1
  · subst h
    exact ⟨by decide +kernel, by decide +kernel, by decide +kernel, by decide +kernel⟩
  · obtain ⟨n, rfl⟩ : ∃ n : Nat, i = (n : Int) := ⟨i.toNat, by omega⟩
    exact (shw_intN (by omega)).mono (by decide) (by decide)
theorem smN : Sml .none := ⟨by decide +kernel, fun y e => (nomatch e), shw_none.mono (by decide) (by decide)⟩
theorem smB (b : Bool) : Sml (.bool b) := ⟨by cases b <;> decide +kernel, fun y e => (nomatch e), (shw_bool b).mono (by decide) (by decide)⟩
theorem smBig : Sml (.int (10 ^ 99)) := ⟨by decide +kernel, fun y e => (nomatch e), ⟨by decide +kernel, by decide +kernel, by decide +kernel, by decide +kernel⟩⟩
theorem smPre {z : Str} (hs : ∀ x ∈ sgs z, sgB x = true) : Sml (.str (pre z 1)) := by
  have e := sgs_pre z 1
  cases h : sgs z with
  | nil =>
    rw [h] at e
    have : pre z (1 : Nat) = "" := sgs_inj e
    have e2 : pre z 1 = "" := this
    rw [e2]
    exact smS (by decide +kernel) (by decide) (by decide +kernel)
  | cons x l =>
    rw [h] at e hs
    have hx := hs x List.mem_cons_self
    have : pre z (1 : Nat) = x := sgs_inj (e.trans (mk_len (sgB_len hx)).symm)
    have e2 : pre z 1 = x := this
    rw [e2]
    have l1 := sgB_len hx
    exact smS (sgB_ok hx) (by omega) (Nat.le_trans (by have := (shw_sign hx).l; simpa only [PyData.shown] using this) (by decide))
theorem eT {es : List PyData} (h : Al Sml es) (n : es.length ≤ 3 := by exact Nat.le_of_ble_eq_true rfl) : OkE (.tuple es) := by
  refine ⟨fun es' e => ?_, (shw_tuple (n := 120) (k := 2) fun y hy => (h.mem y hy).sw).mono (by omega) (by decide), ?_⟩
  · cases e
    exact ⟨fun y hy => (h.mem y hy).sh, fun z hz => (h.mem _ hz).ln z rfl⟩
  · simp only [PyData.canLay0]
    exact canLay_all fun y hy => SeqAt.canLay_of_shaped (h.mem y hy).sh
theorem eL {es : List PyData} (h : Al Sml es) (n : es.length ≤ 3 := by exact Nat.le_of_ble_eq_true rfl) : OkE (.list es) := ⟨fun es' e => (nomatch e), (shw_list (n := 120) (k := 2) fun y hy => (h.mem y hy).sw).mono (by omega) (by decide), by simp only [PyData.canLay0]; exact canLay_all fun y hy => SeqAt.canLay_of_shaped (h.mem y hy).sh⟩
theorem eO {y : PyData} (h : Sml y) (n : ∀ es, y ≠ .tuple es) : OkE y := ⟨fun es e => (n es e).elim, h.sw.mono (by decide) (by decide), SeqAt.canLay_of_shaped h.sh⟩
theorem al1 {F : PyData → Prop} {a : PyData} (h : F a) : Al F [a] := .cons h .nil
theorem al2 {F : PyData → Prop} {a b : PyData} (h : F a) (h2 : F b) : Al F [a, b] := .cons h (al1 h2)
theorem al3 {F : PyData → Prop} {a b c : PyData} (h : F a) (h2 : F b) (h3 : F c) : Al F [a, b, c] := .cons h (al2 h2 h3)
theorem smP : Sml (.str "put") := smS (by decide +kernel) (by decide) (by decide +kernel)
theorem smO : Sml (.str "out") := smS (by decide +kernel) (by decide) (by decide +kernel)
theorem smW : Sml (.str "swap") := smS (by decide +kernel) (by decide) (by decide +kernel)
theorem smA : Sml (.str "a") := smS (by decide +kernel) (by decide) (by decide +kernel)
theorem sm0 : Sml (.int 0) := smI (by decide) (by decide)
theorem smM : Sml (.int (-1)) := smI (by decide) (by decide)
def sL1 (z : Str) : List PyData := [.tuple [.str "put", .int ((z.length : Int) + 1), .str "a"], .tuple [.str "out", .int z.length], .tuple [.str "swap", .int 0, .str (pre z 1)], .tuple [.str "put", .int (-1), .str "a"], .tuple [.str "put", .bool true, .str "a"]]
def sL2 : List PyData := [.tuple [.str "put", .int 0, .str "ab"], .tuple [.str "put", .int 0, .str ""], .tuple [.str "put", .int 0, .str "f"], .tuple [.str "out", .int 0, .str "a"], .tuple [.str "out"], .tuple [.str "swap", .int 0], .tuple []]
def sL3 : List PyData := [.tuple [.str "move", .int 0, .str "a"], .list [.str "out", .int 0], .none, .str "out", .tuple [.str "put", .none, .str "a"], .tuple [.str "put", .str "0", .str "a"], .tuple [.str "out", .bool false]]
def sL4 (z : Str) : List PyData := [.tuple [.str "put", .int 0, .none], .tuple [.str "put", .int (10 ^ 99), .str "a"], .tuple [.str "swap", .int z.length, .str "a"], .tuple [.str "swap", .int (-1), .str "b"]]
def sL5 (z : Str) : List PyData := [.tuple [.tuple [.str "out", .int 0]], .tuple [.str "put", .int z.length, .str "e"], .tuple [.str "out", .int ((z.length : Int) - 1)], .tuple [.str "swap", .int ((z.length : Int) - 1), .str "d"], .tuple [.str "put", .int 0, .list [.str "a"]]]
def sL6 : List PyData := [.tuple [.none, .int 0, .str "a"], .tuple [.str "put", .tuple [.int 0], .str "a"], .tuple [.str "out", .int 0], .tuple [.str "put", .int 0, .str "A"], .list [.str "put", .int 0, .str "a"]]
section
variable {z : Str}
theorem smT {es : List PyData} (h : Al Sml es) (lay : ∀ y ∈ es, y.canLay0 = true ∧ y.depth = 0 ∧ Shw y 10 0) (n : es.length ≤ 2) : Sml (.tuple es) := by
  refine ⟨?_, fun y e => (nomatch e), (shw_tuple (n := 10) (k := 0) fun y hy => (lay y hy).2.2).mono (by omega) (by decide)⟩
  unfold SeqAt.shaped
  rw [Bool.and_eq_true]
  refine ⟨?_, decide_eq_true ?_⟩
  · simp only [PyData.canLay0]
    exact canLay_all fun y hy => (lay y hy).1
  · have := depth_all (k := 0) (xs := es) fun y hy => Nat.le_of_eq (lay y hy).2.1
    simp only [PyData.depth]
    omega
theorem ok_L1 (hs : ∀ x ∈ sgs z, sgB x = true) (l : z.length ≤ 1000) : Al OkE (sL1 z) :=
  .cons (eT (al3 smP (smI (by omega) (by omega)) smA)) (.cons (eT (al2 smO (smI (by omega) (by omega)))) (.cons (eT (al3 smW sm0 (smPre hs))) (.cons (eT (al3 smP smM smA)) (.cons (eT (al3 smP (smB true) smA)) .nil))))
theorem ok_L2 : Al OkE sL2 :=
  .cons (eT (al3 smP sm0 (smS (by decide +kernel) (by decide) (by decide +kernel)))) (.cons (eT (al3 smP sm0 (smS (by decide +kernel) (by decide) (by decide +kernel)))) (.cons (eT (al3 smP sm0 (smS (by decide +kernel) (by decide) (by decide +kernel)))) (.cons (eT (al3 smO sm0 smA))
    (.cons (eT (al1 smO)) (.cons (eT (al2 smW sm0)) (.cons (eT .nil) .nil))))))
theorem ok_L3 : Al OkE sL3 :=
  .cons (eT (al3 (smS (by decide +kernel) (by decide) (by decide +kernel)) sm0 smA)) (.cons (eL (al2 smO sm0)) (.cons (eO smN fun _ e => (nomatch e)) (.cons (eO smO fun _ e => (nomatch e))
    (.cons (eT (al3 smP smN smA)) (.cons (eT (al3 smP (smS (by decide +kernel) (by decide) (by decide +kernel)) smA)) (.cons (eT (al2 smO (smB false))) .nil))))))
theorem ok_L4 (l : z.length ≤ 1000) : Al OkE (sL4 z) :=
  .cons (eT (al3 smP sm0 smN)) (.cons (eT (al3 smP smBig smA)) (.cons (eT (al3 smW (smI (by omega) (by omega)) smA)) (.cons (eT (al3 smW smM (smS (by decide +kernel) (by decide) (by decide +kernel)))) .nil)))
theorem ok_L5 (l : z.length ≤ 1000) : Al OkE (sL5 z) :=
  .cons (eT (al1 ⟨by decide +kernel, fun y e => (nomatch e), ⟨by decide +kernel, by decide +kernel, by decide +kernel, by decide +kernel⟩⟩)) (.cons (eT (al3 smP (smI (by omega) (by omega)) (smS (by decide +kernel) (by decide) (by decide +kernel)))) (.cons (eT (al2 smO (smI (by omega) (by omega))))
    (.cons (eT (al3 smW (smI (by omega) (by omega)) (smS (by decide +kernel) (by decide) (by decide +kernel)))) (.cons (eT (al3 smP sm0 ⟨by decide +kernel, fun y e => (nomatch e), ⟨by decide +kernel, by decide +kernel, by decide +kernel, by decide +kernel⟩⟩)) .nil))))
theorem ok_L6 : Al OkE sL6 :=
  .cons (eT (al3 smN sm0 smA)) (.cons (eT (al3 smP ⟨by decide +kernel, fun y e => (nomatch e), ⟨by decide +kernel, by decide +kernel, by decide +kernel, by decide +kernel⟩⟩ smA)) (.cons (eT (al2 smO sm0)) (.cons (eT (al3 smP sm0 (smS (by decide +kernel) (by decide) (by decide +kernel)))) (.cons (eL (al3 smP sm0 smA)) .nil))))
end
def spStrange (K : PySem.W.Frag) : Sp := fun vs H Q _ => ∃ (p : Addr) (n : Nat) (z : Str), vs = [.ref p, .str z] ∧ Pot H p n ∧ n < PB ∧ z.length ≤ 1000 ∧ (∀ x ∈ sgs z, sgB x = true) ∧
  ∀ H' v d, But p H H' → Pot H' p (n + 1) → Dp K (cutH p H') v d → OkE d → Q v H'
theorem dpall_mem {K : PySem.W.Frag} {H : Hp} : ∀ {vs : List V} {ds : List PyData} {v : V}, DpAll K H vs ds → v ∈ vs → ∃ d ∈ ds, Dp K H v d
  | _, _, _, .nil, h => by cases h
  | _, _, _, .cons a t, h => by
    rcases List.mem_cons.mp h with rfl | h
    · exact ⟨_, List.mem_cons_self, a⟩
    · obtain ⟨d, hd, e⟩ := dpall_mem t h
      exact ⟨d, List.mem_cons_of_mem _ hd, e⟩
theorem dpall_app {K : PySem.W.Frag} {H : Hp} : ∀ {vs ws : List V} {ds es : List PyData}, DpAll K H vs ds → DpAll K H ws es → DpAll K H (vs ++ ws) (ds ++ es)
  | _, _, _, _, .nil, h => h
  | _, _, _, _, .cons a t, h => .cons a (dpall_app t h)
section
variable {P : Program} {w : World} {K : PySem.W.Frag} {mg : Str → Option Value} {base : Heap}
abbrev phS (z : Str) : L2.St → Prop := fun σ => σ[1]? = some (some (V.str z)) ∧ σ[2]? = some (some (V.int z.length))
abbrev nStr : List Str := ["_law_cup_here", "_law_word", "_law_size", "_law_some"]
theorem scStr : FnScope nStr ["_law_cup_here", "_law_word"] (defScope sStrange) := ⟨rfl, rfl, rfl, by decide +kernel, rfl, by decide +kernel, by decide +kernel⟩
theorem ok_strange {f : Addr} {fd : FuncData} (F : Fun K "_law_strange" "_law_strange" sStrange f fd) (B : Bn mg) (J : Cd P w K mg base 2 "_law_choice" ["_law_cup_here", "_law_items"] spChoose) : FnOk P w K mg base CX0 3 f fd ["_law_cup_here", "_law_word"] (spStrange K) := by
  obtain ⟨j, dj, G, gm, gk, gb⟩ := J.ex
  refine F.ok scStr (fun vs H Q E h => ?_) (fun cdv A outer s H vs Q E hr h => ?_)
  · obtain ⟨p, n, z, rfl, _⟩ := h
    rfl
  · obtain ⟨p, n, z, rfl, hp, hn, lz, hs, q⟩ := h
    have zl : z.length ≤ sizeLine := Nat.le_trans lz (by decide)
    have pw60 : CPowW 10 60 := ⟨by decide, by decide +kernel⟩
    have pw39 : CPowW 10 39 := ⟨by decide, by decide +kernel⟩
    have cm : CMulW (10 ^ (60 : Int).toNat) (10 ^ (39 : Int).toNat) := by unfold CMulW; decide +kernel
    have e99 : (10 : Int) ^ 99 = 10 ^ (60 : Int).toNat * 10 ^ (39 : Int).toNat := by decide +kernel
    have pz : H p ≠ none := by
      obtain ⟨_, _, _, e, _⟩ := hp
      rw [e]
      exact fun z => nomatch z
    refine ⟨_, pss_cons (ps_set (i := 2) scStr.nd rfl (.inl rfl) (pe_callB call_len_str (by rfl) B.len PySem.boot_len (pa_cons (pv 1) pa_nil)))
      (pss_cons (ps_set (i := 3) scStr.nd rfl (.inl rfl) (dLs (p := p) (φ := phS z) (ds := sL1 z) (paD_cons (dTup (paD_cons dStr (paD_cons (peD (v := .int ((z.length : Int) + 1)) (pe_op op_add (pv 2) pe_int) (fun _ _ _ f q => ⟨_, f.2, _, _, rfl, rfl, q⟩) fun _ => .int _) (paD_cons dStr paD_nil))))
          (paD_cons (dTup (paD_cons dStr (paD_cons (peD (v := .int z.length) (pv 2) (fun _ _ _ f q => ⟨_, f.2, q⟩) fun _ => .int _) paD_nil)))
          (paD_cons (dTup (paD_cons dStr (paD_cons dInt (paD_cons (peD (v := .str (pre z 1)) (pe_slice sl_str (pv 1) po_none (po_some pe_int)) (fun _ _ _ f q => ⟨_, f.1, 1, rfl, z, rfl, zl, q⟩) fun _ => .str _) paD_nil))))
          (paD_cons (dTup (paD_cons dStr (paD_cons (peD (v := .int (-1)) (pe_un un_neg pe_int) (fun _ _ _ _ q => ⟨1, rfl, q⟩) fun _ => .int _) (paD_cons dStr paD_nil))))
          (paD_cons (dTup (paD_cons dStr (paD_cons dBl (paD_cons dStr paD_nil)))) paD_nil)))))))
      (pss_cons (ps_set (i := 3) scStr.nd rfl (.inl rfl) (pe_op op_cat (pv 3) (dLs (p := p) (φ := phS z) (ds := sL2) (paD_cons (dTup (paD_cons dStr (paD_cons dInt (paD_cons dStr paD_nil))))
          (paD_cons (dTup (paD_cons dStr (paD_cons dInt (paD_cons dStr paD_nil))))
          (paD_cons (dTup (paD_cons dStr (paD_cons dInt (paD_cons dStr paD_nil))))
          (paD_cons (dTup (paD_cons dStr (paD_cons dInt (paD_cons dStr paD_nil))))
          (paD_cons (dTup (paD_cons dStr paD_nil))
          (paD_cons (dTup (paD_cons dStr (paD_cons dInt paD_nil)))
          (paD_cons (dTup paD_nil) paD_nil))))))))))
      (pss_cons (ps_set (i := 3) scStr.nd rfl (.inl rfl) (pe_op op_cat (pv 3) (dLs (p := p) (φ := phS z) (ds := sL3) (paD_cons (dTup (paD_cons dStr (paD_cons dInt (paD_cons dStr paD_nil))))
          (paD_cons (dLst (paD_cons dStr (paD_cons dInt paD_nil)))
          (paD_cons dNon
          (paD_cons dStr
          (paD_cons (dTup (paD_cons dStr (paD_cons dNon (paD_cons dStr paD_nil))))
          (paD_cons (dTup (paD_cons dStr (paD_cons dStr (paD_cons dStr paD_nil))))
          (paD_cons (dTup (paD_cons dStr (paD_cons dBl paD_nil))) paD_nil))))))))))
      (pss_cons (ps_set (i := 3) scStr.nd rfl (.inl rfl) (pe_op op_cat (pv 3) (dLs (p := p) (φ := phS z) (ds := sL4 z) (paD_cons (dTup (paD_cons dStr (paD_cons dInt (paD_cons dNon paD_nil))))
          (paD_cons (dTup (paD_cons dStr (paD_cons (peD (v := .int (10 ^ 99)) (pe_op op_mulW (pe_op op_powW pe_int pe_int) (pe_op op_powW pe_int pe_int)) (fun _ _ _ _ q => ⟨_, _, rfl, rfl, pw60, _, _, rfl, rfl, pw39, _, _, rfl, rfl, cm, by rw [e99] at q; exact q⟩) fun _ => .int _) (paD_cons dStr paD_nil))))
          (paD_cons (dTup (paD_cons dStr (paD_cons (peD (v := .int z.length) (pv 2) (fun _ _ _ f q => ⟨_, f.2, q⟩) fun _ => .int _) (paD_cons dStr paD_nil))))
          (paD_cons (dTup (paD_cons dStr (paD_cons (peD (v := .int (-1)) (pe_un un_neg pe_int) (fun _ _ _ _ q => ⟨1, rfl, q⟩) fun _ => .int _) (paD_cons dStr paD_nil)))) paD_nil)))))))
      (pss_cons (ps_set (i := 3) scStr.nd rfl (.inl rfl) (pe_op op_cat (pv 3) (dLs (p := p) (φ := phS z) (ds := sL5 z) (paD_cons (dTup (paD_cons (dTup (paD_cons dStr (paD_cons dInt paD_nil))) paD_nil))
          (paD_cons (dTup (paD_cons dStr (paD_cons (peD (v := .int z.length) (pv 2) (fun _ _ _ f q => ⟨_, f.2, q⟩) fun _ => .int _) (paD_cons dStr paD_nil))))
          (paD_cons (dTup (paD_cons dStr (paD_cons (peD (v := .int ((z.length : Int) - 1)) (pe_op op_sub (pv 2) pe_int) (fun _ _ _ f q => ⟨_, f.2, _, _, rfl, rfl, q⟩) fun _ => .int _) paD_nil)))
          (paD_cons (dTup (paD_cons dStr (paD_cons (peD (v := .int ((z.length : Int) - 1)) (pe_op op_sub (pv 2) pe_int) (fun _ _ _ f q => ⟨_, f.2, _, _, rfl, rfl, q⟩) fun _ => .int _) (paD_cons dStr paD_nil))))
          (paD_cons (dTup (paD_cons dStr (paD_cons dInt (paD_cons (dLst (paD_cons dStr paD_nil)) paD_nil)))) paD_nil))))))))
      (pss_one (ps_ret (pe_call G hr (by rfl) gm gk gb .nil pass0 (pa_cons (pv 0) (pa_cons (pe_op op_cat (pv 3) (dLs (p := p) (φ := phS z) (ds := sL6) (paD_cons (dTup (paD_cons dNon (paD_cons dInt (paD_cons dStr paD_nil))))
          (paD_cons (dTup (paD_cons dStr (paD_cons (dTup (paD_cons dInt paD_nil)) (paD_cons dStr paD_nil))))
          (paD_cons (dTup (paD_cons dStr (paD_cons dInt paD_nil)))
          (paD_cons (dTup (paD_cons dStr (paD_cons dInt (paD_cons dStr paD_nil))))
          (paD_cons (dLst (paD_cons dStr (paD_cons dInt (paD_cons dStr paD_nil)))) paD_nil))))))) pa_nil)))))))))), ?_⟩
    have lt : ∀ {n : Nat}, n ≤ 100 → n ≤ sizeLine := fun h1 => Nat.le_trans h1 (by decide)
    have step : ∀ {H1 H2 H3 : Hp} {L1 M2 L2 : Addr} {vs1 ws2 : List V} {ds1 es2 : List PyData}, Same H H1 → DpAll K (cutH p H1) vs1 ds1 → Same H1 H2 → DpAll K (cutH p H2) ws2 es2 → H2 L2 = none → Same H (upd H2 L2 (.lst (vs1 ++ ws2))) ∧ DpAll K (cutH p (upd H2 L2 (.lst (vs1 ++ ws2)))) (vs1 ++ ws2) (ds1 ++ es2) := fun {H1 H2 H3 L1 M2 L2 vs1 ws2 ds1 es2} s1 d1 s2 d2 hL => by
      have k := Same.new (o := .lst (vs1 ++ ws2)) hL
      exact ⟨s1.trans (s2.trans k), dpall_app (DpAll.keep (Same.cut (s2.trans k)) d1) (DpAll.keep (Same.cut k) d2)⟩
    refine ⟨_, rfl, z, rfl, zl, ⟨rfl, rfl⟩, pz, fun H1 L1 v1 s1 f1 e1 d1 => ?_⟩
    have l1 : v1.length = 5 := dpall2 d1
    refine ⟨_, rfl, ⟨rfl, rfl⟩, ne_keep s1 pz, fun H2 M2 w2 s2 f2 e2 d2 => ⟨L1, M2, _, _, rfl, rfl, s2 _ _ e1, e2, ?_, fun L2 hL2 => ?_⟩⟩
    · have : w2.length = 7 := dpall2 d2
      exact lt (by omega)
    have l2 : (v1 ++ w2).length = 12 := by rw [List.length_append, l1, show w2.length = 7 from dpall2 d2]
    obtain ⟨sA, dA⟩ := step (H3 := H1) (L1 := L1) (M2 := M2) s1 d1 s2 d2 hL2
    have eA : (upd H2 L2 (.lst (v1 ++ w2))) L2 = some (.lst (v1 ++ w2)) := upd_same
    generalize upd H2 L2 (.lst (v1 ++ w2)) = HA at sA dA eA ⊢
    generalize v1 ++ w2 = vA at l2 dA eA ⊢
    clear e1 d1 e2 d2 f1 f2 s1 s2 hL2 l1
    refine ⟨_, rfl, ⟨rfl, rfl⟩, ne_keep sA pz, fun H3 M3 w3 s3 f3 e3 d3 => ⟨L2, M3, _, _, rfl, rfl, s3 _ _ eA, e3, ?_, fun L3 hL3 => ?_⟩⟩
    · have : w3.length = 7 := dpall2 d3
      exact lt (by omega)
    have l3 : (vA ++ w3).length = 19 := by rw [List.length_append, l2, show w3.length = 7 from dpall2 d3]
    obtain ⟨sB, dB⟩ := step (H3 := H3) (L1 := L2) (M2 := M3) sA dA s3 d3 hL3
    have eB : (upd H3 L3 (.lst (vA ++ w3))) L3 = some (.lst (vA ++ w3)) := upd_same
    generalize upd H3 L3 (.lst (vA ++ w3)) = HB at sB dB eB ⊢
    generalize vA ++ w3 = vB at l3 dB eB ⊢
    clear dA eA e3 d3 f3 s3 hL3 l2 sA
    refine ⟨_, rfl, ⟨rfl, rfl⟩, ne_keep sB pz, fun H4 M4 w4 s4 f4 e4 d4 => ⟨L3, M4, _, _, rfl, rfl, s4 _ _ eB, e4, ?_, fun L4 hL4 => ?_⟩⟩
    · have : w4.length = 4 := dpall2 d4
      exact lt (by omega)
    have l4 : (vB ++ w4).length = 23 := by rw [List.length_append, l3, show w4.length = 4 from dpall2 d4]
    obtain ⟨sC, dC⟩ := step (H3 := H4) (L1 := L3) (M2 := M4) sB dB s4 d4 hL4
    have eC : (upd H4 L4 (.lst (vB ++ w4))) L4 = some (.lst (vB ++ w4)) := upd_same
    generalize upd H4 L4 (.lst (vB ++ w4)) = HC at sC dC eC ⊢
    generalize vB ++ w4 = vC at l4 dC eC ⊢
    clear dB eB e4 d4 f4 s4 hL4 l3 sB
    refine ⟨_, rfl, ⟨rfl, rfl⟩, ne_keep sC pz, fun H5 M5 w5 s5 f5 e5 d5 => ⟨L4, M5, _, _, rfl, rfl, s5 _ _ eC, e5, ?_, fun L5 hL5 => ?_⟩⟩
    · have : w5.length = 5 := dpall2 d5
      exact lt (by omega)
    have l5 : (vC ++ w5).length = 28 := by rw [List.length_append, l4, show w5.length = 5 from dpall2 d5]
    obtain ⟨sD, dD⟩ := step (H3 := H5) (L1 := L4) (M2 := M5) sC dC s5 d5 hL5
    have eD : (upd H5 L5 (.lst (vC ++ w5))) L5 = some (.lst (vC ++ w5)) := upd_same
    generalize upd H5 L5 (.lst (vC ++ w5)) = HD at sD dD eD ⊢
    generalize vC ++ w5 = vD at l5 dD eD ⊢
    clear dC eC e5 d5 f5 s5 hL5 l4 sC
    refine ⟨_, rfl, _, rfl, ⟨rfl, rfl⟩, ne_keep sD pz, fun H6 M6 w6 s6 f6 e6 d6 => ⟨L5, M6, _, _, rfl, rfl, s6 _ _ eD, e6, ?_, fun L6 hL6 => ?_⟩⟩
    · have : w6.length = 5 := dpall2 d6
      exact lt (by omega)
    have l6 : (vD ++ w6).length = 33 := by rw [List.length_append, l5, show w6.length = 5 from dpall2 d6]
    obtain ⟨sE, dE⟩ := step (H3 := H6) (L1 := L5) (M2 := M6) sD dD s6 d6 hL6
    have eE : (upd H6 L6 (.lst (vD ++ w6))) L6 = some (.lst (vD ++ w6)) := upd_same
    have nL : L6 ≠ p := fun z => ne_keep (sD.trans s6) pz (by rw [← z]; exact hL6)
    generalize upd H6 L6 (.lst (vD ++ w6)) = HE at sE dE eE ⊢
    generalize vD ++ w6 = vE at l6 dE eE ⊢
    refine ⟨p, n, pot_same sE hp, hn, .inl ⟨L6, vE, rfl, nL, eE, by omega, by omega, fun H7 v nx m => ?_⟩⟩
    obtain ⟨d, hd, hv⟩ := dpall_mem dE m
    have okE : OkE d := by
      refine (Al.append (Al.append (Al.append (Al.append (Al.append (ok_L1 hs lz) ok_L2) ok_L3) (ok_L4 lz)) (ok_L5 lz)) ok_L6).mem d hd
    exact q H7 v d (fun b o nb e => nx.but b o nb (sE b o e)) nx.pot (Dp.keep nx.but.cut hv) okE
end
end Mk

set_option Elab.async false
set_option linter.all false
set_option maxRecDepth 100000
set_option maxHeartbeats 2000000
/-! spoiled rows -/
namespace Mk
open PySem PySem.Spec L2 PyProof.Rows

abbrev sSpoil : Stmt := top 57
theorem cut_hi (xs : List V) (s : Nat) : cutV xs none (some (s : Int)) = xs.take s := by
  unfold cutV
  rw [HT.sIx_none, HT.sIx_nat, List.drop_zero, Nat.sub_zero, ← List.take_take, List.take_of_length_le (l := xs) (Nat.le_refl _)]
theorem cut_lo (xs : List V) (s : Nat) : cutV xs (some (s : Int)) none = xs.drop s := by
  unfold cutV
  rw [HT.sIx_none, HT.sIx_nat]
  by_cases h : s ≤ xs.length
  · rw [Nat.min_eq_left h, List.take_of_length_le (by rw [List.length_drop]; omega)]
  · rw [Nat.min_eq_right (by omega), List.drop_of_length_le (Nat.le_refl _), List.drop_of_length_le (by omega)]
    exact List.take_nil
theorem cut_mid (xs : List V) (s : Nat) (h : s ≤ xs.length) : cutV xs (some (s : Int)) (some ((s + 1 : Nat) : Int)) = (xs.drop s).take 1 := by
  unfold cutV
  rw [HT.sIx_nat, HT.sIx_nat, Nat.min_eq_left h]
  by_cases h2 : s + 1 ≤ xs.length
  · rw [Nat.min_eq_left h2, Nat.add_sub_cancel_left]
  · rw [List.drop_of_length_le (by omega), List.take_nil, List.take_nil]
theorem dpall_take {K : PySem.W.Frag} {H : Hp} : ∀ {vs : List V} {ds : List PyData} (n : Nat), DpAll K H vs ds → DpAll K H (vs.take n) (ds.take n)
  | _, _, 0, _ => by rw [List.take_zero, List.take_zero]; exact .nil
  | _, _, n + 1, .nil => by rw [List.take_nil, List.take_nil]; exact .nil
  | _, _, n + 1, .cons a t => by rw [List.take_succ_cons, List.take_succ_cons]; exact .cons a (dpall_take n t)
theorem dpall_drop {K : PySem.W.Frag} {H : Hp} : ∀ {vs : List V} {ds : List PyData} (n : Nat), DpAll K H vs ds → DpAll K H (vs.drop n) (ds.drop n)
  | _, _, 0, h => h
  | _, _, n + 1, .nil => by rw [List.drop_nil, List.drop_nil]; exact .nil
  | _, _, n + 1, .cons a t => by rw [List.drop_succ_cons, List.drop_succ_cons]; exact dpall_drop n t
theorem pw_weak {X : Cx} {e : Expr} {t t' : TT} (p : PW X e t) (w : ∀ σ H Q, t' σ H Q → t σ H Q) : PW X e t' := ⟨fun wh pins s σ H Q I h => p.run wh pins s σ H Q I (w σ H Q h)⟩
theorem by_wayS (C : V → Hp → Prop) {X : V → Hp → Prop} {G : Prop} (h1 : (∀ v H, C v H → X v H) → G) (h2 : ∀ v H, C v H → X v H) : G := h1 h2
def spSpoil (K : PySem.W.Frag) : Sp := fun vs H Q _ => ∃ (p L : Addr) (n : Nat) (z : Str) (xs : List V) (ds : List PyData), vs = [.ref p, .str z, .ref L] ∧ Pot H p n ∧ n + 10 < PB ∧ L ≠ p ∧ H L = some (.lst xs) ∧ DpAll K (cutH p H) xs ds ∧ (∀ d ∈ ds, OkE d) ∧ ds.length ≤ 19 ∧ z.length ≤ 900 ∧ (∀ x ∈ sgs z, sgB x = true) ∧
  ∀ H' M ws es, But p H H' → M ≠ p → H' M = some (.lst ws) → DpAll K (cutH p H') ws es → (∀ d ∈ es, OkE d) → es.length ≤ ds.length + 1 → Pot H' p (n + 10) → Q (.ref M) H'
/-- the words ahead of the spoiled place, or none -/
def SpW (H : Hp) (p : Addr) (W : V) : Prop := W = .non ∨ ∃ (Wd : Addr) (ws : List V) (y : Str), W = .ref Wd ∧ Wd ≠ p ∧ H Wd = some (.lst (ws ++ [.str y])) ∧ y.length ≤ 1000 ∧ ∀ x ∈ sgs y, sgB x = true
theorem shaped_list {ds : List PyData} (h : ∀ d ∈ ds, OkE d) : SeqAt.shaped (.list ds) = true := by
  unfold SeqAt.shaped
  rw [Bool.and_eq_true]
  refine ⟨?_, decide_eq_true ?_⟩
  · simp only [PyData.canLay0]
    exact canLay_all fun x hx => (h x hx).y
  · have := depth_all (k := 4) (xs := ds) fun x hx => (h x hx).w.dp
    simp only [PyData.depth]
    omega
section
variable {P : Program} {w : World} {K : PySem.W.Frag} {mg : Str → Option Value} {base : Heap}
abbrev nSpoil : List Str := ["_law_cup_here", "_law_word", "_law_row", "_law_spot", "_law_way", "_law_words"]
theorem scSpoil : FnScope nSpoil ["_law_cup_here", "_law_word", "_law_row"] (defScope sSpoil) := ⟨rfl, rfl, rfl, by decide +kernel, rfl, by decide +kernel, by decide +kernel⟩
theorem ok_spoil {f : Addr} {fd : FuncData} (F : Fun K "_law_spoiled" "_law_spoiled" sSpoil f fd) (B : Bn mg) (O : On mg) (D : Cd P w K mg base 1 "_law_toss" ["_law_cup_here", "_law_total"] spDip) (J1 : Cd P w K mg base 2 "_law_run" ["_law_word", "_law_row"] (spRun K)) (J2 : Cd P w K mg base 3 "_law_strange" ["_law_cup_here", "_law_word"] (spStrange K)) :
    FnOk P w K mg base CX0 4 f fd ["_law_cup_here", "_law_word", "_law_row"] (spSpoil K) := by
  obtain ⟨a1, d1, G1, m1, k1, b1⟩ := D.ex
  obtain ⟨a2, d2, G2, m2, k2, b2⟩ := J1.ex
  obtain ⟨a3, d3, G3, m3, k3, b3⟩ := J2.ex
  refine F.ok scSpoil (fun vs H Q E h => ?_) (fun cdv A outer s H vs Q E hr h => ?_)
  · obtain ⟨p, L, n, z, xs, ds, rfl, _⟩ := h
    rfl
  · obtain ⟨p, L, n, z, xs, ds, rfl, hp, hn, Lp, eL, dA, okE, lds, lz, hs, q⟩ := h
    have h64 : A.units + 3 + 64 < cLine := by
      have h2 : A.units + 3 + 16 * 3 + 200 < cLine := hr.un
      omega
    have lxs := dpall2 dA
    have n1 : 1 ≤ sizeLine := by decide
    have big : ∀ {n : Nat}, n ≤ 1000 → n ≤ sizeLine := fun h1 => Nat.le_trans h1 (by decide)
    have shl := shaped_list okE
    have tail : PSs (cxOf CX0 P w K mg base nSpoil "_law_spoiled" (defScope sSpoil) f cdv A outer s H E).nox ((defBody sSpoil).drop 2) (fun D σ H0 => ∃ (s : Nat) (wy : Int) (W : V), σ = [some (.ref p), some (.str z), some (.ref L), some (.int s), some (.int wy), some W] ∧ s ≤ ds.length ∧ But p H H0 ∧ Pot H0 p (n + 2) ∧ SpW H0 p W ∧
        ∀ H' M ws es, But p H H' → M ≠ p → H' M = some (.lst ws) → DpAll K (cutH p H') ws es → (∀ d ∈ es, OkE d) → es.length ≤ ds.length + 1 → Pot H' p (n + 10) → D.rt (.ref M) H') := by
      refine ⟨fun pins s' σ H0 D I h => ?_⟩
      obtain ⟨sp, wy, W, rfl, hsp, B0, P0, hW, q⟩ := h
      refine (show PSs (cxOf CX0 P w K mg base nSpoil "_law_spoiled" (defScope sSpoil) f cdv A outer s H E).nox ((defBody sSpoil).drop 2) _ from
        pss_cons (ps_if (PW.pt (pw_weak (t' := fun σ H Q => (∃ (wy : Int) (W : V), σ[4]? = some (some (.int wy)) ∧ σ[5]? = some (some W) ∧ σ[2]? = some (some (.ref L)) ∧ Dp K H (.ref L) (.list ds)) ∧ ∀ b H1, Same H H1 → Q b H1)
            (pw_or (PW.pt (pw_and (pt_cmpR op_eq (pv 4) pe_int (nomark _)) (pw_and1 (pt_cmpR op_notN (pv 5) pe_non (nomark _))))) (pw_or1 (pt_cmpR (op_eqD h64) (pv 2) (pe_lst pa_nil) (nomark _)))) ?_))
          (pss_one (ps_ret (pe_op op_cat (pe_op op_cat (pe_slice sl_list (pv 2) po_none (po_some (pv 3))) (pe_lst (pa_cons (pe_call G3 hr (by rfl) m3 k3 b3 .nil pass0 (pa_cons (pv 0) (pa_cons (pe_ifExp (pt_cmpR op_isN (pv 5) pe_non (nomark _)) (pv 1) (pe_ix ix_list (pv 5) (pe_un un_neg pe_int) (fun _ _ => rfl))) pa_nil))) pa_nil)))
            (pe_slice sl_list (pv 2) (po_some (pe_op op_add (pv 3) pe_int)) po_none)))) pss_nil)
        (pss_cons (ps_if (pt_cmpR op_eq (pv 4) pe_int (nomark _)) (pss_one (ps_ret (pe_op op_cat (pe_op op_cat (pe_slice sl_list (pv 2) po_none (po_some (pv 3))) (pe_slice sl_list (pv 2) (po_some (pv 3)) (po_some (pe_op op_add (pv 3) pe_int)))) (pe_slice sl_list (pv 2) (po_some (pv 3)) po_none)))) pss_nil)
        (pss_one (ps_ret (pe_ifExp (pt_cmpR op_eq (pv 4) pe_int (nomark _)) (pe_op op_cat (pe_slice sl_list (pv 2) po_none (po_some (pv 3))) (pe_slice sl_list (pv 2) (po_some (pe_op op_add (pv 3) pe_int)) po_none))
          (pe_op op_cat (pe_slice sl_list (pv 2) (po_some (pv 3)) po_none) (pe_slice sl_list (pv 2) po_none (po_some (pv 3))))))))).run pins s' _ H0 D I ?_
      · rintro σ H1 Q1 ⟨⟨wy, W, h4, h5, h2, hd⟩, q1⟩
        have third : ∀ {G : Prop}, ((∀ l : Addr, H1 l = none → Q1 (PyData.eqv (.list ds) (.list [])) (upd H1 l (.lst []))) → G) → G := fun h => h fun l hl => q1 _ _ (Same.new hl)
        refine ⟨_, h4, rfl, _, rfl, ?_⟩
        by_cases c1 : V.int wy = V.int 0
        · rw [decide_eq_true c1]
          refine iteT ⟨_, h5, rfl, _, rfl, ?_⟩
          by_cases c2 : W = .non
          · rw [decide_eq_true c2]
            refine iteF (third fun k => ⟨_, h2, Nat.zero_le _, fun l hl => ⟨.list ds, .list [], Dp.keep (Same.new hl) hd, .lst (SqL.of upd_same) .nil, shl, by decide +kernel, _, rfl, k l hl⟩⟩)
          · rw [decide_eq_false c2]
            exact iteT (q1 _ _ (Same.refl _))
        · rw [decide_eq_false c1]
          refine iteF (iteF (third fun k => ⟨_, h2, Nat.zero_le _, fun l hl => ⟨.list ds, .list [], Dp.keep (Same.new hl) hd, .lst (SqL.of upd_same) .nil, shl, by decide +kernel, _, rfl, k l hl⟩⟩))
      · have eL0 := B0 _ _ Lp eL
        have dA0 := DpAll.keep B0.cut dA
        refine ⟨⟨wy, W, rfl, rfl, rfl, .lst (SqL.of eL0) (DpAll.keep cutH_same dA0)⟩, fun b H1 s1 => ?_⟩
        have B1 := B0.trans (But.of_same s1)
        have P1 := pot_same s1 P0
        have eL1 := s1 _ _ eL0
        have dA1 := DpAll.keep (Same.cut s1) dA0
        have hW1 : SpW H1 p W := by
          rcases hW with e | ⟨Wd, ws, y, e, n1, e1, r⟩
          · exact .inl e
          · exact .inr ⟨Wd, ws, y, e, n1, s1 _ _ e1, r⟩
        clear s1 hW B0 P0 eL0 dA0 I
        have es : ((sp : Int) + 1) = ((sp + 1 : Nat) : Int) := by omega
        have lt : (xs.take sp).length = sp := by rw [List.length_take, lxs]; omega
        have ld : (xs.drop sp).length = ds.length - sp := by rw [List.length_drop, lxs]
        have ld1 : (xs.drop (sp + 1)).length = ds.length - (sp + 1) := by rw [List.length_drop, lxs]
        have mt : ∀ {m : Nat} {d : PyData}, d ∈ ds.take m → OkE d := fun h => okE _ (List.mem_of_mem_take h)
        have md : ∀ {m : Nat} {d : PyData}, d ∈ ds.drop m → OkE d := fun h => okE _ (List.mem_of_mem_drop h)
        -- two lists, one behind the other
        have cat : ∀ {Ha Hb Hc : Hp} {va vb : List V} {da db : List PyData} {M : Addr}, But p H Hb → DpAll K (cutH p Hb) va da → Same Hb Hc → DpAll K (cutH p Hc) vb db → Hc M = none → DpAll K (cutH p (upd Hc M (.lst (va ++ vb)))) (va ++ vb) (da ++ db) := fun {Ha Hb Hc va vb da db M} _ a s b hM => by
          have k := Same.new (o := .lst (va ++ vb)) hM
          exact dpall_app (DpAll.keep (Same.cut (s.trans k)) a) (DpAll.keep (Same.cut k) b)
        have last : ∀ {Hb : Hp} {c e : Addr} {va vb : List V} {da db : List PyData}, But p H Hb → Pot Hb p (n + 3) → Hb c = some (.lst va) → DpAll K (cutH p Hb) va da → DpAll K (cutH p Hb) vb db → Hb e = none → (∀ d ∈ da, OkE d) → (∀ d ∈ db, OkE d) → da.length + db.length ≤ ds.length + 1 →
            rCat (V.ref c) (V.ref e) (upd Hb e (.lst vb)) D.rt := fun {Hb c e va vb da db} Bb Pb ec a b he oa ob l => by
          have k := Same.new (o := .lst vb) he
          refine ⟨c, e, va, vb, rfl, rfl, k _ _ ec, upd_same, big (by rw [dpall2 a, dpall2 b]; omega), fun M hM => ?_⟩
          have k2 := Same.new (o := .lst (va ++ vb)) hM
          have P2 := pot_same k Pb
          refine q _ M (va ++ vb) (da ++ db) (Bb.trans (But.of_same (k.trans k2))) (P2.ne hM).symm upd_same (cat (Ha := Hb) Bb a k (DpAll.keep (Same.cut k) b) hM) (fun d hd => ?_) (by rw [List.length_append]; exact l) ((pot_same k2 P2).mono (by omega))
          rcases List.mem_append.mp hd with hd | hd
          · exact oa d hd
          · exact ob d hd
        cases b with
        | true =>
          refine iteT ⟨_, rfl, _, rfl, _, rfl, L, xs, rfl, SqL.of eL1, fun a ha => ?_⟩
          rw [cut_hi]
          have k1 := Same.new (o := .lst (xs.take sp)) ha
          have ea : (upd H1 a (.lst (xs.take sp))) a = some (.lst (xs.take sp)) := upd_same
          have ap : a ≠ p := (P1.ne ha).symm
          have B2 := B1.trans (But.of_same k1)
          have P2 := pot_same k1 P1
          have dA2 := DpAll.keep (Same.cut k1) dA1
          have eL2 := k1 _ _ eL1
          have hW2 : SpW (upd H1 a (.lst (xs.take sp))) p W := by
            rcases hW1 with e | ⟨Wd, ws, y, e, n1, e1, r⟩
            · exact .inl e
            · exact .inr ⟨Wd, ws, y, e, n1, k1 _ _ e1, r⟩
          generalize upd H1 a (.lst (xs.take sp)) = H2 at ea B2 P2 dA2 eL2 hW2 ⊢
          clear k1 ha hW1 eL1 dA1 P1 B1
          revert hW2
          apply by_wayS (fun v H3 => ∃ d, But p H2 H3 ∧ Pot H3 p (n + 3) ∧ Dp K (cutH p H3) v d ∧ OkE d)
          · intro kk hW2
            rcases hW2 with eW | ⟨Wd, ws, y, eW, Wp, e1, ly, hy⟩
            · refine ⟨_, rfl, _, rfl, rfl, _, rfl, ?_⟩
              rw [decide_eq_true eW]
              refine iteT ⟨_, rfl, p, n + 2, z, rfl, P2, by omega, by omega, hs, fun H3 v d B3 P3 dv okd => kk v H3 ⟨d, B3, P3, dv, okd⟩⟩
            · refine ⟨_, rfl, _, rfl, rfl, _, rfl, ?_⟩
              rw [decide_eq_false (fun z => by rw [eW] at z; cases z)]
              refine iteF ⟨_, rfl, 1, rfl, Wd, _, (-1 : Int), _, eW, rfl, SqL.of e1, atI_neg1 (ws := ws) rfl, p, n + 2, y, rfl, P2, by omega, ly, hy, fun H3 v d B3 P3 dv okd => kk v H3 ⟨d, B3, P3, dv, okd⟩⟩
          · rintro v H3 ⟨d, B3, P3, dv, okd⟩
            refine ⟨n1, fun b hb => ?_⟩
            have k2 := Same.new (o := .lst [v]) hb
            have eb : (upd H3 b (.lst [v])) b = some (.lst [v]) := upd_same
            have B4 := B2.trans (B3.trans (But.of_same k2))
            have P4 := pot_same k2 P3
            have dA4 := DpAll.keep (Same.cut k2) (DpAll.keep B3.cut dA2)
            have eL4 := k2 _ _ (B3 _ _ Lp eL2)
            have ea4 := k2 _ _ (B3 _ _ ap ea)
            have dv4 := Dp.keep (Same.cut k2) dv
            generalize upd H3 b (.lst [v]) = H4 at eb B4 P4 dA4 eL4 ea4 dv4 ⊢
            clear k2 hb dv P3 B3
            refine ⟨a, b, _, _, rfl, rfl, ea4, eb, big (by rw [lt]; show sp + 1 ≤ 1000; omega), fun c hc => ?_⟩
            have d4 := cat (Ha := H4) B4 (dpall_take sp dA4) (Same.refl H4) (.cons dv4 .nil) hc
            have k3 := Same.new (o := .lst (xs.take sp ++ [v])) hc
            have ec : (upd H4 c (.lst (xs.take sp ++ [v]))) c = some (.lst (xs.take sp ++ [v])) := upd_same
            have B5 := B4.trans (But.of_same k3)
            have P5 := pot_same k3 P4
            have dA5 := DpAll.keep (Same.cut k3) dA4
            have eL5 := k3 _ _ eL4
            generalize upd H4 c (.lst (xs.take sp ++ [v])) = H5 at d4 ec B5 P5 dA5 eL5 ⊢
            refine ⟨_, rfl, _, rfl, _, _, rfl, rfl, _, rfl, L, xs, rfl, SqL.of eL5, fun e he => ?_⟩
            rw [es, cut_lo]
            refine last B5 P5 ec d4 (dpall_drop (sp + 1) dA5) he (fun d hd => ?_) (fun d hd => md hd) (by rw [List.length_append, List.length_take, List.length_drop]; show min sp ds.length + 1 + _ ≤ _; omega)
            rcases List.mem_append.mp hd with hd | hd
            · exact mt hd
            · rw [List.mem_singleton.mp hd]
              exact okd
        | false =>
          have P1 := P1.mono (show n + 2 ≤ n + 3 by omega)
          refine iteF ⟨_, rfl, rfl, _, rfl, ?_⟩
          by_cases c1 : V.int wy = V.int 1
          · rw [decide_eq_true c1]
            refine iteT ⟨_, rfl, _, rfl, _, rfl, L, xs, rfl, SqL.of eL1, fun a ha => ?_⟩
            rw [cut_hi]
            have k1 := Same.new (o := .lst (xs.take sp)) ha
            have ea : (upd H1 a (.lst (xs.take sp))) a = some (.lst (xs.take sp)) := upd_same
            have B2 := B1.trans (But.of_same k1)
            have P2 := pot_same k1 P1
            have dA2 := DpAll.keep (Same.cut k1) dA1
            have eL2 := k1 _ _ eL1
            generalize upd H1 a (.lst (xs.take sp)) = H2 at ea B2 P2 dA2 eL2 ⊢
            refine ⟨_, rfl, _, rfl, _, rfl, _, rfl, _, _, rfl, rfl, _, rfl, L, xs, rfl, SqL.of eL2, fun b hb => ?_⟩
            rw [es, cut_mid xs sp (by omega)]
            have k2 := Same.new (o := .lst ((xs.drop sp).take 1)) hb
            have eb : (upd H2 b (.lst ((xs.drop sp).take 1))) b = some (.lst ((xs.drop sp).take 1)) := upd_same
            have B3 := B2.trans (But.of_same k2)
            have P3 := pot_same k2 P2
            have dA3 := DpAll.keep (Same.cut k2) dA2
            have eL3 := k2 _ _ eL2
            have ea3 := k2 _ _ ea
            generalize upd H2 b (.lst ((xs.drop sp).take 1)) = H3 at eb B3 P3 dA3 eL3 ea3 ⊢
            refine ⟨a, b, _, _, rfl, rfl, ea3, eb, big (by rw [lt, List.length_take]; omega), fun c hc => ?_⟩
            have d4 := cat (Ha := H3) B3 (dpall_take sp dA3) (Same.refl H3) (dpall_take 1 (dpall_drop sp dA3)) hc
            have k3 := Same.new (o := .lst (xs.take sp ++ (xs.drop sp).take 1)) hc
            have ec : (upd H3 c (.lst (xs.take sp ++ (xs.drop sp).take 1))) c = some (.lst (xs.take sp ++ (xs.drop sp).take 1)) := upd_same
            have B5 := B3.trans (But.of_same k3)
            have P5 := pot_same k3 P3
            have dA5 := DpAll.keep (Same.cut k3) dA3
            have eL5 := k3 _ _ eL3
            generalize upd H3 c (.lst (xs.take sp ++ (xs.drop sp).take 1)) = H5 at d4 ec B5 P5 dA5 eL5 ⊢
            refine ⟨_, rfl, _, rfl, _, rfl, L, xs, rfl, SqL.of eL5, fun e he => ?_⟩
            rw [cut_lo]
            refine last B5 P5 ec d4 (dpall_drop sp dA5) he (fun d hd => ?_) (fun d hd => md hd) (by rw [List.length_append, List.length_take, List.length_take, List.length_drop]; omega)
            rcases List.mem_append.mp hd with hd | hd
            · exact mt hd
            · exact md (List.mem_of_mem_take hd)
          · rw [decide_eq_false c1]
            refine iteF ⟨_, rfl, rfl, _, rfl, ?_⟩
            by_cases c2 : V.int wy = V.int 2
            · rw [decide_eq_true c2]
              refine iteT ⟨_, rfl, _, rfl, _, rfl, L, xs, rfl, SqL.of eL1, fun a ha => ?_⟩
              rw [cut_hi]
              have k1 := Same.new (o := .lst (xs.take sp)) ha
              have ea : (upd H1 a (.lst (xs.take sp))) a = some (.lst (xs.take sp)) := upd_same
              have B2 := B1.trans (But.of_same k1)
              have P2 := pot_same k1 P1
              have dA2 := DpAll.keep (Same.cut k1) dA1
              have eL2 := k1 _ _ eL1
              generalize upd H1 a (.lst (xs.take sp)) = H2 at ea B2 P2 dA2 eL2 ⊢
              refine ⟨_, rfl, _, rfl, _, _, rfl, rfl, _, rfl, L, xs, rfl, SqL.of eL2, fun b hb => ?_⟩
              rw [es, cut_lo]
              exact last B2 P2 ea (dpall_take sp dA2) (dpall_drop (sp + 1) dA2) hb (fun d hd => mt hd) (fun d hd => md hd) (by rw [List.length_take, List.length_drop]; omega)
            · rw [decide_eq_false c2]
              refine iteF ⟨_, rfl, _, rfl, _, rfl, L, xs, rfl, SqL.of eL1, fun a ha => ?_⟩
              rw [cut_lo]
              have k1 := Same.new (o := .lst (xs.drop sp)) ha
              have ea : (upd H1 a (.lst (xs.drop sp))) a = some (.lst (xs.drop sp)) := upd_same
              have B2 := B1.trans (But.of_same k1)
              have P2 := pot_same k1 P1
              have dA2 := DpAll.keep (Same.cut k1) dA1
              have eL2 := k1 _ _ eL1
              generalize upd H1 a (.lst (xs.drop sp)) = H2 at ea B2 P2 dA2 eL2 ⊢
              refine ⟨_, rfl, _, rfl, _, rfl, L, xs, rfl, SqL.of eL2, fun b hb => ?_⟩
              rw [cut_hi]
              exact last B2 P2 ea (dpall_drop sp dA2) (dpall_take sp dA2) hb (fun d hd => md hd) (fun d hd => mt hd) (by rw [List.length_take, List.length_drop]; omega)
    refine ⟨_, pss_cons (ps_par (i := 3) (j := 4) rfl scSpoil.nd rfl rfl (by decide) rfl rfl (pa_cons (pe_call G1 (hr.mono (by decide)) (by rfl) m1 k1 b1 .nil pass0 (pa_cons (pv 0) (pa_cons (pe_op op_add (pe_callB call_len_seq (by rfl) B.len PySem.boot_len (pa_cons (pv 2) pa_nil)) pe_int) pa_nil))) (pa_cons (pe_call G1 (hr.mono (by decide)) (by rfl) m1 k1 b1 .nil pass0 (pa_cons (pv 0) (pa_cons pe_int pa_nil))) pa_nil)) (by rfl))
      (pss_cons (ps_set (i := 5) scSpoil.nd rfl (.inl rfl) (pe_call G2 (hr.mono (by decide)) (by rfl) m2 k2 b2 .nil pass0 (pa_cons (pv 1) (pa_cons (pe_callTy call_tuple_of (by rfl) O.tuple (by decide +kernel) (pa_cons (pe_slice sl_list (pv 2) po_none (po_some (pv 3))) pa_nil)) pa_nil))))
      tail), ?_⟩
    refine ⟨_, rfl, _, rfl, L, xs, rfl, .inl (SqL.of eL), _, _, rfl, rfl, p, n, _, rfl, hp, by omega, by omega, by omega, fun H1 k B1 _ P1 k0 k1 => ?_⟩
    refine ⟨_, rfl, p, n + 1, 4, rfl, P1, by omega, by decide, by decide, fun H2 wy B2 _ P2 _ _ => ?_⟩
    obtain ⟨sp, rfl⟩ : ∃ sp : Nat, k = (sp : Int) := ⟨k.toNat, by omega⟩
    have B2 := B1.trans B2
    refine ⟨_, _, rfl, ?_⟩
    have eL2 := B2 _ _ Lp eL
    refine ⟨_, rfl, _, rfl, _, rfl, _, rfl, L, xs, rfl, SqL.of eL2, fun a ha => ?_⟩
    rw [cut_hi]
    have k1 := Same.new (o := .lst (xs.take sp)) ha
    have ea : (upd H2 a (.lst (xs.take sp))) a = some (.lst (xs.take sp)) := upd_same
    have dA3 := DpAll.keep (k1.trans (Same.refl _)) (DpAll.keep cutH_same (DpAll.keep B2.cut dA))
    have B3 := B2.trans (But.of_same k1)
    have P3 := pot_same k1 P2
    generalize upd H2 a (.lst (xs.take sp)) = H3 at ea dA3 B3 P3 ⊢
    dsimp only [tNil]
    refine ⟨a, _, rfl, .inl ⟨SqL.of ea, fun t ht => ?_⟩⟩
    have k2 := Same.new (o := .tup (xs.take sp)) ht
    have dT : Dp K (upd H3 t (.tup (xs.take sp))) (.ref t) (.tuple (ds.take sp)) := .tup (SqT.of upd_same) (dpall_take sp (DpAll.keep k2 dA3))
    have B4 := B3.trans (But.of_same k2)
    have P4 := pot_same k2 P3
    generalize upd H3 t (.tup (xs.take sp)) = H4 at dT B4 P4 ⊢
    have hsp : sp ≤ ds.length := by omega
    refine ⟨z, .ref t, .tuple (ds.take sp), rfl, .of dT, fun es e => ?_, by omega, hs, fun H5 no s5 => ?_, fun H5 Wd es st e1 e2 s5 fW eW => ?_⟩
    · cases e
      exact ⟨by rw [List.length_take]; omega, fun x hx => (okE _ (List.mem_of_mem_take hx)).c⟩
    · exact ⟨sp, wy, _, rfl, hsp, B4.trans (But.of_same s5), pot_same s5 P4, .inl rfl, q⟩
    · cases e1
      refine ⟨sp, wy, _, rfl, hsp, B4.trans (But.of_same s5), pot_same s5 P4, .inr ?_, q⟩
      obtain ⟨ws, hws⟩ := wrds_last (sgs z) st
      have l2 := runD_len e2
      have e1 := endS_one (st := st) (sg := sgs z) fun y hy => sgs_one hy
      have sw : sgs (wd (endS (sgs z) st)) = endS (sgs z) st := sgs_wd e1
      refine ⟨Wd, ws.map V.str, wd (endS (sgs z) st), rfl, fun z => ?_, ?_, ?_, ?_⟩
      · obtain ⟨_, _, _, e, _⟩ := P4
        rw [z, e] at fW
        cases fW
      · rw [eW, hws, List.map_append]
        rfl
      · rw [← sgs_length, sw]
        have := endS_len (runD_ok hs e2)
        rw [sgs_length, l2, List.length_take] at this
        omega
      · rw [sw]
        exact endS_sg hs e2
end
end Mk

set_option Elab.async false
set_option linter.all false
set_option maxRecDepth 100000
set_option maxHeartbeats 1000000
/-! a text so many times -/
namespace Mk
open PySem L2 PyProof.Rows

section
variable {X : Cx}
theorem foldl_size : ∀ (l : List (Array Nat)) (acc : Array Nat), (l.foldl (· ++ ·) acc).size = acc.size + (l.map Array.size).sum
  | [], acc => by simp
  | a :: l, acc => by
    rw [List.foldl_cons, foldl_size l, Array.size_append, List.map_cons, List.sum_cons]
    omega
theorem foldl_mem {c : Nat} : ∀ (l : List (Array Nat)) (acc : Array Nat), c ∈ (l.foldl (· ++ ·) acc).toList → c ∈ acc.toList ∨ ∃ a ∈ l, c ∈ a.toList
  | [], acc, h => .inl h
  | a :: l, acc, h => by
    rw [List.foldl_cons] at h
    rcases foldl_mem l _ h with h | ⟨b, hb, h⟩
    · rw [Array.toList_append] at h
      rcases List.mem_append.mp h with h | h
      · exact .inl h
      · exact .inr ⟨a, List.mem_cons_self, h⟩
    · exact .inr ⟨b, List.mem_cons_of_mem _ hb, h⟩
theorem mul_len (x : Str) (n : Nat) (hn : 1 ≤ n) : (Txt.mul x (n : Int)).length = x.length * n := by
  unfold Txt.mul
  rw [if_neg (by omega)]
  by_cases c : ((n : Int) == 1 || x.length == 0) = true
  · rw [if_pos c]
    rw [Bool.or_eq_true, beq_iff_eq, beq_iff_eq] at c
    rcases c with c | c
    · have : n = 1 := by omega
      rw [this, Nat.mul_one]
    · rw [c, Nat.zero_mul]
  · rw [if_neg c]
    show (List.foldl (· ++ ·) #[] (List.replicate (n : Int).toNat x.cps)).size = _
    rw [foldl_size, List.map_replicate, List.sum_replicate_nat]
    simp
    exact Nat.mul_comm _ _
theorem mul_mem {x : Str} {n : Nat} (hn : 1 ≤ n) {c : Nat} (h : c ∈ (Txt.mul x (n : Int)).cps.toList) : c ∈ x.cps.toList := by
  unfold Txt.mul at h
  rw [if_neg (by omega)] at h
  by_cases e : ((n : Int) == 1 || x.length == 0) = true
  · rw [if_pos e] at h
    exact h
  · rw [if_neg e] at h
    rcases foldl_mem _ _ h with h | ⟨a, ha, h⟩
    · cases h
    · rw [List.eq_of_mem_replicate ha] at h
      exact h
/-- z * n, a text -/
theorem op_mulS : OpR X (binaryOp .Mult) (fun x y H Q => ∃ (z : Str) (n : Nat), x = .str z ∧ y = .int n ∧ 1 ≤ n ∧ n ≤ 10000 ∧ z.length ≤ 1000 ∧ Q (.str (Txt.mul z n)) H) := by
  intro pins s σ H x y v u Q I rx ry h
  obtain ⟨z, n, rfl, rfl, h1, h2, h3, q⟩ := h
  obtain ⟨t, rfl⟩ := rx
  obtain ⟨t', rfl⟩ := ry
  have le : z.length * n ≤ 1000 * 10000 := Nat.mul_le_mul h3 h2
  refine SB.mul ⟨?_, fun _ _ => ?_, fun _ _ => ?_⟩ fun t2 k => ⟨.str (Txt.mul z n), H, I.tok _, ⟨_, rfl⟩, q⟩
  · rw [Bool.or_eq_false_iff, decide_eq_false_iff_not, decide_eq_false_iff_not]
    omega
  · have : ((2 : Int) ^ 63 - 1) / n ≥ 1000 := by
      rw [ge_iff_le, Int.le_ediv_iff_mul_le (by omega)]
      omega
    omega
  · have e : (n : Int).toNat = n := by omega
    rw [e]
    unfold Builtin.Str.tooLong
    rw [decide_eq_false_iff_not, sizeLine_eq]
    omega
end
end Mk

set_option Elab.async false
set_option linter.all false
set_option maxRecDepth 100000
set_option maxHeartbeats 1000000
/-! prices made of tables -/
namespace Mk
open PySem PySem.Spec L2 PyProof.Rows

abbrev sPriced : Stmt := top 47
section
variable {P : Program} {w : World} {K : PySem.W.Frag} {mg : Str → Option Value} {base : Heap}
theorem scPriced : FnScope ["_law_table"] ["_law_table"] (defScope sPriced) := ⟨rfl, rfl, rfl, by decide +kernel, rfl, by decide +kernel, by decide +kernel⟩
theorem ok_priced {f fi C : Addr} {fd fdi : FuncData} (F : Fun K "_law_priced" "_law_priced" sPriced f fd) (B : Bn mg) (Dd : Dn mg) (M : L2.Mk K C fi) (FI : Fun K "__init__" "Prices.__init__" sInit fi fdi) (I : FnOk P w K mg base CX0 6 fi fdi ["self", "put", "out", "swap"] (spInit C)) (mgC : mg "Prices" = some (.ref C)) : FnOk P w K mg base CX0 8 f fd ["_law_table"] (spMade C) := by
  refine F.ok scPriced (fun vs H Q E h => ?_) (fun cdv A outer s H vs Q E hr h => ?_)
  · obtain ⟨L, a, b, c, t1, t2, t3, rfl, _⟩ := h
    rfl
  · obtain ⟨L, a, b, c, t1, t2, t3, rfl, r, rt, q⟩ := h
    have hu : A.units + 3 + 8 < cLine := by
      have h2 : A.units + 3 + 16 * 7 + 200 < cLine := hr.un
      omega
    refine ⟨_, pss_one (ps_ret (pe_makeK0 M I hr (by rfl) mgC (kbn_init FI) pass0
      (pk_cons (pe_callTy call_dictD (by rfl) Dd.dict (by decide +kernel) (pa_cons (pe_ix ix_list (pv 0) pe_int (fun _ _ => rfl)) pa_nil))
      (pk_cons (pe_callTy call_dictD (by rfl) Dd.dict (by decide +kernel) (pa_cons (pe_ix ix_list (pv 0) pe_int (fun _ _ => rfl)) pa_nil))
      (pk_cons (pe_callTy (call_dictPT rfl hu) (by rfl) Dd.dict (by decide +kernel) (pa_cons (pe_callTy (call_listItms rfl) (by rfl) B.list (by decide +kernel) (pa_cons (pe_bm0 PySem.F.plainAttrs_dict PySem.F.slot_dict_items PySem.F.type_dict_items mt_itms (pe_ix ix_list (pv 0) pe_int (fun _ _ => rfl))) pa_nil)) pa_nil)) pk_nil))))), ?_⟩
    refine ⟨_, rfl, L, _, _, _, rfl, rfl, SqL.of r.l, atI_nat (j := 0) rfl, a, _, rfl, .inl r.t.p, fun d1 h1 => ?_⟩
    have s1 := Same.new (o := .dK (kvsP t1)) h1
    have x1 : (upd H d1 (.dK (kvsP t1))) d1 = some (.dK (kvsP t1)) := upd_same
    generalize upd H d1 (.dK (kvsP t1)) = H1 at s1 x1 ⊢
    refine ⟨_, rfl, L, _, _, _, rfl, rfl, SqL.of (s1 _ _ r.l), atI_nat (j := 1) rfl, b, _, rfl, .inl (s1 _ _ r.t.o), fun d2 h2 => ?_⟩
    have s2 := Same.trans s1 (Same.new (o := .dK (kvsP t2)) h2)
    have x1 := (Same.new (o := .dK (kvsP t2)) h2) _ _ x1
    have x2 : (upd H1 d2 (.dK (kvsP t2))) d2 = some (.dK (kvsP t2)) := upd_same
    generalize upd H1 d2 (.dK (kvsP t2)) = H2 at s2 x1 x2 ⊢
    have hx3 := s2 _ _ r.t.s
    refine ⟨_, rfl, L, _, _, _, rfl, rfl, SqL.of (s2 _ _ r.l), atI_nat (j := 2) rfl, .inr (.inr (.inl ⟨rfl, .inr ⟨_, hx3⟩⟩)), _, rfl, rfl, .inr ⟨_, hx3⟩, fun v hv => ?_⟩
    refine ⟨v, _, rfl, upd_same, .inr ⟨kvsS t3, (Same.new hv) _ _ hx3, fun H3 l ts qs s3 l0 ik hl pr => ?_⟩⟩
    refine ⟨l, ts, kvsS t3, rfl, SqL.of hl, itms_T (_root_.L2.Paired.mapP ik fun _ _ e => s3 _ _ e) pr, kvsS_nd rt.nd, fun d3 h3 => ?_⟩
    have s4 := Same.trans (Same.trans (Same.new (o := DX.itemsO v c) hv) s3) (Same.new (o := .dT (kvsS t3)) h3)
    refine ⟨rfl, rfl, fun y dy hy hdy ne => ?_⟩
    have s5 : Same H2 (upd (upd (upd H3 d3 (.dT (kvsS t3))) dy (.own y)) y (.ins C dy [])) := fun b o e => by
      rw [upd_ne (ne_of_none (s4 _ _ e) hy), upd_ne (ne_of_none (s4 _ _ e) hdy)]
      exact s4 _ _ e
    have s6 := Same.trans s2 s5
    refine ⟨y, dy, d1, d2, d3, _, _, _, rfl, upd_same, ⟨s5 _ _ x1, s5 _ _ x2, ?_⟩, rt.ag, rt.nd, rt.rt, fun H9 u1 u2 u3 b9 pr k1 k2 k3 sr9 => ⟨rfl, ?_⟩⟩
    · rw [upd_ne (ne_of_none (upd_same : (upd H3 d3 (.dT (kvsS t3))) d3 = some (.dT (kvsS t3))) hy), upd_ne (ne_of_none (upd_same : (upd H3 d3 (.dT (kvsS t3))) d3 = some (.dT (kvsS t3))) hdy), upd_same]
    · refine q _ y u1 u2 u3 (fun b o e => ?_) ?_ pr k1 k2 k3 sr9
      · have e5 := s6 _ _ e
        have ny : b ≠ y := fun z => by
          have := s4 _ _ (s2 _ _ e)
          rw [z, hy] at this
          cases this
        exact b9 _ _ ny e5
      · cases e : H y with
        | none => rfl
        | some u =>
          have := s4 _ _ (s2 _ _ e)
          rw [hy] at this
          cases this
end
end Mk

set_option Elab.async false
set_option linter.all false
set_option maxRecDepth 100000
set_option maxHeartbeats 4000000
/-! the law -/
namespace Mk
open PySem PySem.Spec L2 PyProof.Rows

abbrev sLaw5 : Stmt := top 58
abbrev nLaw5 : List Str := ["_law_script", "_law_at", "_law_cup_here", "_law_letters", "_law_table", "_law_word", "_law_prices", "_law_row", "_law_turn", "_law_odd", "_law_value"]
theorem PrAt.but {C p x : Addr} {H H' : Hp} {n : Nat} {u1 u2 : PTab} {u3 : STab} (h : PrAt C H x u1 u2 u3) (B : But p H H') (P : Pot H p n) : PrAt C H' x u1 u2 u3 := by
  obtain ⟨dx, t, a, b, c, h1, h2, h3⟩ := h
  exact ⟨dx, t, a, b, c, B.at_ P h1 (fun _ _ _ z => nomatch z), B.at_ P h2 (fun _ _ _ z => nomatch z), h3.but B P⟩
theorem cutBut {p : Addr} {H : Hp} : But p H (cutH p H) := fun b o n e => by rw [cutH_ne n]; exact e
theorem exBut {p : Addr} {H0 H1 H2 : Hp} (k : LamX.ExtN (cutH p H0) H1) (B : But p H1 H2) : LamX.ExtN (cutH p H0) H2 := fun b o e n => by
  have nb : b ≠ p := fun z => by
    rw [z, show cutH p H0 p = none from if_pos rfl] at e
    cases e
  exact B b o nb (k b o e n)
theorem tabs_but {T : List (Addr × Str)} {p : Addr} {n : Nat} {H H1 : Hp} (h : LamX.Tabs T H) (hp : Pot H p n) (B : But p H H1) : LamX.Tabs T H1 := fun q hq => by
  obtain ⟨_, _, _, ep, _⟩ := hp
  obtain ⟨ps, h1, h2, h3⟩ := h q hq
  refine ⟨ps, B _ _ (fun z => by rw [z, ep] at h1; cases h1) h1, h2, fun pos cv hc => ?_⟩
  obtain ⟨c, e, h4⟩ := h3 pos cv hc
  refine ⟨c, e, B _ _ (fun z => ?_) h4⟩
  rw [z, ep] at h4
  cases h4
theorem pot_ext {p : Addr} {n : Nat} {H H1 : Hp} (h : Pot H p n) (k : LamX.ExtN H H1) : Pot H1 p n := by
  obtain ⟨u, m, c, e, r⟩ := h
  exact ⟨u, m, c, k _ _ e (fun _ z => nomatch z), r⟩
theorem rowOk_tup {ds : List PyData} (h : ∀ d ∈ ds, OkE d) (l : ds.length ≤ 20) : RowOk (.tuple ds) := by
  have w := shw_tuple (n := 1000) (k := 4) fun y hy => (h y hy).w
  refine ⟨fun es e => ?_, w.s, Nat.le_trans w.dp (by decide), Nat.le_trans w.l (Nat.le_trans (show ds.length * (1000 + 2) + 3 ≤ 100000 by omega) (by decide))⟩
  cases e
  exact ⟨l, fun x hx => (h x hx).c⟩
theorem rowOk_lst {ds : List PyData} (h : ∀ d ∈ ds, OkE d) (l : ds.length ≤ 20) : RowOk (.list ds) := by
  have w := shw_list (n := 1000) (k := 4) fun y hy => (h y hy).w
  exact ⟨fun es e => (nomatch e), w.s, Nat.le_trans w.dp (by decide), Nat.le_trans w.l (Nat.le_trans (show ds.length * (1000 + 2) + 2 ≤ 100000 by omega) (by decide))⟩
theorem rowOk_one {ds : List PyData} (h : ∀ d ∈ ds, OkC d ∧ Drn d) (l : ds.length ≤ 20) : RowOk (.tuple [.tuple ds]) := by
  have w1 := shw_tuple (n := 1000) (k := 4) fun y hy => (okE_drn (h y hy)).w
  have w := shw_tuple (n := ds.length * (1000 + 2) + 3) (k := 5) (xs := [.tuple ds]) fun y hy => by
    rw [List.mem_singleton.mp hy]
    exact w1
  refine ⟨fun es e => ?_, w.s, Nat.le_trans w.dp (by decide), Nat.le_trans w.l (Nat.le_trans (show 1 * (ds.length * (1000 + 2) + 3 + 2) + 3 ≤ 100000 by omega) (by decide))⟩
  cases e
  refine ⟨(by show 1 ≤ 20; decide), fun x hx es e => ?_⟩
  rw [List.mem_singleton.mp hx] at e
  cases e
  refine ⟨fun y hy => ?_, fun z hz => ?_⟩
  · have := okE_drn (h y hy)
    unfold SeqAt.shaped
    rw [Bool.and_eq_true]
    exact ⟨this.y, decide_eq_true (Nat.le_trans this.w.dp (by decide))⟩
  · obtain ⟨q, e, _⟩ := okE_drn0 (h _ hz).2
    unfold chOf at e
    split at e
    · cases e
    · split at e <;> cases e
theorem rowOk_non : RowOk .none := ⟨fun es e => (nomatch e), by decide +kernel, by decide +kernel, by decide +kernel⟩
theorem rowOk_out : RowOk (.str "out") := ⟨fun es e => (nomatch e), by decide +kernel, by decide +kernel, by decide +kernel⟩
theorem rowOk_0 : RowOk (.int 0) := ⟨fun es e => (nomatch e), by decide +kernel, by decide +kernel, by decide +kernel⟩
theorem rowOk_dic : RowOk (.dict []) := ⟨fun es e => (nomatch e), by decide +kernel, by decide +kernel, by decide +kernel⟩
theorem sgs_mul {z : Str} {n : Nat} (hn : 1 ≤ n) (h : ∀ x ∈ sgs z, sgB x = true) : ∀ x ∈ sgs (Txt.mul z (n : Int)), sgB x = true := fun x hx => by
  obtain ⟨c, hc, rfl⟩ := List.mem_map.mp hx
  exact h _ (List.mem_map.mpr ⟨c, mul_mem hn hc, rfl⟩)
def spLaw5 (K : PySem.W.Frag) (T : List (Addr × Str)) : Sp := fun vs H Q _ => ∃ (a : Addr) (ns : List Int), vs = [.ref a] ∧ SqL K H a (ns.map V.int) ∧ ns.length ≤ 63 ∧ LamX.Tabs T H ∧ ∀ H', Q (.bl true) H'
/-- what all rows of a case lean on -/
structure Bag (K : PySem.W.Frag) (C x L ta tb tc Rw : Addr) (t1 t2 u1 u2 : PTab) (t3 u3 : STab) (xs : List V) (ds : List PyData) (G : Hp) : Prop where
  px : PrAt C G x u1 u2 u3
  r : Rec G L ta tb tc t1 t2 t3
  e : G Rw = some (.lst xs)
  d : DpAll K G xs ds
theorem Bag.extN {K : PySem.W.Frag} {C x L ta tb tc Rw : Addr} {t1 t2 u1 u2 : PTab} {t3 u3 : STab} {xs : List V} {ds : List PyData} {G H : Hp} (h : Bag K C x L ta tb tc Rw t1 t2 u1 u2 t3 u3 xs ds G) (k : LamX.ExtN G H) : Bag K C x L ta tb tc Rw t1 t2 u1 u2 t3 u3 xs ds H :=
  ⟨h.px.extN k, h.r.extN k, k _ _ h.e (fun _ z => nomatch z), DpAll.extN k h.d⟩
section
variable {P : Program} {w : World} {K : PySem.W.Frag} {mg : Str → Option Value} {base : Heap}
theorem scLaw5 : FnScope nLaw5 ["_law_script"] (defScope sLaw5) := ⟨rfl, rfl, rfl, by decide +kernel, rfl, by decide +kernel, by decide +kernel⟩
theorem ok_law5 {f C : Addr} {fd : FuncData} {T : List (Addr × Str)} (F : Fun K "law" "law" sLaw5 f fd) (B : Bn mg) (O : On mg)
    (J1 : Cd P w K mg base 1 "_law_cup" ["_law_script", "_law_at"] (spFilled K)) (J2 : Cd P w K mg base 3 "_law_alphabet" ["_law_cup_here", "_law_most"] spAlph) (J3 : Cd P w K mg base 3 "_law_rates" ["_law_cup_here", "_law_letters", "_law_most"] spRates) (J4 : Cd P w K mg base 8 "_law_priced" ["_law_table"] (spMade C))
    (J5 : Cd P w K mg base 3 "_law_spelled" ["_law_cup_here", "_law_letters", "_law_most"] spSpell) (J6 : Cd P w K mg base 1 "_law_toss" ["_law_cup_here", "_law_total"] spDip) (J7 : Cd P w K mg base 4 "_law_steps_drawn" ["_law_cup_here", "_law_letters", "_law_word", "_law_most"] (spStepsD K))
    (J8 : Cd P w K mg base 4 "_law_spoiled" ["_law_cup_here", "_law_word", "_law_row"] (spSpoil K)) {r9 : Addr} {d9 : FuncData} (G9 : FnG P w K mg base CX0 9 r9 d9 ["_law_prices", "_law_table", "_law_word", "_law_row"] (spRowR K C T)) (m9 : mg "_law_row_right" = some (.ref r9)) (k9 : PySem.W.keepIn K (.ref r9) = true) (b9 : Binds K d9 ["_law_prices", "_law_table", "_law_word", "_law_row"] []) :
    FnG P w K mg base CX0 10 f fd ["_law_script"] (spLaw5 K T) := by
  obtain ⟨a1, d1, G1, m1, k1, b1⟩ := J1.ex
  obtain ⟨a2, d2, G2, m2, k2, b2⟩ := J2.ex
  obtain ⟨a3, d3, G3, m3, k3, b3⟩ := J3.ex
  obtain ⟨a4, d4, G4, m4, k4, b4⟩ := J4.ex
  obtain ⟨a5, d5, G5, m5, k5, b5⟩ := J5.ex
  obtain ⟨a6, d6, G6, m6, k6, b6⟩ := J6.ex
  obtain ⟨a7, d7, G7, m7, k7, b7⟩ := J7.ex
  obtain ⟨a8, d8, G8, m8, k8, b8⟩ := J8.ex
  refine Fun_okG F scLaw5 (fun vs H Q E h => ?_) (fun cdv A outer s H vs Q E hr gd h => ?_)
  · obtain ⟨a, ns, rfl, _⟩ := h
    rfl
  · obtain ⟨a, ns, rfl, hS, hlen, hT, q⟩ := h
    have hu := hu_of hr
    refine ⟨_, pss_cons (ps_for PassesOwn.never rfl (pi_range1 (by rfl) B.range (pa_cons (pe_callB (call_max2 rfl) (by rfl) B.max (by decide +kernel) (pa_cons pe_int (pa_cons (pe_callB (call_min2 rfl) (by rfl) B.min (by decide +kernel) (pa_cons pe_int (pa_cons (pe_callB call_len_seq (by rfl) B.len PySem.boot_len (pa_cons (pv 0) pa_nil)) pa_nil))) pa_nil))) pa_nil)) (pg_name (i := 1) scLaw5.nd rfl (.inl rfl))
        (pss_cons (ps_set (i := 2) scLaw5.nd rfl (.inl rfl) (pe_call G1 (hr.mono (by decide)) (by rfl) m1 k1 b1 .nil pass0 (pa_cons (pv 0) (pa_cons (pv 1) pa_nil))))
        (pss_cons (ps_set (i := 3) scLaw5.nd rfl (.inl rfl) (pe_call G2 (hr.mono (by decide)) (by rfl) m2 k2 b2 .nil pass0 (pa_cons (pv 2) (pa_cons pe_int pa_nil))))
        (pss_cons (ps_par (i := 4) (j := 5) rfl scLaw5.nd rfl rfl (by decide) rfl rfl (pa_cons (pe_call G3 (hr.mono (by decide)) (by rfl) m3 k3 b3 .nil pass0 (pa_cons (pv 2) (pa_cons (pv 3) (pa_cons pe_int pa_nil)))) (pa_cons (pe_call G5 (hr.mono (by decide)) (by rfl) m5 k5 b5 .nil pass0 (pa_cons (pv 2) (pa_cons (pv 3) (pa_cons pe_int pa_nil)))) pa_nil)) (by rfl))
        (pss_cons (ps_if (pt_cmpR op_eq (pe_call G6 (hr.mono (by decide)) (by rfl) m6 k6 b6 .nil pass0 (pa_cons (pv 2) (pa_cons pe_int pa_nil))) pe_int (nomark _)) (pss_one (ps_set (i := 5) scLaw5.nd rfl (.inl rfl) (pe_op op_mulS (pv 5) pe_int))) pss_nil)
        (pss_cons (ps_par (i := 6) (j := 7) rfl scLaw5.nd rfl rfl (by decide) rfl rfl (pa_cons (pe_call G4 (hr.mono (by decide)) (by rfl) m4 k4 b4 .nil pass0 (pa_cons (pv 4) pa_nil)) (pa_cons (pe_call G7 (hr.mono (by decide)) (by rfl) m7 k7 b7 .nil pass0 (pa_cons (pv 2) (pa_cons (pv 3) (pa_cons (pv 5) (pa_cons pe_int pa_nil))))) pa_nil)) (by rfl))
        (pss_cons (ps_if (pt_not (pt_val (pe_callG G9 hr gd (by rfl) m9 k9 b9 pass0 (pa_cons (pv 6) (pa_cons (pv 4) (pa_cons (pv 5) (pa_cons (pe_callTy call_tuple_of (by rfl) O.tuple (by decide +kernel) (pa_cons (pv 7) pa_nil)) pa_nil))))))) (pss_one (ps_ret pe_bl)) pss_nil)
        (pss_cons (ps_for PassesOwn.never rfl (pi_range1 (by rfl) B.range (pa_cons pe_int pa_nil)) (pg_name (i := 8) scLaw5.nd rfl (.inl rfl))
          (pss_cons (ps_set (i := 9) scLaw5.nd rfl (.inl rfl) (pe_call G8 (hr.mono (by decide)) (by rfl) m8 k8 b8 .nil pass0 (pa_cons (pv 2) (pa_cons (pv 5) (pa_cons (pv 7) pa_nil)))))
          (pss_cons (ps_if (pt_cmpR op_eq (pv 8) pe_int (nomark _)) (pss_one (ps_set (i := 9) scLaw5.nd rfl (.inl rfl) (pe_call G8 (hr.mono (by decide)) (by rfl) m8 k8 b8 .nil pass0 (pa_cons (pv 2) (pa_cons (pv 5) (pa_cons (pv 9) pa_nil)))))) pss_nil)
          (pss_one (ps_if (pt_not (pt_val (pe_callG G9 hr gd (by rfl) m9 k9 b9 pass0 (pa_cons (pv 6) (pa_cons (pv 4) (pa_cons (pv 5) (pa_cons (pe_callTy call_tuple_of (by rfl) O.tuple (by decide +kernel) (pa_cons (pv 9) pa_nil)) pa_nil))))))) (pss_one (ps_ret pe_bl)) pss_nil)))))
        (pss_one (ps_for PassesOwn.never rfl (pi_list (pe_lst (pa_cons pe_non (pa_cons (pe_callTy call_list_of (by rfl) B.list (by decide +kernel) (pa_cons (pv 7) pa_nil)) (pa_cons (pe_tup (pa_cons (pe_callTy call_tuple_of (by rfl) O.tuple (by decide +kernel) (pa_cons (pv 7) pa_nil)) pa_nil)) (pa_cons pe_str (pa_cons pe_int (pa_cons pe_dnewK pa_nil)))))))) (pg_name (i := 10) scLaw5.nd rfl (.inl rfl))
          (pss_one (ps_if (pt_not (pt_val (pe_callG G9 hr gd (by rfl) m9 k9 b9 pass0 (pa_cons (pv 6) (pa_cons (pv 4) (pa_cons (pv 5) (pa_cons (pv 10) pa_nil))))))) (pss_one (ps_ret pe_bl)) pss_nil))))))))))))
      (pss_one (ps_ret pe_bl)), ?_⟩
    refine ⟨_, rfl, a, _, rfl, .inl hS, 8, _, rfl, 1, _, rfl, _, rfl, ?_, ?_, ?_⟩
    · split <;> (try split) <;> omega
    · split <;> (try split) <;> omega
    have few : ∀ z : Int, (if (if z < 8 then z else 8) > 1 then (if z < 8 then z else 8) else 1).toNat ≤ 8 := fun z => by split <;> (try split) <;> omega
    have fewz := few ((ns.map V.int).length : Nat)
    have big : ∀ {n : Nat}, n ≤ 1000 → n ≤ sizeLine := fun h1 => Nat.le_trans h1 (by decide)
    refine for_range (lo := 0) (n := Int.toNat _) (fun i σ H1 => (∃ o1 o2 o3 o4 o5 o6 o7 o8 o9 o10, σ = [some (.ref a), o1, o2, o3, o4, o5, o6, o7, o8, o9, o10]) ∧ SqL K H1 a (ns.map V.int) ∧ LamX.Tabs T H1) ⟨⟨_, _, _, _, _, _, _, _, _, _, rfl⟩, hS, hT⟩ ?_ ?_
    · rintro i σ H1 hi ⟨⟨o1, o2, o3, o4, o5, o6, o7, o8, o9, o10, rfl⟩, hS1, T1⟩
      refine ⟨_, rfl, _, rfl, a, ns, i, (by show [V.ref a, V.int (0 + (i : Int))] = _; rw [Int.zero_add]), hS1, hlen, (by omega), fun H2 p s2 p0 P2 => ?_⟩
      have T2 := tabs_same T1 s2
      have cS2 : SqL K (cutH p H2) a (ns.map V.int) := SqL.extN (ExtN.intoCut (sameN s2) p0) hS1
      clear T1 hS1 s2 p0 H1
      -- the letters, the tables, the word
      refine ⟨_, rfl, ?_⟩
      unfold spAlph
      refine ⟨p, 0, rfl, P2, by decide, fun H3 S zs B3 S0 eS sg lzs P3 => ?_⟩
      have T3 := tabs_but T2 P2 B3
      have cS3 := SqL.extN (sameN B3.cut) cS2
      refine ⟨_, rfl, _, rfl, p, S, 6, zs, rfl, P3, by decide, eS, sg, lzs, fun H4 L ta tb tc t1 t2 t3 B4 r R kk1 kk2 P4 => ?_⟩
      have T4 := tabs_but T3 P3 B4
      have cS4 := SqL.extN (sameN B4.cut) cS3
      have eS4 := B4.at_ P3 eS strs_not
      refine ⟨_, rfl, _, rfl, p, S, 106, 9, zs, rfl, by decide, P4, by decide, eS4, sg, lzs, fun H5 z B5 P5 hz lz9 => ?_⟩
      have T5 := tabs_but T4 P4 B5
      have cS5 := SqL.extN (sameN B5.cut) cS4
      have eS5 := B5.at_ P4 eS4 strs_not
      have r5 := r.but B5 P4
      have hsz : ∀ x ∈ sgs z, sgB x = true := fun x hx => sg.sg x (hz x hx)
      refine ⟨_, _, rfl, ?_⟩
      refine ⟨_, rfl, p, 116, 6, rfl, P5, by decide, by decide, by decide, fun H6 k B6 _ P6 _ _ => ?_⟩
      have T6 := tabs_but T5 P5 B6
      have cS6 := SqL.extN (sameN B6.cut) cS5
      have eS6 := B6.at_ P5 eS5 strs_not
      have r6 := r5.but B6 P5
      clear T2 T3 T4 T5 cS2 cS3 cS4 cS5 eS eS4 eS5 r r5 B3 B4 B5 B6 P2 P3 P4 P5 S0
      refine ⟨rfl, _, rfl, ?_⟩
      apply by_wayS (fun v H' => (∃ z : Str, v = .str z ∧ z.length ≤ 900 ∧ ∀ x ∈ sgs z, sgB x = true) ∧ H' = H6)
      · intro kk
        by_cases c : V.int k = V.int 0
        · rw [decide_eq_true c]
          refine iteT ⟨_, rfl, z, 99, rfl, rfl, by decide, by decide, by omega, ?_⟩
          obtain ⟨v, hv⟩ : ∃ v, v = V.str (Txt.mul z (99 : Nat)) := ⟨_, rfl⟩
          rw [← hv]
          exact kk v H6 ⟨⟨_, hv, by rw [mul_len z 99 (by decide)]; omega, sgs_mul (by decide) hsz⟩, rfl⟩
        · rw [decide_eq_false c]
          obtain ⟨v, hv⟩ : ∃ v, v = V.str z := ⟨_, rfl⟩
          rw [← hv]
          exact iteF (kk v H6 ⟨⟨z, hv, by omega, hsz⟩, rfl⟩)
      rintro v _ ⟨⟨z, rfl, lz, hsz⟩, rfl⟩
      -- the prices, the row
      refine ⟨_, rfl, L, ta, tb, tc, t1, t2, t3, rfl, r6, R, fun H7 x u1 u2 u3 s7 x0 px pu1 pu2 pu3 sru => ?_⟩
      have T7 := tabs_same T6 s7
      have P7 := pot_same s7 P6
      have cS7 := SqL.extN (sameN (Same.cut (p := p) s7)) cS6
      refine ⟨_, rfl, _, rfl, _, rfl, p, S, 117, zs, z, rfl, P7, by decide, s7 _ _ eS6, sg, lzs, lz, hsz, fun H8 Rw xs ds B8 R0 Rp eR dA okd lds P8 => ⟨_, _, rfl, ?_⟩⟩
      have T8 := tabs_but T7 P7 B8
      have cS8 := SqL.extN (sameN B8.cut) cS7
      have bag : Bag K C x L ta tb tc Rw t1 t2 u1 u2 t3 u3 xs ds (cutH p H8) := ⟨(px.but B8 P7).but cutBut P8, ((r6.same s7).but B8 P7).but cutBut P8, (cutH_ne Rp).trans eR, dA⟩
      have okE : ∀ d ∈ ds, OkE d := fun d hd => okE_drn (okd d hd)
      have e8 : LamX.ExtN (cutH p H8) H8 := sameN cutH_same
      have judge : ∀ {H' : Hp} {v : V} {d : PyData} {Q' : VK} {E' : XK}, LamX.ExtN (cutH p H8) H' → LamX.Tabs T H' → Dv K H' v d → RowOk d → (∀ H2, LamX.ExtN H' H2 → LamX.Tabs T H2 → Q' (.bl true) H2) → spRowR K C T [.ref x, .ref L, .str z, v] H' Q' E' := fun {H' v d Q' E'} e t dv ok qq =>
        ⟨x, L, ta, tb, tc, z, v, d, t1, t2, u1, u2, t3, u3, rfl, bag.px.extN e, sru, pu1, pu2, pu3, bag.r.extN e, R, dv, ok, by omega, hsz, t, qq⟩
      have tupOf : ∀ {H' : Hp} {ws : List V} {es : List PyData} {t : Addr}, DpAll K (cutH p H') ws es → H' t = none → Dv K (upd H' t (.tup ws)) (.ref t) (.tuple es) := fun {H' ws es t} d ht => .of (.tup (SqT.of upd_same) (DpAll.keep ((cutH_same (p := p) (H := H')).trans (Same.new ht)) d))
      clear T6 T7 cS6 cS7 P6 P7 eS6 r6 px s7 B8
      refine ⟨_, rfl, _, rfl, _, rfl, _, rfl, ?_⟩
      dsimp only [tNil]
      refine ⟨Rw, _, rfl, .inl ⟨SqL.of eR, fun t ht => judge (e8.trans (sameN (Same.new ht))) (tabs_new T8 ht) (tupOf dA ht) (rowOk_tup okE (by omega)) fun H9 e9 T9 => ⟨_, rfl, iteF ?_⟩⟩⟩
      have e9 := e8.trans ((sameN (Same.new ht)).trans e9)
      have P9 := pot_ext P8 ((sameN (Same.new (o := .tup xs) ht)).trans ‹LamX.ExtN (upd H8 t (.tup xs)) H9›)
      refine ⟨4, rfl, by decide, by decide, for_range (lo := 0) (n := 4) (fun j σ H' => (∃ o8 o9, σ = [some (.ref a), some (.int (0 + (i : Int))), some (.ref p), some (.ref S), some (.ref L), some (.str z), some (.ref x), some (.ref Rw), o8, o9, o10]) ∧ LamX.ExtN (cutH p H8) H' ∧ LamX.Tabs T H' ∧ Pot H' p (400 + 20 * j)) ⟨⟨_, _, rfl⟩, e9, T9, P9.mono (by decide)⟩ ?_ ?_⟩
      · rintro j σ Ha hj ⟨⟨o8', o9', rfl⟩, ea, Ta, Pa⟩
        have ba := bag.extN (ExtN.intoCut ea (if_pos rfl))
        refine ⟨_, rfl, _, rfl, _, rfl, p, Rw, 400 + 20 * j, z, xs, ds, rfl, Pa, Nat.lt_of_le_of_lt (show 400 + 20 * j + 10 ≤ 1000 by omega) (by decide), Rp, (bag.extN ea).e, ba.d, okE, by omega, lz, hsz, fun Hb M ws es Bb Mp eM dM okM lM Pb => ?_⟩
        have eb := exBut ea Bb
        have Tb := tabs_but Ta Pa Bb
        refine ⟨_, rfl, rfl, _, rfl, ?_⟩
        apply by_wayS (fun v H' => ∃ M ws es, v = V.ref M ∧ LamX.ExtN (cutH p H8) H' ∧ LamX.Tabs T H' ∧ Pot H' p (400 + 20 * j + 20) ∧ H' M = some (.lst ws) ∧ DpAll K (cutH p H') ws es ∧ (∀ d ∈ es, OkE d) ∧ es.length ≤ 20)
        · intro kk
          by_cases c : V.int (0 + (j : Int)) = V.int 3
          · rw [decide_eq_true c]
            refine iteT ⟨_, rfl, _, rfl, _, rfl, p, M, 400 + 20 * j + 10, z, ws, es, rfl, Pb, Nat.lt_of_le_of_lt (show 400 + 20 * j + 10 + 10 ≤ 1000 by omega) (by decide), Mp, eM, dM, okM, by omega, lz, hsz, fun Hc M2 ws2 es2 Bc Mp2 eM2 dM2 okM2 lM2 Pc => ?_⟩
            obtain ⟨v, hv⟩ : ∃ v, v = V.ref M2 := ⟨_, rfl⟩
            rw [← hv]
            exact kk v Hc ⟨M2, ws2, es2, hv, exBut eb Bc, tabs_but Tb Pb Bc, Pc.mono (by omega), eM2, dM2, okM2, by omega⟩
          · rw [decide_eq_false c]
            obtain ⟨v, hv⟩ : ∃ v, v = V.ref M := ⟨_, rfl⟩
            rw [← hv]
            exact iteF (kk v Hb ⟨M, ws, es, hv, eb, Tb, Pb.mono (by omega), eM, dM, okM, by omega⟩)
        rintro v Hc ⟨M, ws, es, rfl, ec, Tc, Pc, eM, dM, okM, lM⟩
        refine ⟨_, rfl, _, rfl, _, rfl, _, rfl, ?_⟩
        dsimp only [tNil]
        refine ⟨M, _, rfl, .inl ⟨SqL.of eM, fun t ht => judge (ec.trans (sameN (Same.new ht))) (tabs_new Tc ht) (tupOf dM ht) (rowOk_tup okM lM) fun Hd ed Td => ⟨_, rfl, iteF ⟨⟨_, _, rfl⟩, ec.trans ((sameN (Same.new ht)).trans ed), Td, ?_⟩⟩⟩⟩
        exact (pot_ext Pc ((sameN (Same.new ht)).trans ed)).mono (by omega)
      · rintro σ Ha ⟨⟨o8', o9', rfl⟩, ea, Ta, Pa⟩
        have ba := bag.extN (ExtN.intoCut ea (if_pos rfl))
        have dXs := DpAll.keep cutH_same ba.d
        have eRa := (bag.extN ea).e
        clear ba Pa T9 e9 P9 P8
        refine ⟨_, rfl, ?_⟩
        dsimp only [tNil]
        refine ⟨Rw, xs, rfl, .inl (SqL.of eRa), fun l hl => ?_⟩
        have q1 := Same.new (o := .lst xs) hl
        have el : (upd Ha l (.lst xs)) l = some (.lst xs) := upd_same
        have dX1 := DpAll.keep q1 dXs
        have eR1 := q1 _ _ eRa
        generalize upd Ha l (.lst xs) = Hb at q1 el dX1 eR1 ⊢
        refine ⟨_, rfl, Rw, _, rfl, .inl ⟨SqL.of eR1, fun t ht => ?_⟩⟩
        have q2 := Same.new (o := .tup xs) ht
        have et : (upd Hb t (.tup xs)) t = some (.tup xs) := upd_same
        have el2 := q2 _ _ el
        have dX2 := DpAll.keep q2 dX1
        generalize upd Hb t (.tup xs) = Hc at q2 et el2 dX2 ⊢
        refine ⟨big (by show 1 ≤ 1000; decide), fun tt htt => ?_⟩
        have q3 := Same.new (o := .tup [V.ref t]) htt
        have ett : (upd Hc tt (.tup [V.ref t])) tt = some (.tup [V.ref t]) := upd_same
        have et3 := q3 _ _ et
        have el3 := q3 _ _ el2
        have dX3 := DpAll.keep q3 dX2
        generalize upd Hc tt (.tup [V.ref t]) = Hd at q3 ett et3 el3 dX3 ⊢
        refine fun dc hdc => ?_
        have q4 := Same.new (o := .dK []) hdc
        have edc : (upd Hd dc (.dK [])) dc = some (.dK []) := upd_same
        have ett4 := q4 _ _ ett
        have et4 := q4 _ _ et3
        have el4 := q4 _ _ el3
        have dX4 := DpAll.keep q4 dX3
        generalize upd Hd dc (.dK []) = He at q4 edc ett4 et4 el4 dX4 ⊢
        refine ⟨big (by show 6 ≤ 1000; decide), fun Lv hLv => ?_⟩
        have q5 := Same.new (o := .lst [V.non, V.ref l, V.ref tt, V.str "out", V.int 0, V.ref dc]) hLv
        have eLv : (upd He Lv (.lst [V.non, V.ref l, V.ref tt, V.str "out", V.int 0, V.ref dc])) Lv = some (.lst [V.non, V.ref l, V.ref tt, V.str "out", V.int 0, V.ref dc]) := upd_same
        have qz : Same Ha (upd He Lv (.lst [V.non, V.ref l, V.ref tt, V.str "out", V.int 0, V.ref dc])) := q1.trans (q2.trans (q3.trans (q4.trans q5)))
        have dX5 := DpAll.keep q5 dX4
        have vals : ∀ v ∈ [V.non, V.ref l, V.ref tt, V.str "out", V.int 0, V.ref dc], ∃ d, Dv K (upd He Lv (.lst [V.non, V.ref l, V.ref tt, V.str "out", V.int 0, V.ref dc])) v d ∧ RowOk d := fun v hv => by
          simp only [List.mem_cons, List.not_mem_nil, or_false] at hv
          rcases hv with rfl | rfl | rfl | rfl | rfl | rfl
          · exact ⟨_, .of .non, rowOk_non⟩
          · exact ⟨_, .of (.lst (SqL.of (q5 _ _ el4)) dX5), rowOk_lst okE (by omega)⟩
          · exact ⟨_, .of (.tup (SqT.of (q5 _ _ ett4)) (.cons (.tup (SqT.of (q5 _ _ et4)) dX5) .nil)), rowOk_one okd (by omega)⟩
          · exact ⟨_, .of (.str _), rowOk_out⟩
          · exact ⟨_, .of (.int 0), rowOk_0⟩
          · exact ⟨_, .dic (q5 _ _ edc), rowOk_dic⟩
        have Tz := tabs_same Ta qz
        have ez := ea.trans (sameN qz)
        generalize upd He Lv (.lst [V.non, V.ref l, V.ref tt, V.str "out", V.int 0, V.ref dc]) = Hz at eLv vals Tz ez ⊢
        generalize [V.non, V.ref l, V.ref tt, V.str "out", V.int 0, V.ref dc] = vv at eLv vals ⊢
        clear q1 q2 q3 q4 q5 qz dX1 dX2 dX3 dX4 dX5 el el2 el3 el4 et et3 et4 ett ett4 edc hl ht htt hdc hLv eR1
        refine ⟨Lv, rfl, ⟨_, SqL.of eLv⟩, for_it (D := { nx := fun σ H1 => (∃ o1 o2 o3 o4 o5 o6 o7 o8 o9 o10, σ = [some (.ref a), o1, o2, o3, o4, o5, o6, o7, o8, o9, o10]) ∧ SqL K H1 a (ns.map V.int) ∧ LamX.Tabs T H1, rt := Q }) (walk_list (K := K) (a := Lv) (xs := vv)) (fun j σ H' => (∃ o10', σ = [some (.ref a), some (.int (0 + (i : Int))), some (.ref p), some (.ref S), some (.ref L), some (.str z), some (.ref x), some (.ref Rw), o8', o9', o10']) ∧ LamX.ExtN Hz H' ∧ LamX.Tabs T H') ⟨⟨o10, rfl⟩, LamX.ExtN.refl _, Tz⟩ (fun j σ H' _ h' => SqL.of (h'.2.1 _ _ eLv (fun _ z => nomatch z))) ?_ ?_⟩
        · rintro j v σ H1 H2 hj ⟨⟨o10', rfl⟩, e1, T1⟩ ⟨rfl, hv⟩
          obtain ⟨d, dv, okv⟩ := vals v (List.mem_of_getElem? hv)
          refine ⟨_, rfl, _, rfl, _, rfl, _, rfl, ?_⟩
          dsimp only [tNil]
          exact judge (ez.trans e1) T1 (Dv.extN e1 dv) okv fun H3 e3 T3 => ⟨_, rfl, iteF ⟨⟨_, rfl⟩, e1.trans e3, T3⟩⟩
        · rintro σ H1 ⟨⟨o10', rfl⟩, e1, T1⟩
          exact ⟨⟨_, _, _, _, _, _, _, _, _, _, rfl⟩, SqL.extN (ez.trans e1) cS8, T1⟩
    · rintro σ H1 ⟨⟨o1, o2, o3, o4, o5, o6, o7, o8, o9, o10, rfl⟩, _, _⟩
      exact q _
end
end Mk

set_option Elab.async false
set_option linter.all false
set_option maxRecDepth 100000
set_option maxHeartbeats 4000000
namespace Mk
open PySem PySem.Spec PyProof.Rows L2

/-! ### the end of a law where nothing is being printed, with one code table -/
section
variable {P : Program} {w : World} {K : PySem.W.Frag} {mg mb : Str → Option Value} {CX : CXT} {k : Nat} {fa a c tb : Addr} {fd : FuncData} {x : Str} {sp : Sp} {s1 : Shared} {vs : List Value} {ns : List Int}
theorem lawT (kin : K.In s1.heap) (hns : s1.heap.Ns mainGlobals mg) (hb : s1.heap.Ns builtinsNs mb) (hbb : ∀ x : Str, x ≠ "__name__" → mb x = bootBuiltins x) (nol : s1.heap.NoLimit) (hg : s1.gens = #[])
    (hbm : ∃ bm ob, mg (Str.ofString "__builtins__") = some (Value.ref bm) ∧ bm ≠ builtinsNs ∧ s1.heap.get? bm = some ob ∧ ob.cls = Value.type "module" ∧ ob.dict = some builtinsNs ∧ ob.data = Data.plain)
    (tab0 : s1.heap.get? tb = some (PySem.W.tabObj #[])) (tabK : K.lookup tb = none) (cod : PySem.W.CodeHd s1.heap c tb)
    (at0 : s1.heap.get? a = some { cls := .type "list", data := .seq vs.toArray }) (hi : IntsAre vs ns) (hl : ns.length ≤ sizeLine) (hr : Room k callerA)
    (F : ∀ base : Heap, K.In base → base.Ns mainGlobals mg → LamX.TabB base mg c tb → FnG P w K mg base CX k fa fd [x] sp) (bd : ∀ (s : Shared) (u : Value), BindsTo s fd ⟨[u], []⟩ [(x, u)])
    (hsp : ∀ H : Hp, H tb = some (.tbl #[]) → SqL K H a (ns.map V.int) → sp [.ref a] H (fun v _ => v = .bl true) fun _ _ _ => False)
    (hCX : ∀ H e s', CX [] H s1 (fun _ _ _ => False) e s' → False) :
    codeAny (model P w) callerA (.call (.ref fa) ⟨[.ref a], []⟩) (fun r s' => r = .ok (.ret (.bool true)) ∧ OldK s1.heap s'.heap ∧ s'.os = s1.os ∧ AllBare s'.gens) s1 := by
  have rv := vals_ints hi
  have ne : a ≠ tb := fun z => by
    rw [z, tab0] at at0
    cases at0
  have core : ∀ H : Hp, (∀ b, H b = none ∨ (∃ ob xs, H b = some (.frz ob xs)) ∨ (b = tb ∧ H b = some (.tbl #[]))) → H tb = some (.tbl #[]) → SqL K H a (ns.map V.int) → HOk P w H s1.heap → (∀ b, H b ≠ none → b = a ∨ b = tb) → (H a ≠ none → K.lookup a = none) →
      codeAny (model P w) callerA (.call (.ref fa) ⟨[.ref a], []⟩) (fun r s' => r = .ok (.ret (.bool true)) ∧ OldK s1.heap s'.heap ∧ s'.os = s1.os ∧ AllBare s'.gens) s1 := by
    intro H hO hT hS ok only noK
    have free : ∀ {b : Addr} {o : Obj}, s1.heap.get? b = some o → b ≠ a → b ≠ tb → H b = none := fun {b o} _ n1 n2 => by
      cases q : H b with
      | none => rfl
      | some u =>
        rcases only b (by rw [q]; exact fun z => nomatch z) with z | z
        · exact absurd z n1
        · exact absurd z n2
    have nsH : ∀ {b : Addr} {m : Str → Option Value}, s1.heap.Ns b m → (hidT s1.heap H).Ns b m := fun {b m} ⟨o, es, ep, e, d, r⟩ => by
      refine ⟨o, es, ep, hidT_get e (free e (fun z => ?_) fun z => ?_), d, r⟩
      · rw [z, at0] at e
        cases e
        cases d
      · rw [z, tab0] at e
        cases e
        cases d
    have kinH : K.In (hidT s1.heap H) := fun b o e => by
      have e1 := kin b o e
      cases q : H b with
      | none => exact hidT_get e1 q
      | some u =>
        rcases only b (by rw [q]; exact fun z => nomatch z) with z | z
        · subst z
          rw [noK (by rw [q]; exact fun z => nomatch z)] at e
          cases e
        · subst z
          rw [tabK] at e
          cases e
    have TB : LamX.TabB (hidT s1.heap H) mg c tb := by
      obtain ⟨o, us, fl, tf, fg, tg, inF, tx, tt, e1, q1, q2, q3, q4, q5, q6, q7, q8, qn⟩ := cod
      refine ⟨⟨o, us, fl, tf, fg, tg, inF, tx, tt, hidT_get e1 (free e1 (fun z => ?_) qn), q1, q2, q3, q4, q5, q6, q7, q8, qn⟩, ?_, fun z => ?_⟩
      · rw [z, at0] at e1
        cases e1
        cases q2
      · obtain ⟨bm, ob, h1, h2, h3, h4, h5, h6⟩ := hbm
        have n1 : bm ≠ tb := fun z => by
          rw [z, tab0] at h3
          cases h3
          cases h4
        refine ⟨bm, ob, h1, h2, fun z => ?_, n1, hidT_get h3 (free h3 (fun z => ?_) n1), h4, h5, h6⟩
        · obtain ⟨o2, es, ep, e2, d2, r2⟩ := hns
          rw [z, e2] at h3
          cases h3
          rw [d2] at h6
          cases h6
        · rw [z, at0] at h3
          cases h3
          cases h6
      · obtain ⟨o2, es, ep, e2, d2, r2⟩ := hns
        rw [z, tab0] at e2
        cases e2
        cases d2
    have M0 : L2.Mod K mg (hidT s1.heap H) := ⟨kinH, nsH hns, ⟨mb, nsH hb, hbb⟩, let ⟨mc, h1, h2⟩ := nol; ⟨mc, nsH h1, h2⟩⟩
    have e0 : Env0 P w K mg (hidT s1.heap H) callerA [] s1 H := ⟨rfl, M0, fun b o e => of_hidT e, Nat.le_of_eq (hidT_size _ _), trivial, fun b z => absurd (show b ∈ ([] : List Addr) from z) (by simp), ok, .of_eq hg⟩
    refine codeAny_mono ((F _ kinH (nsH hns) TB).go callerA [] s1 H ⟨[.ref a], []⟩ [.ref a] [.ref a] _ _ hr rfl e0 (bd s1 (.ref a)) (.cons rfl .nil) (hsp H hT hS)) fun r s' z => ?_
    match r, z with
    | .error e, z => exact (hCX H e s' z).elim
    | .ok .next, z => exact False.elim z
    | .ok .brk, z => exact False.elim z
    | .ok .cont, z => exact False.elim z
    | .ok (.ret u), ⟨v, H', os, bare, un, ok', rel, q⟩ =>
      obtain rfl : v = V.bl true := q
      obtain rfl : u = Value.bool true := rel
      have hold : ∀ (b : Addr) (o : Obj), s1.heap.get? b = some o → asItWas s1.heap s'.heap b o ∧ ∃ o', s'.heap.get? b = some o' := fun b o e => by
        rcases hO b with z | ⟨ob, xs, z⟩ | ⟨z1, z⟩
        · have k1 := un.keep b o e z (fun q => absurd (show b ∈ ([] : List Addr) from q) (by simp)) (by simp)
          exact ⟨.inl k1, _, k1⟩
        · have e1 := (ok b _ z).1
          have e2 := (ok' b _ (un.frzs b ob _ z)).1
          rw [e] at e1
          cases e1
          exact ⟨.inl e2, _, e2⟩
        · obtain ⟨more, t1⟩ := un.tbls b _ z
          have e2 : s'.heap.get? b = some (PySem.W.tabObj (#[] ++ more)) := ok' b _ t1
          subst z1
          rw [tab0] at e
          cases e
          exact ⟨.inr (.inl ⟨(cod.tab tab0).isCodeTable, rfl, #[], more, rfl, e2⟩), _, e2⟩
      exact ⟨rfl, ⟨fun b o e => (hold b o e).1, fun b o e => (hold b o e).2⟩, os, bare⟩
  have okT : ∀ H : Hp, ObjOk P w H s1.heap tb (.tbl #[]) := fun H => tab0
  cases q : K.lookup a with
  | some o =>
    have e := kin a o q
    rw [at0] at e
    cases e
    have self : ∀ {b : Addr} {u : HO}, (if b = tb then some (HO.tbl #[]) else none) = some u → b = tb ∧ u = .tbl #[] := fun {b u} z => by
      by_cases c : b = tb
      · rw [if_pos c] at z
        exact ⟨c, (Option.some.inj z).symm⟩
      · rw [if_neg c] at z
        cases z
    refine core (fun b => if b = tb then some (.tbl #[]) else none) (fun b => ?_) (if_pos rfl) (.inr ⟨_, vs.toArray, _, q, rfl, rfl, rfl, by rw [List.size_toArray, hi.length]; exact hl, by simpa using rv⟩) (fun b u z => ?_) (fun b z => ?_) fun z => absurd (if_neg ne) z
    · by_cases c : b = tb
      · exact .inr (.inr ⟨c, if_pos c⟩)
      · exact .inl (if_neg c)
    · obtain ⟨rfl, rfl⟩ := self z
      exact tab0
    · by_cases c : b = tb
      · exact .inr c
      · exact absurd (if_neg c) z
  | none =>
    have self : ∀ {b : Addr} {u : HO}, (if b = a then some (HO.frz { cls := .type "list", data := .seq vs.toArray } (.lst (ns.map V.int))) else if b = tb then some (HO.tbl #[]) else none) = some u → (b = a ∧ u = .frz { cls := .type "list", data := .seq vs.toArray } (.lst (ns.map V.int))) ∨ (b = tb ∧ u = .tbl #[]) := fun {b u} z => by
      by_cases c : b = a
      · rw [if_pos c] at z
        exact .inl ⟨c, (Option.some.inj z).symm⟩
      · rw [if_neg c] at z
        by_cases c2 : b = tb
        · rw [if_pos c2] at z
          exact .inr ⟨c2, (Option.some.inj z).symm⟩
        · rw [if_neg c2] at z
          cases z
    have ht2 : (if tb = a then some (HO.frz { cls := .type "list", data := .seq vs.toArray } (.lst (ns.map V.int))) else if tb = tb then some (HO.tbl #[]) else none) = some (.tbl #[]) := by
      rw [if_neg (fun z => ne z.symm), if_pos rfl]
    refine core (fun b => if b = a then some (.frz { cls := .type "list", data := .seq vs.toArray } (.lst (ns.map V.int))) else if b = tb then some (.tbl #[]) else none) (fun b => ?_) ht2 (.inl (.inr ⟨_, if_pos rfl⟩)) (fun b u z => ?_) (fun b z => ?_) fun _ => q
    · by_cases c : b = a
      · exact .inr (.inl ⟨_, _, if_pos c⟩)
      · by_cases c2 : b = tb
        · refine .inr (.inr ⟨c2, ?_⟩)
          show (if b = a then _ else if b = tb then _ else none) = _
          rw [if_neg c, if_pos c2]
        · refine .inl ?_
          show (if b = a then _ else if b = tb then _ else none) = _
          rw [if_neg c, if_neg c2]
    · rcases self z with ⟨rfl, rfl⟩ | ⟨rfl, rfl⟩
      · exact ⟨at0, by rw [List.length_map]; exact hl, vs, _, rv, at0⟩
      · exact tab0
    · by_cases c : b = a
      · exact .inl c
      · by_cases c2 : b = tb
        · exact .inr c2
        · refine absurd ?_ z
          show (if b = a then _ else if b = tb then _ else none) = _
          rw [if_neg c, if_neg c2]
end
/-- the goal that k_head leaves, from the law's promise and its code table -/
theorem walk_ofTG {l : PySem.W.OpenLaw} {n k : Nat} {q : Program} {loose : List Str} {XP : (Str → Option Value) → Heap → Prop} {YP : World → Heap → Prop} {d : DefRec} {K : Params → PySem.W.Frag} {x : Str}
    (hn : l.most = some n) (hn2 : n ≤ sizeLine) (hdf : d.params.defaults = []) (hr : Room k callerA) (hY : ∀ (w : World) (h : Heap), YP w h → (K w.params).In h)
    (F : ∀ (w : World) (mg mb : Str → Option Value) (mean : ExcName → Option Value) (fa : Addr) (h : Heap), (K w.params).In h → Top q (PySem.W.looseW q loose) mean mg mb h → XP mg h → mg d.name = some (.ref fa) →
      ∃ (fd : FuncData) (c tb : Addr) (sp : Sp), h.get? tb = some (PySem.W.tabObj #[]) ∧ (K w.params).lookup tb = none ∧ PySem.W.CodeHd h c tb ∧ (∀ (s : Shared) (u : Value), BindsTo s fd ⟨[u], []⟩ [(x, u)]) ∧
        (∀ (H : Hp) (a : Addr) (ns : List Int), ns.length ≤ n → H tb = some (.tbl #[]) → SqL (K w.params) H a (ns.map V.int) → sp [.ref a] H (fun v _ => v = .bl true) fun _ _ _ => False) ∧
        ∀ base : Heap, (K w.params).In base → base.Ns mainGlobals mg → LamX.TabB base mg c tb → FnG l.prog w (K w.params) mg base CX0 k fa fd [x] sp) :
    PySem.W.WalkO q loose XP YP l.row.toRowW d [] (fun f vs => PySem.call f vs) := by
  refine Att.attach_call hn hdf fun w s0 s1 mg mb fa o pm cd doc a vs ns G Y ho hd hcd hmg hobj hints hlen hg => ?_
  have kin := hY w _ Y
  obtain ⟨fd, c, tb, sp, t0, tK, cod, bd, hsp, hF⟩ := F w mg mb _ fa _ kin G.T G.X hmg
  exact lawT kin G.T.g G.T.b G.T.builtins G.T.nolimit hg G.T.bmain t0 tK cod hobj hints (Nat.le_trans hlen hn2) hr hF bd (fun H hT hS => hsp H a ns hlen hT hS) fun _ _ _ z => z
end Mk

set_option Elab.async false
set_option linter.all false
set_option maxRecDepth 100000
set_option maxHeartbeats 4000000
namespace Mk
open PySem PySem.Spec PyProof.Rows L2

/-! ### what the top has written -/
structure Df (K : PySem.W.Frag) (x : Str) (st : Stmt) (f : Addr) : Prop where
  at_ : PySem.W.nsIn K mainGlobals x = some (some (.ref f))
  fn : ∃ fd, Fun K x x st f fd
theorem df_mk {K : PySem.W.Frag} {x : Str} {st : Stmt} {f : Addr} {oc kV doc pm cd ct : Value} {od an : Option Addr} {sl : Array (Option Value)} (a : PySem.W.nsIn K mainGlobals x = some (some (.ref f)))
    (l : K.lookup f = some ⟨oc, od, .func (PySem.W.fnOf x x (defArgs st) (defBody st) (defScope st) .none kV doc pm an cd ct), sl⟩) (c : PySem.W.codeIn K cd x = true) (k : PySem.W.keepIn K (.ref f) = true) : Df K x st f :=
  ⟨a, _, fun_mk (st := st) l c k⟩
/-- a def of the class -/
structure Mf (K : PySem.W.Frag) (C : Addr) (m qual : Str) (st : Stmt) (g : Addr) : Prop where
  find : PySem.W.findIn K (.ref C) m = some (some (.ref g))
  fun_ : PySem.W.isFn K (.ref g) = true
  fn : ∃ fd, Fun K m qual st g fd
theorem mf_mk {K : PySem.W.Frag} {C : Addr} {m qual : Str} {st : Stmt} {g : Addr} {oc kV doc pm cd ct : Value} {od an : Option Addr} {sl : Array (Option Value)} (a : PySem.W.findIn K (.ref C) m = some (some (.ref g))) (i : PySem.W.isFn K (.ref g) = true)
    (l : K.lookup g = some ⟨oc, od, .func (PySem.W.fnOf m qual (defArgs st) (defBody st) (defScope st) .none kV doc pm an cd ct), sl⟩) (c : PySem.W.codeIn K cd qual = true) (k : PySem.W.keepIn K (.ref g) = true) : Mf K C m qual st g :=
  ⟨a, i, _, fun_mk (st := st) l c k⟩
/-- a property of the class -/
structure Pf (K : PySem.W.Frag) (C : Addr) (m qual : Str) (st : Stmt) (p g : Addr) : Prop where
  of : PropOf K C m p g
  fn : ∃ fd, Fun K m qual st g fd
theorem pf_mk {K : PySem.W.Frag} {C : Addr} {m qual : Str} {st : Stmt} {p g : Addr} {rest : List Value} {oc kV doc pm cd ct : Value} {od an : Option Addr} {sl : Array (Option Value)} (a : PySem.W.findIn K (.ref C) m = some (some (.ref p)))
    (b : PySem.W.specialIn K (.ref p) "__get__" = some (some (.builtin "property.__get__"))) (t : PySem.W.takesIn K (.ref p) = some true) (r : PySem.W.recIn K p "property" = some (.ref g :: rest))
    (l : K.lookup g = some ⟨oc, od, .func (PySem.W.fnOf m qual (defArgs st) (defBody st) (defScope st) .none kV doc pm an cd ct), sl⟩) (c : PySem.W.codeIn K cd qual = true) (k : PySem.W.keepIn K (.ref g) = true) : Pf K C m qual st p g :=
  ⟨⟨a, b, t, _, r⟩, _, fun_mk (st := st) l c k⟩
theorem kit_own {K : PySem.W.Frag} {C : Addr} {T : String} (h1 : PySem.W.isClsIn K C = true) (h2 : PySem.W.typeIn K (.ref C) = some (.type "type")) (h3 : PySem.W.subIn K (.type T) (.ref C) = some false) : PySem.W.kitOne K (.type T) (.ref C) = some false := by
  have e2 : ((PySem.W.clsIn K C).isSome && PySem.W.typeIn K (.ref C) == some (.type "type")) = true := by
    have h4 : (PySem.W.clsIn K C).isSome = true := h1
    rw [h4, h2] <;> rfl
  unfold PySem.W.kitOne
  rw [if_neg (by intro z; cases z)]
  show (if ((PySem.W.clsIn K C).isSome && PySem.W.typeIn K (.ref C) == some (.type "type")) = true then PySem.W.subIn K (.type T) (.ref C) else none) = _
  rw [if_pos e2]
  exact h3
/-- an exception of the class at S is what the handler for S takes -/
theorem cat_self {K : PySem.W.Frag} {S : Addr} (sb : PySem.W.subIn K (.ref S) (.type "BaseException") = some true) (ic : PySem.W.isClsIn K S = true) (ty : PySem.W.typeIn K (.ref S) = some (.type "type")) (ss : PySem.W.subIn K (.ref S) (.ref S) = some true) : PySem.W.exmOne K (.ref S) (.ref S) = some true := by
  have e2 : ((PySem.W.clsIn K S).isSome && PySem.W.typeIn K (.ref S) == some (.type "type")) = true := by
    have h4 : (PySem.W.clsIn K S).isSome = true := ic
    rw [h4, ty] <;> rfl
  have e1 : (PySem.W.subIn K (.ref S) (.type "BaseException") == some true) = true := by
    rw [sb] <;> rfl
  unfold PySem.W.exmOne
  rw [if_pos e1]
  show (if ((PySem.W.clsIn K S).isSome && PySem.W.typeIn K (.ref S) == some (.type "type")) = true then PySem.W.subIn K (.ref S) (.ref S) else none) = _
  rw [if_pos e2]
  exact ss
theorem lg_of {mg : Str → Option Value} {h : Heap} (V : PySem.W.LooseAre [("LARGEST", PySem.W.WData.int LG)] mg h) : ∃ t, mg "LARGEST" = some (.int LG t) := by
  obtain ⟨v, e, r⟩ := V.val _ List.mem_cons_self
  cases r
  exact ⟨_, e⟩
/-- the handler for S takes no exception of the class at C -/
theorem cat_other {K : PySem.W.Frag} {C S : Addr} (sb : PySem.W.subIn K (.ref S) (.type "BaseException") = some true) (ic : PySem.W.isClsIn K S = true) (ty : PySem.W.typeIn K (.ref S) = some (.type "type")) (ss : PySem.W.subIn K (.ref C) (.ref S) = some false) : PySem.W.exmOne K (.ref C) (.ref S) = some false := by
  have e2 : ((PySem.W.clsIn K S).isSome && PySem.W.typeIn K (.ref S) == some (.type "type")) = true := by
    have h4 : (PySem.W.clsIn K S).isSome = true := ic
    rw [h4, ty] <;> rfl
  have e1 : (PySem.W.subIn K (.ref S) (.type "BaseException") == some true) = true := by
    rw [sb] <;> rfl
  unfold PySem.W.exmOne
  rw [if_pos e1]
  show (if ((PySem.W.clsIn K S).isSome && PySem.W.typeIn K (.ref S) == some (.type "type")) = true then PySem.W.subIn K (.ref C) (.ref S) else none) = _
  rw [if_pos e2]
  exact ss
/-- the place of a def's table of code -/
theorem tab_mk {K : PySem.W.Frag} {x : Str} {f c P : Addr} {oc occ kV doc pm ct : Value} {od odc ann : Option Addr} {sl slc : Array (Option Value)} {st : Stmt} {vc : Array Value} (a : PySem.W.nsIn K mainGlobals x = some (some (.ref f)))
    (l : K.lookup f = some ⟨oc, od, .func (PySem.W.fnOf x x (defArgs st) (defBody st) (defScope st) .none kV doc pm ann (.ref c) ct), sl⟩) (lc : K.lookup c = some ⟨occ, odc, .fields vc, slc⟩) (e : vc[11]? = some (.ref P)) : PySem.W.tabIn K x = some (c, P) := by
  unfold PySem.W.tabIn
  rw [a]
  show (match K.lookup f with
    | some ⟨_, _, .func fd, _⟩ => (match fd.code with
      | .ref c => (match K.lookup c with
        | some ⟨_, _, .fields vs, _⟩ => (match (vs[11]? : Option Value) with
          | some (.ref P) => some (c, P)
          | _ => none)
        | _ => none)
      | _ => none)
    | _ => none) = _
  rw [l]
  show (match K.lookup c with
        | some ⟨_, _, .fields vs, _⟩ => (match (vs[11]? : Option Value) with
          | some (.ref P) => some (c, P)
          | _ => none)
        | _ => none) = _
  rw [lc]
  show (match (vc[11]? : Option Value) with
          | some (.ref P) => some (c, P)
          | _ => none) = _
  rw [e]

theorem all_mk {l : PySem.W.OpenLaw} {w : World} {K : PySem.W.Frag} {h : Heap} {mg mb : Str → Option Value} {qp : Program} {loo : List Str} {mean : ExcName → Option Value} {fa C CI CO fi fR cR tR : Addr} {f1 f2 f3 f4 f5 f6 f7 f8 f9 f10 f11 f12 f13 f14 f15 f16 f17 f18 f19 f20 f21 f22 f23 f24 f25 f26 f27 f28 f29 f30 f31 f32 f33 f34 f35 f36 f37 f38 f39 p0 q0 p1 q1 p2 q2 p3 q3 : Addr} (X : K.In h) (T : Top qp loo mean mg mb h) (VL : PySem.W.LooseAre [("LARGEST", PySem.W.WData.int LG)] mg h) (hfa : mg "law" = some (.ref fa))
    (D1 : Df K "is_number" sIsNum f1)
    (D2 : Df K "is_number_within" sIsNumW f2)
    (D3 : Df K "is_sign" sIsSign f3)
    (D4 : Df K "is_word" sIsWord f4)
    (D5 : Df K "check_word" sChkW f5)
    (D6 : Df K "check_prices" sChkPr f6)
    (D7 : Df K "_are_tables" sAreT f7)
    (D8 : Df K "_is_sign_table" sIsST f8)
    (D9 : Df K "_has_prices" sHasP f9)
    (D10 : Df K "_is_pair" sIsPair f10)
    (D11 : Df K "ascending_dict" sAsc f11)
    (D12 : Df K "changed" sChgd f12)
    (D13 : Df K "undone" sUndn f13)
    (D14 : Df K "price_of" sPof f14)
    (D15 : Df K "steps_of" sSteps f15)
    (D16 : Df K "price_of_steps" sPS f16)
    (D17 : Df K "_checked_steps" sChkS f17)
    (D18 : Df K "_is_change" sIsCh f18)
    (D19 : Df K "_change" sChange f19)
    (D20 : Df K "word_behind" sBehd f20)
    (D21 : Df K "_prices_by_ends" sByP f21)
    (D22 : Df K "_law_cup" sCup f22)
    (D23 : Df K "_law_toss" sToss f23)
    (D24 : Df K "_law_choices" sChoices f24)
    (D25 : Df K "_law_alphabet" sAlph f25)
    (D26 : Df K "_law_choice" sChoice f26)
    (D27 : Df K "_law_rates" sRates f27)
    (D28 : Df K "_law_spelled" sSpell f28)
    (D29 : Df K "_law_priced" sPriced f29)
    (D30 : Df K "_law_step_drawn" sStepD f30)
    (D31 : Df K "_law_made" sMd f31)
    (D32 : Df K "_law_steps_drawn" sStepsD f32)
    (D33 : Df K "_law_run" sRun f33)
    (D34 : Df K "_law_paid" sPaid f34)
    (D35 : Df K "_law_way_back" sBack f35)
    (D36 : Df K "_law_told_by" sTold f36)
    (D37 : Df K "_law_strange" sStrange f37)
    (D38 : Df K "_law_spoiled" sSpoil f38)
    (D39 : Df K "law" sLaw5 f39)
    (z_len : PySem.W.nsIn K mainGlobals "len" = some none)
    (z_int : PySem.W.nsIn K mainGlobals "int" = some none)
    (z_abs : PySem.W.nsIn K mainGlobals "abs" = some none)
    (z_max : PySem.W.nsIn K mainGlobals "max" = some none)
    (z_min : PySem.W.nsIn K mainGlobals "min" = some none)
    (z_range : PySem.W.nsIn K mainGlobals "range" = some none)
    (z_list : PySem.W.nsIn K mainGlobals "list" = some none)
    (z_isinstance : PySem.W.nsIn K mainGlobals "isinstance" = some none)
    (z_str : PySem.W.nsIn K mainGlobals "str" = some none)
    (z_tuple : PySem.W.nsIn K mainGlobals "tuple" = some none)
    (z_all : PySem.W.nsIn K mainGlobals "all" = some none)
    (z_sorted : PySem.W.nsIn K mainGlobals "sorted" = some none)
    (z_set : PySem.W.nsIn K mainGlobals "set" = some none)
    (z_bool : PySem.W.nsIn K mainGlobals "bool" = some none)
    (z_dict : PySem.W.nsIn K mainGlobals "dict" = some none)
    (z_repr : PySem.W.nsIn K mainGlobals "repr" = some none)
    (z_sum : PySem.W.nsIn K mainGlobals "sum" = some none)
    (z_zip : PySem.W.nsIn K mainGlobals "zip" = some none)
    {tS tP tM tW : Tok} (vS : PySem.W.nsIn K mainGlobals "SIGNS" = some (some (.str "abcde" tS)))
    (vP : PySem.W.nsIn K mainGlobals "MAX_PRICE" = some (some (.int 9 tP))) (vM : PySem.W.nsIn K mainGlobals "MAX_SWAP_PRICE" = some (some (.int 18 tM)))
    (vW : PySem.W.nsIn K mainGlobals "MAX_WORD" = some (some (.int 1000 tW)))
    (aC : PySem.W.nsIn K mainGlobals "Prices" = some (some (.ref C)))
    (pg : PySem.W.plainGet K C Str.empty = true) (hd : PySem.W.hasDictIn K C = true) (po : PySem.W.plainOver K C = true) (sa : PySem.W.findIn K (.ref C) "__setattr__" = some (some (.builtin "object.__setattr__"))) (mk : PySem.W.makesIn K C = true) (kc : PySem.W.keepIn K (.ref C) = true)
    (n1 : PySem.W.findIn K (.ref C) "_signs" = some none) (n2 : PySem.W.findIn K (.ref C) "_put" = some none) (n3 : PySem.W.findIn K (.ref C) "_out" = some none) (n4 : PySem.W.findIn K (.ref C) "_swap" = some none)
    {oi kVi doci pmi cdi cti : Value} {odi ani : Option Addr} {sli : Array (Option Value)}
    (ii : PySem.W.findIn K (.ref C) "__init__" = some (some (.ref fi))) (jf : PySem.W.isFn K (.ref fi) = true) (li : K.lookup fi = some ⟨oi, odi, .func (PySem.W.fnOf "__init__" "Prices.__init__" (defArgs sInit) (defBody sInit) (defScope sInit) .none kVi doci pmi ani cdi cti), sli⟩) (ci : PySem.W.codeIn K cdi "Prices.__init__" = true) (ki : PySem.W.keepIn K (.ref fi) = true)
    (ha : PySem.W.findIn K (.ref C) "__class__" = some (some (.builtin "object.__class__")))
    (hn : PySem.W.specialIn K (.builtin "object.__class__") "__get__" = some (some (.builtin "getset_descriptor.__get__")))
    (ht : PySem.W.takesIn K (.builtin "object.__class__") = some true) (hm : PySem.W.mroIn K C (.type "object") = some true)
    (aI : PySem.W.nsIn K mainGlobals "InvalidChange" = some (some (.ref CI))) (aO : PySem.W.nsIn K mainGlobals "InvalidOperation" = some (some (.ref CO)))
    (xI : PySem.W.excIn K CI [.type "ValueError", .type "Exception", .type "BaseException", .type "object"] "ValueError.__new__" = true) (kI : PySem.W.keepIn K (.ref CI) = true) (bI : PySem.W.subIn K (.ref CI) (.type "BaseException") = some true) (tI : PySem.W.typeIn K (.ref CI) = some (.type "type"))
    (iI : PySem.W.isClsIn K CI = true) (sI : PySem.W.subIn K (.ref CI) (.ref CI) = some true)
    (xO : PySem.W.excIn K CO [.type "ValueError", .type "Exception", .type "BaseException", .type "object"] "ValueError.__new__" = true) (kO : PySem.W.keepIn K (.ref CO) = true) (bO : PySem.W.subIn K (.ref CO) (.type "BaseException") = some true) (tO : PySem.W.typeIn K (.ref CO) = some (.type "type"))
    (iO : PySem.W.isClsIn K CO = true) (sO : PySem.W.subIn K (.ref CO) (.ref CO) = some true) (sOI : PySem.W.subIn K (.ref CO) (.ref CI) = some false)
    {oR kVR docR pmR ctR ocR : Value} {odR anR odcR : Option Addr} {slR slcR : Array (Option Value)} {vcR : Array Value}
    (aR : PySem.W.nsIn K mainGlobals "_law_row_right" = some (some (.ref fR))) (lR : K.lookup fR = some ⟨oR, odR, .func (PySem.W.fnOf "_law_row_right" "_law_row_right" (defArgs sRR) (defBody sRR) (defScope sRR) .none kVR docR pmR anR (.ref cR) ctR), slR⟩) (eR : PySem.W.codeIn K (.ref cR) "_law_row_right" = true) (kR : PySem.W.keepIn K (.ref fR) = true)
    (lcR : K.lookup cR = some ⟨ocR, odcR, .fields vcR, slcR⟩) (vR : vcR[11]? = some (.ref tR)) (nR : K.lookup tR = none) (rR : ((recsOf qp).find? fun e => e.name == ("_law_row_right" : Str)).isSome = true)
    (Q0 : Pf K C "signs" "Prices.signs" sSignsP p0 q0)
    (Q1 : Pf K C "put" "Prices.put" sPutP p1 q1)
    (Q2 : Pf K C "out" "Prices.out" sOutP p2 q2)
    (Q3 : Pf K C "swap" "Prices.swap" sSwapP p3 q3) :
    ∃ (fd : FuncData) (c tb : Addr) (sp : Sp), h.get? tb = some (PySem.W.tabObj #[]) ∧ K.lookup tb = none ∧ PySem.W.CodeHd h c tb ∧ (∀ (s : Shared) (v : Value), BindsTo s fd ⟨[v], []⟩ [("_law_script", v)]) ∧
      (∀ (H : Hp) (a : Addr) (ns : List Int), ns.length ≤ 63 → H tb = some (.tbl #[]) → SqL K H a (ns.map V.int) → sp [.ref a] H (fun v _ => v = .bl true) fun _ _ _ => False) ∧
      ∀ base : Heap, K.In base → base.Ns mainGlobals mg → LamX.TabB base mg c tb → FnG l.prog w K mg base CX0 10 fa fd ["_law_script"] sp := by
  have G := T.g
  have gm := fun {x : Str} {v : Value} (e : PySem.W.nsIn K mainGlobals x = some (some v)) => PySem.W.mg_of X G e
  have gz := fun {x : Str} (e : PySem.W.nsIn K mainGlobals x = some none) => PySem.W.mg_none_of X G e
  have tabR := tab_mk aR lR lcR vR
  obtain ⟨dR, hdR⟩ := Option.isSome_iff_exists.mp rR
  obtain ⟨codR, tabRh⟩ := PySem.W.tab_of T X hdR tabR
  have B : Bn mg := ⟨gz z_len, gz z_int, gz z_abs, gz z_max, gz z_min, gz z_range, gz z_list⟩
  have W : Wn mg := ⟨gz z_isinstance, gz z_str, _, gm vS⟩
  have O : On mg := ⟨gz z_tuple, gz z_all, gz z_sorted, gz z_set⟩
  have N : Nn mg := ⟨gz z_bool, lg_of VL⟩
  have M : Pn mg := ⟨gz z_dict, ⟨_, gm vP⟩, ⟨_, gm vM⟩⟩
  have Dd : Dn mg := ⟨gz z_dict⟩
  obtain ⟨d1, F1⟩ := D1.fn
  have b1 := F1.binds (ps := ["value"]) fun _ _ _ _ _ _ us hl => match us, hl with | [_], _ => rfl
  obtain ⟨d2, F2⟩ := D2.fn
  have b2 := F2.binds (ps := ["value", "least", "most"]) fun _ _ _ _ _ _ us hl => match us, hl with | [_, _, _], _ => rfl
  obtain ⟨d3, F3⟩ := D3.fn
  have b3 := F3.binds (ps := ["value"]) fun _ _ _ _ _ _ us hl => match us, hl with | [_], _ => rfl
  obtain ⟨d4, F4⟩ := D4.fn
  have b4 := F4.binds (ps := ["value"]) fun _ _ _ _ _ _ us hl => match us, hl with | [_], _ => rfl
  obtain ⟨d5, F5⟩ := D5.fn
  have b5 := F5.binds (ps := ["word"]) fun _ _ _ _ _ _ us hl => match us, hl with | [_], _ => rfl
  obtain ⟨d6, F6⟩ := D6.fn
  have b6 := F6.binds (ps := ["prices"]) fun _ _ _ _ _ _ us hl => match us, hl with | [_], _ => rfl
  obtain ⟨d7, F7⟩ := D7.fn
  have b7 := F7.binds (ps := ["put", "out", "swap"]) fun _ _ _ _ _ _ us hl => match us, hl with | [_, _, _], _ => rfl
  obtain ⟨d8, F8⟩ := D8.fn
  have b8 := F8.binds (ps := ["value"]) fun _ _ _ _ _ _ us hl => match us, hl with | [_], _ => rfl
  obtain ⟨d9, F9⟩ := D9.fn
  have b9 := F9.binds (ps := ["value", "most"]) fun _ _ _ _ _ _ us hl => match us, hl with | [_, _], _ => rfl
  obtain ⟨d10, F10⟩ := D10.fn
  have b10 := F10.binds (ps := ["value", "signs"]) fun _ _ _ _ _ _ us hl => match us, hl with | [_, _], _ => rfl
  obtain ⟨d11, F11⟩ := D11.fn
  have b11 := F11.binds (ps := ["table"]) fun _ _ _ _ _ _ us hl => match us, hl with | [_], _ => rfl
  obtain ⟨d12, F12⟩ := D12.fn
  have b12 := F12.binds (ps := ["word", "changes"]) fun _ _ _ _ _ _ us hl => match us, hl with | [_, _], _ => rfl
  obtain ⟨d13, F13⟩ := D13.fn
  have b13 := F13.binds (ps := ["word", "changes"]) fun _ _ _ _ _ _ us hl => match us, hl with | [_, _], _ => rfl
  obtain ⟨d14, F14⟩ := D14.fn
  have b14 := F14.binds (ps := ["word", "changes", "prices"]) fun _ _ _ _ _ _ us hl => match us, hl with | [_, _, _], _ => rfl
  obtain ⟨d15, F15⟩ := D15.fn
  have b15 := F15.binds (ps := ["word", "value"]) fun _ _ _ _ _ _ us hl => match us, hl with | [_, _], _ => rfl
  obtain ⟨d16, F16⟩ := D16.fn
  have b16 := F16.binds (ps := ["steps", "prices"]) fun _ _ _ _ _ _ us hl => match us, hl with | [_, _], _ => rfl
  obtain ⟨d17, F17⟩ := D17.fn
  have b17 := F17.binds (ps := ["word", "changes"]) fun _ _ _ _ _ _ us hl => match us, hl with | [_, _], _ => rfl
  obtain ⟨d18, F18⟩ := D18.fn
  have b18 := F18.binds (ps := ["value", "signs"]) fun _ _ _ _ _ _ us hl => match us, hl with | [_, _], _ => rfl
  obtain ⟨d19, F19⟩ := D19.fn
  have b19 := F19.binds (ps := ["at", "old", "new"]) fun _ _ _ _ _ _ us hl => match us, hl with | [_, _, _], _ => rfl
  obtain ⟨d20, F20⟩ := D20.fn
  have b20 := F20.binds (ps := ["word", "steps"]) fun _ _ _ _ _ _ us hl => match us, hl with | [_, _], _ => rfl
  obtain ⟨d21, F21⟩ := D21.fn
  have b21 := F21.binds (ps := ["prices"]) fun _ _ _ _ _ _ us hl => match us, hl with | [_], _ => rfl
  obtain ⟨d22, F22⟩ := D22.fn
  have b22 := F22.binds (ps := ["_law_script", "_law_at"]) fun _ _ _ _ _ _ us hl => match us, hl with | [_, _], _ => rfl
  obtain ⟨d23, F23⟩ := D23.fn
  have b23 := F23.binds (ps := ["_law_cup_here", "_law_total"]) fun _ _ _ _ _ _ us hl => match us, hl with | [_, _], _ => rfl
  obtain ⟨d24, F24⟩ := D24.fn
  have b24 := F24.binds (ps := ["_law_cup_here", "_law_items", "_law_many"]) fun _ _ _ _ _ _ us hl => match us, hl with | [_, _, _], _ => rfl
  obtain ⟨d25, F25⟩ := D25.fn
  have b25 := F25.binds (ps := ["_law_cup_here", "_law_most"]) fun _ _ _ _ _ _ us hl => match us, hl with | [_, _], _ => rfl
  obtain ⟨d26, F26⟩ := D26.fn
  have b26 := F26.binds (ps := ["_law_cup_here", "_law_items"]) fun _ _ _ _ _ _ us hl => match us, hl with | [_, _], _ => rfl
  obtain ⟨d27, F27⟩ := D27.fn
  have b27 := F27.binds (ps := ["_law_cup_here", "_law_letters", "_law_most"]) fun _ _ _ _ _ _ us hl => match us, hl with | [_, _, _], _ => rfl
  obtain ⟨d28, F28⟩ := D28.fn
  have b28 := F28.binds (ps := ["_law_cup_here", "_law_letters", "_law_most"]) fun _ _ _ _ _ _ us hl => match us, hl with | [_, _, _], _ => rfl
  obtain ⟨d29, F29⟩ := D29.fn
  have b29 := F29.binds (ps := ["_law_table"]) fun _ _ _ _ _ _ us hl => match us, hl with | [_], _ => rfl
  obtain ⟨d30, F30⟩ := D30.fn
  have b30 := F30.binds (ps := ["_law_cup_here", "_law_letters", "_law_word"]) fun _ _ _ _ _ _ us hl => match us, hl with | [_, _, _], _ => rfl
  obtain ⟨d31, F31⟩ := D31.fn
  have b31 := F31.binds (ps := ["_law_word", "_law_change"]) fun _ _ _ _ _ _ us hl => match us, hl with | [_, _], _ => rfl
  obtain ⟨d32, F32⟩ := D32.fn
  have b32 := F32.binds (ps := ["_law_cup_here", "_law_letters", "_law_word", "_law_most"]) fun _ _ _ _ _ _ us hl => match us, hl with | [_, _, _, _], _ => rfl
  obtain ⟨d33, F33⟩ := D33.fn
  have b33 := F33.binds (ps := ["_law_word", "_law_row"]) fun _ _ _ _ _ _ us hl => match us, hl with | [_, _], _ => rfl
  obtain ⟨d34, F34⟩ := D34.fn
  have b34 := F34.binds (ps := ["_law_table", "_law_words", "_law_row"]) fun _ _ _ _ _ _ us hl => match us, hl with | [_, _, _], _ => rfl
  obtain ⟨d35, F35⟩ := D35.fn
  have b35 := F35.binds (ps := ["_law_words", "_law_row"]) fun _ _ _ _ _ _ us hl => match us, hl with | [_, _], _ => rfl
  obtain ⟨d36, F36⟩ := D36.fn
  have b36 := F36.binds (ps := ["_law_call"]) fun _ _ _ _ _ _ us hl => match us, hl with | [_], _ => rfl
  obtain ⟨d37, F37⟩ := D37.fn
  have b37 := F37.binds (ps := ["_law_cup_here", "_law_word"]) fun _ _ _ _ _ _ us hl => match us, hl with | [_, _], _ => rfl
  obtain ⟨d38, F38⟩ := D38.fn
  have b38 := F38.binds (ps := ["_law_cup_here", "_law_word", "_law_row"]) fun _ _ _ _ _ _ us hl => match us, hl with | [_, _, _], _ => rfl
  obtain ⟨d39, F39⟩ := D39.fn
  obtain ⟨h0, R0⟩ := Q0.fn
  have j0 := R0.binds (ps := ["self"]) fun _ _ _ _ _ _ us hl => match us, hl with | [_], _ => rfl
  obtain ⟨h1, R1⟩ := Q1.fn
  have j1 := R1.binds (ps := ["self"]) fun _ _ _ _ _ _ us hl => match us, hl with | [_], _ => rfl
  obtain ⟨h2, R2⟩ := Q2.fn
  have j2 := R2.binds (ps := ["self"]) fun _ _ _ _ _ _ us hl => match us, hl with | [_], _ => rfl
  obtain ⟨h3, R3⟩ := Q3.fn
  have j3 := R3.binds (ps := ["self"]) fun _ _ _ _ _ _ us hl => match us, hl with | [_], _ => rfl
  have cl : Cls K C := ⟨pg, hd, po, sa⟩
  have Tc : Pc K C := ⟨cl, n1, n2, n3, n4⟩
  have Ik : IsK K C := ⟨ha, hn, ht, hm⟩
  have Fi := fun_mk (st := sInit) li ci ki
  have FR := fun_mk (st := sRR) lR eR kR
  have bR := FR.binds (ps := ["_law_prices", "_law_table", "_law_word", "_law_row"]) fun _ _ _ _ _ _ us hl => match us, hl with | [_, _, _, _], _ => rfl
  have Mc : L2.Mk K C fi := ⟨mk, ii, jf, kc⟩
  have EI : ExK K mg "InvalidChange" CI := ⟨gm aI, kI, xI, bI, tI⟩
  have EO : ExK K mg "InvalidOperation" CO := ⟨gm aO, kO, xO, bO, tO⟩
  have E2 : Ex2 K mg CI CO := ⟨gm aI, gm aO, cat_self bI iI tI sI, cat_other bI iI tI sOI, cat_self bO iO tO sO⟩
  have eL : f39 = fa := by
    have e := hfa.symm.trans (gm D39.at_)
    cases e
    rfl
  subst eL
  have FL := F39
  obtain ⟨oc', od', kV', doc', pm', an', cdv', ct', osl', rfl, lk', hcd'⟩ := FL.ex
  refine ⟨PySem.W.fnOf "law" "law" (defArgs sLaw5) (defBody sLaw5) (defScope sLaw5) .none kV' doc' pm' an' cdv' ct', cR, tR, spLaw5 K [(tR, qLam)], tabRh, nR, codR, fun s v => .of_eq rfl, fun H a ns hl hT hS => ?_, fun base _ _ TB => ?_⟩
  · refine ⟨a, ns, rfl, hS, hl, ?_, fun _ => rfl⟩
    intro p hp
    rw [List.mem_singleton.mp hp]
    exact ⟨_, hT, by first | exact ⟨⟩ | exact .nil | trivial | (unfold TriplesOk; simp) | simp [TriplesOk], fun pos cv hc => by first | cases hc | simp at hc⟩
  have C1 : Cd l.prog w K mg base 1 "is_number" ["value"] spIsNum := ⟨_, _, ok_isNum F1 B W N, gm D1.at_, F1.kp, b1⟩
  have C2 : Cd l.prog w K mg base 2 "is_number_within" ["value", "least", "most"] spIsNumW := ⟨_, _, ok_isNumW F2 C1, gm D2.at_, F2.kp, b2⟩
  have C1d : Cd l.prog w K mg base 1 "is_number" ["value"] (spNumD K) := ⟨_, _, ok_numD F1 B W N, gm D1.at_, F1.kp, b1⟩
  have C2d : Cd l.prog w K mg base 2 "is_number_within" ["value", "least", "most"] (spNumWD K) := ⟨_, _, ok_numWD F2 C1d, gm D2.at_, F2.kp, b2⟩
  have C3 : Cd l.prog w K mg base 1 "is_sign" ["value"] (spJudge sgB K) := ⟨_, _, ok_isSign F3 B W, gm D3.at_, F3.kp, b3⟩
  have C4 : Cd l.prog w K mg base 1 "is_word" ["value"] (spJudge wB K) := ⟨_, _, ok_isWord F4 W, gm D4.at_, F4.kp, b4⟩
  have C5 : Cd l.prog w K mg base 2 "check_word" ["word"] spChkW := ⟨_, _, ok_chkW F5 B ⟨_, gm vW⟩ C4, gm D5.at_, F5.kp, b5⟩
  have C9 : Cd l.prog w K mg base 3 "_has_prices" ["value", "most"] spHasP := ⟨_, _, ok_hasP F9 W O M C2, gm D9.at_, F9.kp, b9⟩
  have C8 : Cd l.prog w K mg base 4 "_is_sign_table" ["value"] spIsST := ⟨_, _, ok_isST F8 O M C9 C3, gm D8.at_, F8.kp, b8⟩
  have C10 : Cd l.prog w K mg base 1 "_is_pair" ["value", "signs"] spPair := ⟨_, _, ok_isPair F10 B W O, gm D10.at_, F10.kp, b10⟩
  have C7 : Cd l.prog w K mg base 5 "_are_tables" ["put", "out", "swap"] spAreT := ⟨_, _, ok_areT F7 O M C8 C9 C10, gm D7.at_, F7.kp, b7⟩
  have C11 : Cd l.prog w K mg base 1 "ascending_dict" ["table"] spAsc := ⟨_, _, ok_asc F11 O, gm D11.at_, F11.kp, b11⟩
  have Gi : FnOk l.prog w K mg base CX0 6 fi _ ["self", "put", "out", "swap"] (spInit C) := ok_init Fi Tc O C7 C11
  have P0 : Pd l.prog w K mg base C 1 "signs" (spSigns C) := ⟨p0, q0, h0, Q0.of, ok_signsP R0 Tc, j0⟩
  have P1 : Pd l.prog w K mg base C 2 "put" (spTabP C fun t _ => t) := ⟨p1, q1, h1, Q1.of, ok_putP R1 Tc C11, j1⟩
  have P2 : Pd l.prog w K mg base C 2 "out" (spTabP C fun _ t => t) := ⟨p2, q2, h2, Q2.of, ok_outP R2 Tc C11, j2⟩
  have P3 : Pd l.prog w K mg base C 2 "swap" (spTabS C) := ⟨p3, q3, h3, Q3.of, ok_swapP R3 Tc C11, j3⟩
  have C6 : Cd l.prog w K mg base 1 "check_prices" ["prices"] (spChkPr C) := ⟨_, _, ok_chkPr F6 Tc Ik (gm aC) (gz z_isinstance), gm D6.at_, F6.kp, b6⟩
  have C18 : Cd l.prog w K mg base 3 "_is_change" ["value", "signs"] (spIsCh K) := ⟨_, _, ok_isCh F18 B W O C2d C3, gm D18.at_, F18.kp, b18⟩
  have C15 : Cd l.prog w K mg base 4 "steps_of" ["word", "value"] (spSteps K) := ⟨_, _, ok_steps F15 B W O C18, gm D15.at_, F15.kp, b15⟩
  have C17 : CdX l.prog w K mg base 5 "_checked_steps" ["word", "changes"] (spChkS K CI) := ⟨_, _, ok_chkS F17 EI C5 C15, gm D17.at_, F17.kp, b17⟩
  have C19 : Cd l.prog w K mg base 1 "_change" ["at", "old", "new"] spChange := ⟨_, _, ok_change F19, gm D19.at_, F19.kp, b19⟩
  have C20 : Cd l.prog w K mg base 1 "word_behind" ["word", "steps"] spBehd := ⟨_, _, ok_behd F20 B, gm D20.at_, F20.kp, b20⟩
  have C21 : Cd l.prog w K mg base 4 "_prices_by_ends" ["prices"] (spByP C) := ⟨_, _, ok_byP F21 Tc P0 P1 P2 P3, gm D21.at_, F21.kp, b21⟩
  have C16 : Cd l.prog w K mg base 5 "price_of_steps" ["steps", "prices"] (spPS C) := ⟨_, _, ok_ps F16 O (gz z_sum) C21, gm D16.at_, F16.kp, b16⟩
  have C12 : CdX l.prog w K mg base 6 "changed" ["word", "changes"] (spChgd K CI) := ⟨_, _, ok_chgd F12 C20 C17, gm D12.at_, F12.kp, b12⟩
  have C13 : CdX l.prog w K mg base 6 "undone" ["word", "changes"] (spUndn K CI) := ⟨_, _, ok_undn F13 O C19 C17, gm D13.at_, F13.kp, b13⟩
  have C14 : CdX l.prog w K mg base 6 "price_of" ["word", "changes", "prices"] (spPof K C CI CO) := ⟨_, _, ok_pof F14 EO C6 C17 C16, gm D14.at_, F14.kp, b14⟩
  have C22 : Cd l.prog w K mg base 1 "_law_cup" ["_law_script", "_law_at"] (spFilled K) := ⟨_, _, ok_cup F22 B, gm D22.at_, F22.kp, b22⟩
  have C23 : Cd l.prog w K mg base 1 "_law_toss" ["_law_cup_here", "_law_total"] spDip := ⟨_, _, ok_toss F23 B, gm D23.at_, F23.kp, b23⟩
  have C24 : Cd l.prog w K mg base 2 "_law_choices" ["_law_cup_here", "_law_items", "_law_many"] spChoices := ⟨_, _, ok_choices F24 B C23, gm D24.at_, F24.kp, b24⟩
  have C25 : Cd l.prog w K mg base 3 "_law_alphabet" ["_law_cup_here", "_law_most"] spAlph := ⟨_, _, ok_alph F25 O C23 C24, gm D25.at_, F25.kp, b25⟩
  have C26 : Cd l.prog w K mg base 2 "_law_choice" ["_law_cup_here", "_law_items"] spChoose := ⟨_, _, ok_choice F26 B C23, gm D26.at_, F26.kp, b26⟩
  have C27 : Cd l.prog w K mg base 3 "_law_rates" ["_law_cup_here", "_law_letters", "_law_most"] spRates := ⟨_, _, ok_rates F27 Dd C23 C26, gm D27.at_, F27.kp, b27⟩
  have C28 : Cd l.prog w K mg base 3 "_law_spelled" ["_law_cup_here", "_law_letters", "_law_most"] spSpell := ⟨_, _, ok_spell F28 B C23 C26, gm D28.at_, F28.kp, b28⟩
  have C29 : Cd l.prog w K mg base 8 "_law_priced" ["_law_table"] (spMade C) := ⟨_, _, ok_priced F29 B Dd Mc Fi Gi (gm aC), gm D29.at_, F29.kp, b29⟩
  have C30 : Cd l.prog w K mg base 3 "_law_step_drawn" ["_law_cup_here", "_law_letters", "_law_word"] spStepD := ⟨_, _, ok_stepD F30 B C23 C26, gm D30.at_, F30.kp, b30⟩
  have C31 : Cd l.prog w K mg base 1 "_law_made" ["_law_word", "_law_change"] (spMd K) := ⟨_, _, ok_md F31 B W O (gz z_bool), gm D31.at_, F31.kp, b31⟩
  have C32 : Cd l.prog w K mg base 4 "_law_steps_drawn" ["_law_cup_here", "_law_letters", "_law_word", "_law_most"] (spStepsD K) := ⟨_, _, ok_stepsD F32 B C23 C30 C31, gm D32.at_, F32.kp, b32⟩
  have C33 : Cd l.prog w K mg base 2 "_law_run" ["_law_word", "_law_row"] (spRun K) := ⟨_, _, ok_run F33 W O C31, gm D33.at_, F33.kp, b33⟩
  have C34 : Cd l.prog w K mg base 1 "_law_paid" ["_law_table", "_law_words", "_law_row"] (spPaid K) := ⟨_, _, ok_paid F34 (gz z_zip), gm D34.at_, F34.kp, b34⟩
  have C35 : Cd l.prog w K mg base 1 "_law_way_back" ["_law_words", "_law_row"] (spBackW K) := ⟨_, _, ok_backW F35 O (gz z_zip), gm D35.at_, F35.kp, b35⟩
  have TL : Tl K mg f36 d36 := ⟨F36, gm D36.at_, F36.kp, b36⟩
  have GR := ok_rowR (P := l.prog) (w := w) (base := base) FR rfl TB O B (gz z_repr) E2 TL C33 C34 C35 C12 C13 C14
  have C37 : Cd l.prog w K mg base 3 "_law_strange" ["_law_cup_here", "_law_word"] (spStrange K) := ⟨_, _, ok_strange F37 B C26, gm D37.at_, F37.kp, b37⟩
  have C38 : Cd l.prog w K mg base 4 "_law_spoiled" ["_law_cup_here", "_law_word", "_law_row"] (spSpoil K) := ⟨_, _, ok_spoil F38 B O C23 C33 C37, gm D38.at_, F38.kp, b38⟩
  exact ok_law5 F39 B O C22 C25 C27 C29 C28 C23 C32 C38 GR (gm aR) kR bR
theorem walk {l : PySem.W.OpenLaw} {q p : Program} {loose : List Str} {YP : World → Heap → Prop} {d : DefRec} {K : Params → PySem.W.Frag} (hn : l.most = some 63) (hdf : d.params.defaults = [])
    (hY : ∀ (w : World) (h : Heap), YP w h → (K w.params).In h)
    (F : ∀ (w : World) (mg mb : Str → Option Value) (mean : ExcName → Option Value) (fa : Addr) (h : Heap), (K w.params).In h → Top q (PySem.W.looseW q loose) mean mg mb h → PySem.W.XL p [("LARGEST", PySem.W.WData.int LG)] mg h → mg d.name = some (.ref fa) →
      ∃ (fd : FuncData) (c tb : Addr) (sp : Sp), h.get? tb = some (PySem.W.tabObj #[]) ∧ (K w.params).lookup tb = none ∧ PySem.W.CodeHd h c tb ∧ (∀ (s : Shared) (u : Value), BindsTo s fd ⟨[u], []⟩ [("_law_script", u)]) ∧
        (∀ (H : Hp) (a : Addr) (ns : List Int), ns.length ≤ 63 → H tb = some (.tbl #[]) → SqL (K w.params) H a (ns.map V.int) → sp [.ref a] H (fun v _ => v = .bl true) fun _ _ _ => False) ∧
        ∀ base : Heap, (K w.params).In base → base.Ns mainGlobals mg → LamX.TabB base mg c tb → FnG l.prog w (K w.params) mg base CX0 10 fa fd ["_law_script"] sp) :
    PySem.W.WalkO q loose (PySem.W.XL p [("LARGEST", PySem.W.WData.int LG)]) YP l.row.toRowW d [] (fun f vs => PySem.call f vs) :=
  walk_ofTG (n := 63) (k := 10) (x := "_law_script") hn (by decide) hdf ⟨rfl, by decide, by decide⟩ hY F
end Mk

open PySem PySem.W PyProof.Rows in
set_option maxRecDepth 100000 in
set_option maxHeartbeats 0 in
theorem PySem.Challenge.cw_mendnumber_k05_changes_told_holds : PySem.Challenge.rw_mendnumber_k05_changes_told.Holds := by
  w_on; o_law; k_head; (case hw => w_witness2)
  k_fill
  refine Mk.walk (l := PySem.Challenge.rw_mendnumber_k05_changes_told) rfl rfl (fun w h Y => PySem.W.km_in_of Y) ?F
  case F =>
    intro w mg mb mean fa h KX T XP hmg
    refine' Mk.all_mk KX T XP.2 hmg (Mk.df_mk ?a1 ?l1 ?c1 ?k1) (Mk.df_mk ?a2 ?l2 ?c2 ?k2) (Mk.df_mk ?a3 ?l3 ?c3 ?k3) (Mk.df_mk ?a4 ?l4 ?c4 ?k4) (Mk.df_mk ?a5 ?l5 ?c5 ?k5) (Mk.df_mk ?a6 ?l6 ?c6 ?k6) (Mk.df_mk ?a7 ?l7 ?c7 ?k7) (Mk.df_mk ?a8 ?l8 ?c8 ?k8) (Mk.df_mk ?a9 ?l9 ?c9 ?k9) (Mk.df_mk ?a10 ?l10 ?c10 ?k10) (Mk.df_mk ?a11 ?l11 ?c11 ?k11) (Mk.df_mk ?a12 ?l12 ?c12 ?k12) (Mk.df_mk ?a13 ?l13 ?c13 ?k13) (Mk.df_mk ?a14 ?l14 ?c14 ?k14) (Mk.df_mk ?a15 ?l15 ?c15 ?k15) (Mk.df_mk ?a16 ?l16 ?c16 ?k16) (Mk.df_mk ?a17 ?l17 ?c17 ?k17) (Mk.df_mk ?a18 ?l18 ?c18 ?k18) (Mk.df_mk ?a19 ?l19 ?c19 ?k19) (Mk.df_mk ?a20 ?l20 ?c20 ?k20) (Mk.df_mk ?a21 ?l21 ?c21 ?k21) (Mk.df_mk ?a22 ?l22 ?c22 ?k22) (Mk.df_mk ?a23 ?l23 ?c23 ?k23) (Mk.df_mk ?a24 ?l24 ?c24 ?k24) (Mk.df_mk ?a25 ?l25 ?c25 ?k25) (Mk.df_mk ?a26 ?l26 ?c26 ?k26) (Mk.df_mk ?a27 ?l27 ?c27 ?k27) (Mk.df_mk ?a28 ?l28 ?c28 ?k28) (Mk.df_mk ?a29 ?l29 ?c29 ?k29) (Mk.df_mk ?a30 ?l30 ?c30 ?k30) (Mk.df_mk ?a31 ?l31 ?c31 ?k31) (Mk.df_mk ?a32 ?l32 ?c32 ?k32) (Mk.df_mk ?a33 ?l33 ?c33 ?k33) (Mk.df_mk ?a34 ?l34 ?c34 ?k34) (Mk.df_mk ?a35 ?l35 ?c35 ?k35) (Mk.df_mk ?a36 ?l36 ?c36 ?k36) (Mk.df_mk ?a37 ?l37 ?c37 ?k37) (Mk.df_mk ?a38 ?l38 ?c38 ?k38) (Mk.df_mk ?a39 ?l39 ?c39 ?k39) ?y_z_len ?y_z_int ?y_z_abs ?y_z_max ?y_z_min ?y_z_range ?y_z_list ?y_z_isinstance ?y_z_str ?y_z_tuple ?y_z_all ?y_z_sorted ?y_z_set ?y_z_bool ?y_z_dict ?y_z_repr ?y_z_sum ?y_z_zip ?y_vS ?y_vP ?y_vM ?y_vW ?y_aC ?y_pg ?y_hd ?y_po ?y_sa ?y_mk ?y_kc ?y_n1 ?y_n2 ?y_n3 ?y_n4 ?y_ii ?y_jf ?y_li ?y_ci ?y_ki ?y_ha ?y_hn ?y_ht ?y_hm ?y_aI ?y_aO ?y_xI ?y_kI ?y_bI ?y_tI ?y_iI ?y_sI ?y_xO ?y_kO ?y_bO ?y_tO ?y_iO ?y_sO ?y_sOI ?y_aR ?y_lR ?y_eR ?y_kR ?y_lcR ?y_vR ?y_nR ?y_rR (Mk.pf_mk ?p0a ?p0b ?p0t ?p0r ?p0l ?p0c ?p0k) (Mk.pf_mk ?p1a ?p1b ?p1t ?p1r ?p1l ?p1c ?p1k) (Mk.pf_mk ?p2a ?p2b ?p2t ?p2r ?p2l ?p2c ?p2k) (Mk.pf_mk ?p3a ?p3b ?p3t ?p3r ?p3l ?p3c ?p3k)
    (case a1 => k_is)
    (case l1 => k_is)
    (case c1 => k_is)
    (case k1 => k_is)
    (case a2 => k_is)
    (case l2 => k_is)
    (case c2 => k_is)
    (case k2 => k_is)
    (case a3 => k_is)
    (case l3 => k_is)
    (case c3 => k_is)
    (case k3 => k_is)
    (case a4 => k_is)
    (case l4 => k_is)
    (case c4 => k_is)
    (case k4 => k_is)
    (case a5 => k_is)
    (case l5 => k_is)
    (case c5 => k_is)
    (case k5 => k_is)
    (case a6 => k_is)
    (case l6 => k_is)
    (case c6 => k_is)
    (case k6 => k_is)
    (case a7 => k_is)
    (case l7 => k_is)
    (case c7 => k_is)
    (case k7 => k_is)
    (case a8 => k_is)
    (case l8 => k_is)
    (case c8 => k_is)
    (case k8 => k_is)
    (case a9 => k_is)
    (case l9 => k_is)
    (case c9 => k_is)
    (case k9 => k_is)
    (case a10 => k_is)
    (case l10 => k_is)
    (case c10 => k_is)
    (case k10 => k_is)
    (case a11 => k_is)
    (case l11 => k_is)
    (case c11 => k_is)
    (case k11 => k_is)
    (case a12 => k_is)
    (case l12 => k_is)
    (case c12 => k_is)
    (case k12 => k_is)
    (case a13 => k_is)
    (case l13 => k_is)
    (case c13 => k_is)
    (case k13 => k_is)
    (case a14 => k_is)
    (case l14 => k_is)
    (case c14 => k_is)
    (case k14 => k_is)
    (case a15 => k_is)
    (case l15 => k_is)
    (case c15 => k_is)
    (case k15 => k_is)
    (case a16 => k_is)
    (case l16 => k_is)
    (case c16 => k_is)
    (case k16 => k_is)
    (case a17 => k_is)
    (case l17 => k_is)
    (case c17 => k_is)
    (case k17 => k_is)
    (case a18 => k_is)
    (case l18 => k_is)
    (case c18 => k_is)
    (case k18 => k_is)
    (case a19 => k_is)
    (case l19 => k_is)
    (case c19 => k_is)
    (case k19 => k_is)
    (case a20 => k_is)
    (case l20 => k_is)
    (case c20 => k_is)
    (case k20 => k_is)
    (case a21 => k_is)
    (case l21 => k_is)
    (case c21 => k_is)
    (case k21 => k_is)
    (case a22 => k_is)
    (case l22 => k_is)
    (case c22 => k_is)
    (case k22 => k_is)
    (case a23 => k_is)
    (case l23 => k_is)
    (case c23 => k_is)
    (case k23 => k_is)
    (case a24 => k_is)
    (case l24 => k_is)
    (case c24 => k_is)
    (case k24 => k_is)
    (case a25 => k_is)
    (case l25 => k_is)
    (case c25 => k_is)
    (case k25 => k_is)
    (case a26 => k_is)
    (case l26 => k_is)
    (case c26 => k_is)
    (case k26 => k_is)
    (case a27 => k_is)
    (case l27 => k_is)
    (case c27 => k_is)
    (case k27 => k_is)
    (case a28 => k_is)
    (case l28 => k_is)
    (case c28 => k_is)
    (case k28 => k_is)
    (case a29 => k_is)
    (case l29 => k_is)
    (case c29 => k_is)
    (case k29 => k_is)
    (case a30 => k_is)
    (case l30 => k_is)
    (case c30 => k_is)
    (case k30 => k_is)
    (case a31 => k_is)
    (case l31 => k_is)
    (case c31 => k_is)
    (case k31 => k_is)
    (case a32 => k_is)
    (case l32 => k_is)
    (case c32 => k_is)
    (case k32 => k_is)
    (case a33 => k_is)
    (case l33 => k_is)
    (case c33 => k_is)
    (case k33 => k_is)
    (case a34 => k_is)
    (case l34 => k_is)
    (case c34 => k_is)
    (case k34 => k_is)
    (case a35 => k_is)
    (case l35 => k_is)
    (case c35 => k_is)
    (case k35 => k_is)
    (case a36 => k_is)
    (case l36 => k_is)
    (case c36 => k_is)
    (case k36 => k_is)
    (case a37 => k_is)
    (case l37 => k_is)
    (case c37 => k_is)
    (case k37 => k_is)
    (case a38 => k_is)
    (case l38 => k_is)
    (case c38 => k_is)
    (case k38 => k_is)
    (case a39 => k_is)
    (case l39 => k_is)
    (case c39 => k_is)
    (case k39 => k_is)
    (case y_z_len => k_is)
    (case y_z_int => k_is)
    (case y_z_abs => k_is)
    (case y_z_max => k_is)
    (case y_z_min => k_is)
    (case y_z_range => k_is)
    (case y_z_list => k_is)
    (case y_z_isinstance => k_is)
    (case y_z_str => k_is)
    (case y_z_tuple => k_is)
    (case y_z_all => k_is)
    (case y_z_sorted => k_is)
    (case y_z_set => k_is)
    (case y_z_bool => k_is)
    (case y_z_dict => k_is)
    (case y_z_repr => k_is)
    (case y_z_sum => k_is)
    (case y_z_zip => k_is)
    (case y_vS => k_is)
    (case y_vP => k_is)
    (case y_vM => k_is)
    (case y_vW => k_is)
    (case y_aC => k_is)
    (case y_pg => k_is)
    (case y_hd => k_is)
    (case y_po => k_is)
    (case y_sa => k_is)
    (case y_mk => k_is)
    (case y_kc => k_is)
    (case y_n1 => k_is)
    (case y_n2 => k_is)
    (case y_n3 => k_is)
    (case y_n4 => k_is)
    (case y_ii => k_is)
    (case y_jf => k_is)
    (case y_li => k_is)
    (case y_ci => k_is)
    (case y_ki => k_is)
    (case y_ha => k_is)
    (case y_hn => k_is)
    (case y_ht => k_is)
    (case y_hm => k_is)
    (case y_aI => k_is)
    (case y_aO => k_is)
    (case y_xI => k_exc)
    (case y_kI => k_is)
    (case y_bI => k_is)
    (case y_tI => k_is)
    (case y_iI => k_is)
    (case y_sI => first | rfl | k_is)
    (case y_xO => k_exc)
    (case y_kO => k_is)
    (case y_bO => k_is)
    (case y_tO => k_is)
    (case y_iO => k_is)
    (case y_sO => first | rfl | k_is)
    (case y_sOI => first | rfl | k_is)
    (case y_aR => k_is)
    (case y_lR => k_is)
    (case y_eR => k_is)
    (case y_kR => k_is)
    (case y_lcR => k_is)
    (case y_vR => rfl)
    (case y_nR => kernel_rfl)
    (case y_rR => first | kernel_rfl | decide +kernel)
    (case p0a => k_is)
    (case p0b => k_is)
    (case p0t => k_is)
    (case p0r => k_is)
    (case p0l => k_is)
    (case p0c => k_is)
    (case p0k => k_is)
    (case p1a => k_is)
    (case p1b => k_is)
    (case p1t => k_is)
    (case p1r => k_is)
    (case p1l => k_is)
    (case p1c => k_is)
    (case p1k => k_is)
    (case p2a => k_is)
    (case p2b => k_is)
    (case p2t => k_is)
    (case p2r => k_is)
    (case p2l => k_is)
    (case p2c => k_is)
    (case p2k => k_is)
    (case p3a => k_is)
    (case p3b => k_is)
    (case p3t => k_is)
    (case p3r => k_is)
    (case p3l => k_is)
    (case p3c => k_is)
    (case p3k => k_is)
