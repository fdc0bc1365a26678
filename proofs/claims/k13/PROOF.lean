import PyProof.Rows.All
import HandS.ForMost
import HandS.Set
import HandS.SetFor
import HandS.SetTxt0
import HandS.Strs
import KE.SortData
import KE.SortLaws
import KE.SortKeyHeap
import KE.SortUse
import Wide.All
import OpenK.AllK
import Wide.FinOn
import HandS.Wide
import HandS.Flow
import PySem.Challenge.RW_mendnumber_k13_whole_histories_of_forms
import HandS.IsInst
import HandS.StrMore
import HandS.Walk
import HandS.MakeKwOnly
import HandS.ClsMeth
import HandS.DictComp
import HandS.Conv
import HandS.Iter
import HandS.Dict
import KE.KDictWalk
import HandS.More
import PyProof.Rows.SortStr
import KE.KDictSum
import HandS.Zip
import KE.GoesMore
import KE.GoesEnum
import PyProof.EnumMake
import KE.KExcSuper
import HandS.ExcOwn
import HandS.ExcField
import HandS.ExcInit
import HandS.ExcValue
import HandS.Defaults
import HandS.Property
import HandS.Small
import HandS.DictTup
import HandS.OwnEq
import KE.KCallOwn
import KE.KFmtOwn
import PyProof.InstNe
import PyProof.FactsAll.enumerate_1
import OpenK.KMeth
import PyProof.P3In
import HandS.Exc
import HandS.WordsExc
import HandS.DictEq
import KE.KDictList
import KE.KDictCopyH
import KE.KItemsList
import KE.DataMinMax
import HandS.Sort
import HandS.FStr
import HandS.TupLen
import KE.KDictPairs
import PyProof.ListStr
import HandS.Deep
import PyProof.NeKinds
import KE.KDictDisplayH
import PyProof.DictTable
import HandS.Text
import HandS.TryOnly
import HandS.Style
import KE.KRevSl
import HandS.Lambda
import HandS.TryMany
import PyProof.StrLawsRepr
import HandS.Flt
import PyProof.Draws
import KE.DatumOrd
import PyProof.EnumIter
import PyProof.CollectWalk
import HandS.TupAny
import KE.KDictKeyed
import KE.KeyNested
import KE.KIntText
import KE.KDictZip
import PyProof.EqAt
import HandS.ListEq
import KE.KEqNest
section
open PySem PySem.W PyProof.Rows
set_option maxRecDepth 100000
set_option maxHeartbeats 0
set_option Elab.async false
theorem PySem.W.Fast.te4110290226886642065 : True := trivial
theorem PySem.W.Fast.te5369427470323729400 : True := trivial
open_top head13 for PySem.Challenge.rw_mendnumber_k13_whole_histories_of_forms
end
set_option Elab.async false
set_option linter.all false
set_option maxRecDepth 100000
set_option maxHeartbeats 4000000
namespace Mk
open PySem PySem.Spec PyProof.Rows L2 PySem.Froz

/-- the table of a payload can be walked -/
def Wk (w : World) (D : SD) : Prop := Ris D.2.2.place.toList ∧ (w.params.followText "set-order" = true ∨ D.2.2.led = true)
/-- the payload holds just the unlike texts l, and can be walked -/
structure Tx (P : Program) (w : World) (D : SD) (l : List Str) : Prop where
  ok : TxOk P w D l
  wk : Wk w D
  nd : l.Nodup

section
variable {P : Program} {w : World} {A : Around} {E : Value → Shared → Prop} {s : Shared}
theorem plain_wk {t : SetTable} (h : Ris t.place.toList ∧ (w.params.followText "set-order" = true ∨ t.led = true)) :
    Ris (if t.plain = true then { t with plain := false } else t).place.toList ∧ (w.params.followText "set-order" = true ∨ (if t.plain = true then { t with plain := false } else t).led = true) := by
  by_cases c : t.plain = true
  · rw [if_pos c]; exact h
  · rw [if_neg c]; exact h
theorem tail_wk {ep : Nat} {es : Array (Int × Value)} {t : SetTable} {b : Bool} (h : Ris t.place.toList ∧ (w.params.followText "set-order" = true ∨ t.led = true)) : Wk w (tailTx ep es t b) := by
  unfold tailTx
  by_cases c : (!b && t.tooFull) = true
  · rw [if_pos c]
    refine ⟨relayAll_ris t es _, h.2.imp id fun z => ?_⟩
    show (relayAll t es (SetTable.grown es.size)).2.1.led = true
    rw [relayAll_led t es _]
    exact z
  · rw [if_neg c]; exact h
theorem add_wk {D : SD} (h : Int) (v : Value) (k : Wk w D) : Wk w (addTx h v D) := by
  unfold addTx
  refine tail_wk (plain_wk ⟨layNew_ris D.2.2 D.1 h v k.1, k.2.imp id fun z => ?_⟩)
  rw [layNew_led D.2.2 D.1 h v]
  exact z
theorem Tx.add {D : SD} {l : List Str} {k : Str} (u : Tok) (x : Tx P w D l) (hk : k ∉ l) : Tx P w (addTx (hashStr w k) (.str k u) D) (k :: l) :=
  ⟨add_ok u x.ok, add_wk _ _ x.wk, List.nodup_cons.mpr ⟨hk, x.nd⟩⟩

/-- an add of a text that is there -/
theorem dup_x {a : Addr} {T : String} {D : SD} {l : List Str} {k : Str} {u : Tok} {Q : Bool → Shared → Prop} (ho : s.heap.get? a = some (sObj T D)) (x : TxOk P w D l) (hk : k ∈ l) (hb : l.length < scanBound)
    (h : Q false s) : wpAny (model P w) A (setAddHashed a (.str k u) (hashStr w k)) Q E s := by
  obtain ⟨es, ep, t⟩ := D
  have d0 : (sObj T (es, ep, t)).data = .set es ep t := rfl
  have f0 : t.fits es.size = true := x.fit
  have e0 : ElemsOf (PySem.strKind P w) es.toList := x.el
  have z0 : es.size = l.length := x.sz
  have b0 : es.size < scanBound := by omega
  have k0 : (PySem.strKind P w).is k (.str k u) = true := is_str k u
  obtain ⟨e, he, hq⟩ := (x.mem k).mp hk
  unfold setAddHashed setAddHashedIn
  refine wpAny_holding (wpAny_bind (wpAny_setState_of ho d0 f0 ?_))
  dsimp only
  rw [byScan_of rfl b0 e0]
  simp only [↓reduceIte]
  unfold setAddByScan
  refine wpAny_bind (wpAny_bind (wpAny_rule ?_))
  refine wpAny_bind (wpAny_setScan_of (knd := PySem.strKind P w) (k := k) k0 ho d0 f0 e0 ?_)
  cases r : List.findIdx? (fun e => (PySem.strKind P w).is k e.2) es.toList with
  | none =>
    have := List.findIdx?_eq_none_iff.mp r e he
    rw [hq] at this
    cases this
  | some j => exact wpAny_pure (wpAny_pure h)

/-- at a stands the set of just the unlike texts l -/
def SetS (P : Program) (w : World) (h : Heap) (a : Addr) (l : List Str) : Prop := ∃ D : SD, h.get? a = some (sObj "set" D) ∧ Tx P w D l
theorem SetS.at {h h' : Heap} {a : Addr} {l : List Str} (x : SetS P w h a l) (k : ∀ o, h.get? a = some o → h'.get? a = some o) : SetS P w h' a l :=
  let ⟨D, e, t⟩ := x
  ⟨D, k _ e, t⟩
/-- l holds just the first i of xs -/
def Firsts (xs : List Str) (i : Nat) (l : List Str) : Prop := (∀ y, y ∈ l ↔ y ∈ xs.take i) ∧ l.length ≤ i
theorem put_x {a : Addr} {l : List Str} {k : Str} {u : Tok} {Q : Bool → Shared → Prop} (x : SetS P w s.heap a l) (hb : l.length + 1 < scanBound)
    (h : ∀ (b : Bool) (h' : Heap) (l' : List Str), Heap.SameBut a s.heap h' → SetS P w h' a l' → (∀ y, y ∈ l' ↔ y ∈ l ∨ y = k) → l'.length ≤ l.length + 1 → Q b { s with heap := h' }) :
    wpAny (model P w) A (setAddHashed a (.str k u) (hashStr w k)) Q E s := by
  obtain ⟨D, e, t⟩ := x
  by_cases hk : k ∈ l
  · refine dup_x e t.ok hk (by omega) (h false s.heap l (Heap.SameBut.refl a s.heap) ⟨D, e, t⟩ (fun y => ⟨.inl, fun z => z.elim id fun q => q ▸ hk⟩) (Nat.le_succ _))
  · refine add_x e t.ok hk hb (h true _ (k :: l) ?_ ⟨_, ?_, t.add u hk⟩ (fun y => ?_) (by simp))
    · exact Heap.SameBut.update _ _ _
    · exact get_upd _ e rfl
    · rw [List.mem_cons]
      exact Or.comm

theorem grow_x {I : Addr} {fp wr : List Addr} {G : Array GenState → Array GenState → Prop} {n : Nat} {Pv : Nat → Value → Prop} {St : Nat → Shared → Prop} {R : Result → Shared → Prop}
    (W : WalksS P w A.in1 I fp wr G n Pv St) (a : Addr) (ha : a ∉ fp) (xs : List Str) (hn : n = xs.length) (hb : xs.length + 1 < scanBound) (hv : ∀ i v, Pv i v → ∃ y t, xs[i]? = some y ∧ v = .str y t) :
    ∀ (m i : Nat) (s : Shared), n - i = m → i ≤ n → St i s → (∃ l, Firsts xs i l ∧ SetS P w s.heap a l) →
      (∀ s' l, Moved (a :: wr) G s s' → Firsts xs n l → SetS P w s'.heap a l → R (.ok (.ret .none)) s') →
      codeAny (model P w) A (.builtin "set.update.loop" ⟨[.ref a, .ref I], []⟩) R s := by
  have aw : a ∉ wr := fun z => ha (W.sub _ z)
  have more : ∀ b ∈ wr, b ∈ a :: wr := fun b z => List.mem_cons_of_mem _ z
  intro m
  induction m with
  | zero =>
    intro i s hm hi st ⟨l, hf, x⟩ hR
    obtain rfl : i = n := by omega
    refine codeAny_builtin PyProof.Rows.F.entry_set_update_loop ?_
    rw [Around.under_plainId PyProof.Rows.F.plain_set_update_loop _]
    show wpAny _ A.in1 (pyNext (.ref I) >>= _) _ _ s
    refine wpAny_bind (W.done s _ _ st fun s1 mv => wpAny_pure ?_)
    exact hR s1 l (mv.mono more) hf (x.at fun o e => mv.heap a o aw e)
  | succ m ih =>
    intro i s hm hi st ⟨l, hf, x⟩ hR
    have lt : i < n := by omega
    refine codeAny_builtin PyProof.Rows.F.entry_set_update_loop ?_
    rw [Around.under_plainId PyProof.Rows.F.plain_set_update_loop _]
    show wpAny _ A.in1 (pyNext (.ref I) >>= _) _ _ s
    refine wpAny_bind (W.item i s _ _ lt st fun v s1 pv st1 mv => ?_)
    obtain ⟨y, t, hy, rfl⟩ := hv i v pv
    have x1 : SetS P w s1.heap a l := x.at fun o e => mv.heap a o aw e
    show wpAny _ A.in1 (holding [Value.str y t] (setAdd a (.str y t)) >>= _) _ _ s1
    refine wpAny_bind (wpAny_holding ?_)
    unfold setAdd
    refine wpAny_holding (wpAny_bind ((PySem.strKind P w).pyHash (k := y) (is_str y t) ?_))
    refine put_x (s := { s1 with toks := s1.toks + 1 }) x1 (by have := hf.2; omega) fun b h1 l1 sb x2 hm2 hl2 => ?_
    have hf1 : Firsts xs (i + 1) l1 := ⟨fun z => by
      rw [hm2, hf.1, List.take_add_one, hy, List.mem_append]
      simp, by have := hf.2; omega⟩
    refine wpAny_pure ⟨plainId_quiet PyProof.Rows.F.plain_set_update_loop _, ih (i + 1) _ (by omega) lt (W.frame _ s1 _ _ st1 (Nat.le_succ _) fun b hb o e => ?_) ⟨l1, hf1, x2⟩ fun s2 l2 mv2 hf2 x3 => ?_⟩
    · exact (sb.2 b fun z => ha (z ▸ hb)).trans e
    · refine hR s2 l2 (Moved.trans W.gtrans ((mv.mono more).then_heap (Nat.le_succ _) fun b o hb e => ?_) mv2) hf2 x3
      exact (sb.2 b fun z => hb (z ▸ List.mem_cons_self)).trans e

/-- a set just made -/
abbrev ob0 (w : World) : Obj := { cls := .type "set", dict := none, data := .set #[] 0 (.fresh 0 0 (!w.params.followText "set-order")) }
theorem setS_new {h : Heap} {a : Addr} (e : h.get? a = some (ob0 w)) : SetS P w h a [] :=
  ⟨(#[], 0, .fresh 0 0 (!w.params.followText "set-order")), e, TxOk.nil rfl, ⟨List.Pairwise.nil, by
    show _ ∨ (!w.params.followText "set-order") = true
    cases w.params.followText "set-order"
    · exact .inr rfl
    · exact .inl rfl⟩, List.nodup_nil⟩

set_option maxHeartbeats 3200000 in
/-- set(t), t a tuple of texts -/
theorem call_set_tupleX {t : Addr} {items : Array Value} (xs : List Str) {Q : Value → Shared → Prop} (hh : A.handled = none) (ht : s.heap.IsTuple t items) (hx : StrsAre items.toList xs) (hb : xs.length + 1 < scanBound)
    (h : ∀ (h' : Heap) (tk : Nat) (l : List Str), SetS P w h' s.heap.objs.size l → Firsts xs xs.length l → (∀ b o, s.heap.get? b = some o → h'.get? b = some o) → Q (.ref s.heap.objs.size) { s with heap := h', toks := tk }) :
    wpAny (model P w) A (call (.type "set") [.ref t]) Q E s := by
  have hsz : items.size = xs.length := by
    have q := StrsAre.length hx
    rw [Array.length_toList] at q
    exact q
  obtain ⟨c0, tl0, mro0⟩ := PySem.F.called_set.mro
  have made0 := PySem.F.called_set.made
  have sub0 := PySem.F.called_set.sub
  refine wpAny_call (codeAny_of_tree ?_)
  show wpAny _ _ (callAny (.type "set") _) _ _ _
  refine wpAny_pure ⟨Code.quiet_builtin _ (by decide +kernel), codeAny_builtin PySem.F.entry_type_call ?_⟩
  rw [Around.under_plain (weight_type_call_type "set" [.ref t] []) rfl]
  have nt0 := PySem.F.called_set.notType
  have cc0 := PySem.F.called_set.canCreate
  have tc0 := PySem.F.typeCall_set_1 (.ref t)
  repeat (any_goals (first | assumption | wp_step))
  refine codeAny_mono (code_set_led1 (.ref t) (E := E) (Q₁ := fun v s1 => v = .ref s.heap.objs.size ∧ s1 = { s with heap := s.heap.push (ob0 w) }) ⟨rfl, rfl⟩) fun r s1 hr => ?_
  match r, hr with
  | .error e, hr => exact hr
  | .ok (.ret v), hr =>
    obtain ⟨rfl, rfl⟩ := hr
    have o0 : (s.heap.push (ob0 w)).get? s.heap.objs.size = some (ob0 w) := Heap.get?_push_size _ rfl
    have ty0 : Shared.TypeIs { s with heap := s.heap.push (ob0 w) } (.ref s.heap.objs.size) "set" := ⟨_, o0, rfl⟩
    have il0 := PySem.F.called_set.init.lookup
    have ib0 := PySem.F.called_set.init.bind (.ref s.heap.objs.size)
    repeat (any_goals (first | assumption | wp_step))
    refine codeAny_mono (codeAny_call_builtin (R := wants (fun v s2 => v = .none ∧ ∃ h2 tk l, s2 = { s with heap := h2, toks := tk } ∧ SetS P w h2 s.heap.objs.size l ∧ Firsts xs xs.length l ∧
        (∀ b o, s.heap.get? b = some o → h2.get? b = some o)) E) PySem.F.called_set.init.plain PySem.F.entry_set_init (check_set_init_1 ty0 ?_)) fun r2 s2 hr2 => ?_
    · obtain ⟨⟨oc, od, dt, osl⟩, ot, hc, nl, hd⟩ := ht
      simp only at hc hd
      subst hc
      subst hd
      have ot2 : (s.heap.push (ob0 w)).get? t = some { cls := .type "tuple", dict := od, data := .seq items nl, slots := osl } := Heap.get?_push_of_some _ ot
      have st1 := F.sub_tuple_set
      have st2 := F.sub_tuple_frozenset
      have td0 : (Value.type "tuple" == Value.type "dict") = false := by decide
      have t1 : (s.heap.push (ob0 w)).IsTuple t items := ⟨_, ot2, rfl, nl, rfl⟩
      unfold Builtin.«set.__init__» noKeywords Builtin.Frozenset.updateFrom
      generalize hPI : pyIter = PI
      wp_walk
      subst hPI
      refine wpAny_pyIter_tuple t1 (wpAny_bind (wpAny_runValue ?_))
      have lt0 : t < s.heap.objs.size := Heap.lt_size ot
      have hh3 : A.in1.in1.in1.handled = none := by simp [hh]
      have z1 : (s.heap.push (ob0 w)).objs.size = s.heap.objs.size + 1 := Heap.size_push ..
      have ne1 : t ≠ (s.heap.push (ob0 w)).objs.size := by rw [z1]; exact Nat.ne_of_lt (Nat.lt_succ_of_lt lt0)
      have nf1 : s.heap.objs.size ∉ [(s.heap.push (ob0 w)).objs.size, t] := by
        rw [z1]
        simp only [List.mem_cons, List.not_mem_nil, or_false, not_or]
        exact And.intro (Nat.ne_of_lt (Nat.lt_succ_self _)) (Nat.ne_of_gt lt0)
      have val1 : ∀ (i : Nat) (v : Value), items[i]? = some v → ∃ y u, xs[i]? = some y ∧ v = .str y u := fun i v e => by
        have hi : i < xs.length := by rw [← hsz]; exact (Array.getElem?_eq_some_iff.mp e).1
        obtain ⟨u, q⟩ := SS.strs_at hx i v (by rw [Array.getElem?_toList]; exact e)
        exact ⟨xs[i], u, List.getElem?_eq_getElem hi, by rw [q, List.getD_eq_getElem?_getD, List.getElem?_eq_getElem hi]; rfl⟩
      refine grow_x ((Walks.tuple hh3 _ t ne1 items).toS) s.heap.objs.size nf1 xs hsz hb val1 (items.size - 0) 0 _ (by omega) (Nat.zero_le _)
        ⟨⟨_, Heap.get?_push_size _ rfl, rfl, rfl⟩, (t1.push _)⟩ ⟨[], ⟨fun y => by simp, Nat.le_refl 0⟩, setS_new (Heap.get?_push_of_some _ o0)⟩ ?_
      intro s3 l3 mv hf3 x3
      obtain ⟨h3, g3, d3, tk3, os3⟩ := s3
      obtain rfl : g3 = s.gens := mv.gens
      obtain rfl : d3 = s.drawn := mv.drawn
      obtain rfl : os3 = s.os := mv.os
      show wpAny _ _ _ _ _ _
      refine wpAny_pure ?_
      show wpAny _ _ (ret Value.none) _ _ _
      rw [hsz] at hf3
      refine wpAny_pure ⟨rfl, h3, tk3, l3, rfl, x3, hf3, fun b o e => ?_⟩
      have b0 : b < s.heap.objs.size := Heap.lt_size e
      refine mv.heap b o ?_ (Heap.get?_push_of_some _ (Heap.get?_push_of_some _ e))
      rw [z1]
      simp only [List.mem_cons, List.not_mem_nil, or_false, not_or]
      exact And.intro (Nat.ne_of_lt b0) (Nat.ne_of_lt (Nat.lt_succ_of_lt b0))
    · match r2, hr2 with
      | .error e, hr2 => exact hr2
      | .ok (.ret v2), hr2 =>
        obtain ⟨rfl, h2, tk2, l2, rfl, x2, hf2, k2⟩ := hr2
        repeat (any_goals (first | assumption | wp_step))
        exact h _ _ _ x2 hf2 k2
      | .ok .next, hr2 => exact hr2.elim
      | .ok .brk, hr2 => exact hr2.elim
      | .ok .cont, hr2 => exact hr2.elim
  | .ok .next, hr => exact hr.elim
  | .ok .brk, hr => exact hr.elim
  | .ok .cont, hr => exact hr.elim
end
end Mk

set_option Elab.async false
set_option linter.all false
set_option maxRecDepth 100000
set_option maxHeartbeats 4000000
namespace Mk
open PySem PySem.Spec PyProof.Rows L2 PySem.Froz

theorem perm_sub {α : Type} [BEq α] [LawfulBEq α] : ∀ {l m : List α}, l.Nodup → (∀ x ∈ l, x ∈ m) → m.length = l.length → m.Perm l
  | [], m, _, _, h => by
    have e : m = [] := List.length_eq_zero_iff.mp (by simpa using h)
    rw [e]
  | a :: l, m, nd, h, hl => by
    have ha := h a List.mem_cons_self
    obtain ⟨n1, n2⟩ := List.nodup_cons.mp nd
    have p := List.perm_cons_erase ha
    refine p.trans (List.Perm.cons a (perm_sub n2 (fun x hx => ?_) ?_))
    · have hne : x ≠ a := fun e => n1 (e ▸ hx)
      exact (List.mem_erase_of_ne hne).mpr (h x (List.mem_cons_of_mem _ hx))
    · have := p.length_eq
      rw [List.length_cons] at this hl
      omega
/-- a value that is the text y -/
abbrev IsTx (v : Value) (y : Str) : Prop := ∃ t, v = .str y t
def txOf (v : Value) : Str := match v with
  | .str y _ => y
  | _ => Str.empty
theorem each_tx : ∀ (vs : List Value), (∀ v ∈ vs, ∃ y t, v = .str y t) → PySem.W.EachIs IsTx vs (vs.map txOf)
  | [], _ => .nil
  | v :: vs, h => by
    obtain ⟨y, t, rfl⟩ := h v List.mem_cons_self
    exact .cons ⟨t, rfl⟩ (each_tx vs fun u hu => h u (List.mem_cons_of_mem _ hu))
theorem each_len {α β : Type} {R : α → β → Prop} : ∀ {as : List α} {bs : List β}, PySem.W.EachIs R as bs → as.length = bs.length
  | _, _, .nil => rfl
  | _, _, .cons _ t => by rw [List.length_cons, List.length_cons, each_len t]
theorem each_mono {α β : Type} {R R' : α → β → Prop} (h : ∀ a b, R a b → R' a b) : ∀ {as : List α} {bs : List β}, PySem.W.EachIs R as bs → PySem.W.EachIs R' as bs
  | _, _, .nil => .nil
  | _, _, .cons r t => .cons (h _ _ r) (each_mono h t)
theorem each_vals : ∀ {vs : List Value} {ys : List Str}, PySem.W.EachIs IsTx vs ys → Vals (ys.map V.str) vs
  | _, _, .nil => .nil
  | _, _, .cons r t => .cons r (each_vals t)
theorem vals_each : ∀ {ys : List Str} {vs : List Value}, Vals (ys.map V.str) vs → PySem.W.EachIs IsTx vs ys
  | [], _, .nil => .nil
  | _ :: _, _, .cons r t => .cons r (vals_each t)
section
variable {P : Program} {w : World} {A : Around} {E : Value → Shared → Prop} {s : Shared}
theorem Tx.texts {D : SD} {l : List Str} (x : Tx P w D l) : (∀ v ∈ D.1.toList.map (·.2), ∃ y t, v = .str y t) ∧ ((D.1.toList.map (·.2)).map txOf).Perm l := by
  have h1 : ∀ v ∈ D.1.toList.map (·.2), ∃ y t, v = Value.str y t := fun v hv => by
    obtain ⟨e, he, rfl⟩ := List.mem_map.mp hv
    obtain ⟨⟨k, hk, _⟩, _⟩ := x.ok.el e he
    obtain ⟨t, q⟩ := Value.isStrOf_shape (show Value.isStrOf k e.2 = true from hk)
    exact ⟨k, t, q⟩
  refine ⟨h1, perm_sub x.nd (fun k hk => ?_) (by rw [List.length_map, List.length_map, Array.length_toList]; exact x.ok.sz)⟩
  obtain ⟨e, he, hq⟩ := (x.ok.mem k).mp hk
  obtain ⟨t, q⟩ := Value.isStrOf_shape (show Value.isStrOf k e.2 = true from hq)
  exact List.mem_map.mpr ⟨e.2, List.mem_map.mpr ⟨e, he, rfl⟩, by rw [q]; rfl⟩

/-- texts by their codes -/
abbrev byCs (x y : Str) : Bool := decide (x.cps.toList ≤ y.cps.toList)
theorem enc_le : PySem.W.dataLe false (fun x : Str => PyData.str x) = byCs := PySem.W.dataLe_str (fun x => x)
/-- sorted(set) of texts -/
theorem sorted_setX {a : Addr} {l : List Str} {Q : Value → Shared → Prop} (x : SetS P w s.heap a l) (hh : A.handled = none) (hb : l.length < scanBound) (hu : A.units + 60 < cLine)
    (hQ : ∀ s' p (out : List Value) (c : Nat) (ys : List Str), (∀ b o, s.heap.get? b = some o → s'.heap.get? b = some o) → s'.gens = s.gens → s'.os = s.os → s.heap.objs.size ≤ p →
      s'.heap.get? p = some (seqObj "list" out.toArray c) → PySem.W.EachIs IsTx out (ys.mergeSort byCs) → ys.Perm l → Q (.ref p) s') :
    wpAny (model P w) A (call (.builtin "sorted") [.ref a]) Q E s := by
  obtain ⟨D, e0, t0⟩ := x
  obtain ⟨tx, pm0⟩ := t0.texts
  refine Calls.call_function_entry kind_sorted plain_sorted entry_sorted (args_sorted1 _) ?_
  unfold Builtin.«sorted»
  refine wpAny_bind (m := checkCount "sorted" 1 1 _) (wpAny_pure ?_)
  have z0 : D.1.size < scanBound := by rw [t0.ok.sz]; exact hb
  refine wpAny_bind (collect_set (A := A.in1) (es := D.1) (ep := D.2.1) (t := D.2.2) hh ⟨_, e0, rfl, rfl⟩ t0.ok.fit z0 t0.wk.1 t0.wk.2 fun s1 vs kp hz g1 o1 pm => ?_)
  have lv : vs.length = l.length := by rw [pm.length_eq, List.length_map, Array.length_toList]; exact t0.ok.sz
  have txv : ∀ v ∈ vs, ∃ y t, v = Value.str y t := fun v hv => tx v (pm.mem_iff.mp hv)
  have ev := each_tx vs txv
  have fit : l.length ≤ sizeLine := Nat.le_trans (Nat.le_of_lt hb) (by decide)
  refine wpAny_bind (wpAny_newList ?_ (by rw [lv]; exact fit))
  have at0 : (s1.heap.push (seqObj "list" vs.toArray 0)).get? s1.heap.objs.size = some (seqObj "list" vs.toArray 0) := Heap.get?_push_size _ rfl
  refine wpAny_bind (wpAny_holding (PySem.W.list_sort_data (s := { s1 with heap := s1.heap.push (seqObj "list" vs.toArray 0) }) (enc := fun x : Str => PyData.str x) at0 ev (each_mono (fun v y ⟨t, q⟩ => ⟨[], by rw [q]; exact .str y t, (fun z => nomatch z)⟩) ev)
    (PySem.W.AllAlike.of fun _ _ => rfl) (PySem.W.Sortable.others fun _ => ⟨(fun z => nomatch z), (fun _ z => nomatch z)⟩) (by rw [List.length_map, lv]; exact fit) (fun y _ => ?_) fun out lo eo => ?_))
  · show A.units + 1 + 1 + 0 < cLine
    omega
  obtain ⟨c, hc⟩ := sortedHeap_at (vs := vs) (out := out.toArray) at0
  rw [enc_le] at eo
  refine wpAny_pure ⟨_, rfl, hQ _ s1.heap.objs.size out c _ (fun b u e => ?_) g1 o1 hz hc eo ((pm.map txOf).trans pm0)⟩
  have q := kp b u e
  have lt := Heap.lt_size q
  show (sortedHeap (s1.heap.push (seqObj "list" vs.toArray 0)) s1.heap.objs.size vs out.toArray).get? b = some u
  rw [sortedHeap_old (Nat.ne_of_lt lt) (by rw [size_push']; exact Nat.lt_succ_of_lt lt)]
  exact Heap.get?_push_of_some _ q
end
end Mk

set_option Elab.async false
set_option linter.all false
set_option maxRecDepth 100000
set_option maxHeartbeats 4000000
namespace Mk
open PySem PySem.Spec PyProof.Rows L2 PySem.Froz

/-- the set of the unlike texts l at a -/
def SetSO (P : Program) (w : World) (a : Addr) (l : List Str) : HO := .ext fun h => SetS P w h a l
section
variable {X : Cx}
theorem setSO_new {P : Program} {w : World} {H : Hp} {h : Heap} {a : Addr} {l : List Str} (x : SetS P w h a l) : ObjOk P w H h a (SetSO P w a l) := by
  obtain ⟨D, e, t⟩ := id x
  exact ⟨x, ⟨_, e⟩, fun h1 h2 y k => y.at k⟩
theorem setSO_get {pins : List (Addr × Obj)} {σ : L2.St} {H : Hp} {s : Shared} {a : Addr} {l : List Str} (I : Inv X pins σ H s) (ha : H a = some (SetSO X.prog X.w a l)) : SetS X.prog X.w s.heap a l := (I.hok a _ ha).1
theorem strs_of : ∀ {ys : List Str} {us : List Value}, Vals (ys.map V.str) us → StrsAre us ys
  | [], _, .nil => .nil
  | y :: ys, _, .cons r t => by
    obtain ⟨k, rfl⟩ := r
    exact .cons y k (strs_of t)
/-- set(t), t a tuple of texts -/
def rSetX (K : PySem.W.Frag) (P : Program) (w : World) : List V → Hp → VK → Prop := fun xs H Q => ∃ (t : Addr) (zs : List Str), xs = [.ref t] ∧ SqT K H t (zs.map V.str) ∧ zs.length + 1 < scanBound ∧
  ∀ (p : Addr) (l : List Str), H p = none → l.Nodup → (∀ y, y ∈ l ↔ y ∈ zs) → l.length ≤ zs.length → Q (.ref p) (upd H p (SetSO P w p l))
theorem cr_setX (hc : X.calm = true) : CallR X (.type "set") (rSetX X.K X.prog X.w) := by
  intro pins s σ H xs us Q I r h
  obtain ⟨t, zs, rfl, ht, hb, q⟩ := h
  rw [Vals.ref1 r]
  obtain ⟨its, rv, hl, hz⟩ := I.tuple ht
  refine call_set_tupleX (items := its.toArray) zs (I.ok.hd hc) hl (by simpa using strs_of rv) hb fun h' tk l x hf k => ?_
  obtain ⟨D, e, tx⟩ := id x
  refine ⟨.ref _, upd H s.heap.objs.size (SetSO X.prog X.w s.heap.objs.size l), I.laid k (Nat.le_refl _) (setSO_new x), rfl, q _ _ (I.hok.fresh (Nat.le_refl _)) tx.nd (fun y => ?_) hf.2⟩
  rw [hf.1, List.take_length]
/-- sorted(set of texts) -/
def rSortedSX (P : Program) (w : World) : List V → Hp → VK → Prop := fun vs H Q => ∃ (a : Addr) (l : List Str), vs = [.ref a] ∧ H a = some (SetSO P w a l) ∧ l.length < scanBound ∧
  ∀ (ys : List Str) (p : Addr), ys.Perm l → H p = none → Q (.ref p) (upd H p (.lst ((ys.mergeSort byCs).map V.str)))
theorem cr_sortedSX (hc : X.calm = true) (hu : X.A.units + 60 < cLine) : CallR X (.builtin "sorted") (rSortedSX X.prog X.w) := by
  intro pins s σ H vs us Q I r h
  obtain ⟨a, l, rfl, ha, hb, q⟩ := h
  rw [Vals.ref1 r]
  refine sorted_setX (setSO_get I ha) (I.ok.hd hc) hb hu fun s' p out c ys k g o hp hg he hm => ?_
  have lo : ((ys.mergeSort byCs).map V.str).length ≤ sizeLine := by
    rw [List.length_map, (List.mergeSort_perm ys byCs).length_eq, hm.length_eq]
    exact Nat.le_trans (Nat.le_of_lt hb) (by decide)
  have hn : H p = none := I.hok.fresh hp
  have J : Inv X pins σ (upd H p (.lst ((ys.mergeSort byCs).map V.str))) { s with heap := s'.heap, gens := s'.gens, drawn := s'.drawn, toks := s'.toks } :=
    I.call (ch := []) (Un.laid k hp hn) (I.hok.laid k hp ⟨lo, out, c, each_vals he, hg⟩) (by rw [g]; exact I.bare) (fun _ z => nomatch z)
  have e : s' = { s with heap := s'.heap, gens := s'.gens, drawn := s'.drawn, toks := s'.toks } := by
    obtain ⟨s1, s2, s3, s4, s5⟩ := s'
    obtain ⟨t1, t2, t3, t4, t5⟩ := s
    obtain rfl : s5 = t5 := o
    rfl
  rw [e]
  exact ⟨.ref p, _, J, rfl, q ys p hm hn⟩
/-- texts by their lengths -/
abbrev byLen (x y : Str) : Bool := decide ((x.length : Int) ≤ (y.length : Int))
/-- sorted(xs, key=len), xs a list of texts -/
def tSortLen (K : PySem.W.Frag) (t : TA) : TE := fun σ H Q => t σ H fun vs H1 => ∃ (a : Addr) (zs : List Str), vs = [.ref a] ∧ SqL K H1 a (zs.map V.str) ∧ (∀ z ∈ zs, z.length ≤ sizeLine) ∧
  ∀ p, H1 p = none → Q (.ref p) (upd H1 p (.lst ((zs.mergeSort byLen).map V.str)))
theorem pe_sortLen {e : Expr} {t : TA} {p p2 kp pos : Pos} (hg : Gl X "sorted") (hm : X.mg "sorted" = none) (hgL : Gl X "len") (hmL : X.mg "len" = none) (hu : X.A.units + 60 < cLine) (ha : PA X [e] t)
    (he : backTo pos (starEach [e] X.env) = (false, eval e X.env) :: backTo pos (starEach [] X.env) := by rfl) (hpl : (backTo pos (starEach [e] X.env)).any (·.1) = false := by rfl) :
    PE X (.Call (.Name "sorted" p) [e] [⟨some "key", .Name "len" p2, kp⟩] pos) (tSortLen X.K t) := by
  refine ⟨fun pins s σ H Q I h => ?_⟩
  refine wpAny_Call_Name_kw (ld_blt I hg hm (u := .builtin "sorted") (by decide +kernel) ?_)
  refine PyProof.Rows.callWith_kw (thn (ha.run pos pins s σ H _ I h) fun us s1 ⟨vs, H1, I1, r1, q1⟩ => ?_) he hpl
  show wpAny _ _ (evalAll [do let v ← eval (.Name "len" p2) X.env; standAt pos; pure v]) _ _ s1
  refine wpAny_evalAll_cons (wpAny_bind (ld_blt I1 hgL hmL (u := .builtin "len") (by decide +kernel) (wpAny_bind (wpAny_standAt (wpAny_pure (wpAny_evalAll_nil ?_))))))
  show wpAny _ _ (call (.builtin "sorted") us [(Str.ofString "key", .builtin "len")]) _ _ s1
  obtain ⟨a, zs, rfl, hs, hz, q⟩ := q1
  rw [Vals.ref1 r1]
  obtain ⟨its, rv, hl, hsz⟩ := I1.list hs
  refine PySem.W.sorted_key_data (b := false) (R := IsTx) (bs := zs) (fun x : Str => PyData.int x.length) hl.isList (vals_each rv) (PySem.W.AllAlike.of fun _ _ => rfl) (PySem.W.Sortable.others fun _ => ⟨(fun z => nomatch z), (fun _ z => nomatch z)⟩)
    (by rw [List.length_map] at hsz; exact hsz) (fun x _ => ?_) (ksk_s1 _ _) (fun _ => ksk_l1 _ _) (fun _ => ksk_t4 _ _) (fun v x hR hx h0 tk0 k0 => ?_) fun out c h' tk k hn hd hlo he => ?_
  · show X.A.units + 2 + 0 < cLine
    omega
  · obtain ⟨t0, rfl⟩ := hR
    refine PySem.P.len_str ?_ ⟨h0, _, rfl, fun _ _ z => z, .int _ _⟩
    have := hz x hx
    rw [sizeLine_eq] at this
    omega
  · have ee : PySem.W.dataLe false (fun x : Str => PyData.int (x.length : Nat)) = byLen := PySem.W.dataLe_int fun x : Str => ((x.length : Nat) : Int)
    rw [ee] at he
    refine ⟨.ref _, upd H1 (s1.heap.objs.size + 1) (.lst ((zs.mergeSort byLen).map V.str)), I1.laid (t' := tk) k (Nat.le_succ _) ⟨?_, out, c, each_vals he, hd⟩, rfl, q _ (I1.hok.fresh (Nat.le_succ _))⟩
    rw [List.length_map, (List.mergeSort_perm zs byLen).length_eq]
    rw [List.length_map] at hsz
    exact hsz
end
end Mk

set_option Elab.async false
set_option maxRecDepth 100000
set_option maxHeartbeats 4000000
namespace Mk
open PySem L2

/-! ### rules of our own -/
section
variable {X : Cx}
def CPowW (i j : Int) : Prop := 0 ≤ j ∧ (Builtin.Int.intBits i : Int) * j ≤ 2 ^ 27
theorem op_powW : OpR X (binaryOp .Pow) (rI CPowW fun i j => .int (i ^ j.toNat)) := opI fun _ _ _ _ _ _ _ hc q => PyProof.Rows.pow_int hc.1 hc.2 q
end

/-! ### the pot -/
abbrev PB : Nat := 4294967296
/-- the pot at p: its count is at most n -/
def Pot (H : Hp) (p : Addr) (n : Nat) : Prop := ∃ u m c : Int, H p = some (.lst [.int u, .int m, .int c]) ∧ 0 ≤ u ∧ u < 2 ^ 2100 ∧ 0 ≤ m ∧ m < 2 ^ 2100 ∧ 0 ≤ c ∧ c ≤ (n : Int)
theorem Pot.mono {H : Hp} {p : Addr} {n k : Nat} (h : Pot H p n) (hk : n ≤ k) : Pot H p k := by
  obtain ⟨u, m, c, e, h1, h2, h3, h4, h5, h6⟩ := h
  exact ⟨u, m, c, e, h1, h2, h3, h4, h5, by omega⟩
/-- all but p is as it was -/
def But (p : Addr) (H H' : Hp) : Prop := ∀ b o, b ≠ p → H b = some o → H' b = some o

/-! rules for a comprehension's block, the written part told -/
section
variable {X : Cx} {K : PySem.W.Frag}
theorem atK {e : Expr} {T : String} {r : V → List V → Hp → VK → Prop} {to : TE} {t : TA} (K : PySem.W.Frag) (h : PE X e (tBM X.K T r to t)) (hK : X.K = K := by rfl) : PE X e (tBM K T r to t) := hK ▸ h
theorem ix_listK (K : PySem.W.Frag) (hK : X.K = K := by rfl) : IxR X (rIxL K) := by
  subst hK
  exact ix_list
theorem call_lenK (K : PySem.W.Frag) (hK : X.K = K := by rfl) : CallR X (.builtin "len") (fun xs H Q => ∃ p ys, xs = [.ref p] ∧ (SqL K H p ys ∨ SqT K H p ys) ∧ Q (.int ys.length) H) := by
  subst hK
  exact call_len_seq
end
/-! ### words -/
/-- the codes of a text -/
abbrev cs (z : Str) : List Nat := z.cps.toList
/-- a text of signs a .. e -/
def IsW (z : Str) : Prop := ∀ c ∈ cs z, 97 ≤ c ∧ c ≤ 101
theorem cs_append (x y : Str) : cs (x ++ y) = cs x ++ cs y := by
  show (x.cps ++ y.cps).toList = _
  rw [Array.toList_append]
theorem len_cs (z : Str) : z.length = (cs z).length := rfl
theorem cs_join : ∀ ys : List Str, cs (Txt.join "" ys) = (ys.map cs).flatten := by
  intro ys
  show cs (Builtin.Str.glued "" ys) = _
  rw [StrLaws.glued_eq_join]
  induction ys with
  | nil => rfl
  | cons x r ih =>
    cases r with
    | nil => simp [Str.join]
    | cons y t =>
      show cs (x ++ "" ++ Str.join "" (y :: t)) = _
      rw [cs_append, cs_append, ih]
      simp
      rfl
theorem isW_join {ys : List Str} (h : ∀ y ∈ ys, IsW y) : IsW (Txt.join "" ys) := by
  intro c hc
  rw [cs_join] at hc
  obtain ⟨l, hl, hc⟩ := List.mem_flatten.mp hc
  obtain ⟨y, hy, rfl⟩ := List.mem_map.mp hl
  exact h y hy c hc
theorem len_join (ys : List Str) : (Txt.join "" ys).length = (ys.map (·.length)).sum := by
  rw [len_cs, cs_join, List.length_flatten, List.map_map]
  rfl
theorem sum_one {ys : List Str} (h : ∀ y ∈ ys, y.length = 1) : (ys.map (·.length)).sum = ys.length := by
  induction ys with
  | nil => rfl
  | cons y r ih =>
    rw [List.map_cons, List.sum_cons, h y List.mem_cons_self, ih fun z hz => h z (List.mem_cons_of_mem _ hz), List.length_cons]
    omega
theorem at_ofA {α : Type} {xs : List α} {z : Int} {j : Nat} {v : α} (e : z = (j : Int)) (h : xs[j]? = some v) : atI xs z = some v := by
  rw [e]
  exact atI_nat h
theorem But.refl {p : Addr} {H : Hp} : But p H H := fun _ _ _ e => e
theorem But.trans {p : Addr} {H H1 H2 : Hp} (a : But p H H1) (b : But p H1 H2) : But p H H2 := fun c o h e => b c o h (a c o h e)
theorem But.of_same {p : Addr} {H H' : Hp} (h : Same H H') : But p H H' := fun b o _ e => h b o e
theorem Same.new {H : Hp} {l : Addr} {o : HO} (hl : H l = none) : Same H (upd H l o) := fun b u e => by
  rw [upd_ne (ne_of_none e hl)]
  exact e
/-- a store at an address that was new -/
theorem But.up {p l : Addr} {o : HO} {H H1 : Hp} (a : But p H H1) (hl : H l = none) : But p H (upd H1 l o) := fun b u h e => by
  rw [upd_ne (ne_of_none e hl)]
  exact a b u h e
theorem Pot.up {H : Hp} {p l : Addr} {n : Nat} {o : HO} (h : Pot H p n) (hn : p ≠ l) : Pot (upd H l o) p n := by
  obtain ⟨u, m, c, e, r⟩ := h
  exact ⟨u, m, c, by rw [upd_ne hn]; exact e, r⟩
theorem Pot.ne {H : Hp} {p l : Addr} {n : Nat} (h : Pot H p n) (hn : H l = none) : p ≠ l := by
  obtain ⟨u, m, c, e, r⟩ := h
  exact ne_of_none e hn
theorem join_e {b : Bool} {te1 te2 : TE} {σ : L2.St} {H : Hp} {C : VK} (R : V → Prop) (hC : ∀ z, R z → C z H) (h1 : b = true → (∀ z, R z → C z H) → te1 σ H C) (h2 : b = false → (∀ z, R z → C z H) → te2 σ H C) :
    (fun (c : Bool) (H1 : Hp) => if c = true then te1 σ H1 C else te2 σ H1 C) b H := by
  cases b with
  | true => exact iteT (h1 rfl hC)
  | false => exact iteF (h2 rfl hC)
/-! ### the text by places -/
def top (i : Nat) : Stmt := PySem.Challenge.pw_mendnumber_k13_whole_histories_of_forms.main.body.getD i (.Pass ⟨0, 0, 0, 0⟩)
/-- the names of the builtins that the text leaves alone -/
structure Bn (mg : Str → Option Value) : Prop where
  len : mg "len" = none
  int : mg "int" = none
  abs : mg "abs" = none
  max : mg "max" = none
  min : mg "min" = none
  range : mg "range" = none
  list : mg "list" = none

def spFilled (K : PySem.W.Frag) : Sp := fun vs H Q _ => ∃ (a : Addr) (ns : List Int) (k : Nat), vs = [.ref a, .int k] ∧ SqL K H a (ns.map V.int) ∧ ns.length ≤ 63 ∧ k ≤ 63 ∧
  ∀ H' p, Same H H' → H p = none → Pot H' p 0 → Q (.ref p) H'
def spDip : Sp := fun vs H Q _ => ∃ (p : Addr) (n : Nat) (t : Int), vs = [.ref p, .int t] ∧ Pot H p n ∧ n < PB ∧ 0 < t ∧ t < 1073741824 ∧
  ∀ H' (k : Int), But p H H' → (∀ b, H b = none → H' b = none) → Pot H' p (n + 1) → 0 ≤ k → k < t → Q (.int k) H'

section
variable {P : Program} {w : World} {K : PySem.W.Frag} {mg : Str → Option Value} {base : Heap}
end
end Mk

set_option Elab.async false
set_option maxRecDepth 100000
set_option maxHeartbeats 4000000
namespace Mk
open PySem L2

/-- the pot at p has been drawn from -/
structure Nx (p : Addr) (n : Nat) (H H' : Hp) : Prop where
  but : But p H H'
  fresh : ∀ b, H b = none → H' b = none
  pot : Pot H' p n

section
variable {P : Program} {w : World} {K : PySem.W.Frag} {mg : Str → Option Value} {base : Heap}
/-- a def of the text that is called by its name -/
structure Cd (P : Program) (w : World) (K : PySem.W.Frag) (mg : Str → Option Value) (base : Heap) (k : Nat) (x : Str) (ps : List Str) (sp : Sp) : Prop where
  ex : ∃ (f : Addr) (fd : FuncData), FnOk P w K mg base CX0 k f fd ps sp ∧ mg x = some (.ref f) ∧ PySem.W.keepIn K (.ref f) = true ∧ Binds K fd ps []
end
end Mk

set_option Elab.async false
set_option maxRecDepth 100000
set_option maxHeartbeats 4000000
namespace Mk
open PySem L2

/-! ### strip -/
def gB (c : Nat) : Bool := decide (97 ≤ c) && decide (c ≤ 101)
def wB (z : Str) : Bool := (cs z).all gB
theorem isW_of {z : Str} (h : wB z = true) : IsW z := fun c hc => by
  have := List.all_eq_true.mp h c hc
  simpa [gB] using this
theorem wB_of {z : Str} (h : IsW z) : wB z = true := List.all_eq_true.mpr fun c hc => by
  have := h c hc
  simpa [gB] using this
theorem tw_full {p : Nat → Bool} : ∀ {l : List Nat}, (l.takeWhile p).length = l.length → l.all p = true
  | [], _ => rfl
  | a :: l, h => by
    rw [List.takeWhile_cons] at h
    cases e : p a with
    | false => rw [e] at h; simp at h
    | true =>
      rw [e] at h
      rw [List.all_cons, e, tw_full (l := l) (by simpa using h)]
      rfl
theorem tw_drop {p : Nat → Bool} : ∀ {l : List Nat}, (l.drop (l.takeWhile p).length).all p = true → l.all p = true
  | [], _ => rfl
  | a :: l, h => by
    rw [List.takeWhile_cons] at h
    cases e : p a with
    | false =>
      rw [e] at h
      simp [e] at h
    | true =>
      rw [e] at h
      rw [List.all_cons, e, tw_drop (l := l) (by simpa using h)]
      rfl
theorem tw_all {p : Nat → Bool} : ∀ {l : List Nat}, l.all p = true → l.takeWhile p = l
  | [], _ => rfl
  | a :: l, h => by
    rw [List.all_cons, Bool.and_eq_true] at h
    rw [List.takeWhile_cons, h.1, if_pos rfl, tw_all h.2]
theorem goes_eq (c : Nat) : ("abcde" : Str).cps.contains c = gB c := by
  have e : ("abcde" : Str).cps = #[97, 98, 99, 100, 101] := by decide +kernel
  rw [e, Bool.eq_iff_iff]
  simp [gB]
  omega
theorem strip_len (z : Str) : (Txt.stripChars z "abcde").length = 0 ↔ wB z = true := by
  have hg : ("abcde" : Str).cps.contains = gB := funext goes_eq
  unfold Txt.stripChars
  rw [hg]
  unfold Txt.stripBy
  have hlo : stripLo gB true z = ((cs z).takeWhile gB).length := rfl
  have hhi : stripHi gB true z (stripLo gB true z) = (cs z).length - (((cs z).drop (stripLo gB true z)).reverse.takeWhile gB).length := rfl
  have hle : ((cs z).takeWhile gB).length ≤ (cs z).length := (List.takeWhile_sublist _).length_le
  have key : wB z = true ∨ stripLo gB true z < stripHi gB true z (stripLo gB true z) := by
    cases e : wB z with
    | true => exact .inl rfl
    | false =>
      refine .inr ?_
      rw [hhi, hlo]
      have h1 : (((cs z).drop ((cs z).takeWhile gB).length).reverse.takeWhile gB).length ≠ (((cs z).drop ((cs z).takeWhile gB).length).reverse).length := fun h => by
        have := tw_full h
        rw [List.all_reverse] at this
        have q : wB z = true := tw_drop this
        rw [e] at q
        cases q
      have h2 : (((cs z).drop ((cs z).takeWhile gB).length).reverse.takeWhile gB).length ≤ (((cs z).drop ((cs z).takeWhile gB).length).reverse).length := (List.takeWhile_sublist _).length_le
      rw [List.length_reverse, List.length_drop] at h1 h2
      omega
  by_cases hs : stripSame gB true true z = true
  · rw [if_pos hs]
    constructor
    · intro h
      show (cs z).all gB = true
      rw [List.length_eq_zero_iff.mp (show (cs z).length = 0 from h)]
      rfl
    · intro h
      have e1 : stripLo gB true z = z.length := by
        rw [hlo, tw_all h]
        rfl
      unfold stripSame at hs
      rw [Bool.and_eq_true, beq_iff_eq] at hs
      omega
  · rw [if_neg hs]
    have hl : (stripped gB true true z).length = stripHi gB true z (stripLo gB true z) - stripLo gB true z := by
      show ((z.cps.extract (stripLo gB true z) (stripHi gB true z (stripLo gB true z)))).size = _
      rw [Array.size_extract]
      have : stripHi gB true z (stripLo gB true z) ≤ z.cps.size := by
        rw [hhi]
        exact Nat.sub_le _ _
      omega
    rw [hl]
    constructor
    · intro h
      rcases key with k | k
      · exact k
      · omega
    · intro h
      have e1 : stripLo gB true z = (cs z).length := by rw [hlo, tw_all h]
      have e2 : stripHi gB true z (stripLo gB true z) ≤ (cs z).length := by
        rw [hhi]
        exact Nat.sub_le _ _
      omega
theorem strip_dec (z : Str) : decide (V.str (Txt.stripChars z "abcde") = V.str "") = wB z := by
  rw [Bool.eq_iff_iff, decide_eq_true_iff, ← strip_len z]
  constructor
  · intro h
    injection h with h
    rw [h]
    decide +kernel
  · intro h
    have : Txt.stripChars z "abcde" = "" := by
      generalize Txt.stripChars z "abcde" = y at h
      obtain ⟨a⟩ := y
      have : a = #[] := Array.eq_empty_of_size_eq_zero h
      subst this
      decide +kernel
    rw [this]
end Mk

set_option Elab.async false
set_option maxRecDepth 100000
set_option maxHeartbeats 4000000
namespace Mk
open PySem L2

abbrev sIsSign : Stmt := top 15
abbrev sIsWord : Stmt := top 16
/-- a value that is no text, of a kind that isinstance tells -/
def NoStr (K : PySem.W.Frag) (H : Hp) (v : V) : Prop := ∃ t : Value, TyX K H v t ∧ PySem.W.kitOne K t (.type "str") = some false
def sgB (z : Str) : Bool := decide (z.length = 1) && wB z
/-- a def that judges a value, reading alone -/
def spJudge (g : Str → Bool) (K : PySem.W.Frag) : Sp := fun vs H Q _ => ∃ v : V, vs = [v] ∧ ((∃ z : Str, v = .str z ∧ z.length ≤ 100000 ∧ Q (.bl (g z)) H) ∨ (NoStr K H v ∧ Q (.bl false) H))
structure Wn (mg : Str → Option Value) : Prop where
  isi : mg "isinstance" = none
  str : mg "str" = none
  sg : ∃ t, mg "SIGNS" = some (.str "abcde" t)
section
variable {P : Program} {w : World} {K : PySem.W.Frag} {mg : Str → Option Value} {base : Heap}
theorem scIsSign : FnScope ["value"] ["value"] (defScope sIsSign) := ⟨rfl, rfl, rfl, by decide +kernel, rfl, by decide +kernel, by decide +kernel⟩
theorem len_one {z : Str} (h : z.length = 1) : ∃ c, z = ⟨#[c]⟩ := by
  obtain ⟨a⟩ := z
  obtain ⟨l⟩ := a
  match l, h with
  | [c], _ => exact ⟨c, rfl⟩
theorem ok_isSign {f : Addr} {fd : FuncData} (F : Fun K "is_sign" "is_sign" sIsSign f fd) (B : Bn mg) (W : Wn mg) : FnOk P w K mg base CX0 1 f fd ["value"] (spJudge sgB K) := by
  obtain ⟨t, hsg⟩ := W.sg
  refine F.ok scIsSign (fun vs H Q E h => ?_) (fun cdv A outer s H vs Q E hr h => ?_)
  · obtain ⟨v, rfl, _⟩ := h
    rfl
  · obtain ⟨v, rfl, h⟩ := h
    refine ⟨_, pss_one (ps_ret (pe_and (pe_callB call_isi (by rfl) W.isi (by decide +kernel) (pa_cons (pv 0) (pa_cons (pe_bltn (v := .ty "str") (u := .type "str") (by rfl) W.str (by decide +kernel) rfl) pa_nil)))
      (pe_and (pe_cmpR op_eq (pe_callB call_len (by rfl) B.len PySem.boot_len (pa_cons (pv 0) pa_nil)) pe_int (nomark _)) (pe_one (pe_cmpR op_in_sign (pv 0) (pe_glob (v := .str "abcde") (by rfl) hsg ⟨_, rfl⟩) (by rfl)))))), ?_⟩
    rcases h with ⟨z, rfl, hz, q⟩ | ⟨⟨tv, hty, hk⟩, q⟩
    · have hz2 : z.length ≤ sizeLine := Nat.le_trans hz (by decide)
      refine ⟨_, rfl, _, _, _, _, true, rfl, .ty "str", .base (.str z), kit_ty (by decide +kernel), _, rfl, iteT ?_⟩
      refine ⟨_, rfl, _, z.length, rfl, ⟨hz2, rfl⟩, rfl, _, rfl, ?_⟩
      have e1 : decide (V.int (z.length : Nat) = V.int 1) = decide (z.length = 1) := by
        rw [dec_int, Bool.eq_iff_iff]
        simp
        omega
      rw [e1]
      by_cases h1 : z.length = 1
      · rw [decide_eq_true h1]
        refine iteT ?_
        obtain ⟨c, rfl⟩ := len_one h1
        refine ⟨_, rfl, c, "abcde", rfl, rfl, ?_⟩
        have e2 : decide (c ∈ ("abcde" : Str).cps.toList) = sgB ⟨#[c]⟩ := by
          have e3 : ("abcde" : Str).cps.toList = [97, 98, 99, 100, 101] := by decide +kernel
          rw [e3, Bool.eq_iff_iff]
          simp [sgB, wB, gB, cs, Str.length]
          omega
        rw [e2]
        exact q
      · rw [decide_eq_false h1]
        refine iteF ?_
        have e2 : sgB z = false := by simp [sgB, h1]
        rw [e2] at q
        exact q
    · refine ⟨_, rfl, _, _, _, _, false, rfl, .ty "str", hty, hk, _, rfl, iteF q⟩
theorem scIsWord : FnScope ["value"] ["value"] (defScope sIsWord) := ⟨rfl, rfl, rfl, by decide +kernel, rfl, by decide +kernel, by decide +kernel⟩
theorem ok_isWord {f : Addr} {fd : FuncData} (F : Fun K "is_word" "is_word" sIsWord f fd) (W : Wn mg) : FnOk P w K mg base CX0 1 f fd ["value"] (spJudge wB K) := by
  obtain ⟨t, hsg⟩ := W.sg
  refine F.ok scIsWord (fun vs H Q E h => ?_) (fun cdv A outer s H vs Q E hr h => ?_)
  · obtain ⟨v, rfl, _⟩ := h
    rfl
  · obtain ⟨v, rfl, h⟩ := h
    refine ⟨_, pss_one (ps_ret (pe_and (pe_callB call_isi (by rfl) W.isi (by decide +kernel) (pa_cons (pv 0) (pa_cons (pe_bltn (v := .ty "str") (u := .type "str") (by rfl) W.str (by decide +kernel) rfl) pa_nil)))
      (pe_one (pe_cmpR op_eq (pe_bm PySem.F.plainAttrs_str PySem.F.slot_str_strip PySem.F.type_str_strip mt_stripChars (pv 0) (pa_cons (pe_glob (v := .str "abcde") (by rfl) hsg ⟨_, rfl⟩) pa_nil)) pe_str (nomark _))))), ?_⟩
    rcases h with ⟨z, rfl, hz, q⟩ | ⟨⟨tv, hty, hk⟩, q⟩
    · have hz2 : z.length ≤ sizeLine := Nat.le_trans hz (by decide)
      refine ⟨_, rfl, _, _, _, _, true, rfl, .ty "str", .base (.str z), kit_ty (by decide +kernel), _, rfl, iteT ?_⟩
      refine ⟨_, rfl, rfl, _, _, rfl, rfl, hz2, rfl, ?_⟩
      rw [strip_dec]
      exact q
    · refine ⟨_, rfl, _, _, _, _, false, rfl, .ty "str", hty, hk, _, rfl, iteF q⟩
end
end Mk

set_option Elab.async false
set_option maxRecDepth 100000
set_option maxHeartbeats 4000000
namespace Mk
open PySem L2
section
variable {P : Program} {w : World} {K : PySem.W.Frag} {mg : Str → Option Value} {base : Heap}
def ahB (x y : Str) : Bool := decide (x.length < y.length) || (decide (x.length = y.length) && decide (cs x < cs y))
end
end Mk

set_option Elab.async false
set_option linter.all false
set_option maxRecDepth 100000
set_option maxHeartbeats 4000000
namespace Mk
open PySem L2

theorem two_sub {α : Type} : ∀ {l : List α} {x y : α}, x ∈ l → y ∈ l → x ≠ y → List.Sublist [x, y] l ∨ List.Sublist [y, x] l
  | [], _, _, h, _, _ => nomatch h
  | a :: l, x, y, hx, hy, ne => by
    rcases List.mem_cons.mp hx with e1 | m1
    · rcases List.mem_cons.mp hy with e2 | m2
      · exact absurd (e1.trans e2.symm) ne
      · rw [e1]
        exact .inl (List.Sublist.cons_cons _ (List.singleton_sublist.mpr m2))
    · rcases List.mem_cons.mp hy with e2 | m2
      · rw [e2]
        exact .inr (List.Sublist.cons_cons _ (List.singleton_sublist.mpr m1))
      · rcases two_sub m1 m2 ne with h | h
        · exact .inl (h.cons a)
        · exact .inr (h.cons a)
theorem no_both {α : Type} : ∀ {l : List α} {x y : α}, l.Nodup → List.Sublist [x, y] l → List.Sublist [y, x] l → False
  | [], _, _, _, h, _ => nomatch h
  | a :: l, x, y, nd, h1, h2 => by
    obtain ⟨n1, n2⟩ := List.nodup_cons.mp nd
    cases h1 with
    | cons _ h1 =>
      cases h2 with
      | cons _ h2 => exact no_both n2 h1 h2
      | cons_cons _ h2 => exact n1 (h1.subset (by simp))
    | cons_cons _ h1 =>
      cases h2 with
      | cons _ h2 => exact n1 (h2.subset (by simp))
      | cons_cons _ h2 => exact n1 (List.singleton_sublist.mp h1)
theorem cs_inj {x y : Str} (h : cs x = cs y) : x = y := by
  obtain ⟨⟨a⟩⟩ := x
  obtain ⟨⟨b⟩⟩ := y
  have : a = b := h
  rw [this]
theorem byCs_trans (a b c : Str) (h1 : byCs a b = true) (h2 : byCs b c = true) : byCs a c = true := by
  simp only [byCs, decide_eq_true_eq] at *
  exact List.le_trans h1 h2
theorem byCs_total (a b : Str) : (byCs a b || byCs b a) = true := by
  simp only [byCs, Bool.or_eq_true, decide_eq_true_eq]
  exact List.le_total _ _
theorem byLen_trans (a b c : Str) (h1 : byLen a b = true) (h2 : byLen b c = true) : byLen a c = true := by
  simp only [byLen, decide_eq_true_eq] at *
  omega
theorem byLen_total (a b : Str) : (byLen a b || byLen b a) = true := by
  simp only [byLen, Bool.or_eq_true, decide_eq_true_eq]
  omega
theorem ord_pair {ys : List Str} (nd : ys.Nodup) : ((ys.mergeSort byCs).mergeSort byLen).Pairwise (fun x y => ahB x y = true) := by
  have p1 := List.mergeSort_perm ys byCs
  have p2 := List.mergeSort_perm (ys.mergeSort byCs) byLen
  have s1 := List.pairwise_mergeSort byCs_trans byCs_total ys
  have s2 := List.pairwise_mergeSort byLen_trans byLen_total (ys.mergeSort byCs)
  have n1 := p1.nodup_iff.mpr nd
  have n2 := p2.nodup_iff.mpr n1
  refine List.pairwise_iff_forall_sublist.mpr fun {x y} h => ?_
  have hl : byLen x y = true := List.pairwise_iff_forall_sublist.mp s2 h
  have ne : x ≠ y := fun e => by
    have := h.nodup n2
    rw [e] at this
    simp at this
  have mx : x ∈ ys.mergeSort byCs := p2.mem_iff.mp (h.subset (by simp))
  have my : y ∈ ys.mergeSort byCs := p2.mem_iff.mp (h.subset (by simp))
  unfold ahB
  simp only [byLen, decide_eq_true_eq] at hl
  by_cases e : x.length = y.length
  · rw [decide_eq_true e]
    have hc : cs x ≤ cs y := by
      rcases two_sub mx my ne with k | k
      · have := List.pairwise_iff_forall_sublist.mp s1 k
        simpa only [byCs, decide_eq_true_eq] using this
      · exact (no_both n2 h (List.pair_sublist_mergeSort byLen_trans byLen_total (by simp only [byLen, decide_eq_true_eq]; omega) k)).elim
    have hlt : cs x < cs y := by
      rcases Classical.em (cs x < cs y) with k | k
      · exact k
      · exact absurd (cs_inj (List.le_antisymm hc (List.not_lt.mp k))) ne
    rw [decide_eq_true hlt]
    simp
  · rw [decide_eq_true (by omega : x.length < y.length)]
    rfl

abbrev sOrdered : Stmt := top 17
/-- the tuple rs has just the words zs, each once, ascending -/
structure Asc (zs rs : List Str) : Prop where
  mem : ∀ y, y ∈ rs ↔ y ∈ zs
  up : rs.Pairwise (fun x y => ahB x y = true)
  len : rs.length ≤ zs.length
def spOrdered (K : PySem.W.Frag) : Sp := fun vs H Q _ => ∃ (t : Addr) (zs : List Str), vs = [.ref t] ∧ H t = some (.tup (zs.map V.str)) ∧ (∀ z ∈ zs, IsW z ∧ z.length ≤ 100000) ∧ zs.length < 4000 ∧
  ∀ H' p rs, Same H H' → H p = none → H' p = some (.tup (rs.map V.str)) → Asc zs rs → Q (.ref p) H'
structure On (mg : Str → Option Value) : Prop where
  tuple : mg "tuple" = none
  all : mg "all" = none
  sorted : mg "sorted" = none
  set : mg "set" = none
section
variable {P : Program} {w : World} {K : PySem.W.Frag} {mg : Str → Option Value} {base : Heap}
theorem scOrdered : FnScope ["words", "word"] ["words"] (defScope sOrdered) := ⟨rfl, rfl, rfl, by decide +kernel, rfl, by decide +kernel, by decide +kernel⟩
theorem ok_ordered {f : Addr} {fd : FuncData} (F : Fun K "ordered" "ordered" sOrdered f fd) (B : Bn mg) (W : Wn mg) (O : On mg) (J : Cd P w K mg base 1 "is_word" ["value"] (spJudge wB K)) : FnOk P w K mg base CX0 2 f fd ["words"] (spOrdered K) := by
  obtain ⟨j, dj, G, gm, gk, gb⟩ := J.ex
  refine F.ok scOrdered (fun vs H Q E h => ?_) (fun cdv A outer s H vs Q E hr h => ?_)
  · obtain ⟨t, zs, rfl, _⟩ := h
    rfl
  · obtain ⟨t, zs, rfl, ht, hw, hl, q⟩ := h
    have hu : A.units + 3 + 60 < cLine := by
      have h2 : A.units + 3 + 16 * 1 + 200 < cLine := hr.un
      omega
    refine ⟨_, pss_cons (ps_if (PW.pt (pw_or (pt_not (pt_val (pe_callB call_isi (by rfl) W.isi (by decide +kernel) (pa_cons (pv 0) (pa_cons (pe_bltn (v := .ty "tuple") (u := .type "tuple") (by rfl) O.tuple (by decide +kernel) rfl) pa_nil)))))
        (pw_or1 (pt_not (pt_val (pe_callB (cr_all rfl) (by rfl) O.all (by decide +kernel) (pa_cons (pe_lc (own := [("word", 1)]) (g := gName 1) (tt := tYes) rfl scOrdered.nd (pi_tup (pv 0)) (blkOk_by (N := ["words", "word"]) (sc := defScope sOrdered) (by decide +kernel))
          (fun _ _ _ _ _ => pg_name (i := 1) scOrdered.nd rfl (Or.inl rfl)) (fun _ _ _ _ _ => pts_nil) (fun _ _ _ _ _ => pe_call G hr (by rfl) gm gk gb .nil pass0 (pa_cons (pv 1) pa_nil))) pa_nil))))))) (pss_one ps_never) pss_nil)
      (pss_one (ps_ret (pe_callTy call_tuple_of (by rfl) O.tuple (by decide +kernel) (pa_cons (pe_sortLen (by rfl) O.sorted (by rfl) B.len hu (pa_cons (pe_callB (cr_sortedSX rfl hu) (by rfl) O.sorted (by decide +kernel) (pa_cons (pe_callTy (cr_setX rfl) (by rfl) O.set (by decide +kernel) (pa_cons (pv 0) pa_nil)) pa_nil)) pa_nil)) pa_nil)))), ?_⟩
    refine ⟨_, rfl, _, _, _, _, true, rfl, .ty "tuple", .base (.tup ht), kit_ty (by decide +kernel), _, rfl, iteF ?_⟩
    refine ⟨_, rfl, t, rfl, ⟨_, SqT.of ht⟩, fun D hD => lc_it (walk_tup (K := K) (a := t) (xs := zs.map V.str)) (fun i H1 => Same H H1 ∧ H1 D = some (.lst ((List.replicate i true).map V.bl))) ⟨Same.new hD, upd_same⟩ (fun i H1 _ h1 => SqT.of (h1.1 _ _ ht)) ?_ ?_⟩
    · rintro i x H1 H2 hi ⟨hS, hL⟩ ⟨rfl, hx⟩
      rw [List.length_map] at hi
      have ex : x = V.str zs[i] := by
        rw [List.getElem?_map, List.getElem?_eq_getElem hi] at hx
        exact (Option.some.inj hx).symm
      subst ex
      obtain ⟨w1, w2⟩ := hw _ (List.getElem_mem hi)
      refine ⟨rfl, _, rfl, _, rfl, .inl ⟨_, rfl, w2, _, hL, ?_, ?_, ?_⟩⟩
      · rw [List.length_map, List.length_replicate]
        exact Nat.lt_of_lt_of_le (by omega : i < 4000) (by decide)
      · exact fun b o e => by
          rw [upd_ne (ne_of_none e hD)]
          exact hS b o e
      · rw [upd_same, wB_of w1, List.replicate_succ', List.map_append]
        rfl
    · rintro H1 ⟨hS, hL⟩
      rw [List.length_map] at hL
      refine ⟨_, _, rfl, SqL.of hL, _, rfl, ?_⟩
      have ea : (List.replicate zs.length true).all id = true := List.all_eq_true.mpr fun b hb => (List.mem_replicate.mp hb).2
      rw [ea]
      refine iteF ?_
      refine ⟨_, rfl, t, zs, rfl, SqT.of (hS _ _ ht), by unfold scanBound; omega, fun p l hp nd hm hlen => ?_⟩
      refine ⟨p, l, rfl, upd_same, by unfold scanBound; omega, fun ys p2 perm hp2 => ?_⟩
      refine ⟨p2, ys.mergeSort byCs, rfl, SqL.of upd_same, fun z hz => ?_, fun p3 hp3 => ?_⟩
      · have m := perm.mem_iff.mp ((List.mergeSort_perm ys byCs).mem_iff.mp hz)
        exact Nat.le_trans (hw z ((hm z).mp m)).2 (by decide)
      refine ⟨p3, _, rfl, .inl ⟨SqL.of upd_same, fun p4 hp4 => ?_⟩⟩
      have s4 : Same H (upd (upd (upd (upd H1 p (SetSO P w p l)) p2 (.lst ((ys.mergeSort byCs).map V.str))) p3 (.lst (((ys.mergeSort byCs).mergeSort byLen).map V.str))) p4 (.tup (((ys.mergeSort byCs).mergeSort byLen).map V.str))) :=
        (((hS.trans (Same.new hp)).trans (Same.new hp2)).trans (Same.new hp3)).trans (Same.new hp4)
      refine q _ p4 _ s4 ?_ upd_same ⟨fun y => ?_, ord_pair (perm.nodup_iff.mpr nd), ?_⟩
      · exact ((((hS.trans (Same.new hp)).trans (Same.new hp2)).trans (Same.new hp3))).free hp4
      · rw [(List.mergeSort_perm _ byLen).mem_iff, (List.mergeSort_perm ys byCs).mem_iff, perm.mem_iff, hm]
      · rw [(List.mergeSort_perm _ byLen).length_eq, (List.mergeSort_perm ys byCs).length_eq, perm.length_eq]
        exact hlen
end
end Mk

set_option Elab.async false
set_option linter.all false
set_option maxRecDepth 100000
set_option maxHeartbeats 4000000
namespace Mk
open PySem PySem.Spec PyProof.Rows L2

/-- a def's promise where nothing is being printed -/
structure FnG (P : Program) (w : World) (K : PySem.W.Frag) (mg : Str → Option Value) (base : Heap) (CX : CXT) (k : Nat) (f : Addr) (fd : FuncData) (ps : List Str) (sp : Sp) : Prop where
  len : ∀ vs H Q E, sp vs H Q E → vs.length = ps.length
  go : ∀ (A : Around) (outer : List Env) (s : Shared) (H : Hp) (args : Args) (us : List Value) (vs : List V) (Q : VK) (E : XK), Room k A → A.guards = some [] → Env0 P w K mg base A outer s H → BindsTo s fd args (ps.zip us) → Vals vs us → sp vs H Q E →
    codeAny (model P w) A (.call (.ref f) args) (CR CX outer P w H s Q E) s

section
variable {P : Program} {w : World} {K : PySem.W.Frag} {mg : Str → Option Value} {base : Heap} {CX : CXT} {k : Nat} {f : Addr} {sp : Sp} {N ps : List Str}
theorem fn_ofG {name qual : Str} {params : Arguments} {body : List Stmt} {scope : Scope} {dV kV doc pm cdv ct oc : Value} {an od : Option Addr} {osl : Array (Option Value)}
    (at0 : K.lookup f = some ⟨oc, od, .func (PySem.W.fnOf name qual params body scope dV kV doc pm an cdv ct), osl⟩) (cd0 : PySem.W.codeIn K cdv qual = true) (S : FnScope N ps scope)
    (len : ∀ vs H Q E, sp vs H Q E → vs.length = ps.length)
    (hb : ∀ (A : Around) (outer : List Env) (s : Shared) (H : Hp) (vs : List V) (Q : VK) (E : XK), Room k (A.deeper (envOfC qual scope s.heap.objs.size f cdv)) → A.guards = some [] → sp vs H Q E →
      ∃ t, PSs (cxOf CX P w K mg base N qual scope f cdv A outer s H E) body t ∧ t { nx := fun _ H' => Q .non H', rt := Q } (start N vs) H) :
    FnG P w K mg base CX (k + 1) f (PySem.W.fnOf name qual params body scope dV kV doc pm an cdv ct) ps sp := by
  refine ⟨len, fun A outer s H args us vs Q E hr gd e0 bd rel hsp => ?_⟩
  have lv := len _ _ _ _ hsp
  have kin : K.In s.heap := e0.mod.kin.keeps fun b o e => (e0.bs b o e).1
  have nol : s.heap.NoLimit := e0.mod.nolimit.keeps fun b o e => (e0.bs b o e).1
  have kinds : ∀ y ∈ ps.zip us, scope.names.lookup y.1 = some .local ∨ (scope.names.lookup y.1 = some .cell ∧ ((cellsFrom (s.heap.objs.size + 1) scope.names []).lookup y.1).isSome = true) := by
    rintro ⟨n, v⟩ hy
    exact (S.par n (List.of_mem_zip hy).1).imp id fun q => ⟨q, PySem.W.cellsFrom_some _ _ _ (.inl q)⟩
  refine codeAny_call_function hr.depth (kin _ _ at0) rfl S.co S.gen rfl (PySem.W.codeRec_of kin cd0) (bd _ _ _ _ ?_)
  refine wpAny_newFunctionEnv_cells S.kind kinds fun env he s1 x => ?_
  subst he
  obtain ⟨t, ht, hq⟩ := hb A outer s H vs Q E (hr.deeper _) gd hsp
  have I : Inv (cxOf CX P w K mg base N qual scope f cdv A outer s H E) [] (start N vs) H s1 := inv_start S hr.hd e0 lv rel x
  refine ⟨nol.keeps x.toInCall.keep, codeAny_func (wpAny_mono (ht.run [] s1 (start N vs) H _ I hq) (fun fl s' z => ?_) fun e s' z => z)⟩
  match fl, z with
  | .ret u, ⟨v, σ', H', J, rv, q⟩ => exact ⟨v, H', J.os, J.bare, J.base, J.hok, rv, q⟩
  | .next, ⟨σ', H', J, q⟩ => exact ⟨V.non, H', J.os, J.bare, J.base, J.hok, rfl, q⟩
  | .brk, ⟨_, _, _, q⟩ => exact q.elim
  | .cont, ⟨_, _, _, q⟩ => exact q.elim
/-- the rule for a def, where nothing is being printed -/
theorem Fun_okG {x qual : Str} {st : Stmt} {fd : FuncData} (F : Fun K x qual st f fd) (S : FnScope N ps (defScope st)) (len : ∀ vs H Q E, sp vs H Q E → vs.length = ps.length)
    (hb : ∀ (cdv : Value) (A : Around) (outer : List Env) (s : Shared) (H : Hp) (vs : List V) (Q : VK) (E : XK), Room k (A.deeper (envOfC qual (defScope st) s.heap.objs.size f cdv)) → A.guards = some [] → sp vs H Q E →
      ∃ t, PSs (cxOf CX0 P w K mg base N qual (defScope st) f cdv A outer s H E).nox (defBody st) t ∧ t { nx := fun _ H' => Q .non H', rt := Q } (start N vs) H) : FnG P w K mg base CX0 (k + 1) f fd ps sp := by
  obtain ⟨oc, od, kV, doc, pm, an, cdv, ct, osl, rfl, at0, cd0⟩ := F.ex
  refine fn_ofG at0 cd0 S len fun A outer s H vs Q E hr gd hsp => ?_
  obtain ⟨t, h, q⟩ := hb cdv A outer s H vs Q E hr gd hsp
  exact ⟨t, h.nox, q⟩
end
section
variable {X : Cx} {CX : CXT} {k : Nat} {f : Addr} {fd : FuncData} {ps : List Str} {sp : Sp} {E : XK} {x : Str} {p pos : Pos} {e : Expr} {es : List Expr} {t : TA}
theorem pe_callG (F : FnG X.prog X.w X.K X.mg X.base CX k f fd ps sp) (hr : Room k X.A) (gd : X.A.guards = some []) (hg : Gl X x) (hm : X.mg x = some (.ref f)) (hk : PySem.W.keepIn X.K (.ref f) = true) (hb : Binds X.K fd ps []) (hx : Passes CX X E)
    (ha : PA X (e :: es) t) (hdb : (x == ("__debug__" : Str)) = false := by decide) (he : starEach (e :: es) X.env = (false, eval e X.env) :: starEach es X.env := by rfl) (hpl : (backTo pos (starEach es X.env)).any (·.1) = false := by rfl) :
    PE X (.Call (.Name x p) (e :: es) [] pos) (tCall sp [] E t) := by
  refine ⟨fun pins s σ H Q I h => wpAny_Call_Name_kw (ld_glob I hg hm ?_ hdb)⟩
  refine PySem.W.callWith_K (h₀ := X.base) I.ok.mod.kin hk (thn (ha.run pos pins s σ H _ I h) fun us s1 ⟨vs, H1, I1, r, q⟩ => ⟨I1.kIn, ?_⟩) he hpl
  have q2 : sp (vs ++ []) H1 Q E := q
  rw [List.append_nil] at q2
  have lu : us.length = ps.length := by rw [← r.length]; exact F.len _ _ _ _ q2
  have bd := hb s1 us I1.kIn (by rw [List.append_nil]; exact lu)
  rw [List.append_nil] at bd
  refine wpAny_call (codeAny_mono (F.go X.A X.stack s1 H1 ⟨us, []⟩ us vs Q E hr gd I1.env0 bd r q2) fun r s' z => ?_)
  match r, z with
  | .error e, z => exact hx pins σ H1 s1 e s' I1 z
  | .ok (.ret u), z => exact I1.after z
  | .ok .next, z => exact False.elim z
  | .ok .brk, z => exact False.elim z
  | .ok .cont, z => exact False.elim z

end

section
variable {P : Program} {w : World} {K : PySem.W.Frag} {mg mb : Str → Option Value} {CX : CXT} {k : Nat} {fa a : Addr} {fd : FuncData} {x : Str} {sp : Sp} {s1 : Shared} {vs : List Value} {ns : List Int}
theorem law_callG (kin : K.In s1.heap) (hns : s1.heap.Ns mainGlobals mg) (hb : s1.heap.Ns builtinsNs mb) (hbb : ∀ x : Str, x ≠ "__name__" → mb x = bootBuiltins x) (nol : s1.heap.NoLimit) (hg : s1.gens = #[])
    (at0 : s1.heap.get? a = some { cls := .type "list", data := .seq vs.toArray }) (hi : IntsAre vs ns) (hl : ns.length ≤ sizeLine) (hr : Room k callerA)
    (F : ∀ base : Heap, K.In base → base.Ns mainGlobals mg → FnG P w K mg base CX k fa fd [x] sp) (bd : ∀ (s : Shared) (u : Value), BindsTo s fd ⟨[u], []⟩ [(x, u)])
    (hsp : ∀ H : Hp, Only H → SqL K H a (ns.map V.int) → sp [.ref a] H (fun v _ => v = .bl true) fun _ _ _ => False)
    (hCX : ∀ H e s', CX [] H s1 (fun _ _ _ => False) e s' → False) :
    codeAny (model P w) callerA (.call (.ref fa) ⟨[.ref a], []⟩) (fun r s' => r = .ok (.ret (.bool true)) ∧ OldK s1.heap s'.heap ∧ s'.os = s1.os ∧ AllBare s'.gens) s1 := by
  have rv := vals_ints hi
  have core : ∀ H : Hp, Only H → SqL K H a (ns.map V.int) → HOk P w H s1.heap → (∀ b, H b ≠ none → b = a) → (H a ≠ none → K.lookup a = none) →
      codeAny (model P w) callerA (.call (.ref fa) ⟨[.ref a], []⟩) (fun r s' => r = .ok (.ret (.bool true)) ∧ OldK s1.heap s'.heap ∧ s'.os = s1.os ∧ AllBare s'.gens) s1 := by
    intro H hO hS ok only noK
    have free : ∀ {b : Addr} {o : Obj}, s1.heap.get? b = some o → b ≠ a → H b = none := fun {b o} _ ne => by
      cases q : H b with
      | none => rfl
      | some u => exact absurd (only b (by rw [q]; exact fun z => nomatch z)) ne
    have nsH : ∀ {b : Addr} {m : Str → Option Value}, s1.heap.Ns b m → (hidT s1.heap H).Ns b m := fun {b m} ⟨o, es, ep, e, d, r⟩ => by
      refine ⟨o, es, ep, hidT_get e (free e fun z => ?_), d, r⟩
      rw [z, at0] at e
      cases e
      cases d
    have kinH : K.In (hidT s1.heap H) := fun b o e => by
      have e1 := kin b o e
      cases q : H b with
      | none => exact hidT_get e1 q
      | some u =>
        have z := only b (by rw [q]; exact fun z => nomatch z)
        subst z
        rw [noK (by rw [q]; exact fun z => nomatch z)] at e
        cases e
    have M0 : Mod K mg (hidT s1.heap H) := ⟨kinH, nsH hns, ⟨mb, nsH hb, hbb⟩, let ⟨mc, h1, h2⟩ := nol; ⟨mc, nsH h1, h2⟩⟩
    have e0 : Env0 P w K mg (hidT s1.heap H) callerA [] s1 H := ⟨rfl, M0, fun b o e => of_hidT e, Nat.le_of_eq (hidT_size _ _), trivial, fun b z => absurd (show b ∈ ([] : List Addr) from z) (by simp), ok, .of_eq hg⟩
    refine codeAny_mono ((F _ kinH (nsH hns)).go callerA [] s1 H ⟨[.ref a], []⟩ [.ref a] [.ref a] _ _ hr rfl e0 (bd s1 (.ref a)) (.cons rfl .nil) (hsp H hO hS)) fun r s' z => ?_
    match r, z with
    | .error e, z => exact (hCX H e s' z).elim
    | .ok .next, z => exact False.elim z
    | .ok .brk, z => exact False.elim z
    | .ok .cont, z => exact False.elim z
    | .ok (.ret u), ⟨v, H', os, bare, un, ok', rel, q⟩ =>
      obtain rfl : v = V.bl true := q
      obtain rfl : u = Value.bool true := rel
      refine ⟨rfl, OldK.of_keep fun b o e => ?_, os, bare⟩
      rcases hO b with z | ⟨ob, xs, z⟩
      · exact un.keep b o e z (fun q => absurd (show b ∈ ([] : List Addr) from q) (by simp)) (by simp)
      · have e1 := (ok b _ z).1
        have e2 := (ok' b _ (un.frzs b ob _ z)).1
        rw [e] at e1
        cases e1
        exact e2
  cases q : K.lookup a with
  | some o =>
    have e := kin a o q
    rw [at0] at e
    cases e
    refine core (fun _ => none) (fun _ => .inl rfl) (.inr ⟨_, vs.toArray, _, q, rfl, rfl, rfl, by rw [List.size_toArray, hi.length]; exact hl, by simpa using rv⟩) (fun b u z => nomatch z) (fun b z => absurd rfl z) fun z => absurd rfl z
  | none =>
    have self : ∀ {b : Addr} {u : HO}, (if b = a then some (HO.frz { cls := .type "list", data := .seq vs.toArray } (.lst (ns.map V.int))) else none) = some u → b = a ∧ u = .frz { cls := .type "list", data := .seq vs.toArray } (.lst (ns.map V.int)) := fun {b u} z => by
      by_cases c : b = a
      · rw [if_pos c] at z
        exact ⟨c, (Option.some.inj z).symm⟩
      · rw [if_neg c] at z
        cases z
    refine core (fun b => if b = a then some (.frz { cls := .type "list", data := .seq vs.toArray } (.lst (ns.map V.int))) else none) (fun b => ?_) (.inl (.inr ⟨_, if_pos rfl⟩)) (fun b u z => ?_) (fun b z => ?_) fun _ => q
    · by_cases c : b = a
      · exact .inr ⟨_, _, if_pos c⟩
      · exact .inl (if_neg c)
    · obtain ⟨rfl, rfl⟩ := self z
      exact ⟨at0, by rw [List.length_map]; exact hl, vs, _, rv, at0⟩
    · by_cases c : b = a
      · exact c
      · exact absurd (if_neg c) z
end
/-- the goal that k_head leaves, from the law's promise -/
theorem walk_ofG {l : PySem.W.OpenLaw} {n k : Nat} {q : Program} {loose : List Str} {XP : (Str → Option Value) → Heap → Prop} {YP : World → Heap → Prop} {d : DefRec} {K : Params → PySem.W.Frag} {sp : World → Sp} {x : Str}
    (hn : l.most = some n) (hn2 : n ≤ sizeLine) (hdf : d.params.defaults = []) (hr : Room k callerA) (hY : ∀ (w : World) (h : Heap), YP w h → (K w.params).In h)
    (F : ∀ (w : World) (mg : Str → Option Value) (fa : Addr) (h : Heap), (K w.params).In h → h.Ns mainGlobals mg → XP mg h → mg d.name = some (.ref fa) →
      ∃ fd : FuncData, (∀ (s : Shared) (u : Value), BindsTo s fd ⟨[u], []⟩ [(x, u)]) ∧ ∀ base : Heap, (K w.params).In base → base.Ns mainGlobals mg → FnG l.prog w (K w.params) mg base CX0 k fa fd [x] (sp w))
    (hsp : ∀ (w : World) (H : Hp) (a : Addr) (ns : List Int), ns.length ≤ n → Only H → SqL (K w.params) H a (ns.map V.int) → sp w [.ref a] H (fun v _ => v = .bl true) fun _ _ _ => False) :
    PySem.W.WalkO q loose XP YP l.row.toRowW d [] (fun f vs => PySem.call f vs) := by
  refine Att.attach_call hn hdf fun w s0 s1 mg mb fa o pm cd doc a vs ns G Y ho hd hcd hmg hobj hints hlen hg => ?_
  have kin := hY w _ Y
  obtain ⟨fd, bd, hF⟩ := F w mg fa _ kin G.T.g G.X hmg
  exact law_callG kin G.T.g G.T.b G.T.builtins G.T.nolimit hg hobj hints (Nat.le_trans hlen hn2) hr hF bd (fun H hO hS => hsp w H a ns hlen hO hS) fun _ _ _ z => z
end Mk

set_option Elab.async false
set_option linter.all false
set_option maxRecDepth 100000
set_option maxHeartbeats 4000000
namespace Mk
open PySem L2

abbrev sIsNum : Stmt := top 10
abbrev sIsNumW : Stmt := top 11
abbrev sChkNum : Stmt := top 12
abbrev LG : Int := 999999999999999999999999999999999999999999999999999999999999
def nuB (i : Int) : Bool := decide (-LG ≤ i) && decide (i ≤ LG)
def nwB (i a b : Int) : Bool := nuB i && (decide (a ≤ i) && decide (i ≤ b))
def spIsNum : Sp := fun vs H Q _ => ∃ i : Int, vs = [.int i] ∧ Q (.bl (nuB i)) H
def spIsNumW : Sp := fun vs H Q _ => ∃ i a b : Int, vs = [.int i, .int a, .int b] ∧ Q (.bl (nwB i a b)) H
def spChkNum : Sp := fun vs H Q _ => ∃ i a b : Int, vs = [.int i, .int a, .int b] ∧ nwB i a b = true ∧ Q .non H
structure Nn (mg : Str → Option Value) : Prop where
  bool : mg "bool" = none
  lg : ∃ t, mg "LARGEST" = some (.int LG t)
section
variable {P : Program} {w : World} {K : PySem.W.Frag} {mg : Str → Option Value} {base : Heap}
theorem scIsNum : FnScope ["value"] ["value"] (defScope sIsNum) := ⟨rfl, rfl, rfl, by decide +kernel, rfl, by decide +kernel, by decide +kernel⟩
theorem ok_isNum {f : Addr} {fd : FuncData} (F : Fun K "is_number" "is_number" sIsNum f fd) (B : Bn mg) (W : Wn mg) (N : Nn mg) : FnOk P w K mg base CX0 1 f fd ["value"] spIsNum := by
  obtain ⟨t, hL⟩ := N.lg
  refine F.ok scIsNum (fun vs H Q E h => ?_) (fun cdv A outer s H vs Q E hr h => ?_)
  · obtain ⟨i, rfl, _⟩ := h
    rfl
  · obtain ⟨i, rfl, q⟩ := h
    refine ⟨_, pss_cons (ps_if (PW.pt (pw_or (pt_val (pe_callB call_isi (by rfl) W.isi (by decide +kernel) (pa_cons (pv 0) (pa_cons (pe_bltn (v := .ty "bool") (u := .type "bool") (by rfl) N.bool (by decide +kernel) rfl) pa_nil))))
        (pw_or1 (pt_not (pt_val (pe_callB call_isi (by rfl) W.isi (by decide +kernel) (pa_cons (pv 0) (pa_cons (pe_bltn (v := .ty "int") (u := .type "int") (by rfl) B.int (by decide +kernel) rfl) pa_nil)))))))) (pss_one (ps_ret pe_bl)) pss_nil)
      (pss_one (ps_ret (pe_chain op_le op_le (pe_un un_neg (pe_glob (v := .int LG) (by rfl) hL ⟨_, rfl⟩)) (pv 0) (pe_glob (v := .int LG) (by rfl) hL ⟨_, rfl⟩)))), ?_⟩
    refine ⟨_, rfl, _, _, _, _, false, rfl, .ty "bool", .base (.int i), kit_ty (by decide +kernel), _, rfl, iteF ?_⟩
    refine ⟨_, rfl, _, _, _, _, true, rfl, .ty "int", .base (.int i), kit_ty (by decide +kernel), _, rfl, iteF ?_⟩
    refine ⟨_, rfl, _, rfl, _, _, rfl, rfl, _, rfl, ?_⟩
    by_cases h1 : -LG ≤ i
    · rw [decide_eq_true h1]
      refine iteT ⟨_, _, rfl, rfl, ?_⟩
      have e : decide (i ≤ LG) = nuB i := by
        unfold nuB
        rw [decide_eq_true h1, Bool.true_and]
      rw [← e] at q
      exact q
    · rw [decide_eq_false h1]
      have e : nuB i = false := by
        unfold nuB
        rw [decide_eq_false h1, Bool.false_and]
      rw [e] at q
      exact iteF q
theorem scIsNumW : FnScope ["value", "least", "most"] ["value", "least", "most"] (defScope sIsNumW) := ⟨rfl, rfl, rfl, by decide +kernel, rfl, by decide +kernel, by decide +kernel⟩
theorem ok_isNumW {f : Addr} {fd : FuncData} (F : Fun K "is_number_within" "is_number_within" sIsNumW f fd) (J : Cd P w K mg base 1 "is_number" ["value"] spIsNum) : FnOk P w K mg base CX0 2 f fd ["value", "least", "most"] spIsNumW := by
  obtain ⟨j, dj, G, gm, gk, gb⟩ := J.ex
  refine F.ok scIsNumW (fun vs H Q E h => ?_) (fun cdv A outer s H vs Q E hr h => ?_)
  · obtain ⟨i, a, b, rfl, _⟩ := h
    rfl
  · obtain ⟨i, a, b, rfl, q⟩ := h
    refine ⟨_, pss_one (ps_ret (pe_and (pe_call G hr (by rfl) gm gk gb .nil pass0 (pa_cons (pv 0) pa_nil)) (pe_one (pe_chain op_le op_le (pv 1) (pv 0) (pv 2))))), ?_⟩
    refine ⟨_, rfl, i, rfl, _, rfl, ?_⟩
    unfold nwB at q
    cases e : nuB i with
    | false =>
      rw [e, Bool.false_and] at q
      exact iteF q
    | true =>
      rw [e, Bool.true_and] at q
      refine iteT ⟨_, rfl, _, rfl, _, _, rfl, rfl, _, rfl, ?_⟩
      by_cases h1 : a ≤ i
      · rw [decide_eq_true h1] at q ⊢
        rw [Bool.true_and] at q
        exact iteT ⟨_, rfl, _, _, rfl, rfl, q⟩
      · rw [decide_eq_false h1] at q ⊢
        exact iteF q
theorem scChkNum : FnScope ["given", "least", "most"] ["given", "least", "most"] (defScope sChkNum) := ⟨rfl, rfl, rfl, by decide +kernel, rfl, by decide +kernel, by decide +kernel⟩
theorem ok_chkNum {f : Addr} {fd : FuncData} (F : Fun K "check_number" "check_number" sChkNum f fd) (J : Cd P w K mg base 2 "is_number_within" ["value", "least", "most"] spIsNumW) : FnOk P w K mg base CX0 3 f fd ["given", "least", "most"] spChkNum := by
  obtain ⟨j, dj, G, gm, gk, gb⟩ := J.ex
  refine F.ok scChkNum (fun vs H Q E h => ?_) (fun cdv A outer s H vs Q E hr h => ?_)
  · obtain ⟨i, a, b, rfl, _⟩ := h
    rfl
  · obtain ⟨i, a, b, rfl, hn, q⟩ := h
    refine ⟨_, pss_one (ps_if (pt_not (pt_val (pe_call G hr (by rfl) gm gk gb .nil pass0 (pa_cons (pv 0) (pa_cons (pv 1) (pa_cons (pv 2) pa_nil)))))) (pss_one ps_never) pss_nil), ?_⟩
    refine ⟨_, rfl, _, rfl, _, rfl, i, a, b, rfl, _, rfl, ?_⟩
    rw [hn]
    exact iteF q

theorem dpAll_str {K : PySem.W.Frag} {H : Hp} : ∀ zs : List Str, DpAll K H (zs.map V.str) (zs.map PyData.str)
  | [] => .nil
  | z :: zs => .cons (.str z) (dpAll_str zs)
theorem lay_strs : ∀ zs : List Str, (∀ z ∈ zs, PyData.strOk z = true) → PyData.canLayAll0 (zs.map PyData.str) = true
  | [], _ => by simp [PyData.canLayAll0]
  | z :: zs, h => by simp [PyData.canLayAll0, PyData.canLay0, h z List.mem_cons_self, lay_strs zs fun y hy => h y (List.mem_cons_of_mem _ hy)]
theorem depth_strs : ∀ zs : List Str, PyData.depthAll (zs.map PyData.str) = 0
  | [] => by simp [PyData.depthAll]
  | z :: zs => by simp [PyData.depthAll, PyData.depth, depth_strs zs]
theorem byCs_anti (a b : Str) (h1 : byCs a b = true) (h2 : byCs b a = true) : a = b := by
  simp only [byCs, decide_eq_true_eq] at h1 h2
  exact cs_inj (List.le_antisymm h1 h2)
end
end Mk

set_option Elab.async false
set_option linter.all false
set_option maxRecDepth 100000
set_option maxHeartbeats 4000000
/-! d.values() of a dict whose keys are tuples -/
namespace Mk
open PySem PySem.Spec PyProof.Rows PySem.W L2

section
variable {X : Cx} {pins : List (Addr × Obj)} {σ : L2.St} {H : Hp} {s : Shared} {d : Addr} {o : Obj}
end
section
variable {P : Program} {w : World} {K : PySem.W.Frag} {tg : Expr} {d : Addr} {o : Obj} {es : Array DictEntry} {ep : Nat}
end
section
variable {X : Cx} {tg e : Expr} {td : TE} {apos cpos : Pos}
end
end Mk

set_option Elab.async false
set_option linter.all false
set_option maxRecDepth 100000
set_option maxHeartbeats 4000000
namespace Mk
open PySem L2

/-! ### tables of prices -/
abbrev PTab := List (Str × Int)
abbrev STab := List ((Str × Str) × Int)
def kvsP (t : PTab) : List (Key × V) := t.map fun p => (Sum.inr p.1, V.int p.2)
/-- a generic walk: a comprehension of booleans -/
theorem wk_any {J : It} {n : Nat} {Gd : Hp → Prop} {Y : Nat → Hp → V → Hp → Prop} (wk : Walk J n Gd Y) {Body : V → Hp → (Hp → Prop) → Prop} {H0 : Hp} {Qd : Hp → Prop} (Pv : Nat → Hp → Prop) (h0 : Pv 0 H0) (hG : ∀ i H, i ≤ n → Pv i H → Gd H)
    (hs : ∀ i x H H', i < n → Pv i H → Y i H x H' → Body x H' (Pv (i + 1))) (hd : ∀ H, Pv n H → Qd H) :
    ∃ W : Nat → Nat → Hp → Prop, (∃ m, W 0 m H0) ∧ ∀ i m H, W i m H → (J.stop i H ∧ Qd H) ∨ (J.go i H ∧ ∃ Nx : Hp → Prop, (∀ H', Nx H' → ∃ m', m' < m ∧ W (i + 1) m' H') ∧ ∀ x H', J.yld i H x H' → Body x H' Nx) := by
  refine ⟨fun i m H => m = n - i ∧ i ≤ n ∧ Pv i H, ⟨n, by simp, Nat.zero_le _, h0⟩, ?_⟩
  rintro i m H ⟨rfl, le, p⟩
  by_cases lt : i < n
  · exact .inr ⟨wk.goes i H lt (hG i H le p), Pv (i + 1), fun H' p' => ⟨n - (i + 1), by omega, rfl, lt, p'⟩, fun x H' y => hs i x H H' lt p (wk.yields i H x H' lt (hG i H le p) y)⟩
  · obtain rfl : i = n := by omega
    exact .inl ⟨wk.stops H (hG _ H le p), hd H p⟩
theorem Same.upN {H H1 : Hp} {l : Addr} {o : HO} (a : Same H H1) (hl : H l = none) : Same H (upd H1 l o) := fun b u e => by
  rw [upd_ne (ne_of_none e hl)]
  exact a b u e
section
variable {X : Cx} {tg e : Expr} {td : TE} {apos cpos : Pos}
end
section
variable {P : Program} {w : World} {K : PySem.W.Frag} {mg : Str → Option Value} {base : Heap}
end
end Mk

set_option Elab.async false
set_option linter.all false
set_option maxRecDepth 100000
set_option maxHeartbeats 4000000
namespace Mk
open PySem PySem.Spec PyProof.Rows L2

section
variable {prog : Program} {w : World} {A : Around} {E : Value → Shared → Prop} {s : Shared} {r d : Addr} {n : Nat} {Pi : Nat → Value → Prop} {OK : Heap → Prop}
end
end Mk

set_option Elab.async false
set_option linter.all false
set_option maxRecDepth 100000
set_option maxHeartbeats 4000000
namespace Mk
open PySem L2

theorem kvsP_len (t : PTab) : (kvsP t).length = t.length := by simp [kvsP]
theorem kvsP_keys (t : PTab) : (kvsP t).map (·.1) = (t.map (·.1)).map Sum.inr := by simp [kvsP]
theorem kvsP_at {t : PTab} {i : Nat} (h : i < t.length) : (kvsP t)[i]? = some (Sum.inr t[i].1, V.int t[i].2) := by
  unfold kvsP
  rw [List.getElem?_map, List.getElem?_eq_getElem h]
  rfl
section
variable {P : Program} {w : World} {K : PySem.W.Frag} {mg : Str → Option Value} {base : Heap}
end
end Mk

set_option Elab.async false
set_option linter.all false
set_option maxRecDepth 100000
set_option maxHeartbeats 4000000
namespace Mk
open PySem L2

section
variable {P : Program} {w : World} {K : PySem.W.Frag} {mg : Str → Option Value} {base : Heap}
end
end Mk

set_option Elab.async false
set_option linter.all false
set_option maxRecDepth 100000
set_option maxHeartbeats 4000000
namespace Mk
open PySem PySem.Spec L2 PyProof.Rows

theorem rise_up : ∀ {r : List Str} {p : Str}, risingS p r = true → (p :: r).Pairwise (fun a b => byCs a b = true)
  | [], p, _ => List.pairwise_singleton _ _
  | x :: r, p, h => by
    unfold risingS at h
    rw [Bool.and_eq_true, ltCps_eq] at h
    have hp : byCs p x = true := by
      unfold byCs
      have h1 := h.1
      simp only [Bool.not_eq_true', decide_eq_false_iff_not] at h1
      rw [decide_eq_true_iff]
      exact List.not_lt.mp h1
    have ih := rise_up h.2
    refine List.pairwise_cons.mpr ⟨fun y hy => ?_, ih⟩
    rcases List.mem_cons.mp hy with rfl | hy
    · exact hp
    · exact byCs_trans p x y hp ((List.pairwise_cons.mp ih).1 y hy)
theorem sorted_up : ∀ {l : List Str}, sortedS l = true → l.Pairwise (fun a b => byCs a b = true)
  | [], _ => .nil
  | _ :: _, h => rise_up h
theorem shaped_strsL {zs : List Str} (h : ∀ z ∈ zs, PyData.strOk z = true) : SeqAt.shaped (.list (zs.map PyData.str)) = true := by
  unfold SeqAt.shaped
  simp [PyData.canLay0, PyData.depth, lay_strs zs h, depth_strs]
section
variable {P : Program} {w : World} {K : PySem.W.Frag} {mg : Str → Option Value} {base : Heap}
end
end Mk

set_option Elab.async false
set_option linter.all false
set_option maxRecDepth 100000
set_option maxHeartbeats 4000000
/-! sorted(d) of a dict whose keys are pairs of texts -/
namespace Mk
open PySem PySem.Spec PyProof.Rows L2

/-- the tuples at qs are the pairs ks -/
abbrev Pairs (H : Hp) (qs : List Addr) (ks : List (Str × Str)) : Prop := Paired (fun (q : Addr) (k : Str × Str) => H q = some (.tup [.str k.1, .str k.2])) qs ks
theorem each_mono2 {α β : Type} {R R' : α → β → Prop} (h : ∀ a b, R a b → R' a b) : ∀ {as : List α} {bs : List β}, PySem.W.EachIs R as bs → PySem.W.EachIs R' as bs
  | _, _, .nil => .nil
  | _, _, .cons r t => .cons (h _ _ r) (each_mono2 h t)
section
variable {X : Cx}
end
end Mk

set_option Elab.async false
set_option linter.all false
set_option maxRecDepth 100000
set_option maxHeartbeats 4000000
/-! dict comprehensions, whatever the keys are: told by what a store into the new dict wants -/
namespace Mk
open PySem PySem.Spec PyProof.Rows L2

/-- what a store of z under y into the dict at D wants: the heap behind it is in C -/
abbrev PutK := Addr → V → V → Hp → (Hp → Prop) → Prop
/-- such a store is made by the dict's own step -/
structure PutOk (P : Program) (w : World) (E0 : HO) (Put : PutK) : Prop where
  start : ∀ (H : Hp) (h : Heap), sysModules < h.objs.size → ObjOk P w H (h.push { cls := .type "dict", data := .dict #[] }) h.objs.size E0
  store : ∀ (Y : Cx), Y.prog = P → Y.w = w → Y.calm = true → Y.A.units + 1 < cLine → ∀ (pins : List (Addr × Obj)) (σ : L2.St) (H : Hp) (s : Shared) (D : Addr) (y z : V) (u r : Value) (C : Hp → Prop) (Q : Unit → Shared → Prop) (E : Value → Shared → Prop),
    Inv Y pins σ H s → RelV y u → RelV z r → Put D y z H C → (∀ H' s', C H' → Inv Y pins σ H' s' → Q () s') → wpAny (model P w) Y.A (dictSet D u r) Q E s
/-- one turn of the comprehension behind the walk's step -/
def turnG (Put : PutK) (g : TG) (tt : TT) (tk tv : TE) (vs : List Nat) (σ : L2.St) (D : Addr) (x : V) (H : Hp) (Nx : Hp → Prop) : Prop :=
  g x (wipe σ vs) H fun σ2 H2 => wipe σ2 vs = wipe σ vs ∧ tt σ2 H2 fun b H3 => if b = true then tk σ2 H3 fun y H4 => tv σ2 H4 fun z H5 => Put D y z H5 Nx else Nx H3
def tDcG (E0 : HO) (Put : PutK) (wi : TI) (g : TG) (tt : TT) (tk tv : TE) (vs : List Nat) : TE := fun σ H Q => wi σ H fun J H1 => ∀ D, H1 D = none → ∃ W : Nat → Nat → Hp → Prop, (∃ m, W 0 m (upd H1 D E0)) ∧
  ∀ i m H, W i m H → (J.stop i H ∧ Q (.ref D) H) ∨ (J.go i H ∧ ∃ Nx : Hp → Prop, (∀ H', Nx H' → ∃ m', m' < m ∧ W (i + 1) m' H') ∧ ∀ x H', J.yld i H x H' → turnG Put g tt tk tv vs σ D x H' Nx)
section
variable {X : Cx}
/-- the block's context stands: its own things are its own -/
theorem blk_own {s0 : Shared} {H0 : Hp} {scope : Scope} {ce : Env} {fp : List Addr} {σ : L2.St} {H : Hp} {s : Shared} (I : Inv (X.blk s0 H0 scope ce fp) [] σ H s) (hn : ∀ b ∈ fp, H b = none) : ∀ b ∈ fp, FpOk (X.blk s0 H0 scope ce fp) [] H b := by
  intro b hb
  have ⟨e1, e2⟩ := I.ok.exf b hb
  refine ⟨hn b hb, e1, I.ok.exfs b hb, Or.inl hb, fun x c e => e2 x c e, fun p hp => ?_⟩
  cases hp
/-- one turn, in the block's context -/
theorem turn_blk {E0 : HO} {Put : PutK} (K : PutOk X.prog X.w E0 Put) {kx vx tg : Expr} {ifs : List Expr} {g : TG} {tt : TT} {tk tv : TE} {vs : List Nat} {σ : L2.St} {D : Addr} {s0 : Shared} {H0 : Hp} {scope : Scope} {ce : Env} {fp : List Addr} {tn : Nat → Heap → Prop} {J : It} {it : Addr}
    (cm : X.calm = true) (un : (X.blk s0 H0 scope ce fp).A.units + 1 < cLine) (T : Turn X.prog X.w X.K tg J fp it tn) (pg : PG (X.blk s0 H0 scope ce fp) tg g) (pt : PTs (X.blk s0 H0 scope ce fp) ifs tt) (pk : PE (X.blk s0 H0 scope ce fp) kx tk) (pe : PE (X.blk s0 H0 scope ce fp) vx tv)
    {i : Nat} {s : Shared} {H : Hp} {Nx : Hp → Prop} {Goal : Shared → Prop} {E : Value → Shared → Prop} (I : Inv (X.blk s0 H0 scope ce fp) [] (wipe σ vs) H s) (nf : ∀ b ∈ fp, H b = none) (st : tn (i + 1) s.heap) {x : V} {u : Value} (rx : RelV x u)
    (step : turnG Put g tt tk tv vs σ D x H Nx) (hE : ∀ e s', (X.blk s0 H0 scope ce fp).xe e s' → E e s')
    (fin : ∀ H' s', Nx H' → Inv (X.blk s0 H0 scope ce fp) [] (wipe σ vs) H' s' → tn (i + 1) s'.heap → (∀ b ∈ fp, H' b = none) → Goal s') :
    wpAny (model X.prog X.w) (X.blk s0 H0 scope ce fp).A (assign tg (X.blk s0 H0 scope ce fp).env u) (fun _ s2 => wpAny (model X.prog X.w) (X.blk s0 H0 scope ce fp).A (forIn ifs true fun c r => if r = true then do let ok ← isTrue c (X.blk s0 H0 scope ce fp).env (eval c (X.blk s0 H0 scope ce fp).env); pure (ForInStep.yield ok) else pure (ForInStep.yield r))
      (fun ok s3 => if ok = true then wpAny (model X.prog X.w) (X.blk s0 H0 scope ce fp).A (eval kx (X.blk s0 H0 scope ce fp).env) (fun kv s4 => wpAny (model X.prog X.w) (X.blk s0 H0 scope ce fp).A (eval vx (X.blk s0 H0 scope ce fp).env) (fun vv s5 =>
          wpAny (model X.prog X.w) (X.blk s0 H0 scope ce fp).A (dictSet D kv vv) (fun _ s6 => Goal s6) E s5) E s4) E s3 else Goal s3) E s2) E s := by
  have objs := T.obj _ _ st
  have Ip := I.pinned (blk_own I nf) objs
  -- the walk's own things are held fast while the target is set and the two expressions run
  have back : ∀ {σ8 : L2.St} {H' : Hp} {s' : Shared}, wipe σ8 vs = wipe σ vs → Inv (X.blk s0 H0 scope ce fp) ([] ++ pinsAt fp s.heap) σ8 H' s' → Nx H' → Goal s' := by
    intro σ8 H' s' hw I' nx
    have held : ∀ b ∈ fp, ∀ o, s.heap.get? b = some o → s'.heap.get? b = some o ∧ H' b = none := fun b hb o e => by
      have z := I'.pin (b, o) (List.mem_append_right _ (List.mem_append_right _ (mem_pinsAt hb e)))
      exact ⟨z.1, z.2.1⟩
    refine fin H' s' nx ((I'.unpinned (pins := [])).weak ?_ fun j v e => ?_) (T.keep _ _ _ st fun b hb o e => (held b hb o e).1) fun b hb => ?_
    · rw [← hw, wipe_length]
    · rw [← hw] at e
      exact (wipe_some e).1
    · have ⟨o, e, _⟩ := objs b hb
      exact (held b hb o e).2
  refine wpAny_mono (pg.run _ s _ H x u _ Ip rx step) (fun _ s2 z => ?_) hE
  obtain ⟨σ2, H2, I2, hw, q2⟩ := z
  refine wpAny_mono (pt.run _ s2 σ2 H2 _ I2 q2) (fun ok s3 z => ?_) hE
  obtain ⟨H3, I3, q3⟩ := z
  by_cases c : ok = true
  · rw [if_pos c] at q3 ⊢
    refine wpAny_mono (pk.run _ s3 σ2 H3 _ I3 q3) (fun kv s4 z => ?_) hE
    obtain ⟨y, H4, I4, ry, q4⟩ := z
    refine wpAny_mono (pe.run _ s4 σ2 H4 _ I4 q4) (fun vv s5 z => ?_) hE
    obtain ⟨z, H5, I5, rz, q5⟩ := z
    exact K.store (X.blk s0 H0 scope ce fp) rfl rfl cm un _ σ2 H5 s5 D y z kv vv Nx _ E I5 ry rz q5 fun H6 s6 nx I6 => back hw I6 nx
  · rw [if_neg c] at q3 ⊢
    exact back hw I3 q3
/-- the block's loop -/
theorem loop_blk {E0 : HO} {Put : PutK} (K : PutOk X.prog X.w E0 Put) {kx vx tg iter : Expr} {ifs : List Expr} {scope sc2 : Scope} {pos : Pos} {g : TG} {tt : TT} {tk tv : TE} {vs : List Nat} {σ : L2.St} {D : Addr} {s0 : Shared} {H0 : Hp} {ce : Env} {fp : List Addr} {tn : Nat → Heap → Prop} {J : It} {it : Addr} {Qd : Hp → Prop} {R : Result → Shared → Prop}
    (cm : X.calm = true) (un : (X.blk s0 H0 scope ce fp).A.units + 1 < cLine) (T : Turn X.prog X.w X.K tg J fp it tn) (pg : PG (X.blk s0 H0 scope ce fp) tg g) (pt : PTs (X.blk s0 H0 scope ce fp) ifs tt) (pk : PE (X.blk s0 H0 scope ce fp) kx tk) (pe : PE (X.blk s0 H0 scope ce fp) vx tv)
    {W : Nat → Nat → Hp → Prop} (turn : ∀ i m H, W i m H → (J.stop i H ∧ Qd H) ∨ (J.go i H ∧ ∃ Nx : Hp → Prop, (∀ H', Nx H' → ∃ m', m' < m ∧ W (i + 1) m' H') ∧ ∀ x H', J.yld i H x H' → turnG Put g tt tk tv vs σ D x H' Nx))
    (hE : ∀ e s', (X.blk s0 H0 scope ce fp).xe e s' → notedBy (model X.prog X.w) (X.blk s0 H0 scope ce fp).A (X.blk s0 H0 scope ce fp).env (fun e s' => R (.error e) s') e s')
    (hR : ∀ s' H', Inv (X.blk s0 H0 scope ce fp) [] (wipe σ vs) H' s' → (∀ b ∈ fp, H' b = none) → Qd H' → R (.ok .next) s')
    {m0 : Nat} {s : Shared} {H : Hp} (I : Inv (X.blk s0 H0 scope ce fp) [] (wipe σ vs) H s) (st : tn 0 s.heap) (nf : ∀ b ∈ fp, H b = none) (w0 : W 0 m0 H) :
    codeAny (model X.prog X.w) (X.blk s0 H0 scope ce fp).A (.compLoop (.DictComp kx vx [⟨tg, iter, ifs, 0⟩] sc2 pos) 0 (.ref it) (.ref D) (X.blk s0 H0 scope ce fp).env) R s := by
  refine compLoop_anyD (fun m s' => ∃ i H', Inv (X.blk s0 H0 scope ce fp) [] (wipe σ vs) H' s' ∧ tn i s'.heap ∧ (∀ b ∈ fp, H' b = none) ∧ W i m H') ?_ m0 ⟨0, H, I, st, nf, w0⟩
  rintro m s5 ⟨i, H5, I5, st5, n5, w5⟩
  rcases turn i m H5 w5 with ⟨stop, qd⟩ | ⟨go, Nx, less, step⟩
  · have e := T.done (X.blk s0 H0 scope ce fp) rfl rfl rfl cm i [] s5 _ H5 (fun _ _ => False) I5 (blk_own I5 n5) st5 stop
    refine wpAny_mono e (fun r s6 z => ?_) fun _ _ z => z.elim
    obtain ⟨rfl, I6⟩ := z
    exact hR s6 H5 I6 n5 qd
  · have e := T.item (X.blk s0 H0 scope ce fp) rfl rfl rfl cm i [] s5 _ H5 (fun _ _ => False) I5 (blk_own I5 n5) st5 go
    refine wpAny_mono e (fun r s6 z => ?_) fun _ _ z => z.elim
    obtain ⟨u, rfl, z⟩ := z
    refine wpAny_mono z (fun _ s7 z => ?_) fun _ _ z => z.elim
    obtain ⟨x, H7, I7, rx, y7, st7, n7⟩ := z
    refine turn_blk K cm un T pg pt pk pe I7 n7 st7 rx (step x H7 y7) hE fun H' s' nx I' st' n' => ?_
    obtain ⟨m', lt, w'⟩ := less H' nx
    exact ⟨m', lt, i + 1, H', I', st', n', w'⟩
/-- the whole comprehension, as a value -/
theorem pe_dcG {E0 : HO} {Put : PutK} (K : PutOk X.prog X.w E0 Put) {kx vx tg iter : Expr} {ifs : List Expr} {scope : Scope} {own : List (Str × Nat)} {pos : Pos} {wi : TI} {g : TG} {tt : TT} {tk tv : TE} (cm : X.calm = true) (nd : X.N.Nodup) (un : X.A.units + 20 < cLine) (hi : PI X tg iter wi) (ok : BlkOk X.N X.env.scope scope own)
    (hg : ∀ s H C cl fr, PG (X.blk s H scope (compEnvC scope cl C X.env) fr) tg g) (ht : ∀ s H C cl fr, PTs (X.blk s H scope (compEnvC scope cl C X.env) fr) ifs tt) (hk : ∀ s H C cl fr, PE (X.blk s H scope (compEnvC scope cl C X.env) fr) kx tk) (hv : ∀ s H C cl fr, PE (X.blk s H scope (compEnvC scope cl C X.env) fr) vx tv)
    (fs : ∀ x, foldedSetIterable iter X.env x = pure x := by intro _; rfl) : PE X (.DictComp kx vx [⟨tg, iter, ifs, 0⟩] scope pos) (tDcG E0 Put wi g tt tk tv (own.map (·.2))) := by
  refine ⟨fun pins s σ H Q I h => ?_⟩
  rw [arm_eval_DictComp]
  have cl : ∀ y ∈ scope.names, y.2 = .free → ∃ c, X.env.cells.lookup y.1 = some c := fun y hy e => I.ok.has _ ((ok.free y hy e).elim .inl .inr)
  refine wpAny_comprehension_free rfl fs (closure_ok cl) ok.kind (fun y hy e => by rw [ok.uniq y hy, e]) (thn (hi.run pins s σ H _ I h) fun xv s1 z1 => thn z1 fun itv s2 z2 => ?_)
  obtain ⟨it, fp, tn, J, H2, rfl, I2, T, st2, f2, q⟩ := z2
  refine wpAny_newObj_type (newEnv_comp ?_)
  obtain ⟨W, ⟨m0, w0⟩, turn⟩ := q s2.heap.objs.size (I2.hok.fresh (Nat.le_refl _))
  have I3 : Inv X pins σ (upd H2 s2.heap.objs.size E0) { s2 with heap := s2.heap.push { cls := .type "dict", data := .dict #[] } } :=
    I2.laid (t' := s2.toks) (fun b o e => Heap.get?_push_of_some _ e) (Nat.le_refl _) (K.start _ _ I2.big)
  have old : ∀ b ∈ fp, b < s2.heap.objs.size := fun b hb => have ⟨_, e, _⟩ := T.obj _ _ st2 b hb; Heap.lt_size e
  have f3 : ∀ b ∈ fp, FpOk X pins (upd H2 s2.heap.objs.size E0) b ∧ b < (s2.heap.push { cls := .type "dict", data := .dict #[] }).objs.size := fun b hb =>
    ⟨⟨by rw [upd_ne (Nat.ne_of_lt (old b hb))]; exact (f2 b hb).1, (f2 b hb).2⟩, by rw [Heap.size_push]; exact Nat.lt_succ_of_lt (old b hb)⟩
  have I4 := block_start I3 ok nd f3
  have nfp : ∀ b ∈ fp, upd H2 s2.heap.objs.size E0 b = none := fun b hb => (f3 b hb).1.1
  have st4 := T.keep 0 _ (pushCells ((s2.heap.push { cls := .type "dict", data := .dict #[] }).push { cls := .type "dict", data := .dict #[] }) scope.names) st2 fun b _ o e => pushCells_keeps _ _ _ _ (Heap.get?_push_of_some _ (Heap.get?_push_of_some _ e))
  have pg := hg { s2 with heap := s2.heap.push { cls := .type "dict", data := .dict #[] } } (upd H2 s2.heap.objs.size E0) (s2.heap.push { cls := .type "dict", data := .dict #[] }).objs.size (cellsFrom ((s2.heap.push { cls := .type "dict", data := .dict #[] }).objs.size + 1) scope.names (cloFrom X.env.cells scope.names [])) fp
  have pt := ht { s2 with heap := s2.heap.push { cls := .type "dict", data := .dict #[] } } (upd H2 s2.heap.objs.size E0) (s2.heap.push { cls := .type "dict", data := .dict #[] }).objs.size (cellsFrom ((s2.heap.push { cls := .type "dict", data := .dict #[] }).objs.size + 1) scope.names (cloFrom X.env.cells scope.names [])) fp
  have pk := hk { s2 with heap := s2.heap.push { cls := .type "dict", data := .dict #[] } } (upd H2 s2.heap.objs.size E0) (s2.heap.push { cls := .type "dict", data := .dict #[] }).objs.size (cellsFrom ((s2.heap.push { cls := .type "dict", data := .dict #[] }).objs.size + 1) scope.names (cloFrom X.env.cells scope.names [])) fp
  have pw := hv { s2 with heap := s2.heap.push { cls := .type "dict", data := .dict #[] } } (upd H2 s2.heap.objs.size E0) (s2.heap.push { cls := .type "dict", data := .dict #[] }).objs.size (cellsFrom ((s2.heap.push { cls := .type "dict", data := .dict #[] }).objs.size + 1) scope.names (cloFrom X.env.cells scope.names [])) fp
  have loop := loop_blk (kx := kx) (vx := vx) (iter := iter) (sc2 := scope) (pos := pos) (R := compPost (model X.prog X.w) X.A X.xe none (EP X pins σ Q) (.ref s2.heap.objs.size) (s2.heap.push { cls := .type "dict", data := .dict #[] }).objs.size)
    K cm (by show X.A.units + 1 < cLine; omega) T pg pt pk pw turn (fun _ _ z => False.elim z) (fun s6 H6 I6 n6 qd => ?_) I4 st4 nfp w0
  · exact codeAny_compStart_dict loop (T.self X.A 0 _ _ _ st4 loop)
  · have I7 : Inv X pins σ H6 s6 := I3.call' (ch := fp) I6.os I6.base I6.hok I6.bare fun b hb => by
      have ⟨_, e2, e3, e4, e5, e6⟩ := (f3 b hb).1
      exact ⟨e4, e2, e5, e6⟩
    obtain ⟨m, hn, _⟩ := I6.loc
    have nC : H6 (s2.heap.push { cls := .type "dict", data := .dict #[] }).objs.size = none := I6.free
    obtain ⟨e0, e1, e2, e3, e4, e5⟩ := I3.fpOk (Nat.le_refl _) nC
    exact ⟨m, hn, fun h'' sb => ⟨.ref s2.heap.objs.size, H6, I7.turned (t' := s6.toks) (fun b o hb e => (sb.2 b hb).trans e) e0 e1 e3 e4 e5, rfl, qd⟩⟩
end
/-- keys that are ints and texts -/
def putP : PutK := fun D y z H C => ∃ (kvs : List (Key × V)) (k : Key), y = kV k ∧ H D = some (.dK kvs) ∧ kvs.length < sizeLine ∧ C (upd H D (.dK (L2.putK kvs k z)))
theorem putP_ok {P : Program} {w : World} : PutOk P w (.dK []) putP where
  start := fun H h big => dk_empty h big
  store := by
    intro Y hP hw cm hu pins σ H s D y z u r C Q E I ry rz st fin
    subst hP hw
    obtain ⟨kvs, k, rfl, hD, hl, hC⟩ := st
    exact d_dictSet I hD hl ry rz fun s' J => fin _ s' hC J
end Mk

set_option Elab.async false
set_option linter.all false
set_option maxRecDepth 100000
set_option maxHeartbeats 4000000
namespace Mk
open PySem PySem.Spec L2 PyProof.Rows

/-! ### a table in another order -/
section
variable {α : Type} [DecidableEq α]
def look (t : List (α × Int)) (k : α) : Int := ((t.find? fun p => decide (p.1 = k)).map (·.2)).getD 0
theorem look_mem : ∀ {t : List (α × Int)}, (t.map (·.1)).Nodup → ∀ p ∈ t, look t p.1 = p.2
  | [], _, _, h => nomatch h
  | a :: t, nd, p, h => by
    rw [List.map_cons, List.nodup_cons] at nd
    unfold look
    by_cases e : a.1 = p.1
    · rw [List.find?_cons_of_pos (by simpa using e)]
      rcases List.mem_cons.mp h with rfl | m
      · rfl
      · exact absurd (List.mem_map.mpr ⟨p, m, e.symm⟩) nd.1
    · rw [List.find?_cons_of_neg (by simpa using e)]
      rcases List.mem_cons.mp h with rfl | m
      · exact absurd rfl e
      · exact look_mem nd.2 p m
def put (t : List (α × Int)) (ys : List α) : List (α × Int) := ys.map fun k => (k, look t k)
theorem put_perm {t : List (α × Int)} (nd : (t.map (·.1)).Nodup) {ys : List α} (p : ys.Perm (t.map (·.1))) : (put t ys).Perm t := by
  have e : (t.map (·.1)).map (fun k => (k, look t k)) = t := by
    rw [List.map_map]
    conv => rhs; rw [← List.map_id t]
    exact List.map_congr_left fun q hq => by
      show (q.1, look t q.1) = q
      rw [look_mem nd q hq]
  have := p.map fun k => (k, look t k)
  rw [e] at this
  exact this
theorem put_keys (t : List (α × Int)) (ys : List α) : (put t ys).map (·.1) = ys := by
  unfold put
  rw [List.map_map]
  conv => rhs; rw [← List.map_id ys]
  rfl
end
theorem valP {t : PTab} {k : Str} (h : k ∈ t.map (·.1)) : valV (kvsP t) (Sum.inr k) = some (V.int (look t k)) := by
  induction t with
  | nil => exact nomatch h
  | cons a t ih =>
    unfold look
    by_cases e : a.1 = k
    · rw [List.find?_cons_of_pos (by simpa using e)]
      exact valV_pos (by show (Sum.inr a.1 : Key) = Sum.inr k; rw [e])
    · rw [List.find?_cons_of_neg (by simpa using e)]
      have ne : ¬ (Sum.inr a.1 : Key) = Sum.inr k := fun q => e (Sum.inr.inj q)
      refine (valV_neg ne).trans (ih ?_)
      rcases List.mem_cons.mp (by rw [List.map_cons] at h; exact h) with q | q
      · exact absurd q.symm e
      · exact q
theorem noP {t : PTab} {k : Str} (h : k ∉ t.map (·.1)) : valV (kvsP t) (Sum.inr k) = none := by
  induction t with
  | nil => rfl
  | cons a t ih =>
    rw [List.map_cons, List.mem_cons, not_or] at h
    have ne : ¬ (Sum.inr a.1 : Key) = Sum.inr k := fun q => h.1 (Sum.inr.inj q).symm
    exact (valV_neg ne).trans (ih h.2)
theorem putP_new {t : PTab} {k : Str} {n : Int} (h : k ∉ t.map (·.1)) : L2.putK (kvsP t) (Sum.inr k) (V.int n) = kvsP (t ++ [(k, n)]) := by
  rw [putK_new _ (noP h)]
  simp [kvsP]
theorem take_put {α : Type} [DecidableEq α] (t : List (α × Int)) {ys : List α} {i : Nat} (h : i < ys.length) : put t (ys.take (i + 1)) = put t (ys.take i) ++ [(ys[i], look t ys[i])] := by
  unfold put
  rw [List.take_add_one, List.getElem?_eq_getElem h, List.map_append]
  rfl
theorem not_before {α : Type} {ys : List α} (nd : ys.Nodup) {i : Nat} (h : i < ys.length) : ys[i] ∉ ys.take i := fun m => by
  obtain ⟨j, hj, e⟩ := List.getElem_of_mem m
  rw [List.length_take] at hj
  rw [List.getElem_take] at e
  have := (List.getElem_inj nd).mp e
  omega
section
variable {P : Program} {w : World} {K : PySem.W.Frag} {mg : Str → Option Value} {base : Heap}
end
end Mk

set_option Elab.async false
set_option linter.all false
set_option maxRecDepth 100000
set_option maxHeartbeats 1000000
/-! machines: which states can be reached, which reach a last one -/
namespace Mk
open PySem L2

/-- for each state its moves, and whether it is a last one -/
abbrev Mch := List (PTab × Bool)
def mvs (m : Mch) (i : Int) : PTab := (m.getD i.toNat ([], false)).1
def lst? (m : Mch) (i : Int) : Bool := (m.getD i.toNat ([], false)).2
def keysM (t : PTab) : List Str := (t.map (·.1)).mergeSort byCs
structure WF (m : Mch) : Prop where
  nd : ∀ q ∈ m, (q.1.map (·.1)).Nodup
  sg : ∀ q ∈ m, ∀ p ∈ q.1, sgB p.1 = true
  to : ∀ q ∈ m, ∀ p ∈ q.1, 0 ≤ p.2 ∧ p.2 < m.length
inductive Rch (m : Mch) : Int → Int → Prop
  | refl (i : Int) : Rch m i i
  | step {i j k : Int} {s : Str} : Rch m i j → (s, k) ∈ mvs m j → Rch m i k
theorem Rch.trans {m : Mch} {i j k : Int} (a : Rch m i j) (b : Rch m j k) : Rch m i k := by
  induction b with
  | refl => exact a
  | step _ h ih => exact .step ih h
theorem Rch.head {m : Mch} {i j k : Int} {s : Str} (h : (s, j) ∈ mvs m i) (b : Rch m j k) : Rch m i k := Rch.trans (.step (.refl i) h) b
/-! ### lists without repetition -/
section
variable {α : Type} [DecidableEq α]
theorem nd_len : ∀ {l k : List α}, l.Nodup → (∀ x ∈ l, x ∈ k) → l.length ≤ k.length
  | [], _, _, _ => Nat.zero_le _
  | a :: l, k, nd, h => by
    rw [List.nodup_cons] at nd
    have ha := h a List.mem_cons_self
    have ih := nd_len (l := l) (k := k.erase a) nd.2 fun x hx => by
      have hn : x ≠ a := fun e => nd.1 (e ▸ hx)
      exact (List.mem_erase_of_ne hn).mpr (h x (List.mem_cons_of_mem _ hx))
    rw [List.length_erase_of_mem ha] at ih
    have : 0 < k.length := List.length_pos_of_mem ha
    rw [List.length_cons]
    omega
end
def ups (n : Nat) : List Int := (List.range n).map fun i : Nat => (i : Int)
theorem ups_mem {n : Nat} {i : Int} : i ∈ ups n ↔ 0 ≤ i ∧ i < n := by
  unfold ups
  rw [List.mem_map]
  refine ⟨fun ⟨j, hj, e⟩ => ?_, fun h => ⟨i.toNat, ?_, by omega⟩⟩
  · rw [List.mem_range] at hj
    omega
  · rw [List.mem_range]
    omega
theorem nd_map {α β : Type} {f : α → β} (hf : ∀ a b, f a = f b → a = b) : ∀ {l : List α}, l.Nodup → (l.map f).Nodup
  | [], _ => List.nodup_nil
  | a :: l, h => by
    rw [List.nodup_cons] at h
    rw [List.map_cons, List.nodup_cons]
    refine ⟨fun m => ?_, nd_map hf h.2⟩
    obtain ⟨b, hb, e⟩ := List.mem_map.mp m
    exact h.1 (hf _ _ e ▸ hb)
theorem ups_nd (n : Nat) : (ups n).Nodup := nd_map (fun a b h => by omega) List.nodup_range
theorem ups_len (n : Nat) : (ups n).length = n := by
  unfold ups
  rw [List.length_map, List.length_range]
theorem in_len {l : List Int} {n : Nat} (nd : l.Nodup) (h : ∀ x ∈ l, 0 ≤ x ∧ x < n) : l.length ≤ n := by
  have := nd_len (k := ups n) nd fun x hx => ups_mem.mpr (h x hx)
  rwa [ups_len] at this
theorem nd_snoc {α : Type} {l : List α} {a : α} (nd : l.Nodup) (h : a ∉ l) : (l ++ [a]).Nodup :=
  List.nodup_append.mpr ⟨nd, List.nodup_cons.mpr ⟨List.not_mem_nil, List.nodup_nil⟩, fun x hx y hy e => h (by rw [List.mem_singleton.mp hy] at e; exact e ▸ hx)⟩
/-! ### the walk from a state -/
abbrev Fnd := List (Int × Str)
def addF (t : PTab) (w : Str) (f : Fnd) (s : Str) : Fnd := if look t s ∈ f.map (·.1) then f else f ++ [(look t s, w ++ s)]
def bfs (m : Mch) : Nat → Nat → Fnd → Fnd
  | 0, _, f => f
  | n + 1, k, f => match f[k]? with
    | none => f
    | some p => bfs m n (k + 1) ((keysM (mvs m p.1)).foldl (addF (mvs m p.1) p.2) f)
def firstW (m : Mch) (i : Int) : Fnd := bfs m m.length 0 [(i, ("" : Str))]
structure FOk (m : Mch) (f : Fnd) : Prop where
  nd : (f.map (·.1)).Nodup
  rg : ∀ p ∈ f, 0 ≤ p.1 ∧ p.1 < m.length
  le : ∀ p ∈ f, p.2.length < f.length
theorem FOk.len {m : Mch} {f : Fnd} (h : FOk m f) : f.length ≤ m.length := by
  have := in_len (l := f.map (·.1)) (n := m.length) h.nd fun x hx => by
    obtain ⟨p, hp, rfl⟩ := List.mem_map.mp hx
    exact h.rg p hp
  rwa [List.length_map] at this
theorem keysM_perm (t : PTab) : (keysM t).Perm (t.map (·.1)) := List.mergeSort_perm _ _
theorem keysM_mem {t : PTab} {s : Str} : s ∈ keysM t ↔ s ∈ t.map (·.1) := (keysM_perm t).mem_iff
theorem mvs_mem {m : Mch} {i : Int} {p : Str × Int} (h : p ∈ mvs m i) : ∃ q ∈ m, q.1 = mvs m i ∧ p ∈ q.1 := by
  unfold mvs at *
  rw [List.getD_eq_getElem?_getD] at *
  cases e : m[i.toNat]? with
  | none => rw [e] at h; cases h
  | some q =>
    rw [e] at h
    exact ⟨q, List.mem_of_getElem? e, rfl, h⟩
theorem mvs_nd {m : Mch} (w : WF m) (i : Int) : ((mvs m i).map (·.1)).Nodup := by
  unfold mvs
  rw [List.getD_eq_getElem?_getD]
  cases e : m[i.toNat]? with
  | none => exact List.nodup_nil
  | some q => exact w.nd q (List.mem_of_getElem? e)
theorem look_in {t : PTab} (nd : (t.map (·.1)).Nodup) {s : Str} (h : s ∈ t.map (·.1)) : (s, look t s) ∈ t := by
  obtain ⟨p, hp, rfl⟩ := List.mem_map.mp h
  rw [look_mem nd p hp]
  exact hp
theorem look_rg {m : Mch} (w : WF m) {i : Int} {s : Str} (h : s ∈ (mvs m i).map (·.1)) : 0 ≤ look (mvs m i) s ∧ look (mvs m i) s < m.length := by
  have := look_in (mvs_nd w i) h
  obtain ⟨q, hq, _, hp⟩ := mvs_mem this
  exact w.to q hq _ hp
theorem key_sg {m : Mch} (w : WF m) {i : Int} {s : Str} (h : s ∈ (mvs m i).map (·.1)) : sgB s = true := by
  have := look_in (mvs_nd w i) h
  obtain ⟨q, hq, _, hp⟩ := mvs_mem this
  exact w.sg q hq _ hp
theorem addF_pre (t : PTab) (w : Str) (f : Fnd) (s : Str) : ∃ r, addF t w f s = f ++ r := by
  unfold addF
  split
  · exact ⟨[], (List.append_nil _).symm⟩
  · exact ⟨_, rfl⟩
theorem addF_in (t : PTab) (w : Str) (f : Fnd) (s : Str) : look t s ∈ (addF t w f s).map (·.1) := by
  unfold addF
  split
  · assumption
  · rw [List.map_append]
    exact List.mem_append_right _ List.mem_cons_self
theorem addF_ok {m : Mch} {t : PTab} {w : Str} {f : Fnd} {s : Str} (h : FOk m f) (hs : s.length = 1) (hw : w.length < f.length) (ht : 0 ≤ look t s ∧ look t s < m.length) : FOk m (addF t w f s) := by
  unfold addF
  split
  · exact h
  · rename_i hn
    refine ⟨?_, fun p hp => ?_, fun p hp => ?_⟩
    · rw [List.map_append]
      exact nd_snoc h.nd hn
    · rcases List.mem_append.mp hp with hp | hp
      · exact h.rg p hp
      · rw [List.mem_singleton.mp hp]
        exact ht
    · rw [List.length_append, List.length_singleton]
      rcases List.mem_append.mp hp with hp | hp
      · exact Nat.lt_succ_of_lt (h.le p hp)
      · rw [List.mem_singleton.mp hp]
        show (w ++ s).length < _
        have : (w ++ s).length = w.length + s.length := by
          show (w.cps ++ s.cps).size = _
          rw [Array.size_append]
          rfl
        omega
theorem one_of {s : Str} (h : sgB s = true) : s.length = 1 := by
  unfold sgB at h
  simp only [Bool.and_eq_true, decide_eq_true_eq] at h
  exact h.1
/-- some of the signs of a state have been looked at -/
theorem foldF_ok {m : Mch} {t : PTab} {w : Str} : ∀ {ks : List Str} {f : Fnd}, FOk m f → (∀ s ∈ ks, s.length = 1 ∧ 0 ≤ look t s ∧ look t s < m.length) → w.length < f.length → FOk m (ks.foldl (addF t w) f) ∧ (∃ r, ks.foldl (addF t w) f = f ++ r) ∧ ∀ s ∈ ks, look t s ∈ (ks.foldl (addF t w) f).map (·.1)
  | [], f, h, _, _ => ⟨h, ⟨[], (List.append_nil _).symm⟩, fun _ z => nomatch z⟩
  | s :: ks, f, h, hk, hw => by
    obtain ⟨h1, h2, h3⟩ := hk s List.mem_cons_self
    have a := addF_ok (w := w) h h1 hw ⟨h2, h3⟩
    obtain ⟨r, er⟩ := addF_pre t w f s
    obtain ⟨b, ⟨r2, e2⟩, c⟩ := foldF_ok (w := w) (ks := ks) a (fun x hx => hk x (List.mem_cons_of_mem _ hx)) (by rw [er, List.length_append]; omega)
    rw [List.foldl_cons]
    refine ⟨b, ⟨r ++ r2, by rw [e2, er, List.append_assoc]⟩, fun x hx => ?_⟩
    rcases List.mem_cons.mp hx with rfl | hx
    · rw [e2, List.map_append]
      exact List.mem_append_left _ (addF_in t w f x)
    · exact c x hx
/-- the places below k are looked at -/
def Clo (m : Mch) (k : Nat) (f : Fnd) : Prop := ∀ (i : Nat) (p : Int × Str), i < k → f[i]? = some p → ∀ q ∈ mvs m p.1, q.2 ∈ f.map (·.1)
theorem bfs_ok {m : Mch} (w : WF m) : ∀ (n k : Nat) (f : Fnd), FOk m f → k ≤ f.length → m.length ≤ n + k → Clo m k f → FOk m (bfs m n k f) ∧ Clo m (bfs m n k f).length (bfs m n k f) ∧ ∃ r, bfs m n k f = f ++ r
  | 0, k, f, h, hk, hn, hc => by
    have := h.len
    have e : k = f.length := by omega
    exact ⟨h, e ▸ hc, [], (List.append_nil _).symm⟩
  | n + 1, k, f, h, hk, hn, hc => by
    unfold bfs
    cases e : f[k]? with
    | none =>
      have : f.length ≤ k := List.getElem?_eq_none_iff.mp e
      have e2 : k = f.length := by omega
      exact ⟨h, e2 ▸ hc, [], (List.append_nil _).symm⟩
    | some p =>
      have hp := List.mem_of_getElem? e
      have kl := (List.getElem?_eq_some_iff.mp e).1
      obtain ⟨a, ⟨r, er⟩, c⟩ := foldF_ok (t := mvs m p.1) (w := p.2) (ks := keysM (mvs m p.1)) h (fun s hs => by
        have hs := keysM_mem.mp hs
        exact ⟨one_of (key_sg w hs), look_rg w hs⟩) (h.le p hp)
      obtain ⟨b1, b2, r2, e2⟩ := bfs_ok w n (k + 1) _ a (by rw [er, List.length_append]; omega) (by omega) (fun i q hi hq x hx => by
        by_cases hik : i < k
        · rw [er, List.getElem?_append_left (by omega)] at hq
          rw [er, List.map_append]
          exact List.mem_append_left _ (hc i q hik hq x hx)
        · have hik : i = k := by omega
          subst hik
          rw [er, List.getElem?_append_left kl, e] at hq
          cases hq
          have := c x.1 (keysM_mem.mpr (List.mem_map.mpr ⟨x, hx, rfl⟩))
          rwa [look_mem (mvs_nd w p.1) x hx] at this)
      refine ⟨b1, b2, r ++ r2, ?_⟩
      show bfs m n (k + 1) _ = _
      rw [e2, er, List.append_assoc]
theorem clo_rch {m : Mch} {f : Fnd} (h : Clo m f.length f) {i j : Int} (r : Rch m i j) : i ∈ f.map (·.1) → j ∈ f.map (·.1) := by
  induction r with
  | refl => exact id
  | step _ hs ih =>
    intro hi
    obtain ⟨p, hp, e⟩ := List.mem_map.mp (ih hi)
    obtain ⟨n, hn, en⟩ := List.getElem_of_mem hp
    exact h n p hn (by rw [List.getElem?_eq_getElem hn, en]) _ (by rw [e]; exact hs)
theorem start_ok {m : Mch} {i : Int} (hi : 0 ≤ i ∧ i < m.length) : FOk m [(i, ("" : Str))] := ⟨List.nodup_cons.mpr ⟨List.not_mem_nil, List.nodup_nil⟩, fun p hp => by rw [List.mem_singleton.mp hp]; exact hi, fun p hp => by
  rw [List.mem_singleton.mp hp]
  exact (by decide : ("" : Str).length < 1)⟩
theorem first_ok {m : Mch} (w : WF m) {i : Int} (hi : 0 ≤ i ∧ i < m.length) : FOk m (firstW m i) ∧ ∀ j, Rch m i j → j ∈ (firstW m i).map (·.1) := by
  have := bfs_ok w m.length 0 [(i, ("" : Str))] (start_ok hi) (Nat.zero_le _) (by omega) (fun n p hn => absurd hn (Nat.not_lt_zero _))
  obtain ⟨a, b, r, e⟩ := this
  refine ⟨a, fun j hj => clo_rch b hj ?_⟩
  show i ∈ (bfs m m.length 0 [(i, ("" : Str))]).map (·.1)
  rw [e]
  exact List.mem_cons_self
/-! ### the states that reach a last one -/
def lasts (m : Mch) (k : Nat) : List Int := ((List.range k).filter fun i : Nat => lst? m (i : Nat)).map fun i : Nat => (i : Int)
abbrev Near := List (List Int)
def addN (t : PTab) (k : Nat) (nr : Near) (s : Str) : Near := nr.set (look t s).toNat (nr.getD (look t s).toNat [] ++ [(k : Int)])
def nearK (m : Mch) : Nat → Near
  | 0 => List.replicate m.length []
  | k + 1 => ((mvs m (k : Nat)).map (·.1)).foldl (addN (mvs m (k : Nat)) k) (nearK m k)
def addE (f : List Int) (s : Int) : List Int := if s ∈ f then f else f ++ [s]
def bfsE (nr : Near) : Nat → Nat → List Int → List Int
  | 0, _, f => f
  | n + 1, k, f => match f[k]? with
    | none => f
    | some h => bfsE nr n (k + 1) ((nr.getD h.toNat []).foldl addE f)
def endM (m : Mch) : List Int := bfsE (nearK m m.length) m.length 0 (lasts m m.length)
structure EOk (n : Nat) (f : List Int) : Prop where
  nd : f.Nodup
  rg : ∀ x ∈ f, 0 ≤ x ∧ x < n
theorem EOk.len {n : Nat} {f : List Int} (h : EOk n f) : f.length ≤ n := in_len h.nd h.rg
def NOk (n : Nat) (nr : Near) : Prop := nr.length = n ∧ ∀ l ∈ nr, ∀ x ∈ l, 0 ≤ x ∧ x < n
theorem addN_ok {n k : Nat} {t : PTab} {nr : Near} {s : Str} (h : NOk n nr) (hk : k < n) : NOk n (addN t k nr s) := by
  refine ⟨by unfold addN; rw [List.length_set]; exact h.1, fun l hl x hx => ?_⟩
  unfold addN at hl
  rcases List.mem_or_eq_of_mem_set hl with hl | rfl
  · exact h.2 l hl x hx
  · rcases List.mem_append.mp hx with hx | hx
    · rw [List.getD_eq_getElem?_getD] at hx
      cases e : nr[(look t s).toNat]? with
      | none => rw [e] at hx; cases hx
      | some y =>
        rw [e] at hx
        exact h.2 y (List.mem_of_getElem? e) x hx
    · rw [List.mem_singleton.mp hx]
      omega
theorem addN_in {n k : Nat} {t : PTab} {nr : Near} {s : Str} (h : NOk n nr) (ht : 0 ≤ look t s ∧ look t s < n) : (k : Int) ∈ (addN t k nr s).getD (look t s).toNat [] := by
  unfold addN
  rw [List.getD_eq_getElem?_getD, List.getElem?_set_self (by rw [h.1]; omega)]
  exact List.mem_append_right _ List.mem_cons_self
theorem addN_mono {k : Nat} {t : PTab} {nr : Near} {s : Str} {j : Nat} {x : Int} (hx : x ∈ nr.getD j []) : x ∈ (addN t k nr s).getD j [] := by
  unfold addN
  by_cases e : (look t s).toNat = j
  · subst e
    rw [List.getD_eq_getElem?_getD] at hx
    have l : (look t s).toNat < nr.length := by
      cases q : nr[(look t s).toNat]? with
      | none => rw [q] at hx; cases hx
      | some _ => exact (List.getElem?_eq_some_iff.mp q).1
    rw [List.getD_eq_getElem?_getD, List.getElem?_set_self l, List.getD_eq_getElem?_getD]
    exact List.mem_append_left _ hx
  · rw [List.getD_eq_getElem?_getD, List.getElem?_set_ne e, ← List.getD_eq_getElem?_getD]
    exact hx
theorem foldN_ok {n k : Nat} {t : PTab} (hk : k < n) : ∀ {ks : List Str} {nr : Near}, NOk n nr → (∀ s ∈ ks, 0 ≤ look t s ∧ look t s < n) → NOk n (ks.foldl (addN t k) nr) ∧ (∀ j x, x ∈ nr.getD j [] → x ∈ (ks.foldl (addN t k) nr).getD j []) ∧ ∀ s ∈ ks, (k : Int) ∈ (ks.foldl (addN t k) nr).getD (look t s).toNat []
  | [], nr, h, _ => ⟨h, fun _ _ z => z, fun _ z => nomatch z⟩
  | s :: ks, nr, h, hs => by
    obtain ⟨a, b, c⟩ := foldN_ok hk (ks := ks) (addN_ok (t := t) (s := s) h hk) (fun x hx => hs x (List.mem_cons_of_mem _ hx))
    rw [List.foldl_cons]
    refine ⟨a, fun j x hx => b j x (addN_mono hx), fun x hx => ?_⟩
    rcases List.mem_cons.mp hx with rfl | hx
    · exact b _ _ (addN_in h (hs x List.mem_cons_self))
    · exact c x hx
theorem near_ok {m : Mch} (w : WF m) : ∀ k, k ≤ m.length → NOk m.length (nearK m k) ∧ ∀ i : Nat, i < k → ∀ p ∈ mvs m (i : Nat), (i : Int) ∈ (nearK m k).getD p.2.toNat []
  | 0, _ => ⟨⟨List.length_replicate, fun l hl x hx => by rw [List.eq_of_mem_replicate hl] at hx; cases hx⟩, fun i hi => absurd hi (Nat.not_lt_zero _)⟩
  | k + 1, hk => by
    obtain ⟨a, b⟩ := near_ok w k (by omega)
    obtain ⟨c, d, e⟩ := foldN_ok (t := mvs m (k : Nat)) (k := k) (n := m.length) (by omega) (ks := (mvs m (k : Nat)).map (·.1)) a fun s hs => look_rg w hs
    refine ⟨c, fun i hi p hp => ?_⟩
    by_cases h : i < k
    · exact d _ _ (b i h p hp)
    · have h : i = k := by omega
      subst h
      have := e p.1 (List.mem_map.mpr ⟨p, hp, rfl⟩)
      rwa [look_mem (mvs_nd w _) p hp] at this
theorem foldE_ok {n : Nat} : ∀ {l f : List Int}, EOk n f → (∀ x ∈ l, 0 ≤ x ∧ x < n) → EOk n (l.foldl addE f) ∧ (∃ r, l.foldl addE f = f ++ r) ∧ ∀ x ∈ l, x ∈ l.foldl addE f
  | [], f, h, _ => ⟨h, ⟨[], (List.append_nil _).symm⟩, fun _ z => nomatch z⟩
  | s :: l, f, h, hl => by
    have a : EOk n (addE f s) ∧ (∃ r, addE f s = f ++ r) ∧ s ∈ addE f s := by
      unfold addE
      split
      · exact ⟨h, ⟨[], (List.append_nil _).symm⟩, by assumption⟩
      · rename_i hn
        refine ⟨⟨nd_snoc h.nd hn, fun x hx => ?_⟩, ⟨_, rfl⟩, List.mem_append_right _ List.mem_cons_self⟩
        rcases List.mem_append.mp hx with hx | hx
        · exact h.rg x hx
        · rw [List.mem_singleton.mp hx]
          exact hl s List.mem_cons_self
    obtain ⟨a1, ⟨r, er⟩, a3⟩ := a
    obtain ⟨b1, ⟨r2, e2⟩, b3⟩ := foldE_ok (l := l) a1 fun x hx => hl x (List.mem_cons_of_mem _ hx)
    rw [List.foldl_cons]
    refine ⟨b1, ⟨r ++ r2, by rw [e2, er, List.append_assoc]⟩, fun x hx => ?_⟩
    rcases List.mem_cons.mp hx with rfl | hx
    · rw [e2]
      exact List.mem_append_left _ a3
    · exact b3 x hx
theorem near_rg {n : Nat} {nr : Near} (h : NOk n nr) (j : Nat) : ∀ x ∈ nr.getD j [], 0 ≤ x ∧ x < n := fun x hx => by
  rw [List.getD_eq_getElem?_getD] at hx
  cases e : nr[j]? with
  | none => rw [e] at hx; cases hx
  | some y =>
    rw [e] at hx
    exact h.2 y (List.mem_of_getElem? e) x hx
def CloE (nr : Near) (k : Nat) (f : List Int) : Prop := ∀ (i : Nat) (p : Int), i < k → f[i]? = some p → ∀ x ∈ nr.getD p.toNat [], x ∈ f
theorem bfsE_ok {N : Nat} {nr : Near} (hn : NOk N nr) : ∀ (n k : Nat) (f : List Int), EOk N f → k ≤ f.length → N ≤ n + k → CloE nr k f → EOk N (bfsE nr n k f) ∧ CloE nr (bfsE nr n k f).length (bfsE nr n k f) ∧ ∃ r, bfsE nr n k f = f ++ r
  | 0, k, f, h, hk, hl, hc => by
    have := h.len
    have e : k = f.length := by omega
    exact ⟨h, e ▸ hc, [], (List.append_nil _).symm⟩
  | n + 1, k, f, h, hk, hl, hc => by
    unfold bfsE
    cases e : f[k]? with
    | none =>
      have : f.length ≤ k := List.getElem?_eq_none_iff.mp e
      have e2 : k = f.length := by omega
      exact ⟨h, e2 ▸ hc, [], (List.append_nil _).symm⟩
    | some p =>
      have kl := (List.getElem?_eq_some_iff.mp e).1
      obtain ⟨a, ⟨r, er⟩, c⟩ := foldE_ok (l := nr.getD p.toNat []) h (near_rg hn _)
      obtain ⟨b1, b2, r2, e2⟩ := bfsE_ok hn n (k + 1) _ a (by rw [er, List.length_append]; omega) (by omega) (fun i q hi hq x hx => by
        by_cases hik : i < k
        · rw [er, List.getElem?_append_left (by omega)] at hq
          rw [er]
          exact List.mem_append_left _ (hc i q hik hq x hx)
        · have hik : i = k := by omega
          subst hik
          rw [er, List.getElem?_append_left kl, e] at hq
          cases hq
          exact c x hx)
      refine ⟨b1, b2, r ++ r2, ?_⟩
      show bfsE nr n (k + 1) _ = _
      rw [e2, er, List.append_assoc]
theorem lasts_mem {m : Mch} {i : Int} : i ∈ lasts m m.length ↔ 0 ≤ i ∧ i < m.length ∧ lst? m i = true := by
  unfold lasts
  rw [List.mem_map]
  refine ⟨fun ⟨j, hj, e⟩ => ?_, fun h => ⟨i.toNat, List.mem_filter.mpr ⟨List.mem_range.mpr (by omega), ?_⟩, by omega⟩⟩
  · rw [List.mem_filter, List.mem_range] at hj
    subst e
    exact ⟨by omega, by omega, hj.2⟩
  · show lst? m ((i.toNat : Nat) : Int) = true
    rw [show ((i.toNat : Nat) : Int) = i from by omega]
    exact h.2.2
theorem lasts_ok (m : Mch) : EOk m.length (lasts m m.length) := ⟨nd_map (fun a b h => by omega) (List.Nodup.sublist List.filter_sublist List.nodup_range), fun x hx => by
  have := lasts_mem.mp hx
  exact ⟨this.1, this.2.1⟩⟩
theorem rch_rg {m : Mch} (w : WF m) {i j : Int} (r : Rch m i j) (h : 0 ≤ i ∧ i < m.length) : 0 ≤ j ∧ j < m.length := by
  cases r with
  | refl => exact h
  | step _ hs =>
    obtain ⟨q, hq, _, hp⟩ := mvs_mem hs
    exact w.to q hq _ hp
theorem rch_end {m : Mch} (w : WF m) {f : List Int} (hc : CloE (nearK m m.length) f.length f) {i j : Int} (r : Rch m i j) : 0 ≤ i ∧ i < m.length → j ∈ f → i ∈ f := by
  induction r with
  | refl => exact fun _ h => h
  | @step j k s r hs ih =>
    intro hi hk
    have hj := rch_rg w r hi
    refine ih hi ?_
    obtain ⟨n, hn, en⟩ := List.getElem_of_mem hk
    have b := (near_ok w m.length (Nat.le_refl _)).2 j.toNat (by omega) (s, k) (by rw [show ((j.toNat : Nat) : Int) = j from by omega]; exact hs)
    rw [show ((j.toNat : Nat) : Int) = j from by omega] at b
    exact hc n k hn (by rw [List.getElem?_eq_getElem hn, en]) _ b
theorem end_ok {m : Mch} (w : WF m) : EOk m.length (endM m) ∧ ∀ i j : Int, 0 ≤ i ∧ i < m.length → Rch m i j → lst? m j = true → i ∈ endM m := by
  obtain ⟨a, b, r, e⟩ := bfsE_ok (near_ok w m.length (Nat.le_refl _)).1 m.length 0 (lasts m m.length) (lasts_ok m) (Nat.zero_le _) (by omega) (fun n p hn => absurd hn (Nat.not_lt_zero _))
  refine ⟨a, fun i j hi hr hl => rch_end w b hr hi ?_⟩
  have hj := rch_rg w hr hi
  rw [e]
  exact List.mem_append_left _ (lasts_mem.mpr ⟨hj.1, hj.2, hl⟩)
def useful (m : Mch) : List Int := ((firstW m 0).map (·.1)).filter fun i => decide (i ∈ endM m)
/-- every state is reached, and reaches a last one -/
structure GoodM (m : Mch) : Prop where
  wf : WF m
  ne : 1 ≤ m.length
  rc : ∀ i : Int, 0 ≤ i ∧ i < m.length → Rch m 0 i ∧ ∃ j, Rch m i j ∧ lst? m j = true
theorem useful_len {m : Mch} (g : GoodM m) : (useful m).length = m.length := by
  have h0 : (0 : Int) ≤ 0 ∧ (0 : Int) < m.length := ⟨by omega, by have := g.ne; omega⟩
  obtain ⟨a, b⟩ := first_ok g.wf h0
  obtain ⟨c, d⟩ := end_ok g.wf
  have e : useful m = (firstW m 0).map (·.1) := by
    unfold useful
    refine List.filter_eq_self.mpr fun i hi => decide_eq_true ?_
    obtain ⟨p, hp, rfl⟩ := List.mem_map.mp hi
    obtain ⟨_, j, hj, hl⟩ := g.rc _ (a.rg p hp)
    exact d _ j (a.rg p hp) hj hl
  rw [e]
  have l1 := a.len
  have l2 := nd_len (l := ups m.length) (k := (firstW m 0).map (·.1)) (ups_nd _) fun i hi => b i (g.rc i (ups_mem.mp hi)).1
  rw [ups_len] at l2
  rw [List.length_map] at *
  omega
end Mk

set_option Elab.async false
set_option linter.all false
set_option maxRecDepth 100000
set_option maxHeartbeats 2000000
/-! zip of a tuple and a list, in either order; enumerate of a tuple -/
namespace Mk
open PySem PySem.Spec PyProof.Rows L2

/-- a list or a tuple -/
inductive Kd | l | t
def Kd.seq (k : Kd) (K : PySem.W.Frag) (H : Hp) (a : Addr) (xs : List V) : Prop := match k with
  | .l => SqL K H a xs
  | .t => SqT K H a xs
def Kd.it (k : Kd) (h : Heap) (i a : Addr) (n : Nat) : Prop := match k with
  | .l => h.IsListIter i a n
  | .t => h.IsTupleIter i a n
def Kd.is (k : Kd) (h : Heap) (a : Addr) (us : Array Value) : Prop := match k with
  | .l => h.IsList a us
  | .t => h.IsTuple a us
def Kd.obj (k : Kd) (a : Addr) : Obj := match k with
  | .l => { cls := .type "list_iterator", data := .fields #[.ref a, .int 0 0] }
  | .t => { cls := .type "tuple_iterator", data := .fields #[.ref a, .int 0 0] }
section
variable {X : Cx} {pins : List (Addr × Obj)} {σ : L2.St} {H : Hp} {s : Shared} {a b : Addr} {xs ys : List V} {k k1 k2 : Kd}
theorem Kd.at_ (I : Inv X pins σ H s) (h : k.seq X.K H a xs) : ∃ us : Array Value, k.is s.heap a us ∧ us.size = xs.length ∧ ∀ (i : Nat) (x : V), xs[i]? = some x → ∃ u, us[i]? = some u ∧ RelV x u := by
  cases k with
  | l =>
    obtain ⟨its, rv, p, hz⟩ := I.list h
    refine ⟨its.toArray, p.isList, by rw [List.size_toArray, ← rv.length], fun i x hx => ?_⟩
    obtain ⟨u, hu, ru⟩ := rv.get hx
    exact ⟨u, by simpa using hu, ru⟩
  | t =>
    obtain ⟨its, rv, p, hz⟩ := I.tuple h
    refine ⟨its.toArray, p, by rw [List.size_toArray, ← rv.length], fun i x hx => ?_⟩
    obtain ⟨u, hu, ru⟩ := rv.get hx
    exact ⟨u, by simpa using hu, ru⟩
theorem Kd.inj (I : Inv X pins σ H s) (h : k.seq X.K H a xs) (g : k.seq X.K H a ys) : xs = ys := by
  cases k with
  | l => exact I.list_inj h g
  | t => exact I.tuple_inj h g
theorem Kd.lt {h : Heap} {us : Array Value} (g : k.is h a us) : a < h.objs.size := by
  cases k with
  | l =>
    obtain ⟨o, e, _⟩ := id g
    exact Heap.lt_size e
  | t =>
    obtain ⟨o, e, _⟩ := id g
    exact Heap.lt_size e
theorem Kd.live {h : Heap} {i n : Nat} (g : k.it h i a n) : ∃ o, h.get? i = some o ∧ ∀ v, o.data ≠ .cell v := by
  cases k with
  | l =>
    obtain ⟨o, e, _, d⟩ := id g
    exact ⟨o, e, fun v q => by rw [d] at q; cases q⟩
  | t =>
    obtain ⟨o, e, _, d⟩ := id g
    exact ⟨o, e, fun v q => by rw [d] at q; cases q⟩
theorem Kd.on {h h' : Heap} {i n : Nat} (g : k.it h i a n) (e : ∀ o, h.get? i = some o → h'.get? i = some o) : k.it h' i a n := by
  cases k with
  | l =>
    obtain ⟨o, q, r⟩ := id g
    exact ⟨o, e _ q, r⟩
  | t =>
    obtain ⟨o, q, r⟩ := id g
    exact ⟨o, e _ q, r⟩
theorem Kd.draws {prog : Program} {w : World} {A : Around} (hh : A.handled = none) (k : Kd) (i a : Addr) (ne : a ≠ i) (us : Array Value) :
    Draws prog w A i [i, a] us.size (fun n v => us[n]? = some v) (fun n h => k.it h i a n ∧ k.is h a us) := by
  cases k with
  | l => exact Draws.list hh i a ne us
  | t => exact Draws.tuple hh i a ne us
theorem Kd.start {h : Heap} {i : Addr} (e : h.get? i = some (k.obj a)) : k.it h i a 0 := by
  cases k with
  | l => exact ⟨_, e, rfl, rfl⟩
  | t => exact ⟨_, e, rfl, rfl⟩
end
end Mk

set_option Elab.async false
set_option linter.all false
set_option maxRecDepth 100000
set_option maxHeartbeats 2000000
/-! enumerate of a tuple -/
namespace Mk
open PySem PySem.Spec PyProof.Rows L2

/-- each item of the list or tuple with its place, in a new pair -/
def Itn (K : PySem.W.Frag) (k : Kd) (a : Addr) : It where
  go := fun i H => ∃ (xs : List V) (x : V), k.seq K H a xs ∧ xs[i]? = some x
  yld := fun i H v H' => ∃ T x, v = .ref T ∧ H T = none ∧ H' = upd H T (.tup [.int (i : Nat), x]) ∧ ∀ xs, k.seq K H a xs → xs[i]? = some x
  stop := fun i H => ∃ xs : List V, k.seq K H a xs ∧ xs.length = i
theorem turn_n {P : Program} {w : World} {K : PySem.W.Frag} {elts : List Expr} {kk : Nat} {tpos : Pos} {k : Kd} {a e it : Addr} (ne : a ≠ it) (nae : e ≠ a) (nei : e ≠ it) :
    Turn P w K (.Tuple elts kk tpos) (Itn K k a) [e, it] e (fun i h => (∃ old, IsEnum h e it ((i : Nat) : Int) old) ∧ k.it h it a i) where
  mem := by simp
  obj := fun i h st c hc => by
    obtain ⟨⟨old, he⟩, h1⟩ := st
    simp only [List.mem_cons, List.not_mem_nil, or_false] at hc
    rcases hc with rfl | rfl
    · exact ⟨_, he, fun v q => nomatch q⟩
    · exact Kd.live h1
  keep := fun i h h' st k => by
    obtain ⟨⟨old, he⟩, h1⟩ := st
    exact ⟨⟨old, k _ (by simp) _ he⟩, Kd.on h1 fun o q => k _ (by simp) o q⟩
  item := by
    intro X hP hw hK hc i pins s σ H E I hf st hg
    subst hP hw hK
    obtain ⟨⟨old, he⟩, h1⟩ := st
    obtain ⟨xs, x, gx, hx⟩ := hg
    obtain ⟨us, u1, lu, ru⟩ := Kd.at_ I gx
    obtain ⟨u, eu, xu⟩ := ru i x hx
    have iu : i < us.size := by rw [lu]; exact (List.getElem?_eq_some_iff.mp hx).1
    have le : e < s.heap.objs.size := Heap.lt_size he
    refine wpAny_pyNext_enum_itemD (k.draws (A := X.A.in1) (I.ok.hd hc) it a ne us) he ⟨h1, u1⟩ iu nei (by simp [nei, nae]) fun p h' tk e1 ho g1 hT hsz hk => ?_
    rw [eu] at e1
    cases e1
    refine ⟨_, rfl, wpAny_letOwnedTupleGo_enum (s := { s with heap := h', toks := tk + 1 }) ho fun h2' e2 sb => ?_⟩
    have up : ∀ {c : Addr} {o : Obj}, c ≠ e → h'.get? c = some o → h2'.get? c = some o := fun {c o} n q => (sb.2 c n).trans q
    have hT2 : h2'.get? s.heap.objs.size = some { cls := .type "tuple", data := .seq #[.int i tk, u] } := up (Nat.ne_of_gt le) hT
    have ob : ObjOk X.prog X.w (upd H s.heap.objs.size (.tup [.int (i : Nat), x])) h2' s.heap.objs.size (.tup [.int (i : Nat), x]) := ⟨(by show 2 ≤ sizeLine; decide), [.int i tk, u], .cons ⟨_, rfl⟩ (.cons xu .nil), ⟨_, hT2, rfl, _, rfl⟩⟩
    have J : Inv X pins σ (upd H s.heap.objs.size (.tup [.int (i : Nat), x])) { s with heap := h2', toks := tk + 1 } := by
      refine I.turnedNew (ch := [e, it]) (fun c o hb q => ?_) hf (Nat.le_refl _) ob
      simp only [List.mem_cons, List.not_mem_nil, or_false, not_or] at hb
      exact up hb.1 (hk c o hb.1 hb.2 q)
    refine ⟨.ref s.heap.objs.size, _, J, rfl, ⟨_, x, rfl, I.hok.fresh (Nat.le_refl _), rfl, fun l hl => by rw [Kd.inj I hl gx]; exact hx⟩, ⟨⟨u, ?_⟩, Kd.on g1.1 fun o q => up nei.symm q⟩, fun c hc => ?_⟩
    · rw [show (((i + 1 : Nat) : Nat) : Int) = (i : Int) + 1 from by omega]
      exact e2
    · have lc : c < s.heap.objs.size := by
        simp only [List.mem_cons, List.not_mem_nil, or_false] at hc
        rcases hc with rfl | rfl
        · exact le
        · exact Heap.lt_size (Kd.live h1).choose_spec.1
      rw [upd_ne (Nat.ne_of_lt lc)]
      exact (hf c hc).1
  done := by
    intro X hP hw hK hc i pins s σ H E I hf st hg
    subst hP hw hK
    obtain ⟨⟨old, he⟩, h1⟩ := st
    obtain ⟨xs, gx, ix⟩ := hg
    obtain ⟨us, u1, lu, _⟩ := Kd.at_ I gx
    have ei : us.size = i := by omega
    obtain ⟨f0, f1, f2, f3, f4, f5⟩ := hf it (by simp)
    refine wpAny_pyNext_enum_endD (k.draws (A := X.A.in1) (I.ok.hd hc) it a ne us) he ⟨by rw [ei]; exact h1, u1⟩ fun h' eb => ⟨rfl, I.turned (t' := s.toks) (fun b o hb q => eb b o hb q) f0 f1 f3 f4 f5⟩
  self := fun A i s Q E st h => by
    obtain ⟨⟨_, he⟩, _⟩ := st
    exact wpAny_pyIter_enum he h
theorem meets_enumT (t : Addr) (us : Array Value) :
    Meets (Builtin.«enumerate.__new__» ⟨[.type "enumerate", .ref t], []⟩) (fun _ R s => s.heap.IsTuple t us ∧
      R (.ok (.ret (.ref (s.heap.push (Kd.obj .t t)).objs.size))) { s with heap := (s.heap.push (Kd.obj .t t)).push { cls := .type "enumerate", data := .fields #[.none, .bool false, .ref s.heap.objs.size, rawInt 0, .none, .none] } }) :=
  .of_wp fun prog w A R s h => by
    obtain ⟨hp, g, d, tk, os⟩ := s
    obtain ⟨hl, h⟩ := h
    obtain ⟨⟨c, dct, dt, sl⟩, hl0, hc, n, hd⟩ := id hl
    have hc : c = .type "tuple" := hc
    have hd : dt = .seq us n := hd
    subst hc hd
    have hsub := sub_enumerate
    have hL : Heap.IsTuple (Shared.heap ⟨hp, g, d, tk, os⟩) t us := hl
    wp_walk using AutoSeq1.wpAny_loadPart' hl0
    refine wpAny_stack_any fun st => wpAny_pure ?_
    split
    · rename_i c' _ _ _ _ _
      cases (c' == Value.type "enumerate")
      all_goals
        wp_walk using AutoSeq1.wpAny_loadPart' hl0, wpAny_pyIter_tuple hL
        exact ⟨_, rfl, h⟩
    · wp_walk using AutoSeq1.wpAny_loadPart' hl0, wpAny_pyIter_tuple hL
      exact ⟨_, rfl, h⟩
theorem call_enumT {prog : Program} {w : World} {A : Around} {E : Value → Shared → Prop} {s : Shared} {t : Addr} {us : Array Value} {Q : Value → Shared → Prop} (hL : s.heap.IsTuple t us)
    (h : ∀ h', IsEnum h' (s.heap.objs.size + 1) s.heap.objs.size 0 .none → h'.get? s.heap.objs.size = some (Kd.obj .t t) → (∀ b o, s.heap.get? b = some o → h'.get? b = some o) → Q (.ref (s.heap.objs.size + 1)) { s with heap := h' }) :
    wpAny (model prog w) A (call (.type "enumerate") [.ref t]) Q E s := by
  refine callType_new F.called_enumerate (by decide) (F.typeCall_enumerate_1 _) (F.newCall_enumerate_1 _) (fun obj => F.args_object_init_2 obj _) F.entry_enumerate_new (meets_enumT t us) ⟨hL, ?_⟩
  have hz : (s.heap.push (Kd.obj .t t)).objs.size = s.heap.objs.size + 1 := Heap.size_push ..
  have he := Heap.get?_push_size (s.heap.push (Kd.obj .t t)) (o := { cls := .type "enumerate", data := .fields #[.none, .bool false, .ref s.heap.objs.size, rawInt 0, .none, .none] }) rfl
  rw [hz] at he
  show _ ∧ _
  rw [hz]
  exact ⟨⟨_, he, rfl⟩, h _ he (Heap.get?_push_of_some _ (Heap.get?_push_size _ rfl)) fun b o x => Heap.get?_push_of_some _ (Heap.get?_push_of_some _ x)⟩
def iEnumT (K : PySem.W.Frag) (ta : TA) : TI := fun σ H R => ta σ H fun vs H1 => ∃ (a : Addr) (xs : List V), vs = [.ref a] ∧ SqT K H1 a xs ∧ R (Itn K .t a) H1
theorem pi_enumT {X : Cx} {e : Expr} {ta : TA} {p pos tpos : Pos} {elts : List Expr} {kk : Nat} (hg : Gl X "enumerate") (hm : X.mg "enumerate" = none) (ha : PA X [e] ta) (hs : starEach [e] X.env = [(false, eval e X.env)] := by rfl) :
    PI X (.Tuple elts kk tpos) (.Call (.Name "enumerate" p) [e] [] pos) (iEnumT X.K ta) := by
  refine ⟨fun pins s σ H R I h => ?_⟩
  refine Call_ (ld_blt I hg hm boot_enumerate (PyProof.Rows.callWith_type1 (thn (ha.run pos pins s σ H _ I h) fun us s1 ⟨vs, H1, I1, r1, q1⟩ => ?_) hs rfl))
  obtain ⟨a, xs, rfl, gx, q⟩ := q1
  cases r1 with
  | cons r rr =>
  cases rr
  cases r
  obtain ⟨us, u1, _⟩ := Kd.at_ (k := .t) I1 gx
  have la := Kd.lt (k := .t) u1
  refine call_enumT u1 fun h' he hit hk => wpAny_pyIter_enum he ?_
  have I2 : Inv X pins σ H1 { s1 with heap := h' } := I1.kept (t' := s1.toks) hk
  have n1 : (a : Nat) ≠ s1.heap.objs.size := Nat.ne_of_lt la
  have n2 : (s1.heap.objs.size + 1 : Nat) ≠ a := Nat.ne_of_gt (Nat.lt_succ_of_lt la)
  refine ⟨s1.heap.objs.size + 1, [s1.heap.objs.size + 1, s1.heap.objs.size], _, _, H1, rfl, I2, turn_n (k := .t) (a := a) (it := s1.heap.objs.size) n1 n2 (Nat.succ_ne_self _), ⟨⟨.none, he⟩, Kd.start (k := .t) hit⟩, fun c hc => ?_, q⟩
  have hle : s1.heap.objs.size ≤ c := by
    simp only [List.mem_cons, List.not_mem_nil, or_false] at hc
    rcases hc with rfl | rfl
    · exact Nat.le_add_right _ 1
    · exact Nat.le_refl _
  exact I1.fpOk hle (I1.hok.fresh hle)
section
variable {K : PySem.W.Frag} {a b : Addr} {xs ys : List V} {k k1 k2 : Kd}
theorem walk_n : Walk (Itn K k a) xs.length (fun H => k.seq K H a xs) (fun i H v H' => ∃ T x, v = .ref T ∧ H T = none ∧ H' = upd H T (.tup [.int (i : Nat), x]) ∧ xs[i]? = some x) :=
  ⟨fun i H hi h => ⟨xs, _, h, List.getElem?_eq_getElem hi⟩, fun H h => ⟨xs, h, rfl⟩, fun i H v H' hi h ⟨T, x, e1, e2, e3, e4⟩ => ⟨T, x, e1, e2, e3, e4 _ h⟩⟩
end
end Mk

set_option Elab.async false
set_option linter.all false
set_option maxRecDepth 100000
set_option maxHeartbeats 2000000
/-! raise TooMany(e): an own class over OverflowError, whose __init__ calls super().__init__ and stores one field -/
namespace Mk
open PySem PySem.Spec L2 PyProof.Rows PySem.W

section
open Builtin Builtin.ObjectAttr
variable {prog : Program} {w : World} {A : Around} {E : Value → Shared → Prop} {hp : Heap} {g : Array GenState} {d : Drawn} {t : Nat} {os : OsState}
end

section
variable {prog : Program} {w : World} {A : Around} {K : Frag} {mg : Str → Option Value} {C : Addr} {hp : Heap} {g : Array GenState} {dr : Drawn} {tk : Nat} {os : OsState}
end

end Mk

set_option Elab.async false
set_option linter.all false
set_option maxRecDepth 100000
set_option maxHeartbeats 4000000
namespace Mk
open PySem PySem.Spec L2 PyProof.Rows

section
variable {P : Program} {w : World} {K : PySem.W.Frag} {mg : Str → Option Value} {base : Heap}
end
end Mk

set_option Elab.async false
set_option linter.all false
set_option maxRecDepth 100000
set_option maxHeartbeats 4000000
namespace Mk
open PySem PySem.Spec L2 PyProof.Rows

section
variable {P : Program} {w : World} {K : PySem.W.Frag} {mg : Str → Option Value} {base : Heap}
end
end Mk

set_option Elab.async false
set_option linter.all false
set_option maxRecDepth 100000
set_option maxHeartbeats 4000000
namespace Mk
open PySem PySem.Spec L2 PyProof.Rows

section
variable {X : Cx} {CX : CXT} {i k : Nat} {f C : Addr} {fd : FuncData} {ps ks : List Str} {sp : Sp} {E : XK} {x : Str} {p pos : Pos} {kws : List Keyword} {tk : TA} {g : List Value → List Value → List Value} {gV : List V → List V → List V}
end

section
variable {X : Cx}
/-- name = {..} of a dict comprehension, the name a local -/
theorem ps_setDc {i : Nat} {y : Str} {py : Pos} {kx vx tg iter : Expr} {ifs : List Expr} {scope : Scope} {own : List (Str × Nat)} {pos spos : Pos} {wi : TI} {g : TG} {tt : TT} {tk tv : TE} (cm : X.calm = true) (nd : X.N.Nodup) (hy : X.N[i]? = some y) (lo : X.env.scope.names.lookup y = some .local)
    (sw : swapsWith (.DictComp kx vx [⟨tg, iter, ifs, 0⟩] scope pos) (some (.Name y py)) spos.line X.env = pure true) (hi : PI X tg iter wi) (ok : BlkOk X.N X.env.scope scope own)
    (hg : ∀ (s : Shared) (H : Hp) (C : Addr) (cl : List (Str × Addr)) (fr : List Addr), PG (X.blk s H scope (compEnvC scope cl C X.env) fr) tg g) (ht : ∀ (s : Shared) (H : Hp) (C : Addr) (cl : List (Str × Addr)) (fr : List Addr), PTs (X.blk s H scope (compEnvC scope cl C X.env) fr) ifs tt)
    (hk : ∀ (s : Shared) (H : Hp) (C : Addr) (cl : List (Str × Addr)) (fr : List Addr), PE (X.blk s H scope (compEnvC scope cl C X.env) fr) kx tk) (hv : ∀ (s : Shared) (H : Hp) (C : Addr) (cl : List (Str × Addr)) (fr : List Addr), PE (X.blk s H scope (compEnvC scope cl C X.env) fr) vx tv)
    (fs : ∀ x, foldedSetIterable iter X.env x = pure x := by intro _; rfl) : PS X (.Assign [.Name y py] (.DictComp kx vx [⟨tg, iter, ifs, 0⟩] scope pos) spos) (tAsg (tDc wi g tt tk tv (own.map (·.2))) (gName i)) := by
  refine ⟨fun pins s σ H D I h => ?_⟩
  rw [exec_Assign_Name_used _ _ _ _ sw]
  refine wpAny_bind (wpAny_standAt (wpAny_bind ?_))
  show wpAny _ X.A (do let _ ← comprehension (.DictComp kx vx [⟨tg, iter, ifs, 0⟩] scope pos) scope X.env (firstIterPos [⟨tg, iter, ifs, 0⟩] pos) newDict false (eval iter X.env) (some (assign (.Name y py) X.env))) _ _ s
  have h2 : tDc wi g tt tk tv (own.map (·.2)) σ H (fun x H1 => gName i x σ H1 D.nx) := h
  refine wpAny_bind (thn (dc_core (Qf := fun _ s' => SP X pins D .next s') cm nd I hi ok hg ht hk hv fs h2 fun L C s' m H' J q hn f => ?_) fun _ s' z => wpAny_pure (wpAny_pure z))
  show wpAny _ _ (assign (.Name y py) X.env (.ref L)) _ _ _
  refine wpAny_assign_Name (store_ok2 (v := V.ref L) J nd hy (.inl lo) rfl (fun s2 J2 ⟨a, sb, ha⟩ => ?_) (.inr lo))
  obtain ⟨f0, f1, f2, f3, f4, f5⟩ := f
  have ne : C ≠ a := ha.elim (fun z => z ▸ f1) fun z e => f4 y a z e.symm
  exact ⟨m, hn.sameBut sb ne, fun h3 sb3 => ⟨_, H', J2.turned (t' := s2.toks) (fun b o hb e => (sb3.2 b hb).trans e) f0 f1 f3 f4 f5, q⟩⟩
end
/-! ### even tables -/
section
variable {P : Program} {w : World} {K : PySem.W.Frag} {mg : Str → Option Value} {base : Heap}
end
end Mk

set_option Elab.async false
set_option linter.all false
set_option maxRecDepth 100000
set_option maxHeartbeats 4000000
namespace Mk
open PySem PySem.Spec L2 PyProof.Rows

section
variable {P : Program} {w : World} {K : PySem.W.Frag} {mg : Str → Option Value} {base : Heap}
end
end Mk

set_option Elab.async false
set_option linter.all false
set_option maxRecDepth 100000
set_option maxHeartbeats 4000000
namespace Mk
open PySem PySem.Spec L2 PyProof.Rows

section
variable {P : Program} {w : World} {K : PySem.W.Frag} {mg : Str → Option Value} {base : Heap}
end
end Mk

set_option Elab.async false
set_option linter.all false
set_option maxRecDepth 100000
set_option maxHeartbeats 4000000
namespace Mk
open PySem PySem.Spec L2 PyProof.Rows

section
variable {P : Program} {w : World} {K : PySem.W.Frag} {mg : Str → Option Value} {base : Heap}
end
end Mk

set_option Elab.async false
set_option linter.all false
set_option maxRecDepth 100000
set_option maxHeartbeats 4000000
namespace Mk
open PySem PySem.Spec L2 PyProof.Rows

/-! ### a table with another price, or with one less -/
section
variable {α : Type} [DecidableEq α]
end
/-! ### the three tables stay alike -/
end Mk

set_option Elab.async false
set_option linter.all false
set_option maxRecDepth 100000
set_option maxHeartbeats 4000000
namespace Mk
open PySem PySem.Spec L2 PyProof.Rows

/-- a def of the class that is read as a property -/
abbrev tb (a b c : Addr) : List (Key × V) := [(Sum.inr ("put" : Str), V.ref a), (Sum.inr ("out" : Str), V.ref b), (Sum.inr ("swap" : Str), V.ref c)]
section
variable {P : Program} {w : World} {K : PySem.W.Frag} {mg : Str → Option Value} {base : Heap}
end
end Mk

set_option Elab.async false
set_option linter.all false
set_option maxRecDepth 100000
set_option maxHeartbeats 4000000
/-! a class's own len, in, str, == and != -/
namespace Mk
open PySem PySem.Spec L2 PyProof.Rows

/-- the def g of the class at C under this name -/
structure OwnD (K : PySem.W.Frag) (C g : Addr) (name : Str) : Prop where
  find : PySem.W.findIn K (.ref C) name = some (some (.ref g))
  fn : PySem.W.isFn K (.ref g) = true
/-- it, with its promise -/
structure OwnF (X : Cx) (C : Addr) (n : Nat) (name : Str) (ps : List Str) (sp : Sp) : Prop where
  ex : ∃ (g : Addr) (fd : FuncData), OwnD X.K C g name ∧ FnOk X.prog X.w X.K X.mg X.base CX0 n g fd ps sp ∧ Binds X.K fd ps []
section
variable {X : Cx} {n : Nat} {C g : Addr} {fd : FuncData} {ps : List Str} {sp : Sp} {pins : List (Addr × Obj)} {σ : L2.St} {H : Hp} {s : Shared} {name : Str} {Q : VK}
theorem own_run (F : FnOk X.prog X.w X.K X.mg X.base CX0 n g fd ps sp) (hb : Binds X.K fd ps []) {A : Around} (sb : Sub X n A) (I : Inv X pins σ H s) {vs : List V} {us : List Value} (r : Vals vs us) (hsp : sp vs H Q (fun _ _ _ => False)) :
    wpAny (model X.prog X.w) A (call (.ref g) us) (fun v s' => ∃ x H', Inv X pins σ H' s' ∧ RelV x v ∧ Q x H') X.xe s := by
  have e1 := I.env0
  have e0 : Env0 X.prog X.w X.K X.mg X.base A X.stack s H := ⟨sb.fr.trans e1.frames, e1.mod, e1.bs, e1.bsz, e1.funs, e1.frf, e1.hok, e1.bare⟩
  have lu : us.length = ps.length := r.length.symm.trans (F.len _ _ _ _ hsp)
  have bd := hb s us I.kIn (by simpa using lu)
  rw [List.append_nil] at bd
  refine wpAny_call (codeAny_mono (F.run A X.stack s H ⟨us, []⟩ us vs Q _ sb.room e0 bd r hsp) fun res s' z => ?_)
  match res, z with
  | .error e, z => exact pass0 pins σ H s e s' I z
  | .ok (.ret u), z => exact I.after z
  | .ok .next, z => exact z.elim
  | .ok .brk, z => exact z.elim
  | .ok .cont, z => exact z.elim
theorem sub_1 {A : Around} (hr : Room (n + 1) X.A) : Sub X n X.A.in1 := ⟨hr.in1, rfl⟩
/-- x in o -/
def rInOwn (C : Addr) (sp : Sp) : R2 := fun x y H Q => ∃ a dx fs, y = .ref a ∧ H a = some (.ins C dx fs) ∧ sp [.ref a, x] H (fun v H' => ∃ b, v = .bl b ∧ Q v H') (fun _ _ _ => False)
theorem op_in_own (O : OwnF X C n "__contains__" ps sp) (hr : Room n X.A) : OpR X (compareOp .In) (rInOwn C sp) := by
  intro pins s σ H x y v u Q I rx ry h
  obtain ⟨a, dx, fs, rfl, ha, h⟩ := h
  obtain rfl : u = Value.ref a := ry
  obtain ⟨g, fd, D, F, hb⟩ := O.ex
  obtain ⟨mA, J, _⟩ := ins_get I.hok ha
  obtain ⟨od, J, _⟩ := J.look
  obtain ⟨m, hF⟩ := I.fr
  refine PySem.W.in_K hF I.ok.mod.kin J D.find D.fn (wpAny_mono (own_run (vs := [.ref a, x]) F hb ⟨hr, rfl⟩ I (.cons rfl (.cons rx .nil)) h) (fun w s' z => ?_) fun _ _ z => z)
  obtain ⟨x', H', I', rx', b, rfl, q⟩ := z
  obtain rfl : w = Value.bool b := rx'
  exact wpAny_truthy_bool ⟨.bl b, H', I', rfl, q⟩
/-- the kind of what stands on the right of o == .. -/
inductive Rgt (K : PySem.W.Frag) (C : Addr) (H : Hp) : V → Prop where
  | ins {b dx : Addr} {fs : List (Str × V)} : H b = some (.ins C dx fs) → Rgt K C H (.ref b)
  | lst {b : Addr} {xs : List V} : H b = some (.lst xs) → PySem.W.subIn K (.type "list") (.ref C) = some false → Rgt K C H (.ref b)
  | int (i : Int) : PySem.W.subIn K (.type "int") (.ref C) = some false → Rgt K C H (.int i)
def rEqOwn (X : Cx) (C : Addr) (sp : Sp) : R2 := fun x y H Q => ∃ a dx fs, x = .ref a ∧ H a = some (.ins C dx fs) ∧ Rgt X.K C H y ∧ sp [.ref a, y] H (fun v H' => ∃ b, v = .bl b ∧ Q v H') (fun _ _ _ => False)
theorem Rgt.looks {M : Model} {y : V} {u : Value} (h : Rgt X.K C H y) (I : Inv X pins σ H s) (r : RelV y u) : ∃ tb, PySem.W.Looks M s.heap (typeOf u) tb ∧ PySem.W.notFirst X.K C tb = true := by
  cases h with
  | ins e =>
    obtain rfl := r
    obtain ⟨mB, J, _⟩ := ins_get I.hok e
    obtain ⟨od, J, _⟩ := J.look
    exact ⟨_, J.type, by simp [PySem.W.notFirst]⟩
  | lst e hs =>
    obtain rfl := r
    obtain ⟨z, its, k, r, e⟩ := I.hok _ _ e
    refine ⟨.type "list", fun A Q E s2 kp q => wpAny_typeOf_ref (kp _ _ e) q, ?_⟩
    unfold PySem.W.notFirst
    rw [hs]
    simp
  | int i hs =>
    obtain ⟨t, rfl⟩ := r
    refine ⟨.type "int", fun A Q E s2 kp q => wpAny_pure q, ?_⟩
    unfold PySem.W.notFirst
    rw [hs]
    simp
theorem op_eq_own (O : OwnF X C n "__eq__" ps sp) (hr : Room n X.A) : OpR X (compareOp .Eq) (rEqOwn X C sp) := by
  intro pins s σ H x y v u Q I rx ry h
  obtain ⟨a, dx, fs, rfl, ha, hy, h⟩ := h
  obtain rfl : v = Value.ref a := rx
  obtain ⟨g, fd, D, F, hb⟩ := O.ex
  obtain ⟨mA, J, _⟩ := ins_get I.hok ha
  obtain ⟨od, J, _⟩ := J.look
  obtain ⟨m, hF⟩ := I.fr
  obtain ⟨tb, hl, hn⟩ := hy.looks (M := model X.prog X.w) I ry
  refine PySem.W.cmp_K (op := .Eq) hr.units0 hF I.ok.mod.kin J hl hn D.find D.fn (wpAny_mono (own_run (vs := [.ref a, y]) F hb ⟨hr, rfl⟩ I (.cons rfl (.cons ry .nil)) h) (fun w s' z => ?_) fun _ _ z => z)
  obtain ⟨x', H', I', rx', b, rfl, q⟩ := z
  obtain rfl : w = Value.bool b := rx'
  exact ⟨.bl b, H', I', rfl, q⟩
/-- what != of an own == leans on -/
structure NeD (K : PySem.W.Frag) (C : Addr) : Prop where
  find : PySem.W.findIn K (.ref C) "__ne__" = some (some (.builtin "object.__ne__"))
  obj : PySem.W.mroIn K C (.type "object") = some true
theorem run_ne (O : OwnF X C n "__eq__" ps sp) (hr : Room (n + 1) X.A) {a dx : Addr} {fs : List (Str × V)} {y : V} {u : Value} (ne : NeD X.K C) (I : Inv X pins σ H s) (ha : H a = some (.ins C dx fs)) (ry : RelV y u) (h : sp [.ref a, y] H (fun v H' => ∃ b, v = .bl b ∧ Q (.bl (!b)) H') (fun _ _ _ => False)) :
    wpAny (model X.prog X.w) X.A (tryCompare (.ref a) "__ne__" u) (fun r s' => ∃ x H' v, r = some v ∧ Inv X pins σ H' s' ∧ RelV x v ∧ Q x H' ∧ ∃ b, v = .bool b) X.xe s := by
  obtain ⟨g, fd, D, F, hb⟩ := O.ex
  obtain ⟨mA, J, _⟩ := ins_get I.hok ha
  obtain ⟨od, J, _⟩ := J.look
  have body : wpAny (model X.prog X.w) X.A.in1 (Builtin.«object.__ne__» ⟨[.ref a, u], []⟩) (fun fin s' => ∃ b H', fin = .done (.ret (.bool (!b))) ∧ Inv X pins σ H' s' ∧ Q (.bl (!b)) H') X.xe s := by
    unfold Builtin.«object.__ne__»
    refine wpAny_bind (m := slotArgs "__ne__" 1 _) (wpAny_pure ?_)
    refine wpAny_bind (m := cRoomFor _ _) (wpAny_cRoomFor hr.in1.units0 ?_)
    refine wpAny_bind (m := callSpecialIfBound? (.ref a) _ _) (PySem.W.ifBound_K I.kIn J D.find D.fn (wpAny_mono (own_run (vs := [.ref a, y]) F hb (sub_1 (A := X.A) hr) I (.cons rfl (.cons ry .nil)) h) (fun w s' z => ?_) fun _ _ z => z))
    obtain ⟨x', H', I', rx', b, rfl, q⟩ := z
    obtain rfl : w = Value.bool b := rx'
    exact wpAny_bind (wpAny_truthy_bool (wpAny_pure ⟨b, H', rfl, I', q⟩))
  unfold tryCompare
  refine wpAny_bind (m := callSpecialIfBound? (.ref a) _ _) ?_
  simp only [callSpecialIfBound?, bindSpecialIfBound?]
  refine wpAny_holding (wpAny_bind (wpAny_bind (wpAny_bind (J.type.here ((PySem.W.looks_findIn I.kIn ne.find).here ?_)))))
  refine wpAny_bind (wpAny_askSetting (wpAny_ite ?_))
  have fin : ∀ R : Option Value → Shared → Prop, (∀ b H' s', Inv X pins σ H' s' → Q (.bl (!b)) H' → R (some (.bool (!b))) s') → wpAny (model X.prog X.w) X.A (call (.builtin "object.__ne__") ([.ref a] ++ [u]) >>= fun v => pure (some v)) R X.xe s := fun R hR => by
    refine wpAny_bind (wpAny_call (codeAny_call_builtin PySem.F.slot_enumerate_ne.plain PySem.F.cmpEntry_ne (PySem.W.check_slot (i := "object.__ne__") (owner := "object") (n := "__ne__") PySem.F.cmpKind_ne PySem.F.cmpSplit_ne (J.type.andThen (PySem.W.looks_mroIn I.kIn ne.obj)) (PySem.F.cmpArgs_ne _ _) ?_)))
    refine wpAny_mono body (fun fn s' z => ?_) fun _ _ z => z
    obtain ⟨b, H', rfl, I', q⟩ := z
    exact wpAny_pure (hR b H' s' I' q)
  have last : ∀ b H' s', Inv X pins σ H' s' → Q (.bl (!b)) H' → ∃ x H'' v, some (Value.bool (!b)) = some v ∧ Inv X pins σ H'' s' ∧ RelV x v ∧ Q x H'' ∧ ∃ b, v = .bool b := fun b H' s' I' q => ⟨.bl (!b), H', _, rfl, I', rfl, q, _, rfl⟩
  split
  · refine wpAny_bind ((PySem.W.Looks.of_pure (PySem.F.slot_enumerate_ne.bind _)).here (wpAny_pure ?_))
    exact fin _ fun b H' s' I' q => wpAny_pure (last b H' s' I' q)
  · refine wpAny_tryCatch (wpAny_bind ((PySem.W.Looks.of_pure (PySem.F.slot_enumerate_ne.bind _)).here (wpAny_pure ?_)))
    exact fin _ fun b H' s' I' q => wpAny_pure (last b H' s' I' q)
def rNeOwn (X : Cx) (C : Addr) (sp : Sp) : R2 := fun x y H Q => ∃ a dx fs, x = .ref a ∧ H a = some (.ins C dx fs) ∧ Rgt X.K C H y ∧ sp [.ref a, y] H (fun v H' => ∃ b, v = .bl b ∧ Q (.bl (!b)) H') (fun _ _ _ => False)
theorem op_ne_own (O : OwnF X C n "__eq__" ps sp) (ne : NeD X.K C) (hr : Room (n + 1) X.A) : OpR X (compareOp .NotEq) (rNeOwn X C sp) := by
  intro pins s σ H x y v u Q I rx ry h
  obtain ⟨a, dx, fs, rfl, ha, hy, h⟩ := h
  obtain rfl : v = Value.ref a := rx
  obtain ⟨mA, J, _⟩ := ins_get I.hok ha
  obtain ⟨od, J, _⟩ := J.look
  obtain ⟨tb, hl, hn⟩ := hy.looks (M := model X.prog X.w) I ry
  have one := run_ne O hr ne I ha ry h
  show wpAny (model X.prog X.w) X.A (richCompare .NotEq (.ref a) u) (EP X pins σ Q) X.xe s
  unfold richCompare
  simp only [oneThing_ref]
  refine wpAny_holding (wpAny_bind (wpAny_cRoomFor hr.units0 ?_))
  refine wpAny_bind (J.type.here (wpAny_bind (hl.here ?_)))
  have fin : ∀ r s', (∃ x H' v, r = some v ∧ Inv X pins σ H' s' ∧ RelV x v ∧ Q x H' ∧ ∃ b, v = .bool b) → ∃ v, r = some v ∧ EP X pins σ Q v s' := fun r s' ⟨x, H', v, e, I', rv, q, _⟩ => ⟨v, e, x, H', I', rv, q⟩
  split
  · rename_i q
    have e : PySem.W.subIn X.K tb (.ref C) = some false := by
      rcases Bool.or_eq_true_iff.mp hn with e | e
      · rw [beq_iff_eq.mp e] at q; simp at q
      · exact beq_iff_eq.mp e
    refine wpAny_bind ((PySem.W.looks_subIn I.kIn e).here ?_)
    simp only [Bool.false_eq_true, if_false]
    refine wpAny_bind (wpAny_mono one (fun r s' z => ?_) fun _ _ e => e)
    obtain ⟨v, rfl, hq⟩ := fin _ _ z
    exact wpAny_pure hq
  · refine wpAny_bind (wpAny_pure ?_)
    simp only [Bool.false_eq_true, if_false]
    refine wpAny_bind (wpAny_mono one (fun r s' z => ?_) fun _ _ e => e)
    obtain ⟨v, rfl, hq⟩ := fin _ _ z
    exact wpAny_pure hq
end
end Mk

set_option Elab.async false
set_option linter.all false
set_option maxRecDepth 100000
set_option maxHeartbeats 1000000
namespace Mk
open PySem PySem.Spec L2 PyProof.Rows

section
variable {A : Around} {s : Shared}
end
section
variable {X : Cx}
end
section
variable {P : Program} {w : World} {K : PySem.W.Frag} {mg : Str → Option Value} {base : Heap}
end
end Mk

set_option Elab.async false
set_option linter.all false
set_option maxRecDepth 100000
set_option maxHeartbeats 4000000
namespace Mk
open PySem PySem.Spec L2 PyProof.Rows

section
variable {X : Cx}
end
section
variable {P : Program} {w : World} {K : PySem.W.Frag} {mg : Str → Option Value} {base : Heap}
end
end Mk

set_option Elab.async false
set_option linter.all false
set_option maxRecDepth 100000
set_option maxHeartbeats 4000000
namespace Mk
open PySem PySem.Spec L2 PyProof.Rows

section
variable {P : Program} {w : World} {K : PySem.W.Frag} {mg : Str → Option Value} {base : Heap}
end
end Mk

set_option Elab.async false
set_option linter.all false
set_option maxRecDepth 100000
set_option maxHeartbeats 1000000
namespace Mk
open PySem PySem.Spec L2 PyProof.Rows

/-- an own exception, made with a text -/
structure ExK (K : PySem.W.Frag) (mg : Str → Option Value) (x : Str) (C : Addr) : Prop where
  gC : mg x = some (.ref C)
  kC : PySem.W.keepIn K (.ref C) = true
  q : PySem.W.excIn K C [.type "ValueError", .type "Exception", .type "BaseException", .type "object"] "ValueError.__new__" = true
  b : PySem.W.subIn K (.ref C) (.type "BaseException") = some true
  t : PySem.W.typeIn K (.ref C) = some (.type "type")
section
variable {P : Program} {w : World} {K : PySem.W.Frag} {mg : Str → Option Value} {base : Heap}
end
end Mk

set_option Elab.async false
set_option linter.all false
set_option maxRecDepth 100000
set_option maxHeartbeats 1000000
/-! == of two tables, keys texts or pairs of texts -/
namespace Mk
open PySem PySem.Spec L2 PyProof.Rows

section
variable {κ : Type} [DecidableEq κ]
end
section
variable {X : Cx}
end
/-! ### tables of ints -/
end Mk

set_option Elab.async false
set_option linter.all false
set_option maxRecDepth 100000
set_option maxHeartbeats 1000000
/-! d.values() and d.items() as values: list(..), sorted(..), min(.., default=..) of them -/
namespace Mk
open PySem PySem.Spec PyProof.Rows L2

theorem paired_ix {α β : Type} {F : α → β → Prop} : ∀ {xs : List α} {ys : List β}, xs.length = ys.length → (∀ (j : Nat) (x : α) (y : β), xs[j]? = some x → ys[j]? = some y → F x y) → Paired F xs ys
  | [], [], _, _ => .nil
  | [], _ :: _, h, _ => nomatch h
  | _ :: _, [], h, _ => nomatch h
  | x :: xs, y :: ys, h, f => .cons (f 0 x y rfl rfl) (paired_ix (by simpa using h) fun j a b h1 h2 => f (j + 1) a b (by simpa using h1) (by simpa using h2))
/-- the pairs in the dict at a, in order -/
def RawAt (h : Heap) (a : Addr) (ps : List (V × V)) : Prop := (a == sysModules) = false ∧ ps.length ≤ sizeLine ∧ ∃ (es : Array DictEntry) (ep : Nat), DT.Raw h a es ep ∧ Paired (fun (p : V × V) (en : DictEntry) => RelV p.1 en.key ∧ RelV p.2 en.val) ps es.toList
section
variable {P : Program} {w : World} {H : Hp} {h : Heap} {a : Addr}
def psK (kvs : List (Key × V)) : List (V × V) := kvs.map fun p => (kV p.1, p.2)
def psT (qs : List Addr) (kvs : List (List Key × V)) : List (V × V) := (qs.zip kvs).map fun z => (V.ref z.1, z.2.2)
theorem rawK {kvs : List (Key × V)} (ok : HOk P w H h) (e : H a = some (.dK kvs)) : RawAt h a (psK kvs) := by
  obtain ⟨z, lo, vs, rk, o, es, ep, ho, hx, hd, hk, hp, hn⟩ := ok a _ e
  have l1 : kvs.length = vs.length := Paired.length rk
  have l2 : es.toList.length = vs.length := hp.length
  refine ⟨lo, by unfold psK; rw [List.length_map]; exact z, es, ep, ⟨o, ho, hx, hd⟩, paired_ix (by unfold psK; rw [List.length_map]; omega) fun j x en h1 h2 => ?_⟩
  unfold psK at h1
  rw [List.getElem?_map] at h1
  obtain ⟨q, hq, rfl⟩ := Option.map_eq_some_iff.mp h1
  obtain ⟨v, hv, e1, e2⟩ := paired_get rk hq
  obtain ⟨k1, v1⟩ := hp.get? (i := j) (e := en) (k := v.1) (v := v.2) h2 hv
  refine ⟨?_, by rw [v1]; exact e2⟩
  show RelV (kV q.1) en.key
  rw [e1]
  exact relV_key (show keyIs v.1 en.key = true from k1)
theorem rawT {kvs : List (List Key × V)} (ok : HOk P w H h) (e : H a = some (.dT kvs)) : ∃ qs, IsKeys H kvs qs ∧ RawAt h a (psT qs kvs) := by
  obtain ⟨z, lo, xs, rk, o, es, ep, ho, hx, hd, he, hi, hn⟩ := dt_of ok e
  have l1 : kvs.length = xs.length := Paired.length rk
  have l2 : es.toList.length = xs.length := by rw [he, List.length_map]
  refine ⟨_, isKeys_of rk, lo, ?_, es, ep, ⟨o, ho, hx, hd⟩, paired_ix ?_ fun j x en h1 h2 => ?_⟩
  · unfold psT
    rw [List.length_map, List.length_zip, List.length_map]
    omega
  · unfold psT
    rw [List.length_map, List.length_zip, List.length_map]
    omega
  unfold psT at h1
  rw [List.getElem?_map] at h1
  obtain ⟨z, hz, rfl⟩ := Option.map_eq_some_iff.mp h1
  obtain ⟨z1, z2⟩ := List.getElem?_zip_eq_some.mp hz
  rw [List.getElem?_map] at z1
  obtain ⟨x, hx1, e1⟩ := Option.map_eq_some_iff.mp z1
  obtain ⟨x', hx2, _, _, e3⟩ := paired_get rk z2
  have : x' = x := Option.some.inj (hx2.symm.trans hx1)
  subst this
  rw [he, List.getElem?_map, hx1] at h2
  have e4 : entryOfKey (tupleKind (mixKind P w)) x' = en := Option.some.inj h2
  subst e4
  refine ⟨?_, e3⟩
  show RelV (V.ref z.1) (.ref x'.2.1)
  rw [← e1]
  rfl
end
/-- the view d.values() at p -/
def valuesO (p d : Addr) : HO := .ext fun h => h.IsValuesView p d
def IsDct (H : Hp) (a : Addr) : Prop := (∃ kvs, H a = some (.dK kvs)) ∨ ∃ kvs, H a = some (.dT kvs)
theorem IsDct.raw {P : Program} {w : World} {H : Hp} {h : Heap} {a : Addr} (ok : HOk P w H h) (d : IsDct H a) : (a == sysModules) = false ∧ ∃ (es : Array DictEntry) (ep : Nat), DT.Raw h a es ep := by
  rcases d with ⟨kvs, e⟩ | ⟨kvs, e⟩
  · obtain ⟨lo, _, es, ep, r, _⟩ := rawK ok e
    exact ⟨lo, es, ep, r⟩
  · obtain ⟨qs, _, lo, _, es, ep, r, _⟩ := rawT ok e
    exact ⟨lo, es, ep, r⟩
section
variable {X : Cx}
def rVals : V → List V → Hp → VK → Prop := fun x xs H Q => ∃ a, x = .ref a ∧ xs = [] ∧ IsDct H a ∧ ∀ p, H p = none → Q (.ref p) (upd H p (valuesO p a))
def rItms : V → List V → Hp → VK → Prop := fun x xs H Q => ∃ a, x = .ref a ∧ xs = [] ∧ IsDct H a ∧ ∀ p, H p = none → Q (.ref p) (upd H p (DX.itemsO p a))
theorem mt_vals : MtR X "dict.values" rVals := by
  intro pins s σ H x xs v us Q I rx rxs h
  obtain ⟨a, rfl, rfl, hd, q⟩ := h
  cases rx
  cases rxs
  obtain ⟨lo, es, ep, r⟩ := hd.raw I.hok
  obtain ⟨o, ho, hx, hdt⟩ := r
  refine call_meetsIn PySem.F.slot_dict_values ⟨o, ho, hx.1⟩ PySem.F.entry_dict_values (PySem.F.args_dict_values_1 _) (meets_dict_values_raw a lo) ⟨⟨es, ep, o, ho, hx, hdt⟩, ?_⟩
  have hf : H s.heap.objs.size = none := I.hok.fresh (Nat.le_refl _)
  have at_ : (s.heap.push { cls := .type "dict_values", data := .fields #[.ref a] }).get? s.heap.objs.size = some { cls := .type "dict_values", data := .fields #[.ref a] } := Heap.get?_push_size _ rfl
  exact ⟨.ref s.heap.objs.size, upd H s.heap.objs.size (valuesO s.heap.objs.size a), I.laid (t' := s.toks) (fun b u e => Heap.get?_push_of_some _ e) (Nat.le_refl _) ⟨⟨_, at_, rfl, rfl⟩, ⟨_, at_⟩, fun h1 h2 x k => let ⟨o, ho, r⟩ := x; ⟨o, k o ho, r⟩⟩, rfl, q _ hf⟩
theorem mt_itms : MtR X "dict.items" rItms := by
  intro pins s σ H x xs v us Q I rx rxs h
  obtain ⟨a, rfl, rfl, hd, q⟩ := h
  cases rx
  cases rxs
  obtain ⟨lo, es, ep, r⟩ := hd.raw I.hok
  refine DT.callItems (es := es) (ep := ep) lo r ?_
  have hf : H s.heap.objs.size = none := I.hok.fresh (Nat.le_refl _)
  exact ⟨.ref s.heap.objs.size, upd H s.heap.objs.size (DX.itemsO s.heap.objs.size a), I.laid (t' := s.toks) (fun b u e => Heap.get?_push_of_some _ e) (Nat.le_refl _) (DX.itemsO_ok (Heap.get?_push_size _ rfl)), rfl, q _ hf⟩
/-- list(d.values()) -/
theorem vals_list {pins : List (Addr × Obj)} {s : Shared} {σ : L2.St} {H : Hp} {p a : Addr} {ps : List (V × V)} {Q : VK} (hc : X.calm = true) (I : Inv X pins σ H s) (hp : H p = some (valuesO p a)) (hr : RawAt s.heap a ps) (q : ∀ l, H l = none → Q (.ref l) (upd H l (.lst (ps.map (·.2))))) :
    wpAny (model X.prog X.w) X.A (call (.type "list") [.ref p]) (EP X pins σ Q) X.xe s := by
  obtain ⟨lo, hz, es, ep, r, pr⟩ := hr
  obtain ⟨vw, _⟩ := I.hok p _ hp
  have vw' : s.heap.IsValuesView p a := vw
  have le : ps.length = es.size := by
    have := Paired.length pr
    simpa using this
  refine PySem.W.kdl_call (KdlSrc.rawValues (r := p) (d := a) (es := es) (ep := ep)) (I.ok.hd hc) ⟨vw', r⟩ (by rw [← le]; exact hz) fun h' tk acc c hk hS it => ?_
  refine ⟨.ref s.heap.objs.size, upd H s.heap.objs.size (.lst (ps.map (·.2))), I.laid hk (Nat.le_refl _) ⟨by rw [List.length_map]; exact hz, acc.toList, c, ?_, by rw [Array.toArray_toList]; exact hS⟩, rfl, q _ (I.hok.fresh (Nat.le_refl _))⟩
  have la : acc.toList.length = acc.size := by simp
  refine paired_ix (by rw [List.length_map, la, it.1]; exact le) fun j x w h1 h2 => ?_
  rw [List.getElem?_map] at h1
  obtain ⟨z, hz1, rfl⟩ := Option.map_eq_some_iff.mp h1
  obtain ⟨hi, hv⟩ := it.2 j w (by rw [← Array.getElem?_toList]; exact h2)
  obtain ⟨en, he, _, e2⟩ := paired_get pr hz1
  have : en = es[j] := by
    rw [Array.getElem?_toList, Array.getElem?_eq_getElem hi] at he
    exact (Option.some.inj he).symm
  subst this
  rw [hv]
  exact e2
def rLstVals : List V → Hp → VK → Prop := fun xs H Q => ∃ p a, xs = [.ref p] ∧ H p = some (valuesO p a) ∧ ((∃ kvs, H a = some (.dK kvs) ∧ ∀ l, H l = none → Q (.ref l) (upd H l (.lst (kvs.map (·.2))))) ∨ ∃ kvs, H a = some (.dT kvs) ∧ ∀ l, H l = none → Q (.ref l) (upd H l (.lst (kvs.map (·.2)))))
theorem call_listVals (hc : X.calm = true) : CallR X (.type "list") rLstVals := by
  intro pins s σ H xs us Q I r h
  obtain ⟨p, a, rfl, hp, h⟩ := h
  obtain ⟨u, rfl, rx⟩ := vals1 r
  obtain rfl : u = Value.ref p := rx
  rcases h with ⟨kvs, e, q⟩ | ⟨kvs, e, q⟩
  · refine vals_list hc I hp (rawK I.hok e) fun l hl => ?_
    have e2 : (psK kvs).map (·.2) = kvs.map (·.2) := by
      unfold psK
      rw [List.map_map]
      rfl
    rw [e2]
    exact q l hl
  · obtain ⟨qs, hq, hr⟩ := rawT I.hok e
    refine vals_list hc I hp hr fun l hl => ?_
    have e2 : (psT qs kvs).map (·.2) = kvs.map (·.2) := by
      unfold psT
      rw [List.map_map]
      have : ((fun x : V × V => x.2) ∘ fun z : Addr × List Key × V => (V.ref z.1, z.2.2)) = (fun p : List Key × V => p.2) ∘ (fun z : Addr × List Key × V => z.2) := rfl
      rw [this, ← List.map_map, List.map_snd_zip (by have := Paired.length hq; omega)]
    rw [e2]
    exact q l hl
end
/-! ### list(d.items()), sorted(d.items()) -/
section
variable {P : Program} {w : World} {A : Around} {E : Value → Shared → Prop} {s : Shared} {es : Array DictEntry} {ep : Nat} {r d : Addr}
theorem listI {Q : Value → Shared → Prop} (hh : A.handled = none) (hv : s.heap.IsItemsView r d) (hm : DT.Raw s.heap d es ep) (hn : es.size ≤ sizeLine)
    (hQ : ∀ (h' : Heap) (tk : Nat) (acc : Array Value) (c : Nat) (as : List Addr), (∀ b o, s.heap.get? b = some o → h'.get? b = some o) → h'.get? s.heap.objs.size = some { cls := .type "list", dict := none, data := .seq acc c, slots := #[] } → as.length = es.size → DT.Made es s.heap.objs.size h' as → acc.toList = as.map Value.ref →
      Q (.ref s.heap.objs.size) { s with heap := h', toks := tk }) : wpAny (model P w) A (call (.type "list") [.ref r]) Q E s := by
  refine callType_codes (Q₁ := fun obj s1 => obj = .ref s.heap.objs.size ∧ s1 = { s with heap := s.heap.push { cls := .type "list", data := .seq #[] } }) PySem.F.called_list (PySem.F.typeCall_list_1 _) PySem.F.entry_list_init (code_list_new _ ⟨rfl, rfl⟩) fun obj s1 h1 => ?_
  obtain ⟨rfl, rfl⟩ := h1
  have e0 : (s.heap.push { cls := .type "list", data := .seq #[] }).get? s.heap.objs.size = some { cls := .type "list", data := .seq #[] } := Heap.get?_push_size _ rfl
  have lr : r < s.heap.objs.size := let ⟨_, ho, _⟩ := hv; Heap.lt_size ho
  have ld : d < s.heap.objs.size := hm.lt
  refine ⟨⟨_, e0, rfl⟩, PySem.F.args_list_init_2 _ _, ?_⟩
  show wpAny (model P w) A.in1.in1 (do let old ← Builtin.List.listItems (.ref s.heap.objs.size); Builtin.List.listUpdate (.ref s.heap.objs.size) (fun _ => #[]); letGo old.toList.reverse; Builtin.List.listExtendWith (.ref s.heap.objs.size) (.ref r) .none) _ _ _
  refine wpAny_bind ?_
  unfold Builtin.List.listItems
  refine wpAny_bind (wpAny_seqItems e0 rfl (wpAny_pure ?_))
  show wpAny (model P w) A.in1.in1 (updateSeq s.heap.objs.size (fun _ => #[]) >>= fun _ => letGo (#[] : Array Value).toList.reverse >>= fun _ => Builtin.List.listExtendWith (.ref s.heap.objs.size) (.ref r) .none) _ _ _
  refine wpAny_bind (wpAny_updateSeq e0 rfl (wpAny_bind (wpAny_letGo ?_)))
  have e1 := Heap.get?_update_self (Obj.mapSeq (fun _ => (#[] : Array Value))) e0 rfl
  have oth : ∀ b o, b ≠ s.heap.objs.size → s.heap.get? b = some o → ((s.heap.push { cls := .type "list", data := .seq #[] }).update s.heap.objs.size (Obj.mapSeq (fun _ => (#[] : Array Value)))).get? b = some o := fun b o hb e => (Heap.get?_update_other _ _ (Ne.symm hb)).trans (Heap.get?_push_of_some _ e)
  refine DT.extI (A := A.in1) (es := es) (ep := ep) hh (let ⟨o, ho, x⟩ := hv; ⟨o, oth r o (Nat.ne_of_lt lr) ho, x⟩) (hm.at' fun o e => oth d o (Nat.ne_of_lt ld) e) s.heap.objs.size (Nat.ne_of_gt lr) (Nat.ne_of_lt ld) .none _ e1 (fun h' tk acc c as hk hS hl hG ha => ?_) hn
  refine ⟨rfl, hQ h' tk acc c as (fun b o e => ?_) hS hl (hG.low ?_) ha⟩
  · have nb := Nat.ne_of_lt (Heap.lt_size e)
    exact hk b o nb (oth b o nb e)
  · exact Nat.le_of_lt (Heap.lt_size e1)
end
section
variable {X : Cx} {pins : List (Addr × Obj)} {s : Shared} {σ : L2.St} {H : Hp}
/-- the tuples that were made are told -/
theorem made_told {H1 : Hp} {h' : Heap} {tk : Nat} {es : Array DictEntry} {lo : Addr} {as : List Addr} {ps : List (V × V)} (I : Inv X pins σ H s) (I1 : Inv X pins σ H1 { s with heap := h', toks := tk }) (lo0 : s.heap.objs.size ≤ lo) (hG : DT.Made es lo h' as) (hl : as.length = ps.length) (hn : ∀ a ∈ as, H1 a = none)
    (pr : Paired (fun (p : V × V) (en : DictEntry) => RelV p.1 en.key ∧ RelV p.2 en.val) ps es.toList) :
    ∃ H2, Inv X pins σ H2 { s with heap := h', toks := tk } ∧ (∀ b o, H1 b = some o → H2 b = some o) ∧ Paired (fun (t : Addr) (p : V × V) => H2 t = some (.tup [p.1, p.2])) as ps := by
  have nd : as.Nodup := List.Pairwise.imp (fun h => Nat.ne_of_lt h) hG.rise
  obtain ⟨H2, I2, g, q⟩ := DX.takeT (P := fun b vs => ∃ (j : Nat) (p : V × V), as[j]? = some b ∧ ps[j]? = some p ∧ vs = [p.1, p.2]) I as H1 I1 nd fun b hb => by
    obtain ⟨j, hj⟩ := List.mem_iff_getElem?.mp hb
    have hj2 : j < ps.length := by
      obtain ⟨h1, _⟩ := List.getElem?_eq_some_iff.mp hj
      omega
    obtain ⟨en, he, r1, r2⟩ := paired_get pr (List.getElem?_eq_getElem hj2)
    obtain ⟨en', he', hg⟩ := hG.pairs j b hj
    rw [Array.getElem?_toList] at he
    have : en' = en := Option.some.inj (he'.symm.trans he)
    subst this
    refine ⟨Nat.le_trans lo0 (Nat.le_of_lt (hG.above b hb)), hn b hb, [ps[j].1, ps[j].2], ⟨j, ps[j], hj, List.getElem?_eq_getElem hj2, rfl⟩, fun H3 => ⟨(by show 2 ≤ sizeLine; decide), [en'.key, en'.val], .cons r1 (.cons r2 .nil), ⟨_, hg, rfl, 0, rfl⟩⟩⟩
  refine ⟨H2, I2, g, paired_ix hl fun j t p h1 h2 => ?_⟩
  obtain ⟨vs, ⟨i, p', i1, i2, e⟩, hH⟩ := q t (List.mem_of_getElem? h1)
  have eij : i = j := (List.getElem?_inj (List.getElem?_eq_some_iff.mp i1).1 nd).mp (i1.trans h1.symm)
  subst eij
  have : p' = p := Option.some.inj (i2.symm.trans h2)
  subst this
  rw [hH, e]
theorem refs_vals : ∀ bs : List Addr, Vals (bs.map V.ref) (bs.map Value.ref)
  | [] => .nil
  | _ :: r => .cons rfl (refs_vals r)
/-- list(d.items()) -/
theorem itms_list {p a : Addr} {ps : List (V × V)} {Q : VK} (hc : X.calm = true) (I : Inv X pins σ H s) (hp : H p = some (DX.itemsO p a)) (hr : RawAt s.heap a ps)
    (q : ∀ (H' : Hp) (l : Addr) (ts : List Addr), Same H H' → H l = none → H' l = some (.lst (ts.map V.ref)) → Paired (fun (t : Addr) (p : V × V) => H' t = some (.tup [p.1, p.2])) ts ps → Q (.ref l) H') :
    wpAny (model X.prog X.w) X.A (call (.type "list") [.ref p]) (EP X pins σ Q) X.xe s := by
  obtain ⟨lo, hz, es, ep, r, pr⟩ := hr
  obtain ⟨vw, _⟩ := I.hok p _ hp
  have vw' : s.heap.IsItemsView p a := vw
  have le : ps.length = es.size := by
    have := Paired.length pr
    simpa using this
  refine listI (es := es) (ep := ep) (I.ok.hd hc) vw' r (by rw [← le]; exact hz) fun h' tk acc c as hk hS hl hG ha => ?_
  have I1 : Inv X pins σ (upd H s.heap.objs.size (.lst (as.map V.ref))) { s with heap := h', toks := tk } := I.laid hk (Nat.le_refl _) ⟨by rw [List.length_map]; omega, acc.toList, c, by rw [ha]; exact refs_vals as, by rw [Array.toArray_toList]; exact hS⟩
  have hn0 : H s.heap.objs.size = none := I.hok.fresh (Nat.le_refl _)
  obtain ⟨H2, I2, g, tp⟩ := made_told I I1 (Nat.le_refl _) hG (by omega) (fun b hb => by
    have := hG.above b hb
    rw [upd_ne (Nat.ne_of_gt this)]
    exact I.hok.fresh (Nat.le_of_lt this)) pr
  exact ⟨.ref s.heap.objs.size, H2, I2, rfl, q H2 _ as (fun b o e => g b o (by rw [upd_ne (ne_of_none e hn0)]; exact e)) hn0 (g _ _ upd_same) tp⟩
def rLstItms : List V → Hp → VK → Prop := fun xs H Q => ∃ p a, xs = [.ref p] ∧ H p = some (DX.itemsO p a) ∧ ((∃ kvs, H a = some (.dK kvs) ∧ ∀ (H' : Hp) (l : Addr) (ts : List Addr), Same H H' → H l = none → H' l = some (.lst (ts.map V.ref)) → Paired (fun (t : Addr) (p : V × V) => H' t = some (.tup [p.1, p.2])) ts (psK kvs) → Q (.ref l) H') ∨
  ∃ kvs, H a = some (.dT kvs) ∧ ∀ (H' : Hp) (l : Addr) (ts qs : List Addr), Same H H' → H l = none → IsKeys H kvs qs → H' l = some (.lst (ts.map V.ref)) → Paired (fun (t : Addr) (p : V × V) => H' t = some (.tup [p.1, p.2])) ts (psT qs kvs) → Q (.ref l) H')
theorem call_listItms (hc : X.calm = true) : CallR X (.type "list") rLstItms := by
  intro pins s σ H xs us Q I r h
  obtain ⟨p, a, rfl, hp, h⟩ := h
  obtain ⟨u, rfl, rx⟩ := vals1 r
  obtain rfl : u = Value.ref p := rx
  rcases h with ⟨kvs, e, q⟩ | ⟨kvs, e, q⟩
  · exact itms_list hc I hp (rawK I.hok e) q
  · obtain ⟨qs, hq, hr⟩ := rawT I.hok e
    exact itms_list hc I hp hr fun H' l ts a1 a2 a3 a4 => q H' l ts qs a1 a2 hq a3 a4
end
end Mk

set_option Elab.async false
set_option linter.all false
set_option maxRecDepth 100000
set_option maxHeartbeats 1000000
/-! min(d.values(), default=e) -/
namespace Mk
open PySem PySem.Spec PyProof.Rows L2

section
variable {X : Cx}
end
end Mk

set_option Elab.async false
set_option linter.all false
set_option maxRecDepth 100000
set_option maxHeartbeats 1000000
namespace Mk
open PySem PySem.Spec L2 PyProof.Rows

section
variable {P : Program} {w : World} {K : PySem.W.Frag} {mg : Str → Option Value} {base : Heap}
theorem kvsP_snd (t : PTab) : (kvsP t).map (·.2) = (t.map (·.2)).map V.int := by
  unfold kvsP
  rw [List.map_map, List.map_map]
  rfl
theorem small_log {n : Nat} (h : n ≤ 60) : ((n : Int)).natAbs.log2 < 1920 := by
  have e : ((n : Int)).natAbs = n := by omega
  rw [e]
  by_cases z : n = 0
  · subst z
    decide
  · have := (Nat.log2_lt (k := 6) z).mpr (by omega)
    omega
theorem small_txt : ∀ {n : Nat}, n ≤ 60 → (toString ((n : Nat) : Int) : Str).length ≤ 2 := by
  intro n h
  have : ∀ n : Fin 61, (toString ((n.val : Nat) : Int) : Str).length ≤ 2 := by decide +kernel
  exact this ⟨n, by omega⟩
end
end Mk

set_option Elab.async false
set_option linter.all false
set_option maxRecDepth 100000
set_option maxHeartbeats 1000000
/-! sorted(d.items()) of a table -/
namespace Mk
open PySem PySem.Spec PyProof.Rows L2

/-- how keys are ordered, and written as data -/
structure KOrd (α : Type) [DecidableEq α] (enc : α → PyData) (le : α → α → Bool) : Prop where
  eq : ∀ a b, PyData.eqv (enc a) (enc b) = decide (a = b)
  lt : ∀ a b, (!PySem.W.dataLt (enc b) (enc a)) = le a b
  al : ∀ a b, PySem.W.alike (enc a) (enc b) = true
  dp : ∀ a, (enc a).depth ≤ 2
  tot : ∀ a b, (le a b || le b a) = true
  tr : ∀ a b c, le a b = true → le b c = true → le a c = true
  an : ∀ a b, le a b = true → le b a = true → a = b
abbrev encV {α : Type} (enc : α → PyData) (p : α × Int) : PyData := .tuple [enc p.1, .int p.2]
def leV {α : Type} [DecidableEq α] (le : α → α → Bool) (p q : α × Int) : Bool := if p.1 = q.1 then decide (p.2 ≤ q.2) else le p.1 q.1
section
variable {α : Type} [DecidableEq α] {enc : α → PyData} {le : α → α → Bool}
theorem encV_le (O : KOrd α enc le) : PySem.W.dataLe false (encV enc) = leV le := by
  funext p q
  show (!PySem.W.dataLt (encV enc q) (encV enc p)) = leV le p q
  unfold encV leV
  rw [PySem.W.dataLt_pair (O.al _ _) (by simp [PySem.W.alike]), PySem.W.dataLt_int, O.eq]
  by_cases e : p.1 = q.1
  · rw [if_pos e, if_pos (by rw [e, decide_eq_true rfl])]
    rw [Bool.eq_iff_iff]
    simp
    intro h
    have h2 : (q.2 == p.2) = true := h
    have h3 : q.2 = p.2 := by simpa using h2
    omega
  · rw [if_neg e, if_neg (by rw [decide_eq_false (fun z => e z.symm)]; decide)]
    exact O.lt _ _
theorem leV_tot (O : KOrd α enc le) (p q : α × Int) : (leV le p q || leV le q p) = true := by
  unfold leV
  by_cases e : p.1 = q.1
  · rw [if_pos e, if_pos e.symm, Bool.or_eq_true, decide_eq_true_eq, decide_eq_true_eq]
    omega
  · rw [if_neg e, if_neg fun z => e z.symm]
    exact O.tot _ _
theorem leV_tr (O : KOrd α enc le) (p q r : α × Int) (h1 : leV le p q = true) (h2 : leV le q r = true) : leV le p r = true := by
  unfold leV at *
  by_cases e1 : p.1 = q.1
  · rw [if_pos e1, decide_eq_true_eq] at h1
    by_cases e2 : q.1 = r.1
    · rw [if_pos e2, decide_eq_true_eq] at h2
      rw [if_pos (e1.trans e2), decide_eq_true_eq]
      omega
    · rw [if_neg e2] at h2
      rw [if_neg (by rw [e1]; exact e2), e1]
      exact h2
  · rw [if_neg e1] at h1
    by_cases e2 : q.1 = r.1
    · rw [if_neg (by rw [← e2]; exact e1), ← e2]
      exact h1
    · rw [if_neg e2] at h2
      have h3 := O.tr _ _ _ h1 h2
      by_cases e3 : p.1 = r.1
      · exact absurd (O.an _ _ h1 (by rw [e3]; exact h2)) e1
      · rw [if_neg e3]
        exact h3
theorem sortV_up (O : KOrd α enc le) (t : List (α × Int)) : ((t.mergeSort (leV le)).map (·.1)).Pairwise (fun a b => le a b = true) := by
  rw [List.pairwise_map]
  refine List.Pairwise.imp ?_ (List.pairwise_mergeSort (fun a b c => leV_tr O a b c) (leV_tot O) t)
  intro p q h
  unfold leV at h
  by_cases e : p.1 = q.1
  · rw [e]
    have := O.tot q.1 q.1
    simpa using this
  · rwa [if_neg e] at h
end
theorem ordK : KOrd Str PyData.str byCs where
  eq := fun a b => by
    show (a == b) = decide (a = b)
    by_cases h : a = b
    · rw [decide_eq_true h, h, beq_self_eq_true]
    · rw [decide_eq_false h, beq_eq_false_iff_ne.mpr h]
  lt := fun a b => by
    rw [PySem.W.dataLt_str]
    unfold byCs
    rw [Bool.eq_iff_iff]
    simp
  al := fun a b => by simp [PySem.W.alike]
  dp := fun a => by simp [PyData.depth]
  tot := byCs_total
  tr := byCs_trans
  an := byCs_anti
theorem each_ix {β : Type} {R : Value → β → Prop} : ∀ {as : List Addr} {t : List β}, as.length = t.length → (∀ (j : Nat) (b : Addr) (y : β), as[j]? = some b → t[j]? = some y → R (.ref b) y) → PySem.W.EachIs R (as.map Value.ref) t
  | [], [], _, _ => .nil
  | [], _ :: _, h, _ => nomatch h
  | _ :: _, [], h, _ => nomatch h
  | b :: as, y :: t, h, f => .cons (f 0 b y rfl rfl) (each_ix (by simpa using h) fun j c z h1 h2 => f (j + 1) c z (by simpa using h1) (by simpa using h2))
theorem each_refs {β : Type} {F : Addr → β → Prop} : ∀ {out : List Value} {ys : List β}, PySem.W.EachIs (fun v y => ∃ b : Addr, v = .ref b ∧ F b y) out ys → ∃ ts : List Addr, out = ts.map Value.ref ∧ Paired F ts ys
  | _, _, .nil => ⟨[], rfl, .nil⟩
  | _, _, .cons ⟨b, e, h⟩ r => by
    obtain ⟨ts, e2, h2⟩ := each_refs r
    exact ⟨b :: ts, by rw [e, e2]; rfl, .cons h h2⟩
section
variable {X : Cx}
/-- sorted of a view of items, by what the made pairs are as data -/
theorem itms_sorted {α : Type} [DecidableEq α] {enc : α → PyData} {le : α → α → Bool} (O : KOrd α enc le) {pins : List (Addr × Obj)} {s : Shared} {σ : L2.St} {H : Hp} {p a : Addr} {ps : List (V × V)} {t : List (α × Int)} {Q : VK} (hc : X.calm = true) (hu : X.A.units + 60 < cLine) (I : Inv X pins σ H s) (hp : H p = some (DX.itemsO p a)) (hr : RawAt s.heap a ps)
    (hl : ps.length = t.length) (h100 : t.length ≤ 100) (tell : ∀ (j : Nat) (x : V × V) (y : α × Int), ps[j]? = some x → t[j]? = some y → x.2 = .int y.2 ∧ ∀ (u : Value), RelV x.1 u → ∀ h : Heap, (∀ b o, s.heap.get? b = some o → h.get? b = some o) → Reads h u (enc y.1) [])
    (q : ∀ (H' : Hp) (l : Addr) (ts : List Addr) (u : List (α × Int)), Same H H' → H l = none → H' l = some (.lst (ts.map V.ref)) → u.Perm t → (u.map (·.1)).Pairwise (fun a b => le a b = true) → Paired (fun (b : Addr) (y : α × Int) => ∃ x : V × V, H' b = some (.tup [x.1, x.2]) ∧ ∃ j : Nat, ps[j]? = some x ∧ t[j]? = some y) ts u → Q (.ref l) H') :
    wpAny (model X.prog X.w) X.A (call (.builtin "sorted") [.ref p]) (EP X pins σ Q) X.xe s := by
  obtain ⟨lo, hz, es, ep, r, pr⟩ := hr
  obtain ⟨vw, _⟩ := I.hok p _ hp
  have vw' : s.heap.IsItemsView p a := vw
  have le0 : ps.length = es.size := by
    have := Paired.length pr
    simpa using this
  have lim : 100 ≤ sizeLine := by decide
  refine DT.sortedI (es := es) (ep := ep) (I.ok.hd hc) vw' r (by omega) fun h' tk as hk hlt hla hG => ?_
  have nd : as.Nodup := List.Pairwise.imp (fun h => Nat.ne_of_lt h) hG.rise
  have at0 : (h'.push { cls := .type "list", data := .seq (as.map Value.ref).toArray }).get? h'.objs.size = some (seqObj "list" (as.map Value.ref).toArray 0) := Heap.get?_push_size _ rfl
  have kb : ∀ b o, h'.get? b = some o → (h'.push { cls := .type "list", data := .seq (as.map Value.ref).toArray }).get? b = some o := fun b o e => Heap.get?_push_of_some _ e
  generalize h'.push { cls := .type "list", data := .seq (as.map Value.ref).toArray } = h2 at at0 kb ⊢
  -- what a made pair is
  have made : ∀ (j : Nat) (b : Addr), as[j]? = some b → ∃ (x : V × V) (y : α × Int) (k v : Value), ps[j]? = some x ∧ t[j]? = some y ∧ RelV x.1 k ∧ RelV x.2 v ∧ h'.get? b = some { cls := .type "tuple", data := .seq #[k, v] } := fun j b hj => by
    obtain ⟨h1, _⟩ := List.getElem?_eq_some_iff.mp hj
    have j1 : j < ps.length := by omega
    have j2 : j < t.length := by omega
    obtain ⟨en, he, r1, r2⟩ := paired_get pr (List.getElem?_eq_getElem j1)
    obtain ⟨en', he', hg⟩ := hG.pairs j b hj
    rw [Array.getElem?_toList] at he
    have : en' = en := Option.some.inj (he'.symm.trans he)
    subst this
    exact ⟨_, _, _, _, List.getElem?_eq_getElem j1, List.getElem?_eq_getElem j2, r1, r2, hg⟩
  let R : Value → α × Int → Prop := fun v y => ∃ b : Addr, v = .ref b ∧ ∃ j : Nat, as[j]? = some b ∧ t[j]? = some y
  have ev : PySem.W.EachIs R (as.map Value.ref) t := by
    exact each_ix (by omega) fun j b y h1 h2 => ⟨b, rfl, j, h1, h2⟩
  have rd : ∀ v y, R v y → ∃ bs, Reads h2 v (encV enc y) bs ∧ h'.objs.size ∉ bs := by
    rintro v y ⟨b, rfl, j, hj, hy⟩
    obtain ⟨x, y', k, u, hx, hy', r1, r2, hg⟩ := made j b hj
    have : y' = y := Option.some.inj (hy'.symm.trans hy)
    subst this
    obtain ⟨t1, t2⟩ := tell j x y' hx hy
    rw [t1] at r2
    obtain ⟨tk2, rfl⟩ := r2
    have r3 := t2 k r1 h2 fun b o e => kb b o (hk b o e)
    exact ⟨_, .tuple (kb _ _ hg) rfl rfl (.cons r3 (.cons (.int _ _) .nil)), fun z => nomatch z⟩
  refine wpAny_mono (PySem.W.list_sort_data (A := X.A.in1) (s := { s with heap := h2, toks := tk }) (enc := encV enc) (Q := fun v s' => EP X pins σ Q (.ref h'.objs.size) s') at0 ev (each_mono2 rd ev) (PySem.W.AllAlike.of fun y z => by simp [encV, PySem.W.alike, PySem.W.alikeAll, O.al]) (PySem.W.Sortable.tuples fun k => ⟨_, _, rfl⟩) (by omega) (fun k _ => ?_) fun out lo2 eo => ?_) (fun _ _ z => z) fun _ _ z => z
  · show X.A.units + 1 + 1 + (encV enc k).depth < cLine
    have d1 := O.dp k.1
    have : (encV enc k).depth ≤ 3 := by
      simp only [encV, PyData.depth, PyData.depthAll]
      omega
    omega
  rw [encV_le O] at eo
  obtain ⟨ts, rfl, tp⟩ := each_refs eo
  have lts : ts.length = t.length := by rw [← lo2, List.length_map]
  obtain ⟨c, hcc⟩ := sortedHeap_at (vs := as.map Value.ref) (out := (ts.map Value.ref).toArray) at0
  have kF : ∀ b o, b ≠ h'.objs.size → h2.get? b = some o → (sortedHeap h2 h'.objs.size (as.map Value.ref) (ts.map Value.ref).toArray).get? b = some o := fun b o hb e => (sortedHeap_old hb (Heap.lt_size e)).trans e
  have kH : ∀ b o, h'.get? b = some o → (sortedHeap h2 h'.objs.size (as.map Value.ref) (ts.map Value.ref).toArray).get? b = some o := fun b o e => kF b o (Nat.ne_of_lt (Heap.lt_size e)) (kb b o e)
  generalize sortedHeap h2 h'.objs.size (as.map Value.ref) (ts.map Value.ref).toArray = h3 at hcc kH ⊢
  have I0 : Inv X pins σ H { s with heap := h3, toks := tk } := I.kept (t' := tk) fun b o e => kH b o (hk b o e)
  have hn0 : H h'.objs.size = none := I.hok.fresh (Nat.le_of_lt hlt)
  have I1 : Inv X pins σ (upd H h'.objs.size (.lst (ts.map V.ref))) { s with heap := h3, toks := tk } := I0.take (h' := h3) (t' := tk) (fun b ob _ e => e) (I.fpOk (Nat.le_of_lt hlt) hn0) ⟨by rw [List.length_map]; omega, _, c, refs_vals ts, hcc⟩
  have hG3 : DT.Made es s.heap.objs.size h3 as := ⟨hG.rise, hG.above, fun j b h => let ⟨e, he, hg⟩ := hG.pairs j b h; ⟨e, he, kH _ _ hg⟩⟩
  obtain ⟨H2, I2, g, mt⟩ := made_told I I1 (Nat.le_refl _) hG3 (by omega) (fun b hb => by
    have l1 : b < h'.objs.size := hG.there hb
    rw [upd_ne (Nat.ne_of_lt l1)]
    exact I.hok.fresh (Nat.le_of_lt (hG.above b hb))) pr
  refine ⟨.ref h'.objs.size, H2, I2, rfl, q H2 _ ts _ (fun b o e => g b o (by rw [upd_ne (ne_of_none e hn0)]; exact e)) hn0 (g _ _ upd_same) (List.mergeSort_perm _ _) (sortV_up O t) ?_⟩
  refine Paired.mapP tp fun b y ⟨j, h1, h2⟩ => ?_
  obtain ⟨h4, _⟩ := List.getElem?_eq_some_iff.mp h1
  have j1 : j < ps.length := by omega
  obtain ⟨x, hx, e⟩ := paired_get mt h1
  exact ⟨x, e, j, hx, h2⟩
def rSortK : List V → Hp → VK → Prop := fun vs H Q => ∃ (p a : Addr) (t : PTab), vs = [.ref p] ∧ H p = some (DX.itemsO p a) ∧ H a = some (.dK (kvsP t)) ∧ t.length ≤ 100 ∧
  ∀ (H' : Hp) (l : Addr) (ts : List Addr) (u : PTab), Same H H' → H l = none → H' l = some (.lst (ts.map V.ref)) → u.Perm t → (u.map (·.1)).Pairwise (fun a b => byCs a b = true) → Paired (fun (b : Addr) (y : Str × Int) => H' b = some (.tup [.str y.1, .int y.2])) ts u → Q (.ref l) H'
theorem call_sortK (hc : X.calm = true) (hu : X.A.units + 60 < cLine) : CallR X (.builtin "sorted") rSortK := by
  intro pins s σ H xs us Q I r h
  obtain ⟨p, a, t, rfl, hp, ha, hl, q⟩ := h
  obtain ⟨u, rfl, rx⟩ := vals1 r
  obtain rfl : u = Value.ref p := rx
  have at_ : ∀ (j : Nat) (x : V × V) (y : Str × Int), (psK (kvsP t))[j]? = some x → t[j]? = some y → x = (.str y.1, .int y.2) := fun j x y h1 h2 => by
    unfold psK kvsP at h1
    rw [List.map_map, List.getElem?_map, h2] at h1
    exact (Option.some.inj h1).symm
  refine itms_sorted ordK hc hu I hp (rawK I.hok ha) (t := t) (by unfold psK kvsP; rw [List.length_map, List.length_map]) hl (fun j x y h1 h2 => ?_) fun H' l ts u a1 a2 a3 a4 a5 a6 => q H' l ts u a1 a2 a3 a4 a5 (Paired.mapP a6 fun b y ⟨x, e, j, h1, h2⟩ => ?_)
  · rw [at_ j x y h1 h2]
    refine ⟨rfl, fun u r h _ => ?_⟩
    obtain ⟨tk, rfl⟩ := r
    exact .str _ _
  · rw [e, at_ j x y h1 h2]
end
end Mk

set_option Elab.async false
set_option linter.all false
set_option maxRecDepth 100000
set_option maxHeartbeats 1000000
/-! dict(l) of a list of pairs whose first items are tuples, each there once -/
namespace Mk
open PySem PySem.Spec PyProof.Rows L2

section
variable {X : Cx}
end
end Mk

set_option Elab.async false
set_option linter.all false
set_option maxRecDepth 100000
set_option maxHeartbeats 1000000
namespace Mk
open PySem PySem.Spec L2 PyProof.Rows

/-- the signs of a text -/
def sgs (z : Str) : List Str := (cs z).map fun c => ⟨#[c]⟩
section
variable {X : Cx}
end
section
variable {P : Program} {w : World} {K : PySem.W.Frag} {mg : Str → Option Value} {base : Heap}
end
end Mk

set_option Elab.async false
set_option linter.all false
set_option maxRecDepth 100000
set_option maxHeartbeats 1000000
namespace Mk
open PySem PySem.Spec L2 PyProof.Rows

structure Dn (mg : Str → Option Value) : Prop where
  dict : mg "dict" = none
theorem not_in_append {t : List (Str × Int)} {p : Str × Int} {r : List (Str × Int)} (h : ((t ++ p :: r).map (·.1)).Nodup) : p.1 ∉ t.map (·.1) := fun m => by
  rw [List.map_append, List.map_cons] at h
  exact (List.nodup_append.mp h).2.2 _ m _ List.mem_cons_self rfl
theorem merge_P : ∀ (b a : PTab), ((a ++ b).map (·.1)).Nodup → mergeK (kvsP a) (kvsP b) = kvsP (a ++ b)
  | [], a, _ => by rw [List.append_nil]; rfl
  | p :: b, a, h => by
    show mergeK (L2.putK (kvsP a) (Sum.inr p.1) (V.int p.2)) (kvsP b) = _
    rw [putP_new (not_in_append h)]
    have e : a ++ [(p.1, p.2)] ++ b = a ++ p :: b := by simp
    have := merge_P b (a ++ [(p.1, p.2)]) (by rw [e]; exact h)
    rw [this, e]
theorem merge_P0 {t : PTab} (h : (t.map (·.1)).Nodup) : mergeK [] (kvsP t) = kvsP t := merge_P t [] h
/-- pairs of a sign and a number, told by tuples -/
abbrev Tups (H : Hp) (ts : List Addr) (tab : PTab) : Prop := Paired (fun (t : Addr) (q : Str × Int) => H t = some (.tup [.str q.1, .int q.2])) ts tab
theorem tups_sq {K : PySem.W.Frag} {H : Hp} : ∀ {ts : List Addr} {tab : PTab}, Tups H ts tab → Paired (fun (p : Addr) (kv : Key × V) => SqT K H p [kV kv.1, kv.2]) ts (kvsP tab)
  | _, _, .nil => .nil
  | _, _, .cons h t => .cons (SqT.of h) (tups_sq t)
theorem Paired.appendP {α β : Type} {F : α → β → Prop} : ∀ {l l2 : List α} {m m2 : List β}, Paired F l m → Paired F l2 m2 → Paired F (l ++ l2) (m ++ m2)
  | _, _, _, _, .nil, h => h
  | _, _, _, _, .cons x t, h => .cons x (Paired.appendP t h)
section
variable {P : Program} {w : World} {K : PySem.W.Frag} {mg : Str → Option Value} {base : Heap}
end
end Mk

set_option Elab.async false
set_option linter.all false
set_option maxRecDepth 100000
set_option maxHeartbeats 1000000
/-! values of any kind; is one of them a change -/
namespace Mk
open PySem PySem.Spec L2 PyProof.Rows

mutual
theorem Dp.keep {K : PySem.W.Frag} {H H' : Hp} (k : Same H H') : ∀ {v : V} {d : PyData}, Dp K H v d → Dp K H' v d
  | _, _, .non => .non
  | _, _, .bl b => .bl b
  | _, _, .int i => .int i
  | _, _, .str x => .str x
  | _, _, .lst h t => .lst (k.seq h) (DpAll.keep k t)
  | _, _, .tup h t => .tup (h.imp (fun r => r.imp (k _ _) fun ⟨o, e⟩ => ⟨o, k _ _ e⟩) id) (DpAll.keep k t)
theorem DpAll.keep {K : PySem.W.Frag} {H H' : Hp} (k : Same H H') : ∀ {vs : List V} {ds : List PyData}, DpAll K H vs ds → DpAll K H' vs ds
  | _, _, .nil => .nil
  | _, _, .cons a t => .cons (Dp.keep k a) (DpAll.keep k t)
end
section
variable {K : PySem.W.Frag}
end
section
variable {P : Program} {w : World} {K : PySem.W.Frag} {mg : Str → Option Value} {base : Heap}
end
end Mk

set_option Elab.async false
set_option linter.all false
set_option maxRecDepth 100000
set_option maxHeartbeats 2000000
/-! == and != against an instance of an own class with its own ==, whose kind the other value is not -/
namespace Mk
open PySem PySem.Spec L2 PyProof.Rows

section
open AutoSeq1 (wpAny_loadPart')
variable {prog : Program} {w : World} {A : Around} {E : Value → Shared → Prop} {s : Shared} {p C : Addr} {op : Obj} {Q : Option Value → Shared → Prop}
end
end Mk

set_option Elab.async false
set_option linter.all false
set_option maxRecDepth 100000
set_option maxHeartbeats 2000000
namespace Mk
open PySem PySem.Spec L2 PyProof.Rows

section
variable {prog : Program} {w : World} {A : Around} {E : Value → Shared → Prop} {s : Shared} {K : W.Frag} {p C f : Addr} {ox : Obj} {od : Option Obj} {u : Value}
end
end Mk

set_option Elab.async false
set_option linter.all false
set_option maxRecDepth 100000
set_option maxHeartbeats 2000000
namespace Mk
open PySem PySem.Spec L2 PyProof.Rows

section
variable {X : Cx} {pins : List (Addr × Obj)} {σ : L2.St} {H : Hp} {s : Shared} {x : V} {u : Value} {T : String} {p C dx : Addr} {fs : List (Str × V)}
end

section
variable {X : Cx} {CX : CXT} {k : Nat} {C f : Addr} {fd : FuncData} {ps : List Str} {sp : Sp}
end
end Mk

set_option Elab.async false
set_option linter.all false
set_option maxRecDepth 100000
set_option maxHeartbeats 1000000
/-! is a value a change -/
namespace Mk
open PySem PySem.Spec L2 PyProof.Rows

section
variable {P : Program} {w : World} {K : PySem.W.Frag} {mg : Str → Option Value} {base : Heap}
end
end Mk

set_option Elab.async false
set_option linter.all false
set_option maxRecDepth 100000
set_option maxHeartbeats 1000000
/-! xs[a:c] = ys -/
namespace Mk
open PySem PySem.Spec PyProof.Rows L2

end Mk

set_option Elab.async false
set_option linter.all false
set_option maxRecDepth 100000
set_option maxHeartbeats 1000000
namespace Mk
open PySem PySem.Spec L2 PyProof.Rows

section
variable {X : Cx}
theorem atK0 {e : Expr} {T : String} {r : V → List V → Hp → VK → Prop} {to : TE} (K : PySem.W.Frag) (h : PE X e (tBM0 X.K T r to)) (hK : X.K = K := by rfl) : PE X e (tBM0 K T r to) := hK ▸ h
end
section
variable {P : Program} {w : World} {K : PySem.W.Frag} {mg : Str → Option Value} {base : Heap}
end
end Mk

set_option Elab.async false
set_option linter.all false
namespace Mk

/-! ### closed costs -/
section
variable {α : Type} {P : List α} {d d' c c' : α → α → Int}
end
/-! ### look and setT -/
section
variable {κ : Type} [DecidableEq κ]
end
/-! ### the rounds of the program -/
section
variable {α : Type} [DecidableEq α]
end
end Mk

set_option Elab.async false
set_option linter.all false
set_option maxRecDepth 100000
set_option maxHeartbeats 1000000
/-! the program's direct prices, as plain lists -/
namespace Mk
open PySem L2
section
variable {α : Type} [DecidableEq α]
end
/-! what stands in it -/
/-! the least costs -/
end Mk

set_option Elab.async false
set_option linter.all false
set_option maxRecDepth 100000
set_option maxHeartbeats 4000000
/-! a dict display whose keys are tuples -/
namespace Mk
open PySem PySem.Spec PyProof.Rows L2

end Mk

set_option Elab.async false
set_option linter.all false
set_option maxRecDepth 100000
set_option maxHeartbeats 1000000
/-! _direct_costs -/
namespace Mk
open PySem PySem.Spec L2 PyProof.Rows

section
variable {P : Program} {w : World} {K : PySem.W.Frag} {mg : Str → Option Value} {base : Heap}
end
end Mk

set_option Elab.async false
set_option linter.all false
set_option maxRecDepth 100000
set_option maxHeartbeats 1000000
/-! the law's words behind one change -/
namespace Mk
open PySem PySem.Spec L2 PyProof.Rows

def post (z : Str) (k : Int) : Str := cutS z (some k) none
theorem cut_len (z : Str) (lo hi : Option Int) : (cutS z lo hi).length ≤ z.length := by
  show (((z.cps.toList.drop _).take _).toArray).size ≤ z.cps.size
  rw [List.size_toArray, List.length_take, List.length_drop, Array.length_toList]
  omega
theorem post_len (z : Str) (k : Int) : (post z k).length ≤ z.length := cut_len _ _ _
section
variable {P : Program} {w : World} {K : PySem.W.Frag} {mg : Str → Option Value} {base : Heap}
end
end Mk

set_option Elab.async false
set_option linter.all false
set_option maxRecDepth 100000
set_option maxHeartbeats 1000000
/-! words near words, and the least costs through them -/
namespace Mk
open PySem L2

theorem sgs_at {z : Str} {i c : Nat} (h : z.cps[i]? = some c) : (sgs z)[i]? = some ⟨#[c]⟩ := by
  have : (cs z)[i]? = some c := by rw [← h]; simp [cs]
  unfold sgs
  rw [List.getElem?_map, this]
  rfl
theorem cs_flat (z : Str) : (sgs z).flatMap cs = cs z := by
  unfold sgs
  generalize cs z = l
  induction l with
  | nil => rfl
  | cons c l ih =>
    rw [List.map_cons, List.flatMap_cons, ih]
    rfl
theorem sgs_inj {a b : Str} (h : sgs a = sgs b) : a = b := by
  apply cs_inj
  rw [← cs_flat a, ← cs_flat b, h]
theorem sgs_length (z : Str) : (sgs z).length = z.length := by
  unfold sgs
  rw [List.length_map]
  rfl
theorem sgs_post (z : Str) (i : Nat) : sgs (post z i) = (sgs z).drop i := by
  have e : cs (post z i) = (cs z).drop i := by
    unfold post cutS
    rw [HT.sIx_none, HT.sIx_nat]
    show ((z.cps.toList.drop (min i z.length)).take (z.length - min i z.length)) = _
    have hl : z.length = z.cps.toList.length := rfl
    rw [hl]
    by_cases h : i ≤ z.cps.toList.length
    · rw [Nat.min_eq_left h, List.take_of_length_le (by rw [List.length_drop]; omega)]
    · rw [Nat.min_eq_right (by omega), List.drop_of_length_le (Nat.le_refl _), List.drop_of_length_le (l := cs z) (by show z.cps.toList.length ≤ i; omega)]
      exact List.take_nil
  unfold sgs
  rw [e, List.map_drop]
/-! changed words -/
end Mk

set_option Elab.async false
set_option linter.all false
set_option maxRecDepth 100000
set_option maxHeartbeats 1000000
/-! the steps that a row of changes tells -/
namespace Mk
open PySem PySem.Spec L2 PyProof.Rows

/-- a step: the place, the sign that goes, the sign that comes -/
abbrev St3 := Nat × Str × Str
section
variable {H0 H1 : Hp} {S L : Addr} {sg : List Str} {ts : List Addr} {st : List St3}
end
section
variable {P : Program} {w : World} {K : PySem.W.Frag} {mg : Str → Option Value} {base : Heap}
end
end Mk

set_option Elab.async false
set_option linter.all false
set_option maxRecDepth 100000
set_option maxHeartbeats 1000000
/-! words are asked for; the steps of a row that must be one; the word behind them; a change of a step -/
namespace Mk
open PySem PySem.Spec L2 PyProof.Rows

section
variable {P : Program} {w : World} {K : PySem.W.Frag} {mg : Str → Option Value} {base : Heap}
end
end Mk

set_option Elab.async false
set_option linter.all false
set_option maxRecDepth 100000
set_option maxHeartbeats 1000000
/-! some signs drawn -/
namespace Mk
open PySem PySem.Spec L2 PyProof.Rows

section
variable {P : Program} {w : World} {K : PySem.W.Frag} {mg : Str → Option Value} {base : Heap}
end
end Mk

set_option Elab.async false
set_option linter.all false
set_option maxRecDepth 100000
set_option maxHeartbeats 1000000
/-! drawn tables -/
namespace Mk
open PySem PySem.Spec L2 PyProof.Rows

section
variable {P : Program} {w : World} {K : PySem.W.Frag} {mg : Str → Option Value} {base : Heap}
end
end Mk

set_option Elab.async false
set_option linter.all false
set_option maxRecDepth 100000
set_option maxHeartbeats 1000000
/-! the prices of single changes, by what they take away and set -/
namespace Mk
open PySem PySem.Spec L2 PyProof.Rows

section
variable {t1 t2 : PTab} {t3 : STab} {ks : List Str} {ps : List (Str × Str)} {D : STab}
end
section
variable {P : Program} {w : World} {K : PySem.W.Frag} {mg : Str → Option Value} {base : Heap}
end
end Mk

set_option Elab.async false
set_option linter.all false
set_option maxRecDepth 100000
set_option maxHeartbeats 1000000
/-! the price of steps -/
namespace Mk
open PySem PySem.Spec L2 PyProof.Rows

section
variable {P : Program} {w : World} {K : PySem.W.Frag} {mg : Str → Option Value} {base : Heap}
end
end Mk

set_option Elab.async false
set_option linter.all false
set_option maxRecDepth 100000
set_option maxHeartbeats 4000000
namespace Mk
open PySem PySem.Spec PyProof.Rows L2

section
variable {prog : Program} {w : World} {A : Around} {E : Value → Shared → Prop} {s : Shared}
end
section
variable {X : Cx}
end
end Mk

set_option Elab.async false
set_option linter.all false
set_option maxRecDepth 100000
set_option maxHeartbeats 4000000
/-! xs[::-1], a list -/
namespace Mk
open PySem PySem.Spec PyProof.Rows L2
section
variable {X : Cx}
end
end Mk

set_option Elab.async false
set_option linter.all false
set_option maxRecDepth 100000
set_option maxHeartbeats 1000000
namespace Mk
open PySem PySem.Spec L2 PyProof.Rows

section
variable {α : Type} [DecidableEq α]
theorem look_perm {t u : List (α × Int)} (p : u.Perm t) (nd : (t.map (·.1)).Nodup) {k : α} (h : k ∈ t.map (·.1)) : look u k = look t k := by
  obtain ⟨q, hq, rfl⟩ := List.mem_map.mp h
  rw [look_mem nd q hq, look_mem ((p.map (·.1)).nodup_iff.mpr nd) q (p.mem_iff.mpr hq)]
theorem put_same {t u : List (α × Int)} (p : u.Perm t) (nd : (t.map (·.1)).Nodup) {zs : List α} (h : ∀ z ∈ zs, z ∈ t.map (·.1)) : put u zs = put t zs :=
  List.map_congr_left fun z hz => by rw [look_perm p nd (h z hz)]
end
section
variable {t1 t2 : PTab} {t3 : STab}
end
section
variable {C p x L a b c : Addr} {H H' : Hp} {n : Nat} {t1 t2 : PTab} {t3 : STab}
end
/-- a method of the class -/
structure Md (P : Program) (w : World) (K : PySem.W.Frag) (mg : Str → Option Value) (base : Heap) (C : Addr) (CX : CXT) (k : Nat) (m : Str) (ps : List Str) (sp : Sp) : Prop where
  ex : ∃ (g : Addr) (fd : FuncData), Meth K C m g ∧ FnOk P w K mg base CX k g fd ps sp ∧ Binds K fd ps []
end Mk

set_option Elab.async false
set_option linter.all false
set_option maxRecDepth 100000
set_option maxHeartbeats 1000000
/-! _least_costs and costs_by_ends -/
namespace Mk
open PySem PySem.Spec L2 PyProof.Rows

section
variable {P : Program} {w : World} {K : PySem.W.Frag} {mg : Str → Option Value} {base : Heap}
/-! costs_by_ends -/
end
end Mk

set_option Elab.async false
set_option linter.all false
set_option maxRecDepth 100000
set_option maxHeartbeats 1000000
/-! closed tables -/
namespace Mk
open PySem L2

section
variable {κ : Type} [DecidableEq κ]
end
section
variable {t1 t2 : PTab} {t3 : STab}
end
end Mk

set_option Elab.async false
set_option linter.all false
set_option maxRecDepth 100000
set_option maxHeartbeats 1000000
/-! closed, is_closed, is_at_most -/
namespace Mk
open PySem PySem.Spec L2 PyProof.Rows

section
variable {P : Program} {w : World} {K : PySem.W.Frag} {mg : Str → Option Value} {base : Heap}
end
end Mk

set_option Elab.async false
set_option linter.all false
set_option maxRecDepth 100000
set_option maxHeartbeats 1000000
namespace Mk
open PySem PySem.Spec L2 PyProof.Rows

theorem eqv_strs : ∀ xs ys : List Str, PyData.eqvAll (xs.map PyData.str) (ys.map PyData.str) = decide (xs = ys)
  | [], [] => rfl
  | [], _ :: _ => rfl
  | _ :: _, [] => rfl
  | x :: xs, y :: ys => by
    rw [List.map_cons, List.map_cons, PyData.eqvAll, eqv_strs xs ys]
    simp only [PyData.eqv]
    rw [Bool.eq_iff_iff]
    simp
theorem eqv_lsts (xs ys : List Str) : PyData.eqv (.list (xs.map PyData.str)) (.list (ys.map PyData.str)) = decide (xs = ys) := by
  simp only [PyData.eqv]
  exact eqv_strs xs ys
section
variable {P : Program} {w : World} {K : PySem.W.Frag} {mg : Str → Option Value} {base : Heap}
end
end Mk

set_option Elab.async false
set_option linter.all false
set_option maxRecDepth 100000
set_option maxHeartbeats 1000000
/-! changed, undone, price_of -/
namespace Mk
open PySem PySem.Spec L2 PyProof.Rows

/-- as Cd, for a def that may raise -/
structure CdX (P : Program) (w : World) (K : PySem.W.Frag) (mg : Str → Option Value) (base : Heap) (k : Nat) (x : Str) (ps : List Str) (sp : Sp) : Prop where
  ex : ∃ (f : Addr) (fd : FuncData), FnOk P w K mg base (L2.CX P w) k f fd ps sp ∧ mg x = some (.ref f) ∧ PySem.W.keepIn K (.ref f) = true ∧ Binds K fd ps []
section
variable {P : Program} {w : World} {K : PySem.W.Frag} {mg : Str → Option Value} {base : Heap}
end
end Mk

set_option Elab.async false
set_option linter.all false
set_option maxRecDepth 100000
set_option maxHeartbeats 1000000
/-! words and steps that the law draws -/
namespace Mk
open PySem PySem.Spec L2 PyProof.Rows

section
variable {P : Program} {w : World} {K : PySem.W.Frag} {mg : Str → Option Value} {base : Heap}
end
end Mk

set_option Elab.async false
set_option linter.all false
set_option maxRecDepth 100000
set_option maxHeartbeats 2000000
/-! the law's word behind a change -/
namespace Mk
open PySem PySem.Spec L2 PyProof.Rows

abbrev three : List Str := ["put", "out", "swap"]
theorem dpall_strs {K : PySem.W.Frag} {H : Hp} : ∀ xs : List Str, DpAll K H (xs.map V.str) (xs.map PyData.str)
  | [] => .nil
  | x :: xs => .cons (.str x) (dpall_strs xs)
section
variable {P : Program} {w : World} {K : PySem.W.Frag} {mg : Str → Option Value} {base : Heap}
end
end Mk

set_option Elab.async false
set_option linter.all false
set_option maxRecDepth 100000
set_option maxHeartbeats 1000000
/-! rows of changes and their ways back -/
namespace Mk
open PySem PySem.Spec L2

end Mk

set_option Elab.async false
set_option linter.all false
set_option maxRecDepth 100000
set_option maxHeartbeats 1000000
/-! rows that the law draws; the words of a row -/
namespace Mk
open PySem PySem.Spec L2 PyProof.Rows

section
variable {P : Program} {w : World} {K : PySem.W.Frag} {mg : Str → Option Value} {base : Heap}
end
end Mk

set_option Elab.async false
set_option linter.all false
set_option maxRecDepth 100000
set_option maxHeartbeats 1000000
/-! the words of a row -/
namespace Mk
open PySem PySem.Spec L2 PyProof.Rows

section
variable {P : Program} {w : World} {K : PySem.W.Frag} {mg : Str → Option Value} {base : Heap}
theorem atI_neg1 {α : Type} {xs ws : List α} {v : α} (h : xs = ws ++ [v]) : atI xs (-1) = some v := by
  rw [h]
  exact atI_last ws v
end
end Mk

set_option Elab.async false
set_option linter.all false
set_option maxRecDepth 100000
set_option maxHeartbeats 1000000
/-! zip of a list and a tuple -/
namespace Mk
open PySem PySem.Spec PyProof.Rows L2

end Mk

set_option Elab.async false
set_option linter.all false
set_option maxRecDepth 100000
set_option maxHeartbeats 1000000
/-! what a row costs, by the law; the way back, by the law -/
namespace Mk
open PySem PySem.Spec L2 PyProof.Rows

section
variable {P : Program} {w : World} {K : PySem.W.Frag} {mg : Str → Option Value} {base : Heap}
end
end Mk

set_option Elab.async false
set_option linter.all false
set_option maxRecDepth 100000
set_option maxHeartbeats 1000000
/-! the way back, by the law -/
namespace Mk
open PySem PySem.Spec L2 PyProof.Rows

section
variable {P : Program} {w : World} {K : PySem.W.Frag} {mg : Str → Option Value} {base : Heap}
end
end Mk

set_option Elab.async false
set_option linter.all false
set_option maxRecDepth 100000
set_option maxHeartbeats 1000000
/-! what a call tells -/
namespace Mk
open PySem PySem.Spec L2 PyProof.Rows

end Mk

set_option Elab.async false
set_option linter.all false
set_option maxRecDepth 100000
set_option maxHeartbeats 1000000
/-! data that repr can show, and how long their texts are -/
namespace Mk
open PySem PySem.Spec L2 PyProof.Rows

structure Shw (d : PyData) (n k : Nat) : Prop where
  s : d.showable = true
  h : d.hasDict = false
  dp : d.depth ≤ k
  l : d.shown.length ≤ n
theorem shown_all : ∀ xs : List PyData, PyData.shownAll xs = xs.map PyData.shown
  | [] => by simp only [PyData.shownAll, List.map_nil]
  | x :: xs => by simp only [PyData.shownAll, List.map_cons, shown_all xs]
theorem showable_all : ∀ {xs : List PyData}, (∀ x ∈ xs, x.showable = true) → PyData.showableAll xs = true
  | [], _ => by simp only [PyData.showableAll]
  | x :: xs, h => by
    simp only [PyData.showableAll, h x List.mem_cons_self, showable_all fun y hy => h y (List.mem_cons_of_mem _ hy), Bool.and_self]
theorem depth_all {k : Nat} : ∀ {xs : List PyData}, (∀ x ∈ xs, x.depth ≤ k) → PyData.depthAll xs ≤ k
  | [], _ => by simp only [PyData.depthAll]; exact Nat.zero_le _
  | x :: xs, h => by
    have h1 := h x List.mem_cons_self
    have h2 := depth_all fun y hy => h y (List.mem_cons_of_mem _ hy)
    simp only [PyData.depthAll]
    omega
theorem piled_le {n : Nat} : ∀ {ts : List Str}, (∀ t ∈ ts, t.length ≤ n) → piled ts ≤ ts.length * (n + 2)
  | [], _ => Nat.zero_le _
  | t :: ts, h => by
    have h1 := h t List.mem_cons_self
    have h2 := piled_le fun y hy => h y (List.mem_cons_of_mem _ hy)
    rw [piled_cons, List.length_cons, Nat.succ_mul]
    omega
theorem joined_le (ts : List Str) : (Str.join ", " ts).length ≤ piled ts := by
  by_cases h : ts = []
  · rw [h]
    decide
  · have := join_length_add ts h
    omega
section
variable {xs : List PyData} {n k : Nat}
end
theorem shw_str {z : Str} {n : Nat} (h : (reprText z).length ≤ n) : Shw (.str z) n 0 := ⟨by simp only [PyData.showable], by simp only [PyData.hasDict], by simp only [PyData.depth]; exact Nat.le_refl _, by simp only [PyData.shown]; exact h⟩
theorem shw_bool (b : Bool) : Shw (.bool b) 5 0 := by
  cases b
  · exact ⟨rfl, rfl, Nat.le_refl _, by decide⟩
  · exact ⟨rfl, rfl, Nat.le_refl _, by decide⟩
theorem shw_int {i : Int} (h0 : 0 ≤ i) (h1 : i ≤ 60) : Shw (.int i) 2 0 := by
  obtain ⟨n, rfl⟩ : ∃ n : Nat, i = (n : Int) := ⟨i.toNat, by omega⟩
  refine ⟨?_, by simp only [PyData.hasDict], by simp only [PyData.depth]; exact Nat.le_refl _, ?_⟩
  · simp only [PyData.showable]
    exact decide_eq_true (small_log (by omega))
  · simp only [PyData.shown]
    exact small_txt (by omega)
/-- a sign is one of five -/
theorem sign_in {z : Str} (h : sgB z = true) : z ∈ sgs "abcde" := by
  unfold sgB at h
  simp only [Bool.and_eq_true, decide_eq_true_eq] at h
  have hw := isW_of h.2
  have hl : (cs z).length = 1 := h.1
  obtain ⟨c, hc⟩ := List.length_eq_one_iff.mp hl
  have h2 := hw c (by rw [hc]; exact List.mem_singleton.mpr rfl)
  have ez : z = ⟨#[c]⟩ := cs_inj (by rw [hc])
  have e : sgs "abcde" = [⟨#[97]⟩, ⟨#[98]⟩, ⟨#[99]⟩, ⟨#[100]⟩, ⟨#[101]⟩] := by decide +kernel
  rw [ez, e]
  rcases (by omega : c = 97 ∨ c = 98 ∨ c = 99 ∨ c = 100 ∨ c = 101) with rfl | rfl | rfl | rfl | rfl <;> simp
theorem shw_sign {z : Str} (h : sgB z = true) : Shw (.str z) 3 0 := by
  have : ∀ z ∈ sgs "abcde", (reprText z).length ≤ 3 := by decide +kernel
  exact shw_str (this z (sign_in h))
end Mk

set_option Elab.async false
set_option linter.all false
set_option maxRecDepth 100000
set_option maxHeartbeats 1000000
/-! values that stay while tables of code grow; their texts -/
namespace Mk
open PySem PySem.Spec L2 PyProof.Rows

theorem SqL.extN {K : PySem.W.Frag} {H H' : Hp} {a : Addr} {xs : List V} (k : LamX.ExtN H H') (h : SqL K H a xs) : SqL K H' a xs := h.imp (fun r => r.imp (fun e => k _ _ e (fun _ z => nomatch z)) fun ⟨o, e⟩ => ⟨o, k _ _ e (fun _ z => nomatch z)⟩) id
theorem SqT.extN {K : PySem.W.Frag} {H H' : Hp} {a : Addr} {xs : List V} (k : LamX.ExtN H H') (h : SqT K H a xs) : SqT K H' a xs := h.imp (fun r => r.imp (fun e => k _ _ e (fun _ z => nomatch z)) fun ⟨o, e⟩ => ⟨o, k _ _ e (fun _ z => nomatch z)⟩) id
mutual
theorem Dp.extN {K : PySem.W.Frag} {H H' : Hp} (k : LamX.ExtN H H') : ∀ {v : V} {d : PyData}, Dp K H v d → Dp K H' v d
  | _, _, .non => .non
  | _, _, .bl b => .bl b
  | _, _, .int i => .int i
  | _, _, .str x => .str x
  | _, _, .lst h t => .lst (SqL.extN k h) (DpAll.extN k t)
  | _, _, .tup h t => .tup (SqT.extN k h) (DpAll.extN k t)
theorem DpAll.extN {K : PySem.W.Frag} {H H' : Hp} (k : LamX.ExtN H H') : ∀ {vs : List V} {ds : List PyData}, DpAll K H vs ds → DpAll K H' vs ds
  | _, _, .nil => .nil
  | _, _, .cons a t => .cons (Dp.extN k a) (DpAll.extN k t)
end
mutual
theorem Dp.noDict {K : PySem.W.Frag} {H : Hp} : ∀ {v : V} {d : PyData}, Dp K H v d → d.hasDict = false
  | _, _, .non => by simp only [PyData.hasDict]
  | _, _, .bl b => by simp only [PyData.hasDict]
  | _, _, .int i => by simp only [PyData.hasDict]
  | _, _, .str x => by simp only [PyData.hasDict]
  | _, _, .lst h t => by simp only [PyData.hasDict]; exact DpAll.noDict t
  | _, _, .tup h t => by simp only [PyData.hasDict]; exact DpAll.noDict t
theorem DpAll.noDict {K : PySem.W.Frag} {H : Hp} : ∀ {vs : List V} {ds : List PyData}, DpAll K H vs ds → PyData.hasDictAll ds = false
  | _, _, .nil => by simp only [PyData.hasDictAll]
  | _, _, .cons a t => by simp only [PyData.hasDictAll, Dp.noDict a, DpAll.noDict t, Bool.or_self]
end
section
variable {X : Cx}
end
end Mk

set_option Elab.async false
set_option linter.all false
set_option maxRecDepth 100000
set_option maxHeartbeats 1000000
/-! what the calls tell of a row -/
namespace Mk
open PySem PySem.Spec L2 PyProof.Rows

section
variable {K : PySem.W.Frag} {H : Hp} {Q : VK} {C CI CO x : Addr} {z : Str} {v : V} {d : PyData} {t1 t2 : PTab} {t3 : STab}
end
/-! texts of them -/
theorem canLay_all : ∀ {xs : List PyData}, (∀ x ∈ xs, x.canLay0 = true) → PyData.canLayAll0 xs = true
  | [], _ => by simp only [PyData.canLayAll0]
  | x :: xs, h => by
    simp only [PyData.canLayAll0, h x List.mem_cons_self, canLay_all fun y hy => h y (List.mem_cons_of_mem _ hy), Bool.and_self]
end Mk

set_option Elab.async false
set_option linter.all false
/-! the cost between two words by rows, as the least price of their alignments (words stand here with their last sign first) -/
namespace Mk
section
variable {α : Type} {e : α} {c d : α → α → Int}
/-! first what makes a word shorter, then what makes it longer -/
end
end Mk

set_option Elab.async false
set_option linter.all false
set_option maxRecDepth 100000
set_option maxHeartbeats 1000000
/-! enumerate of a text; the least of three numbers -/
namespace Mk
open PySem PySem.Spec PyProof.Rows L2

end Mk

set_option Elab.async false
set_option linter.all false
set_option maxRecDepth 100000
set_option maxHeartbeats 1000000
/-! _cost_rows -/
namespace Mk
open PySem PySem.Spec L2 PyProof.Rows

structure En (mg : Str → Option Value) : Prop where
  en : mg "enumerate" = none
/-! the cells -/
section
variable (c : Str → Str → Int) (su sv : List Str)
variable {c su sv}
end
section
variable {P : Program} {w : World} {K : PySem.W.Frag} {mg : Str → Option Value} {base : Heap}
end
end Mk

set_option Elab.async false
set_option linter.all false
set_option maxRecDepth 100000
set_option maxHeartbeats 1000000
/-! what is asked of words and prices; the cost between two words -/
namespace Mk
open PySem PySem.Spec L2 PyProof.Rows

section
variable {P : Program} {w : World} {K : PySem.W.Frag} {mg : Str → Option Value} {base : Heap}
end
end Mk

set_option Elab.async false
set_option linter.all false
set_option maxRecDepth 100000
set_option maxHeartbeats 1000000
/-! rows that are judged by the law -/
namespace Mk
open PySem PySem.Spec L2 PyProof.Rows

/-! the texts of what is told -/
section
variable {d : PyData} {z : Str} {t1 t2 : PTab} {t3 : STab}
end
end Mk

set_option Elab.async false
set_option linter.all false
set_option maxRecDepth 100000
set_option maxHeartbeats 1000000
/-! ways of single changes from a sign to a sign -/
namespace Mk
open PySem PySem.Spec L2 PyProof.Rows

section
variable {t1 t2 : PTab} {t3 : STab}
end
end Mk

set_option Elab.async false
set_option linter.all false
set_option maxRecDepth 100000
set_option maxHeartbeats 1000000
/-! pairs of places, and the rows of changes that they lead to -/
namespace Mk
open PySem PySem.Spec L2 PyProof.Rows

abbrev PairN := Option Nat × Option Nat
section
variable {su sv : List Str} {c : Str → Str → Int}
end
section
variable {t1 t2 : PTab} {t3 : STab}
end
end Mk

set_option Elab.async false
set_option linter.all false
set_option maxRecDepth 100000
set_option maxHeartbeats 1000000
/-! min of a list of texts; a cheapest way, sign by sign -/
namespace Mk
open PySem PySem.Spec L2 PyProof.Rows

section
variable {X : Cx}
end
/-! the way that is told: the least sign first -/
section
variable {t1 t2 : PTab} {t3 : STab}
end
/-! _way -/
section
variable {P : Program} {w : World} {K : PySem.W.Frag} {mg : Str → Option Value} {base : Heap}
end
end Mk

set_option Elab.async false
set_option linter.all false
set_option maxRecDepth 100000
set_option maxHeartbeats 1000000
/-! all rows of costs; the pairs of an alignment of least price -/
namespace Mk
open PySem PySem.Spec L2 PyProof.Rows

section
variable {P : Program} {w : World} {K : PySem.W.Frag} {mg : Str → Option Value} {base : Heap}
end
end Mk

set_option Elab.async false
set_option linter.all false
set_option maxRecDepth 100000
set_option maxHeartbeats 1000000
namespace Mk
open PySem PySem.Spec L2 PyProof.Rows

section
variable {c : Str → Str → Int} {su sv : List Str}
end
section
variable {P : Program} {w : World} {K : PySem.W.Frag} {mg : Str → Option Value} {base : Heap}
end
end Mk

set_option Elab.async false
set_option linter.all false
set_option maxRecDepth 100000
set_option maxHeartbeats 1000000
namespace Mk
open PySem PySem.Spec L2 PyProof.Rows

section
variable {P : Program} {w : World} {K : PySem.W.Frag} {mg : Str → Option Value} {base : Heap}
end
end Mk

set_option Elab.async false
set_option linter.all false
set_option maxRecDepth 100000
set_option maxHeartbeats 1000000
namespace Mk
open PySem PySem.Spec L2 PyProof.Rows

section
variable {P : Program} {w : World} {K : PySem.W.Frag} {mg : Str → Option Value} {base : Heap}
theorem cut1 (xs : List V) : cutV xs (some 1) none = xs.drop 1 := by
  unfold cutV
  cases xs with
  | nil => rfl
  | cons a r =>
    have e : HT.sIx (a :: r).length 0 (some 1) = 1 := by
      unfold HT.sIx
      simp
    rw [e]
    exact List.take_of_length_le (by show r.length ≤ _; simp [HT.sIx])
end
end Mk

set_option Elab.async false
set_option linter.all false
set_option maxRecDepth 100000
set_option maxHeartbeats 1000000
namespace Mk
open PySem PySem.Spec L2 PyProof.Rows

section
variable {t1 t2 : PTab} {t3 : STab} {u v : Str} {st : List St3}
end
section
variable {P : Program} {w : World} {K : PySem.W.Frag} {mg : Str → Option Value} {base : Heap}
end
end Mk

set_option Elab.async false
set_option linter.all false
set_option maxRecDepth 100000
set_option maxHeartbeats 1000000
/-! any values in the places of words and prices; what is raised for them -/
namespace Mk
open PySem PySem.Spec L2 PyProof.Rows

section
variable {P : Program} {w : World} {K : PySem.W.Frag} {mg : Str → Option Value} {base : Heap}
end
end Mk

set_option Elab.async false
set_option linter.all false
set_option maxRecDepth 100000
set_option maxHeartbeats 2000000
/-! one row, judged by the law -/
namespace Mk
open PySem PySem.Spec L2 PyProof.Rows

section
variable {P : Program} {w : World} {K : PySem.W.Frag} {mg : Str → Option Value} {base : Heap} {k : Nat} {f : Addr} {sp : Sp} {N ps : List Str}
end

/-! what is told while a list grows -/
end Mk

set_option Elab.async false
set_option linter.all false
set_option maxRecDepth 100000
set_option maxHeartbeats 4000000
/-! one row, judged by the law: the def -/
namespace Mk
open PySem PySem.Spec L2 PyProof.Rows

section
variable {P : Program} {w : World} {K : PySem.W.Frag} {mg : Str → Option Value} {base : Heap}
end
end Mk

set_option Elab.async false
set_option linter.all false
set_option maxRecDepth 100000
set_option maxHeartbeats 2000000
/-! values that stand in the place of a change -/
namespace Mk
open PySem PySem.Spec L2 PyProof.Rows

/-! displays of data -/
section
variable {X : Cx} {p : Addr} {φ : L2.St → Prop} {d : PyData} {ds : List PyData} {e : Expr} {es : List Expr} {pos : Pos}
end
/-! small values -/
section
variable {z : Str}
end
section
variable {P : Program} {w : World} {K : PySem.W.Frag} {mg : Str → Option Value} {base : Heap}
end
end Mk

set_option Elab.async false
set_option linter.all false
set_option maxRecDepth 100000
set_option maxHeartbeats 1000000
/-! a text so many times -/
namespace Mk
open PySem L2 PyProof.Rows

section
variable {X : Cx}
end
end Mk

set_option Elab.async false
set_option linter.all false
set_option maxRecDepth 100000
set_option maxHeartbeats 2000000
/-! displays of values of which a property is told; one of them is drawn -/
namespace Mk
open PySem PySem.Spec L2 PyProof.Rows

abbrev Prop1 : Type := Hp → V → Prop
abbrev Ctx1 : Type := L2.St → Hp → Prop
section
variable {X : Cx} {p : Addr} {Ψ : Ctx1} {R : Prop1} {n : Nat} {e : Expr} {es : List Expr} {pos : Pos}
end
section
variable {P : Program} {w : World} {K : PySem.W.Frag} {mg : Str → Option Value} {base : Heap}
end
end Mk

set_option Elab.async false
set_option linter.all false
set_option maxRecDepth 100000
set_option maxHeartbeats 2000000
/-! machines in the heap; first_words -/
namespace Mk
open PySem PySem.Spec L2 PyProof.Rows

abbrev sFirstW : Stmt := top 21
abbrev nFirstW : List Str := ["machine", "start", "found", "queue", "at", "state", "moves", "sign", "to"]
/-- a state at s -/
def StA (H : Hp) (s : Addr) (q : PTab × Bool) : Prop := ∃ d, H s = some (.tup [.ref d, .bl q.2]) ∧ H d = some (.dK (kvsP q.1))
/-- a machine at t -/
def MAt (H : Hp) (t : Addr) (m : Mch) : Prop := ∃ ss : List Addr, H t = some (.tup (ss.map V.ref)) ∧ Paired (StA H) ss m
theorem StA.keep {H H' : Hp} {s : Addr} {q : PTab × Bool} (k : Same H H') (h : StA H s q) : StA H' s q := h.imp fun d ⟨a, b⟩ => ⟨k _ _ a, k _ _ b⟩
theorem MAt.keep {H H' : Hp} {t : Addr} {m : Mch} (k : Same H H') (h : MAt H t m) : MAt H' t m := h.imp fun ss ⟨a, b⟩ => ⟨k _ _ a, L2.Paired.mapP b fun _ _ e => e.keep k⟩
theorem MAt.at_ {H : Hp} {t : Addr} {m : Mch} (h : MAt H t m) {i : Int} (hi : 0 ≤ i ∧ i < m.length) : ∃ (ss : List Addr) (s d : Addr), H t = some (.tup (ss.map V.ref)) ∧ atI (ss.map V.ref) i = some (.ref s) ∧ H s = some (.tup [.ref d, .bl (lst? m i)]) ∧ H d = some (.dK (kvsP (mvs m i))) := by
  obtain ⟨ss, e, p⟩ := h
  have l := Paired.length p
  have hl : i.toNat < ss.length := by omega
  obtain ⟨q, hq, d, e1, e2⟩ := L2.paired_get p (List.getElem?_eq_getElem hl)
  have eq : m.getD i.toNat ([], false) = q := by rw [List.getD_eq_getElem?_getD, hq]; rfl
  refine ⟨ss, ss[i.toNat], d, e, at_ofA (j := i.toNat) (by omega) (by rw [List.getElem?_map, List.getElem?_eq_getElem hl]; rfl), ?_, ?_⟩
  · unfold lst?
    rw [eq]
    exact e1
  · unfold mvs
    rw [eq]
    exact e2
def kvsF (f : Fnd) : List (Key × V) := f.map fun p => (Sum.inl p.1, V.str p.2)
theorem kvsF_val : ∀ {f : Fnd} {i : Int}, valV (kvsF f) (Sum.inl i) = (f.find? fun p => decide (p.1 = i)).map fun p => V.str p.2
  | [], i => rfl
  | p :: f, i => by
    by_cases e : p.1 = i
    · rw [List.find?_cons_of_pos (by simpa using e)]
      exact valV_pos (by show (Sum.inl p.1 : Key) = Sum.inl i; rw [e])
    · rw [List.find?_cons_of_neg (by simpa using e)]
      have ne : ¬ (Sum.inl p.1 : Key) = Sum.inl i := fun q => e (Sum.inl.inj q)
      exact (valV_neg ne).trans kvsF_val
theorem kvsF_some {f : Fnd} {i : Int} : (valV (kvsF f) (Sum.inl i)).isSome = decide (i ∈ f.map (·.1)) := by
  rw [kvsF_val, Option.isSome_map, Bool.eq_iff_iff, List.find?_isSome]
  simp only [decide_eq_true_eq, List.mem_map]
theorem kvsF_at {f : Fnd} (nd : (f.map (·.1)).Nodup) {p : Int × Str} (h : p ∈ f) : valV (kvsF f) (Sum.inl p.1) = some (V.str p.2) := by
  induction f with
  | nil => cases h
  | cons a f ih =>
    rw [List.map_cons, List.nodup_cons] at nd
    rcases List.mem_cons.mp h with rfl | h
    · exact valV_pos rfl
    · have ne : ¬ (Sum.inl a.1 : Key) = Sum.inl p.1 := fun q => nd.1 (List.mem_map.mpr ⟨p, h, (Sum.inl.inj q).symm⟩)
      exact (valV_neg ne).trans (ih nd.2 h)
theorem kvsF_put {f : Fnd} {i : Int} {w : Str} (h : i ∉ f.map (·.1)) : L2.putK (kvsF f) (Sum.inl i) (V.str w) = kvsF (f ++ [(i, w)]) := by
  have : valV (kvsF f) (Sum.inl i) = none := by
    have e := kvsF_some (f := f) (i := i)
    rw [decide_eq_false h] at e
    exact Option.isNone_iff_eq_none.mp (by rw [← Option.not_isSome, e]; rfl)
  rw [putK_new _ this]
  simp [kvsF]
theorem sorted_keys {t : PTab} {ys : List Str} (p : ys.Perm (t.map (·.1))) (so : sortedS ys = true) : ys = keysM t :=
  List.Perm.eq_of_pairwise (fun a b _ _ k1 k2 => byCs_anti a b k1 k2) (sorted_up so) (List.pairwise_mergeSort byCs_trans byCs_total _) (p.trans (keysM_perm t).symm)
theorem bfs_step {m : Mch} {n k : Nat} {f : Fnd} {p : Int × Str} (h : f[k]? = some p) : bfs m (n + 1) k f = bfs m n (k + 1) ((keysM (mvs m p.1)).foldl (addF (mvs m p.1) p.2) f) := by
  conv => lhs; unfold bfs
  simp only [h]
/-- found and queue as they grow -/
structure Bfs (H0 H1 : Hp) (D L : Addr) (f : Fnd) : Prop where
  same : Same H0 H1
  d : H1 D = some (.dK (kvsF f))
  l : H1 L = some (.lst (f.map fun p => V.int p.1))
section
variable {H0 H1 H2 : Hp} {D L : Addr} {f : Fnd}
theorem Bfs.go (B : Bfs H0 H1 D L f) (k : Same H1 H2) : Bfs H0 H2 D L f := ⟨B.same.trans k, k _ _ B.d, k _ _ B.l⟩
theorem Bfs.add (B : Bfs H0 H1 D L f) (fd : H0 D = none) (fl : H0 L = none) (ne : D ≠ L) {p : Int × Str} : Bfs H0 (upd (upd H1 D (.dK (kvsF (f ++ [p])))) L (.lst (f.map (fun p => V.int p.1) ++ [V.int p.1]))) D L (f ++ [p]) :=
  ⟨Same.upN (Same.upN B.same fd) fl, (upd_ne ne).trans upd_same, by rw [List.map_append]; exact upd_same⟩
end
def spFirstW : Sp := fun vs H Q _ => ∃ (t : Addr) (m : Mch) (i : Int), vs = [.ref t, .int i] ∧ MAt H t m ∧ WF m ∧ m.length ≤ 40 ∧ (∀ q ∈ m, q.1.length ≤ 5) ∧ (0 ≤ i ∧ i < m.length) ∧ ∀ H' d, Same H H' → H d = none → H' d = some (.dK (kvsF (firstW m i))) → Q (.ref d) H'
section
variable {P : Program} {w : World} {K : PySem.W.Frag} {mg : Str → Option Value} {base : Heap}
theorem scFirstW : FnScope nFirstW ["machine", "start"] (defScope sFirstW) := ⟨rfl, rfl, rfl, by decide +kernel, rfl, by decide +kernel, by decide +kernel⟩
theorem ok_firstW {f : Addr} {fd : FuncData} (F : FunD K "first_words" "first_words" (defArgs sFirstW) (defBody sFirstW) (defScope sFirstW) [.int 0] [] f fd) (B : Bn mg) (O : On mg) : FnOk P w K mg base CX0 1 f fd ["machine", "start"] spFirstW := by
  refine F.ok scFirstW (fun vs H Q E h => ?_) (fun cdv A outer s H vs Q E hr h => ?_)
  · obtain ⟨t, m, i, rfl, _⟩ := h
    rfl
  · have hu := hu_of hr
    obtain ⟨t, m, i, rfl, hm, wf, lm, l5, hi, q⟩ := h
    refine ⟨_, PSs.nox (pss_cons (ps_set (i := 2) scFirstW.nd rfl (.inl rfl) (pe_disp (L2.pps_cons (pv 1) pe_str L2.pps_nil) rfl rfl (by exact fun z => nomatch z) (by decide)))
      (pss_cons (ps_set (i := 3) scFirstW.nd rfl (.inl rfl) (pe_lst (pa_cons (pv 1) pa_nil)))
      (pss_cons (ps_set (i := 4) scFirstW.nd rfl (.inl rfl) pe_int)
      (pss_cons (ps_while PassesOwn.never (pt_cmpR op_lt (pv 4) (pe_callB call_len_seq (by rfl) B.len PySem.boot_len (pa_cons (pv 3) pa_nil)) (nomark _))
        (pss_cons (ps_set (i := 5) scFirstW.nd rfl (.inl rfl) (pe_ix ix_list (pv 3) (pv 4) (fun _ _ => rfl)))
        (pss_cons (ps_set (i := 6) scFirstW.nd rfl (.inl rfl) (pe_ix ix_tup (pe_ix ix_tup (pv 0) (pv 5) (fun _ _ => rfl)) pe_int (fun _ _ => rfl)))
        (pss_cons (ps_for PassesOwn.never rfl (pi_list (pe_callB (call_sortedD rfl) (by rfl) O.sorted (by decide +kernel) (pa_cons (pv 6) pa_nil))) (pg_name (i := 7) scFirstW.nd rfl (.inl rfl))
          (pss_cons (ps_set (i := 8) scFirstW.nd rfl (.inl rfl) (pe_dget hu (pv 6) (pv 7) (fun _ _ => rfl)))
          (pss_one (ps_if (pt_cmp (pc_dnotin hu (pv 8) (pv 2)))
            (pss_cons (ps_dput hu (pv 2) (pv 8) (pe_op op_add_str (pe_dget hu (pv 2) (pv 5) (fun _ _ => rfl)) (pv 7)) rfl)
            (pss_one (ps_expr (pe_bm PySem.F.plainAttrs_list PySem.F.slot_list_append PySem.F.type_list_append mt_append (pv 3) (pa_cons (pv 8) pa_nil))))) pss_nil))))
        (pss_one (ps_aug (i := 4) scFirstW.nd rfl (.inl rfl) pe_int ip_add))))))
      (pss_one (ps_ret (pv 2))))))), ?_⟩
    have lt1 : ∀ {n : Nat}, n ≤ 4999 → n < sizeLine := fun h1 => by rw [sizeLine_eq]; omega
    have h2 : (2 : Nat) < sizeLine := lt1 (by decide)
    refine fun D hD => ⟨_, rfl, upd_same, [(Sum.inl i, V.str "")], rfl, (by show 1 ≤ 15; decide), ?_⟩
    have em : mergeK [] [((Sum.inl i : Key), V.str "")] = kvsF [(i, "")] := rfl
    rw [em]
    have sD : Same H (upd (upd H D (.dK [])) D (.dK (kvsF [(i, "")]))) := fun b o e => by
      have nb := ne_of_none e hD
      rw [upd_ne nb, upd_ne nb]
      exact e
    have eD : (upd (upd H D (.dK [])) D (.dK (kvsF [(i, "")]))) D = some (.dK (kvsF [(i, "")])) := upd_same
    generalize upd (upd H D (.dK [])) D (.dK (kvsF [(i, "")])) = H1 at sD eD ⊢
    refine ⟨_, rfl, Nat.le_of_lt (lt1 (n := 1) (by decide)), fun L hL => ?_⟩
    have hL0 : H L = none := sD.free hL
    have ne : D ≠ L := ne_of_none eD hL
    have B0 : Bfs H (upd H1 L (.lst [V.int i])) D L [(i, "")] := ⟨sD.trans (Same.new hL), (upd_ne ne).trans eD, upd_same⟩
    generalize upd H1 L (.lst [V.int i]) = H2 at B0 ⊢
    clear sD eD hL H1 em
    refine while_by (fun σ H3 => ∃ (k : Nat) (f : Fnd) (o5 o6 o7 o8 : Option V), σ = [some (.ref t), some (.int i), some (.ref D), some (.ref L), some (.int k), o5, o6, o7, o8] ∧ Bfs H H3 D L f ∧ FOk m f ∧ k ≤ f.length ∧ firstW m i = bfs m (m.length - k) k f)
      (fun σ _ => match σ[4]? with | some (some (V.int k)) => m.length - k.toNat | _ => 0) ?_ ?_ ?_
    · exact ⟨0, _, none, none, none, none, rfl, B0, start_ok hi, Nat.zero_le _, rfl⟩
    · rintro σ H3 ⟨k, f, o5, o6, o7, o8, rfl, B3, ok, kl, ef⟩
      have fl := ok.len
      refine ⟨_, rfl, _, rfl, L, _, rfl, .inl (SqL.of B3.l), _, _, rfl, rfl, _, rfl, ?_⟩
      rw [List.length_map]
      by_cases hk : k < f.length
      · rw [decide_eq_true (by omega : (k : Int) < (f.length : Nat))]
        obtain ⟨p, hp⟩ : ∃ p, f[k]? = some p := ⟨_, List.getElem?_eq_getElem hk⟩
        have pm := List.mem_of_getElem? hp
        have pr := ok.rg p pm
        obtain ⟨ss, s', d, g1, e2, g3, g4⟩ := hm.at_ pr
        have e1 := B3.same _ _ g1
        have e3 := B3.same _ _ g3
        have e4 := B3.same _ _ g4
        have nd := mvs_nd wf p.1
        have l6 : (mvs m p.1).length ≤ 5 := by
          unfold mvs
          rw [List.getD_eq_getElem?_getD]
          cases e : m[p.1.toNat]? with
          | none => exact Nat.zero_le _
          | some q => exact l5 q (List.mem_of_getElem? e)
        refine iteT ⟨_, rfl, _, rfl, L, _, _, V.int p.1, rfl, rfl, SqL.of B3.l, atI_nat (by rw [List.getElem?_map, hp]; rfl), ?_⟩
        refine ⟨_, rfl, _, rfl, t, _, _, _, rfl, rfl, SqT.of e1, e2, s', _, 0, _, rfl, rfl, SqT.of e3, at_ofA (j := 0) rfl rfl, ?_⟩
        refine ⟨_, rfl, d, kvsP (mvs m p.1), (mvs m p.1).map (·.1), rfl, .inl e4, kvsP_keys _, by rw [List.length_map]; omega, fun ys S perm so hS => ?_⟩
        obtain rfl := sorted_keys perm so
        have B4 := B3.go (Same.new (o := .lst ((keysM (mvs m p.1)).map V.str)) hS)
        have eS : (upd H3 S (.lst ((keysM (mvs m p.1)).map V.str))) S = some (.lst ((keysM (mvs m p.1)).map V.str)) := upd_same
        have e4 := Same.new (o := .lst ((keysM (mvs m p.1)).map V.str)) hS _ _ e4
        have nSD : S ≠ D := (ne_of_none B3.d hS).symm
        have nSL : S ≠ L := (ne_of_none B3.l hS).symm
        have ndD : d ≠ D := ne_of_none g4 hD
        have ndL : d ≠ L := ne_of_none g4 hL0
        generalize upd H3 S (.lst ((keysM (mvs m p.1)).map V.str)) = H4 at B4 eS e4 ⊢
        refine ⟨S, rfl, ⟨_, SqL.of eS⟩, for_list (xs := (keysM (mvs m p.1)).map V.str) (fun j σ H5 => (∃ o7 o8, σ = [some (.ref t), some (.int i), some (.ref D), some (.ref L), some (.int k), some (.int p.1), some (.ref d), o7, o8]) ∧ Bfs H H5 D L (((keysM (mvs m p.1)).take j).foldl (addF (mvs m p.1) p.2) f) ∧ H5 S = some (.lst ((keysM (mvs m p.1)).map V.str)) ∧ H5 d = some (.dK (kvsP (mvs m p.1)))) ?_ (fun j σ H5 _ h5 => SqL.of h5.2.2.1) ?_ ?_⟩
        · exact ⟨⟨_, _, rfl⟩, B4, eS, e4⟩
        · rintro j x σ H5 hx ⟨⟨o7, o8, rfl⟩, B5, eS5, e5⟩
          have jl : j < (keysM (mvs m p.1)).length := by
            have := (List.getElem?_eq_some_iff.mp hx).1
            rwa [List.length_map] at this
          obtain ⟨s, hs⟩ : ∃ s, (keysM (mvs m p.1))[j]? = some s := ⟨_, List.getElem?_eq_getElem jl⟩
          rw [List.getElem?_map, hs] at hx
          obtain rfl : V.str s = x := Option.some.inj hx
          have sm := keysM_mem.mp (List.mem_of_getElem? hs)
          have tk : ∀ g : Fnd, ((keysM (mvs m p.1)).take (j + 1)).foldl (addF (mvs m p.1) p.2) g = addF (mvs m p.1) p.2 (((keysM (mvs m p.1)).take j).foldl (addF (mvs m p.1) p.2) g) s := fun g => by
            rw [List.take_add_one, hs, List.foldl_append]
            rfl
          have fo := foldF_ok (m := m) (t := mvs m p.1) (w := p.2) (ks := (keysM (mvs m p.1)).take j) (f := f) ok (fun y hy => by
            have hy := keysM_mem.mp (List.mem_of_mem_take hy)
            exact ⟨one_of (key_sg wf hy), look_rg wf hy⟩) (ok.le p pm)
          obtain ⟨fo1, ⟨r, er⟩, _⟩ := fo
          refine ⟨_, rfl, _, rfl, d, V.int (look (mvs m p.1) s), rfl, .inl ⟨kvsP (mvs m p.1), Sum.inr s, .inl e5, rfl, (valP sm).symm⟩, ?_⟩
          have tk := tk f
          generalize ((keysM (mvs m p.1)).take j).foldl (addF (mvs m p.1) p.2) f = f' at B5 fo1 er tk
          refine ⟨_, rfl, _, rfl, D, _, rfl, DGet.k (k := Sum.inl (look (mvs m p.1) s)) B5.d, _, rfl, ?_⟩
          rw [kvsF_some]
          have pf : p ∈ f' := by rw [er]; exact List.mem_append_left _ pm
          have l1 := one_of (key_sg wf sm)
          have lw := fo1.le p pf
          have lf := fo1.len
          by_cases hin : look (mvs m p.1) s ∈ f'.map (·.1)
          · rw [decide_eq_true hin]
            refine iteF ⟨⟨_, _, rfl⟩, ?_, eS5, e5⟩
            rw [tk]
            unfold addF
            rw [if_pos hin]
            exact B5
          · rw [decide_eq_false hin]
            refine iteT ⟨_, rfl, _, rfl, D, _, rfl, .inl ⟨kvsF f', Sum.inl p.1, .inl B5.d, rfl, (kvsF_at fo1.nd pf).symm⟩, _, rfl, _, _, rfl, rfl, Nat.le_of_lt (lt1 (by omega)), _, rfl, _, rfl, D, _, rfl, DPut.k (k := Sum.inl (look (mvs m p.1) s)) B5.d (lt1 (by unfold kvsF; rw [List.length_map]; omega)), ?_⟩
            rw [kvsF_put hin]
            have eL5 : (upd H5 D (.dK (kvsF (f' ++ [(look (mvs m p.1) s, p.2 ++ s)])))) L = some (.lst (f'.map fun p => V.int p.1)) := (upd_ne ne.symm).trans B5.l
            refine ⟨_, rfl, .inl ⟨rfl, _, SqL.of eL5⟩, _, rfl, L, _, _, rfl, rfl, eL5, lt1 (by rw [List.length_map]; omega), ⟨_, _, rfl⟩, ?_, ?_, ?_⟩
            · rw [tk]
              unfold addF
              rw [if_neg hin]
              exact B5.add hD hL0 ne
            · rw [upd_ne nSL, upd_ne nSD]
              exact eS5
            · rw [upd_ne ndL, upd_ne ndD]
              exact e5
        · rintro σ H5 ⟨⟨o7, o8, rfl⟩, B5, _, _⟩
          rw [List.length_map, List.take_length] at B5
          obtain ⟨fo1, ⟨r, er⟩, _⟩ := foldF_ok (m := m) (t := mvs m p.1) (w := p.2) (ks := keysM (mvs m p.1)) (f := f) ok (fun y hy => by
            have hy := keysM_mem.mp hy
            exact ⟨one_of (key_sg wf hy), look_rg wf hy⟩) (ok.le p pm)
          refine ⟨_, rfl, _, _, rfl, rfl, ⟨k + 1, _, some (.int p.1), some (.ref d), o7, o8, rfl, B5, fo1, by rw [er, List.length_append]; omega, ?_⟩, ?_⟩
          · rw [ef, show m.length - k = (m.length - (k + 1)) + 1 from by omega]
            exact bfs_step hp
          · show m.length - ((k : Int) + 1).toNat < m.length - (k : Int).toNat
            omega
      · rw [decide_eq_false (by omega : ¬ (k : Int) < (f.length : Nat))]
        refine iteF ⟨_, rfl, ?_⟩
        have ek : k = f.length := by omega
        have e0 : bfs m (m.length - k) k f = f := by
          have hn : f[k]? = none := by rw [ek]; exact List.getElem?_eq_none (Nat.le_refl _)
          cases e : m.length - k with
          | zero => rfl
          | succ n =>
            unfold bfs
            rw [hn]
        refine q _ D B3.same hD ?_
        rw [ef, e0]
        exact B3.d
    · rintro σ H3 Q1 Q2 hq ⟨v1, h1, v2, h2, a1, ys, e1, e2, i1, j1, e3, e4, b, e5, h⟩
      exact ⟨v1, h1, v2, h2, a1, ys, e1, e2, i1, j1, e3, e4, b, e5, hq _ _ h⟩
end
end Mk

set_option Elab.async false
set_option linter.all false
set_option maxRecDepth 100000
set_option maxHeartbeats 1000000
/-! prices made of tables -/
namespace Mk
open PySem PySem.Spec L2 PyProof.Rows

section
variable {P : Program} {w : World} {K : PySem.W.Frag} {mg : Str → Option Value} {base : Heap}
end
end Mk

set_option Elab.async false
set_option linter.all false
set_option maxRecDepth 100000
set_option maxHeartbeats 1000000
/-! the law's own closed costs -/
namespace Mk
open PySem PySem.Spec L2 PyProof.Rows

section
variable {t1 t2 : PTab} {t3 : STab}
end
section
variable {P : Program} {w : World} {K : PySem.W.Frag} {mg : Str → Option Value} {base : Heap}
end
end Mk

set_option Elab.async false
set_option linter.all false
set_option maxRecDepth 100000
set_option maxHeartbeats 1000000
/-! the law's own sums, from the ends -/
namespace Mk
open PySem PySem.Spec L2 PyProof.Rows

/-! dicts with pairs of numbers as keys -/
/-! the sums -/
section
variable (c : Str → Str → Int) (su sv : List Str)
variable {c su sv}
end
section
variable {P : Program} {w : World} {K : PySem.W.Frag} {mg : Str → Option Value} {base : Heap}
end
end Mk

set_option Elab.async false
set_option linter.all false
set_option maxRecDepth 100000
set_option maxHeartbeats 2000000
/-! the law's own alignments -/
namespace Mk
open PySem PySem.Spec L2 PyProof.Rows

section
variable {c : Str → Str → Int} {su sv : List Str}
end
section
variable {P : Program} {w : World} {K : PySem.W.Frag} {mg : Str → Option Value} {base : Heap}
end
end Mk

set_option Elab.async false
set_option linter.all false
set_option maxRecDepth 100000
set_option maxHeartbeats 2000000
/-! the law's own ways, and their rows -/
namespace Mk
open PySem PySem.Spec L2 PyProof.Rows

section
variable {t1 t2 : PTab} {t3 : STab}
end
section
variable {P : Program} {w : World} {K : PySem.W.Frag} {mg : Str → Option Value} {base : Heap}
end
end Mk

set_option Elab.async false
set_option linter.all false
set_option maxRecDepth 100000
set_option maxHeartbeats 4000000
/-! list(enumerate(xs)); xs[::k] -/
namespace Mk
open PySem PySem.Spec PyProof.Rows L2

section
variable {prog : Program} {w : World} {A : Around} {E : Value → Shared → Prop} {s : Shared}
end
section
variable {prog : Program} {w : World} {A : Around} {s : Shared} {R : Result → Shared → Prop} {items : Array Value}
end
section
variable {P : Program} {w : World} {A : Around} {E : Value → Shared → Prop} {s : Shared} {items : Array Value} {l : Addr}
end
section
variable {X : Cx}
end
end Mk

set_option Elab.async false
set_option linter.all false
set_option maxRecDepth 100000
set_option maxHeartbeats 2000000
/-! spoiled rows -/
namespace Mk
open PySem PySem.Spec L2 PyProof.Rows

theorem cut_hi (xs : List V) (s : Nat) : cutV xs none (some (s : Int)) = xs.take s := by
  unfold cutV
  rw [HT.sIx_none, HT.sIx_nat, List.drop_zero, Nat.sub_zero, ← List.take_take, List.take_of_length_le (l := xs) (Nat.le_refl _)]
theorem cut_lo (xs : List V) (s : Nat) : cutV xs (some (s : Int)) none = xs.drop s := by
  unfold cutV
  rw [HT.sIx_none, HT.sIx_nat]
  by_cases h : s ≤ xs.length
  · rw [Nat.min_eq_left h, List.take_of_length_le (by rw [List.length_drop]; omega)]
  · rw [Nat.min_eq_right (by omega), List.drop_of_length_le (Nat.le_refl _), List.drop_of_length_le (by omega)]
    exact List.take_nil
section
variable {P : Program} {w : World} {K : PySem.W.Frag} {mg : Str → Option Value} {base : Heap}
end
end Mk

set_option Elab.async false
set_option linter.all false
set_option maxRecDepth 100000
set_option maxHeartbeats 2000000
/-! the law's own rows, from either end -/
namespace Mk
open PySem PySem.Spec L2 PyProof.Rows

section
variable {t1 t2 : PTab} {t3 : STab} {su sv : List Str} {ps : List PairN}
end
section
variable {X : Cx}
theorem ix_tupK (K : PySem.W.Frag) (hK : X.K = K := by rfl) : IxR X (rIxT K) := by
  subst hK
  exact ix_tup
end
section
variable {P : Program} {w : World} {K : PySem.W.Frag} {mg : Str → Option Value} {base : Heap}
end
end Mk

set_option Elab.async false
set_option linter.all false
set_option maxRecDepth 100000
set_option maxHeartbeats 2000000
/-! is a value a row of the price that is due -/
namespace Mk
open PySem PySem.Spec L2 PyProof.Rows

section
variable {P : Program} {w : World} {K : PySem.W.Frag} {mg : Str → Option Value} {base : Heap}
end
end Mk

set_option Elab.async false
set_option linter.all false
set_option maxRecDepth 100000
set_option maxHeartbeats 4000000
/-! the law -/
namespace Mk
open PySem PySem.Spec L2 PyProof.Rows

section
variable {P : Program} {w : World} {K : PySem.W.Frag} {mg : Str → Option Value} {base : Heap}
end
end Mk

set_option Elab.async false
set_option linter.all false
set_option maxRecDepth 100000
set_option maxHeartbeats 4000000
/-! values beside a row -/
namespace Mk
open PySem PySem.Spec L2 PyProof.Rows

section
variable {D p b : Addr} {H H' : Hp}
end
/-- t + u, told alike in all cases -/
def rCatB : R2 := fun x y H Q => ∃ a b xs ys, x = .ref a ∧ y = .ref b ∧ H a = some (.tup xs) ∧ H b = some (.tup ys) ∧ xs.length + ys.length ≤ sizeLine ∧ ∀ H' p, Same H H' → H' p = some (.tup (xs ++ ys)) → Q (.ref p) H'
theorem op_catB {X : Cx} : OpR X (binaryOp .Add) rCatB := by
  intro pins s σ H x y v u Q I rx ry h
  obtain ⟨a, b, xs, ys, rfl, rfl, ha, hb, hz, q⟩ := h
  refine op_catA pins s σ H _ _ v u Q I rx ry ⟨a, b, xs, ys, rfl, rfl, SqT.of ha, SqT.of hb, hz, fun e => q H b (Same.refl _) (by rw [e]; exact hb), fun _ e => q H a (Same.refl _) (by rw [e, List.append_nil]; exact ha), fun _ _ p hp => q _ p (Same.new hp) upd_same⟩
section
variable {P : Program} {w : World} {K : PySem.W.Frag} {mg : Str → Option Value} {base : Heap}
end
end Mk

set_option Elab.async false
set_option linter.all false
set_option maxRecDepth 100000
set_option maxHeartbeats 1000000
/-! a dict whose keys are rows of pairs -/
namespace Mk
open PySem PySem.Spec L2 PyProof.Rows

section
variable {P : Program} {w : World} {H : Hp} {h : Heap}
end
section
variable {X : Cx} {o i : Expr} {pos : Pos} {td ty : TE}
end
end Mk

set_option Elab.async false
set_option linter.all false
set_option maxRecDepth 100000
set_option maxHeartbeats 1000000
/-! rows of pairs as data -/
namespace Mk
open PySem PySem.Spec L2 PyProof.Rows

/-! what a value tells -/
section
variable {su sv : List Str}
end
/-! all alignments -/
section
variable {su sv : List Str}
end
end Mk

set_option Elab.async false
set_option linter.all false
set_option maxRecDepth 100000
set_option maxHeartbeats 1000000
/-! two values of one text: a row of pairs is one only -/
namespace Mk
open PySem PySem.Spec L2 PyProof.Rows

end Mk

set_option Elab.async false
set_option linter.all false
set_option maxRecDepth 100000
set_option maxHeartbeats 1000000
/-! items of a tuple that are told, left out, looked at -/
namespace Mk
open PySem PySem.Spec L2 PyProof.Rows

theorem SqT.keep {K : PySem.W.Frag} {H H' : Hp} {a : Addr} {xs : List V} (k : Same H H') (h : SqT K H a xs) : SqT K H' a xs := h.imp (fun r => r.imp (k _ _) fun ⟨o, e⟩ => ⟨o, k _ _ e⟩) id
section
variable {K : PySem.W.Frag} {a : Addr} {xs : List V} {ds : List PyData} {i : Nat} {tt : TT} {te : TE} {vs : List Nat} {σ : L2.St} {H1 : Hp} {D : Addr} {Qd : Hp → Prop}
end
/-! isinstance, None within a comprehension -/
section
variable {X : Cx}
end
/-! lists of numbers -/
theorem eqv_intL : ∀ {as bs : List Int}, PyData.eqv (.list (as.map .int)) (.list (bs.map .int)) = decide (as = bs) := by
  have g : ∀ {as bs : List Int}, PyData.eqvAll (as.map .int) (bs.map .int) = decide (as = bs) := by
    intro as
    induction as with
    | nil =>
      intro bs
      cases bs with
      | nil => rfl
      | cons b bs => simp [PyData.eqvAll]
    | cons a as ih =>
      intro bs
      cases bs with
      | nil => simp [PyData.eqvAll]
      | cons b bs =>
        simp only [List.map_cons, PyData.eqvAll, ih]
        rw [Bool.eq_iff_iff]
        simp [PyData.eqv]
  intro as bs
  simp only [PyData.eqv]
  exact g
theorem shaped_lst8 {ds : List PyData} (h : ∀ d ∈ ds, d.canLay0 = true ∧ d.depth ≤ 60) : SeqAt.shaped (.list ds) = true := by
  unfold SeqAt.shaped
  rw [Bool.and_eq_true]
  refine ⟨?_, decide_eq_true ?_⟩
  · simp only [PyData.canLay0]
    exact canLay_all fun y hy => (h y hy).1
  · have := depth_all (k := 60) fun x hx => (h x hx).2
    simp only [PyData.depth]
    omega
theorem shaped_ints (as : List Int) : SeqAt.shaped (.list (as.map .int)) = true := shaped_lst8 fun d hd => by
  obtain ⟨i, _, rfl⟩ := List.mem_map.mp hd
  exact ⟨rfl, by simp [PyData.depth]⟩
theorem eqv_nil : ∀ ds : List PyData, PyData.eqv (.list ds) (.list []) = decide (ds = [])
  | [] => by simp [PyData.eqv, PyData.eqvAll]
  | _ :: _ => by simp [PyData.eqv, PyData.eqvAll]
theorem dpall_ints {K : PySem.W.Frag} {H : Hp} : ∀ as : List Int, DpAll K H (as.map V.int) (as.map PyData.int)
  | [] => .nil
  | a :: as => .cons (.int a) (dpall_ints as)
/-! what the program asks of a pair -/
end Mk

set_option Elab.async false
set_option linter.all false
set_option maxRecDepth 100000
set_option maxHeartbeats 4000000
/-! _states_ahead_of_last -/
namespace Mk
open PySem PySem.Spec L2 PyProof.Rows

abbrev sEndM : Stmt := top 31
abbrev nEndM : List Str := ["machine", "_", "near", "state", "moves", "sign", "queue", "found", "at", "here", "last"]
def kvsE (f : List Int) : List (Key × V) := f.map fun i => (Sum.inl i, V.bl true)
theorem kvsE_some : ∀ {f : List Int} {i : Int}, (valV (kvsE f) (Sum.inl i)).isSome = decide (i ∈ f)
  | [], i => rfl
  | p :: f, i => by
    by_cases e : p = i
    · have : valV (kvsE (p :: f)) (Sum.inl i) = some (V.bl true) := valV_pos (by show (Sum.inl p : Key) = Sum.inl i; rw [e])
      rw [this, decide_eq_true (by rw [e]; exact List.mem_cons_self)]
      rfl
    · have ne : ¬ (Sum.inl p : Key) = Sum.inl i := fun q => e (Sum.inl.inj q)
      have : valV (kvsE (p :: f)) (Sum.inl i) = valV (kvsE f) (Sum.inl i) := valV_neg ne
      rw [this, kvsE_some, Bool.eq_iff_iff, decide_eq_true_eq, decide_eq_true_eq, List.mem_cons]
      exact ⟨.inr, fun h => h.resolve_left fun z => e z.symm⟩
theorem kvsE_put {f : List Int} {i : Int} (h : i ∉ f) : L2.putK (kvsE f) (Sum.inl i) (V.bl true) = kvsE (f ++ [i]) := by
  have : valV (kvsE f) (Sum.inl i) = none := by
    have e := kvsE_some (f := f) (i := i)
    rw [decide_eq_false h] at e
    exact Option.isNone_iff_eq_none.mp (by rw [← Option.not_isSome, e]; rfl)
  rw [putK_new _ this]
  simp [kvsE]
section
variable {K : PySem.W.Frag} {H H0 H1 H2 H' : Hp} {N d p : Addr} {xs ys : List V} {o : HO} {nr : Near}
/-- the tuples of the states from which one comes -/
def NrA (H : Hp) (N : Addr) (nr : Near) : Prop := ∃ ps : List Addr, H N = some (.lst (ps.map V.ref)) ∧ Paired (fun (p : Addr) (l : List Int) => H p = some (.tup (l.map V.int))) ps nr
theorem NrA.keep (k : Same H H') (h : NrA H N nr) : NrA H' N nr := h.imp fun ps ⟨e, p⟩ => ⟨k _ _ e, L2.Paired.mapP p fun _ _ g => k _ _ g⟩
theorem NrA.at_ (h : NrA H N nr) {i : Nat} (hi : i < nr.length) : ∃ (ps : List Addr) (p : Addr), H N = some (.lst (ps.map V.ref)) ∧ (ps.map V.ref)[i]? = some (.ref p) ∧ H p = some (.tup ((nr.getD i []).map V.int)) ∧ ps.length = nr.length := by
  obtain ⟨ps, e, pp⟩ := h
  have l := Paired.length pp
  have hl : i < ps.length := by omega
  obtain ⟨q, hq, g⟩ := L2.paired_get pp (List.getElem?_eq_getElem hl)
  refine ⟨ps, ps[i], e, by rw [List.getElem?_map, List.getElem?_eq_getElem hl]; rfl, ?_, l⟩
  rw [List.getD_eq_getElem?_getD, hq]
  exact g
theorem paired_set {α β : Type} {F : α → β → Prop} : ∀ {xs : List α} {ys : List β}, Paired F xs ys → ∀ {i : Nat} {a : α} {b : β}, F a b → Paired F (xs.set i a) (ys.set i b)
  | _, _, .nil, _, _, _, _ => .nil
  | _, _, .cons _ t, 0, _, _, h => .cons h t
  | _, _, .cons g t, i + 1, _, _, h => .cons g (paired_set t h)
theorem NrA.put (h : NrA H N nr) {i : Nat} {q : Addr} {l : List Int} (e : ∀ ps : List Addr, H N = some (.lst (ps.map V.ref)) → H' N = some (.lst ((ps.set i q).map V.ref))) (k : ∀ p xs, H p = some (.tup xs) → H' p = some (.tup xs)) (hq : H' q = some (.tup (l.map V.int))) : NrA H' N (nr.set i l) := by
  obtain ⟨ps, e1, pp⟩ := h
  exact ⟨_, e ps e1, paired_set (L2.Paired.mapP pp fun _ _ g => k _ _ g) hq⟩
theorem unlock_same {od : Obj} {u : HO} (s : Same H0 H2) (e : H2 d = some u) (k : ∀ b o, b ≠ N → (upd H2 d (.frz od u)) b = some o → H' b = some o) (hN : H0 N = none) : Same H0 (upd H' d u) := fun b o eb => by
  have nb := ne_of_none eb hN
  have e2 := s _ _ eb
  by_cases c : b = d
  · subst c
    rw [e] at e2
    cases e2
    exact upd_same
  · rw [upd_ne c]
    exact k b o nb ((upd_ne c).trans e2)
end
def NLe (c : Nat) (nr : Near) : Prop := ∀ l ∈ nr, l.length ≤ c
theorem addN_le {c k : Nat} {t : PTab} {nr : Near} {s : Str} (h : NLe c nr) : NLe (c + 1) (addN t k nr s) := fun l hl => by
  unfold addN at hl
  rcases List.mem_or_eq_of_mem_set hl with hl | rfl
  · exact Nat.le_succ_of_le (h l hl)
  · rw [List.length_append, List.length_singleton, List.getD_eq_getElem?_getD]
    cases e : nr[(look t s).toNat]? with
    | none => show 0 + 1 ≤ c + 1; omega
    | some y =>
      have := h y (List.mem_of_getElem? e)
      show y.length + 1 ≤ c + 1
      omega
theorem foldN_le {k : Nat} {t : PTab} : ∀ {ks : List Str} {c : Nat} {nr : Near}, NLe c nr → NLe (c + ks.length) (ks.foldl (addN t k) nr)
  | [], c, nr, h => h
  | s :: ks, c, nr, h => by
    have := foldN_le (t := t) (k := k) (ks := ks) (addN_le (t := t) (k := k) (s := s) h)
    rw [List.foldl_cons, List.length_cons, show c + (ks.length + 1) = c + 1 + ks.length from by omega]
    exact this
theorem near_le {m : Mch} (l5 : ∀ q ∈ m, q.1.length ≤ 5) : ∀ k, NLe (5 * k) (nearK m k)
  | 0 => fun l hl => by rw [List.eq_of_mem_replicate hl]; exact Nat.zero_le _
  | k + 1 => by
    have := foldN_le (t := mvs m (k : Nat)) (k := k) (ks := (mvs m (k : Nat)).map (·.1)) (near_le l5 k)
    have l : (mvs m (k : Nat)).length ≤ 5 := by
      unfold mvs
      rw [List.getD_eq_getElem?_getD]
      cases e : m[((k : Nat) : Int).toNat]? with
      | none => exact Nat.zero_le _
      | some q => exact l5 q (List.mem_of_getElem? e)
    rw [List.length_map] at this
    intro x hx
    exact Nat.le_trans (this x hx) (by omega)
theorem nle_at {c j : Nat} {nr : Near} (h : NLe c nr) : (nr.getD j []).length ≤ c := by
  rw [List.getD_eq_getElem?_getD]
  cases e : nr[j]? with
  | none => exact Nat.zero_le _
  | some y => exact h y (List.mem_of_getElem? e)
theorem lasts_succ (m : Mch) (k : Nat) : lasts m (k + 1) = lasts m k ++ if lst? m (k : Nat) = true then [(k : Int)] else [] := by
  unfold lasts
  rw [List.range_succ, List.filter_append, List.map_append]
  congr 1
  by_cases h : lst? m (k : Nat) = true
  · simp [h]
  · simp [h]
theorem bfsE_step {nr : Near} {n k : Nat} {f : List Int} {p : Int} (h : f[k]? = some p) : bfsE nr (n + 1) k f = bfsE nr n (k + 1) ((nr.getD p.toNat []).foldl addE f) := by
  conv => lhs; unfold bfsE
  simp only [h]
/-- found and queue as they grow -/
structure Bfe (H0 H1 : Hp) (D L N : Addr) (nr : Near) (f : List Int) : Prop where
  same : Same H0 H1
  d : H1 D = some (.dK (kvsE f))
  l : H1 L = some (.lst (f.map V.int))
  n : NrA H1 N nr
theorem Bfe.add {H0 H1 : Hp} {D L N : Addr} {nr : Near} {f : List Int} (B : Bfe H0 H1 D L N nr f) (fd : H0 D = none) (fl : H0 L = none) (ne : D ≠ L) (nd : N ≠ D) (nl : N ≠ L) {p : Int} : Bfe H0 (upd (upd H1 D (.dK (kvsE (f ++ [p])))) L (.lst (f.map V.int ++ [V.int p]))) D L N nr (f ++ [p]) := by
  refine ⟨Same.upN (Same.upN B.same fd) fl, (upd_ne ne).trans upd_same, by rw [List.map_append]; exact upd_same, ?_⟩
  obtain ⟨ps, a, b⟩ := B.n
  refine ⟨ps, ?_, L2.Paired.mapP b fun _ _ e => ?_⟩
  · rw [upd_ne nl, upd_ne nd]
    exact a
  · have l := B.l
    have d := B.d
    refine (upd_ne fun c => ?_).trans ((upd_ne fun c => ?_).trans e)
    · rw [c, l] at e
      cases e
    · rw [c, d] at e
      cases e
def spEndM : Sp := fun vs H Q _ => ∃ (t : Addr) (m : Mch), vs = [.ref t] ∧ MAt H t m ∧ WF m ∧ m.length ≤ 40 ∧ (∀ q ∈ m, q.1.length ≤ 5) ∧ ∀ H' d, Same H H' → H d = none → H' d = some (.dK (kvsE (endM m))) → Q (.ref d) H'
section
variable {P : Program} {w : World} {K : PySem.W.Frag} {mg : Str → Option Value} {base : Heap}
theorem scEndM : FnScope nEndM ["machine"] (defScope sEndM) := ⟨rfl, rfl, rfl, by decide +kernel, rfl, by decide +kernel, by decide +kernel⟩
theorem ok_endM {f : Addr} {fd : FuncData} (F : Fun K "_states_ahead_of_last" "_states_ahead_of_last" sEndM f fd) (B : Bn mg) (En : En mg) : FnOk P w K mg base CX0 1 f fd ["machine"] spEndM := by
  refine F.ok scEndM (fun vs H Q E h => ?_) (fun cdv A outer s H vs Q E hr h => ?_)
  · obtain ⟨t, m, rfl, _⟩ := h
    rfl
  · have hu := hu_of hr
    obtain ⟨t, m, rfl, hm, wf, lm, l5, q⟩ := h
    refine ⟨_, pss_cons (ps_setLc (i := 2) (own := [("_", 1)]) (g := gName 1) (tt := tYes) rfl scEndM.nd rfl rfl rfl (pi_tup (pv 0)) (blkOk_by (N := nEndM) (sc := defScope sEndM) (by decide +kernel))
          (fun _ _ _ _ _ => pg_name (i := 1) scEndM.nd rfl (Or.inl rfl)) (fun _ _ _ _ _ => pts_nil) (fun _ _ _ _ _ => pe_tup pa_nil))
      (pss_cons (ps_for PassesOwn.never rfl (pi_enumT (by rfl) En.en (pa_cons (pv 0) pa_nil)) (pg_tup rfl (pgs_cons (pg_name (i := 3) scEndM.nd rfl (.inl rfl)) (pgs_cons (pg_tup rfl (pgs_cons (pg_name (i := 4) scEndM.nd rfl (.inl rfl)) (pgs_cons (pg_name (i := 1) scEndM.nd rfl (.inl rfl)) pgs_nil))) pgs_nil)))
          (pss_one (ps_lock (ps_for PassesOwn.never rfl (pi_keys (pv 4)) (pg_name (i := 5) scEndM.nd rfl (.inl rfl))
            (pss_one (ps_asg (pe_op op_catB (pe_ix ix_list (pv 2) (pe_dget hu (pv 4) (pv 5) (fun _ _ => rfl)) (fun _ _ => rfl)) (pe_tup (pa_cons (pv 3) pa_nil))) (pg_sub (pv 2) (pe_dget hu (pv 4) (pv 5) (fun _ _ => rfl)) set_list)))))))
      (pss_cons (ps_setLc (i := 6) (own := [("state", 3), ("_", 1), ("last", 10)]) (g := gTup K 2 (gCons (gName 3) (gCons (gTup K 2 (gCons (gName 1) (gCons (gName 10) gNil))) gNil))) rfl scEndM.nd rfl rfl rfl (pi_enumT (by rfl) En.en (pa_cons (pv 0) pa_nil)) (blkOk_by (N := nEndM) (sc := defScope sEndM) (by decide +kernel))
          (fun _ _ _ _ _ => pg_tup rfl (pgs_cons (pg_name (i := 3) scEndM.nd rfl (Or.inl rfl)) (pgs_cons (pg_tup rfl (pgs_cons (pg_name (i := 1) scEndM.nd rfl (Or.inl rfl)) (pgs_cons (pg_name (i := 10) scEndM.nd rfl (Or.inl rfl)) pgs_nil))) pgs_nil))) (fun _ _ _ _ _ => pts_one (pt_val (pv 10))) (fun _ _ _ _ _ => pv 3))
      (pss_cons (ps_set (i := 7) scEndM.nd rfl (.inl rfl) pe_dnewK)
      (pss_cons (ps_for PassesOwn.never rfl (pi_list (pv 6)) (pg_name (i := 3) scEndM.nd rfl (.inl rfl))
          (pss_one (ps_dput hu (pv 7) (pv 3) pe_bl rfl)))
      (pss_cons (ps_set (i := 8) scEndM.nd rfl (.inl rfl) pe_int)
      (pss_cons (ps_while PassesOwn.never (pt_cmpR op_lt (pv 8) (pe_callB call_len_seq (by rfl) B.len PySem.boot_len (pa_cons (pv 6) pa_nil)) (nomark _))
        (pss_cons (ps_set (i := 9) scEndM.nd rfl (.inl rfl) (pe_ix ix_list (pv 6) (pv 8) (fun _ _ => rfl)))
        (pss_cons (ps_for PassesOwn.never rfl (pi_tup (pe_ix ix_list (pv 2) (pv 9) (fun _ _ => rfl))) (pg_name (i := 3) scEndM.nd rfl (.inl rfl))
          (pss_one (ps_if (pt_cmp (pc_dnotin hu (pv 3) (pv 7)))
            (pss_cons (ps_dput hu (pv 7) (pv 3) pe_bl rfl)
            (pss_one (ps_expr (pe_bm PySem.F.plainAttrs_list PySem.F.slot_list_append PySem.F.type_list_append mt_append (pv 6) (pa_cons (pv 3) pa_nil))))) pss_nil)))
        (pss_one (ps_aug (i := 8) scEndM.nd rfl (.inl rfl) pe_int ip_add)))))
      (pss_one (ps_ret (pv 7))))))))), ?_⟩
    have lt1 : ∀ {n : Nat}, n ≤ 4999 → n < sizeLine := fun h1 => by rw [sizeLine_eq]; omega
    have le1 : ∀ {n : Nat}, n ≤ 4999 → n ≤ sizeLine := fun h1 => Nat.le_of_lt (lt1 h1)
    obtain ⟨ss, et, pt⟩ := id hm
    have ls : ss.length = m.length := Paired.length pt
    -- near, empty
    refine ⟨_, rfl, t, rfl, ⟨_, SqT.of et⟩, fun N hN => lc_it (walk_tup (K := K) (a := t) (xs := ss.map V.ref)) (fun i H1 => Same H H1 ∧ NrA H1 N (List.replicate i [])) ⟨Same.new hN, [], upd_same, .nil⟩ (fun i H1 _ h1 => SqT.of (h1.1 _ _ et)) ?_ ?_⟩
    · rintro i x H1 H2 hi ⟨s1, ps, e1, pp⟩ ⟨rfl, hx⟩
      rw [List.length_map] at hi
      refine ⟨rfl, Nat.zero_le _, fun p hp => ?_⟩
      have np : N ≠ p := ne_of_none e1 hp
      have lp := Paired.length pp
      rw [List.length_replicate] at lp
      refine ⟨_, (upd_ne np).trans e1, lt1 (by rw [List.length_map]; omega), Same.upN (s1.trans (Same.new hp)) hN, ps ++ [p], ?_, ?_⟩
      · rw [upd_same, List.map_append]
        rfl
      · rw [List.replicate_succ']
        have k : ∀ q xs, H2 q = some (.tup xs) → (upd (upd H2 p (.tup [])) N (.lst (ps.map V.ref ++ [V.ref p]))) q = some (.tup xs) := fun q xs e => by
          rw [upd_ne (fun c => by rw [c, e1] at e; cases e), upd_ne (ne_of_none e hp)]
          exact e
        refine Paired.appendP (L2.Paired.mapP pp fun q l e => k _ _ e) (.cons ?_ .nil)
        rw [upd_ne np.symm, upd_same]
        rfl
    rintro H1 ⟨s1, n1⟩
    rw [List.length_map, ls] at n1
    -- from which state each one comes
    refine ⟨_, rfl, t, _, rfl, SqT.of (s1 _ _ et), for_it (walk_n (K := K) (k := .t) (a := t) (xs := ss.map V.ref)) (fun k σ H2 => (∃ o1 o3 o4 o5, σ = [some (.ref t), o1, some (.ref N), o3, o4, o5, none, none, none, none, none]) ∧ Same H H2 ∧ NrA H2 N (nearK m k)) ⟨⟨_, _, _, _, rfl⟩, s1, n1⟩ (fun i σ H2 _ h2 => SqT.of (h2.2.1 _ _ et)) ?_ ?_⟩
    · rintro k x σ H2 H3 hk ⟨⟨o1, o3, o4, o5, rfl⟩, s2, n2⟩ ⟨T, y, rfl, hT, rfl, hy⟩
      rw [List.length_map] at hk
      obtain ⟨⟨mv, la⟩, hq, d, g1, g2⟩ := L2.paired_get pt (List.getElem?_eq_getElem hk)
      have emv : mvs m (k : Nat) = mv := by
        unfold mvs
        rw [Int.toNat_natCast, List.getD_eq_getElem?_getD, hq]
        rfl
      have ey : V.ref ss[k] = y := by
        rw [List.getElem?_map, List.getElem?_eq_getElem hk] at hy
        exact Option.some.inj hy
      subst ey
      have nd := emv ▸ mvs_nd wf (k : Nat)
      have km : k < m.length := by omega
      have s3 := s2.trans (Same.new (o := .tup [V.int (k : Nat), V.ref ss[k]]) hT)
      have n3 := n2.keep (Same.new (o := .tup [V.int (k : Nat), V.ref ss[k]]) hT)
      have eT : (upd H2 T (.tup [V.int (k : Nat), V.ref ss[k]])) T = some (.tup [V.int (k : Nat), V.ref ss[k]]) := upd_same
      refine ⟨T, _, rfl, SqT.of eT, rfl, _, _, rfl, _, _, rfl, ?_⟩
      generalize upd H2 T (.tup [V.int (k : Nat), V.ref ss[k]]) = H3 at s3 n3 ⊢
      clear eT hT hy s2 n2 H2
      refine ⟨ss[k], _, rfl, SqT.of (s3 _ _ g1), rfl, _, _, rfl, _, _, rfl, rfl, rfl, ?_⟩
      have e3 := s3 _ _ g2
      have nN : d ≠ N := ne_of_none g2 hN
      refine ⟨d, _, e3, trivial, fun od => ⟨_, rfl, d, od, rfl, .inl ⟨kvsP mv, upd_same, ?_⟩⟩⟩
      have eD : (upd H3 d (.frz od (.dK (kvsP mv)))) d = some (.frz od (.dK (kvsP mv))) := upd_same
      have nL : NrA (upd H3 d (.frz od (.dK (kvsP mv)))) N (nearK m k) := by
        obtain ⟨ps, a, b⟩ := n3
        exact ⟨ps, (upd_ne nN.symm).trans a, L2.Paired.mapP b fun _ _ e => (upd_ne fun c => by rw [c, e3] at e; cases e).trans e⟩
      refine for_it (walk_keys (d := d) (o := od) (kvs := kvsP mv)) (fun j σ H4 => (∃ o5, σ = [some (.ref t), some (.bl la), some (.ref N), some (.int (k : Nat)), some (.ref d), o5, none, none, none, none, none]) ∧ (∀ b o, b ≠ N → (upd H3 d (.frz od (.dK (kvsP mv)))) b = some o → H4 b = some o) ∧ NrA H4 N (((mv.map (·.1)).take j).foldl (addN mv k) (nearK m k))) ⟨⟨_, rfl⟩, fun _ _ _ e => e, nL⟩ (fun j σ H4 _ h4 => h4.2.1 _ _ nN eD) ?_ ?_
      · rintro j x σ H4 H5 hj ⟨⟨o5', rfl⟩, k4, n4⟩ ⟨rfl, ky, vv, hx, rfl⟩
        have hj2 : j < mv.length := by rwa [kvsP_len] at hj
        rw [kvsP_at hj2] at hx
        cases hx
        have sm : mv[j].1 ∈ mv.map (·.1) := List.mem_map.mpr ⟨_, List.getElem_mem hj2, rfl⟩
        have rg := look_rg wf (i := (k : Nat)) (s := mv[j].1) (by rw [emv]; exact sm)
        rw [emv] at rg
        have eD4 := k4 _ _ nN eD
        have gD : ∀ {H : Hp}, H d = some (.frz od (.dK (kvsP mv))) → DGet H d (.str mv[j].1) (some (V.int (look mv mv[j].1))) := fun e => .inl ⟨kvsP mv, Sum.inr mv[j].1, .inr ⟨od, e⟩, rfl, (valP sm).symm⟩
        have tk : ((mv.map (·.1)).take (j + 1)).foldl (addN mv k) (nearK m k) = addN mv k (((mv.map (·.1)).take j).foldl (addN mv k) (nearK m k)) mv[j].1 := by
          rw [List.take_add_one, List.getElem?_map, List.getElem?_eq_getElem hj2, List.foldl_append]
          rfl
        have ok := (foldN_ok (t := mv) (k := k) (n := m.length) km (ks := (mv.map (·.1)).take j) (near_ok wf k (by omega)).1 (fun s hs => by
          have := look_rg wf (i := (k : Nat)) (s := s) (by rw [emv]; exact List.mem_of_mem_take hs)
          rwa [emv] at this)).1
        have nle := foldN_le (t := mv) (k := k) (ks := (mv.map (·.1)).take j) (near_le l5 k)
        have lmv : mv.length ≤ 5 := l5 _ (List.mem_of_getElem? hq)
        rw [List.length_take, List.length_map] at nle
        rw [tk]
        generalize ((mv.map (·.1)).take j).foldl (addN mv k) (nearK m k) = nr at n4 ok nle ⊢
        generalize mv[j].1 = sg at sm rg gD ⊢
        clear tk
        have lr : (look mv sg).toNat < nr.length := by rw [ok.1]; omega
        obtain ⟨ps, p, e1, e2, e5, lp⟩ := n4.at_ lr
        have ix : ixN (ps.map V.ref).length (look mv sg) = some (look mv sg).toNat := by
          unfold ixN
          rw [List.length_map, if_pos rg.1, if_pos (by rw [lp, ok.1]; exact rg.2)]
        have at_ : atI (ps.map V.ref) (look mv sg) = some (.ref p) := by
          unfold atI
          rw [ix]
          exact e2
        refine ⟨_, rfl, _, rfl, _, rfl, d, _, rfl, gD eD4, N, _, _, V.ref p, rfl, rfl, SqL.of e1, at_, _, rfl, le1 (show 1 ≤ 4999 by decide), fun qa hqa => ?_⟩
        have k5 := Same.new (o := .tup [V.int (k : Nat)]) hqa
        have lnr : (nr.getD (look mv sg).toNat []).length ≤ 500 := Nat.le_trans (nle_at nle) (by omega)
        refine ⟨p, qa, _, _, rfl, rfl, k5 _ _ e5, upd_same, le1 (by rw [List.length_map]; show _ + 1 ≤ 4999; omega), fun H6 r s6 e6 => ?_⟩
        have s46 := k5.trans s6
        refine ⟨_, rfl, _, rfl, _, rfl, d, _, rfl, gD (s46 _ _ eD4), N, _, _, _, rfl, rfl, s46 _ _ e1, ix, ⟨_, rfl⟩, fun b o nb e => ?_, ?_⟩
        · rw [upd_ne nb]
          exact s46 _ _ (k4 b o nb e)
        · unfold addN
          have eN6 := s46 _ _ e1
          refine n4.put (q := r) (fun ps' e' => ?_) (fun p xs e => ?_) ?_
          · have : ps = ps' := by
              have := e1.symm.trans e'
              injection this with this
              injection this with this
              exact List.map_inj_right (fun a b h => by injection h) |>.mp this
            subst this
            rw [upd_same, List.map_set]
          · rw [upd_ne fun c => by rw [c, e1] at e; cases e]
            exact s46 _ _ e
          · refine (upd_ne fun c => ?_).trans (e6.trans ?_)
            · rw [c, eN6] at e6
              cases e6
            · rw [List.map_append]
              rfl
      · rintro σ H4 ⟨⟨o5', rfl⟩, k4, n4⟩
        rw [kvsP_len, ← List.length_map (f := (·.1)), List.take_length] at n4
        refine ⟨k4 _ _ nN eD, ⟨_, _, _, _, rfl⟩, unlock_same s3 e3 k4 hN, ?_⟩
        have e : nearK m (k + 1) = (mv.map (·.1)).foldl (addN mv k) (nearK m k) := by
          show ((mvs m (k : Nat)).map (·.1)).foldl (addN (mvs m (k : Nat)) k) (nearK m k) = _
          rw [emv]
        rw [e]
        have e4 := k4 _ _ nN eD
        obtain ⟨ps, a, b⟩ := n4
        exact ⟨ps, (upd_ne nN.symm).trans a, L2.Paired.mapP b fun _ _ e => (upd_ne fun c => by rw [c, e4] at e; cases e).trans e⟩
    rintro σ H2 ⟨⟨o1, o3, o4, o5, rfl⟩, s2, n2⟩
    rw [List.length_map, ls] at n2
    -- the last ones
    refine ⟨_, rfl, t, _, rfl, SqT.of (s2 _ _ et), fun L hL => lc_it (walk_n (K := K) (k := .t) (a := t) (xs := ss.map V.ref)) (fun k H3 => Same H H3 ∧ NrA H3 N (nearK m m.length) ∧ H3 L = some (.lst ((lasts m k).map V.int))) ⟨s2.trans (Same.new hL), n2.keep (Same.new hL), upd_same⟩ (fun i H3 _ h3 => SqT.of (h3.1 _ _ et)) ?_ ?_⟩
    · rintro k x H3 H4 hk ⟨s3, n3, e3⟩ ⟨T, y, rfl, hT, rfl, hy⟩
      rw [List.length_map] at hk
      obtain ⟨⟨mv, la⟩, hq, d, g1, g2⟩ := L2.paired_get pt (List.getElem?_eq_getElem hk)
      have ey : V.ref ss[k] = y := by
        rw [List.getElem?_map, List.getElem?_eq_getElem hk] at hy
        exact Option.some.inj hy
      subst ey
      have ela : lst? m (k : Nat) = la := by
        unfold lst?
        rw [Int.toNat_natCast, List.getD_eq_getElem?_getD, hq]
        rfl
      have s4 := s3.trans (Same.new (o := .tup [V.int (k : Nat), V.ref ss[k]]) hT)
      have k4 := Same.new (o := .tup [V.int (k : Nat), V.ref ss[k]]) hT
      have eT : (upd H3 T (.tup [V.int (k : Nat), V.ref ss[k]])) T = some (.tup [V.int (k : Nat), V.ref ss[k]]) := upd_same
      refine ⟨T, _, rfl, SqT.of eT, rfl, _, _, rfl, _, _, rfl, ss[k], _, rfl, SqT.of (s4 _ _ g1), rfl, _, _, rfl, _, _, rfl, rfl, rfl, rfl, _, rfl, _, rfl, ?_⟩
      generalize upd H3 T (.tup [V.int (k : Nat), V.ref ss[k]]) = H4 at s4 k4 ⊢
      rw [lasts_succ, ela]
      cases la with
      | false =>
        refine iteF ⟨s4, n3.keep k4, ?_⟩
        rw [if_neg (by decide), List.append_nil]
        exact k4 _ _ e3
      | true =>
        have e4 := k4 _ _ e3
        have lk : (lasts m k).length ≤ 40 := by
          unfold lasts
          rw [List.length_map]
          exact Nat.le_trans (List.length_filter_le _ _) (by rw [List.length_range]; omega)
        refine iteT ⟨_, rfl, _, e4, lt1 (by rw [List.length_map]; omega), ?_, ?_, ?_⟩
        · exact Same.upN s4 ((s2.free hL))
        · obtain ⟨ps, a, b⟩ := n3.keep k4
          refine ⟨ps, (upd_ne ?_).trans a, L2.Paired.mapP b fun _ _ e => (upd_ne fun c => by rw [c, e4] at e; cases e).trans e⟩
          obtain ⟨ps2, a2, _⟩ := n2
          exact ne_of_none a2 hL
        · rw [upd_same, if_pos rfl, List.map_append]
          rfl
    rintro H3 ⟨s3, n3, e3⟩
    rw [List.length_map, ls] at e3
    have hL0 := s2.free hL
    have nNL : N ≠ L := by
      obtain ⟨ps2, a2, _⟩ := n2
      exact ne_of_none a2 hL
    have lo := lasts_ok m
    clear s2 n2 hL
    -- the ones that are found at first
    refine fun D hD => ?_
    have hD0 := s3.free hD
    have neDL : D ≠ L := (ne_of_none e3 hD).symm
    have neND : N ≠ D := by
      obtain ⟨ps2, a2, _⟩ := n3
      exact ne_of_none a2 hD
    have k4 := Same.new (o := .dK []) hD
    have B0 : Bfe H (upd H3 D (.dK [])) D L N (nearK m m.length) [] → True := fun _ => trivial
    have e4 := k4 _ _ e3
    refine ⟨_, rfl, L, rfl, ⟨_, SqL.of e4⟩, for_list (xs := (lasts m m.length).map V.int) (fun j σ H5 => (∃ o1 o3 o4 o5, σ = [some (.ref t), o1, some (.ref N), o3, o4, o5, some (.ref L), some (.ref D), none, none, none]) ∧ Same H H5 ∧ NrA H5 N (nearK m m.length) ∧ H5 L = some (.lst ((lasts m m.length).map V.int)) ∧ H5 D = some (.dK (kvsE ((lasts m m.length).take j)))) ⟨⟨_, _, _, _, rfl⟩, s3.trans k4, n3.keep k4, e4, upd_same⟩ (fun j σ H5 _ h5 => SqL.of h5.2.2.2.1) ?_ ?_⟩
    · rintro j x σ H5 hx ⟨⟨o1', o3', o4', o5', rfl⟩, s5, n5, l5', d5⟩
      have jl : j < (lasts m m.length).length := by
        have := (List.getElem?_eq_some_iff.mp hx).1
        rwa [List.length_map] at this
      rw [List.getElem?_map, List.getElem?_eq_getElem jl] at hx
      obtain rfl : V.int (lasts m m.length)[j] = x := Option.some.inj hx
      have nin := not_before lo.nd jl
      have ll := lo.len
      refine ⟨_, rfl, _, rfl, D, _, rfl, DPut.k (k := Sum.inl (lasts m m.length)[j]) d5 (lt1 (by unfold kvsE; rw [List.length_map, List.length_take]; omega)), ⟨_, _, _, _, rfl⟩, Same.upN s5 hD0, ?_, (upd_ne neDL.symm).trans l5', ?_⟩
      · obtain ⟨ps, a, b⟩ := n5
        exact ⟨ps, (upd_ne neND).trans a, L2.Paired.mapP b fun _ _ e => (upd_ne fun c => by rw [c, d5] at e; cases e).trans e⟩
      · rw [kvsE_put nin, upd_same, List.take_add_one, List.getElem?_eq_getElem jl]
        rfl
    rintro σ H5 ⟨⟨o1', o3', o4', o5', rfl⟩, s5, n5, l5', d5⟩
    rw [List.length_map, List.take_length] at d5
    have B5 : Bfe H H5 D L N (nearK m m.length) (lasts m m.length) := ⟨s5, d5, l5', n5⟩
    clear s5 n5 l5' d5 B0 e4 k4 hD e3 s3 n3
    have nk := (near_ok wf m.length (Nat.le_refl _)).1
    have nle := near_le l5 m.length
    -- and those from which they are reached
    refine while_by (fun σ H6 => ∃ (k : Nat) (f : List Int) (o1 o3 o4 o5 o9 : Option V), σ = [some (.ref t), o1, some (.ref N), o3, o4, o5, some (.ref L), some (.ref D), some (.int k), o9, none] ∧ Bfe H H6 D L N (nearK m m.length) f ∧ EOk m.length f ∧ k ≤ f.length ∧ endM m = bfsE (nearK m m.length) (m.length - k) k f)
      (fun σ _ => match σ[8]? with | some (some (V.int k)) => m.length - k.toNat | _ => 0) ?_ ?_ ?_
    · exact ⟨0, _, _, _, _, _, none, rfl, B5, lo, Nat.zero_le _, rfl⟩
    · rintro σ H6 ⟨k, f, p1, p3, p4, p5, p9, rfl, B6, ok, kl, ef⟩
      have fl := ok.len
      refine ⟨_, rfl, _, rfl, L, _, rfl, .inl (SqL.of B6.l), _, _, rfl, rfl, _, rfl, ?_⟩
      rw [List.length_map]
      by_cases hk : k < f.length
      · rw [decide_eq_true (by omega : (k : Int) < (f.length : Nat))]
        obtain ⟨h, hp⟩ : ∃ h, f[k]? = some h := ⟨_, List.getElem?_eq_getElem hk⟩
        have pr := ok.rg h (List.mem_of_getElem? hp)
        have lr : h.toNat < (nearK m m.length).length := by rw [nk.1]; omega
        obtain ⟨ps, p, e1, e2, e5, lp⟩ := B6.n.at_ lr
        have at_ : atI (ps.map V.ref) h = some (.ref p) := at_ofA (j := h.toNat) (by omega) e2
        refine iteT ⟨_, rfl, _, rfl, L, _, _, V.int h, rfl, rfl, SqL.of B6.l, atI_nat (by rw [List.getElem?_map, hp]; rfl), ?_⟩
        refine ⟨_, rfl, _, rfl, N, _, _, V.ref p, rfl, rfl, SqL.of e1, at_, p, rfl, ⟨_, SqT.of e5⟩, for_tup (xs := ((nearK m m.length).getD h.toNat []).map V.int) (fun j σ H7 => (∃ o3, σ = [some (.ref t), p1, some (.ref N), o3, p4, p5, some (.ref L), some (.ref D), some (.int k), some (.int h), none]) ∧ Bfe H H7 D L N (nearK m m.length) ((((nearK m m.length).getD h.toNat []).take j).foldl addE f) ∧ H7 p = some (.tup (((nearK m m.length).getD h.toNat []).map V.int))) ⟨⟨_, rfl⟩, B6, e5⟩ (fun j σ H7 _ h7 => SqT.of h7.2.2) ?_ ?_⟩
        · rintro j x σ H7 hx ⟨⟨o3', rfl⟩, B7, e7⟩
          have jl : j < ((nearK m m.length).getD h.toNat []).length := by
            have := (List.getElem?_eq_some_iff.mp hx).1
            rwa [List.length_map] at this
          rw [List.getElem?_map, List.getElem?_eq_getElem jl] at hx
          obtain rfl : V.int ((nearK m m.length).getD h.toNat [])[j] = x := Option.some.inj hx
          have xr := near_rg nk h.toNat _ (List.getElem_mem jl)
          have tk : (((nearK m m.length).getD h.toNat []).take (j + 1)).foldl addE f = addE ((((nearK m m.length).getD h.toNat []).take j).foldl addE f) ((nearK m m.length).getD h.toNat [])[j] := by
            rw [List.take_add_one, List.getElem?_eq_getElem jl, List.foldl_append]
            rfl
          have fo := (foldE_ok (n := m.length) (l := ((nearK m m.length).getD h.toNat []).take j) ok fun x hx => near_rg nk h.toNat x (List.mem_of_mem_take hx)).1
          rw [tk]
          generalize (((nearK m m.length).getD h.toNat []).take j).foldl addE f = f' at B7 fo ⊢
          generalize ((nearK m m.length).getD h.toNat [])[j] = z at xr ⊢
          have lf := fo.len
          refine ⟨_, rfl, _, rfl, D, _, rfl, DGet.k (k := Sum.inl z) B7.d, _, rfl, ?_⟩
          rw [kvsE_some]
          by_cases hin : z ∈ f'
          · rw [decide_eq_true hin]
            refine iteF ⟨⟨_, rfl⟩, ?_, e7⟩
            unfold addE
            rw [if_pos hin]
            exact B7
          · rw [decide_eq_false hin]
            refine iteT ⟨_, rfl, _, rfl, D, _, rfl, DPut.k (k := Sum.inl z) B7.d (lt1 (by unfold kvsE; rw [List.length_map]; omega)), ?_⟩
            rw [kvsE_put hin]
            have eL7 : (upd H7 D (.dK (kvsE (f' ++ [z])))) L = some (.lst (f'.map V.int)) := (upd_ne neDL.symm).trans B7.l
            refine ⟨_, rfl, .inl ⟨rfl, _, SqL.of eL7⟩, _, rfl, L, _, _, rfl, rfl, eL7, lt1 (by rw [List.length_map]; omega), ⟨_, rfl⟩, ?_, ?_⟩
            · unfold addE
              rw [if_neg hin]
              exact B7.add hD0 hL0 neDL neND nNL
            · have l := B7.l
              have d := B7.d
              refine (upd_ne fun c => ?_).trans ((upd_ne fun c => ?_).trans e7)
              · rw [c, l] at e7
                cases e7
              · rw [c, d] at e7
                cases e7
        · rintro σ H7 ⟨⟨o3', rfl⟩, B7, _⟩
          rw [List.length_map, List.take_length] at B7
          obtain ⟨fo, ⟨r, er⟩, _⟩ := foldE_ok (n := m.length) (l := (nearK m m.length).getD h.toNat []) ok (near_rg nk h.toNat)
          refine ⟨_, rfl, _, _, rfl, rfl, ⟨k + 1, _, p1, o3', p4, p5, some (.int h), rfl, B7, fo, by rw [er, List.length_append]; omega, ?_⟩, ?_⟩
          · rw [ef, show m.length - k = (m.length - (k + 1)) + 1 from by omega]
            exact bfsE_step hp
          · show m.length - ((k : Int) + 1).toNat < m.length - (k : Int).toNat
            omega
      · rw [decide_eq_false (by omega : ¬ (k : Int) < (f.length : Nat))]
        refine iteF ⟨_, rfl, ?_⟩
        have ek : k = f.length := by omega
        have e0 : bfsE (nearK m m.length) (m.length - k) k f = f := by
          have hn : f[k]? = none := by rw [ek]; exact List.getElem?_eq_none (Nat.le_refl _)
          cases e : m.length - k with
          | zero => rfl
          | succ n =>
            unfold bfsE
            rw [hn]
        refine q _ D B6.same hD0 ?_
        rw [ef, e0]
        exact B6.d
    · rintro σ H3 Q1 Q2 hq ⟨v1, h1, v2, h2, a1, ys, e1, e2, i1, j1, e3, e4, b, e5, h⟩
      exact ⟨v1, h1, v2, h2, a1, ys, e1, e2, i1, j1, e3, e4, b, e5, hq _ _ h⟩
end
end Mk

set_option Elab.async false
set_option linter.all false
set_option maxRecDepth 100000
set_option maxHeartbeats 4000000
/-! useful_states, copied -/
namespace Mk
open PySem PySem.Spec L2 PyProof.Rows

/-- a dict that comes new, held from now on -/
def tLockN (td : TE) : TE := fun σ H Q => td σ H fun x H1 => ∃ (d : Addr) (u : HO), x = .ref d ∧ H1 d = some u ∧ Mut (some u) ∧ ∀ od, Q x (upd H1 d (.frz od u))
theorem pe_lockN {X : Cx} {e : Expr} {td : TE} (he : PE X e td) : PE X e (tLockN td) := ⟨fun pins s σ H Q I h => thn (he.run pins s σ H _ I h) fun v s1 ⟨x, H1, I1, rx, d, u, ex, hd, mu, q⟩ => by
  obtain ⟨od, I2⟩ := I1.lock hd mu
  exact ⟨x, _, I2, rx, q od⟩⟩
abbrev sUsef : Stmt := top 23
abbrev nUsef : List Str := ["machine", "ending", "state"]
def spUsef : Sp := fun vs H Q _ => ∃ (t : Addr) (m : Mch), vs = [.ref t] ∧ MAt H t m ∧ WF m ∧ m.length ≤ 40 ∧ 1 ≤ m.length ∧ (∀ q ∈ m, q.1.length ≤ 5) ∧ ∀ H' L, Same H H' → H L = none → H' L = some (.lst ((useful m).map V.int)) → Q (.ref L) H'
abbrev sCopd : Stmt := top 20
abbrev nCopd : List Str := ["machine", "moves", "last", "sign"]
def scCp : Scope := { kind := .function, names := [(".0", .local), ("moves", .cell), ("last", .local), ("sorted", .globalImplicit)], isGenerator := false, isCoroutine := false }
def srtP (t : PTab) : PTab := put t (keysM t)
def srtM (m : Mch) : Mch := m.map fun q => (srtP q.1, q.2)
def spCopd : Sp := fun vs H Q _ => ∃ (t : Addr) (m : Mch), vs = [.ref t] ∧ MAt H t m ∧ WF m ∧ m.length ≤ 40 ∧ (∀ q ∈ m, q.1.length ≤ 5) ∧ ∀ H' r, Same H H' → H r = none → MAt H' r (srtM m) → Q (.ref r) H'
section
variable {P : Program} {w : World} {K : PySem.W.Frag} {mg : Str → Option Value} {base : Heap}
theorem scUsef : FnScope nUsef ["machine"] (defScope sUsef) := ⟨rfl, rfl, rfl, by decide +kernel, rfl, by decide +kernel, by decide +kernel⟩
theorem ok_usef {f fw : Addr} {fd fdw : FuncData} (F : Fun K "useful_states" "useful_states" sUsef f fd) (J : Cd P w K mg base 1 "_states_ahead_of_last" ["machine"] spEndM) (G2 : FnOk P w K mg base CX0 1 fw fdw ["machine", "start"] spFirstW) (m2 : mg "first_words" = some (.ref fw)) (k2 : PySem.W.keepIn K (.ref fw) = true) {ds : List Value} (b2 : Binds K fdw ["machine", "start"] ds) (v2 : Vals [.int 0] ds) :
    FnOk P w K mg base CX0 2 f fd ["machine"] spUsef := by
  obtain ⟨a1, d1, G1, m1, k1, b1⟩ := J.ex
  refine F.ok scUsef (fun vs H Q E h => ?_) (fun cdv A outer s H vs Q E hr h => ?_)
  · obtain ⟨t, m, rfl, _⟩ := h
    rfl
  · have hu := hu_of hr
    obtain ⟨t, m, rfl, hm, wf, lm, l1, l5, q⟩ := h
    refine ⟨_, pss_cons (ps_set (i := 1) scUsef.nd rfl (.inr rfl) (pe_call G1 hr (by rfl) m1 k1 b1 .nil pass0 (pa_cons (pv 0) pa_nil)))
      (pss_one (ps_ret (pe_lc (own := [("state", 2)]) (g := gName 2) rfl scUsef.nd (pi_keys (pe_lockN (pe_call G2 hr (by rfl) m2 k2 b2 v2 pass0 (pa_cons (pv 0) pa_nil)))) (blkOk_by (N := nUsef) (sc := defScope sUsef) (by decide +kernel))
          (fun _ _ _ _ _ => pg_name (i := 2) scUsef.nd rfl (Or.inl rfl)) (fun _ _ _ _ _ => pts_one (pt_cmp (pc_din hu (pv 2) (pv 1)))) (fun _ _ _ _ _ => pv 2)))), ?_⟩
    have lt1 : ∀ {n : Nat}, n ≤ 4999 → n < sizeLine := fun h1 => by rw [sizeLine_eq]; omega
    have h0 : (0 : Int) ≤ 0 ∧ (0 : Int) < m.length := ⟨by omega, by omega⟩
    refine ⟨_, rfl, t, m, rfl, hm, wf, lm, l5, fun H1 D s1 fD eD => ?_⟩
    refine ⟨_, rfl, t, m, 0, rfl, hm.keep s1, wf, lm, l5, h0, fun H2 W s2 fW eW => ⟨W, _, rfl, eW, trivial, fun od => ⟨W, od, rfl, .inl ⟨kvsF (firstW m 0), upd_same, fun L hL => ?_⟩⟩⟩⟩
    have nDW : D ≠ W := ne_of_none eD fW
    have s12 := s1.trans s2
    have sW : Same H (upd H2 W (.frz od (.dK (kvsF (firstW m 0))))) := Same.upN s12 (s1.free fW)
    have eD2 : (upd H2 W (.frz od (.dK (kvsF (firstW m 0))))) D = some (.dK (kvsE (endM m))) := (upd_ne nDW).trans (s2 _ _ eD)
    have eW2 : (upd H2 W (.frz od (.dK (kvsF (firstW m 0))))) W = some (.frz od (.dK (kvsF (firstW m 0)))) := upd_same
    generalize upd H2 W (.frz od (.dK (kvsF (firstW m 0)))) = H3 at sW eD2 eW2 hL ⊢
    have lf := (first_ok wf h0).1.len
    refine lc_it (walk_keys (d := W) (o := od) (kvs := kvsF (firstW m 0))) (fun i H4 => Same H3 H4 ∧ H4 L = some (.lst ((((firstW m 0).take i).map (·.1)).filter (fun i => decide (i ∈ endM m)) |>.map V.int))) ⟨Same.new hL, upd_same⟩ (fun i H4 _ h4 => h4.1 _ _ eW2) ?_ ?_
    · rintro i x H4 H5 hi ⟨s4, e4⟩ ⟨rfl, ky, vv, hx, rfl⟩
      have hi2 : i < (firstW m 0).length := by unfold kvsF at hi; rwa [List.length_map] at hi
      have ek : ky = Sum.inl (firstW m 0)[i].1 := by
        unfold kvsF at hx
        rw [List.getElem?_map, List.getElem?_eq_getElem hi2] at hx
        exact (congrArg Prod.fst (Option.some.inj hx)).symm
      subst ek
      have nx : (((firstW m 0).take (i + 1)).map (·.1)).filter (fun i => decide (i ∈ endM m)) = (((firstW m 0).take i).map (·.1)).filter (fun i => decide (i ∈ endM m)) ++ if (firstW m 0)[i].1 ∈ endM m then [(firstW m 0)[i].1] else [] := by
        rw [List.take_add_one, List.getElem?_eq_getElem hi2, List.map_append, List.filter_append]
        congr 1
        by_cases h : (firstW m 0)[i].1 ∈ endM m
        · simp [h]
        · simp [h]
      refine ⟨rfl, _, rfl, _, rfl, D, _, rfl, DGet.k (k := Sum.inl (firstW m 0)[i].1) (s4 _ _ eD2), _, rfl, ?_⟩
      rw [kvsE_some, nx]
      by_cases hin : (firstW m 0)[i].1 ∈ endM m
      · rw [decide_eq_true hin, if_pos hin]
        have ll : ((((firstW m 0).take i).map (·.1)).filter (fun i => decide (i ∈ endM m))).length ≤ 40 := Nat.le_trans (List.length_filter_le _ _) (by rw [List.length_map, List.length_take]; omega)
        refine iteT ⟨_, rfl, _, e4, lt1 (by rw [List.length_map]; omega), Same.upN s4 hL, ?_⟩
        rw [upd_same, List.map_append]
        rfl
      · rw [decide_eq_false hin, if_neg hin, List.append_nil]
        exact iteF ⟨s4, e4⟩
    · rintro H4 ⟨s4, e4⟩
      have e : ((firstW m 0).take (kvsF (firstW m 0)).length) = firstW m 0 := by unfold kvsF; rw [List.length_map, List.take_length]
      rw [e] at e4
      exact q _ L (sW.trans s4) (sW.free hL) e4
theorem scCopd : FnScope nCopd ["machine"] (defScope sCopd) := ⟨rfl, rfl, rfl, by decide +kernel, rfl, by decide +kernel, by decide +kernel⟩
theorem ok_copd {f : Addr} {fd : FuncData} (F : Fun K "copied" "copied" sCopd f fd) (O : On mg) : FnOk P w K mg base CX0 1 f fd ["machine"] spCopd := by
  refine F.ok scCopd (fun vs H Q E h => ?_) (fun cdv A outer s H vs Q E hr h => ?_)
  · obtain ⟨t, m, rfl, _⟩ := h
    rfl
  · have hu := hu_of hr
    obtain ⟨t, m, rfl, hm, wf, lm, l5, q⟩ := h
    have h3 : A.units + 3 + 60 < cLine := by
      have h2 : A.units + 3 + 16 * 0 + 200 < cLine := hr.un
      omega
    refine ⟨_, pss_one (ps_ret (pe_callTy call_tuple_of (by rfl) O.tuple (by decide +kernel) (pa_cons (pe_lc (own := [("moves", 1), ("last", 2)]) (g := gTup K 2 (gCons (gName 1) (gCons (gName 2) gNil))) (tt := tYes) rfl scCopd.nd (pi_tup (pv 0)) (blkOk_by (N := nCopd) (sc := defScope sCopd) (by decide +kernel))
          (fun _ _ _ _ _ => pg_tup rfl (pgs_cons (pg_name (i := 1) scCopd.nd rfl (Or.inr rfl)) (pgs_cons (pg_name (i := 2) scCopd.nd rfl (Or.inl rfl)) pgs_nil))) (fun _ _ _ _ _ => pts_nil)
          (fun _ _ _ _ _ => pe_tup (pa_cons (pe_dcG putP_ok (own := [("sign", 3)]) (g := gName 3) (tt := tYes) (wi := iList K _) rfl scCopd.nd (by show A.units + 3 + 20 < cLine; omega) (pi_list (pe_callB (call_sortedD rfl) (by rfl) O.sorted (by decide +kernel) (pa_cons (pv 1) pa_nil))) (blkOk_by (N := nCopd) (sc := scCp) (by decide +kernel))
            (fun _ _ _ _ _ => pg_name (i := 3) scCopd.nd rfl (Or.inl rfl)) (fun _ _ _ _ _ => pts_nil) (fun _ _ _ _ _ => pv 3) (fun _ _ _ _ _ => pe_dget hu (pv 1) (pv 3) (fun _ _ => rfl))) (pa_cons (pv 2) pa_nil)))) pa_nil))), ?_⟩
    have lt1 : ∀ {n : Nat}, n ≤ 3999 → n < sizeLine := fun h1 => by rw [sizeLine_eq]; omega
    obtain ⟨ss, et, pt⟩ := id hm
    have ls : ss.length = m.length := Paired.length pt
    have lsm : (srtM m).length = m.length := List.length_map _
    refine ⟨_, rfl, t, rfl, ⟨_, SqT.of et⟩, fun D hD => lc_it (walk_tup (K := K) (a := t) (xs := ss.map V.ref)) (fun i H1 => Same H H1 ∧ ∃ ts : List Addr, H1 D = some (.lst (ts.map V.ref)) ∧ Paired (StA H1) ts ((srtM m).take i)) ⟨Same.new hD, [], upd_same, .nil⟩ (fun i H1 _ h1 => SqT.of (h1.1 _ _ et)) ?_ ?_⟩
    · rintro i x H0 H1 hi ⟨s1, ts, e1, pp⟩ ⟨rfl, hx⟩
      rw [List.length_map] at hi
      obtain ⟨⟨mv, la⟩, hq, d, g1, g2⟩ := L2.paired_get pt (List.getElem?_eq_getElem hi)
      obtain rfl : V.ref ss[i] = x := by
        rw [List.getElem?_map, List.getElem?_eq_getElem hi] at hx
        exact Option.some.inj hx
      have hqm := List.mem_of_getElem? hq
      have nd : (mv.map (·.1)).Nodup := wf.nd _ hqm
      have l6 : mv.length ≤ 5 := l5 _ hqm
      have e2 := s1 _ _ g2
      refine ⟨ss[i], _, rfl, SqT.of (s1 _ _ g1), rfl, _, _, rfl, _, _, rfl, rfl, rfl, ?_⟩
      refine ⟨_, rfl, d, kvsP mv, mv.map (·.1), rfl, .inl e2, kvsP_keys mv, by rw [List.length_map]; omega, fun ys p perm so hp => ?_⟩
      obtain rfl := sorted_keys perm so
      have ndy : (keysM mv).Nodup := perm.nodup_iff.mpr nd
      have ly : (keysM mv).length ≤ 5 := by rw [perm.length_eq, List.length_map]; exact l6
      refine ⟨p, rfl, ⟨_, SqL.of upd_same⟩, fun C hC => ?_⟩
      have ne : C ≠ p := fun e => by rw [e, upd_same] at hC; cases hC
      have hC0 : H1 C = none := by rwa [upd_ne ne] at hC
      refine wk_any (walk_list (K := K) (a := p) (xs := (keysM mv).map V.str)) (fun j H2 => Same H1 H2 ∧ H2 p = some (.lst ((keysM mv).map V.str)) ∧ H2 C = some (.dK (kvsP (put mv ((keysM mv).take j))))) ⟨Same.trans (Same.new hp) (Same.new hC), (upd_ne ne.symm).trans upd_same, upd_same⟩ (fun j H2 _ h2 => SqL.of h2.2.1) ?_ ?_
      · rintro j x H3 H2 hj ⟨hS, hP, hDc⟩ ⟨rfl, hx⟩
        rw [List.length_map] at hj
        obtain rfl : V.str (keysM mv)[j] = x := by
          rw [List.getElem?_map, List.getElem?_eq_getElem hj] at hx
          exact Option.some.inj hx
        have mk : (keysM mv)[j] ∈ mv.map (·.1) := perm.mem_iff.mp (List.getElem_mem hj)
        have nin : (keysM mv)[j] ∉ (put mv ((keysM mv).take j)).map (·.1) := by
          rw [put_keys]
          exact not_before ndy hj
        refine ⟨rfl, _, rfl, _, rfl, _, rfl, d, V.int (look mv (keysM mv)[j]), rfl, .inl ⟨kvsP mv, Sum.inr (keysM mv)[j], .inl (hS _ _ e2), rfl, (valP mk).symm⟩, _, Sum.inr (keysM mv)[j], rfl, hDc, ?_, ?_⟩
        · rw [kvsP_len]
          unfold put
          rw [List.length_map, List.length_take]
          exact Nat.lt_of_lt_of_le (by omega : min j (keysM mv).length < 3999) (Nat.le_of_lt (lt1 (Nat.le_refl _)))
        · refine ⟨Same.upN hS hC0, (upd_ne ne.symm).trans hP, ?_⟩
          rw [upd_same, putP_new nin, take_put mv hj]
      · rintro H2 ⟨hS, hP, hDc⟩
        rw [List.length_map, List.take_length] at hDc
        refine ⟨_, rfl, (by show 2 ≤ sizeLine; decide), fun s' hs' => ?_⟩
        have k3 := hS.trans (Same.new (o := .tup [V.ref C, V.bl la]) hs')
        have e3 := k3 _ _ e1
        have lts := Paired.length pp
        rw [List.length_take] at lts
        refine ⟨_, e3, lt1 (by rw [List.length_map]; omega), Same.upN (s1.trans k3) hD, ts ++ [s'], by rw [upd_same, List.map_append]; rfl, ?_⟩
        have nx : (srtM m).take (i + 1) = (srtM m).take i ++ [(srtP mv, la)] := by
          have : (srtM m)[i]? = some (srtP mv, la) := by
            unfold srtM
            rw [List.getElem?_map, hq]
            rfl
          rw [List.take_add_one, this]
          rfl
        rw [nx]
        have kU : ∀ b o, b ≠ D → (upd H2 s' (.tup [V.ref C, V.bl la])) b = some o → (upd (upd H2 s' (.tup [V.ref C, V.bl la])) D (.lst (ts.map V.ref ++ [V.ref s']))) b = some o := fun b o n e => (upd_ne n).trans e
        have nsD : s' ≠ D := fun c => by rw [c, hS _ _ e1] at hs'; cases hs'
        have nCD : C ≠ D := fun c => by rw [c, e1] at hC0; cases hC0
        have nsC : C ≠ s' := ne_of_none hDc hs'
        refine Paired.appendP (L2.Paired.mapP pp fun b q ⟨d', a1, a2⟩ => ⟨d', kU _ _ (fun c => by rw [c, e1] at a1; cases a1) (k3 _ _ a1), kU _ _ (fun c => by rw [c, e1] at a2; cases a2) (k3 _ _ a2)⟩) (.cons ⟨C, kU _ _ nsD upd_same, kU _ _ nCD ((upd_ne nsC).trans hDc)⟩ .nil)
    rintro H1 ⟨s1, ts, e1, pp⟩
    rw [List.length_map, ls, ← lsm, List.take_length] at pp
    dsimp only [tNil]
    refine ⟨D, _, rfl, .inl ⟨SqL.of e1, fun p hp => ?_⟩⟩
    have k2 := Same.new (o := .tup (ts.map V.ref)) hp
    exact q _ p (s1.trans k2) (s1.free hp) ⟨ts, upd_same, L2.Paired.mapP pp fun _ _ e => e.keep k2⟩
end
end Mk

set_option Elab.async false
set_option linter.all false
set_option maxRecDepth 100000
set_option maxHeartbeats 4000000
/-! _is_state, is_machine_of_form -/
namespace Mk
open PySem PySem.Spec L2 PyProof.Rows

abbrev sIsSt : Stmt := top 28
abbrev nIsSt : List Str := ["value", "many", "moves", "last", "sign"]
abbrev sIsMF : Stmt := top 19
abbrev nIsMF : List Str := ["value", "most", "state"]
structure StOk (n : Nat) (q : PTab × Bool) : Prop where
  nd : (q.1.map (·.1)).Nodup
  sg : ∀ p ∈ q.1, sgB p.1 = true
  to : ∀ p ∈ q.1, 0 ≤ p.2 ∧ p.2 < n
  l5 : q.1.length ≤ 5
theorem WF.st {m : Mch} (w : WF m) (l5 : ∀ q ∈ m, q.1.length ≤ 5) : ∀ q ∈ m, StOk m.length q := fun q hq => ⟨w.nd q hq, w.sg q hq, w.to q hq, l5 q hq⟩
def spIsSt : Sp := fun vs H Q _ => ∃ (s : Addr) (q : PTab × Bool) (n : Nat), vs = [.ref s, .int n] ∧ StA H s q ∧ StOk n q ∧ n ≤ 100 ∧ ∀ H', Same H H' → Q (.bl true) H'
def spIsMF : Sp := fun vs H Q _ => ∃ (t : Addr) (m : Mch) (n : Nat), vs = [.ref t, .int n] ∧ MAt H t m ∧ GoodM m ∧ m.length ≤ n ∧ n ≤ 40 ∧ (∀ q ∈ m, q.1.length ≤ 5) ∧ ∀ H', Same H H' → Q (.bl true) H'
theorem all_true : ∀ n : Nat, (List.replicate n true).all id = true := fun n => by
  rw [List.all_eq_true]
  intro x hx
  rw [List.eq_of_mem_replicate hx]
  rfl
theorem nw_small {i : Int} {n : Nat} (h0 : 0 ≤ i) (h1 : i < n) (hn : n ≤ 100) : nwB i 0 ((n : Int) - 1) = true := by
  unfold nwB nuB LG
  simp only [Bool.and_eq_true, decide_eq_true_eq]
  have e : (1000 : Int) ≤ 10 ^ 60 - 1 := by decide
  refine ⟨?_, by omega, by omega⟩
  first | omega | exact ⟨by omega, by omega⟩
section
variable {P : Program} {w : World} {K : PySem.W.Frag} {mg : Str → Option Value} {base : Heap}
theorem scIsSt : FnScope nIsSt ["value", "many"] (defScope sIsSt) := ⟨rfl, rfl, rfl, by decide +kernel, rfl, by decide +kernel, by decide +kernel⟩
theorem ok_isSt {f : Addr} {fd : FuncData} (F : Fun K "_is_state" "_is_state" sIsSt f fd) (B : Bn mg) (W : Wn mg) (O : On mg) (N : Nn mg) (Dd : Dn mg) (J : Cd P w K mg base 1 "is_sign" ["value"] (spJudge sgB K)) (J2 : Cd P w K mg base 2 "is_number_within" ["value", "least", "most"] spIsNumW) : FnOk P w K mg base CX0 3 f fd ["value", "many"] spIsSt := by
  obtain ⟨a1, d1, G1, m1, k1, b1⟩ := J.ex
  obtain ⟨a2, d2, G2, m2, k2, b2⟩ := J2.ex
  refine F.ok scIsSt (fun vs H Q E h => ?_) (fun cdv A outer s H vs Q E hr h => ?_)
  · obtain ⟨s, q, n, rfl, _⟩ := h
    rfl
  · have hu : A.units + 3 + 1 < cLine := by
      have h2 : A.units + 3 + 16 * 2 + 200 < cLine := hr.un
      omega
    obtain ⟨s, ⟨mv, la⟩, n, rfl, ⟨d, e1, e2⟩, ok, hn, q⟩ := h
    have r1 : Room 1 _ := hr.mono (by decide)
    refine ⟨_, pss_cons (ps_if (PW.pt (pw_or (pt_not (pt_val (pe_callB call_isi (by rfl) W.isi (by decide +kernel) (pa_cons (pv 0) (pa_cons (pe_bltn (v := .ty "tuple") (u := .type "tuple") (by rfl) O.tuple (by decide +kernel) rfl) pa_nil))))) (pw_or1 (pt_cmpR op_ne (pe_callB call_len_seq (by rfl) B.len PySem.boot_len (pa_cons (pv 0) pa_nil)) pe_int (nomark _))))) (pss_one (ps_ret pe_bl)) pss_nil)
      (pss_cons (ps_asg (pv 0) (pg_tup rfl (pgs_cons (pg_name (i := 2) scIsSt.nd rfl (.inr rfl)) (pgs_cons (pg_name (i := 3) scIsSt.nd rfl (.inl rfl)) pgs_nil))))
      (pss_cons (ps_if (PW.pt (pw_or (pt_not (pt_val (pe_callB call_isi (by rfl) W.isi (by decide +kernel) (pa_cons (pv 2) (pa_cons (pe_bltn (v := .ty "dict") (u := .type "dict") (by rfl) Dd.dict (by decide +kernel) rfl) pa_nil))))) (pw_or1 (pt_not (pt_val (pe_callB call_isi (by rfl) W.isi (by decide +kernel) (pa_cons (pv 3) (pa_cons (pe_bltn (v := .ty "bool") (u := .type "bool") (by rfl) N.bool (by decide +kernel) rfl) pa_nil)))))))) (pss_one (ps_ret pe_bl)) pss_nil)
      (pss_one (ps_ret (pe_callB (cr_all rfl) (by rfl) O.all (by decide +kernel) (pa_cons (pe_lock (pe_lc (own := [("sign", 4)]) (g := gName 4) (tt := tYes) rfl scIsSt.nd (pi_keys (pv 2)) (blkOk_by (N := nIsSt) (sc := defScope sIsSt) (by decide +kernel))
          (fun _ _ _ _ _ => pg_name (i := 4) scIsSt.nd rfl (Or.inl rfl)) (fun _ _ _ _ _ => pts_nil)
          (fun _ _ _ _ _ => pe_and (pe_call G1 r1 (by rfl) m1 k1 b1 .nil pass0 (pa_cons (pv 4) pa_nil)) (pe_one (pe_call G2 hr (by rfl) m2 k2 b2 .nil pass0 (pa_cons (pe_dget hu (pv 2) (pv 4) (fun _ _ => rfl)) (pa_cons pe_int (pa_cons (pe_op op_sub (pv 1) pe_int) pa_nil)))))))) pa_nil)))))), ?_⟩
    have lt1 : ∀ {n : Nat}, n ≤ 3999 → n < sizeLine := fun h1 => by rw [sizeLine_eq]; omega
    refine ⟨_, rfl, _, _, _, _, true, rfl, .ty "tuple", .base (.tup e1), kit_ty (by decide +kernel), _, rfl, iteF ?_⟩
    refine ⟨_, rfl, s, _, rfl, .inr (SqT.of e1), rfl, _, rfl, iteF ?_⟩
    refine ⟨_, rfl, s, _, rfl, SqT.of e1, rfl, _, _, rfl, _, _, rfl, rfl, ?_⟩
    refine ⟨_, rfl, _, _, _, _, true, rfl, .ty "dict", .base (.dK e2), kit_ty (by decide +kernel), _, rfl, iteF ?_⟩
    refine ⟨_, rfl, _, _, _, _, true, rfl, .ty "bool", .base (.bl la), kit_ty (by decide +kernel), _, rfl, iteF ?_⟩
    refine ⟨d, _, e2, trivial, fun od => ⟨_, rfl, d, od, rfl, .inl ⟨kvsP mv, upd_same, fun D hD => ?_⟩⟩⟩
    have eL : (upd H d (.frz od (.dK (kvsP mv)))) d = some (.frz od (.dK (kvsP mv))) := upd_same
    have nD : d ≠ D := ne_of_none eL hD
    have kL : ∀ b o, b ≠ d → H b = some o → (upd H d (.frz od (.dK (kvsP mv)))) b = some o := fun b o n e => (upd_ne n).trans e
    generalize hHL : upd H d (.frz od (.dK (kvsP mv))) = HL at eL kL hD ⊢
    refine wk_any (walk_keys (d := d) (o := od) (kvs := kvsP mv)) (fun i H1 => Same HL H1 ∧ H1 D = some (.lst ((List.replicate i true).map V.bl))) ⟨Same.new hD, upd_same⟩ (fun i H1 _ h1 => h1.1 _ _ eL) ?_ ?_
    · rintro i x H1 H2 hi ⟨s1, l1⟩ ⟨rfl, ky, vv, hx, rfl⟩
      have hi2 : i < mv.length := by rwa [kvsP_len] at hi
      rw [kvsP_at hi2] at hx
      cases hx
      have l5 := ok.l5
      have l5 : mv.length ≤ 5 := l5
      have pm := List.getElem_mem hi2
      have sm : mv[i].1 ∈ mv.map (·.1) := List.mem_map.mpr ⟨_, pm, rfl⟩
      have hs := ok.sg _ pm
      have ht := ok.to _ pm
      have e := look_mem ok.nd _ pm
      refine ⟨rfl, _, rfl, _, rfl, .inl ⟨mv[i].1, rfl, by rw [one_of hs]; decide, _, rfl, ?_⟩⟩
      rw [hs]
      refine iteT ⟨_, rfl, _, rfl, d, V.int (look mv mv[i].1), rfl, .inl ⟨kvsP mv, Sum.inr mv[i].1, .inr ⟨od, s1 _ _ eL⟩, rfl, (valP sm).symm⟩, _, rfl, _, _, rfl, rfl, look mv mv[i].1, 0, (n : Int) - 1, rfl, ?_⟩
      rw [e, nw_small ht.1 ht.2 hn]
      refine ⟨_, l1, lt1 (by rw [List.length_map, List.length_replicate]; omega), Same.upN s1 hD, ?_⟩
      rw [upd_same, List.replicate_succ', List.map_append]
      rfl
    · rintro H1 ⟨s1, l1⟩
      refine ⟨s1 _ _ eL, ?_⟩
      have back : Same H (upd H1 d (.dK (kvsP mv))) := fun b o e => by
        by_cases c : b = d
        · subst c
          rw [e2] at e
          cases e
          exact upd_same
        · rw [upd_ne c]
          exact s1 _ _ (kL b o c e)
      refine ⟨D, _, rfl, SqL.of ((upd_ne nD.symm).trans l1), ?_⟩
      rw [all_true]
      exact q _ back
theorem scIsMF : FnScope nIsMF ["value", "most"] (defScope sIsMF) := ⟨rfl, rfl, rfl, by decide +kernel, rfl, by decide +kernel, by decide +kernel⟩
theorem ok_isMF {f : Addr} {fd : FuncData} (F : Fun K "is_machine_of_form" "is_machine_of_form" sIsMF f fd) (B : Bn mg) (W : Wn mg) (O : On mg) (J : Cd P w K mg base 3 "_is_state" ["value", "many"] spIsSt) (J2 : Cd P w K mg base 2 "useful_states" ["machine"] spUsef) : FnOk P w K mg base CX0 4 f fd ["value", "most"] spIsMF := by
  obtain ⟨a1, d1, G1, m1, k1, b1⟩ := J.ex
  obtain ⟨a2, d2, G2, m2, k2, b2⟩ := J2.ex
  refine F.ok scIsMF (fun vs H Q E h => ?_) (fun cdv A outer s H vs Q E hr h => ?_)
  · obtain ⟨t, m, n, rfl, _⟩ := h
    rfl
  · obtain ⟨t, m, n, rfl, hm, g, lm, hn, l5, q⟩ := h
    have r2 : Room 2 _ := hr.mono (by decide)
    refine ⟨_, pss_cons (ps_if (PW.pt (pw_or (pt_not (pt_val (pe_callB call_isi (by rfl) W.isi (by decide +kernel) (pa_cons (pv 0) (pa_cons (pe_bltn (v := .ty "tuple") (u := .type "tuple") (by rfl) O.tuple (by decide +kernel) rfl) pa_nil))))) (pw_or1 (pt_not (pt_chain op_le op_le pe_int (pe_callB call_len_seq (by rfl) B.len PySem.boot_len (pa_cons (pv 0) pa_nil)) (pv 1)))))) (pss_one (ps_ret pe_bl)) pss_nil)
      (pss_cons (ps_if (pt_not (pt_val (pe_callB (cr_all rfl) (by rfl) O.all (by decide +kernel) (pa_cons (pe_lc (own := [("state", 2)]) (g := gName 2) (tt := tYes) rfl scIsMF.nd (pi_tup (pv 0)) (blkOk_by (N := nIsMF) (sc := defScope sIsMF) (by decide +kernel))
          (fun _ _ _ _ _ => pg_name (i := 2) scIsMF.nd rfl (Or.inl rfl)) (fun _ _ _ _ _ => pts_nil)
          (fun _ _ _ _ _ => pe_call G1 hr (by rfl) m1 k1 b1 .nil pass0 (pa_cons (pv 2) (pa_cons (pe_callB (call_lenK K) (by rfl) B.len PySem.boot_len (pa_cons (pv 0) pa_nil)) pa_nil)))) pa_nil)))) (pss_one (ps_ret pe_bl)) pss_nil)
      (pss_one (ps_ret (pe_cmpR op_eq (pe_callB call_len_seq (by rfl) B.len PySem.boot_len (pa_cons (pe_call G2 r2 (by rfl) m2 k2 b2 .nil pass0 (pa_cons (pv 0) pa_nil)) pa_nil)) (pe_callB call_len_seq (by rfl) B.len PySem.boot_len (pa_cons (pv 0) pa_nil)) (nomark _))))), ?_⟩
    have lt1 : ∀ {n : Nat}, n ≤ 3999 → n < sizeLine := fun h1 => by rw [sizeLine_eq]; omega
    obtain ⟨ss, et, pt⟩ := id hm
    have ls : ss.length = m.length := Paired.length pt
    have ne := g.ne
    refine ⟨_, rfl, _, _, _, _, true, rfl, .ty "tuple", .base (.tup et), kit_ty (by decide +kernel), _, rfl, iteF ?_⟩
    refine ⟨_, rfl, t, _, rfl, .inr (SqT.of et), _, _, rfl, rfl, _, rfl, ?_⟩
    rw [List.length_map, ls, decide_eq_true (by omega : (1 : Int) ≤ (m.length : Nat))]
    refine iteT ⟨_, rfl, _, _, rfl, rfl, _, rfl, ?_⟩
    rw [decide_eq_true (by omega : ((m.length : Nat) : Int) ≤ (n : Nat))]
    refine iteF ?_
    refine ⟨_, rfl, t, rfl, ⟨_, SqT.of et⟩, fun D hD => wk_any (walk_tup (K := K) (a := t) (xs := ss.map V.ref)) (fun i H1 => Same H H1 ∧ H1 D = some (.lst ((List.replicate i true).map V.bl))) ⟨Same.new hD, upd_same⟩ (fun i H1 _ h1 => SqT.of (h1.1 _ _ et)) ?_ ?_⟩
    · rintro i x H1 H2 hi ⟨s1, l1⟩ ⟨rfl, hx⟩
      rw [List.length_map] at hi
      obtain ⟨⟨mv, la⟩, hq, d, g1, g2⟩ := L2.paired_get pt (List.getElem?_eq_getElem hi)
      obtain rfl : V.ref ss[i] = x := by
        rw [List.getElem?_map, List.getElem?_eq_getElem hi] at hx
        exact Option.some.inj hx
      refine ⟨rfl, _, rfl, _, rfl, t, _, rfl, .inr (SqT.of (s1 _ _ et)), ss[i], (mv, la), m.length, by show [V.ref ss[i], V.int (((ss.map V.ref).length : Nat) : Int)] = _; rw [List.length_map, ls], ⟨d, s1 _ _ g1, s1 _ _ g2⟩, g.wf.st l5 _ (List.mem_of_getElem? hq), by omega, fun H3 s3 => ?_⟩
      refine ⟨_, s3 _ _ l1, lt1 (by rw [List.length_map, List.length_replicate]; omega), Same.upN (s1.trans s3) hD, ?_⟩
      rw [upd_same, List.replicate_succ', List.map_append]
      rfl
    rintro H1 ⟨s1, l1⟩
    refine ⟨D, _, rfl, SqL.of l1, ?_⟩
    rw [all_true]
    refine ⟨_, rfl, iteF ?_⟩
    refine ⟨_, rfl, t, m, rfl, hm.keep s1, g.wf, by omega, ne, l5, fun H2 L s2 fL eL => ?_⟩
    refine ⟨L, _, rfl, .inl (SqL.of eL), _, rfl, t, _, rfl, .inr (SqT.of (s2 _ _ (s1 _ _ et))), rfl, ?_⟩
    rw [List.length_map, List.length_map, useful_len g, ls, decide_eq_true rfl]
    exact q _ (s1.trans s2)
end
end Mk

set_option Elab.async false
set_option linter.all false
set_option maxRecDepth 100000
set_option maxHeartbeats 4000000
/-! Form: __init__, states, __len__; check_form, check_sizes; a value that is a number or not -/
namespace Mk
open PySem PySem.Spec L2 PyProof.Rows

abbrev sFInit : Stmt := inClass (top 46) 0
abbrev sFSt : Stmt := inClass (top 46) 3
structure Fc (K : PySem.W.Frag) (C : Addr) : Prop where
  cl : Cls K C
  n : NoAttr K C "_states"
/-- the form at x -/
def FmAt (C : Addr) (H : Hp) (x : Addr) (m : Mch) : Prop := ∃ dx t : Addr, H x = some (.ins C dx [("_states", V.ref t)]) ∧ MAt H t m
theorem FmAt.keep {C : Addr} {H H' : Hp} {x : Addr} {m : Mch} (k : Same H H') (h : FmAt C H x m) : FmAt C H' x m := by
  obtain ⟨dx, t, a, b⟩ := h
  exact ⟨dx, t, k _ _ a, b.keep k⟩
theorem fld_st (t : Addr) : List.lookup ("_states" : Str) [("_states", V.ref t)] = some (V.ref t) := by
  simp [List.lookup]
def spFInit (C : Addr) : Sp := fun vs H Q _ => ∃ (x dx t : Addr) (m : Mch), vs = [.ref x, .ref t] ∧ H x = some (.ins C dx []) ∧ MAt H t m ∧ GoodM m ∧ m.length ≤ 8 ∧ (∀ q ∈ m, q.1.length ≤ 5) ∧ ∀ H', But x H H' → FmAt C H' x (srtM m) → Q .non H'
def spFSt (C : Addr) : Sp := fun vs H Q _ => ∃ (x : Addr) (m : Mch), vs = [.ref x] ∧ FmAt C H x m ∧ WF m ∧ m.length ≤ 40 ∧ (∀ q ∈ m, q.1.length ≤ 5) ∧ ∀ H' r, Same H H' → H r = none → MAt H' r (srtM m) → Q (.ref r) H'
/-- what the text's classes must have -/
structure Kn (K : PySem.W.Frag) (mg : Str → Option Value) (C CB : Addr) : Prop where
  mB : mg "Built" = some (.ref CB)
  mC : mg "Form" = some (.ref C)
  tB : PySem.W.kitOne K (.type "tuple") (.ref CB) = some false
  tC : PySem.W.kitOne K (.ref C) (.ref C) = some true
  w8 : ∃ t, mg "MAX_WRITTEN" = some (.int 8 t)
  own : ∀ {H : Hp} {x dx : Addr} {fs : List (Str × V)}, H x = some (.ins C dx fs) → TyX K H (.ref x) (.ref C)
section
variable {P : Program} {w : World} {K : PySem.W.Frag} {mg : Str → Option Value} {base : Heap}
variable {C CB : Addr}
theorem scFInit : FnScope ["self", "states"] ["self", "states"] (defScope sFInit) := ⟨rfl, rfl, rfl, by decide +kernel, rfl, by decide +kernel, by decide +kernel⟩
theorem ok_fInit {f : Addr} {fd : FuncData} (F : Fun K "__init__" "Form.__init__" sFInit f fd) (T : Fc K C) (W : Wn mg) (Z : Kn K mg C CB) (J : Cd P w K mg base 4 "is_machine_of_form" ["value", "most"] spIsMF) (J2 : Cd P w K mg base 1 "copied" ["machine"] spCopd) : FnOk P w K mg base CX0 5 f fd ["self", "states"] (spFInit C) := by
  obtain ⟨a1, d1, G1, m1, k1, b1⟩ := J.ex
  obtain ⟨a2, d2, G2, m2, k2, b2⟩ := J2.ex
  obtain ⟨tw, w8⟩ := Z.w8
  refine F.ok scFInit (fun vs H Q E h => ?_) (fun cdv A outer s H vs Q E hr h => ?_)
  · obtain ⟨x, dx, t, m, rfl, _⟩ := h
    rfl
  · obtain ⟨x, dx, t, m, rfl, hx, hm, g, lm, l5, q⟩ := h
    have r1 : Room 1 _ := hr.mono (by decide)
    refine ⟨_, pss_one (ps_if (pt_val (pe_callB call_isi (by rfl) W.isi (by decide +kernel) (pa_cons (pv 1) (pa_cons (pe_glob (v := .ref CB) (by rfl) Z.mB rfl) pa_nil)))) (pss_one ps_never)
      (pss_one (ps_if (pt_val (pe_call G1 hr (by rfl) m1 k1 b1 .nil pass0 (pa_cons (pv 1) (pa_cons (pe_glob (v := .int 8) (by rfl) w8 ⟨_, rfl⟩) pa_nil)))) (pss_one (ps_fld (pv 0) (pe_call G2 r1 (by rfl) m2 k2 b2 .nil pass0 (pa_cons (pv 1) pa_nil)) rfl)) (pss_one ps_never)))), ?_⟩
    obtain ⟨ss, et, pt⟩ := id hm
    have ne : x ≠ t := ne_of hx et (fun z => nomatch z)
    refine ⟨_, rfl, _, _, _, _, false, rfl, .own CB, .base (.tup et), Z.tB, _, rfl, iteF ?_⟩
    refine ⟨_, rfl, t, m, 8, rfl, hm, g, lm, by decide, l5, fun H1 s1 => ⟨_, rfl, iteT ?_⟩⟩
    refine ⟨_, rfl, t, m, rfl, hm.keep s1, g.wf, by omega, l5, fun H2 r s2 hr2 hm2 => ?_⟩
    have hx2 := s2 _ _ (s1 _ _ hx)
    refine ⟨_, rfl, x, C, dx, [], rfl, hx2, T.cl, T.n, by show 0 < 1000; decide, ?_⟩
    refine q _ (fun b o nb e => ?_) ⟨dx, r, ?_, ?_⟩
    · rw [upd_ne nb]
      exact s2 _ _ (s1 _ _ e)
    · rw [upd_same]
      rfl
    · have hb : ∀ b o, b ≠ x → H2 b = some o → (upd H2 x (.ins C dx (putF "_states" (V.ref r) []))) b = some o := fun b o nb e => (upd_ne nb).trans e
      obtain ⟨ts, e3, p3⟩ := hm2
      refine ⟨ts, hb _ _ (fun e => by rw [e, hx2] at e3; cases e3) e3, L2.Paired.mapP p3 fun u v ⟨d, h1, h2⟩ => ⟨d, hb _ _ (fun e => by rw [e, hx2] at h1; cases h1) h1, hb _ _ (fun e => by rw [e, hx2] at h2; cases h2) h2⟩⟩
theorem scFSt : FnScope ["self"] ["self"] (defScope sFSt) := ⟨rfl, rfl, rfl, by decide +kernel, rfl, by decide +kernel, by decide +kernel⟩
theorem ok_fSt {f : Addr} {fd : FuncData} (F : Fun K "states" "Form.states" sFSt f fd) (T : Fc K C) (J2 : Cd P w K mg base 1 "copied" ["machine"] spCopd) : FnOk P w K mg base CX0 2 f fd ["self"] (spFSt C) := by
  obtain ⟨a2, d2, G2, m2, k2, b2⟩ := J2.ex
  refine F.ok scFSt (fun vs H Q E h => ?_) (fun cdv A outer s H vs Q E hr h => ?_)
  · obtain ⟨x, m, rfl, _⟩ := h
    rfl
  · obtain ⟨x, m, rfl, ⟨dx, t, hx, hm⟩, wf, lm, l5, q⟩ := h
    refine ⟨_, pss_one (ps_ret (pe_call G2 hr (by rfl) m2 k2 b2 .nil pass0 (pa_cons (pe_fld (pv 0) rfl) pa_nil))), ?_⟩
    exact ⟨_, rfl, x, C, dx, _, _, rfl, hx, T.cl, T.n, fld_st t, t, m, rfl, hm, wf, lm, l5, q⟩
end
end Mk

set_option Elab.async false
set_option linter.all false
set_option maxRecDepth 100000
set_option maxHeartbeats 1000000
/-! words read by a machine -/
namespace Mk
open PySem L2

/-- the state behind a sign -/
def stp (m : Mch) (i : Int) (s : Str) : Option Int := if s ∈ (mvs m i).map (·.1) then some (look (mvs m i) s) else none
def led (m : Mch) : Int → List Str → Option Int
  | i, [] => some i
  | i, s :: ss => match stp m i s with
    | none => none
    | some j => led m j ss
/-- the states that are passed -/
def wlk (m : Mch) : Int → List Str → List Int
  | i, [] => [i]
  | i, s :: ss => match stp m i s with
    | none => [i]
    | some j => i :: wlk m j ss
def acc (m : Mch) (i : Int) (ss : List Str) : Bool := match led m i ss with
  | none => false
  | some j => lst? m j
theorem stp_rg {m : Mch} (w : WF m) {i j : Int} {s : Str} (h : stp m i s = some j) : 0 ≤ j ∧ j < m.length := by
  unfold stp at h
  split at h
  · rename_i hs
    cases h
    exact look_rg w hs
  · cases h
theorem stp_mem {m : Mch} (w : WF m) {i j : Int} {s : Str} : stp m i s = some j ↔ (s, j) ∈ mvs m i := by
  unfold stp
  constructor
  · intro h
    split at h
    · rename_i hs
      cases h
      exact look_in (mvs_nd w i) hs
    · cases h
  · intro h
    rw [if_pos (List.mem_map.mpr ⟨_, h, rfl⟩), look_mem (mvs_nd w i) _ h]
theorem led_app (m : Mch) : ∀ (a b : List Str) (i : Int), led m i (a ++ b) = (led m i a).bind fun j => led m j b
  | [], b, i => rfl
  | s :: a, b, i => by
    show (match stp m i s with | none => none | some j => led m j (a ++ b)) = (match stp m i s with | none => none | some j => led m j a).bind _
    cases stp m i s with
    | none => rfl
    | some j => exact led_app m a b j
theorem led_rg {m : Mch} (w : WF m) : ∀ (a : List Str) (i j : Int), (0 ≤ i ∧ i < m.length) → led m i a = some j → 0 ≤ j ∧ j < m.length
  | [], i, j, hi, h => by cases h; exact hi
  | s :: a, i, j, hi, h => by
    have h : (match stp m i s with | none => none | some j => led m j a) = some j := h
    cases e : stp m i s with
    | none => rw [e] at h; cases h
    | some k => rw [e] at h; exact led_rg w a k j (stp_rg w e) h
theorem led_snoc (m : Mch) (a : List Str) (s : Str) (i : Int) : led m i (a ++ [s]) = (led m i a).bind fun j => stp m j s := by
  rw [led_app]
  congr 1
  funext j
  show (match stp m j s with | none => none | some k => some k) = _
  cases stp m j s <;> rfl
theorem wlk_ne (m : Mch) : ∀ (a : List Str) (i : Int), wlk m i a ≠ []
  | [], i => by unfold wlk; exact List.cons_ne_nil _ _
  | s :: a, i => by
    unfold wlk
    split <;> exact List.cons_ne_nil _ _
/-- the walk ends early, or is whole -/
theorem wlk_led (m : Mch) : ∀ (a : List Str) (i : Int), match led m i a with
    | none => (wlk m i a).length < a.length + 1
    | some j => (wlk m i a).length = a.length + 1 ∧ (wlk m i a).getLast? = some j
  | [], i => ⟨rfl, rfl⟩
  | s :: a, i => by
    unfold led wlk
    cases e : stp m i s with
    | none => show 1 < a.length + 1 + 1; omega
    | some k =>
      have ih := wlk_led m a k
      show (match led m k a with | none => _ | some j => _)
      cases e2 : led m k a with
      | none =>
        rw [e2] at ih
        show (wlk m k a).length + 1 < a.length + 1 + 1
        have ih : (wlk m k a).length < a.length + 1 := ih
        omega
      | some j =>
        rw [e2] at ih
        refine ⟨by show (wlk m k a).length + 1 = a.length + 1 + 1; rw [ih.1], ?_⟩
        show (i :: wlk m k a).getLast? = some j
        rw [List.getLast?_cons, ih.2]
        rfl
/-- as far as all signs have led somewhere -/
theorem wlk_app (m : Mch) : ∀ (a b : List Str) (i j : Int), led m i a = some j → wlk m i (a ++ b) = (wlk m i a).dropLast ++ wlk m j b
  | [], b, i, j, h => by cases h; rfl
  | s :: a, b, i, j, h => by
    have h : (match stp m i s with | none => none | some j => led m j a) = some j := h
    show (match stp m i s with | none => [i] | some k => i :: wlk m k (a ++ b)) = (match stp m i s with | none => [i] | some k => i :: wlk m k a).dropLast ++ _
    cases e : stp m i s with
    | none => rw [e] at h; cases h
    | some k =>
      rw [e] at h
      show i :: wlk m k (a ++ b) = (i :: wlk m k a).dropLast ++ _
      rw [wlk_app m a b k j h, List.dropLast_cons_of_ne_nil (wlk_ne m a k)]
      rfl
theorem wlk_last {m : Mch} {a : List Str} {i j : Int} (h : led m i a = some j) : (wlk m i a).dropLast ++ [j] = wlk m i a := by
  have := wlk_app m a [] i j h
  rw [List.append_nil] at this
  exact this.symm
theorem wlk_snoc {m : Mch} {a : List Str} {i j k : Int} {s : Str} (h : led m i a = some j) (e : stp m j s = some k) : wlk m i (a ++ [s]) = wlk m i a ++ [k] := by
  rw [wlk_app m a [s] i j h]
  show _ ++ (match stp m j s with | none => [j] | some l => [j, l]) = _
  rw [e, ← wlk_last h, List.append_assoc]
  simp [wlk_last h]
theorem wlk_stop {m : Mch} {a b : List Str} {i j : Int} {s : Str} (h : led m i a = some j) (e : stp m j s = none) : wlk m i (a ++ s :: b) = wlk m i a := by
  rw [wlk_app m a (s :: b) i j h]
  show _ ++ (match stp m j s with | none => [j] | some l => j :: wlk m l b) = _
  rw [e]
  exact wlk_last h
end Mk

set_option Elab.async false
set_option linter.all false
set_option maxRecDepth 100000
set_option maxHeartbeats 4000000
/-! rows: is_row_of, is_row, _check_row, _check_row_of -/
namespace Mk
open PySem PySem.Spec L2 PyProof.Rows

section
variable {P : Program} {w : World} {K : PySem.W.Frag} {mg : Str → Option Value} {base : Heap} {C CB : Addr}
end
end Mk

set_option Elab.async false
set_option linter.all false
set_option maxRecDepth 100000
set_option maxHeartbeats 4000000
/-! rows: cut, cut_row, is_above, stands_above, end_cost -/
namespace Mk
open PySem PySem.Spec L2 PyProof.Rows

structure Zn (mg : Str → Option Value) : Prop where
  zip : mg "zip" = none
section
variable {P : Program} {w : World} {K : PySem.W.Frag} {mg : Str → Option Value} {base : Heap} {C CB : Addr}
end
end Mk

set_option Elab.async false
set_option linter.all false
set_option maxRecDepth 100000
set_option maxHeartbeats 4000000
/-! the urn -/
namespace Mk
open PySem PySem.Spec L2 PyProof.Rows

section
variable {P : Program} {w : World} {K : PySem.W.Frag} {mg : Str → Option Value} {base : Heap}
end
end Mk

set_option Elab.async false
set_option linter.all false
set_option maxRecDepth 100000
set_option maxHeartbeats 4000000
/-! the law's signs, the form of a plain one, its end's cost, odd values -/
namespace Mk
open PySem PySem.Spec L2 PyProof.Rows

section
variable {P : Program} {w : World} {K : PySem.W.Frag} {mg : Str → Option Value} {base : Heap} {C CB : Addr}
end
end Mk

set_option Elab.async false
set_option linter.all false
set_option maxRecDepth 100000
set_option maxHeartbeats 4000000
/-! odd values, is it a number -/
namespace Mk
open PySem PySem.Spec L2 PyProof.Rows

section
variable {P : Program} {w : World} {K : PySem.W.Frag} {mg : Str → Option Value} {base : Heap} {C CB : Addr}
end
end Mk

set_option Elab.async false
set_option linter.all false
set_option maxRecDepth 100000
set_option maxHeartbeats 2000000
/-! dict(enumerate(t)) of a tuple of whole numbers -/
namespace Mk
open PySem PySem.Spec PyProof.Rows L2
section
variable {prog : Program} {w : World} {A : Around} {E : Value → Shared → Prop} {s : Shared}
end
section
variable {X : Cx}
end
end Mk

set_option Elab.async false
set_option linter.all false
set_option maxRecDepth 100000
set_option maxHeartbeats 4000000
/-! values near a row -/
namespace Mk
open PySem PySem.Spec L2 PyProof.Rows

def rSlC : V → Option Int → Option Int → Hp → VK → Prop := fun x lo hi H Q => ∃ a xs, x = .ref a ∧ H a = some (.tup xs) ∧ ∀ H' p, Same H H' → H' p = some (.tup (cutV xs lo hi)) → Q (.ref p) H'
theorem cut_wholeC {xs : List V} {lo hi : Option Int} (h : HT.sIx xs.length 0 lo = 0 ∧ HT.sIx xs.length xs.length hi = xs.length) : cutV xs lo hi = xs := by
  unfold cutV
  rw [h.1, h.2]
  simp
theorem sl_tupC {X : Cx} : SlR X rSlC := by
  intro pins s σ H x v vl vu lo hi sl Q I rx hs pl pu h
  obtain ⟨a, xs, rfl, hx, q⟩ := h
  exact sl_tupA pins s σ H _ v vl vu lo hi sl Q I rx hs pl pu ⟨a, xs, rfl, SqT.of hx, fun hw => q H a (Same.refl _) (by rw [cut_wholeC hw]; exact hx), fun _ p hp => q _ p (Same.new hp) upd_same⟩
section
variable {P : Program} {w : World} {K : PySem.W.Frag} {mg : Str → Option Value} {base : Heap} {C CB : Addr}
end
end Mk

set_option Elab.async false
set_option linter.all false
set_option maxRecDepth 100000
set_option maxHeartbeats 2000000
/-! l == [] -/
namespace Mk
open PySem PySem.Spec PyProof.Rows L2
section
variable {X : Cx}
end
end Mk

set_option Elab.async false
set_option linter.all false
set_option maxRecDepth 100000
set_option maxHeartbeats 4000000
/-! judged right -/
namespace Mk
open PySem PySem.Spec L2 PyProof.Rows

section
variable {P : Program} {w : World} {K : PySem.W.Frag} {mg : Str → Option Value} {base : Heap} {C CB : Addr}
end
end Mk

set_option Elab.async false
set_option linter.all false
set_option maxRecDepth 100000
set_option maxHeartbeats 4000000
/-! two rows right -/
namespace Mk
open PySem PySem.Spec L2 PyProof.Rows

section
variable {P : Program} {w : World} {K : PySem.W.Frag} {mg : Str → Option Value} {base : Heap} {C CB : Addr}
end
end Mk

set_option Elab.async false
set_option linter.all false
set_option maxRecDepth 100000
set_option maxHeartbeats 2000000
/-! plain forms: their mathematics -/
namespace Mk
open PySem L2

theorem mem_set_or {m : Mch} {i : Nat} {q r : PTab × Bool} (h : r ∈ m.set i q) : r ∈ m ∨ r = q := by
  rcases List.mem_or_eq_of_mem_set h with h | h
  · exact .inl h
  · exact .inr h
end Mk

set_option Elab.async false
set_option linter.all false
set_option maxRecDepth 100000
set_option maxHeartbeats 2000000
/-! plain forms: their heap -/
namespace Mk
open PySem PySem.Spec L2 PyProof.Rows

theorem valP_is (t : PTab) (s : Str) : (valV (kvsP t) (Sum.inr s)).isSome = decide (s ∈ t.map (·.1)) := by
  by_cases c : s ∈ t.map (·.1)
  · rw [valP c, decide_eq_true c]
    rfl
  · rw [decide_eq_false c]
    unfold valV
    rw [Option.isSome_map]
    rw [Bool.eq_false_iff]
    intro h
    obtain ⟨x, hx⟩ := Option.isSome_iff_exists.mp h
    have h1 := List.mem_of_find?_eq_some hx
    have h2 := List.find?_some hx
    have h2 : decide (x.1 = Sum.inr s) = true := h2
    rw [decide_eq_true_eq] at h2
    have h3 : x.1 ∈ (kvsP t).map (·.1) := List.mem_map.mpr ⟨x, h1, rfl⟩
    rw [kvsP_keys, h2] at h3
    obtain ⟨y, hy, e⟩ := List.mem_map.mp h3
    cases e
    exact c hy
end Mk

set_option Elab.async false
set_option linter.all false
set_option maxRecDepth 100000
set_option maxHeartbeats 4000000
/-! _state_at, walked, has_word, __contains__ -/
namespace Mk
open PySem PySem.Spec L2 PyProof.Rows

abbrev sStAt : Stmt := top 29
abbrev sWlkd : Stmt := top 26
abbrev sHasW : Stmt := top 27
abbrev sFCon : Stmt := inClass (top 46) 26
abbrev nWlkd : List Str := ["machine", "word", "start", "states", "sign", "to"]
def oV : Option Int → V
  | none => .non
  | some i => .int i
def spStAt : Sp := fun vs H Q _ => ∃ (t : Addr) (m : Mch) (s : Str), (∃ i : Int, vs = [.ref t, .int i, .str s] ∧ MAt H t m ∧ (0 ≤ i ∧ i < m.length) ∧ Q (oV (stp m i s)) H) ∨ (vs = [.ref t, .non, .str s] ∧ Q .non H)
def spWlkd : Sp := fun vs H Q _ => ∃ (t : Addr) (m : Mch) (i : Int) (z : Str), vs = [.ref t, .str z, .int i] ∧ MAt H t m ∧ WF m ∧ (0 ≤ i ∧ i < m.length) ∧ z.length ≤ 4000 ∧ ∀ H' r, Same H H' → H r = none → H' r = some (.tup ((wlk m i (sgs z)).map V.int)) → Q (.ref r) H'
def spHasW : Sp := fun vs H Q _ => ∃ (t : Addr) (m : Mch) (z : Str), vs = [.ref t, .str z] ∧ MAt H t m ∧ WF m ∧ 1 ≤ m.length ∧ z.length ≤ 4000 ∧ ∀ H', Same H H' → Q (.bl (acc m 0 (sgs z))) H'
def spFCon (C : Addr) (K : PySem.W.Frag) : Sp := fun vs H Q _ => ∃ (x : Addr) (m : Mch) (v : V), vs = [.ref x, v] ∧ FmAt C H x m ∧ WF m ∧ 1 ≤ m.length ∧ ((∃ z : Str, v = .str z ∧ z.length ≤ 4000 ∧ ∀ H', Same H H' → Q (.bl (wB z && acc m 0 (sgs z))) H') ∨ (NoStr K H v ∧ Q (.bl false) H))
section
variable {P : Program} {w : World} {K : PySem.W.Frag} {mg : Str → Option Value} {base : Heap} {C : Addr}
theorem val_stp {m : Mch} {i : Int} {s : Str} : (valV (kvsP (mvs m i)) (Sum.inr s)) = (stp m i s).map V.int := by
  unfold stp
  by_cases h : s ∈ (mvs m i).map (·.1)
  · rw [if_pos h, valP h]
    rfl
  · rw [if_neg h]
    have e := valP_is (mvs m i) s
    rw [decide_eq_false h] at e
    exact Option.isNone_iff_eq_none.mp (by rw [← Option.not_isSome, e]; rfl)
theorem scStAt : FnScope ["machine", "state", "sign"] ["machine", "state", "sign"] (defScope sStAt) := ⟨rfl, rfl, rfl, by decide +kernel, rfl, by decide +kernel, by decide +kernel⟩
theorem ok_stAt {f : Addr} {fd : FuncData} (F : Fun K "_state_at" "_state_at" sStAt f fd) : FnOk P w K mg base CX0 1 f fd ["machine", "state", "sign"] spStAt := by
  refine F.ok scStAt (fun vs H Q E h => ?_) (fun cdv A outer s H vs Q E hr h => ?_)
  · obtain ⟨t, m, z, ⟨i, rfl, _⟩ | ⟨rfl, _⟩⟩ := h <;> rfl
  · have hu := hu_of hr
    obtain ⟨t, m, z, h⟩ := h
    refine ⟨_, pss_one (ps_ret (pe_ifExp (pt_cmp (pc_isN (pv 1))) pe_non (pe_dget1 hu (pe_ix ix_tup (pe_ix ix_tup (pv 0) (pv 1) (fun _ _ => rfl)) pe_int (fun _ _ => rfl)) (pv 2) ⟨rfl, rfl, rfl, rfl⟩))), ?_⟩
    rcases h with ⟨i, rfl, hm, hi, q⟩ | ⟨rfl, q⟩
    · obtain ⟨ss, s', d, g1, e2, g3, g4⟩ := hm.at_ hi
      refine ⟨_, rfl, _, rfl, iteF ⟨_, rfl, _, rfl, t, _, _, _, rfl, rfl, SqT.of g1, e2, s', _, 0, _, rfl, rfl, SqT.of g3, at_ofA (j := 0) rfl rfl, d, rfl, .inl ⟨_, .inl g4⟩, _, rfl, _, .inl ⟨_, Sum.inr z, .inl g4, rfl, rfl⟩, ?_⟩⟩
      rw [val_stp]
      cases e : stp m i z with
      | none => rw [e] at q; exact q
      | some j => rw [e] at q; exact q
    · exact ⟨_, rfl, _, rfl, iteT q⟩
theorem wlk_at {m : Mch} {a : List Str} {i j : Int} (h : led m i a = some j) : atI ((wlk m i a).map V.int) (-1) = some (V.int j) := by
  have := congrArg (List.map V.int) (wlk_last h)
  rw [List.map_append] at this
  exact atI_neg1 this.symm
theorem scWlkd : FnScope nWlkd ["machine", "word", "start"] (defScope sWlkd) := ⟨rfl, rfl, rfl, by decide +kernel, rfl, by decide +kernel, by decide +kernel⟩
theorem ok_wlkd {f : Addr} {fd : FuncData} (F : FunD K "walked" "walked" (defArgs sWlkd) (defBody sWlkd) (defScope sWlkd) [.int 0] [] f fd) (O : On mg) (J : Cd P w K mg base 1 "_state_at" ["machine", "state", "sign"] spStAt) : FnOk P w K mg base CX0 2 f fd ["machine", "word", "start"] spWlkd := by
  obtain ⟨a1, d1, G1, m1, k1, b1⟩ := J.ex
  refine F.ok scWlkd (fun vs H Q E h => ?_) (fun cdv A outer s H vs Q E hr h => ?_)
  · obtain ⟨t, m, i, z, rfl, _⟩ := h
    rfl
  · obtain ⟨t, m, i, z, rfl, hm, wf, hi, lz, q⟩ := h
    refine ⟨_, PSs.nox (pss_cons (ps_set (i := 3) scWlkd.nd rfl (.inl rfl) (pe_lst (pa_cons (pv 2) pa_nil)))
      (pss_cons (ps_for PassesOwn.never rfl (pi_str (pv 1)) (pg_name (i := 4) scWlkd.nd rfl (.inl rfl))
        (pss_cons (ps_set (i := 5) scWlkd.nd rfl (.inl rfl) (pe_call G1 hr (by rfl) m1 k1 b1 .nil pass0 (pa_cons (pv 0) (pa_cons (pe_ix ix_list (pv 3) (pe_un un_neg pe_int) (fun _ _ => rfl)) (pa_cons (pv 4) pa_nil)))))
        (pss_cons (ps_if (pt_cmp (pc_isN (pv 5))) (pss_one (ps_ret (pe_callTy call_tuple_of (by rfl) O.tuple (by decide +kernel) (pa_cons (pv 3) pa_nil)))) pss_nil)
        (pss_one (ps_expr (pe_bm PySem.F.plainAttrs_list PySem.F.slot_list_append PySem.F.type_list_append mt_append (pv 3) (pa_cons (pv 5) pa_nil)))))))
      (pss_one (ps_ret (pe_callTy call_tuple_of (by rfl) O.tuple (by decide +kernel) (pa_cons (pv 3) pa_nil)))))), ?_⟩
    have n1 : 1 ≤ sizeLine := by decide
    have lw : (sgs z).length = z.length := sgs_length z
    refine ⟨_, rfl, n1, fun L hL => ?_⟩
    have sL := Same.new (o := .lst [V.int i]) hL
    refine ⟨_, rfl, z, rfl, for_it (walk_str (z := z)) (fun k σ H1 => ∃ j o4 o5, σ = [some (.ref t), some (.str z), some (.int i), some (.ref L), o4, o5] ∧ Same H H1 ∧ led m i ((sgs z).take k) = some j ∧ H1 L = some (.lst ((wlk m i ((sgs z).take k)).map V.int))) ⟨i, _, _, rfl, sL, rfl, upd_same⟩ (fun _ _ _ _ _ => trivial) ?_ ?_⟩
    · rintro k v σ H1 H2 hk ⟨j, o4, o5, rfl, s1, hl, e1⟩ ⟨rfl, ch, hc, rfl⟩
      have hs := sgs_at hc
      have nx : (sgs z).take (k + 1) = (sgs z).take k ++ [⟨#[ch]⟩] := by
        rw [List.take_add_one, hs]
        rfl
      have spl : sgs z = (sgs z).take k ++ ⟨#[ch]⟩ :: (sgs z).drop (k + 1) := by
        have hk2 := (List.getElem?_eq_some_iff.mp hs)
        conv => lhs; rw [← List.take_append_drop k (sgs z), List.drop_eq_getElem_cons hk2.1, hk2.2]
      generalize (⟨#[ch]⟩ : Str) = sg at nx spl ⊢
      have hj := led_rg wf _ _ _ hi hl
      have ll := wlk_led m ((sgs z).take k) i
      rw [hl] at ll
      obtain ⟨ll1, ll2⟩ := ll
      have lk : ((sgs z).take k).length ≤ 4000 := by rw [List.length_take]; omega
      have eat : atI ((wlk m i ((sgs z).take k)).map V.int) (-1) = some (V.int j) := wlk_at hl
      refine ⟨_, rfl, _, rfl, _, rfl, L, _, _, _, rfl, rfl, SqL.of e1, eat, _, rfl, t, m, sg, .inl ⟨j, rfl, hm.keep s1, hj, ?_⟩⟩
      cases e : stp m j sg with
      | none =>
        refine ⟨_, rfl, _, rfl, iteT ⟨_, rfl, L, _, rfl, .inl ⟨SqL.of e1, fun p hp => ?_⟩⟩⟩
        refine q _ p (s1.trans (Same.new hp)) (s1.free hp) ?_
        have e2 := wlk_stop (b := (sgs z).drop (k + 1)) hl e
        rw [← spl] at e2
        rw [upd_same, e2]
      | some j2 =>
        refine ⟨_, rfl, _, rfl, iteF ⟨_, rfl, .inl ⟨rfl, _, SqL.of e1⟩, _, rfl, L, _, _, rfl, rfl, e1, ?_, ⟨j2, _, _, rfl, Same.upN s1 hL, ?_, ?_⟩⟩⟩
        · rw [List.length_map, ll1, sizeLine_eq]
          omega
        · rw [nx, led_snoc, hl]
          exact e
        · rw [upd_same, nx, wlk_snoc hl e, List.map_append]
          rfl
    rintro σ H1 ⟨j, o4, o5, rfl, s1, hl, e1⟩
    rw [show z.cps.size = (sgs z).length from (sgs_length z).symm, List.take_length] at e1
    refine ⟨_, rfl, L, _, rfl, .inl ⟨SqL.of e1, fun p hp => ?_⟩⟩
    exact q _ p (s1.trans (Same.new hp)) (s1.free hp) upd_same
theorem scHasW : FnScope ["machine", "word", "states"] ["machine", "word"] (defScope sHasW) := ⟨rfl, rfl, rfl, by decide +kernel, rfl, by decide +kernel, by decide +kernel⟩
theorem ok_hasW {f fw : Addr} {fd fdw : FuncData} (F : Fun K "has_word" "has_word" sHasW f fd) (B : Bn mg) (G2 : FnOk P w K mg base CX0 2 fw fdw ["machine", "word", "start"] spWlkd) (m2 : mg "walked" = some (.ref fw)) (k2 : PySem.W.keepIn K (.ref fw) = true) {ds : List Value} (b2 : Binds K fdw ["machine", "word", "start"] ds) (v2 : Vals [.int 0] ds) : FnOk P w K mg base CX0 3 f fd ["machine", "word"] spHasW := by
  refine F.ok scHasW (fun vs H Q E h => ?_) (fun cdv A outer s H vs Q E hr h => ?_)
  · obtain ⟨t, m, z, rfl, _⟩ := h
    rfl
  · obtain ⟨t, m, z, rfl, hm, wf, l1, lz, q⟩ := h
    refine ⟨_, pss_cons (ps_set (i := 2) scHasW.nd rfl (.inl rfl) (pe_call G2 hr (by rfl) m2 k2 b2 v2 pass0 (pa_cons (pv 0) (pa_cons (pv 1) pa_nil))))
      (pss_one (ps_ret (pe_and (pe_cmpR op_eq (pe_callB call_len_seq (by rfl) B.len PySem.boot_len (pa_cons (pv 2) pa_nil)) (pe_op op_add (pe_callB call_len_str (by rfl) B.len PySem.boot_len (pa_cons (pv 1) pa_nil)) pe_int) (nomark _)) (pe_one (pe_ix ix_tup (pe_ix ix_tup (pv 0) (pe_ix ix_tup (pv 2) (pe_un un_neg pe_int) (fun _ _ => rfl)) (fun _ _ => rfl)) pe_int (fun _ _ => rfl)))))), ?_⟩
    have h0 : (0 : Int) ≤ 0 ∧ (0 : Int) < m.length := ⟨by omega, by omega⟩
    refine ⟨_, rfl, _, rfl, t, m, 0, z, rfl, hm, wf, h0, lz, fun H1 r s1 fr er => ?_⟩
    have lw : (sgs z).length = z.length := sgs_length z
    have ll := wlk_led m (sgs z) 0
    refine ⟨_, rfl, r, _, rfl, .inr (SqT.of er), _, rfl, z, rfl, by rw [sizeLine_eq]; omega, _, _, rfl, rfl, rfl, _, rfl, ?_⟩
    rw [List.length_map]
    cases e : led m 0 (sgs z) with
    | none =>
      rw [e] at ll
      have ll : (wlk m 0 (sgs z)).length < (sgs z).length + 1 := ll
      have ea : acc m 0 (sgs z) = false := by unfold acc; rw [e]
      rw [ea] at q
      rw [decide_eq_false (fun h => by injection h with h; omega)]
      exact iteF (q _ s1)
    | some j =>
      rw [e] at ll
      obtain ⟨ll1, ll2⟩ := ll
      have ea : acc m 0 (sgs z) = lst? m j := by unfold acc; rw [e]
      rw [ea] at q
      rw [decide_eq_true (congrArg V.int (by omega))]
      have eat : atI ((wlk m 0 (sgs z)).map V.int) (-1) = some (V.int j) := wlk_at e
      obtain ⟨ss, s', d, g1, e2, g3, g4⟩ := (hm.keep s1).at_ (led_rg wf _ _ _ h0 e)
      refine iteT ⟨_, rfl, _, rfl, _, rfl, r, _, _, _, rfl, rfl, SqT.of er, eat, t, _, _, _, rfl, rfl, SqT.of g1, e2, s', _, 1, _, rfl, rfl, SqT.of g3, at_ofA (j := 1) rfl rfl, q _ s1⟩
theorem scFCon : FnScope ["self", "value"] ["self", "value"] (defScope sFCon) := ⟨rfl, rfl, rfl, by decide +kernel, rfl, by decide +kernel, by decide +kernel⟩
theorem ok_fCon {f : Addr} {fd : FuncData} (F : Fun K "__contains__" "Form.__contains__" sFCon f fd) (T : Fc K C) (J : Cd P w K mg base 1 "is_word" ["value"] (spJudge wB K)) (J2 : Cd P w K mg base 3 "has_word" ["machine", "word"] spHasW) : FnOk P w K mg base CX0 4 f fd ["self", "value"] (spFCon C K) := by
  obtain ⟨a1, d1, G1, m1, k1, b1⟩ := J.ex
  obtain ⟨a2, d2, G2, m2, k2, b2⟩ := J2.ex
  refine F.ok scFCon (fun vs H Q E h => ?_) (fun cdv A outer s H vs Q E hr h => ?_)
  · obtain ⟨x, m, v, rfl, _⟩ := h
    rfl
  · obtain ⟨x, m, v, rfl, hx, wf, l1, h⟩ := h
    refine ⟨_, pss_one (ps_ret (pe_and (pe_call G1 (hr.mono (by decide)) (by rfl) m1 k1 b1 .nil pass0 (pa_cons (pv 1) pa_nil)) (pe_one (pe_call G2 hr (by rfl) m2 k2 b2 .nil pass0 (pa_cons (pe_fld (pv 0) rfl) (pa_cons (pv 1) pa_nil)))))), ?_⟩
    obtain ⟨dx, t, e1, hm⟩ := hx
    rcases h with ⟨z, rfl, lz, q⟩ | ⟨nn, q⟩
    · refine ⟨_, rfl, .str z, rfl, .inl ⟨z, rfl, by omega, _, rfl, ?_⟩⟩
      cases hb : wB z with
      | false =>
        rw [hb] at q
        exact iteF (q _ fun _ _ e => e)
      | true =>
        rw [hb] at q
        exact iteT ⟨_, rfl, x, C, dx, _, _, rfl, e1, T.cl, T.n, fld_st t, _, rfl, t, m, z, rfl, hm, wf, l1, lz, q⟩
    · exact ⟨_, rfl, v, rfl, .inr ⟨nn, _, rfl, iteF q⟩⟩
end
end Mk

set_option Elab.async false
set_option linter.all false
set_option maxRecDepth 100000
set_option maxHeartbeats 8000000
/-! plain forms: the def -/
namespace Mk
open PySem PySem.Spec L2 PyProof.Rows

abbrev nPF : List Str := ["_law_urn_here", "_law_signs", "_law_most", "_law_count", "_law_at", "_law_rows", "_law_spot", "_law_sign", "_law_row", "_law_good", "_law_turn", "_law_one", "_law_to"]
section
variable {X : Cx}
end
section
variable {P : Program} {w : World} {K : PySem.W.Frag} {mg : Str → Option Value} {base : Heap} {C CB : Addr}
end
end Mk

set_option Elab.async false
set_option linter.all false
set_option maxRecDepth 100000
set_option maxHeartbeats 4000000
/-! word_counts, count -/
namespace Mk
open PySem PySem.Spec L2 PyProof.Rows

abbrev sCnts : Stmt := top 34
abbrev sFCnt : Stmt := inClass (top 46) 8
abbrev nCnts : List Str := ["machine", "many", "_", "counts", "shorter", "last", "moves", "to"]
def scW2 : Scope := { kind := .function, names := [(".0", .local), ("moves", .local), ("_", .local), ("sum", .globalImplicit), ("shorter", .cell)], isGenerator := false, isCoroutine := false }
section
variable {X : Cx}
theorem cr_sumK (K : PySem.W.Frag) (hc : X.calm = true := by rfl) (hK : X.K = K := by rfl) : CallR X (.builtin "sum") (rSum K) := by
  subst hK
  exact cr_sum hc
end
/-- how many words of n signs lead from i to a last state -/
def cnt (m : Mch) : Nat → Int → Int
  | 0, i => if lst? m i = true then 1 else 0
  | n + 1, i => ((mvs m i).map fun p => cnt m n p.2).sum
def cntR (m : Mch) (n : Nat) : List Int := (ups m.length).map (cnt m n)
/-- the rows of counts -/
def CtAt (H : Hp) (L : Addr) (m : Mch) (k : Nat) : Prop := ∃ rs : List Addr, H L = some (.lst (rs.map V.ref)) ∧ Paired (fun (r : Addr) (n : Nat) => H r = some (.lst ((cntR m n).map V.int))) rs (List.range k)
def spCnts : Sp := fun vs H Q _ => ∃ (t : Addr) (m : Mch) (n : Nat), vs = [.ref t, .int n] ∧ MAt H t m ∧ WF m ∧ m.length ≤ 40 ∧ (∀ q ∈ m, q.1.length ≤ 5) ∧ n ≤ 200 ∧ ∀ H' L, Same H H' → H L = none → CtAt H' L m (n + 1) → Q (.ref L) H'
def spFCnt (C : Addr) : Sp := fun vs H Q _ => ∃ (x : Addr) (m : Mch) (n : Nat), vs = [.ref x, .int n] ∧ FmAt C H x m ∧ WF m ∧ 1 ≤ m.length ∧ m.length ≤ 40 ∧ (∀ q ∈ m, q.1.length ≤ 5) ∧ n ≤ 200 ∧ ∀ H', Same H H' → Q (.int (cnt m n 0)) H'
theorem ups_at {n k : Nat} (h : k < n) : (ups n)[k]? = some (k : Int) := by
  unfold ups
  rw [List.getElem?_map, List.getElem?_range h]
  rfl
theorem cntR_at {m : Mch} {n : Nat} {i : Int} (h : 0 ≤ i ∧ i < m.length) : atI ((cntR m n).map V.int) i = some (V.int (cnt m n i)) := by
  refine at_ofA (j := i.toNat) (by omega) ?_
  unfold cntR
  rw [List.map_map, List.getElem?_map, ups_at (by omega)]
  show some (V.int (cnt m n ((i.toNat : Nat) : Int))) = _
  rw [show ((i.toNat : Nat) : Int) = i from by omega]
theorem nw_smallN {i a b : Int} (h1 : a ≤ i) (h2 : i ≤ b) (h3 : 0 ≤ i) (h4 : i ≤ 10000) : nwB i a b = true := by
  unfold nwB nuB LG
  simp only [Bool.and_eq_true, decide_eq_true_eq]
  have e : (10001 : Int) ≤ 10 ^ 60 - 1 := by decide
  refine ⟨?_, by omega, by omega⟩
  first | omega | exact ⟨by omega, by omega⟩
theorem refint {rs : List Addr} {ns : List Int} (h : 0 < rs.length) (e : some (HO.lst (rs.map V.ref)) = some (HO.lst (ns.map V.int))) : False := by
  have e := Option.some.inj e
  injection e with e
  cases rs with
  | nil => cases h
  | cons r rs =>
    cases ns with
    | nil => cases e
    | cons n ns => cases e
theorem cntR_len {m : Mch} {n : Nat} : (cntR m n).length = m.length := by
  unfold cntR
  rw [List.length_map, ups_len]
theorem cntR_take {m : Mch} {n k : Nat} (h : k < m.length) : (cntR m n).take (k + 1) = (cntR m n).take k ++ [cnt m n (k : Int)] := by
  unfold cntR
  rw [List.take_add_one, List.getElem?_map, ups_at h]
  rfl
theorem mvs_at {m : Mch} {k : Nat} {q : PTab × Bool} (h : m[k]? = some q) : mvs m (k : Int) = q.1 ∧ lst? m (k : Int) = q.2 := by
  unfold mvs lst?
  rw [Int.toNat_natCast, List.getD_eq_getElem?_getD, h]
  exact ⟨rfl, rfl⟩
section
variable {P : Program} {w : World} {K : PySem.W.Frag} {mg : Str → Option Value} {base : Heap} {C : Addr}
theorem scCnts : FnScope nCnts ["machine", "many"] (defScope sCnts) := ⟨rfl, rfl, rfl, by decide +kernel, rfl, by decide +kernel, by decide +kernel⟩
theorem ok_cnts {f : Addr} {fd : FuncData} (F : Fun K "word_counts" "word_counts" sCnts f fd) (B : Bn mg) (Sm : mg "sum" = none) : FnOk P w K mg base CX0 1 f fd ["machine", "many"] spCnts := by
  refine F.ok scCnts (fun vs H Q E h => ?_) (fun cdv A outer s H vs Q E hr h => ?_)
  · obtain ⟨t, m, n, rfl, _⟩ := h
    rfl
  · obtain ⟨t, m, n, rfl, hm, wf, lm, l5, ln, q⟩ := h
    refine ⟨_, PSs.nox (pss_cons (ps_set (i := 3) scCnts.nd rfl (.inl rfl) (pe_lst (pa_cons (pe_lc (own := [("_", 2), ("last", 5)]) (g := gTup K 2 (gCons (gName 2) (gCons (gName 5) gNil))) (tt := tYes) rfl scCnts.nd (pi_tup (pv 0)) (blkOk_by (N := nCnts) (sc := defScope sCnts) (by decide +kernel))
          (fun _ _ _ _ _ => pg_tup rfl (pgs_cons (pg_name (i := 2) scCnts.nd rfl (Or.inl rfl)) (pgs_cons (pg_name (i := 5) scCnts.nd rfl (Or.inl rfl)) pgs_nil))) (fun _ _ _ _ _ => pts_nil)
          (fun _ _ _ _ _ => pe_ifExp (pt_val (pv 5)) pe_int pe_int)) pa_nil)))
      (pss_cons (ps_for PassesOwn.never rfl (pi_range1 (by rfl) B.range (pa_cons (pv 1) pa_nil)) (pg_name (i := 2) scCnts.nd rfl (.inl rfl))
        (pss_cons (ps_set (i := 4) scCnts.nd rfl (.inr rfl) (pe_ix ix_list (pv 3) (pe_un un_neg pe_int) (fun _ _ => rfl)))
        (pss_one (ps_expr (pe_bm PySem.F.plainAttrs_list PySem.F.slot_list_append PySem.F.type_list_append mt_append (pv 3) (pa_cons
          (pe_lc (own := [("moves", 6), ("_", 2)]) (g := gTup K 2 (gCons (gName 6) (gCons (gName 2) gNil))) (tt := tYes) rfl scCnts.nd (pi_tup (pv 0)) (blkOk_by (N := nCnts) (sc := defScope sCnts) (by decide +kernel))
            (fun _ _ _ _ _ => pg_tup rfl (pgs_cons (pg_name (i := 6) scCnts.nd rfl (Or.inl rfl)) (pgs_cons (pg_name (i := 2) scCnts.nd rfl (Or.inl rfl)) pgs_nil))) (fun _ _ _ _ _ => pts_nil)
            (fun _ _ _ _ _ => pe_callB (cr_sumK K) (by rfl) Sm (by decide +kernel) (pa_cons (pe_lock (pe_lc (own := [("to", 7)]) (g := gName 7) (tt := tYes) rfl scCnts.nd (pi_values (pv 6)) (blkOk_by (N := nCnts) (sc := scW2) (by decide +kernel))
              (fun _ _ _ _ _ => pg_name (i := 7) scCnts.nd rfl (Or.inl rfl)) (fun _ _ _ _ _ => pts_nil) (fun _ _ _ _ _ => pe_ix (ix_listK K) (pv 4) (pv 7) (fun _ _ => rfl)))) pa_nil))) pa_nil))))))
      (pss_one (ps_ret (pv 3))))), ?_⟩
    have lt1 : ∀ {n : Nat}, n ≤ 3999 → n < sizeLine := fun h1 => by rw [sizeLine_eq]; omega
    obtain ⟨ss, et, pt⟩ := id hm
    have ls : ss.length = m.length := Paired.length pt
    refine ⟨_, rfl, t, rfl, ⟨_, SqT.of et⟩, fun D hD => lc_it (walk_tup (K := K) (a := t) (xs := ss.map V.ref)) (fun i H1 => Same H H1 ∧ H1 D = some (.lst (((cntR m 0).take i).map V.int))) ⟨Same.new hD, upd_same⟩ (fun i H1 _ h1 => SqT.of (h1.1 _ _ et)) ?_ ?_⟩
    · rintro i x H1 H2 hi ⟨s1, e1⟩ ⟨rfl, hx⟩
      rw [List.length_map] at hi
      obtain ⟨⟨mv, la⟩, hq, d, g1, g2⟩ := L2.paired_get pt (List.getElem?_eq_getElem hi)
      obtain rfl : V.ref ss[i] = x := by
        rw [List.getElem?_map, List.getElem?_eq_getElem hi] at hx
        exact Option.some.inj hx
      obtain ⟨em, el⟩ := mvs_at hq
      have el : lst? m (i : Int) = la := el
      have nx := cntR_take (m := m) (n := 0) (k := i) (by omega)
      have fin : ∀ {c : Int}, cnt m 0 (i : Int) = c → ∃ acc : List V, H2 D = some (.lst acc) ∧ acc.length < sizeLine ∧ Same H (upd H2 D (.lst (acc ++ [V.int c]))) ∧ (upd H2 D (.lst (acc ++ [V.int c]))) D = some (.lst (((cntR m 0).take (i + 1)).map V.int)) := fun {c} ec =>
        ⟨_, e1, lt1 (by rw [List.length_map, List.length_take]; omega), Same.upN s1 hD, by rw [upd_same, nx, List.map_append, ec]; rfl⟩
      refine ⟨ss[i], _, rfl, SqT.of (s1 _ _ g1), rfl, _, _, rfl, _, _, rfl, rfl, rfl, ?_⟩
      refine ⟨_, rfl, _, rfl, ?_⟩
      have ec : cnt m 0 (i : Int) = if la = true then 1 else 0 := by rw [← el]; rfl
      cases la with
      | true => exact iteT (fin ec)
      | false => exact iteF (fin ec)
    rintro H1 ⟨s1, e1⟩
    rw [List.length_map, ls, List.take_of_length_le (by rw [cntR_len]; exact Nat.le_refl _)] at e1
    refine ⟨by show 1 ≤ sizeLine; decide, fun L hL => ?_⟩
    have hL0 := s1.free hL
    have c0 : CtAt (upd H1 L (.lst [V.ref D])) L m 1 := ⟨[D], upd_same, .cons ((upd_ne (ne_of_none e1 hL)).trans e1) .nil⟩
    have s2 := s1.trans (Same.new (o := .lst [V.ref D]) hL)
    generalize upd H1 L (.lst [V.ref D]) = H2 at c0 s2 ⊢
    clear e1 s1 hL hD
    refine ⟨_, rfl, _, rfl, by omega, by omega, for_range (lo := 0) (n := Int.toNat _) (fun k σ H3 => ∃ o2 o4, σ = [some (.ref t), some (.int n), o2, some (.ref L), o4, none, none, none] ∧ Same H H3 ∧ CtAt H3 L m (k + 1)) ⟨_, _, rfl, s2, c0⟩ ?_ ?_⟩
    · rintro k σ H3 hk ⟨o2, o4, rfl, s3, rs, eL, pr⟩
      have hk : k < n := by omega
      have lrs : rs.length = k + 1 := by rw [Paired.length pr, List.length_range]
      obtain ⟨r, hr1, er⟩ : ∃ r, rs[k]? = some r ∧ H3 r = some (.lst ((cntR m k).map V.int)) := by
        obtain ⟨x, hx, e⟩ := L2.paired_get pr (List.getElem?_eq_getElem (show k < rs.length by omega))
        rw [List.getElem?_range (by omega)] at hx
        cases hx
        exact ⟨_, List.getElem?_eq_getElem (by omega), e⟩
      have erl : rs = rs.take k ++ [r] := by
        conv => lhs; rw [← List.take_append_drop k rs, List.drop_eq_getElem_cons (by omega)]
        rw [List.drop_of_length_le (by omega)]
        rw [List.getElem?_eq_getElem (by omega)] at hr1
        rw [Option.some.inj hr1]
      have eat : atI (rs.map V.ref) (-1) = some (V.ref r) := atI_neg1 (by conv => lhs; rw [erl, List.map_append]
                                                                          rfl)
      refine ⟨_, rfl, _, rfl, L, _, _, _, rfl, rfl, SqL.of eL, eat, ?_⟩
      refine ⟨_, rfl, .inl ⟨rfl, _, SqL.of eL⟩, _, rfl, t, rfl, ⟨_, SqT.of (s3 _ _ et)⟩, fun D hD => ?_⟩
      have nLD : L ≠ D := ne_of_none eL hD
      refine lc_it (walk_tup (K := K) (a := t) (xs := ss.map V.ref)) (fun i H4 => Same H3 H4 ∧ H4 D = some (.lst (((cntR m (k + 1)).take i).map V.int))) ⟨Same.new hD, upd_same⟩ (fun i H4 _ h4 => SqT.of (h4.1 _ _ (s3 _ _ et))) ?_ ?_
      · rintro i x H4 H5 hi ⟨s4, e4⟩ ⟨rfl, hx⟩
        rw [List.length_map] at hi
        obtain ⟨⟨mv, la⟩, hq, d, g1, g2⟩ := L2.paired_get pt (List.getElem?_eq_getElem hi)
        obtain rfl : V.ref ss[i] = x := by
          rw [List.getElem?_map, List.getElem?_eq_getElem hi] at hx
          exact Option.some.inj hx
        obtain ⟨em, el⟩ := mvs_at hq
        have em : mvs m (i : Int) = mv := em
        have nx := cntR_take (m := m) (n := k + 1) (k := i) (by omega)
        have g1' := s4 _ _ (s3 _ _ g1)
        have g2' := s4 _ _ (s3 _ _ g2)
        have er' := s4 _ _ er
        refine ⟨ss[i], _, rfl, SqT.of g1', rfl, _, _, rfl, _, _, rfl, rfl, rfl, ?_⟩
        refine ⟨d, _, g2', trivial, fun od => ⟨_, rfl, d, od, kvsP mv, rfl, upd_same, fun W hW => ?_⟩⟩
        have eL' : (upd H5 d (.frz od (.dK (kvsP mv)))) d = some (.frz od (.dK (kvsP mv))) := upd_same
        have nW : d ≠ W := ne_of_none eL' hW
        have nrd : r ≠ d := fun c => by rw [c, g2'] at er'; cases er'
        have kL : ∀ b o, b ≠ d → H5 b = some o → (upd H5 d (.frz od (.dK (kvsP mv)))) b = some o := fun b o n e => (upd_ne n).trans e
        have erL := kL _ _ nrd er'
        generalize hHL : upd H5 d (.frz od (.dK (kvsP mv))) = HL at eL' kL hW erL ⊢
        refine lc_it (walk_values (d := d) (o := od) (kvs := kvsP mv)) (fun j H6 => Same HL H6 ∧ H6 W = some (.lst (((mv.take j).map fun p => cnt m k p.2).map V.int))) ⟨Same.new hW, upd_same⟩ (fun j H6 _ h6 => h6.1 _ _ eL') ?_ ?_
        · rintro j x H6 H7 hj ⟨s6, e6⟩ ⟨rfl, ky, hx⟩
          rw [kvsP_len] at hj
          rw [kvsP_at hj] at hx
          cases hx
          have hqm := List.mem_of_getElem? hq
          have l6 : mv.length ≤ 5 := l5 _ hqm
          have rg := wf.to _ hqm _ (List.getElem_mem hj)
          have nt : mv.take (j + 1) = mv.take j ++ [mv[j]] := by
            rw [List.take_add_one, List.getElem?_eq_getElem hj]
            rfl
          refine ⟨rfl, _, rfl, _, rfl, r, _, _, _, rfl, rfl, SqL.of (s6 _ _ erL), cntR_at rg, _, e6, lt1 (by rw [List.length_map, List.length_map, List.length_take]; omega), Same.upN s6 hW, ?_⟩
          rw [upd_same, nt, List.map_append, List.map_append]
          rfl
        · rintro H6 ⟨s6, e6⟩
          rw [kvsP_len, List.take_length] at e6
          refine ⟨s6 _ _ eL', ?_⟩
          have back : Same H5 (upd H6 d (.dK (kvsP mv))) := fun b o e => by
            by_cases c : b = d
            · subst c
              rw [g2'] at e
              cases e
              exact upd_same
            · rw [upd_ne c]
              exact s6 _ _ (kL b o c e)
          have eW : (upd H6 d (.dK (kvsP mv))) W = some (.lst ((mv.map fun p => cnt m k p.2).map V.int)) := (upd_ne nW.symm).trans e6
          generalize upd H6 d (.dK (kvsP mv)) = H7 at back eW ⊢
          refine ⟨W, _, rfl, SqL.of eW, _, back _ _ e4, lt1 (by rw [List.length_map, List.length_take, cntR_len]; omega), Same.upN (s4.trans back) hD, ?_⟩
          rw [upd_same, nx, List.map_append]
          show _ = some (HO.lst (_ ++ [V.int (((mvs m (i : Int)).map fun p => cnt m k p.2).sum)]))
          rw [em]
      rintro H4 ⟨s4, e4⟩
      rw [List.length_map, ls, List.take_of_length_le (by rw [cntR_len]; exact Nat.le_refl _)] at e4
      refine ⟨L, _, _, rfl, rfl, s4 _ _ eL, lt1 (by rw [List.length_map]; omega), ⟨_, _, rfl, Same.upN (s3.trans s4) hL0, rs ++ [D], ?_, ?_⟩⟩
      · rw [upd_same, List.map_append]
        rfl
      · rw [List.range_succ]
        have kU : ∀ b o, b ≠ L → H4 b = some o → (upd H4 L (.lst (rs.map V.ref ++ [V.ref D]))) b = some o := fun b o n e => (upd_ne n).trans e
        refine Paired.appendP (L2.Paired.mapP pr fun b j e => ?_) (.cons (kU _ _ nLD.symm e4) .nil)
        by_cases c : b = L
        · exfalso
          rw [c, eL] at e
          exact refint (by omega) e
        · exact kU _ _ c (s4 _ _ e)
    · rintro σ H3 ⟨o2, o4, rfl, s3, c3⟩
      refine ⟨_, rfl, q _ L s3 hL0 ?_⟩
      rw [Int.toNat_natCast] at c3
      exact c3
theorem scFCnt : FnScope ["self", "many"] ["self", "many"] (defScope sFCnt) := ⟨rfl, rfl, rfl, by decide +kernel, rfl, by decide +kernel, by decide +kernel⟩
theorem ok_fCnt {f : Addr} {fd : FuncData} (F : Fun K "count" "Form.count" sFCnt f fd) (T : Fc K C) (ML : ∃ t, mg "MAX_LENGTH" = some (.int 200 t)) (J : Cd P w K mg base 3 "check_number" ["given", "least", "most"] spChkNum) (J2 : Cd P w K mg base 1 "word_counts" ["machine", "many"] spCnts) : FnOk P w K mg base CX0 4 f fd ["self", "many"] (spFCnt C) := by
  obtain ⟨a1, d1, G1, m1, k1, b1⟩ := J.ex
  obtain ⟨a2, d2, G2, m2, k2, b2⟩ := J2.ex
  obtain ⟨tw, wL⟩ := ML
  refine F.ok scFCnt (fun vs H Q E h => ?_) (fun cdv A outer s H vs Q E hr h => ?_)
  · obtain ⟨x, m, n, rfl, _⟩ := h
    rfl
  · obtain ⟨x, m, n, rfl, ⟨dx, t, e1, hm⟩, wf, l1, lm, l5, ln, q⟩ := h
    have r1 : Room 1 _ := hr.mono (by decide)
    refine ⟨_, pss_cons (ps_expr (pe_call G1 hr (by rfl) m1 k1 b1 .nil pass0 (pa_cons (pv 1) (pa_cons pe_int (pa_cons (pe_glob (v := .int 200) (by rfl) wL ⟨_, rfl⟩) pa_nil)))))
      (pss_one (ps_ret (pe_ix ix_list (pe_ix ix_list (pe_call G2 r1 (by rfl) m2 k2 b2 .nil pass0 (pa_cons (pe_fld (pv 0) rfl) (pa_cons (pv 1) pa_nil))) (pv 1) (fun _ _ => rfl)) pe_int (fun _ _ => rfl)))), ?_⟩
    refine ⟨_, rfl, (n : Nat), 0, 200, rfl, nw_smallN (by omega) (by omega) (by omega) (by omega), ?_⟩
    refine ⟨_, rfl, x, C, dx, _, _, rfl, e1, T.cl, T.n, fld_st t, _, rfl, t, m, n, rfl, hm, wf, lm, l5, ln, fun H1 L s1 fL ⟨rs, eL, pr⟩ => ?_⟩
    have lrs : rs.length = n + 1 := by rw [Paired.length pr, List.length_range]
    obtain ⟨j, hj, er⟩ := L2.paired_get pr (List.getElem?_eq_getElem (show n < rs.length by omega))
    rw [List.getElem?_range (by omega)] at hj
    cases hj
    refine ⟨_, rfl, L, _, _, _, rfl, rfl, SqL.of eL, at_ofA (j := n) rfl (by rw [List.getElem?_map, List.getElem?_eq_getElem (by omega)]; rfl), _, _, _, _, rfl, rfl, SqL.of er, cntR_at ⟨by omega, by omega⟩, q _ s1⟩
end
end Mk

set_option Elab.async false
set_option linter.all false
set_option maxRecDepth 100000
set_option maxHeartbeats 4000000
/-! machines that may be no forms; Built; form_of_machine, _with_state -/
namespace Mk
open PySem PySem.Spec L2 PyProof.Rows

abbrev sBInit : Stmt := inClass (top 45) 0
abbrev sFOM : Stmt := top 47
abbrev sWSt : Stmt := top 50
def goodB (m : Mch) : Bool := decide ((useful m).length = m.length)
/-- a machine that can be looked at -/
structure MOk (m : Mch) : Prop where
  wf : WF m
  l1 : 1 ≤ m.length
  l40 : m.length ≤ 40
  l5 : ∀ q ∈ m, q.1.length ≤ 5
def spIsMFg : Sp := fun vs H Q _ => ∃ (t : Addr) (m : Mch) (n : Nat), vs = [.ref t, .int n] ∧ MAt H t m ∧ MOk m ∧ m.length ≤ n ∧ n ≤ 40 ∧ ∀ H', Same H H' → Q (.bl (goodB m)) H'
structure Bc (K : PySem.W.Frag) (mg : Str → Option Value) (CB : Addr) : Prop where
  m : mg "Built" = some (.ref CB)
  cl : Cls K CB
  n : NoAttr K CB "machine"
  own : ∀ {H : Hp} {x dx : Addr} {fs : List (Str × V)}, H x = some (.ins CB dx fs) → TyX K H (.ref x) (.ref CB)
  k : PySem.W.kitOne K (.ref CB) (.ref CB) = some true
def BtAt (CB : Addr) (H : Hp) (b : Addr) (t : Addr) : Prop := ∃ db, H b = some (.ins CB db [("machine", V.ref t)])
def spBInit (CB : Addr) : Sp := fun vs H Q _ => ∃ (b db t : Addr), vs = [.ref b, .ref t] ∧ H b = some (.ins CB db []) ∧ Q .non (upd H b (.ins CB db [("machine", V.ref t)]))
def spFInitB (C CB : Addr) : Sp := fun vs H Q _ => ∃ (x dx b t : Addr), vs = [.ref x, .ref b] ∧ H x = some (.ins C dx []) ∧ BtAt CB H b t ∧ Q .non (upd H x (.ins C dx [("_states", V.ref t)]))
/-- a form of m, or None -/
def spFOM (C : Addr) : Sp := fun vs H Q _ => ∃ (t : Addr) (m : Mch), vs = [.ref t] ∧ MAt H t m ∧ MOk m ∧ (goodB m = true → ∀ H' x, Same H H' → H x = none → FmAt C H' x (srtM m) → Q (.ref x) H') ∧ (goodB m = false → ∀ H', Same H H' → Q .non H')
def spWSt (C CI : Addr) : Sp := fun vs H Q E => ∃ (t s : Addr) (m : Mch) (i : Nat) (q : PTab × Bool), vs = [.ref t, .int i, .ref s] ∧ MAt H t m ∧ StA H s q ∧ i < m.length ∧ MOk (m.set i q) ∧ (goodB (m.set i q) = true → ∀ H' x, Same H H' → H x = none → FmAt C H' x (srtM (m.set i q)) → Q (.ref x) H') ∧ (goodB (m.set i q) = false → ∀ H', Same H H' → E (.ref CI) none H')
section
variable {P : Program} {w : World} {K : PySem.W.Frag} {mg : Str → Option Value} {base : Heap} {C CB CI : Addr}
theorem ok_isMFg {f : Addr} {fd : FuncData} (F : Fun K "is_machine_of_form" "is_machine_of_form" sIsMF f fd) (B : Bn mg) (W : Wn mg) (O : On mg) (J : Cd P w K mg base 3 "_is_state" ["value", "many"] spIsSt) (J2 : Cd P w K mg base 2 "useful_states" ["machine"] spUsef) : FnOk P w K mg base CX0 4 f fd ["value", "most"] spIsMFg := by
  obtain ⟨a1, d1, G1, m1, k1, b1⟩ := J.ex
  obtain ⟨a2, d2, G2, m2, k2, b2⟩ := J2.ex
  refine F.ok scIsMF (fun vs H Q E h => ?_) (fun cdv A outer s H vs Q E hr h => ?_)
  · obtain ⟨t, m, n, rfl, _⟩ := h
    rfl
  · obtain ⟨t, m, n, rfl, hm, ⟨wf, ne, l40, l5⟩, lm, hn, q⟩ := h
    have r2 : Room 2 _ := hr.mono (by decide)
    refine ⟨_, pss_cons (ps_if (PW.pt (pw_or (pt_not (pt_val (pe_callB call_isi (by rfl) W.isi (by decide +kernel) (pa_cons (pv 0) (pa_cons (pe_bltn (v := .ty "tuple") (u := .type "tuple") (by rfl) O.tuple (by decide +kernel) rfl) pa_nil))))) (pw_or1 (pt_not (pt_chain op_le op_le pe_int (pe_callB call_len_seq (by rfl) B.len PySem.boot_len (pa_cons (pv 0) pa_nil)) (pv 1)))))) (pss_one (ps_ret pe_bl)) pss_nil)
      (pss_cons (ps_if (pt_not (pt_val (pe_callB (cr_all rfl) (by rfl) O.all (by decide +kernel) (pa_cons (pe_lc (own := [("state", 2)]) (g := gName 2) (tt := tYes) rfl scIsMF.nd (pi_tup (pv 0)) (blkOk_by (N := nIsMF) (sc := defScope sIsMF) (by decide +kernel))
          (fun _ _ _ _ _ => pg_name (i := 2) scIsMF.nd rfl (Or.inl rfl)) (fun _ _ _ _ _ => pts_nil)
          (fun _ _ _ _ _ => pe_call G1 hr (by rfl) m1 k1 b1 .nil pass0 (pa_cons (pv 2) (pa_cons (pe_callB (call_lenK K) (by rfl) B.len PySem.boot_len (pa_cons (pv 0) pa_nil)) pa_nil)))) pa_nil)))) (pss_one (ps_ret pe_bl)) pss_nil)
      (pss_one (ps_ret (pe_cmpR op_eq (pe_callB call_len_seq (by rfl) B.len PySem.boot_len (pa_cons (pe_call G2 r2 (by rfl) m2 k2 b2 .nil pass0 (pa_cons (pv 0) pa_nil)) pa_nil)) (pe_callB call_len_seq (by rfl) B.len PySem.boot_len (pa_cons (pv 0) pa_nil)) (nomark _))))), ?_⟩
    have lt1 : ∀ {n : Nat}, n ≤ 3999 → n < sizeLine := fun h1 => by rw [sizeLine_eq]; omega
    obtain ⟨ss, et, pt⟩ := id hm
    have ls : ss.length = m.length := Paired.length pt
    refine ⟨_, rfl, _, _, _, _, true, rfl, .ty "tuple", .base (.tup et), kit_ty (by decide +kernel), _, rfl, iteF ?_⟩
    refine ⟨_, rfl, t, _, rfl, .inr (SqT.of et), _, _, rfl, rfl, _, rfl, ?_⟩
    rw [List.length_map, ls, decide_eq_true (by omega : (1 : Int) ≤ (m.length : Nat))]
    refine iteT ⟨_, rfl, _, _, rfl, rfl, _, rfl, ?_⟩
    rw [decide_eq_true (by omega : ((m.length : Nat) : Int) ≤ (n : Nat))]
    refine iteF ?_
    refine ⟨_, rfl, t, rfl, ⟨_, SqT.of et⟩, fun D hD => wk_any (walk_tup (K := K) (a := t) (xs := ss.map V.ref)) (fun i H1 => Same H H1 ∧ H1 D = some (.lst ((List.replicate i true).map V.bl))) ⟨Same.new hD, upd_same⟩ (fun i H1 _ h1 => SqT.of (h1.1 _ _ et)) ?_ ?_⟩
    · rintro i x H1 H2 hi ⟨s1, l1⟩ ⟨rfl, hx⟩
      rw [List.length_map] at hi
      obtain ⟨⟨mv, la⟩, hq, d, g1, g2⟩ := L2.paired_get pt (List.getElem?_eq_getElem hi)
      obtain rfl : V.ref ss[i] = x := by
        rw [List.getElem?_map, List.getElem?_eq_getElem hi] at hx
        exact Option.some.inj hx
      refine ⟨rfl, _, rfl, _, rfl, t, _, rfl, .inr (SqT.of (s1 _ _ et)), ss[i], (mv, la), m.length, by show [V.ref ss[i], V.int (((ss.map V.ref).length : Nat) : Int)] = _; rw [List.length_map, ls], ⟨d, s1 _ _ g1, s1 _ _ g2⟩, wf.st l5 _ (List.mem_of_getElem? hq), by omega, fun H3 s3 => ?_⟩
      refine ⟨_, s3 _ _ l1, lt1 (by rw [List.length_map, List.length_replicate]; omega), Same.upN (s1.trans s3) hD, ?_⟩
      rw [upd_same, List.replicate_succ', List.map_append]
      rfl
    rintro H1 ⟨s1, l1⟩
    refine ⟨D, _, rfl, SqL.of l1, ?_⟩
    rw [all_true]
    refine ⟨_, rfl, iteF ?_⟩
    refine ⟨_, rfl, t, m, rfl, hm.keep s1, wf, by omega, ne, l5, fun H2 L s2 fL eL => ?_⟩
    refine ⟨L, _, rfl, .inl (SqL.of eL), _, rfl, t, _, rfl, .inr (SqT.of (s2 _ _ (s1 _ _ et))), rfl, ?_⟩
    rw [List.length_map, List.length_map, ls]
    have e : decide (V.int ((useful m).length : Nat) = V.int (m.length : Nat)) = goodB m := by
      unfold goodB
      rw [Bool.eq_iff_iff, decide_eq_true_eq, decide_eq_true_eq]
      exact ⟨fun h => by injection h with h; omega, fun h => by rw [h]⟩
    rw [e]
    exact q _ (s1.trans s2)
theorem scBInit : FnScope ["self", "machine"] ["self", "machine"] (defScope sBInit) := ⟨rfl, rfl, rfl, by decide +kernel, rfl, by decide +kernel, by decide +kernel⟩
theorem ok_bInit {f : Addr} {fd : FuncData} (F : Fun K "__init__" "Built.__init__" sBInit f fd) (T : Bc K mg CB) : FnOk P w K mg base CX0 1 f fd ["self", "machine"] (spBInit CB) := by
  refine F.ok scBInit (fun vs H Q E h => ?_) (fun cdv A outer s H vs Q E hr h => ?_)
  · obtain ⟨b, db, t, rfl, _⟩ := h
    rfl
  · obtain ⟨b, db, t, rfl, hb, q⟩ := h
    refine ⟨_, pss_one (ps_fld (pv 0) (pv 1) rfl), ?_⟩
    exact ⟨_, rfl, _, rfl, b, CB, db, [], rfl, hb, T.cl, T.n, by show 0 < 1000; decide, q⟩
theorem ok_fInitB {f : Addr} {fd : FuncData} (F : Fun K "__init__" "Form.__init__" sFInit f fd) (T : Fc K C) (TB : Bc K mg CB) (W : Wn mg) : FnOk P w K mg base CX0 5 f fd ["self", "states"] (spFInitB C CB) := by
  refine F.ok scFInit (fun vs H Q E h => ?_) (fun cdv A outer s H vs Q E hr h => ?_)
  · obtain ⟨x, dx, b, t, rfl, _⟩ := h
    rfl
  · obtain ⟨x, dx, b, t, rfl, hx, ⟨db, hb⟩, q⟩ := h
    refine ⟨_, pss_one (ps_if (pt_val (pe_callB call_isi (by rfl) W.isi (by decide +kernel) (pa_cons (pv 1) (pa_cons (pe_glob (v := .ref CB) (by rfl) TB.m rfl) pa_nil)))) (pss_one (ps_fld (pv 0) (pe_fld (pv 1) rfl) rfl))
      (pss_one ps_never)), ?_⟩
    refine ⟨_, rfl, _, _, _, _, true, rfl, .own CB, TB.own hb, TB.k, _, rfl, iteT ?_⟩
    exact ⟨_, rfl, b, CB, db, _, _, rfl, hb, TB.cl, TB.n, by simp [List.lookup], _, rfl, x, C, dx, [], rfl, hx, T.cl, T.n, by show 0 < 1000; decide, q⟩
end
end Mk

set_option Elab.async false
set_option linter.all false
set_option maxRecDepth 100000
set_option maxHeartbeats 4000000
/-! form_of_machine, _with_state -/
namespace Mk
open PySem PySem.Spec L2 PyProof.Rows

theorem srtM_len (m : Mch) : (srtM m).length = m.length := List.length_map _
theorem MAt.upd {H : Hp} {t x : Addr} {m : Mch} {C dx : Addr} {fs gs : List (Str × V)} (h : MAt H t m) (e : H x = some (.ins C dx fs)) : MAt (upd H x (.ins C dx gs)) t m := by
  have k : ∀ b o, b ≠ x → H b = some o → (L2.upd H x (.ins C dx gs)) b = some o := fun b o n q => (upd_ne n).trans q
  obtain ⟨ss, a, p⟩ := h
  exact ⟨ss, k _ _ (fun z => by rw [z, e] at a; cases a) a, L2.Paired.mapP p fun u v ⟨d, h1, h2⟩ => ⟨d, k _ _ (fun z => by rw [z, e] at h1; cases h1) h1, k _ _ (fun z => by rw [z, e] at h2; cases h2) h2⟩⟩
section
variable {P : Program} {w : World} {K : PySem.W.Frag} {mg : Str → Option Value} {base : Heap} {C CB CI : Addr}
theorem scFOM : FnScope ["machine"] ["machine"] (defScope sFOM) := ⟨rfl, rfl, rfl, by decide +kernel, rfl, by decide +kernel, by decide +kernel⟩
theorem ok_fOM {f fi fb : Addr} {fd fdi fdb : FuncData} (F : Fun K "form_of_machine" "form_of_machine" sFOM f fd) (mS : ∃ t, mg "MAX_STATES" = some (.int 40 t)) (mF : mg "Form" = some (.ref C)) (T : Fc K C) (TB : Bc K mg CB) (M : L2.Mk K C fi) (MB : L2.Mk K CB fb) (G : FnOk P w K mg base CX0 5 fi fdi ["self", "states"] (spFInitB C CB)) (b : Binds K fdi ["self", "states"] []) (GB : FnOk P w K mg base CX0 1 fb fdb ["self", "machine"] (spBInit CB)) (bB : Binds K fdb ["self", "machine"] []) (J : Cd P w K mg base 4 "is_machine_of_form" ["value", "most"] spIsMFg) (J2 : Cd P w K mg base 1 "copied" ["machine"] spCopd) : FnOk P w K mg base CX0 7 f fd ["machine"] (spFOM C) := by
  obtain ⟨a1, d1, G1, m1, k1, b1⟩ := J.ex
  obtain ⟨a2, d2, G2, m2, k2, b2⟩ := J2.ex
  obtain ⟨tw, wS⟩ := mS
  refine F.ok scFOM (fun vs H Q E h => ?_) (fun cdv A outer s H vs Q E hr h => ?_)
  · obtain ⟨t, m, rfl, _⟩ := h
    rfl
  · obtain ⟨t, m, rfl, hm, ok, qt, qf⟩ := h
    have r1 : Room 1 _ := hr.mono (by decide)
    have r2 : Room 2 _ := hr.mono (by decide)
    have r4 : Room 4 _ := hr.mono (by decide)
    refine ⟨_, pss_one (ps_ret (pe_ifExp (pt_val (pe_call G1 r4 (by rfl) m1 k1 b1 .nil pass0 (pa_cons (pv 0) (pa_cons (pe_glob (v := .int 40) (by rfl) wS ⟨_, rfl⟩) pa_nil))))
      (pe_make M G hr (by rfl) mF b .nil pass0 (pa_cons (pe_make MB GB r2 (by rfl) TB.m bB .nil pass0 (pa_cons (pe_call G2 r1 (by rfl) m2 k2 b2 .nil pass0 (pa_cons (pv 0) pa_nil)) pa_nil)) pa_nil)) pe_non)), ?_⟩
    refine ⟨_, rfl, t, m, 40, rfl, hm, ok, ok.l40, by decide, fun H1 s1 => ⟨_, rfl, ?_⟩⟩
    cases hg : goodB m with
    | false => exact iteF (qf hg _ s1)
    | true =>
      refine iteT ⟨_, rfl, t, m, rfl, hm.keep s1, ok.wf, ok.l40, ok.l5, fun H2 r s2 fr hm2 => ?_⟩
      refine fun y dy hy hdy ne => ?_
      have k3 : Same H2 (upd (upd H2 dy (.own y)) y (.ins CB dy [])) := fun b o e => by
        rw [upd_ne (ne_of_none e hy), upd_ne (ne_of_none e hdy)]
        exact e
      refine ⟨y, dy, r, rfl, upd_same, ?_⟩
      have hm3 : MAt (upd (upd (upd H2 dy (.own y)) y (.ins CB dy [])) y (.ins CB dy [("machine", V.ref r)])) r (srtM m) := (hm2.keep k3).upd upd_same
      have k4 : Same H2 (upd (upd (upd H2 dy (.own y)) y (.ins CB dy [])) y (.ins CB dy [("machine", V.ref r)])) := fun b o e => by
        rw [upd_ne (ne_of_none e hy)]
        exact k3 _ _ e
      have hb3 : BtAt CB (upd (upd (upd H2 dy (.own y)) y (.ins CB dy [])) y (.ins CB dy [("machine", V.ref r)])) y r := ⟨dy, upd_same⟩
      generalize upd (upd (upd H2 dy (.own y)) y (.ins CB dy [])) y (.ins CB dy [("machine", V.ref r)]) = H3 at hm3 k4 hb3 ⊢
      clear k3
      refine ⟨rfl, ?_⟩
      refine fun x dx hx hdx ne => ?_
      have k5 : Same H3 (upd (upd H3 dx (.own x)) x (.ins C dx [])) := fun b o e => by
        rw [upd_ne (ne_of_none e hx), upd_ne (ne_of_none e hdx)]
        exact e
      refine ⟨x, dx, y, r, rfl, upd_same, ?_, rfl, ?_⟩
      · obtain ⟨db, e⟩ := hb3
        exact ⟨db, k5 _ _ e⟩
      · have s3 := (s1.trans s2).trans k4
        refine qt hg _ x (fun b o e => ?_) (s3.free hx) ⟨dx, r, upd_same, (hm3.keep k5).upd upd_same⟩
        have e3 := s3 _ _ e
        rw [upd_ne (ne_of_none e3 hx)]
        exact k5 _ _ e3
theorem set_cut {α : Type} : ∀ {l : List α} {i : Nat} {a : α}, i < l.length → l.set i a = l.take i ++ [a] ++ l.drop (i + 1)
  | [], _, _, h => absurd h (Nat.not_lt_zero _)
  | x :: l, 0, a, _ => rfl
  | x :: l, i + 1, a, h => by
    show x :: l.set i a = x :: (l.take i ++ [a] ++ l.drop (i + 1))
    rw [set_cut (by simpa using h)]
theorem scWSt : FnScope ["machine", "at", "state", "form"] ["machine", "at", "state"] (defScope sWSt) := ⟨rfl, rfl, rfl, by decide +kernel, rfl, by decide +kernel, by decide +kernel⟩
theorem ok_wSt {f : Addr} {fd : FuncData} (F : Fun K "_with_state" "_with_state" sWSt f fd) (X0 : ExK K mg "InvalidForm" CI) (J : Cd P w K mg base 7 "form_of_machine" ["machine"] (spFOM C)) : FnOk P w K mg base (L2.CX P w) 8 f fd ["machine", "at", "state"] (spWSt C CI) := by
  obtain ⟨a1, d1, G1, m1, k1, b1⟩ := J.ex
  refine F.okX scWSt (fun vs H Q E h => ?_) (fun cdv A outer s H vs Q E hr h => ?_)
  · obtain ⟨t, s, m, i, q, rfl, _⟩ := h
    rfl
  · obtain ⟨t, st, m, i, q, rfl, hm, hs, hi, ok, qt, qf⟩ := h
    refine ⟨_, pss_cons (ps_set (i := 3) scWSt.nd rfl (.inl rfl) (pe_call G1 hr (by rfl) m1 k1 b1 .nil pass0 (pa_cons (pe_op op_catB (pe_op op_catB (pe_slice sl_tupC (pv 0) po_none (po_some (pv 1))) (pe_tup (pa_cons (pv 2) pa_nil))) (pe_slice sl_tupC (pv 0) (po_some (pe_op op_add (pv 1) pe_int)) po_none)) pa_nil)))
      (pss_cons (ps_if (pt_cmp (pc_isN (pv 3))) (pss_one (ps_raise rfl (takes_of rfl rfl rfl rfl) (pmk_own PySem.F.excBase_ValueError X0.q X0.gC X0.kC (raises_own X0.b X0.t) (by rfl)))) pss_nil)
      (pss_one (ps_ret (pv 3)))), ?_⟩
    have nar : ∀ {n : Nat}, n ≤ 3999 → n ≤ sizeLine := fun h1 => by rw [sizeLine_eq]; omega
    obtain ⟨ss, et, pt⟩ := id hm
    have ls : ss.length = m.length := Paired.length pt
    have l40 := ok.l40
    rw [List.length_set] at l40
    refine ⟨_, rfl, _, rfl, _, rfl, t, _, rfl, et, fun H1 A s1 e1 => ?_⟩
    rw [cut_hi] at e1
    refine ⟨_, rfl, nar (by show 1 ≤ 3999; decide), fun T hT => ?_⟩
    have s2 := s1.trans (Same.new (o := .tup [V.ref st]) hT)
    have e2 := Same.new (o := .tup [V.ref st]) hT _ _ e1
    have eT := (upd_same : upd H1 T (.tup [V.ref st]) T = _)
    generalize upd H1 T (.tup [V.ref st]) = H2 at s2 e2 eT ⊢
    refine ⟨A, T, _, _, rfl, rfl, e2, eT, nar (by rw [List.length_take, List.length_map]; show _ + 1 ≤ 3999; omega), fun H3 U s3 e3 => ?_⟩
    refine ⟨_, rfl, _, rfl, _, _, rfl, rfl, _, rfl, t, _, rfl, s3 _ _ (s2 _ _ et), fun H4 B s4 e4 => ?_⟩
    rw [show ((i : Nat) : Int) + 1 = ((i + 1 : Nat) : Int) from by omega, cut_lo] at e4
    refine ⟨U, B, _, _, rfl, rfl, s4 _ _ e3, e4, nar (by rw [List.length_append, List.length_take, List.length_drop, List.length_map]; show _ + 1 + _ ≤ 3999; omega), fun H5 R s5 e5 => ?_⟩
    have s25 := s2.trans ((s3.trans s4).trans s5)
    have e6 : H5 R = some (.tup ((ss.set i st).map V.ref)) := by
      rw [e5, List.map_set, set_cut (by rw [List.length_map]; omega)]
    have hm5 : MAt H5 R (m.set i q) := ⟨_, e6, paired_set (L2.Paired.mapP pt fun _ _ e => e.keep s25) (hs.keep s25)⟩
    refine ⟨R, _, rfl, hm5, ok, fun hg H6 x s6 fx hx => ?_, fun hg H6 s6 => ?_⟩
    · refine ⟨_, rfl, _, rfl, iteF ⟨_, rfl, qt hg _ x (s25.trans s6) (s25.free fx) hx⟩⟩
    · exact ⟨_, rfl, _, rfl, iteT (qf hg _ (s25.trans s6))⟩
end
end Mk

set_option Elab.async false
set_option linter.all false
set_option maxRecDepth 100000
set_option maxHeartbeats 4000000
/-! with_move, with_last -/
namespace Mk
open PySem PySem.Spec L2 PyProof.Rows

abbrev sWMv : Stmt := inClass (top 46) 12
abbrev sWLa : Stmt := inClass (top 46) 13
abbrev nWMv : List Str := ["self", "state", "sign", "to", "last_state", "moves", "last", "changed", "other"]
/-- a move told anew, or taken away -/
def chg (t : PTab) (s : Str) (to : Option Int) : PTab := t.filter (fun p => !decide (p.1 = s)) ++ (match to with | none => [] | some k => [(s, k)])
def setMv (m : Mch) (i : Nat) (s : Str) (to : Option Int) : Mch := m.set i (chg (mvs m (i : Int)) s to, lst? m (i : Int))
def setLa (m : Mch) (i : Nat) (b : Bool) : Mch := m.set i (mvs m (i : Int), b)
theorem WF.l5 {m : Mch} (w : WF m) : ∀ q ∈ m, q.1.length ≤ 5 := fun q hq => by
  have := nd_len (l := q.1.map (·.1)) (k := sgs "abcde") (w.nd q hq) fun x hx => by
    obtain ⟨p, hp, rfl⟩ := List.mem_map.mp hx
    exact sign_in (w.sg q hq p hp)
  rw [List.length_map] at this
  exact Nat.le_trans this (by decide +kernel)
theorem mvs_set_mem {m : Mch} {i : Nat} (h : i < m.length) : (mvs m (i : Int), lst? m (i : Int)) ∈ m := by
  have e := mvs_at (List.getElem?_eq_getElem h)
  rw [e.1, e.2]
  exact List.getElem_mem h
theorem chg_nd {t : PTab} {s : Str} {to : Option Int} (nd : (t.map (·.1)).Nodup) : ((chg t s to).map (·.1)).Nodup := by
  unfold chg
  rw [List.map_append]
  have n1 : ((t.filter fun p => !decide (p.1 = s)).map (·.1)).Nodup := List.Nodup.sublist (List.Sublist.map _ List.filter_sublist) nd
  cases to with
  | none => simpa using n1
  | some k =>
    refine nd_snoc n1 fun hm => ?_
    obtain ⟨p, hp, e⟩ := List.mem_map.mp hm
    have := (List.mem_filter.mp hp).2
    simp at this
    exact this e
theorem chg_mem {t : PTab} {s : Str} {to : Option Int} {p : Str × Int} (h : p ∈ chg t s to) : p ∈ t ∨ (p.1 = s ∧ to = some p.2) := by
  unfold chg at h
  rcases List.mem_append.mp h with h | h
  · exact .inl (List.mem_filter.mp h).1
  · cases to with
    | none => cases h
    | some k =>
      have h : p ∈ [(s, k)] := h
      rw [List.mem_singleton] at h
      subst h
      exact .inr ⟨rfl, rfl⟩
theorem WF.setMv {m : Mch} (w : WF m) {i : Nat} {s : Str} {to : Option Int} (hi : i < m.length) (hs : sgB s = true) (ht : ∀ k, to = some k → 0 ≤ k ∧ k < m.length) : WF (setMv m i s to) := by
  have hm := mvs_set_mem hi
  refine ⟨fun q hq => ?_, fun q hq p hp => ?_, fun q hq p hp => ?_⟩
  · rcases mem_set_or hq with hq | rfl
    · exact w.nd q hq
    · exact chg_nd (w.nd _ hm)
  · rcases mem_set_or hq with hq | rfl
    · exact w.sg q hq p hp
    · rcases chg_mem hp with hp | ⟨e, _⟩
      · exact w.sg _ hm p hp
      · rw [e]
        exact hs
  · unfold Mk.setMv
    rw [List.length_set]
    rcases mem_set_or hq with hq | rfl
    · exact w.to q hq p hp
    · rcases chg_mem hp with hp | ⟨_, e⟩
      · exact w.to _ hm p hp
      · exact ht _ e
theorem WF.setLa {m : Mch} (w : WF m) {i : Nat} {b : Bool} (hi : i < m.length) : WF (setLa m i b) := by
  have hm := mvs_set_mem hi
  refine ⟨fun q hq => ?_, fun q hq p hp => ?_, fun q hq p hp => ?_⟩
  · rcases mem_set_or hq with hq | rfl
    · exact w.nd q hq
    · exact w.nd (mvs m (i : Int), lst? m (i : Int)) hm
  · rcases mem_set_or hq with hq | rfl
    · exact w.sg q hq p hp
    · exact w.sg (mvs m (i : Int), lst? m (i : Int)) hm p hp
  · unfold Mk.setLa
    rw [List.length_set]
    rcases mem_set_or hq with hq | rfl
    · exact w.to q hq p hp
    · exact w.to (mvs m (i : Int), lst? m (i : Int)) hm p hp
theorem MOk.setMv {m : Mch} (w : MOk m) {i : Nat} {s : Str} {to : Option Int} (hi : i < m.length) (hs : sgB s = true) (ht : ∀ k, to = some k → 0 ≤ k ∧ k < m.length) : MOk (setMv m i s to) := ⟨w.wf.setMv hi hs ht, by unfold Mk.setMv; rw [List.length_set]; exact w.l1, by unfold Mk.setMv; rw [List.length_set]; exact w.l40, (w.wf.setMv hi hs ht).l5⟩
theorem MOk.setLa {m : Mch} (w : MOk m) {i : Nat} {b : Bool} (hi : i < m.length) : MOk (setLa m i b) := ⟨w.wf.setLa hi, by unfold Mk.setLa; rw [List.length_set]; exact w.l1, by unfold Mk.setLa; rw [List.length_set]; exact w.l40, (w.wf.setLa hi).l5⟩
def spWMv (C CI : Addr) : Sp := fun vs H Q E => ∃ (x : Addr) (m : Mch) (i : Nat) (s : Str) (to : Option Int), vs = [.ref x, .int i, .str s, oV to] ∧ FmAt C H x m ∧ MOk m ∧ i < m.length ∧ sgB s = true ∧ (∀ k, to = some k → 0 ≤ k ∧ k < m.length) ∧
  (goodB (setMv m i s to) = true → ∀ H' y, Same H H' → H y = none → FmAt C H' y (srtM (setMv m i s to)) → Q (.ref y) H') ∧ (goodB (setMv m i s to) = false → ∀ H', Same H H' → E (.ref CI) none H')
def spWLa (C CI : Addr) : Sp := fun vs H Q E => ∃ (x : Addr) (m : Mch) (i : Nat) (b : Bool), vs = [.ref x, .int i, .bl b] ∧ FmAt C H x m ∧ MOk m ∧ i < m.length ∧
  (goodB (setLa m i b) = true → ∀ H' y, Same H H' → H y = none → FmAt C H' y (srtM (setLa m i b)) → Q (.ref y) H') ∧ (goodB (setLa m i b) = false → ∀ H', Same H H' → E (.ref CI) none H')
section
variable {P : Program} {w : World} {K : PySem.W.Frag} {mg : Str → Option Value} {base : Heap} {C CB CI : Addr}
theorem scWLa : FnScope ["self", "state", "last"] ["self", "state", "last"] (defScope sWLa) := ⟨rfl, rfl, rfl, by decide +kernel, rfl, by decide +kernel, by decide +kernel⟩
theorem ok_wLa {f : Addr} {fd : FuncData} (F : Fun K "with_last" "Form.with_last" sWLa f fd) (B : Bn mg) (T : Fc K C) (J : Cd P w K mg base 3 "check_number" ["given", "least", "most"] spChkNum) (J2 : CdX P w K mg base 8 "_with_state" ["machine", "at", "state"] (spWSt C CI)) : FnOk P w K mg base (L2.CX P w) 9 f fd ["self", "state", "last"] (spWLa C CI) := by
  obtain ⟨a1, d1, G1, m1, k1, b1⟩ := J.ex
  obtain ⟨a2, d2, G2, m2, k2, b2⟩ := J2.ex
  refine F.okX scWLa (fun vs H Q E h => ?_) (fun cdv A outer s H vs Q E hr h => ?_)
  · obtain ⟨x, m, i, b, rfl, _⟩ := h
    rfl
  · obtain ⟨x, m, i, b, rfl, ⟨dx, t, hx, hm⟩, ok, hi, qt, qf⟩ := h
    refine ⟨_, pss_cons (ps_expr (pe_call G1 (hr.mono (by decide)) (by rfl) m1 k1 b1 .nil pass0 (pa_cons (pv 1) (pa_cons pe_int (pa_cons (pe_op op_sub (pe_callB call_len_seq (by rfl) B.len PySem.boot_len (pa_cons (pe_fld (pv 0) rfl) pa_nil)) pe_int) pa_nil)))))
      (pss_one (ps_ret (pe_call G2 hr (by rfl) m2 k2 b2 .nil (passes_call (takes_of rfl rfl rfl rfl) fun _ _ _ _ h => h) (pa_cons (pe_fld (pv 0) rfl) (pa_cons (pv 1) (pa_cons (pe_tup (pa_cons (pe_ix ix_tup (pe_ix ix_tup (pe_fld (pv 0) rfl) (pv 1) (fun _ _ => rfl)) pe_int (fun _ _ => rfl)) (pa_cons (pv 2) pa_nil))) pa_nil)))))), ?_⟩
    obtain ⟨ss, s', d, g1, e2, g3, g4⟩ := hm.at_ (i := (i : Int)) ⟨by omega, by omega⟩
    have ls : ss.length = m.length := by
      obtain ⟨ss', e, p⟩ := hm
      rw [g1] at e
      have e := Option.some.inj e
      injection e with e
      have := congrArg List.length e
      rw [List.length_map, List.length_map] at this
      rw [this, Paired.length p]
    have l40 := ok.l40
    refine ⟨_, rfl, _, rfl, x, C, dx, _, _, rfl, hx, T.cl, T.n, fld_st t, t, _, rfl, .inr (SqT.of g1), _, _, rfl, rfl, _, 0, _, rfl, nw_smallN (by omega) (by rw [List.length_map, ls]; omega) (by omega) (by omega), ?_⟩
    refine ⟨_, rfl, x, C, dx, _, _, rfl, hx, T.cl, T.n, fld_st t, _, rfl, _, rfl, x, C, dx, _, _, rfl, hx, T.cl, T.n, fld_st t, _, rfl, t, _, _, _, rfl, rfl, SqT.of g1, e2, s', _, 0, _, rfl, rfl, SqT.of g3, at_ofA (j := 0) rfl rfl, _, rfl, (by show 2 ≤ sizeLine; decide), fun T1 hT => ?_⟩
    have s1 := Same.new (o := .tup [V.ref d, V.bl b]) hT
    refine ⟨t, T1, m, i, (mvs m (i : Int), b), rfl, hm.keep s1, ⟨d, upd_same, s1 _ _ g4⟩, hi, ok.setLa hi, fun hg H2 y s2 fy hy => qt hg _ y (s1.trans s2) (s1.free fy) hy, fun hg H2 s2 => qf hg _ (s1.trans s2)⟩
theorem scWMv : FnScope nWMv ["self", "state", "sign", "to"] (defScope sWMv) := ⟨rfl, rfl, rfl, by decide +kernel, rfl, by decide +kernel, by decide +kernel⟩
theorem chg_snoc {t : PTab} {s : Str} {j : Nat} (h : j < t.length) : (t.take (j + 1)).filter (fun p => !decide (p.1 = s)) = (t.take j).filter (fun p => !decide (p.1 = s)) ++ if t[j].1 = s then [] else [t[j]] := by
  rw [List.take_add_one, List.getElem?_eq_getElem h, List.filter_append]
  congr 1
  by_cases e : t[j].1 = s
  · rw [if_pos e]
    simp [e]
  · rw [if_neg e]
    simp [e]
theorem ok_wMv {f : Addr} {fd : FuncData} (F : Fun K "with_move" "Form.with_move" sWMv f fd) (B : Bn mg) (T : Fc K C) (J : Cd P w K mg base 3 "check_number" ["given", "least", "most"] spChkNum) (J1 : Cd P w K mg base 1 "is_sign" ["value"] (spJudge sgB K)) (J2 : CdX P w K mg base 8 "_with_state" ["machine", "at", "state"] (spWSt C CI)) : FnOk P w K mg base (L2.CX P w) 9 f fd ["self", "state", "sign", "to"] (spWMv C CI) := by
  obtain ⟨a1, d1, G1, m1, k1, b1⟩ := J.ex
  obtain ⟨a2, d2, G2, m2, k2, b2⟩ := J2.ex
  obtain ⟨a3, d3, G3, m3, k3, b3⟩ := J1.ex
  refine F.okX scWMv (fun vs H Q E h => ?_) (fun cdv A outer s H vs Q E hr h => ?_)
  · obtain ⟨x, m, i, z, to, rfl, _⟩ := h
    rfl
  · obtain ⟨x, m, i, z, to, rfl, ⟨dx, t, hx, hm⟩, ok, hi, hz, hto, qt, qf⟩ := h
    have hu := hu_of hr
    refine ⟨_, pss_cons (ps_set (i := 4) scWMv.nd rfl (.inl rfl) (pe_op op_sub (pe_callB call_len_seq (by rfl) B.len PySem.boot_len (pa_cons (pe_fld (pv 0) rfl) pa_nil)) pe_int))
      (pss_cons (ps_expr (pe_call G1 (hr.mono (by decide)) (by rfl) m1 k1 b1 .nil pass0 (pa_cons (pv 1) (pa_cons pe_int (pa_cons (pv 4) pa_nil)))))
      (pss_cons (ps_if (pt_not (pt_val (pe_call G3 (hr.mono (by decide)) (by rfl) m3 k3 b3 .nil pass0 (pa_cons (pv 2) pa_nil)))) (pss_one ps_never) pss_nil)
      (pss_cons (ps_if (pt_cmp (pc_notN (pv 3))) (pss_one (ps_expr (pe_call G1 (hr.mono (by decide)) (by rfl) m1 k1 b1 .nil pass0 (pa_cons (pv 3) (pa_cons pe_int (pa_cons (pv 4) pa_nil)))))) pss_nil)
      (pss_cons (ps_asg (pe_ix ix_tup (pe_fld (pv 0) rfl) (pv 1) (fun _ _ => rfl)) (pg_tup rfl (pgs_cons (pg_name (i := 5) scWMv.nd rfl (.inr rfl)) (pgs_cons (pg_name (i := 6) scWMv.nd rfl (.inl rfl)) pgs_nil))))
      (pss_cons (ps_lock (ps_setDc (i := 7) (own := [("other", 8)]) (g := gName 8) rfl scWMv.nd rfl rfl (by rfl) (pi_keys (pv 5)) (blkOk_by (N := nWMv) (sc := defScope sWMv) (by decide +kernel))
          (fun _ _ _ _ _ => pg_name (i := 8) scWMv.nd rfl (Or.inl rfl)) (fun _ _ _ _ _ => pts_one (pt_cmpR op_ne (pv 8) (pv 2) (nomark _))) (fun _ _ _ _ _ => pv 8) (fun _ _ _ _ _ => pe_dget hu (pv 5) (pv 8) (fun _ _ => rfl))))
      (pss_cons (ps_if (pt_cmp (pc_notN (pv 3))) (pss_one (ps_dput hu (pv 7) (pv 2) (pv 3) rfl)) pss_nil)
      (pss_one (ps_ret (pe_call G2 hr (by rfl) m2 k2 b2 .nil (passes_call (takes_of rfl rfl rfl rfl) fun _ _ _ _ h => h) (pa_cons (pe_fld (pv 0) rfl) (pa_cons (pv 1) (pa_cons (pe_tup (pa_cons (pv 7) (pa_cons (pv 6) pa_nil))) pa_nil)))))))))))), ?_⟩
    have lt1 : ∀ {n : Nat}, n ≤ 3999 → n < sizeLine := fun h1 => by rw [sizeLine_eq]; omega
    obtain ⟨ss, s', d, g1, e2, g3, g4⟩ := hm.at_ (i := (i : Int)) ⟨by omega, by omega⟩
    have ls : ss.length = m.length := by
      obtain ⟨ss', e, p⟩ := hm
      rw [g1] at e
      have e := Option.some.inj e
      injection e with e
      have := congrArg List.length e
      rw [List.length_map, List.length_map] at this
      rw [this, Paired.length p]
    have l40 := ok.l40
    have l5 : (mvs m (i : Int)).length ≤ 5 := ok.l5 _ (mvs_set_mem hi)
    have nd := mvs_nd ok.wf (i : Int)
    refine ⟨_, rfl, x, C, dx, _, _, rfl, hx, T.cl, T.n, fld_st t, t, _, rfl, .inr (SqT.of g1), _, _, rfl, rfl, ?_⟩
    rw [List.length_map, ls]
    refine ⟨_, rfl, _, rfl, _, 0, _, rfl, nw_smallN (by omega) (by omega) (by omega) (by omega), ?_⟩
    refine ⟨_, rfl, .str z, rfl, .inl ⟨z, rfl, by rw [one_of hz]; decide, _, rfl, ?_⟩⟩
    rw [hz]
    refine iteF ?_
    cases to with
    | none =>
      refine ⟨_, rfl, _, rfl, iteF ?_⟩
      refine ⟨_, rfl, x, C, dx, _, _, rfl, hx, T.cl, T.n, fld_st t, _, rfl, t, _, _, _, rfl, rfl, SqT.of g1, e2, s', _, rfl, SqT.of g3, rfl, _, _, rfl, _, _, rfl, rfl, ?_⟩
      refine ⟨d, _, g4, trivial, fun od => ⟨_, rfl, d, od, rfl, .inl ⟨_, upd_same, fun D hD => ?_⟩⟩⟩
      have eL : (upd H d (.frz od (.dK (kvsP (mvs m (i : Int)))))) d = some (.frz od (.dK (kvsP (mvs m (i : Int))))) := upd_same
      have nD : d ≠ D := ne_of_none eL hD
      have kL : ∀ b o, b ≠ d → H b = some o → (upd H d (.frz od (.dK (kvsP (mvs m (i : Int)))))) b = some o := fun b o n e => (upd_ne n).trans e
      have hD0 : H D = none := by rwa [upd_ne nD.symm] at hD
      generalize hHL : upd H d (.frz od (.dK (kvsP (mvs m (i : Int))))) = HL at eL kL hD ⊢
      refine wk_any (walk_keys (d := d) (o := od) (kvs := kvsP (mvs m (i : Int)))) (fun j H1 => Same HL H1 ∧ H1 D = some (.dK (kvsP (((mvs m (i : Int)).take j).filter fun p => !decide (p.1 = z))))) ⟨Same.new hD, upd_same⟩ (fun j H1 _ h1 => h1.1 _ _ eL) ?_ ?_
      · rintro j v H1 H2 hj ⟨s1, e1⟩ ⟨rfl, ky, vv, hv, rfl⟩
        rw [kvsP_len] at hj
        rw [kvsP_at hj] at hv
        cases hv
        have pm := List.getElem_mem hj
        have sm : (mvs m (i : Int))[j].1 ∈ (mvs m (i : Int)).map (·.1) := List.mem_map.mpr ⟨_, pm, rfl⟩
        have ev := look_mem nd _ pm
        have nx := chg_snoc (t := mvs m (i : Int)) (s := z) hj
        refine ⟨rfl, _, rfl, _, rfl, rfl, _, rfl, ?_⟩
        refine ite2 (fun h => ?_) (fun h => ?_)
        rotate_left
        · have c : (mvs m (i : Int))[j].1 = z := by
            have h : ¬ (!decide (V.str (mvs m (i : Int))[j].1 = V.str z)) = true := h
            simp at h
            exact h
          refine ⟨s1, ?_⟩
          rw [nx, if_pos c, List.append_nil]
          exact e1
        · have c : ¬ (mvs m (i : Int))[j].1 = z := by
            have h : (!decide (V.str (mvs m (i : Int))[j].1 = V.str z)) = true := h
            simp at h
            exact h
          have nin : (mvs m (i : Int))[j].1 ∉ (((mvs m (i : Int)).take j).filter fun p => !decide (p.1 = z)).map (·.1) := fun hm => by
            obtain ⟨p, hp, e⟩ := List.mem_map.mp hm
            have hp := (List.mem_filter.mp hp).1
            have hn := nd
            rw [← List.take_append_drop j (mvs m (i : Int)), List.map_append, List.nodup_append] at hn
            refine hn.2.2 p.1 (List.mem_map.mpr ⟨p, hp, rfl⟩) (mvs m (i : Int))[j].1 ?_ e
            rw [List.drop_eq_getElem_cons hj]
            exact List.mem_map.mpr ⟨_, List.mem_cons_self, rfl⟩
          refine ⟨_, rfl, _, rfl, _, rfl, d, V.int (look (mvs m (i : Int)) (mvs m (i : Int))[j].1), rfl, .inl ⟨kvsP (mvs m (i : Int)), Sum.inr (mvs m (i : Int))[j].1, .inr ⟨od, s1 _ _ eL⟩, rfl, (valP sm).symm⟩, _, Sum.inr (mvs m (i : Int))[j].1, rfl, e1, ?_, Same.upN s1 hD, ?_⟩
          · rw [kvsP_len]
            exact lt1 (Nat.le_trans (List.length_filter_le _ _) (by rw [List.length_take]; omega))
          · rw [upd_same, putP_new nin, nx, if_neg c, ev]
      rintro H1 ⟨s1, e1⟩
      rw [kvsP_len, List.take_length] at e1
      refine ⟨s1 _ _ eL, ?_⟩
      have back : Same H (upd H1 d (.dK (kvsP (mvs m (i : Int))))) := fun b o e => by
        by_cases c : b = d
        · subst c
          rw [g4] at e
          cases e
          exact upd_same
        · rw [upd_ne c]
          exact s1 _ _ (kL b o c e)
      have eD : (upd H1 d (.dK (kvsP (mvs m (i : Int))))) D = some (.dK (kvsP ((mvs m (i : Int)).filter fun p => !decide (p.1 = z)))) := (upd_ne nD.symm).trans e1
      generalize upd H1 d (.dK (kvsP (mvs m (i : Int)))) = H2 at back eD ⊢
      refine ⟨_, rfl, _, rfl, iteF ⟨_, rfl, x, C, dx, _, _, rfl, back _ _ hx, T.cl, T.n, fld_st t, _, rfl, _, rfl, _, rfl, (by show 2 ≤ sizeLine; decide), fun T1 hT => ?_⟩⟩
      have s3 := back.trans (Same.new (o := .tup [V.ref D, V.bl (lst? m (i : Int))]) hT)
      refine ⟨t, T1, m, i, (chg (mvs m (i : Int)) z none, lst? m (i : Int)), rfl, hm.keep s3, ⟨D, upd_same, (upd_ne (fun c => by rw [← c, eD] at hT; cases hT)).trans ?_⟩, hi, ok.setMv hi hz hto, fun hg H5 y s5 fy hy => qt hg _ y (s3.trans s5) (s3.free fy) hy, fun hg H5 s5 => qf hg _ (s3.trans s5)⟩
      rw [eD]
      unfold chg
      rw [List.append_nil]
    | some k =>
      have hk := hto k rfl
      refine ⟨_, rfl, _, rfl, iteT ⟨_, rfl, _, rfl, k, 0, _, rfl, nw_smallN (by omega) (by omega) (by omega) (by omega), ?_⟩⟩
      refine ⟨_, rfl, x, C, dx, _, _, rfl, hx, T.cl, T.n, fld_st t, _, rfl, t, _, _, _, rfl, rfl, SqT.of g1, e2, s', _, rfl, SqT.of g3, rfl, _, _, rfl, _, _, rfl, rfl, ?_⟩
      refine ⟨d, _, g4, trivial, fun od => ⟨_, rfl, d, od, rfl, .inl ⟨_, upd_same, fun D hD => ?_⟩⟩⟩
      have eL : (upd H d (.frz od (.dK (kvsP (mvs m (i : Int)))))) d = some (.frz od (.dK (kvsP (mvs m (i : Int))))) := upd_same
      have nD : d ≠ D := ne_of_none eL hD
      have kL : ∀ b o, b ≠ d → H b = some o → (upd H d (.frz od (.dK (kvsP (mvs m (i : Int)))))) b = some o := fun b o n e => (upd_ne n).trans e
      have hD0 : H D = none := by rwa [upd_ne nD.symm] at hD
      generalize hHL : upd H d (.frz od (.dK (kvsP (mvs m (i : Int))))) = HL at eL kL hD ⊢
      refine wk_any (walk_keys (d := d) (o := od) (kvs := kvsP (mvs m (i : Int)))) (fun j H1 => Same HL H1 ∧ H1 D = some (.dK (kvsP (((mvs m (i : Int)).take j).filter fun p => !decide (p.1 = z))))) ⟨Same.new hD, upd_same⟩ (fun j H1 _ h1 => h1.1 _ _ eL) ?_ ?_
      · rintro j v H1 H2 hj ⟨s1, e1⟩ ⟨rfl, ky, vv, hv, rfl⟩
        rw [kvsP_len] at hj
        rw [kvsP_at hj] at hv
        cases hv
        have pm := List.getElem_mem hj
        have sm : (mvs m (i : Int))[j].1 ∈ (mvs m (i : Int)).map (·.1) := List.mem_map.mpr ⟨_, pm, rfl⟩
        have ev := look_mem nd _ pm
        have nx := chg_snoc (t := mvs m (i : Int)) (s := z) hj
        refine ⟨rfl, _, rfl, _, rfl, rfl, _, rfl, ?_⟩
        refine ite2 (fun h => ?_) (fun h => ?_)
        rotate_left
        · have c : (mvs m (i : Int))[j].1 = z := by
            have h : ¬ (!decide (V.str (mvs m (i : Int))[j].1 = V.str z)) = true := h
            simp at h
            exact h
          refine ⟨s1, ?_⟩
          rw [nx, if_pos c, List.append_nil]
          exact e1
        · have c : ¬ (mvs m (i : Int))[j].1 = z := by
            have h : (!decide (V.str (mvs m (i : Int))[j].1 = V.str z)) = true := h
            simp at h
            exact h
          have nin : (mvs m (i : Int))[j].1 ∉ (((mvs m (i : Int)).take j).filter fun p => !decide (p.1 = z)).map (·.1) := fun hm => by
            obtain ⟨p, hp, e⟩ := List.mem_map.mp hm
            have hp := (List.mem_filter.mp hp).1
            have hn := nd
            rw [← List.take_append_drop j (mvs m (i : Int)), List.map_append, List.nodup_append] at hn
            refine hn.2.2 p.1 (List.mem_map.mpr ⟨p, hp, rfl⟩) (mvs m (i : Int))[j].1 ?_ e
            rw [List.drop_eq_getElem_cons hj]
            exact List.mem_map.mpr ⟨_, List.mem_cons_self, rfl⟩
          refine ⟨_, rfl, _, rfl, _, rfl, d, V.int (look (mvs m (i : Int)) (mvs m (i : Int))[j].1), rfl, .inl ⟨kvsP (mvs m (i : Int)), Sum.inr (mvs m (i : Int))[j].1, .inr ⟨od, s1 _ _ eL⟩, rfl, (valP sm).symm⟩, _, Sum.inr (mvs m (i : Int))[j].1, rfl, e1, ?_, Same.upN s1 hD, ?_⟩
          · rw [kvsP_len]
            exact lt1 (Nat.le_trans (List.length_filter_le _ _) (by rw [List.length_take]; omega))
          · rw [upd_same, putP_new nin, nx, if_neg c, ev]
      rintro H1 ⟨s1, e1⟩
      rw [kvsP_len, List.take_length] at e1
      refine ⟨s1 _ _ eL, ?_⟩
      have back : Same H (upd H1 d (.dK (kvsP (mvs m (i : Int))))) := fun b o e => by
        by_cases c : b = d
        · subst c
          rw [g4] at e
          cases e
          exact upd_same
        · rw [upd_ne c]
          exact s1 _ _ (kL b o c e)
      have eD : (upd H1 d (.dK (kvsP (mvs m (i : Int))))) D = some (.dK (kvsP ((mvs m (i : Int)).filter fun p => !decide (p.1 = z)))) := (upd_ne nD.symm).trans e1
      generalize upd H1 d (.dK (kvsP (mvs m (i : Int)))) = H2 at back eD ⊢
      have nin : z ∉ ((mvs m (i : Int)).filter fun p => !decide (p.1 = z)).map (·.1) := fun hm => by
        obtain ⟨p, hp, e⟩ := List.mem_map.mp hm
        have := (List.mem_filter.mp hp).2
        simp at this
        exact this e
      refine ⟨_, rfl, _, rfl, iteT ⟨_, rfl, _, rfl, _, rfl, D, _, rfl, DPut.k (k := Sum.inr z) eD (lt1 (by rw [kvsP_len]; exact Nat.le_trans (List.length_filter_le _ _) (by omega))), ?_⟩⟩
      rw [show L2.putK (kvsP ((mvs m (i : Int)).filter fun p => !decide (p.1 = z))) (Sum.inr z) (oV (some k)) = _ from putP_new nin]
      have s4 : Same H (upd H2 D (.dK (kvsP ((mvs m (i : Int)).filter (fun p => !decide (p.1 = z)) ++ [(z, k)])))) := Same.upN back hD0
      have eD4 : (upd H2 D (.dK (kvsP ((mvs m (i : Int)).filter (fun p => !decide (p.1 = z)) ++ [(z, k)])))) D = _ := upd_same
      generalize upd H2 D (.dK (kvsP ((mvs m (i : Int)).filter (fun p => !decide (p.1 = z)) ++ [(z, k)]))) = H4 at s4 eD4 ⊢
      refine ⟨_, rfl, x, C, dx, _, _, rfl, s4 _ _ hx, T.cl, T.n, fld_st t, _, rfl, _, rfl, _, rfl, (by show 2 ≤ sizeLine; decide), fun T1 hT => ?_⟩
      have s3 := s4.trans (Same.new (o := .tup [V.ref D, V.bl (lst? m (i : Int))]) hT)
      refine ⟨t, T1, m, i, (chg (mvs m (i : Int)) z (some k), lst? m (i : Int)), rfl, hm.keep s3, ⟨D, upd_same, (upd_ne (fun c => by rw [← c, eD4] at hT; cases hT)).trans ?_⟩, hi, ok.setMv hi hz hto, fun hg H5 y s5 fy hy => qt hg _ y (s3.trans s5) (s3.free fy) hy, fun hg H5 s5 => qf hg _ (s3.trans s5)⟩
      exact eD4
end
end Mk

set_option Elab.async false
set_option linter.all false
set_option maxRecDepth 100000
set_option maxHeartbeats 2000000
namespace Mk
open PySem PySem.Spec L2 PyProof.Rows

/-! a display of one pair, its key a tuple -/
section
variable {prog : Program} {w : World} {κ : Type} [DecidableEq κ] {knd : HeapKind prog w κ} {A : Around} {E : Value → Shared → Prop} {s : Shared} {env : Env}
theorem dict_walkX {keys : List (Option Expr)} {values : List Expr} {pos : Pos} {Q : Value → Shared → Prop} (hu : knd.room A)
    (hall : keys.all (·.isSome) = true) (hl : keys.length = values.length) (h0 : keys ≠ []) (hlen : keys.length ≤ 15)
    (h : wpAny (model prog w) A (evalPairs (pairTrees keys values env pos)) (fun vs s₁ => ∃ ps, CarriesH knd s₁.heap vs ps ∧ s₁.heap.DictOfH knd s.heap.objs.size [] ∧
      ∀ h' tk, h'.DictOfH knd s.heap.objs.size (storedAllH [] ps) → Heap.SameBut s.heap.objs.size s₁.heap h' → Q (.ref s.heap.objs.size) { s₁ with heap := h', toks := tk }) E
      { s with heap := s.heap.push { cls := .type "dict", data := .dict #[] } }) :
    wpAny (model prog w) A (eval (.Dict keys values pos) env) Q E s := by
  have hn := pairTrees_length keys values env pos hall hl
  have hp : pairTrees keys values env pos ≠ [] := fun he => by
    rw [he] at hn
    exact h0 (List.length_eq_zero_iff.mp hn.symm)
  rw [arm_eval_Dict, zip_pairTrees keys values env pos hall hl, dictDisplay_pairs _ hp (by omega)]
  exact wpAny_bind (wpAny_standAt (wpAny_bind (wpAny_subDictH (knd := knd) (Q := fun d s' => wpAny (model prog w) A (pure (Value.ref d)) Q E s') hu (by rw [hn]; exact hlen)
    (wpAny_mono h (fun vs s₁ h₁ => by obtain ⟨ps, hc, hm, hq⟩ := h₁; exact ⟨ps, hc, hm, fun h' tk a b => wpAny_pure (hq h' tk a b)⟩) fun _ _ e => e))))
end
/-- {k: v}, k a tuple -/
def tDisp1 (tk tv : TE) : TE := fun σ H Q => ∀ p, H p = none → tk σ (upd H p (.dT [])) fun x H1 => tv σ H1 fun y H2 => H2 p = some (.dT []) ∧ ∃ (k : List L2.Key) (b : Addr), x = .ref b ∧ H2 b = some (.tup (k.map kV)) ∧ Q (.ref p) (upd H2 p (.dT [(k, y)]))
theorem pe_disp1 {X : Cx} {pos : Pos} {k v : Expr} {tk tv : TE} (hu : X.A.units + 1 < cLine) (hk : PE X k tk) (hv : PE X v tv) : PE X (.Dict [some k] [v] pos) (tDisp1 tk tv) := by
  refine ⟨fun pins s σ H Q I q => ?_⟩
  have hn := I.hok.fresh (Nat.le_refl s.heap.objs.size)
  have I1 := I.laid (a := s.heap.objs.size) (o := .dT []) (h' := s.heap.push { cls := .type "dict", data := .dict #[] }) (t' := s.toks) (fun _ _ q => Heap.get?_push_of_some _ q) (Nat.le_refl _) (dt_empty s.heap I.big)
  refine dict_walkX (knd := tupleKind (mixKind X.prog X.w)) (by show X.A.units < cLine; omega) rfl rfl (by simp) (by show 1 ≤ 15; decide) (pairTrees_cons_walk (thn (hk.run pins _ σ _ _ I1 (q _ hn)) fun u s1 ⟨x, H1, I2, rx, q1⟩ => thn (hv.run pins s1 σ H1 _ I2 q1) fun w2 s2 ⟨y, H2, I3, ry, e, kk, b, ex, eb, q2⟩ => pairTrees_nil_walk ?_))
  subst ex
  obtain rfl : u = Value.ref b := rx
  obtain ⟨z, hd, xs, r0, dd⟩ := dt_of I3.hok e
  cases r0
  refine ⟨[(kk, b, w2)], ⟨rfl, rfl, key_of I3.hok eb, trivial⟩, dd, fun h' tk' dd' hs => ⟨.ref s.heap.objs.size, _, ?_, rfl, q2⟩⟩
  obtain ⟨q', es, ep, hq, h2, h3, h4, _, h5⟩ := dd'
  have rel : KT H2 [(kk, y)] [(kk, b, w2)] := .cons ⟨rfl, eb, ry⟩ .nil
  refine d_write I3 (by rw [e]; exact True.intro) hs ⟨q', hq⟩ ⟨(by show 1 ≤ sizeLine; decide), hd, [(kk, b, w2)], rel.keeps fun c ys ec => ?_, q', es, ep, hq, h2, h3, h4, h5⟩
  rw [upd_ne (ne_of ec e (fun z => nomatch z))]
  exact ec
end Mk

set_option Elab.async false
set_option linter.all false
set_option maxRecDepth 100000
set_option maxHeartbeats 2000000
/-! machines of words: their mathematics -/
namespace Mk
open PySem PySem.Spec L2 PyProof.Rows

/-- what stands behind a sign -/
def hd? (z s : Str) : Bool := decide ((sgs z).head? = some s)
def der (s : Str) (ws : List Str) : List Str := (ws.filter fun z => hd? z s).map fun z => post z 1
abbrev RS := List (List Str)
def addS (r : List Str) (rs : RS) : RS := if r ∈ rs then rs else rs ++ [r]
def addR (rest : List Str) (p : RS × PTab) (s : Str) : RS × PTab := if der s rest = [] then p else (addS (der s rest) p.1, p.2 ++ [(s, ((addS (der s rest) p.1).idxOf (der s rest) : Int))])
def fiveS : List Str := ["a", "b", "c", "d", "e"]
def mow : Nat → RS × Mch → Option (RS × Mch)
  | 0, p => some p
  | n + 1, p => match p.1[p.2.length]? with
    | none => some p
    | some rest => if (fiveS.foldl (addR rest) (p.1, [])).1.length ≤ 40 then mow n ((fiveS.foldl (addR rest) (p.1, [])).1, p.2 ++ [((fiveS.foldl (addR rest) (p.1, [])).2, decide (rest.head? = some ""))]) else none
theorem addS_mem {r : List Str} {rs : RS} : r ∈ addS r rs := by
  unfold addS
  split
  · assumption
  · exact List.mem_append_right _ List.mem_cons_self
theorem addS_pre {r : List Str} {rs : RS} : ∃ q, addS r rs = rs ++ q := by
  unfold addS
  split
  · exact ⟨[], (List.append_nil _).symm⟩
  · exact ⟨_, rfl⟩
theorem addS_nd {r : List Str} {rs : RS} (h : rs.Nodup) : (addS r rs).Nodup := by
  unfold addS
  split
  · exact h
  · exact nd_snoc h (by assumption)
theorem addS_or {r x : List Str} {rs : RS} (h : x ∈ addS r rs) : x ∈ rs ∨ x = r := by
  unfold addS at h
  split at h
  · exact .inl h
  · rcases List.mem_append.mp h with h | h
    · exact .inl h
    · exact .inr (List.mem_singleton.mp h)
/-- the dict of the numbers -/
def kvsR : Nat → RS → List (List Key × V)
  | _, [] => []
  | n, r :: rs => (r.map Sum.inr, V.int n) :: kvsR (n + 1) rs
theorem inrs_inj {r q : List Str} (h : r.map (Sum.inr : Str → Key) = q.map Sum.inr) : r = q := by
  induction r generalizing q with
  | nil =>
    cases q with
    | nil => rfl
    | cons _ _ => cases h
  | cons a r ih =>
    cases q with
    | nil => cases h
    | cons b q =>
      injection h with h1 h2
      injection h1 with h1
      rw [h1, ih h2]
theorem kvsR_len : ∀ (n : Nat) (rs : RS), (kvsR n rs).length = rs.length
  | _, [] => rfl
  | n, r :: rs => by
    show (kvsR (n + 1) rs).length + 1 = rs.length + 1
    rw [kvsR_len]
theorem kvsR_val : ∀ (n : Nat) (rs : RS) (q : List Str), valV (kvsR n rs) (q.map Sum.inr) = if q ∈ rs then some (V.int ((n + rs.idxOf q : Nat) : Int)) else none
  | n, [], q => rfl
  | n, r :: rs, q => by
    by_cases e : r = q
    · subst e
      rw [if_pos List.mem_cons_self, List.idxOf_cons_self]
      exact valV_pos rfl
    · have ne : ¬ r.map (Sum.inr : Str → Key) = q.map Sum.inr := fun h => e (inrs_inj h)
      refine (valV_neg ne).trans ?_
      rw [kvsR_val (n + 1) rs q, List.idxOf_cons, show (r == q) = false from by simpa using e, cond_false]
      by_cases h : q ∈ rs
      · rw [if_pos h, if_pos (List.mem_cons_of_mem _ h)]
        congr 2
        omega
      · rw [if_neg h, if_neg fun c => (List.mem_cons.mp c).elim (fun x => e x.symm) h]
theorem kvsR_snoc : ∀ (n : Nat) (rs : RS) (q : List Str), kvsR n (rs ++ [q]) = kvsR n rs ++ [(q.map Sum.inr, V.int ((n + rs.length : Nat) : Int))]
  | n, [], q => rfl
  | n, r :: rs, q => by
    show (r.map Sum.inr, V.int n) :: kvsR (n + 1) (rs ++ [q]) = _
    rw [kvsR_snoc (n + 1) rs q]
    show _ = (r.map Sum.inr, V.int n) :: (kvsR (n + 1) rs ++ _)
    rw [show n + 1 + rs.length = n + (r :: rs).length from by rw [List.length_cons]; omega]
theorem kvsR_put {rs : RS} {q : List Str} (h : q ∉ rs) : L2.putK (kvsR 0 rs) (q.map Sum.inr) (V.int (rs.length : Nat)) = kvsR 0 (rs ++ [q]) := by
  have : valV (kvsR 0 rs) (q.map Sum.inr) = none := by rw [kvsR_val, if_neg h]
  rw [putK_new _ this, kvsR_snoc, Nat.zero_add]
/-- the whole rests stay, the new ones are what stands behind signs -/
structure FoldR (rest : List Str) (ks : List Str) (rs : RS) (t : PTab) (q : RS × PTab) : Prop where
  pre : ∃ r, q.1 = rs ++ r
  nd : rs.Nodup → q.1.Nodup
  new : ∀ x ∈ q.1, x ∈ rs ∨ ∃ s ∈ ks, x = der s rest ∧ x ≠ []
  mv : ∃ u, q.2 = t ++ u ∧ u.map (·.1) = ks.filter (fun s => !decide (der s rest = [])) ∧ ∀ p ∈ u, ∃ i : Nat, p.2 = (i : Int) ∧ q.1[i]? = some (der p.1 rest)
theorem idx_get {rs : RS} {x : List Str} (h : x ∈ rs) : rs[rs.idxOf x]? = some x := by
  have l := List.idxOf_lt_length_of_mem h
  rw [List.getElem?_eq_getElem l, List.getElem_idxOf l]
theorem foldR {rest : List Str} : ∀ (ks : List Str) (rs : RS) (t : PTab), FoldR rest ks rs t (ks.foldl (addR rest) (rs, t))
  | [], rs, t => ⟨⟨[], (List.append_nil _).symm⟩, id, fun x h => .inl h, [], (List.append_nil _).symm, rfl, fun _ h => nomatch h⟩
  | s :: ks, rs, t => by
    rw [List.foldl_cons]
    by_cases e : der s rest = []
    · have : addR rest (rs, t) s = (rs, t) := by unfold addR; rw [if_pos e]
      rw [this]
      obtain ⟨a, b, c, u, d1, d2, d3⟩ := foldR (rest := rest) ks rs t
      refine ⟨a, b, fun x h => (c x h).imp id fun ⟨s', m, h⟩ => ⟨s', List.mem_cons_of_mem _ m, h⟩, u, d1, ?_, d3⟩
      rw [d2, List.filter_cons_of_neg (by simp [e])]
    · have : addR rest (rs, t) s = (addS (der s rest) rs, t ++ [(s, ((addS (der s rest) rs).idxOf (der s rest) : Int))]) := by unfold addR; rw [if_neg e]
      rw [this]
      obtain ⟨⟨r, a⟩, b, c, u, d1, d2, d3⟩ := foldR (rest := rest) ks (addS (der s rest) rs) (t ++ [(s, ((addS (der s rest) rs).idxOf (der s rest) : Int))])
      obtain ⟨r0, e0⟩ := addS_pre (r := der s rest) (rs := rs)
      refine ⟨⟨r0 ++ r, by rw [a, e0, List.append_assoc]⟩, fun n => b (addS_nd n), fun x h => ?_, (s, ((addS (der s rest) rs).idxOf (der s rest) : Int)) :: u, by rw [d1, List.append_assoc]; rfl, ?_, fun p hp => ?_⟩
      · rcases c x h with h | ⟨s', m, h⟩
        · rcases addS_or h with h | rfl
          · exact .inl h
          · exact .inr ⟨s, List.mem_cons_self, rfl, e⟩
        · exact .inr ⟨s', List.mem_cons_of_mem _ m, h⟩
      · rw [List.map_cons, d2, List.filter_cons_of_pos (by simp [e])]
      · rcases List.mem_cons.mp hp with rfl | hp
        · refine ⟨_, rfl, ?_⟩
          rw [a, List.getElem?_append_left (List.idxOf_lt_length_of_mem addS_mem)]
          exact idx_get addS_mem
        · exact d3 p hp
/-- what the loop keeps -/
structure MowI (ws : List Str) (p : RS × Mch) : Prop where
  nd : p.1.Nodup
  le : p.2.length ≤ p.1.length
  zero : p.1[0]? = some ws
  ne : ∀ r ∈ p.1, r ≠ []
  row : ∀ (i : Nat) (q : PTab × Bool), p.2[i]? = some q → ∃ r, p.1[i]? = some r ∧ q.2 = decide (r.head? = some "") ∧ q.1.map (·.1) = fiveS.filter (fun s => !decide (der s r = [])) ∧ ∀ x ∈ q.1, ∃ j : Nat, x.2 = (j : Int) ∧ p.1[j]? = some (der x.1 r)
  com : ∀ (j : Nat) (r : List Str), p.1[j]? = some r → j = 0 ∨ ∃ (i : Nat) (s : Str) (r' : List Str), i < p.2.length ∧ i < j ∧ p.1[i]? = some r' ∧ s ∈ fiveS ∧ r = der s r'
theorem mow_start {ws : List Str} (h : ws ≠ []) : MowI ws ([ws], []) := ⟨by simp, Nat.zero_le _, rfl, fun r hr => by rw [List.mem_singleton.mp hr]; exact h, fun i q hq => by simp at hq, fun j r hj => by
  have := (List.getElem?_eq_some_iff.mp hj).1
  have : j < 1 := this
  exact .inl (by omega)⟩
theorem mow_step {ws : List Str} {p : RS × Mch} (h : MowI ws p) {rest : List Str} (e : p.1[p.2.length]? = some rest) : MowI ws ((fiveS.foldl (addR rest) (p.1, [])).1, p.2 ++ [((fiveS.foldl (addR rest) (p.1, [])).2, decide (rest.head? = some ""))]) := by
  obtain ⟨⟨r, er⟩, nd, new, u, eu, ek, em⟩ := foldR (rest := rest) fiveS p.1 []
  have hl := (List.getElem?_eq_some_iff.mp e).1
  generalize fiveS.foldl (addR rest) (p.1, []) = q at er nd new eu ek em ⊢
  have keep : ∀ {i : Nat} {x : List Str}, p.1[i]? = some x → q.1[i]? = some x := fun {i x} hx => by
    rw [er, List.getElem?_append_left (List.getElem?_eq_some_iff.mp hx).1]
    exact hx
  rw [List.nil_append] at eu
  subst eu
  refine ⟨nd h.nd, ?_, keep h.zero, fun x hx => ?_, fun i y hy => ?_, fun j x hx => ?_⟩
  · show (p.2 ++ [_]).length ≤ q.1.length
    rw [List.length_append, er, List.length_append]
    show p.2.length + 1 ≤ _
    omega
  · rcases new x hx with hx | ⟨s, _, _, hx⟩
    · exact h.ne x hx
    · exact hx
  · have hy : (p.2 ++ [(q.2, decide (rest.head? = some ""))])[i]? = some y := hy
    by_cases c : i < p.2.length
    · rw [List.getElem?_append_left c] at hy
      obtain ⟨r', a, b, d, f⟩ := h.row i y hy
      exact ⟨r', keep a, b, d, fun x hx => (f x hx).imp fun j ⟨z1, z2⟩ => ⟨z1, keep z2⟩⟩
    · have l := (List.getElem?_eq_some_iff.mp hy).1
      rw [List.length_append] at l
      have l : i < p.2.length + 1 := l
      obtain rfl : i = p.2.length := by omega
      rw [List.getElem?_append_right (Nat.le_refl _), Nat.sub_self] at hy
      obtain rfl := Option.some.inj hy
      exact ⟨rest, keep e, rfl, ek, em⟩
  · by_cases c : j < p.1.length
    · have hx : q.1[j]? = some x := hx
      rw [er, List.getElem?_append_left c] at hx
      rcases h.com j x hx with z | ⟨i, s, r', h1, h2, h3, h4, h5⟩
      · exact .inl z
      · exact .inr ⟨i, s, r', by show i < (p.2 ++ [_]).length; rw [List.length_append]; omega, h2, keep h3, h4, h5⟩
    · have hx : q.1[j]? = some x := hx
      rcases new x (List.mem_of_getElem? hx) with hx' | ⟨s, hs, ex, _⟩
      · obtain ⟨i, hi⟩ := List.mem_iff_getElem?.mp hx'
        have li := (List.getElem?_eq_some_iff.mp hi).1
        have n := nd h.nd
        have := (List.getElem?_inj (l := q.1) (i := i) (j := j) (by rw [er, List.length_append]; omega) n).mp (by rw [keep hi, hx])
        omega
      · exact .inr ⟨p.2.length, s, rest, by show p.2.length < (p.2 ++ [_]).length; rw [List.length_append]; exact Nat.lt_succ_self _, by omega, keep e, hs, ex⟩
theorem mow_ok {ws : List Str} : ∀ (n : Nat) (p q : RS × Mch), MowI ws p → p.1.length ≤ 40 → 41 ≤ n + p.2.length → mow n p = some q → MowI ws q ∧ q.2.length = q.1.length ∧ q.1.length ≤ 40
  | 0, p, q, h, h40, hn, e => by
    have := h.le
    omega
  | n + 1, p, q, h, h40, hn, e => by
    unfold mow at e
    cases e1 : p.1[p.2.length]? with
    | none =>
      rw [e1] at e
      obtain rfl := Option.some.inj e
      have := List.getElem?_eq_none_iff.mp e1
      have := h.le
      exact ⟨h, by omega, h40⟩
    | some rest =>
      rw [e1] at e
      have e : (if (fiveS.foldl (addR rest) (p.1, [])).1.length ≤ 40 then _ else none) = some q := e
      by_cases c : (fiveS.foldl (addR rest) (p.1, [])).1.length ≤ 40
      · rw [if_pos c] at e
        exact mow_ok n _ q (mow_step h e1) c (by show 41 ≤ n + (p.2 ++ [_]).length; rw [List.length_append]; show 41 ≤ n + (p.2.length + 1); omega) e
      · rw [if_neg c] at e
        cases e
end Mk

set_option Elab.async false
set_option linter.all false
set_option maxRecDepth 100000
set_option maxHeartbeats 4000000
/-! _machine_of_words -/
namespace Mk
open PySem PySem.Spec L2 PyProof.Rows

abbrev sMow : Stmt := top 49
abbrev nMow : List Str := ["words", "rests", "numbers", "machine", "rest", "moves", "sign", "ahead", "word"]
def TupS (H : Hp) (t : Addr) (r : List Str) : Prop := H t = some (.tup (r.map V.str))
/-- all but two is as it was -/
def B2 (L D : Addr) (H H' : Hp) : Prop := ∀ b o, b ≠ L → b ≠ D → H b = some o → H' b = some o
theorem B2.trans {L D : Addr} {H H1 H2 : Hp} (a : B2 L D H H1) (b : B2 L D H1 H2) : B2 L D H H2 := fun c o n1 n2 e => b c o n1 n2 (a c o n1 n2 e)
theorem B2.of {L D : Addr} {H H' : Hp} (k : Same H H') : B2 L D H H' := fun b o _ _ e => k b o e
/-- a bound of words -/
def WB (N : Nat) (r : List Str) : Prop := r.length ≤ 4000 ∧ ∀ z ∈ r, z.length ≤ N
theorem der_len (s : Str) (r : List Str) : (der s r).length ≤ r.length := by
  unfold der
  rw [List.length_map]
  exact List.length_filter_le _ _
theorem WB.der {N : Nat} {r : List Str} (h : WB N r) (s : Str) : WB N (der s r) := by
  refine ⟨Nat.le_trans (der_len s r) h.1, fun z hz => ?_⟩
  unfold Mk.der at hz
  obtain ⟨y, hy, rfl⟩ := List.mem_map.mp hz
  exact Nat.le_trans (post_len y 1) (h.2 y (List.mem_filter.mp hy).1)
theorem der_take (s : Str) {r : List Str} {i : Nat} (h : i < r.length) : der s (r.take (i + 1)) = der s (r.take i) ++ if hd? r[i] s = true then [post r[i] 1] else [] := by
  unfold der
  rw [List.take_add_one, List.getElem?_eq_getElem h]
  show ((r.take i ++ [r[i]]).filter _).map _ = _
  rw [List.filter_append, List.map_append]
  by_cases c : hd? r[i] s = true
  · rw [if_pos c]
    simp [c]
  · rw [if_neg c]
    simp [c]
theorem starts_hd {z s : Str} (h : s.length = 1) : Txt.startswith z s = hd? z s := by
  obtain ⟨c, rfl⟩ := len_one h
  obtain ⟨⟨l⟩⟩ := z
  unfold Txt.startswith hd? sgs Builtin.Str.subAt
  cases l with
  | nil => rfl
  | cons d l =>
    have e1 : ((⟨(d :: l).toArray⟩ : Str).cps.extract 0 (0 + (⟨#[c]⟩ : Str).length)) = #[d] := by
      show ((d :: l).toArray).extract 0 (0 + 1) = #[d]
      simp
    rw [e1]
    show (decide (0 + 1 ≤ l.length + 1) && (#[d] == #[c])) = decide (some (⟨#[d]⟩ : Str) = some ⟨#[c]⟩)
    rw [decide_eq_true (by omega), Bool.true_and, Bool.eq_iff_iff, decide_eq_true_eq, beq_iff_eq]
    exact ⟨fun h => by rw [h], fun h => by injection h with h; injection h⟩
theorem inrs_kV (r : List Str) : (r.map (Sum.inr : Str → Key)).map kV = r.map V.str := by
  rw [List.map_map]
  rfl
theorem fiveS_sgs : sgs ("abcde" : Str) = fiveS := by decide +kernel
theorem fiveS_nd : fiveS.Nodup := by decide +kernel
theorem foldR_len {rest : List Str} : ∀ (ks : List Str) (rs : RS) (t : PTab), (ks.foldl (addR rest) (rs, t)).1.length ≤ rs.length + ks.length
  | [], rs, t => Nat.le_refl _
  | s :: ks, rs, t => by
    rw [List.foldl_cons]
    have h1 : (addR rest (rs, t) s).1.length ≤ rs.length + 1 := by
      unfold addR
      split
      · exact Nat.le_succ _
      · show (addS _ rs).length ≤ _
        unfold addS
        split
        · exact Nat.le_succ _
        · rw [List.length_append]
          exact Nat.le_refl _
    have h2 : (ks.foldl (addR rest) (addR rest (rs, t) s)).1.length ≤ (addR rest (rs, t) s).1.length + ks.length := foldR_len (rest := rest) ks (addR rest (rs, t) s).1 (addR rest (rs, t) s).2
    rw [List.length_cons]
    omega
def spMow : Sp := fun vs H Q _ => ∃ (t : Addr) (ws : List Str) (p : RS × Mch), vs = [.ref t] ∧ TupS H t ws ∧ ws ≠ [] ∧ WB 100000 ws ∧ mow 41 ([ws], []) = some p ∧ ∀ H' r, Same H H' → H r = none → MAt H' r p.2 → Q (.ref r) H'
section
variable {P : Program} {w : World} {K : PySem.W.Frag} {mg : Str → Option Value} {base : Heap}
theorem scMow : FnScope nMow ["words"] (defScope sMow) := ⟨rfl, rfl, rfl, by decide +kernel, rfl, by decide +kernel, by decide +kernel⟩
theorem ok_mow {f : Addr} {fd : FuncData} (F : Fun K "_machine_of_words" "_machine_of_words" sMow f fd) (B : Bn mg) (W : Wn mg) (O : On mg) (mS : ∃ t, mg "MAX_STATES" = some (.int 40 t)) : FnOk P w K mg base CX0 1 f fd ["words"] spMow := by
  obtain ⟨tw, wS⟩ := mS
  obtain ⟨tg, hsg⟩ := W.sg
  refine F.ok scMow (fun vs H Q E h => ?_) (fun cdv A outer s H vs Q E hr h => ?_)
  · obtain ⟨t, ws, p, rfl, _⟩ := h
    rfl
  · have hu := hu_of hr
    obtain ⟨t, ws, p, rfl, ht, ne, wb, hp, q⟩ := h
    refine ⟨_, PSs.nox (pss_cons (ps_set (i := 1) scMow.nd rfl (.inl rfl) (pe_lst (pa_cons (pv 0) pa_nil)))
      (pss_cons (ps_set (i := 2) scMow.nd rfl (.inl rfl) (pe_disp1 hu (pv 0) pe_int))
      (pss_cons (ps_set (i := 3) scMow.nd rfl (.inl rfl) (pe_lst pa_nil))
      (pss_cons (ps_while PassesOwn.never (pt_cmpR op_lt (pe_callB call_len_seq (by rfl) B.len PySem.boot_len (pa_cons (pv 3) pa_nil)) (pe_callB call_len_seq (by rfl) B.len PySem.boot_len (pa_cons (pv 1) pa_nil)) (nomark _))
        (pss_cons (ps_set (i := 4) scMow.nd rfl (.inl rfl) (pe_ix ix_list (pv 1) (pe_callB call_len_seq (by rfl) B.len PySem.boot_len (pa_cons (pv 3) pa_nil)) (fun _ _ => rfl)))
        (pss_cons (ps_set (i := 5) scMow.nd rfl (.inl rfl) pe_dnewK)
        (pss_cons (ps_for PassesOwn.never rfl (pi_str (pe_glob (v := .str "abcde") (by rfl) hsg ⟨_, rfl⟩)) (pg_name (i := 6) scMow.nd rfl (.inr rfl))
          (pss_cons (ps_set (i := 7) scMow.nd rfl (.inl rfl) (pe_callTy call_tuple_of (by rfl) O.tuple (by decide +kernel) (pa_cons (pe_lc (own := [("word", 8)]) (g := gName 8) rfl scMow.nd (pi_tup (pv 4)) (blkOk_by (N := nMow) (sc := defScope sMow) (by decide +kernel))
              (fun _ _ _ _ _ => pg_name (i := 8) scMow.nd rfl (Or.inl rfl)) (fun _ _ _ _ _ => pts_one (pt_val (atK K (pe_bm PySem.F.plainAttrs_str PySem.F.slot_str_startswith PySem.F.type_str_startswith mt_startswith (pv 8) (pa_cons (pv 6) pa_nil))))) (fun _ _ _ _ _ => pe_slice sl_str (pv 8) (po_some pe_int) po_none)) pa_nil)))
          (pss_one (ps_if (pt_truth (pv 7) (by intro _; rfl))
            (pss_cons (ps_if (pt_cmp (pc_dnotin hu (pv 7) (pv 2)))
              (pss_cons (ps_dput hu (pv 2) (pv 7) (pe_callB call_len_seq (by rfl) B.len PySem.boot_len (pa_cons (pv 1) pa_nil)) rfl)
              (pss_one (ps_expr (pe_bm PySem.F.plainAttrs_list PySem.F.slot_list_append PySem.F.type_list_append mt_append (pv 1) (pa_cons (pv 7) pa_nil))))) pss_nil)
            (pss_one (ps_dput hu (pv 5) (pv 6) (pe_dget hu (pv 2) (pv 7) (fun _ _ => rfl)) rfl))) pss_nil))))
        (pss_cons (ps_if (pt_cmpR op_gt (pe_callB call_len_seq (by rfl) B.len PySem.boot_len (pa_cons (pv 1) pa_nil)) (pe_glob (v := .int 40) (by rfl) wS ⟨_, rfl⟩) (nomark _)) (pss_one ps_never) pss_nil)
        (pss_one (ps_expr (pe_bm PySem.F.plainAttrs_list PySem.F.slot_list_append PySem.F.type_list_append mt_append (pv 3) (pa_cons (pe_tup (pa_cons (pv 5) (pa_cons (pe_cmpR op_eq (pe_ix ix_tup (pv 4) pe_int (fun _ _ => rfl)) pe_str (nomark _)) pa_nil))) pa_nil)))))))))
      (pss_one (ps_ret (pe_callTy call_tuple_of (by rfl) O.tuple (by decide +kernel) (pa_cons (pv 3) pa_nil)))))))), ?_⟩
    have lt1 : ∀ {n : Nat}, n ≤ 3999 → n < sizeLine := fun h1 => by rw [sizeLine_eq]; omega
    refine ⟨_, rfl, (by show 1 ≤ sizeLine; decide), fun L hL => ?_⟩
    have e1 := (upd_same : upd H L (.lst [V.ref t]) L = _)
    have s1 := Same.new (o := .lst [V.ref t]) hL
    generalize upd H L (.lst [V.ref t]) = H1 at e1 s1 ⊢
    refine fun D hD => ⟨_, rfl, upd_same, ws.map Sum.inr, t, rfl, ?_, ?_⟩
    · rw [inrs_kV]
      exact (upd_ne (ne_of_none (s1 _ _ ht) hD)).trans (s1 _ _ ht)
    have s2 : Same H1 (upd (upd H1 D (.dT [])) D (.dT [(ws.map Sum.inr, V.int 0)])) := fun b o e => by
      have nb := ne_of_none e hD
      rw [upd_ne nb, upd_ne nb]
      exact e
    have eD2 : (upd (upd H1 D (.dT [])) D (.dT [(ws.map Sum.inr, V.int 0)])) D = some (.dT (kvsR 0 [ws])) := upd_same
    have hD0 : H D = none := s1.free hD
    have nLD : L ≠ D := ne_of_none e1 hD
    have eL2 := s2 _ _ e1
    generalize upd (upd H1 D (.dT [])) D (.dT [(ws.map Sum.inr, V.int 0)]) = H2 at s2 eD2 eL2 ⊢
    refine ⟨(by show 0 ≤ sizeLine; decide), fun M hM => ?_⟩
    have s3 := Same.new (o := .lst []) hM
    have eM3 := (upd_same : upd H2 M (.lst []) M = _)
    have eL3 := s3 _ _ eL2
    have eD3 := s3 _ _ eD2
    have nLM : L ≠ M := ne_of_none eL2 hM
    have nDM : D ≠ M := ne_of_none eD2 hM
    have hM0 : H M = none := (s1.trans s2).free hM
    have sA := (s1.trans s2).trans s3
    generalize upd H2 M (.lst []) = H3 at eM3 eL3 eD3 sA ⊢
    clear s1 s2 s3 e1 hD eL2 eD2 hM
    refine while_by (fun σ H4 => ∃ (rs : RS) (m : Mch) (ts ss : List Addr) (o4 o5 o6 o7 : Option V), σ = [some (.ref t), some (.ref L), some (.ref D), some (.ref M), o4, o5, o6, o7, none] ∧ Same H H4 ∧ H4 L = some (.lst (ts.map V.ref)) ∧ Paired (TupS H4) ts rs ∧ H4 D = some (.dT (kvsR 0 rs)) ∧ H4 M = some (.lst (ss.map V.ref)) ∧ Paired (StA H4) ss m ∧ rs.length ≤ 40 ∧ m.length ≤ rs.length ∧ (∀ r ∈ rs, WB 100000 r ∧ r ≠ []) ∧ mow (41 - m.length) (rs, m) = some p)
      (fun _ H4 => match H4 M with | some (.lst xs) => 41 - xs.length | _ => 0) ?_ ?_ ?_
    · exact ⟨[ws], [], [t], [], _, _, _, _, rfl, sA, eL3, .cons (sA _ _ ht) .nil, eD3, eM3, .nil, (by show 1 ≤ 40; decide), Nat.zero_le _, fun r hr => by rw [List.mem_singleton.mp hr]; exact ⟨wb, ne⟩, hp⟩
    · rintro σ H4 ⟨rs, m, ts, ss, o4, o5, o6, o7, rfl, s4, eL, pt, eD, eM, ps, l40, lm, wr, em⟩
      have lts := Paired.length pt
      have lss := Paired.length ps
      refine ⟨_, rfl, M, _, rfl, .inl (SqL.of eM), _, rfl, L, _, rfl, .inl (SqL.of eL), _, _, rfl, rfl, _, rfl, ?_⟩
      rw [List.length_map, List.length_map, lts, lss]
      by_cases hk : m.length < rs.length
      · rw [decide_eq_true (by omega : ((m.length : Nat) : Int) < (rs.length : Nat))]
        obtain ⟨rest, hrest⟩ : ∃ r, rs[m.length]? = some r := ⟨_, List.getElem?_eq_getElem hk⟩
        obtain ⟨tr, htr, etr⟩ : ∃ tr, ts[m.length]? = some tr ∧ TupS H4 tr rest := by
          obtain ⟨x, hx, e⟩ := L2.paired_get pt (List.getElem?_eq_getElem (show m.length < ts.length by omega))
          rw [hrest] at hx
          cases hx
          exact ⟨_, List.getElem?_eq_getElem (by omega), e⟩
        have rin := List.mem_of_getElem? hrest
        obtain ⟨wrest, nrest⟩ := wr rest rin
        have em : (if (fiveS.foldl (addR rest) (rs, [])).1.length ≤ 40 then mow (41 - m.length - 1) ((fiveS.foldl (addR rest) (rs, [])).1, m ++ [((fiveS.foldl (addR rest) (rs, [])).2, decide (rest.head? = some ""))]) else none) = some p := by
          obtain ⟨k, hk2⟩ : ∃ k, 41 - m.length = k + 1 := ⟨40 - m.length, by omega⟩
          rw [hk2] at em ⊢
          unfold mow at em
          rw [hrest] at em
          exact em
        refine iteT ⟨_, rfl, _, rfl, M, _, rfl, .inl (SqL.of eM), L, _, _, V.ref tr, rfl, rfl, SqL.of eL, at_ofA (j := m.length) (by rw [List.length_map, lss]) (by rw [List.getElem?_map, htr]; rfl), ?_⟩
        refine fun d hd => ?_
        have s5 := Same.new (o := .dK []) hd
        have ed5 := (upd_same : upd H4 d (.dK []) d = _)
        have ndL : L ≠ d := ne_of_none eL hd
        have ndD : D ≠ d := ne_of_none eD hd
        have ndM : M ≠ d := ne_of_none eM hd
        have hd0 : H d = none := s4.free hd
        refine ⟨_, rfl, for_it (walk_str (z := "abcde")) (fun j σ H6 => ∃ (ts' : List Addr) (o6 o7 : Option V), σ = [some (.ref t), some (.ref L), some (.ref D), some (.ref M), some (.ref tr), some (.ref d), o6, o7, none] ∧ B2 L D H4 H6 ∧ H6 L = some (.lst (ts'.map V.ref)) ∧ Paired (TupS H6) ts' ((fiveS.take j).foldl (addR rest) (rs, [])).1 ∧ H6 D = some (.dT (kvsR 0 ((fiveS.take j).foldl (addR rest) (rs, [])).1)) ∧ H6 d = some (.dK (kvsP ((fiveS.take j).foldl (addR rest) (rs, [])).2))) ?_ (fun _ _ _ _ _ => trivial) ?_ ?_⟩
        · exact ⟨ts, _, _, rfl, B2.of s5, s5 _ _ eL, L2.Paired.mapP pt fun _ _ e => s5 _ _ e, s5 _ _ eD, ed5⟩
        · rintro j v σ H6 H7 hj ⟨ts', o6, o7, rfl, b6, eL6, pt6, eD6, ed6⟩ ⟨rfl, ch, hc, rfl⟩
          have hs := sgs_at hc
          rw [fiveS_sgs] at hs
          have s1 : (⟨#[ch]⟩ : Str).length = 1 := rfl
          have nx : ∀ q, (fiveS.take (j + 1)).foldl (addR rest) q = addR rest ((fiveS.take j).foldl (addR rest) q) ⟨#[ch]⟩ := fun q => by
            rw [List.take_add_one, hs, List.foldl_append]
            rfl
          have F := foldR (rest := rest) (fiveS.take j) rs []
          rw [nx]
          have Fl := foldR_len (rest := rest) (fiveS.take j) rs []
          rw [List.length_take] at Fl
          generalize (⟨#[ch]⟩ : Str) = sg at hs s1 ⊢
          generalize (fiveS.take j).foldl (addR rest) (rs, []) = q at F Fl pt6 eD6 ed6 ⊢
          have etr6 : H7 tr = some (.tup (rest.map V.str)) := b6 _ _ (fun z => by rw [z] at etr; have etr : H4 L = _ := etr; rw [eL] at etr; cases etr) (fun z => by rw [z] at etr; have etr : H4 D = _ := etr; rw [eD] at etr; cases etr) etr
          have lw := wrest.1
          refine ⟨_, rfl, tr, rfl, ⟨_, SqT.of etr6⟩, fun C hC => lc_it (walk_tup (K := K) (a := tr) (xs := rest.map V.str)) (fun i H8 => Same H7 H8 ∧ H8 C = some (.lst ((der sg (rest.take i)).map V.str))) ⟨Same.new hC, upd_same⟩ (fun i H8 _ h8 => SqT.of (h8.1 _ _ etr6)) ?_ ?_⟩
          · rintro i x H8 H9 hi ⟨s8, e8⟩ ⟨rfl, hx⟩
            rw [List.length_map] at hi
            obtain rfl : V.str rest[i] = x := by
              rw [List.getElem?_map, List.getElem?_eq_getElem hi] at hx
              exact Option.some.inj hx
            have zl := wrest.2 _ (List.getElem_mem hi)
            refine ⟨rfl, _, rfl, rfl, _, rfl, _, _, rfl, rfl, _, rfl, ?_⟩
            rw [starts_hd s1, der_take sg hi]
            cases c : hd? rest[i] sg with
            | true =>
              have e0 : der sg (rest.take i) ++ (if true = true then [post rest[i] 1] else []) = der sg (rest.take i) ++ [post rest[i] 1] := by simp
              rw [e0]
              refine iteT ⟨_, rfl, _, rfl, _, rfl, by rw [sizeLine_eq]; omega, _, e8, ?_, Same.upN s8 hC, ?_⟩
              · rw [List.length_map]
                have := der_len sg (rest.take i)
                rw [List.length_take] at this
                rw [sizeLine_eq]
                omega
              · rw [upd_same, List.map_append]
                rfl
            | false =>
              have e0 : der sg (rest.take i) ++ (if false = true then [post rest[i] 1] else []) = der sg (rest.take i) := by simp
              rw [e0]
              exact iteF ⟨s8, e8⟩
          rintro H8 ⟨s8, e8⟩
          rw [List.length_map, List.take_length] at e8
          refine ⟨C, _, rfl, .inl ⟨SqL.of e8, fun a ha => ?_⟩⟩
          have s9 := s8.trans (Same.new (o := .tup ((der sg rest).map V.str)) ha)
          have ea := (upd_same : upd H8 a (.tup ((der sg rest).map V.str)) a = _)
          generalize upd H8 a (.tup ((der sg rest).map V.str)) = H9 at s9 ea ⊢
          have eL9 := s9 _ _ eL6
          have eD9 := s9 _ _ eD6
          have ed9 := s9 _ _ ed6
          have pt9 : Paired (TupS H9) ts' q.1 := L2.Paired.mapP pt6 fun _ _ e => s9 _ _ e
          have b9 : B2 L D H4 H9 := b6.trans (B2.of s9)
          clear s8 e8 ha hC s9 eL6 eD6 ed6 pt6 b6
          have ltq := Paired.length pt9
          obtain ⟨r0, er0⟩ := F.pre
          have jf : j < 5 := hj
          have lq : q.1.length ≤ 45 := by omega
          obtain ⟨u, eu, ku, _⟩ := F.mv
          rw [List.nil_append] at eu
          have lq2 : q.2.length ≤ 5 := by
            have := congrArg List.length ku
            rw [← eu, List.length_map] at this
            have l2 := List.length_filter_le (fun s => !decide (der s rest = [])) (fiveS.take j)
            rw [List.length_take] at l2
            omega
          refine ⟨_, rfl, _, .inr (.inl ⟨_, SqT.of ea, rfl⟩), ?_⟩
          unfold addR
          by_cases c : der sg rest = []
          · rw [if_pos c, c]
            exact iteF ⟨ts', _, _, rfl, b9, eL9, pt9, eD9, ed9⟩
          · rw [if_neg c]
            have ce : (!((der sg rest).map V.str).isEmpty) = true := by
              cases hd : der sg rest with
              | nil => exact absurd hd c
              | cons _ _ => rfl
            rw [ce]
            refine iteT ⟨_, rfl, _, rfl, D, _, rfl, .inr ⟨_, (der sg rest).map Sum.inr, a, .inl eD9, rfl, by rw [inrs_kV]; exact ea, rfl⟩, _, rfl, ?_⟩
            have eput : ∀ {rs' : RS}, der sg rest ∈ rs' → valV (kvsR 0 rs') ((der sg rest).map Sum.inr) = some (V.int ((rs'.idxOf (der sg rest) : Nat) : Int)) := fun {rs'} hm => by
              rw [kvsR_val, if_pos hm, Nat.zero_add]
            have ksg : sg ∉ q.2.map (·.1) := fun hm => by
              rw [eu, ku] at hm
              have hm := (List.mem_filter.mp hm).1
              obtain ⟨i, hi⟩ := List.mem_iff_getElem?.mp hm
              have li := (List.getElem?_eq_some_iff.mp hi).1
              rw [List.length_take] at li
              rw [List.getElem?_take_of_lt (by omega)] at hi
              have := (List.getElem?_inj (l := fiveS) (i := i) (j := j) (by show i < 5; omega) fiveS_nd).mp (by rw [hi, hs])
              omega
            rw [kvsR_val]
            by_cases cin : der sg rest ∈ q.1
            · rw [if_pos cin]
              have ea2 : addS (der sg rest) q.1 = q.1 := by unfold addS; rw [if_pos cin]
              rw [ea2]
              refine iteF ⟨_, rfl, _, rfl, D, _, rfl, .inr ⟨_, (der sg rest).map Sum.inr, a, .inl eD9, rfl, by rw [inrs_kV]; exact ea, (eput cin).symm⟩, _, rfl, _, rfl, d, _, rfl, DPut.k (k := Sum.inr sg) ed9 (lt1 (by rw [kvsP_len]; omega)), ?_⟩
              rw [putP_new ksg]
              have k10 : ∀ b o, b ≠ d → H9 b = some o → (upd H9 d (.dK (kvsP (q.2 ++ [(sg, ((q.1.idxOf (der sg rest) : Nat) : Int))])))) b = some o := fun b o n e => (upd_ne n).trans e
              exact ⟨ts', _, _, rfl, fun b o n1 n2 e => k10 _ _ (fun z => by rw [z, hd] at e; cases e) (b9 b o n1 n2 e), k10 _ _ ndL eL9, L2.Paired.mapP pt9 fun x r e => k10 _ _ (fun z => by rw [z] at e; have e : H9 d = _ := e; rw [ed9] at e; cases e) e, k10 _ _ ndD eD9, upd_same⟩
            · rw [if_neg cin]
              have ea2 : addS (der sg rest) q.1 = q.1 ++ [der sg rest] := by unfold addS; rw [if_neg cin]
              rw [ea2]
              refine iteT ⟨_, rfl, L, _, rfl, .inl (SqL.of eL9), _, rfl, _, rfl, D, _, rfl, .inr ⟨_, (der sg rest).map Sum.inr, a, eD9, rfl, by rw [inrs_kV]; exact ea, lt1 (by rw [kvsR_len]; omega), rfl⟩, ?_⟩
              rw [List.length_map, ltq, kvsR_put cin]
              have k10 : ∀ b o, b ≠ D → H9 b = some o → (upd H9 D (.dT (kvsR 0 (q.1 ++ [der sg rest])))) b = some o := fun b o n e => (upd_ne n).trans e
              have eD10 := (upd_same : upd H9 D (.dT (kvsR 0 (q.1 ++ [der sg rest]))) D = _)
              generalize upd H9 D (.dT (kvsR 0 (q.1 ++ [der sg rest]))) = H10 at k10 eD10 ⊢
              have eL10 := k10 _ _ nLD eL9
              have tupN : ∀ {x : Addr} {r : List Str}, TupS H9 x r → TupS H10 x r := fun {x r} e => k10 _ _ (fun z => by rw [z] at e; have e : H9 D = _ := e; rw [eD9] at e; cases e) e
              have ea10 : TupS H10 a (der sg rest) := tupN ea
              have ed10 := k10 _ _ ndD.symm ed9
              refine ⟨_, rfl, .inl ⟨rfl, _, SqL.of eL10⟩, _, rfl, L, _, _, rfl, rfl, eL10, lt1 (by rw [List.length_map]; omega), ?_⟩
              have k11 : ∀ b o, b ≠ L → H10 b = some o → (upd H10 L (.lst (ts'.map V.ref ++ [V.ref a]))) b = some o := fun b o n e => (upd_ne n).trans e
              have eL11 : (upd H10 L (.lst (ts'.map V.ref ++ [V.ref a]))) L = some (.lst ((ts' ++ [a]).map V.ref)) := by rw [upd_same, List.map_append]; rfl
              generalize upd H10 L (.lst (ts'.map V.ref ++ [V.ref a])) = H11 at k11 eL11 ⊢
              have tupM : ∀ {x : Addr} {r : List Str}, TupS H10 x r → TupS H11 x r := fun {x r} e => k11 _ _ (fun z => by rw [z] at e; have e : H10 L = _ := e; rw [eL10] at e; cases e) e
              have eD11 := k11 _ _ nLD.symm eD10
              have ed11 := k11 _ _ ndL.symm ed10
              have cin2 : der sg rest ∈ q.1 ++ [der sg rest] := List.mem_append_right _ List.mem_cons_self
              refine ⟨_, rfl, _, rfl, D, _, rfl, .inr ⟨_, (der sg rest).map Sum.inr, a, .inl eD11, rfl, by rw [inrs_kV]; exact tupM ea10, (eput cin2).symm⟩, _, rfl, _, rfl, d, _, rfl, DPut.k (k := Sum.inr sg) ed11 (lt1 (by rw [kvsP_len]; omega)), ?_⟩
              rw [putP_new ksg]
              have k12 : ∀ b o, b ≠ d → H11 b = some o → (upd H11 d (.dK (kvsP (q.2 ++ [(sg, (((q.1 ++ [der sg rest]).idxOf (der sg rest) : Nat) : Int))])))) b = some o := fun b o n e => (upd_ne n).trans e
              refine ⟨ts' ++ [a], _, _, rfl, fun b o n1 n2 e => k12 _ _ (fun z => by rw [z, hd] at e; cases e) (k11 _ _ n1 (k10 _ _ n2 (b9 b o n1 n2 e))), k12 _ _ ndL eL11, ?_, k12 _ _ ndD eD11, upd_same⟩
              have tupF : ∀ {x : Addr} {r : List Str}, TupS H11 x r → TupS (upd H11 d (.dK (kvsP (q.2 ++ [(sg, (((q.1 ++ [der sg rest]).idxOf (der sg rest) : Nat) : Int))])))) x r := fun {x r} e => k12 _ _ (fun z => by rw [z] at e; have e : H11 d = _ := e; rw [ed11] at e; cases e) e
              exact Paired.appendP (L2.Paired.mapP pt9 fun _ _ e => tupF (tupM (tupN e))) (.cons (tupF (tupM ea10)) .nil)
        · rintro σ H6 ⟨ts', o6, o7, rfl, b6, eL6, pt6, eD6, ed6⟩
          rw [show fiveS.take ("abcde" : Str).cps.size = fiveS from rfl] at pt6 eD6 ed6
          have F := foldR (rest := rest) fiveS rs []
          have Fl := foldR_len (rest := rest) fiveS rs []
          have wq : ∀ r ∈ (fiveS.foldl (addR rest) (rs, [])).1, WB 100000 r ∧ r ≠ [] := fun r hr => by
            rcases F.new r hr with hr | ⟨s', _, rfl, hr⟩
            · exact wr r hr
            · exact ⟨wrest.der s', hr⟩
          obtain ⟨r0, er0⟩ := F.pre
          have ltq := Paired.length pt6
          generalize fiveS.foldl (addR rest) (rs, []) = q at pt6 eD6 ed6 em wq er0 ltq ⊢
          by_cases c : q.1.length ≤ 40
          case neg =>
            rw [if_neg c] at em
            cases em
          rw [if_pos c] at em
          have etr6 : H6 tr = some (.tup (rest.map V.str)) := b6 _ _ (fun z => by rw [z] at etr; have etr : H4 L = _ := etr; rw [eL] at etr; cases etr) (fun z => by rw [z] at etr; have etr : H4 D = _ := etr; rw [eD] at etr; cases etr) etr
          have eM6 := b6 _ _ nLM.symm nDM.symm eM
          refine ⟨_, rfl, L, _, rfl, .inl (SqL.of eL6), _, _, rfl, rfl, _, rfl, ?_⟩
          rw [List.length_map, ltq, decide_eq_false (by omega : ¬ ((q.1.length : Nat) : Int) > 40)]
          obtain ⟨z0, rz, erz⟩ : ∃ z0 rz, rest = z0 :: rz := by
            cases hz : rest with
            | nil => exact absurd hz nrest
            | cons a b => exact ⟨a, b, rfl⟩
          have eb : decide (V.str z0 = V.str "") = decide (rest.head? = some "") := by
            rw [erz, Bool.eq_iff_iff, decide_eq_true_eq, decide_eq_true_eq]
            exact ⟨fun h => by injection h with h; rw [h]; rfl, fun h => by injection h with h; rw [h]⟩
          refine iteF ⟨_, rfl, .inl ⟨rfl, _, SqL.of eM6⟩, _, rfl, _, rfl, tr, _, _, V.str z0, rfl, rfl, SqT.of etr6, at_ofA (j := 0) rfl (by rw [erz]; rfl), rfl, (by show 2 ≤ sizeLine; decide), fun T hT => ?_⟩
          rw [eb]
          have s7 := Same.new (o := .tup [V.ref d, V.bl (decide (rest.head? = some ""))]) hT
          have eT := (upd_same : upd H6 T (.tup [V.ref d, V.bl (decide (rest.head? = some ""))]) T = _)
          generalize upd H6 T (.tup [V.ref d, V.bl (decide (rest.head? = some ""))]) = H7 at s7 eT ⊢
          have eM7 := s7 _ _ eM6
          have eL7 := s7 _ _ eL6
          have eD7 := s7 _ _ eD6
          have ed7 := s7 _ _ ed6
          have k8 : ∀ b o, b ≠ M → H7 b = some o → (upd H7 M (.lst (ss.map V.ref ++ [V.ref T]))) b = some o := fun b o n e => (upd_ne n).trans e
          have s8 : Same H (upd H7 M (.lst (ss.map V.ref ++ [V.ref T]))) := fun b o e => k8 _ _ (ne_of_none e hM0) (s7 _ _ (b6 _ _ (ne_of_none e hL) (ne_of_none e hD0) (s4 _ _ e)))
          have eM8 : (upd H7 M (.lst (ss.map V.ref ++ [V.ref T]))) M = some (.lst ((ss ++ [T]).map V.ref)) := by rw [upd_same, List.map_append]; rfl
          refine ⟨M, _, _, rfl, rfl, eM7, lt1 (by rw [List.length_map]; omega), ⟨q.1, m ++ [(q.2, decide (rest.head? = some ""))], ts', ss ++ [T], _, _, _, _, rfl, s8, k8 _ _ nLM eL7, ?_, k8 _ _ nDM eD7, eM8, ?_, c, ?_, wq, ?_⟩, ?_⟩
          · exact L2.Paired.mapP pt6 fun x r e => k8 _ _ (fun z => by rw [z] at e; have e : H6 M = _ := e; rw [eM6] at e; cases e) (s7 _ _ e)
          · have kM : ∀ {x : Addr} {o : HO}, H4 x = some o → x ≠ L → x ≠ D → x ≠ M → (upd H7 M (.lst (ss.map V.ref ++ [V.ref T]))) x = some o := fun e n1 n2 n3 => k8 _ _ n3 (s7 _ _ (b6 _ _ n1 n2 e))
            refine Paired.appendP (L2.Paired.mapP ps fun x y ⟨d', h1, h2⟩ => ⟨d', kM h1 (fun z => by rw [z, eL] at h1; cases h1) (fun z => by rw [z, eD] at h1; cases h1) (fun z => by rw [z, eM] at h1; cases h1), kM h2 (fun z => by rw [z, eL] at h2; cases h2) (fun z => by rw [z, eD] at h2; cases h2) (fun z => by rw [z, eM] at h2; cases h2)⟩) (.cons ⟨d, k8 _ _ (fun z => by rw [z, eM7] at eT; cases eT) eT, k8 _ _ ndM.symm ed7⟩ .nil)
          · rw [List.length_append, er0, List.length_append]
            show m.length + 1 ≤ _
            omega
          · rw [List.length_append]
            exact em
          · rw [eM8, eM]
            show 41 - ((ss ++ [T]).map V.ref).length < 41 - (ss.map V.ref).length
            rw [List.length_map, List.length_map, List.length_append, lss]
            show 41 - (m.length + 1) < 41 - m.length
            omega
      · rw [decide_eq_false (by omega : ¬ ((m.length : Nat) : Int) < (rs.length : Nat))]
        have ek : m.length = rs.length := by omega
        have ep : (rs, m) = p := by
          obtain ⟨k, hk2⟩ : ∃ k, 41 - m.length = k + 1 := ⟨40 - m.length, by omega⟩
          rw [hk2] at em
          unfold mow at em
          rw [show ((rs, m) : RS × Mch).1[(rs, m).2.length]? = none from List.getElem?_eq_none (by show rs.length ≤ m.length; omega)] at em
          exact Option.some.inj em
        subst ep
        refine iteF ⟨_, rfl, M, _, rfl, .inl ⟨SqL.of eM, fun r hr => ?_⟩⟩
        have s5 := Same.new (o := .tup (ss.map V.ref)) hr
        exact q _ r (s4.trans s5) (s4.free hr) ⟨ss, upd_same, L2.Paired.mapP ps fun _ _ e => e.keep s5⟩
    · rintro σ H3 Q1 Q2 hq ⟨v1, h1, a1, ys, e1, i1, v2, h2, a2, zs, e2, i2, i3, j3, e3, e4, b, e5, h⟩
      exact ⟨v1, h1, a1, ys, e1, i1, v2, h2, a2, zs, e2, i2, i3, j3, e3, e4, b, e5, hq _ _ h⟩
end
end Mk

set_option Elab.async false
set_option linter.all false
set_option maxRecDepth 100000
set_option maxHeartbeats 2000000
/-! machines of words are machines of forms -/
namespace Mk
open PySem PySem.Spec L2 PyProof.Rows

/-- words that come by length, of signs -/
structure Wdl (r : List Str) : Prop where
  up : r.Pairwise fun x y => x.length ≤ y.length
  sg : ∀ z ∈ r, ∀ x ∈ sgs z, x ∈ fiveS
theorem hd_cons {z s : Str} (h : hd? z s = true) : sgs z = s :: sgs (post z 1) := by
  unfold hd? at h
  rw [decide_eq_true_eq] at h
  rw [show (1 : Int) = ((1 : Nat) : Int) from rfl, sgs_post]
  cases e : sgs z with
  | nil => rw [e] at h; cases h
  | cons a l =>
    rw [e] at h
    have h : some a = some s := h
    rw [Option.some.inj h]
    rfl
theorem hd_len {z s : Str} (h : hd? z s = true) : z.length = (post z 1).length + 1 := by
  rw [← sgs_length, ← sgs_length, hd_cons h]
  rfl
theorem der_mem {s : Str} {r : List Str} {y : Str} : y ∈ der s r ↔ ∃ z ∈ r, hd? z s = true ∧ post z 1 = y := by
  unfold der
  rw [List.mem_map]
  exact ⟨fun ⟨z, hz, e⟩ => ⟨z, (List.mem_filter.mp hz).1, (List.mem_filter.mp hz).2, e⟩, fun ⟨z, h1, h2, e⟩ => ⟨z, List.mem_filter.mpr ⟨h1, h2⟩, e⟩⟩
theorem Wdl.der {r : List Str} (h : Wdl r) (s : Str) : Wdl (der s r) := by
  refine ⟨?_, fun y hy x hx => ?_⟩
  · unfold Mk.der
    rw [List.pairwise_map]
    refine (List.Pairwise.sublist List.filter_sublist h.up).imp_of_mem fun {a b} ha hb hab => ?_
    have := hd_len (List.mem_filter.mp ha).2
    have := hd_len (List.mem_filter.mp hb).2
    omega
  · obtain ⟨z, hz, h1, rfl⟩ := der_mem.mp hy
    refine h.sg z hz x ?_
    rw [hd_cons h1]
    exact List.mem_cons_of_mem _ hx
theorem Wdl.head {r : List Str} (h : Wdl r) (e : ("" : Str) ∈ r) : r.head? = some "" := by
  cases r with
  | nil => cases e
  | cons a l =>
    rcases List.mem_cons.mp e with e | e
    · rw [← e]
      rfl
    · have := (List.pairwise_cons.mp h.up).1 _ e
      have l0 : a.length = 0 := by
        have e0 : ("" : Str).length = 0 := rfl
        omega
      have : a = "" := sgs_inj (by
        have h1 : (sgs a).length = 0 := by rw [sgs_length]; exact l0
        rw [List.length_eq_zero_iff.mp h1]
        rfl)
      rw [this]
      rfl
theorem fiveS_sgB {s : Str} (h : s ∈ fiveS) : sgB s = true := by
  have : ∀ s ∈ fiveS, sgB s = true := by decide +kernel
  exact this s h
section
variable {ws : List Str} {rs : RS} {m : Mch}
theorem mowI_wd (h : MowI ws (rs, m)) (hw : Wdl ws) : ∀ (n : Nat) (r : List Str), rs[n]? = some r → Wdl r := by
  intro n
  induction n using Nat.strongRecOn with
  | _ n ih =>
    intro r hr
    rcases h.com n r hr with rfl | ⟨i, s, r', h1, h2, h3, h4, rfl⟩
    · have := h.zero
      have hr : rs[0]? = some r := hr
      have this : rs[0]? = some ws := this
      rw [hr] at this
      cases this
      exact hw
    · exact (ih i h2 r' h3).der s
theorem mowI_row (h : MowI ws (rs, m)) {i : Nat} (hi : i < m.length) : ∃ r, rs[i]? = some r ∧ lst? m (i : Int) = decide (r.head? = some "") ∧ (mvs m (i : Int)).map (·.1) = fiveS.filter (fun s => !decide (der s r = [])) ∧ ∀ x ∈ mvs m (i : Int), ∃ j : Nat, x.2 = (j : Int) ∧ rs[j]? = some (der x.1 r) := by
  obtain ⟨e1, e2⟩ := mvs_at (List.getElem?_eq_getElem hi)
  rw [e1, e2]
  exact h.row i _ (List.getElem?_eq_getElem hi)
theorem mowI_step (h : MowI ws (rs, m)) {i : Nat} (hi : i < m.length) {r : List Str} (hr : rs[i]? = some r) {s : Str} (hs : s ∈ fiveS) (hd : der s r ≠ []) : ∃ j : Nat, (s, (j : Int)) ∈ mvs m (i : Int) ∧ rs[j]? = some (der s r) := by
  obtain ⟨r', e, _, ek, em⟩ := mowI_row h hi
  rw [hr] at e
  cases e
  have : s ∈ (mvs m (i : Int)).map (·.1) := by
    rw [ek, List.mem_filter]
    exact ⟨hs, by simp [hd]⟩
  obtain ⟨x, hx, rfl⟩ := List.mem_map.mp this
  obtain ⟨j, ej, hj⟩ := em x hx
  exact ⟨j, by rw [← ej]; exact hx, hj⟩
theorem mowI_rch (h : MowI ws (rs, m)) (hl : m.length = rs.length) : ∀ (n : Nat), n < m.length → Rch m 0 (n : Int) := by
  intro n
  induction n using Nat.strongRecOn with
  | _ n ih =>
    intro hn
    obtain ⟨r, hr⟩ : ∃ r, rs[n]? = some r := ⟨_, List.getElem?_eq_getElem (by omega)⟩
    rcases h.com n r hr with rfl | ⟨i, s, r', h1, h2, h3, h4, rfl⟩
    · exact .refl _
    · have ne := h.ne _ (List.mem_of_getElem? hr)
      obtain ⟨j, hj, ej⟩ := mowI_step h (by omega) h3 h4 ne
      have := (List.getElem?_inj (l := rs) (i := j) (j := n) (List.getElem?_eq_some_iff.mp ej).1 h.nd).mp (by rw [ej, hr])
      subst this
      exact .step (ih i h2 (by omega)) hj
theorem mowI_end (h : MowI ws (rs, m)) (hl : m.length = rs.length) (hw : Wdl ws) : ∀ (k n : Nat) (r : List Str) (z : Str), n < m.length → rs[n]? = some r → z ∈ r → z.length = k → ∃ j, Rch m (n : Int) j ∧ lst? m j = true
  | 0, n, r, z, hn, hr, hz, hk => by
    refine ⟨_, .refl _, ?_⟩
    obtain ⟨r', e, el, _, _⟩ := mowI_row h hn
    rw [hr] at e
    cases e
    rw [el]
    have e0 : z = "" := sgs_inj (by
      have h1 : (sgs z).length = 0 := by rw [sgs_length]; exact hk
      rw [List.length_eq_zero_iff.mp h1]
      rfl)
    rw [e0] at hz
    exact decide_eq_true ((mowI_wd h hw n r hr).head hz)
  | k + 1, n, r, z, hn, hr, hz, hk => by
    have wr := mowI_wd h hw n r hr
    obtain ⟨s, l, es⟩ : ∃ s l, sgs z = s :: l := by
      cases e : sgs z with
      | nil =>
        have := sgs_length z
        rw [e] at this
        have : 0 = z.length := this
        omega
      | cons s l => exact ⟨s, l, rfl⟩
    have hs := wr.sg z hz s (by rw [es]; exact List.mem_cons_self)
    have hh : hd? z s = true := decide_eq_true (by rw [es]; rfl)
    have hm : post z 1 ∈ der s r := der_mem.mpr ⟨z, hz, hh, rfl⟩
    obtain ⟨j, hj, ej⟩ := mowI_step h hn hr hs (List.ne_nil_of_mem hm)
    have lj := (List.getElem?_eq_some_iff.mp ej).1
    obtain ⟨q, rq, lq⟩ := mowI_end h hl hw k j _ _ (by omega) ej hm (by have := hd_len hh; omega)
    exact ⟨q, Rch.head hj rq, lq⟩
theorem mowI_good (h : MowI ws (rs, m)) (hl : m.length = rs.length) (hw : Wdl ws) : GoodM m := by
  refine ⟨⟨fun q hq => ?_, fun q hq p hp => ?_, fun q hq p hp => ?_⟩, ?_, fun i hi => ?_⟩
  · obtain ⟨i, hi⟩ := List.mem_iff_getElem?.mp hq
    obtain ⟨r, _, _, ek, _⟩ := h.row i q hi
    rw [ek]
    exact List.Nodup.sublist List.filter_sublist fiveS_nd
  · obtain ⟨i, hi⟩ := List.mem_iff_getElem?.mp hq
    obtain ⟨r, _, _, ek, _⟩ := h.row i q hi
    have : p.1 ∈ q.1.map (·.1) := List.mem_map.mpr ⟨p, hp, rfl⟩
    rw [ek] at this
    exact fiveS_sgB (List.mem_filter.mp this).1
  · obtain ⟨i, hi⟩ := List.mem_iff_getElem?.mp hq
    obtain ⟨r, _, _, _, em⟩ := h.row i q hi
    obtain ⟨j, ej, hj⟩ := em p hp
    have : j < rs.length := (List.getElem?_eq_some_iff.mp hj).1
    omega
  · have : 0 < rs.length := (List.getElem?_eq_some_iff.mp h.zero).1
    omega
  · have e : ((i.toNat : Nat) : Int) = i := by omega
    have r0 := mowI_rch h hl i.toNat (by omega)
    rw [e] at r0
    refine ⟨r0, ?_⟩
    obtain ⟨r, hr⟩ : ∃ r, rs[i.toNat]? = some r := ⟨_, List.getElem?_eq_getElem (by omega)⟩
    have ne := h.ne _ (List.mem_of_getElem? hr)
    obtain ⟨z, hz⟩ := List.exists_mem_of_ne_nil _ ne
    obtain ⟨j, a, b⟩ := mowI_end h hl hw z.length i.toNat r z (by omega) hr hz rfl
    rw [e] at a
    exact ⟨j, a, b⟩
end
/-! ### few words, few rests -/
def resid (u : List Str) (ws : List Str) : List Str := u.foldl (fun r s => der s r) ws
theorem resid_mem {ws : List Str} {y : Str} : ∀ {u : List Str}, y ∈ resid u ws → ∃ z ∈ ws, sgs z = u ++ sgs y := by
  intro u
  induction u generalizing ws with
  | nil => exact fun h => ⟨y, h, rfl⟩
  | cons s u ih =>
    intro h
    obtain ⟨z, hz, e⟩ := ih (ws := der s ws) h
    obtain ⟨x, hx, h1, rfl⟩ := der_mem.mp hz
    exact ⟨x, hx, by rw [hd_cons h1, e]; rfl⟩
def RR (ws : List Str) : RS := ws.flatMap fun z => (List.range (z.length + 1)).map fun k => resid ((sgs z).take k) ws
theorem mowI_rr {ws : List Str} {rs : RS} {m : Mch} (h : MowI ws (rs, m)) : ∀ (n : Nat) (r : List Str), rs[n]? = some r → ∃ u, r = resid u ws := by
  intro n
  induction n using Nat.strongRecOn with
  | _ n ih =>
    intro r hr
    rcases h.com n r hr with rfl | ⟨i, s, r', h1, h2, h3, h4, rfl⟩
    · have := h.zero
      have hr : rs[0]? = some r := hr
      have this : rs[0]? = some ws := this
      rw [hr] at this
      cases this
      exact ⟨[], rfl⟩
    · obtain ⟨u, rfl⟩ := ih i h2 r' h3
      exact ⟨u ++ [s], by unfold resid; rw [List.foldl_append]; rfl⟩
theorem mowI_len {ws : List Str} {rs : RS} {m : Mch} (h : MowI ws (rs, m)) : rs.length ≤ (RR ws).length := by
  refine nd_len h.nd fun r hr => ?_
  obtain ⟨n, hn⟩ := List.mem_iff_getElem?.mp hr
  obtain ⟨u, rfl⟩ := mowI_rr h n r hn
  obtain ⟨y, hy⟩ := List.exists_mem_of_ne_nil _ (h.ne _ hr)
  obtain ⟨z, hz, e⟩ := resid_mem hy
  unfold RR
  rw [List.mem_flatMap]
  refine ⟨z, hz, List.mem_map.mpr ⟨u.length, List.mem_range.mpr ?_, ?_⟩⟩
  · rw [← sgs_length, e, List.length_append]
    omega
  · rw [e, List.take_left]
theorem mow_some {ws : List Str} (h40 : (RR ws).length ≤ 40) : ∀ (n : Nat) (p : RS × Mch), MowI ws p → ∃ q, mow n p = some q
  | 0, p, _ => ⟨p, rfl⟩
  | n + 1, p, h => by
    unfold mow
    cases e : p.1[p.2.length]? with
    | none => exact ⟨p, rfl⟩
    | some rest =>
      have h2 := mow_step h e
      have := mowI_len h2
      have c : (fiveS.foldl (addR rest) (p.1, [])).1.length ≤ 40 := by omega
      show ∃ q, (if (fiveS.foldl (addR rest) (p.1, [])).1.length ≤ 40 then _ else none) = some q
      rw [if_pos c]
      exact mow_some h40 n _ h2
theorem RR_len (ws : List Str) : (RR ws).length = (ws.map fun z => z.length + 1).sum := by
  unfold RR
  rw [List.length_flatMap]
  congr 1
  refine List.map_congr_left fun z _ => ?_
  rw [List.length_map, List.length_range]
/-- the machine of words -/
theorem mow_good {ws : List Str} {p : RS × Mch} (hw : Wdl ws) (ne : ws ≠ []) (e : mow 41 ([ws], []) = some p) : GoodM p.2 ∧ p.2.length ≤ 40 ∧ MowI ws p ∧ p.2.length = p.1.length := by
  obtain ⟨h, hl, l40⟩ := mow_ok 41 _ p (mow_start ne) (by show 1 ≤ 40; decide) (by show 41 ≤ 41 + 0; decide) e
  exact ⟨mowI_good h hl hw, by omega, h, hl⟩
end Mk

set_option Elab.async false
set_option linter.all false
set_option maxRecDepth 100000
set_option maxHeartbeats 4000000
/-! of_words -/
namespace Mk
open PySem PySem.Spec L2 PyProof.Rows

section
variable {X : Cx} {CX : CXT} {k i : Nat} {f C : Addr} {fd : FuncData} {ps : List Str} {sp : Sp} {E : XK} {x : Str} {p pos : Pos} {e : Expr} {es : List Expr} {t : TA} {dvs : List V} {ds : List Value}
/-- c(e, ..), the class in a local name -/
def tMakeP (i : Nat) (C : Addr) (sp : Sp) (dvs : List V) (E : XK) (t : TA) : TE := fun σ H Q => σ[i]? = some (some (.ref C)) ∧ tMake C sp dvs E t σ H Q
theorem pe_makeP (M : L2.Mk X.K C f) (F : FnOk X.prog X.w X.K X.mg X.base CX k f fd ps sp) (hr : Room (k + 1) X.A) (hN : X.N[i]? = some x) (hv : Vis X.env.scope x) (hb : Binds X.K fd ps ds) (hd : Vals dvs ds) (hx : Passes CX X E)
    (ha : PA X (e :: es) t) (hdb : (x == ("__debug__" : Str)) = false := by decide) (hcd : (x == ("__classdict__" : Str)) = false := by decide) (he : starEach (e :: es) X.env = (false, eval e X.env) :: starEach es X.env := by rfl) (hpl : (backTo pos (starEach es X.env)).any (·.1) = false := by rfl) :
    PE X (.Call (.Name x p) (e :: es) [] pos) (tMakeP i C sp dvs E t) := by
  refine ⟨fun pins s σ H Q I h => ?_⟩
  obtain ⟨hs, h⟩ := h
  refine wpAny_Call_Name_kw (thn ((pe_var (pos := p) hN hv hdb hcd).run pins s σ H (fun v H1 => v = .ref C ∧ H1 = H) I ⟨.ref C, hs, rfl, rfl⟩) fun u s1 ⟨v, H1, I1, r1, q1⟩ => ?_)
  obtain ⟨rfl, rfl⟩ := q1
  obtain rfl : u = Value.ref C := r1
  refine PySem.W.callWith_K (h₀ := X.base) I1.ok.mod.kin M.kp (thn (ha.run pos pins s1 σ _ _ I1 h) fun us s2 ⟨vs, H2, I2, r, q⟩ => ⟨I2.kIn, ?_⟩) he hpl
  exact run_make M F hr hb hd hx I2 r q
end
abbrev sOfW : Stmt := inClass (top 46) 1
def spOfW (C : Addr) : Sp := fun vs H Q _ => ∃ (t : Addr) (zs : List Str), vs = [.ref C, .ref t] ∧ H t = some (.tup (zs.map V.str)) ∧ (∀ z ∈ zs, IsW z ∧ z.length ≤ 100000) ∧ zs ≠ [] ∧ zs.length < 4000 ∧ (∀ ws, Asc zs ws → ∃ p, mow 41 ([ws], []) = some p) ∧
  ∀ H' x ws p, Same H H' → H x = none → Asc zs ws → mow 41 ([ws], []) = some p → FmAt C H' x p.2 → Q (.ref x) H'
theorem isW_five {z : Str} (h : IsW z) : ∀ x ∈ sgs z, x ∈ fiveS := fun x hx => by
  unfold sgs at hx
  obtain ⟨c, hc, rfl⟩ := List.mem_map.mp hx
  have := h c hc
  have : c = 97 ∨ c = 98 ∨ c = 99 ∨ c = 100 ∨ c = 101 := by omega
  rcases this with rfl | rfl | rfl | rfl | rfl <;> decide +kernel
theorem Asc.wd {zs ws : List Str} (a : Asc zs ws) (h : ∀ z ∈ zs, IsW z ∧ z.length ≤ 100000) : Wdl ws := by
  refine ⟨a.up.imp fun {x y} h => ?_, fun z hz => isW_five (h z ((a.mem z).mp hz)).1⟩
  unfold ahB at h
  simp at h
  omega
section
variable {P : Program} {w : World} {K : PySem.W.Frag} {mg : Str → Option Value} {base : Heap} {C CB : Addr}
theorem scOfW : FnScope ["cls", "words", "rest"] ["cls", "words"] (defScope sOfW) := ⟨rfl, rfl, rfl, by decide +kernel, rfl, by decide +kernel, by decide +kernel⟩
theorem ok_ofW {f fi fb : Addr} {fd fdi fdb : FuncData} (F : Fun K "of_words" "Form.of_words" sOfW f fd) (T : Fc K C) (TB : Bc K mg CB) (M : L2.Mk K C fi) (MB : L2.Mk K CB fb) (G : FnOk P w K mg base CX0 5 fi fdi ["self", "states"] (spFInitB C CB)) (b : Binds K fdi ["self", "states"] []) (GB : FnOk P w K mg base CX0 1 fb fdb ["self", "machine"] (spBInit CB)) (bB : Binds K fdb ["self", "machine"] []) (J : Cd P w K mg base 2 "ordered" ["words"] (spOrdered K)) (J2 : Cd P w K mg base 1 "_machine_of_words" ["words"] spMow) : FnOk P w K mg base CX0 7 f fd ["cls", "words"] (spOfW C) := by
  obtain ⟨a1, d1, G1, m1, k1, b1⟩ := J.ex
  obtain ⟨a2, d2, G2, m2, k2, b2⟩ := J2.ex
  refine F.ok scOfW (fun vs H Q E h => ?_) (fun cdv A outer s H vs Q E hr h => ?_)
  · obtain ⟨t, zs, rfl, _⟩ := h
    rfl
  · obtain ⟨t, zs, rfl, ht, hz, nz, lz, hs, q⟩ := h
    have r1 : Room 1 _ := hr.mono (by decide)
    have r2 : Room 2 _ := hr.mono (by decide)
    refine ⟨_, pss_cons (ps_set (i := 2) scOfW.nd rfl (.inl rfl) (pe_call G1 r2 (by rfl) m1 k1 b1 .nil pass0 (pa_cons (pv 1) pa_nil)))
      (pss_cons (ps_if (pt_not (pt_truth (pv 2) (by intro _; rfl))) (pss_one ps_never) pss_nil)
      (pss_one (ps_ret (pe_makeP (i := 0) M G hr rfl (.inl rfl) b .nil pass0 (pa_cons (pe_make MB GB r2 (by rfl) TB.m bB .nil pass0 (pa_cons (pe_call G2 r1 (by rfl) m2 k2 b2 .nil pass0 (pa_cons (pv 2) pa_nil)) pa_nil)) pa_nil))))), ?_⟩
    refine ⟨_, rfl, t, zs, rfl, ht, hz, lz, fun H1 r ws s1 fr er asc => ?_⟩
    have wne : ws ≠ [] := by
      obtain ⟨z, hz'⟩ := List.exists_mem_of_ne_nil _ nz
      exact List.ne_nil_of_mem ((asc.mem z).mpr hz')
    obtain ⟨p, hp⟩ := hs ws asc
    have ce : (!(ws.map V.str).isEmpty) = true := by
      cases hd : ws with
      | nil => exact absurd hd wne
      | cons _ _ => rfl
    have la := asc.len
    refine ⟨_, rfl, _, .inr (.inl ⟨_, SqT.of er, rfl⟩), ?_⟩
    rw [ce]
    refine iteF ⟨rfl, _, rfl, r, ws, p, rfl, er, wne, ⟨by omega, fun z hz' => (hz z ((asc.mem z).mp hz')).2⟩, hp, fun H2 R s2 fR hm2 => ?_⟩
    refine fun y dy hy hdy ne => ?_
    have k3 : Same H2 (upd (upd H2 dy (.own y)) y (.ins CB dy [])) := fun b o e => by
      rw [upd_ne (ne_of_none e hy), upd_ne (ne_of_none e hdy)]
      exact e
    refine ⟨y, dy, R, rfl, upd_same, ?_⟩
    have hm3 : MAt (upd (upd (upd H2 dy (.own y)) y (.ins CB dy [])) y (.ins CB dy [("machine", V.ref R)])) R p.2 := (hm2.keep k3).upd upd_same
    have k4 : Same H2 (upd (upd (upd H2 dy (.own y)) y (.ins CB dy [])) y (.ins CB dy [("machine", V.ref R)])) := fun b o e => by
      rw [upd_ne (ne_of_none e hy)]
      exact k3 _ _ e
    have hb3 : BtAt CB (upd (upd (upd H2 dy (.own y)) y (.ins CB dy [])) y (.ins CB dy [("machine", V.ref R)])) y R := ⟨dy, upd_same⟩
    generalize upd (upd (upd H2 dy (.own y)) y (.ins CB dy [])) y (.ins CB dy [("machine", V.ref R)]) = H3 at hm3 k4 hb3 ⊢
    clear k3
    refine ⟨rfl, ?_⟩
    refine fun x dx hx hdx ne => ?_
    have k5 : Same H3 (upd (upd H3 dx (.own x)) x (.ins C dx [])) := fun b o e => by
      rw [upd_ne (ne_of_none e hx), upd_ne (ne_of_none e hdx)]
      exact e
    refine ⟨x, dx, y, R, rfl, upd_same, ?_, rfl, ?_⟩
    · obtain ⟨db, e⟩ := hb3
      exact ⟨db, k5 _ _ e⟩
    · have s3 := (s1.trans s2).trans k4
      refine q _ x ws p (fun b o e => ?_) (s3.free hx) asc hp ⟨dx, R, upd_same, (hm3.keep k5).upd upd_same⟩
      have e3 := s3 _ _ e
      rw [upd_ne (ne_of_none e3 hx)]
      exact k5 _ _ e3
end
end Mk

set_option Elab.async false
set_option linter.all false
set_option maxRecDepth 100000
set_option maxHeartbeats 4000000
/-! first_word, first -/
namespace Mk
open PySem PySem.Spec L2 PyProof.Rows

abbrev sFst : Stmt := top 22
abbrev sFFst : Stmt := inClass (top 46) 5
abbrev nFst : List Str := ["machine", "start", "found", "state"]
def oS : Option Str → V
  | none => .non
  | some z => .str z
def fstM (m : Mch) (i : Int) : Option Str := ((firstW m i).find? fun p => lst? m p.1).map (·.2)
def spFst : Sp := fun vs H Q _ => ∃ (t : Addr) (m : Mch) (i : Int), vs = [.ref t, .int i] ∧ MAt H t m ∧ WF m ∧ m.length ≤ 40 ∧ (0 ≤ i ∧ i < m.length) ∧ ∀ H', Same H H' → Q (oS (fstM m i)) H'
def spFFst (C : Addr) : Sp := fun vs H Q _ => ∃ (x : Addr) (m : Mch), vs = [.ref x] ∧ FmAt C H x m ∧ MOk m ∧ ∀ H', Same H H' → Q (oS (fstM m 0)) H'
section
variable {P : Program} {w : World} {K : PySem.W.Frag} {mg : Str → Option Value} {base : Heap} {C : Addr}
theorem scFst : FnScope nFst ["machine", "start"] (defScope sFst) := ⟨rfl, rfl, rfl, by decide +kernel, rfl, by decide +kernel, by decide +kernel⟩
theorem ok_fst {f fw : Addr} {fd fdw : FuncData} (F : FunD K "first_word" "first_word" (defArgs sFst) (defBody sFst) (defScope sFst) [.int 0] [] f fd) (G2 : FnOk P w K mg base CX0 1 fw fdw ["machine", "start"] spFirstW) (m2 : mg "first_words" = some (.ref fw)) (k2 : PySem.W.keepIn K (.ref fw) = true) {ds : List Value} (b2 : Binds K fdw ["machine", "start"] ds) (v2 : Vals [.int 0] ds) (bw : Binds K fdw ["machine", "start"] []) : FnOk P w K mg base CX0 2 f fd ["machine", "start"] spFst := by
  refine F.ok scFst (fun vs H Q E h => ?_) (fun cdv A outer s H vs Q E hr h => ?_)
  · obtain ⟨t, m, i, rfl, _⟩ := h
    rfl
  · have hu := hu_of hr
    obtain ⟨t, m, i, rfl, hm, wf, lm, hi, q⟩ := h
    refine ⟨_, PSs.nox (pss_cons (ps_set (i := 2) scFst.nd rfl (.inl rfl) (pe_call G2 hr (by rfl) m2 k2 bw .nil pass0 (pa_cons (pv 0) (pa_cons (pv 1) pa_nil))))
      (pss_cons (ps_lock (ps_for PassesOwn.never rfl (pi_keys (pv 2)) (pg_name (i := 3) scFst.nd rfl (.inl rfl))
        (pss_one (ps_if (pt_val (pe_ix ix_tup (pe_ix ix_tup (pv 0) (pv 3) (fun _ _ => rfl)) pe_int (fun _ _ => rfl))) (pss_one (ps_ret (pe_dget hu (pv 2) (pv 3) (fun _ _ => rfl)))) pss_nil))))
      (pss_one (ps_ret pe_non)))), ?_⟩
    refine ⟨_, rfl, _, rfl, t, m, i, rfl, hm, wf, lm, wf.l5, hi, fun H1 W s1 fW eW => ?_⟩
    have fo := (first_ok wf hi).1
    refine ⟨W, _, eW, trivial, fun od => ⟨_, rfl, W, od, rfl, .inl ⟨_, upd_same, ?_⟩⟩⟩
    have eL : (upd H1 W (.frz od (.dK (kvsF (firstW m i))))) W = some (.frz od (.dK (kvsF (firstW m i)))) := upd_same
    have nW : ∀ {b : Addr} {o : HO}, H b = some o → b ≠ W := fun e => ne_of_none e fW
    have sL : Same H (upd H1 W (.frz od (.dK (kvsF (firstW m i))))) := Same.upN s1 fW
    generalize upd H1 W (.frz od (.dK (kvsF (firstW m i)))) = HL at eL sL ⊢
    have back : ∀ {H2 : Hp}, Same HL H2 → Same H (upd H2 W (.dK (kvsF (firstW m i)))) := fun s2 => Same.upN (sL.trans s2) fW
    refine for_it (walk_keys (d := W) (o := od) (kvs := kvsF (firstW m i))) (fun k σ H2 => (∃ o3, σ = [some (.ref t), some (.int i), some (.ref W), o3]) ∧ H2 = HL ∧ ∀ p ∈ (firstW m i).take k, lst? m p.1 = false) ⟨⟨_, rfl⟩, rfl, fun p hp => by rw [List.take_zero] at hp; cases hp⟩ (fun k σ H2 _ h2 => by rw [h2.2.1]; exact eL) ?_ ?_
    · rintro k x σ H2 H3 hk ⟨⟨o3, rfl⟩, rfl, hf⟩ ⟨rfl, ky, vv, hx, rfl⟩
      have hk2 : k < (firstW m i).length := by unfold kvsF at hk; rwa [List.length_map] at hk
      have ek : ky = Sum.inl (firstW m i)[k].1 := by
        unfold kvsF at hx
        rw [List.getElem?_map, List.getElem?_eq_getElem hk2] at hx
        exact (congrArg Prod.fst (Option.some.inj hx)).symm
      subst ek
      have pm := List.getElem_mem hk2
      obtain ⟨ss, s', d, g1, e2, g3, g4⟩ := hm.at_ (fo.rg _ pm)
      refine ⟨_, rfl, _, rfl, t, _, _, _, rfl, rfl, SqT.of (sL _ _ g1), e2, s', _, 1, _, rfl, rfl, SqT.of (sL _ _ g3), at_ofA (j := 1) rfl rfl, _, rfl, ?_⟩
      cases hl : lst? m (firstW m i)[k].1 with
      | true =>
        refine iteT ⟨_, rfl, _, rfl, W, V.str (firstW m i)[k].2, rfl, .inl ⟨kvsF (firstW m i), Sum.inl (firstW m i)[k].1, .inr ⟨od, eL⟩, rfl, (kvsF_at fo.nd pm).symm⟩, eL, ?_⟩
        have e : fstM m i = some (firstW m i)[k].2 := by
          unfold fstM
          have : (firstW m i).find? (fun p => lst? m p.1) = some (firstW m i)[k] := by
            conv => lhs; rw [← List.take_append_drop k (firstW m i), List.drop_eq_getElem_cons hk2]
            rw [List.find?_append, List.find?_eq_none.mpr (fun p hp => by rw [hf p hp]; exact Bool.false_ne_true), List.find?_cons_of_pos (p := fun p : Int × Str => lst? m p.1) hl]
            rfl
          rw [this]
          rfl
        rw [← show oS (fstM m i) = V.str (firstW m i)[k].2 from by rw [e]; rfl]
        exact q _ (back fun _ _ e => e)
      | false =>
        refine iteF ⟨⟨_, rfl⟩, rfl, fun p hp => ?_⟩
        rw [List.take_add_one, List.getElem?_eq_getElem hk2] at hp
        rcases List.mem_append.mp hp with hp | hp
        · exact hf p hp
        · have hp : p ∈ [(firstW m i)[k]] := hp
          rw [List.mem_singleton.mp hp]
          exact hl
    · rintro σ H2 ⟨⟨o3, rfl⟩, rfl, hf⟩
      have e : fstM m i = none := by
        unfold fstM
        rw [List.find?_eq_none.mpr fun p hp => by
          rw [hf p (by unfold kvsF; rw [List.length_map, List.take_length]; exact hp)]
          exact Bool.false_ne_true]
        rfl
      rw [e] at q
      exact ⟨eL, q _ (back fun _ _ e => e)⟩
theorem scFFst : FnScope ["self"] ["self"] (defScope sFFst) := ⟨rfl, rfl, rfl, by decide +kernel, rfl, by decide +kernel, by decide +kernel⟩
theorem ok_fFst {f fw : Addr} {fd fdw : FuncData} (F : Fun K "first" "Form.first" sFFst f fd) (T : Fc K C) (G2 : FnOk P w K mg base CX0 2 fw fdw ["machine", "start"] spFst) (m2 : mg "first_word" = some (.ref fw)) (k2 : PySem.W.keepIn K (.ref fw) = true) {ds : List Value} (b2 : Binds K fdw ["machine", "start"] ds) (v2 : Vals [.int 0] ds) : FnOk P w K mg base CX0 3 f fd ["self"] (spFFst C) := by
  refine F.ok scFFst (fun vs H Q E h => ?_) (fun cdv A outer s H vs Q E hr h => ?_)
  · obtain ⟨x, m, rfl, _⟩ := h
    rfl
  · obtain ⟨x, m, rfl, ⟨dx, t, hx, hm⟩, ok, q⟩ := h
    have := ok.l1
    refine ⟨_, pss_one (ps_ret (pe_call G2 hr (by rfl) m2 k2 b2 v2 pass0 (pa_cons (pe_fld (pv 0) rfl) pa_nil))), ?_⟩
    exact ⟨_, rfl, x, C, dx, _, _, rfl, hx, T.cl, T.n, fld_st t, t, m, 0, rfl, hm, ok.wf, ok.l40, ⟨by omega, by omega⟩, q⟩
end
end Mk

set_option Elab.async false
set_option linter.all false
set_option maxRecDepth 100000
set_option maxHeartbeats 2000000
/-! the texts of machines -/
namespace Mk
open PySem PySem.Spec L2 PyProof.Rows

structure Sho (d : PyData) (n k : Nat) : Prop where
  s : d.showable = true
  dp : d.depth ≤ k
  l : d.shown.length ≤ n
theorem Shw.sho {d : PyData} {n k : Nat} (h : Shw d n k) : Sho d n k := ⟨h.s, h.dp, h.l⟩
theorem Sho.mono {d : PyData} {n k n' k' : Nat} (h : Sho d n k) (hn : n ≤ n') (hk : k ≤ k') : Sho d n' k' := ⟨h.s, Nat.le_trans h.dp hk, Nat.le_trans h.l hn⟩
theorem sho_tuple {xs : List PyData} {n k : Nat} (h : ∀ x ∈ xs, Sho x n k) : Sho (.tuple xs) (xs.length * (n + 2) + 3) (k + 1) := by
  refine ⟨?_, ?_, ?_⟩
  · simp only [PyData.showable]
    exact showable_all fun x hx => (h x hx).s
  · have := depth_all fun x hx => (h x hx).dp
    simp only [PyData.depth]
    omega
  · have e : (PyData.tuple xs).shown = tupleText (xs.map PyData.shown) := by simp only [PyData.shown, shown_all]
    rw [e]
    unfold tupleText
    rw [strLen_append, strLen_append]
    have h1 := joined_le (xs.map PyData.shown)
    have h2 := piled_le (n := n) (ts := xs.map PyData.shown) fun t ht => by
      obtain ⟨x, hx, rfl⟩ := List.mem_map.mp ht
      exact (h x hx).l
    rw [List.length_map] at h2
    have e1 : ((("(" : String) : Str)).length = 1 := rfl
    have e3 : (((if (xs.map PyData.shown).length == 1 then ",)" else ")" : String) : Str)).length ≤ 2 := by split <;> decide
    rw [e1]
    omega
/-- a state, a machine as data -/
def kvD (t : PTab) : List (PyData × PyData) := t.map fun p => (.str p.1, .int p.2)
def stD (q : PTab × Bool) : PyData := .tuple [.dict (kvD q.1), .bool q.2]
def mD (m : Mch) : PyData := .tuple (m.map stD)
theorem sho_kv {t : PTab} (sg : ∀ p ∈ t, sgB p.1 = true) (rg : ∀ p ∈ t, 0 ≤ p.2 ∧ p.2 ≤ 60) : PyData.showableKv (kvD t) = true ∧ PyData.depthKv (kvD t) ≤ 0 ∧ ∀ z ∈ PyData.shownKv (kvD t), z.length ≤ 7 := by
  induction t with
  | nil => exact ⟨by simp only [kvD, List.map_nil, PyData.showableKv], by simp only [kvD, List.map_nil, PyData.depthKv]; exact Nat.le_refl _, fun z hz => by simp only [kvD, List.map_nil, PyData.shownKv] at hz; cases hz⟩
  | cons p t ih =>
    obtain ⟨a, b, c⟩ := ih (fun q hq => sg q (List.mem_cons_of_mem _ hq)) (fun q hq => rg q (List.mem_cons_of_mem _ hq))
    have h1 := shw_sign (sg p List.mem_cons_self)
    have h2 := shw_int (rg p List.mem_cons_self).1 (rg p List.mem_cons_self).2
    refine ⟨?_, ?_, fun z hz => ?_⟩
    · show PyData.showableKv ((.str p.1, .int p.2) :: kvD t) = true
      simp only [PyData.showableKv, h1.s, h2.s, a, Bool.and_self]
    · show PyData.depthKv ((.str p.1, .int p.2) :: kvD t) ≤ 0
      have := h1.dp
      have := h2.dp
      simp only [PyData.depthKv]
      omega
    · have hz : z ∈ PyData.shownKv ((.str p.1, .int p.2) :: kvD t) := hz
      simp only [PyData.shownKv] at hz
      rcases List.mem_cons.mp hz with rfl | hz
      · rw [strLen_append, strLen_append]
        have := h1.l
        have := h2.l
        have e : (((": " : String) : Str)).length = 2 := rfl
        omega
      · exact c z hz
theorem sho_st {q : PTab × Bool} (sg : ∀ p ∈ q.1, sgB p.1 = true) (rg : ∀ p ∈ q.1, 0 ≤ p.2 ∧ p.2 ≤ 60) (l5 : q.1.length ≤ 5) : Sho (stD q) 200 2 := by
  obtain ⟨a, b, c⟩ := sho_kv sg rg
  have hd : Sho (.dict (kvD q.1)) 60 1 := by
    refine ⟨by simp only [PyData.showable]; exact a, by simp only [PyData.depth]; omega, ?_⟩
    simp only [PyData.shown]
    unfold dictText
    rw [strLen_append, strLen_append]
    have h1 := joined_le (PyData.shownKv (kvD q.1))
    have h2 := piled_le (n := 7) (ts := PyData.shownKv (kvD q.1)) c
    have h3 : (PyData.shownKv (kvD q.1)).length = q.1.length := by
      have : ∀ t : PTab, (PyData.shownKv (kvD t)).length = t.length := fun t => by
        induction t with
        | nil => simp only [kvD, List.map_nil, PyData.shownKv]; rfl
        | cons p t ih =>
          show (PyData.shownKv ((.str p.1, .int p.2) :: kvD t)).length = t.length + 1
          simp only [PyData.shownKv, List.length_cons, ih]
      exact this q.1
    have e1 : ((("{" : String) : Str)).length = 1 := rfl
    have e2 : ((("}" : String) : Str)).length = 1 := rfl
    rw [e1, e2]
    omega
  refine (sho_tuple (n := 60) (k := 1) (xs := [.dict (kvD q.1), .bool q.2]) fun x hx => ?_).mono (by show 2 * 62 + 3 ≤ 200; decide) (Nat.le_refl _)
  simp only [List.mem_cons, List.not_mem_nil, or_false] at hx
  rcases hx with rfl | rfl
  · exact hd
  · exact (shw_bool q.2).sho.mono (by decide) (by decide)
theorem sho_m {m : Mch} (ok : MOk m) : Sho (mD m) 10000 3 := by
  refine (sho_tuple (n := 200) (k := 2) (xs := m.map stD) fun x hx => ?_).mono (by rw [List.length_map]; have := ok.l40; omega) (Nat.le_refl _)
  obtain ⟨q, hq, rfl⟩ := List.mem_map.mp hx
  refine sho_st (ok.wf.sg q hq) (fun p hp => ?_) (ok.l5 q hq)
  have := ok.wf.to q hq p hp
  have := ok.l40
  omega
section
variable {X : Cx} {pins : List (Addr × Obj)} {σ : L2.St} {H : Hp} {s : Shared}
theorem reads_kv {pr : Program} {w : World} {h : Heap} : ∀ {t : PTab} {vs : List (Key × Value)} {es : List DictEntry}, KV (kvsP t) vs → PySem.Pairs (mixKind pr w) es vs → ReadsAll h (es.map (·.key)) ((kvD t).map (·.1)) [] ∧ ReadsAll h (es.map (·.val)) ((kvD t).map (·.2)) []
  | [], _, _, .nil, .nil => ⟨.nil, .nil⟩
  | p :: t, _, _, .cons ⟨h1, h2⟩ hr, .cons k1 k2 kr => by
    obtain ⟨a, b⟩ := reads_kv hr kr
    obtain ⟨tk, e2⟩ := h2
    rw [← h1] at k1
    have k1 : keyIs (Sum.inr p.1) _ = true := k1
    rcases keyIs_shape k1 with ⟨i, t', e, _⟩ | ⟨x, t', e, e3⟩
    · cases e
    · injection e with e
      subst e
      refine ⟨?_, ?_⟩
      · have := ReadsAll.cons (as := []) (bs := []) (Reads.str (h := h) p.1 t') a
        rw [← e3] at this
        exact this
      · have := ReadsAll.cons (as := []) (bs := []) (Reads.int (h := h) p.2 tk) b
        rw [← e2, ← k2] at this
        exact this
theorem reads_dict {d : Addr} {t : PTab} (I : Inv X pins σ H s) (e : H d = some (.dK (kvsP t))) : ∃ as, Reads s.heap (.ref d) (.dict (kvD t)) as ∧ sysModules ∉ as := by
  obtain ⟨_, ne, vs, kv, o, es, ep, eo, ex, ed, _, pr, _⟩ := I.hok _ _ e
  obtain ⟨r1, r2⟩ := reads_kv (h := s.heap) kv pr
  exact ⟨_, .dict eo ex.1 ed r1 r2, fun m => by
    have m : sysModules ∈ [d] := by simpa using m
    rw [List.mem_singleton] at m
    rw [← m] at ne
    cases ne⟩
theorem reads_st {a : Addr} {q : PTab × Bool} (I : Inv X pins σ H s) (h : StA H a q) : ∃ as, Reads s.heap (.ref a) (stD q) as ∧ sysModules ∉ as := by
  obtain ⟨d, e1, e2⟩ := h
  obtain ⟨as, r, n⟩ := reads_dict I e2
  obtain ⟨its, rv, ⟨o, ho, hc, k, hd⟩, _⟩ := I.tuple (SqT.of e1)
  cases rv with
  | cons r1 r2 =>
    cases r2 with
    | cons r3 r4 =>
      cases r4
      cases r1
      cases r3
      exact ⟨_, .tuple ho hc hd (.cons r (.cons (.bool q.2) .nil)), by simpa using n⟩
theorem reads_sts (I : Inv X pins σ H s) : ∀ {ss : List Addr} {m : Mch} {its : List Value}, Paired (StA H) ss m → Vals (ss.map V.ref) its → ∃ as, ReadsAll s.heap its (m.map stD) as ∧ sysModules ∉ as
  | [], _, _, .nil, .nil => ⟨[], .nil, by simp⟩
  | a :: ss, q :: m, _, .cons h t, .cons r1 r2 => by
    obtain ⟨as, x, n⟩ := reads_st I h
    obtain ⟨bs, y, n'⟩ := reads_sts I t r2
    cases r1
    exact ⟨_, .cons x y, by simp [n, n']⟩
theorem reads_m {a : Addr} {m : Mch} (I : Inv X pins σ H s) (h : MAt H a m) : ∃ as, Reads s.heap (.ref a) (mD m) as ∧ sysModules ∉ as := by
  obtain ⟨ss, e, p⟩ := h
  obtain ⟨its, rv, ⟨o, ho, hc, k, hd⟩, _⟩ := I.tuple (SqT.of e)
  obtain ⟨as, x, n⟩ := reads_sts I p rv
  exact ⟨as, .tuple ho hc hd (by simpa using x), n⟩
/-- repr of a machine -/
theorem call_reprM (gd : X.A.guards = some []) (hu : X.A.units + 100 < cLine) : CallR X (.builtin "repr") (fun xs H Q => ∃ (a : Addr) (m : Mch), xs = [.ref a] ∧ MAt H a m ∧ MOk m ∧ Q (.str (mD m).shown) H) := by
  intro pins s σ H xs us Q I r h
  obtain ⟨a, m, rfl, hm, ok, q⟩ := h
  obtain ⟨u, rfl, hu1⟩ := vals1 r
  obtain rfl : u = Value.ref a := hu1
  obtain ⟨as, rd, nm⟩ := reads_m I hm
  have sh := sho_m ok
  exact repr_of_reads' rd sh.s (fun _ => nm) gd (by have := sh.dp; omega) (fun _ _ z => z) (fun h' v tk k => ⟨.str (mD m).shown, H, I.kept k, ⟨_, rfl⟩, q⟩) (Nat.le_trans sh.l (by rw [sizeLine_eq]; decide))
end
end Mk

set_option Elab.async false
set_option linter.all false
set_option maxRecDepth 100000
set_option maxHeartbeats 2000000
/-! machines compared -/
namespace Mk
open PySem PySem.Spec L2 PyProof.Rows

def dEq (t t' : PTab) : Bool := t.length == t'.length && t.all fun p => decide (p.1 ∈ t'.map (·.1)) && decide (p.2 = look t' p.1)
def eqM (m m' : Mch) : Bool := decide (srtM m = srtM m')
theorem sub_all {α : Type} [DecidableEq α] {l k : List α} (nl : l.Nodup) (h : ∀ x ∈ l, x ∈ k) (e : l.length = k.length) : ∀ x ∈ k, x ∈ l := fun y hy => by
  by_cases c : y ∈ l
  · exact c
  · have := nd_len (l := y :: l) (k := k) (List.nodup_cons.mpr ⟨c, nl⟩) fun x hx => by
      rcases List.mem_cons.mp hx with rfl | hx
      · exact hy
      · exact h x hx
    rw [List.length_cons] at this
    omega
theorem keysM_ext {t t' : PTab} (nd : (t.map (·.1)).Nodup) (nd' : (t'.map (·.1)).Nodup) (h : ∀ s, s ∈ t.map (·.1) ↔ s ∈ t'.map (·.1)) : keysM t = keysM t' := by
  have p : (t.map (·.1)).Perm (t'.map (·.1)) := (List.perm_ext_iff_of_nodup nd nd').mpr h
  refine List.Perm.eq_of_pairwise (fun a b _ _ k1 k2 => byCs_anti a b k1 k2) (List.pairwise_mergeSort byCs_trans byCs_total _) (List.pairwise_mergeSort byCs_trans byCs_total _) ?_
  exact (keysM_perm t).trans (p.trans (keysM_perm t').symm)
theorem srtP_eq {t t' : PTab} (nd : (t.map (·.1)).Nodup) (nd' : (t'.map (·.1)).Nodup) : dEq t t' = decide (srtP t = srtP t') := by
  rw [Bool.eq_iff_iff, decide_eq_true_eq]
  unfold dEq
  rw [Bool.and_eq_true, beq_iff_eq, List.all_eq_true]
  have keyput : ∀ u : PTab, (srtP u).map (·.1) = keysM u := fun u => by
    unfold srtP
    exact put_keys _ _
  constructor
  · rintro ⟨hl, ha⟩
    have h1 : ∀ p ∈ t, p.1 ∈ t'.map (·.1) ∧ p.2 = look t' p.1 := fun p hp => by
      have := ha p hp
      rw [Bool.and_eq_true, decide_eq_true_eq, decide_eq_true_eq] at this
      exact this
    have sub : ∀ s ∈ t.map (·.1), s ∈ t'.map (·.1) := fun s hs => by
      obtain ⟨p, hp, rfl⟩ := List.mem_map.mp hs
      exact (h1 p hp).1
    have ke := keysM_ext nd nd' fun s => ⟨sub s, sub_all nd sub (by rw [List.length_map, List.length_map]; exact hl) s⟩
    unfold srtP
    rw [← ke]
    unfold put
    refine List.map_congr_left fun s hs => ?_
    have hs := keysM_mem.mp hs
    rw [show look t s = look t' s from (h1 _ (look_in nd hs)).2]
  · intro e
    have ke : keysM t = keysM t' := by rw [← keyput, ← keyput, e]
    have mem : ∀ s, s ∈ t.map (·.1) ↔ s ∈ t'.map (·.1) := fun s => by rw [← keysM_mem, ke, keysM_mem]
    refine ⟨?_, fun p hp => ?_⟩
    · have := congrArg List.length ke
      rw [(keysM_perm t).length_eq, (keysM_perm t').length_eq, List.length_map, List.length_map] at this
      exact this
    · have hs : p.1 ∈ t.map (·.1) := List.mem_map.mpr ⟨p, hp, rfl⟩
      rw [Bool.and_eq_true, decide_eq_true_eq, decide_eq_true_eq]
      refine ⟨(mem _).mp hs, ?_⟩
      have hk := keysM_mem.mpr hs
      have h1 : (p.1, look t p.1) ∈ srtP t := by
        unfold srtP put
        exact List.mem_map.mpr ⟨p.1, hk, rfl⟩
      rw [e] at h1
      unfold srtP put at h1
      obtain ⟨s, _, es⟩ := List.mem_map.mp h1
      injection es with e1 e2
      subst e1
      rw [e2, look_mem nd p hp]
/-- the keys of each state are different -/
def NdM (m : Mch) : Prop := ∀ q ∈ m, (q.1.map (·.1)).Nodup
theorem kvsP_inj : ∀ {t t' : PTab}, kvsP t = kvsP t' → t = t'
  | [], [], _ => rfl
  | [], _ :: _, h => by cases h
  | _ :: _, [], h => by cases h
  | p :: t, q :: t', h => by
    have h : (Sum.inr p.1, V.int p.2) :: kvsP t = (Sum.inr q.1, V.int q.2) :: kvsP t' := h
    injection h with h1 h2
    injection h1 with h3 h4
    injection h3 with h3
    injection h4 with h4
    rw [kvsP_inj h2, show p = q from Prod.ext h3 h4]
theorem kv_fst {κ : Type} {ks : List (κ × V)} {va : List (κ × Value)} (r : KV ks va) : va.map (·.1) = ks.map (·.1) := by
  unfold KV at r
  induction r with
  | nil => rfl
  | cons h _ ih => rw [List.map_cons, List.map_cons, ih, h.1]
section
variable {X : Cx} {pins : List (Addr × Obj)} {σ : L2.St} {H : Hp} {s : Shared}
theorem dict_tree {a b : Addr} {t t' : PTab} (I : Inv X pins σ H s) (ea : H a = some (.dK (kvsP t))) (eb : H b = some (.dK (kvsP t'))) (nd : (t.map (·.1)).Nodup) (nd' : (t'.map (·.1)).Nodup) : PySem.W.EqTree X.prog X.w s 1 (.ref a) (.ref b) (decide (srtP t = srtP t')) := by
  by_cases c : a = b
  · subst c
    rw [ea] at eb
    have eb := Option.some.inj eb
    injection eb with eb
    have : t = t' := kvsP_inj eb
    rw [this, decide_eq_true rfl]
    exact .same
  · obtain ⟨_, ya, va, ra, da⟩ := I.hok a _ ea
    obtain ⟨_, yb, vb, rb, db⟩ := I.hok b _ eb
    have vat : ∀ z : Str, (valueAt vb (Sum.inr z)).isSome = decide (z ∈ t'.map (·.1)) ∧ ∀ y, valueAt vb (Sum.inr z) = some y → ∃ tk, y = Value.int (look t' z) tk := fun z => by
      have h := rb.val (Sum.inr z)
      by_cases hz : z ∈ t'.map (·.1)
      · rw [valP hz] at h
        cases hw : valueAt vb (Sum.inr z) with
        | none => rw [hw] at h; exact h.elim
        | some y =>
          rw [hw] at h
          obtain ⟨tk, e⟩ := h
          exact ⟨by rw [decide_eq_true hz]; rfl, fun y' hy => ⟨tk, by rw [← Option.some.inj hy]; exact e⟩⟩
      · have hn : valV (kvsP t') (Sum.inr z) = none := by
          have e := valP_is t' z
          rw [decide_eq_false hz] at e
          exact Option.isNone_iff_eq_none.mp (by rw [← Option.not_isSome, e]; rfl)
        rw [hn] at h
        cases hw : valueAt vb (Sum.inr z) with
        | none => exact ⟨by rw [decide_eq_false hz]; rfl, fun y hy => by cases hy⟩
        | some y => rw [hw] at h; exact h.elim
    have T := PySem.W.EqTree.dicts (prog := X.prog) (w := X.w) (s := s) (knd := mixKind X.prog X.w) (n := 0) (e := fun k : Key => match k with | Sum.inr z => look t z == look t' z | Sum.inl _ => false) c ya yb da db (fun k v y hm hv => by
      obtain ⟨i, hi⟩ := List.mem_iff_getElem?.mp hm
      have li := (List.getElem?_eq_some_iff.mp hi).1
      have lv : va.length = t.length := by rw [← Paired.length ra, kvsP_len]
      obtain ⟨x, hx, h1, h2⟩ := L2.paired_get ra (kvsP_at (t := t) (i := i) (by omega))
      rw [hi] at hx
      obtain rfl := Option.some.inj hx
      have h1 : Sum.inr t[i].1 = k := h1
      subst h1
      obtain ⟨tk, h2⟩ := h2
      have h2 : v = Value.int t[i].2 tk := h2
      subst h2
      obtain ⟨tk2, ey⟩ := (vat t[i].1).2 y hv
      subst ey
      refine .leaf fun A _ => ?_
      show SeqAt.EqAt A s (Value.int t[i].2 tk) (Value.int (look t' t[i].1) tk2) (look t t[i].1 == look t' t[i].1)
      rw [look_mem nd _ (List.getElem_mem (by omega))]
      exact SeqAt.EqAt.int_int _ _ _ _)
    have eb : (va.length == vb.length && va.all fun p => (valueAt vb p.1).isSome && (match p.1 with | Sum.inr z => look t z == look t' z | Sum.inl _ => false)) = decide (srtP t = srtP t') := by
      rw [← srtP_eq nd nd']
      unfold dEq
      have l1 : va.length = t.length := by rw [← Paired.length ra, kvsP_len]
      have l2 : vb.length = t'.length := by rw [← Paired.length rb, kvsP_len]
      rw [l1, l2]
      congr 1
      have e1 : (va.all fun p => (valueAt vb p.1).isSome && (match p.1 with | Sum.inr z => look t z == look t' z | Sum.inl _ => false)) = ((va.map (·.1)).all fun k => (valueAt vb k).isSome && (match k with | Sum.inr z => look t z == look t' z | Sum.inl _ => false)) := by
        rw [List.all_map]
        rfl
      rw [e1, kv_fst ra, kvsP_keys, List.all_map, List.all_map]
      rw [Bool.eq_iff_iff, List.all_eq_true, List.all_eq_true]
      refine forall_congr' fun p => forall_congr' fun hp => ?_
      show ((valueAt vb (Sum.inr p.1)).isSome && (look t p.1 == look t' p.1)) = true ↔ _
      rw [(vat p.1).1, look_mem nd p hp, Bool.and_eq_true, Bool.and_eq_true, beq_iff_eq, decide_eq_true_eq, decide_eq_true_eq]
    rw [eb] at T
    exact T
theorem st_tree {a b : Addr} {q q' : PTab × Bool} (I : Inv X pins σ H s) (ha : StA H a q) (hb : StA H b q') (nd : (q.1.map (·.1)).Nodup) (nd' : (q'.1.map (·.1)).Nodup) : PySem.W.EqTree X.prog X.w s 2 (.ref a) (.ref b) (decide ((srtP q.1, q.2) = (srtP q'.1, q'.2))) := by
  obtain ⟨d, e1, e2⟩ := ha
  obtain ⟨d', e1', e2'⟩ := hb
  by_cases c : a = b
  · subst c
    rw [e1] at e1'
    have h := Option.some.inj e1'
    injection h with h
    injection h with h1 h2
    injection h1 with h1
    injection h2 with h2
    injection h2 with h2
    subst h1
    rw [e2] at e2'
    have h := Option.some.inj e2'
    injection h with h
    rw [kvsP_inj h, h2, decide_eq_true rfl]
    exact .same
  · obtain ⟨its, rv, ⟨o, ho, hc, k, hd⟩, _⟩ := I.tuple (SqT.of e1)
    obtain ⟨its', rv', ⟨o', ho', hc', k', hd'⟩, _⟩ := I.tuple (SqT.of e1')
    cases rv with
    | cons r1 r2 =>
      cases r2 with
      | cons r3 r4 =>
        cases r4
        cases r1
        cases r3
        cases rv' with
        | cons r1' r2' =>
          cases r2' with
          | cons r3' r4' =>
            cases r4'
            cases r1'
            cases r3'
            have D := dict_tree I e2 e2' nd nd'
            have T := PySem.W.EqTree.tuples (prog := X.prog) (w := X.w) (s := s) (n := 1) (vs := #[Value.ref d, Value.bool q.2]) (vs' := #[Value.ref d', Value.bool q'.2]) (e := fun j => if j = 0 then decide (srtP q.1 = srtP q'.1) else q.2 == q'.2) c ⟨o, ho, hc, k, hd⟩ ⟨o', ho', hc', k', hd'⟩ (fun j h1 h2 => by
              match j, h1 with
              | 0, _ => exact D
              | 1, _ => exact .leaf fun A _ => SeqAt.EqAt.bool_bool q.2 q'.2)
            have eb : ((List.range (min (#[Value.ref d, Value.bool q.2]).size (#[Value.ref d', Value.bool q'.2]).size)).all (fun j => if j = 0 then decide (srtP q.1 = srtP q'.1) else q.2 == q'.2) && (#[Value.ref d, Value.bool q.2]).size == (#[Value.ref d', Value.bool q'.2]).size) = decide ((srtP q.1, q.2) = (srtP q'.1, q'.2)) := by
              show (([0, 1].all fun j => if j = 0 then decide (srtP q.1 = srtP q'.1) else q.2 == q'.2) && true) = _
              rw [Bool.eq_iff_iff]
              simp
            rw [eb] at T
            exact T
def rEqM : R2 := fun x y H Q => ∃ a b m m', x = .ref a ∧ y = .ref b ∧ MAt H a m ∧ MAt H b m' ∧ NdM m ∧ NdM m' ∧ Q (.bl (eqM m m')) H
theorem op_eqM (hu : X.A.units + 64 < cLine) : OpR X (compareOp .Eq) rEqM := by
  intro pins s σ H x y v u Q I rx ry h
  obtain ⟨a, b, m, m', rfl, rfl, ⟨ss, ea, pa⟩, ⟨ss', eb, pb⟩, nd, nd', q⟩ := h
  cases rx
  cases ry
  obtain ⟨its, rv, ⟨o, ho, hc, k, hd⟩, _⟩ := I.tuple (SqT.of ea)
  obtain ⟨its', rv', ⟨o', ho', hc', k', hd'⟩, _⟩ := I.tuple (SqT.of eb)
  have l1 : its.length = m.length := by rw [← rv.length, List.length_map, Paired.length pa]
  have l2 : its'.length = m'.length := by rw [← rv'.length, List.length_map, Paired.length pb]
  have s1 := Paired.length pa
  have s2 := Paired.length pb
  refine PySem.W.eq_tuplesT (n := 2) (e := fun j => decide ((srtM m)[j]? = (srtM m')[j]?)) ⟨o, ho, hc, k, hd⟩ ⟨o', ho', hc', k', hd'⟩ (fun j h1 h2 => ?_) (by omega) ?_
  · have h1 : j < its.length := by simpa using h1
    have h2 : j < its'.length := by simpa using h2
    have g : ∀ {ss : List Addr} {its : List Value}, Vals (ss.map V.ref) its → ∀ {j : Nat} (hj : j < ss.length) (hi : j < its.toArray.size), its.toArray[j] = Value.ref ss[j] := fun {ss its} rv {j} hj hi => by
      obtain ⟨y, hy, ry⟩ := L2.paired_get rv (show (ss.map V.ref)[j]? = some (V.ref ss[j]) by rw [List.getElem?_map, List.getElem?_eq_getElem hj]; rfl)
      obtain rfl : y = Value.ref ss[j] := ry
      obtain ⟨l, e⟩ := List.getElem?_eq_some_iff.mp hy
      simpa using e
    rw [g rv (by omega) (by simpa using h1), g rv' (by omega) (by simpa using h2)]
    obtain ⟨q1, hq1, g1⟩ := L2.paired_get pa (List.getElem?_eq_getElem (show j < ss.length by omega))
    obtain ⟨q2, hq2, g2⟩ := L2.paired_get pb (List.getElem?_eq_getElem (show j < ss'.length by omega))
    have T := st_tree I g1 g2 (nd _ (List.mem_of_getElem? hq1)) (nd' _ (List.mem_of_getElem? hq2))
    have e1 : (srtM m)[j]? = some (srtP q1.1, q1.2) := by unfold srtM; rw [List.getElem?_map, hq1]; rfl
    have e2 : (srtM m')[j]? = some (srtP q2.1, q2.2) := by unfold srtM; rw [List.getElem?_map, hq2]; rfl
    have eb : decide ((srtM m)[j]? = (srtM m')[j]?) = decide ((srtP q1.1, q1.2) = (srtP q2.1, q2.2)) := by
      rw [e1, e2, Bool.eq_iff_iff, decide_eq_true_eq, decide_eq_true_eq]
      exact ⟨fun h => Option.some.inj h, fun h => by rw [h]⟩
    rw [eb]
    exact T
  · have e : ((List.range (min its.toArray.size its'.toArray.size)).all (fun j => decide ((srtM m)[j]? = (srtM m')[j]?)) && its.toArray.size == its'.toArray.size) = eqM m m' := by
      have z1 : its.toArray.size = m.length := by simpa using l1
      have z2 : its'.toArray.size = m'.length := by simpa using l2
      rw [z1, z2]
      unfold eqM
      rw [Bool.eq_iff_iff, Bool.and_eq_true, List.all_eq_true, decide_eq_true_eq, beq_iff_eq]
      constructor
      · rintro ⟨h1, h2⟩
        refine List.ext_getElem? fun j => ?_
        by_cases c : j < m.length
        · have := h1 j (List.mem_range.mpr (by omega))
          exact of_decide_eq_true this
        · rw [List.getElem?_eq_none (by rw [srtM_len]; omega), List.getElem?_eq_none (by rw [srtM_len]; omega)]
      · intro h
        refine ⟨fun j _ => decide_eq_true (by rw [h]), ?_⟩
        have := congrArg List.length h
        rwa [srtM_len, srtM_len] at this
    rw [e]
    exact ⟨.bl _, H, I, rfl, q⟩
end
end Mk

set_option Elab.async false
set_option linter.all false
set_option maxRecDepth 100000
set_option maxHeartbeats 4000000
/-! == of forms -/
namespace Mk
open PySem PySem.Spec L2 PyProof.Rows

abbrev sFEq : Stmt := inClass (top 46) 28
def spFEq (C : Addr) (K : PySem.W.Frag) : Sp := fun vs H Q _ => ∃ (x : Addr) (m : Mch) (v : V), vs = [.ref x, v] ∧ FmAt C H x m ∧ NdM m ∧ ((∃ (y : Addr) (m' : Mch), v = .ref y ∧ FmAt C H y m' ∧ NdM m' ∧ Q (.bl (eqM m m')) H) ∨ (∃ t, TyX K H v t ∧ PySem.W.kitOne K t (.ref C) = some false ∧ Q (.bl false) H))
section
variable {P : Program} {w : World} {K : PySem.W.Frag} {mg : Str → Option Value} {base : Heap} {C CB : Addr}
theorem scFEq : FnScope ["self", "other"] ["self", "other"] (defScope sFEq) := ⟨rfl, rfl, rfl, by decide +kernel, rfl, by decide +kernel, by decide +kernel⟩
theorem ok_fEq {f : Addr} {fd : FuncData} (F : Fun K "__eq__" "Form.__eq__" sFEq f fd) (T : Fc K C) (W : Wn mg) (Z : Kn K mg C CB) : FnOk P w K mg base CX0 1 f fd ["self", "other"] (spFEq C K) := by
  refine F.ok scFEq (fun vs H Q E h => ?_) (fun cdv A outer s H vs Q E hr h => ?_)
  · obtain ⟨x, m, v, rfl, _⟩ := h
    rfl
  · obtain ⟨x, m, v, rfl, ⟨dx, t, hx, hm⟩, nd, h⟩ := h
    have h64 : A.units + 3 + 64 < cLine := by
      have h2 : A.units + 3 + 16 * 0 + 200 < cLine := hr.un
      omega
    refine ⟨_, pss_one (ps_ret (pe_and (pe_callB call_isi (by rfl) W.isi (by decide +kernel) (pa_cons (pv 1) (pa_cons (pe_glob (v := .ref C) (by rfl) Z.mC rfl) pa_nil))) (pe_one (pe_cmpR (op_eqM h64) (pe_fld (pv 0) rfl) (pe_fld (pv 1) rfl) (nomark _))))), ?_⟩
    rcases h with ⟨y, m', rfl, ⟨dy, t', hy, hm'⟩, nd', q⟩ | ⟨ty, hty, hk, q⟩
    · exact ⟨_, rfl, _, _, _, _, true, rfl, .own C, Z.own hy, Z.tC, _, rfl, iteT ⟨_, rfl, x, C, dx, _, _, rfl, hx, T.cl, T.n, fld_st t, _, rfl, y, C, dy, _, _, rfl, hy, T.cl, T.n, fld_st t', t, t', m, m', rfl, rfl, hm, hm', nd, nd', q⟩⟩
    · exact ⟨_, rfl, _, _, _, _, false, rfl, .own C, hty, hk, _, rfl, iteF q⟩
end
end Mk

set_option Elab.async false
set_option linter.all false
set_option maxRecDepth 100000
set_option maxHeartbeats 4000000
/-! the purse -/
namespace Mk
open PySem PySem.Spec L2 PyProof.Rows

abbrev sPurse : Stmt := top 54
abbrev sCoin : Stmt := top 55
abbrev sPick : Stmt := top 56
abbrev nPurse : List Str := ["_law_script", "_law_at", "_law_cell", "_law_great"]
abbrev nCoin : List Str := ["_law_purse", "_law_total", "_law_found", "_law_one", "_law_two", "_law_three"]
theorem nz610 : (fun (_ j : Int) => j ≠ 0) 0 ((10 ^ Int.toNat 61) ^ Int.toNat 10) := by decide +kernel
/-- an item of a list, or a sign of a text -/
def spPick2 (K : PySem.W.Frag) : Sp := fun vs H Q _ => ∃ (p : Addr) (n : Nat), Pot H p n ∧ n < PB ∧ ((∃ (a : Addr) (xs : List V), vs = [.ref p, .ref a] ∧ a ≠ p ∧ H a = some (.lst xs) ∧ 0 < xs.length ∧ xs.length < 1000000 ∧ ∀ H' v, Nx p (n + 1) H H' → v ∈ xs → Q v H') ∨ (∃ z : Str, vs = [.ref p, .str z] ∧ 0 < z.length ∧ z.length < 1000000 ∧ ∀ H' y, Nx p (n + 1) H H' → y ∈ sgs z → Q (.str y) H'))
section
variable {P : Program} {w : World} {K : PySem.W.Frag} {mg : Str → Option Value} {base : Heap}
theorem scPurse : FnScope nPurse ["_law_script", "_law_at"] (defScope sPurse) := ⟨rfl, rfl, rfl, by decide +kernel, rfl, by decide +kernel, by decide +kernel⟩
theorem ok_purse {f : Addr} {fd : FuncData} (F : Fun K "_law_purse_of" "_law_purse_of" sPurse f fd) (B : Bn mg) : FnOk P w K mg base CX0 1 f fd ["_law_script", "_law_at"] (spFilled K) := by
  refine F.ok scPurse (fun vs H Q E h => ?_) (fun cdv A outer s H vs Q E hr h => ?_)
  · obtain ⟨a, ns, k, rfl, _⟩ := h
    rfl
  · obtain ⟨a, ns, k, rfl, hS, hl, hk, q⟩ := h
    refine ⟨_, pss_cons (ps_set (i := 2) scPurse.nd rfl (.inl rfl) (pe_ifExp (pt_cmpR op_lt (pv 1) (pe_callB call_len_seq (by rfl) B.len PySem.boot_len (pa_cons (pv 0) pa_nil)) (nomark _)) (pe_ix ix_list (pv 0) (pv 1) (fun _ _ => rfl)) (pe_op op_add (pe_op op_mul pe_int (pv 1)) pe_int)))
      (pss_cons (ps_set (i := 3) scPurse.nd rfl (.inl rfl) (pe_op op_modN (pe_callTy call_int1 (by rfl) B.int (by decide +kernel) (pa_cons (pe_callB call_abs (by rfl) B.abs (by decide +kernel) (pa_cons (pv 2) pa_nil)) pa_nil)) (pe_op op_powW (pe_op op_powW pe_int pe_int) pe_int)))
      (pss_one (ps_ret (pe_lst (pa_cons (pe_callB (call_max2 rfl) (by rfl) B.max (by decide +kernel) (pa_cons pe_int (pa_cons (pe_op op_sub (pv 3) (pe_op op_powW pe_int pe_int)) pa_nil))) (pa_cons
        (pe_op op_add (pe_op op_add (pe_op op_mul (pe_callTy call_int1 (by rfl) B.int (by decide +kernel) (pa_cons (pe_op op_add (pe_op op_mul (pv 3) pe_int) (pe_callTy call_int1 (by rfl) B.int (by decide +kernel) (pa_cons (pe_cmpR op_lt (pv 2) pe_int (nomark _)) pa_nil))) pa_nil)) pe_int) (pe_op op_mul pe_int (pv 1))) pe_int) (pa_cons pe_int pa_nil))))))), ?_⟩
    have hpw : CPowW 10 61 := ⟨by decide, by decide +kernel⟩
    have hpw2 : CPowW (10 ^ (61 : Int).toNat) 10 := ⟨by decide, by decide +kernel⟩
    have hpw3 : CPowW 10 18 := ⟨by decide, by decide +kernel⟩
    refine ⟨_, rfl, _, rfl, a, _, rfl, .inl hS, _, _, rfl, rfl, _, rfl, ?_⟩
    refine join_e (fun z => ∃ i, z = V.int i) ?_ ?_ ?_
    · rintro _ ⟨z, rfl⟩
      refine ⟨_, rfl, _, rfl, .inl ⟨_, rfl, _, _, rfl, rfl, hpw, _, _, rfl, rfl, hpw2, _, _, rfl, rfl, nz610, ?_⟩⟩
      refine ⟨_, rfl, _, _, rfl, rfl, hpw3, _, _, rfl, rfl, _, _, rfl, ?_⟩
      refine ⟨_, rfl, _, _, rfl, rfl, .inr ⟨by decide, by decide⟩, _, rfl, _, _, rfl, rfl, .inr ⟨_, rfl, _, _, rfl, rfl, .inl ⟨_, rfl, _, _, rfl, rfl, .inr ⟨by decide, by decide⟩, _, rfl, _, _, rfl, rfl, .inl ⟨by decide, by decide⟩, _, _, rfl, rfl, _, _, rfl, rfl, ?_⟩⟩⟩
      refine ⟨(by show 3 ≤ sizeLine; decide), fun p hp => ?_⟩
      refine q _ p (fun b o e => ?_) hp ?_
      · rw [upd_ne (ne_of_none e hp)]
        exact e
      · have hb : (0 : Int) < (10 ^ Int.toNat 61) ^ Int.toNat 10 := by decide +kernel
        have hb2 : ((10 ^ Int.toNat 61) ^ Int.toNat 10 : Int) < 2 ^ 2050 := by decide +kernel
        generalize ((10 ^ Int.toNat 61) ^ Int.toNat 10 : Int) = N at hb hb2 ⊢
        have h1 := Int.fmod_nonneg_of_pos (if z < 0 then -z else z) hb
        have h2 := Int.fmod_lt_of_pos (if z < 0 then -z else z) hb
        generalize (if z < 0 then -z else z).fmod N = y at h1 h2 ⊢
        have h3 : y < 2 ^ 2050 := Int.lt_trans h2 hb2
        have h4 : ((2 ^ 2050 * 2 + 1) * 1000003 + 7919 * 63 + 5 : Int) < 2 ^ 2100 := by decide +kernel
        have h5 : (2 : Int) ^ 2050 < 2 ^ 2100 := by decide +kernel
        have h6 : (0 : Int) < 2 ^ 2050 := by decide +kernel
        refine ⟨_, _, _, upd_same, ?_, ?_, ?_, ?_, Int.le_refl _, Int.le_refl _⟩
        · split <;> omega
        · generalize (2 : Int) ^ 2050 = b1 at h3 h4 h5 h6
          generalize (2 : Int) ^ 2100 = b2 at h4 h5 ⊢
          split
          · have : (0 : Int) < 10 ^ Int.toNat 18 := by decide +kernel
            omega
          · omega
        · have : 0 ≤ (if decide (z < 0) = true then (1 : Int) else 0) := by split <;> omega
          omega
        · have : (if decide (z < 0) = true then (1 : Int) else 0) ≤ 1 := by split <;> omega
          show (y * 2 + if decide (z < 0) = true then (1 : Int) else 0) * 1000003 + 7919 * (k : Int) + 5 < 2 ^ 2100
          generalize (if decide (z < 0) = true then (1 : Int) else 0) = e0 at this ⊢
          generalize (2 : Int) ^ 2050 = b1 at h3 h4 h5 h6
          generalize (2 : Int) ^ 2100 = b2 at h4 h5 ⊢
          omega
    · intro hb hC
      have hk2 : (k : Int) < ((ns.map V.int).length : Nat) := of_decide_eq_true hb
      rw [List.length_map] at hk2
      have hk3 : k < ns.length := by omega
      refine ⟨_, rfl, _, rfl, a, _, _, V.int (ns[k]'hk3), rfl, rfl, hS, atI_nat (by rw [List.getElem?_map, List.getElem?_eq_getElem hk3]; rfl), hC _ ⟨_, rfl⟩⟩
    · intro hb hC
      exact ⟨_, rfl, _, _, rfl, rfl, .inl ⟨by decide, by decide⟩, _, _, rfl, rfl, hC _ ⟨_, rfl⟩⟩
theorem scCoin : FnScope nCoin ["_law_purse", "_law_total"] (defScope sCoin) := ⟨rfl, rfl, rfl, by decide +kernel, rfl, by decide +kernel, by decide +kernel⟩
theorem ok_coin {f : Addr} {fd : FuncData} (F : Fun K "_law_coin" "_law_coin" sCoin f fd) (B : Bn mg) : FnOk P w K mg base CX0 1 f fd ["_law_purse", "_law_total"] spDip := by
  refine F.ok scCoin (fun vs H Q E h => ?_) (fun cdv A outer s H vs Q E hr h => ?_)
  · obtain ⟨p, n, t, rfl, _⟩ := h
    rfl
  · obtain ⟨p, n, t, rfl, ⟨u, m, c, hp, hu0, hu1, hm0, hm1, hc0, hc1⟩, hn, ht0, ht1, q⟩ := h
    refine ⟨_, pss_cons (ps_if (pt_cmpR op_gt (pe_ix ix_list (pv 0) pe_int (fun _ _ => rfl)) pe_int (nomark _))
        (pss_cons (ps_set (i := 2) scCoin.nd rfl (.inl rfl) (pe_op op_modN (pe_callTy call_int1 (by rfl) B.int (by decide +kernel) (pa_cons (pe_ix ix_list (pv 0) pe_int (fun _ _ => rfl)) pa_nil)) (pv 1)))
        (pss_cons (ps_asg (pe_op op_fdivW (pe_ix ix_list (pv 0) pe_int (fun _ _ => rfl)) (pv 1)) (pg_sub (pv 0) pe_int set_list))
        (pss_one (ps_ret (pv 2))))) pss_nil)
      (pss_cons (ps_asg (pe_op op_add (pe_ix ix_list (pv 0) pe_int (fun _ _ => rfl)) pe_int) (pg_sub (pv 0) pe_int set_list))
      (pss_cons (ps_set (i := 3) scCoin.nd rfl (.inl rfl) (pe_op op_modN (pe_callTy call_int1 (by rfl) B.int (by decide +kernel) (pa_cons (pe_op op_add (pe_ix ix_list (pv 0) pe_int (fun _ _ => rfl)) (pe_op op_mul (pe_ix ix_list (pv 0) pe_int (fun _ _ => rfl)) pe_int)) pa_nil)) pe_int))
      (pss_cons (ps_set (i := 4) scCoin.nd rfl (.inl rfl) (pe_op op_modN (pe_callTy call_int1 (by rfl) B.int (by decide +kernel) (pa_cons (pe_op op_add (pe_op op_mulW (pv 3) (pv 3)) (pe_op op_mul (pe_ix ix_list (pv 0) pe_int (fun _ _ => rfl)) pe_int)) pa_nil)) pe_int))
      (pss_cons (ps_set (i := 5) scCoin.nd rfl (.inl rfl) (pe_op op_modN (pe_callTy call_int1 (by rfl) B.int (by decide +kernel) (pa_cons (pe_op op_add (pe_op op_mulW (pv 4) (pv 4)) (pv 3)) pa_nil)) pe_int))
      (pss_one (ps_ret (pe_op op_modN (pe_callTy call_int1 (by rfl) B.int (by decide +kernel) (pa_cons (pe_op op_fdivW (pv 5) pe_int) pa_nil)) (pv 1)))))))), ?_⟩
    have tnz : t ≠ 0 := by omega
    have tb : t.natAbs < 2 ^ 30 := by omega
    refine ⟨_, rfl, p, _, _, _, rfl, rfl, SqL.of hp, atI_nat (j := 0) rfl, _, _, rfl, rfl, _, rfl, ?_⟩
    refine ite2 (fun _ => ?_) (fun _ => ?_)
    · refine ⟨_, rfl, p, _, _, _, rfl, rfl, SqL.of hp, atI_nat (j := 0) rfl, .inl ⟨_, rfl, _, rfl, _, _, rfl, rfl, tnz, ?_⟩⟩
      refine ⟨_, rfl, p, _, _, _, rfl, rfl, SqL.of hp, atI_nat (j := 0) rfl, _, rfl, _, _, rfl, rfl, wide_div ht0 tb (by decide) (by decide), ?_⟩
      refine ⟨_, rfl, p, _, _, 0, rfl, rfl, hp, rfl, _, rfl, ?_⟩
      refine q _ _ (fun b o hb e => ?_) (fun b hb => ?_) ⟨_, _, _, upd_same, ?_, ?_, hm0, hm1, hc0, by omega⟩ (Int.fmod_nonneg_of_pos _ ht0) (Int.fmod_lt_of_pos _ ht0)
      · rw [upd_ne hb]; exact e
      · have : b ≠ p := fun e => by rw [e, hp] at hb; cases hb
        rw [upd_ne this]; exact hb
      · exact Int.ediv_nonneg hu0 (by omega)
      · exact Int.lt_of_le_of_lt (Int.ediv_le_self _ hu0) hu1
    · refine ⟨_, rfl, p, _, _, _, rfl, rfl, SqL.of hp, atI_nat (j := 2) rfl, _, _, rfl, rfl, _, rfl, p, _, _, 2, rfl, rfl, hp, rfl, ?_⟩
      have hp2 : upd H p (.lst [V.int u, V.int m, V.int (c + 1)]) p = some (.lst [V.int u, V.int m, V.int (c + 1)]) := upd_same
      refine ⟨_, rfl, p, _, _, _, rfl, rfl, SqL.of hp2, atI_nat (j := 1) rfl, ?_⟩
      refine ⟨_, rfl, p, _, _, _, rfl, rfl, SqL.of hp2, atI_nat (j := 2) rfl, _, _, rfl, rfl, .inr ⟨by decide, by decide⟩, ?_⟩
      refine ⟨_, _, rfl, rfl, .inl ⟨_, rfl, _, _, rfl, rfl, (by show (2305843009213693951 : Int) ≠ 0; decide), ?_⟩⟩
      have h1 := Int.fmod_nonneg_of_pos (m + (c + 1) * 6364136223846793005) (show (0 : Int) < 2305843009213693951 by decide)
      have h2 := Int.fmod_lt_of_pos (m + (c + 1) * 6364136223846793005) (show (0 : Int) < 2305843009213693951 by decide)
      have ho : ((m + (c + 1) * 6364136223846793005).fmod 2305843009213693951).natAbs < 2 ^ 62 := by omega
      refine ⟨_, rfl, _, rfl, _, _, rfl, rfl, wide_mul (a := 62) (b := 62) ho ho (by decide) (by decide) (by decide), ?_⟩
      refine ⟨_, rfl, p, _, _, _, rfl, rfl, SqL.of hp2, atI_nat (j := 2) rfl, _, _, rfl, rfl, .inr ⟨by decide, by decide⟩, ?_⟩
      refine ⟨_, _, rfl, rfl, .inl ⟨_, rfl, _, _, rfl, rfl, (by show (1152921504606846883 : Int) ≠ 0; decide), ?_⟩⟩
      have h3 := Int.fmod_nonneg_of_pos ((m + (c + 1) * 6364136223846793005).fmod 2305843009213693951 * (m + (c + 1) * 6364136223846793005).fmod 2305843009213693951 + (c + 1) * 69069) (show (0 : Int) < 1152921504606846883 by decide)
      have h4 := Int.fmod_lt_of_pos ((m + (c + 1) * 6364136223846793005).fmod 2305843009213693951 * (m + (c + 1) * 6364136223846793005).fmod 2305843009213693951 + (c + 1) * 69069) (show (0 : Int) < 1152921504606846883 by decide)
      have hw : (((m + (c + 1) * 6364136223846793005).fmod 2305843009213693951 * (m + (c + 1) * 6364136223846793005).fmod 2305843009213693951 + (c + 1) * 69069).fmod 1152921504606846883).natAbs < 2 ^ 62 := by omega
      refine ⟨_, rfl, _, rfl, _, _, rfl, rfl, wide_mul (a := 62) (b := 62) hw hw (by decide) (by decide) (by decide), ?_⟩
      refine ⟨_, rfl, _, _, rfl, rfl, .inl ⟨_, rfl, _, _, rfl, rfl, (by show (2305843009213693921 : Int) ≠ 0; decide), ?_⟩⟩
      refine ⟨_, rfl, _, _, rfl, rfl, wide_div (b := 30) (by decide) (by decide) (by decide) (by decide), .inl ⟨_, rfl, ?_⟩⟩
      refine ⟨_, rfl, _, _, rfl, rfl, tnz, ?_⟩
      refine q _ _ (fun b o hb e => ?_) (fun b hb => ?_) ⟨_, _, _, upd_same, hu0, hu1, hm0, hm1, by omega, by omega⟩ (Int.fmod_nonneg_of_pos _ ht0) (Int.fmod_lt_of_pos _ ht0)
      · rw [upd_ne hb]; exact e
      · have : b ≠ p := fun e => by rw [e, hp] at hb; cases hb
        rw [upd_ne this]; exact hb
theorem scPick : FnScope ["_law_purse", "_law_items"] ["_law_purse", "_law_items"] (defScope sPick) := ⟨rfl, rfl, rfl, by decide +kernel, rfl, by decide +kernel, by decide +kernel⟩
theorem ok_pick {f : Addr} {fd : FuncData} (F : Fun K "_law_pick" "_law_pick" sPick f fd) (B : Bn mg) (D : Cd P w K mg base 1 "_law_coin" ["_law_purse", "_law_total"] spDip) : FnOk P w K mg base CX0 2 f fd ["_law_purse", "_law_items"] (spPick2 K) := by
  obtain ⟨d, dd, G, gm, gk, gb⟩ := D.ex
  refine F.ok scPick (fun vs H Q E h => ?_) (fun cdv A outer s H vs Q E hr h => ?_)
  · obtain ⟨p, n, _, _, ⟨a, xs, rfl, _⟩ | ⟨z, rfl, _⟩⟩ := h <;> rfl
  · obtain ⟨p, n, hp, hn, h⟩ := h
    rcases h with ⟨a, xs, rfl, hap, ha, h0, h1, q⟩ | ⟨z, rfl, h0, h1, q⟩
    · refine ⟨_, pss_one (ps_ret (pe_ix ix_list (pv 1) (pe_call G hr (by rfl) gm gk gb .nil pass0 (pa_cons (pv 0) (pa_cons (pe_callB call_len_seq (by rfl) B.len PySem.boot_len (pa_cons (pv 1) pa_nil)) pa_nil))) (fun _ _ => rfl))), ?_⟩
      refine ⟨_, rfl, _, rfl, _, rfl, a, _, rfl, .inl (SqL.of ha), p, n, _, rfl, hp, hn, by omega, by omega, fun H' k hb hf hP hk0 hk1 => ?_⟩
      have hk : k.toNat < xs.length := by omega
      refine ⟨a, xs, k, xs[k.toNat], rfl, rfl, SqL.of (hb _ _ hap ha), ?_, q _ _ ⟨hb, hf, hP⟩ (List.getElem_mem hk)⟩
      exact at_ofA (j := k.toNat) (by omega) (List.getElem?_eq_getElem hk)
    · refine ⟨_, pss_one (ps_ret (pe_ix ix_str (pv 1) (pe_call G hr (by rfl) gm gk gb .nil pass0 (pa_cons (pv 0) (pa_cons (pe_callB call_len_str (by rfl) B.len PySem.boot_len (pa_cons (pv 1) pa_nil)) pa_nil))) (fun _ _ => rfl))), ?_⟩
      refine ⟨_, rfl, _, rfl, _, rfl, z, rfl, by rw [sizeLine_eq]; omega, p, n, _, rfl, hp, hn, by omega, by omega, fun H' k hb hf hP hk0 hk1 => ?_⟩
      have hk : k.toNat < z.cps.toList.length := by
        have : z.length = z.cps.toList.length := rfl
        omega
      refine ⟨z, k, z.cps.toList[k.toNat], rfl, rfl, by rw [sizeLine_eq]; omega, at_ofA (j := k.toNat) (by omega) (List.getElem?_eq_getElem hk), q _ _ ⟨hb, hf, hP⟩ ?_⟩
      unfold sgs
      exact List.mem_map.mpr ⟨_, List.getElem_mem hk, rfl⟩
end
end Mk

set_option Elab.async false
set_option linter.all false
set_option maxRecDepth 100000
set_option maxHeartbeats 4000000
/-! raw states, drawn -/
namespace Mk
open PySem PySem.Spec L2 PyProof.Rows

abbrev sRaw : Stmt := top 57
abbrev nRaw : List Str := ["_law_purse", "_law_most", "_law_signs", "_law_many", "_law_found", "_law_state", "_law_moves", "_law_sign"]
/-- a list of states -/
def LsAt (H : Hp) (L : Addr) (m : Mch) : Prop := ∃ ss : List Addr, H L = some (.lst (ss.map V.ref)) ∧ Paired (StA H) ss m
theorem LsAt.keep {H H' : Hp} {t : Addr} {m : Mch} (k : Same H H') (h : LsAt H t m) : LsAt H' t m := h.imp fun ss ⟨a, b⟩ => ⟨k _ _ a, L2.Paired.mapP b fun _ _ e => e.keep k⟩
theorem StA.butP {p : Addr} {n : Nat} {H H' : Hp} {s : Addr} {q : PTab × Bool} (k : But p H H') (P : Pot H p n) (h : StA H s q) : StA H' s q := by
  obtain ⟨u, mm, cc, ep, _⟩ := P
  obtain ⟨d, a, b⟩ := h
  exact ⟨d, k _ _ (fun z => by rw [z, ep] at a; cases a) a, k _ _ (fun z => by rw [z, ep] at b; cases b) b⟩
/-- signs of a text, each once -/
structure SgT (z : Str) : Prop where
  nd : (sgs z).Nodup
  sg : ∀ x ∈ sgs z, sgB x = true
  l5 : z.length ≤ 5
def spRaw : Sp := fun vs H Q _ => ∃ (p : Addr) (n most : Nat) (z : Str), vs = [.ref p, .int most, .str z] ∧ Pot H p n ∧ n + 100 < PB ∧ 1 ≤ most ∧ most ≤ 5 ∧ SgT z ∧
  ∀ H' L m, But p H H' → Pot H' p (n + 100) → H L = none → L ≠ p → LsAt H' L m → WF m → 1 ≤ m.length → m.length ≤ most → Q (.ref L) H'
/-- a table as it grows -/
structure RwT (ks : List Str) (n : Nat) (t : PTab) : Prop where
  nd : (t.map (·.1)).Nodup
  ks : ∀ q ∈ t, q.1 ∈ ks
  to : ∀ q ∈ t, 0 ≤ q.2 ∧ q.2 < n
theorem RwT.add {ks : List Str} {n : Nat} {t : PTab} {s : Str} {k : Int} (h : RwT ks n t) (hs : s ∉ ks) (hk : 0 ≤ k ∧ k < n) : RwT (ks ++ [s]) n (t ++ [(s, k)]) := by
  refine ⟨?_, fun q hq => ?_, fun q hq => ?_⟩
  · rw [List.map_append]
    refine nd_snoc h.nd fun hm => ?_
    obtain ⟨q, hq, e⟩ := List.mem_map.mp hm
    have := h.ks q hq
    rw [e] at this
    exact hs this
  · rcases List.mem_append.mp hq with hq | hq
    · exact List.mem_append_left _ (h.ks q hq)
    · rw [List.mem_singleton.mp hq]
      exact List.mem_append_right _ List.mem_cons_self
  · rcases List.mem_append.mp hq with hq | hq
    · exact h.to q hq
    · rw [List.mem_singleton.mp hq]
      exact hk
theorem RwT.more {ks : List Str} {n : Nat} {t : PTab} {s : Str} (h : RwT ks n t) : RwT (ks ++ [s]) n t := ⟨h.nd, fun q hq => List.mem_append_left _ (h.ks q hq), h.to⟩
section
variable {P : Program} {w : World} {K : PySem.W.Frag} {mg : Str → Option Value} {base : Heap}
theorem scRaw : FnScope nRaw ["_law_purse", "_law_most", "_law_signs"] (defScope sRaw) := ⟨rfl, rfl, rfl, by decide +kernel, rfl, by decide +kernel, by decide +kernel⟩
theorem ok_raw {f : Addr} {fd : FuncData} (F : Fun K "_law_raw_states" "_law_raw_states" sRaw f fd) (B : Bn mg) (D : Cd P w K mg base 1 "_law_coin" ["_law_purse", "_law_total"] spDip) : FnOk P w K mg base CX0 2 f fd ["_law_purse", "_law_most", "_law_signs"] spRaw := by
  obtain ⟨a1, d1, G1, m1, k1, b1⟩ := D.ex
  refine F.ok scRaw (fun vs H Q E h => ?_) (fun cdv A outer s H vs Q E hr h => ?_)
  · obtain ⟨p, n, most, z, rfl, _⟩ := h
    rfl
  · have hu := hu_of hr
    obtain ⟨p, n, most, z, rfl, hp, hn, h1, h5, sz, q⟩ := h
    refine ⟨_, pss_cons (ps_par (i := 3) (j := 4) rfl scRaw.nd rfl rfl (by decide) rfl rfl (pa_cons (pe_op op_add pe_int (pe_call G1 hr (by rfl) m1 k1 b1 .nil pass0 (pa_cons (pv 0) (pa_cons (pv 1) pa_nil)))) (pa_cons (pe_lst pa_nil) pa_nil)) (by rfl))
      (pss_cons (ps_for PassesOwn.never rfl (pi_range1 (by rfl) B.range (pa_cons (pv 3) pa_nil)) (pg_name (i := 5) scRaw.nd rfl (.inl rfl))
        (pss_cons (ps_set (i := 6) scRaw.nd rfl (.inl rfl) pe_dnewK)
        (pss_cons (ps_for PassesOwn.never rfl (pi_str (pv 2)) (pg_name (i := 7) scRaw.nd rfl (.inl rfl))
          (pss_one (ps_if (pt_cmpR op_gt (pe_call G1 hr (by rfl) m1 k1 b1 .nil pass0 (pa_cons (pv 0) (pa_cons pe_int pa_nil))) pe_int (nomark _))
            (pss_one (ps_dput hu (pv 6) (pv 7) (pe_call G1 hr (by rfl) m1 k1 b1 .nil pass0 (pa_cons (pv 0) (pa_cons (pv 3) pa_nil))) rfl)) pss_nil)))
        (pss_one (ps_expr (pe_bm PySem.F.plainAttrs_list PySem.F.slot_list_append PySem.F.type_list_append mt_append (pv 4) (pa_cons (pe_tup (pa_cons (pv 6) (pa_cons (pe_cmpR op_eq (pe_call G1 hr (by rfl) m1 k1 b1 .nil pass0 (pa_cons (pv 0) (pa_cons pe_int pa_nil))) pe_int (nomark _)) pa_nil))) pa_nil)))))))
      (pss_one (ps_ret (pv 4)))), ?_⟩
    have lt1 : ∀ {n : Nat}, n ≤ 3999 → n < sizeLine := fun h1 => by rw [sizeLine_eq]; omega
    have lz : (sgs z).length = z.length := sgs_length z
    have sl5 := sz.l5
    refine ⟨_, rfl, _, rfl, p, n, _, rfl, hp, by omega, by omega, by omega, fun H1 c hb1 hf1 P1 c0 c1 => ?_⟩
    obtain ⟨k, rfl⟩ : ∃ k : Nat, c = (k : Int) := ⟨c.toNat, by omega⟩
    have km : 1 + k ≤ most := by omega
    refine ⟨_, _, rfl, rfl, (by show 0 ≤ sizeLine; decide), fun L hL => ⟨_, _, rfl, ?_⟩⟩
    have Lp : L ≠ p := (P1.ne hL).symm
    have fr : ∀ {b : Addr}, H1 b = none → H b = none := fun {b} hb => by
      cases h : H b with
      | none => rfl
      | some o =>
        by_cases c : b = p
        · rw [c] at hb
          obtain ⟨_, _, _, e, _⟩ := P1
          rw [e] at hb
          cases hb
        · rw [hb1 b o c h] at hb
          cases hb
    have hL0 := fr hL
    have B2 : But p H (upd H1 L (.lst [])) := But.up hb1 hL0
    have P2 : Pot (upd H1 L (.lst [])) p (n + 1) := P1.up Lp.symm
    have eL2 := (upd_same : upd H1 L (.lst []) L = _)
    generalize upd H1 L (.lst []) = H2 at B2 P2 eL2 ⊢
    refine ⟨_, rfl, _, rfl, by omega, by omega, for_range (lo := 0) (n := Int.toNat _) (fun i σ H3 => ∃ (m : Mch) (ss : List Addr) (o5 o6 o7 : Option V), σ = [some (.ref p), some (.int most), some (.str z), some (.int (1 + (k : Int))), some (.ref L), o5, o6, o7] ∧ But p H H3 ∧ Pot H3 p (n + 1 + 11 * i) ∧ H3 L = some (.lst (ss.map V.ref)) ∧ Paired (StA H3) ss m ∧ m.length = i ∧ ∀ q ∈ m, RwT (sgs z) (1 + k) q.1) ?_ ?_ ?_⟩
    · exact ⟨[], [], _, _, _, rfl, B2, P2, eL2, .nil, rfl, fun q hq => nomatch hq⟩
    · rintro i σ H3 hi ⟨m, ss, o5, o6, o7, rfl, B3, P3, eL, ps, lm, rw3⟩
      have hi : i < 1 + k := by omega
      have lss := Paired.length ps
      refine fun d hd => ?_
      have dp : d ≠ p := (P3.ne hd).symm
      have nLd : L ≠ d := ne_of_none eL hd
      have s4 := Same.new (o := .dK []) hd
      have ed4 := (upd_same : upd H3 d (.dK []) d = _)
      have P4 : Pot (upd H3 d (.dK [])) p (n + 1 + 11 * i) := P3.up dp.symm
      refine ⟨_, rfl, z, rfl, for_it (walk_str (z := z)) (fun j σ H5 => ∃ (t : PTab) (o7 : Option V), σ = [some (.ref p), some (.int most), some (.str z), some (.int (1 + (k : Int))), some (.ref L), some (.int (0 + (i : Int))), some (.ref d), o7] ∧ But p H3 H5 ∧ Pot H5 p (n + 1 + 11 * i + 2 * j) ∧ H5 d = some (.dK (kvsP t)) ∧ RwT ((sgs z).take j) (1 + k) t) ?_ (fun _ _ _ _ _ => trivial) ?_ ?_⟩
      · exact ⟨[], _, rfl, But.of_same s4, P4, ed4, ⟨List.nodup_nil, (fun q hq => nomatch hq), (fun q hq => nomatch hq)⟩⟩
      · rintro j v σ H5 H6 hj ⟨t, o7, rfl, B5, P5, ed5, r5⟩ ⟨rfl, ch, hc, rfl⟩
        have hs := sgs_at hc
        have hj : j < (sgs z).length := (List.getElem?_eq_some_iff.mp hs).1
        have nx : (sgs z).take (j + 1) = (sgs z).take j ++ [⟨#[ch]⟩] := by
          rw [List.take_add_one, hs]
          rfl
        have nin : (⟨#[ch]⟩ : Str) ∉ (sgs z).take j := fun hm => by
          obtain ⟨l, hl⟩ := List.mem_iff_getElem?.mp hm
          have ll := (List.getElem?_eq_some_iff.mp hl).1
          rw [List.length_take] at ll
          rw [List.getElem?_take_of_lt (by omega)] at hl
          have := (List.getElem?_inj (l := sgs z) (i := l) (j := j) (by omega) sz.nd).mp (by rw [hl, hs])
          omega
        generalize (⟨#[ch]⟩ : Str) = sg at nx nin ⊢
        refine ⟨_, rfl, p, _, _, rfl, P5, by omega, by decide, by decide, fun H7 c hb7 hf7 P7 c0 c1 => ⟨_, _, rfl, rfl, _, rfl, ?_⟩⟩
        have ed7 := hb7 _ _ dp ed5
        refine ite2 (fun _ => ?_) (fun _ => ?_)
        · refine ⟨_, rfl, _, rfl, p, _, _, rfl, P7, by omega, by omega, by omega, fun H8 to hb8 hf8 P8 t0 t1 => ?_⟩
          have ed8 := hb8 _ _ dp ed7
          have lt5 : t.length ≤ 5 := by
            have := nd_len (l := t.map (·.1)) (k := (sgs z).take j) r5.nd fun x hx => by
              obtain ⟨q, hq, rfl⟩ := List.mem_map.mp hx
              exact r5.ks q hq
            rw [List.length_map, List.length_take] at this
            omega
          refine ⟨_, rfl, _, rfl, d, _, rfl, DPut.k (k := Sum.inr sg) ed8 (lt1 (by rw [kvsP_len]; omega)), ?_⟩
          have nk : sg ∉ t.map (·.1) := fun hm => by
            obtain ⟨q, hq, e⟩ := List.mem_map.mp hm
            have := r5.ks q hq
            rw [e] at this
            exact nin this
          rw [putP_new nk]
          have P9 : Pot (upd H8 d (.dK (kvsP (t ++ [(sg, to)])))) p (n + 1 + 11 * i + 2 * (j + 1)) := (P8.up dp.symm).mono (by omega)
          refine ⟨t ++ [(sg, to)], _, rfl, ?_, P9, upd_same, ?_⟩
          · exact But.up ((B5.trans hb7).trans hb8) hd
          · rw [nx]
            exact r5.add nin ⟨t0, by omega⟩
        · refine ⟨t, _, rfl, B5.trans hb7, P7.mono (by omega), ed7, ?_⟩
          rw [nx]
          exact r5.more
      · rintro σ H5 ⟨t, o7, rfl, B5, P5, ed5, r5⟩
        rw [List.take_of_length_le (by rw [lz]; exact Nat.le_refl _)] at r5
        have cz : z.cps.size = z.length := rfl
        have eL5 := B5 _ _ Lp eL
        refine ⟨_, rfl, .inl ⟨rfl, _, SqL.of eL5⟩, _, rfl, _, rfl, p, _, _, rfl, P5, by omega, by decide, by decide, fun H7 c hb7 hf7 P7 c0 c1 => ⟨rfl, (by show 2 ≤ sizeLine; decide), fun T hT => ?_⟩⟩
        have ed7 := hb7 _ _ dp ed5
        have eL7 := hb7 _ _ Lp eL5
        have Tp : T ≠ p := (P7.ne hT).symm
        have sT := Same.new (o := .tup [V.ref d, V.bl (decide (V.int c = V.int 0))]) hT
        have eT := (upd_same : upd H7 T (.tup [V.ref d, V.bl (decide (V.int c = V.int 0))]) T = _)
        have P8 := P7.up Tp.symm (o := .tup [V.ref d, V.bl (decide (V.int c = V.int 0))])
        generalize upd H7 T (.tup [V.ref d, V.bl (decide (V.int c = V.int 0))]) = H8 at sT eT P8 ⊢
        have eL8 := sT _ _ eL7
        have ed8 := sT _ _ ed7
        have B8 : But p H3 H8 := (B5.trans hb7).trans (But.of_same sT)
        have k9 : ∀ b o, b ≠ L → H8 b = some o → (upd H8 L (.lst (ss.map V.ref ++ [V.ref T]))) b = some o := fun b o n e => (upd_ne n).trans e
        refine ⟨L, _, _, rfl, rfl, eL8, lt1 (by rw [List.length_map]; omega), ⟨m ++ [(t, decide (V.int c = V.int 0))], ss ++ [T], _, _, _, rfl, But.up (B3.trans B8) hL0, (P8.up Lp.symm).mono (by omega), ?_, ?_, ?_, ?_⟩⟩
        · rw [upd_same, List.map_append]
          rfl
        · refine Paired.appendP (L2.Paired.mapP ps fun x y h => ?_) (.cons ⟨d, k9 _ _ (fun z => by rw [z, eL8] at eT; cases eT) eT, k9 _ _ nLd.symm ed8⟩ .nil)
          obtain ⟨d', h1, h2⟩ := h.butP B8 P3
          exact ⟨d', k9 _ _ (fun z => by rw [z, eL8] at h1; cases h1) h1, k9 _ _ (fun z => by rw [z, eL8] at h2; cases h2) h2⟩
        · rw [List.length_append, lm]
          rfl
        · intro q hq
          rcases List.mem_append.mp hq with hq | hq
          · exact rw3 q hq
          · rw [List.mem_singleton.mp hq]
            exact r5
    · rintro σ H3 ⟨m, ss, o5, o6, o7, rfl, B3, P3, eL, ps, lm, rw3⟩
      have lm : m.length = 1 + k := by omega
      refine ⟨_, rfl, q _ L m B3 (P3.mono (by omega)) hL0 Lp ⟨ss, eL, ps⟩ ⟨fun q hq => (rw3 q hq).nd, fun q hq x hx => sz.sg _ ((rw3 q hq).ks x hx), fun q hq x hx => by rw [lm]; exact (rw3 q hq).to x hx⟩ (by omega) (by omega)⟩
end
end Mk

set_option Elab.async false
set_option linter.all false
set_option maxRecDepth 100000
set_option maxHeartbeats 4000000
/-! set(a list of ints), sorted of it -/
namespace Mk
open PySem PySem.Spec PyProof.Rows L2 PySem.Froz

section
variable {P : Program} {w : World} {A : Around} {E : Value → Shared → Prop} {s : Shared}
set_option maxHeartbeats 3200000 in
/-- set(t), t a list of ints -/
theorem call_set_listI {t : Addr} {items : Array Value} (ns : List Int) {Q : Value → Shared → Prop} (hh : A.handled = none) (ht : s.heap.IsList t items) (hx : IntsAre items.toList ns) (hb : ns.length + 1 < scanBound)
    (h : ∀ (h' : Heap) (tk c : Nat), SetR w h' s.heap.objs.size (fun j => decide (j ∈ ns)) c → c ≤ ns.length → (∀ b o, s.heap.get? b = some o → h'.get? b = some o) → Q (.ref s.heap.objs.size) { s with heap := h', toks := tk }) :
    wpAny (model P w) A (call (.type "set") [.ref t]) Q E s := by
  have hsz : items.size = ns.length := by
    have q := IntsAre.length hx
    rw [Array.length_toList] at q
    exact q
  obtain ⟨c0, tl0, mro0⟩ := PySem.F.called_set.mro
  have made0 := PySem.F.called_set.made
  have sub0 := PySem.F.called_set.sub
  refine wpAny_call (codeAny_of_tree ?_)
  show wpAny _ _ (callAny (.type "set") _) _ _ _
  refine wpAny_pure ⟨Code.quiet_builtin _ (by decide +kernel), codeAny_builtin PySem.F.entry_type_call ?_⟩
  rw [Around.under_plain (weight_type_call_type "set" [.ref t] []) rfl]
  have nt0 := PySem.F.called_set.notType
  have cc0 := PySem.F.called_set.canCreate
  have tc0 := PySem.F.typeCall_set_1 (.ref t)
  repeat (any_goals (first | assumption | wp_step))
  refine codeAny_mono (code_set_led1 (.ref t) (E := E) (Q₁ := fun v s1 => v = .ref s.heap.objs.size ∧ s1 = { s with heap := s.heap.push (ob0 w) }) ⟨rfl, rfl⟩) fun r s1 hr => ?_
  match r, hr with
  | .error e, hr => exact hr
  | .ok (.ret v), hr =>
    obtain ⟨rfl, rfl⟩ := hr
    have o0 : (s.heap.push (ob0 w)).get? s.heap.objs.size = some (ob0 w) := Heap.get?_push_size _ rfl
    have ty0 : Shared.TypeIs { s with heap := s.heap.push (ob0 w) } (.ref s.heap.objs.size) "set" := ⟨_, o0, rfl⟩
    have il0 := PySem.F.called_set.init.lookup
    have ib0 := PySem.F.called_set.init.bind (.ref s.heap.objs.size)
    repeat (any_goals (first | assumption | wp_step))
    refine codeAny_mono (codeAny_call_builtin (R := wants (fun v s2 => v = .none ∧ ∃ h2 tk c, s2 = { s with heap := h2, toks := tk } ∧ SetR w h2 s.heap.objs.size (fun j => decide (j ∈ ns)) c ∧ c ≤ ns.length ∧
        (∀ b o, s.heap.get? b = some o → h2.get? b = some o)) E) PySem.F.called_set.init.plain PySem.F.entry_set_init (check_set_init_1 ty0 ?_)) fun r2 s2 hr2 => ?_
    · obtain ⟨⟨oc, od, dt, osl⟩, ot, hc, nl, hd⟩ := ht
      simp only at hc hd
      subst hc
      subst hd
      have ot2 : (s.heap.push (ob0 w)).get? t = some { cls := .type "list", dict := od, data := .seq items nl, slots := osl } := Heap.get?_push_of_some _ ot
      have st1 := F.sub_list_set
      have st2 := F.sub_list_frozenset
      have td0 : (Value.type "list" == Value.type "dict") = false := by decide
      have t1 : (s.heap.push (ob0 w)).IsList t items := ⟨_, ot2, rfl, nl, rfl⟩
      unfold Builtin.«set.__init__» noKeywords Builtin.Frozenset.updateFrom
      generalize hPI : pyIter = PI
      wp_walk
      subst hPI
      refine wpAny_pyIter_list t1 (wpAny_bind (wpAny_runValue ?_))
      have lt0 : t < s.heap.objs.size := Heap.lt_size ot
      have hh3 : A.in1.in1.in1.handled = none := by simp [hh]
      have z1 : (s.heap.push (ob0 w)).objs.size = s.heap.objs.size + 1 := Heap.size_push ..
      have ne1 : t ≠ (s.heap.push (ob0 w)).objs.size := by rw [z1]; exact Nat.ne_of_lt (Nat.lt_succ_of_lt lt0)
      have nf1 : s.heap.objs.size ∉ [(s.heap.push (ob0 w)).objs.size, t] := by
        rw [z1]
        simp only [List.mem_cons, List.not_mem_nil, or_false, not_or]
        exact And.intro (Nat.ne_of_lt (Nat.lt_succ_self _)) (Nat.ne_of_gt lt0)
      have val1 : ∀ (i : Nat) (v : Value), items[i]? = some v → ∃ y u, ns[i]? = some y ∧ v = .int y u := fun i v e => by
        have hi : i < ns.length := by rw [← hsz]; exact (Array.getElem?_eq_some_iff.mp e).1
        obtain ⟨u, q⟩ := PyProof.Rows.IntsAre.int_at hx i v (by rw [Array.getElem?_toList]; exact e)
        exact ⟨ns[i], u, List.getElem?_eq_getElem hi, by rw [q, List.getD_eq_getElem?_getD, List.getElem?_eq_getElem hi]; rfl⟩
      refine set_update_ints ((Walks.list hh3 _ t ne1 items).toS) s.heap.objs.size nf1 ns hsz hb val1 (items.size - 0) 0 _ (by omega) (Nat.zero_le _)
        ⟨⟨_, Heap.get?_push_size _ rfl, rfl, rfl⟩, (t1.push _)⟩ ⟨0, Nat.le_refl 0, setR_new_at (Heap.get?_push_of_some _ o0)⟩ ?_
      intro s3 l3 mv hf3 x3
      obtain ⟨h3, g3, d3, tk3, os3⟩ := s3
      obtain rfl : g3 = s.gens := mv.gens
      obtain rfl : d3 = s.drawn := mv.drawn
      obtain rfl : os3 = s.os := mv.os
      show wpAny _ _ _ _ _ _
      refine wpAny_pure ?_
      show wpAny _ _ (ret Value.none) _ _ _
      rw [hsz] at hf3
      refine wpAny_pure ⟨rfl, h3, tk3, l3, rfl, x3, hf3, fun b o e => ?_⟩
      have b0 : b < s.heap.objs.size := Heap.lt_size e
      refine mv.heap b o ?_ (Heap.get?_push_of_some _ (Heap.get?_push_of_some _ e))
      rw [z1]
      simp only [List.mem_cons, List.not_mem_nil, or_false, not_or]
      exact And.intro (Nat.ne_of_lt b0) (Nat.ne_of_lt (Nat.lt_succ_of_lt b0))
    · match r2, hr2 with
      | .error e, hr2 => exact hr2
      | .ok (.ret v2), hr2 =>
        obtain ⟨rfl, h2, tk2, l2, rfl, x2, hf2, k2⟩ := hr2
        repeat (any_goals (first | assumption | wp_step))
        exact h _ _ _ x2 hf2 k2
      | .ok .next, hr2 => exact hr2.elim
      | .ok .brk, hr2 => exact hr2.elim
      | .ok .cont, hr2 => exact hr2.elim
  | .ok .next, hr => exact hr.elim
  | .ok .brk, hr => exact hr.elim
  | .ok .cont, hr => exact hr.elim
end
section
variable {X : Cx}
/-- set(t), t a list of ints -/
def rSetLI (K : PySem.W.Frag) (w : World) : List V → Hp → VK → Prop := fun xs H Q => ∃ (t : Addr) (ns : List Int), xs = [.ref t] ∧ SqL K H t (ns.map V.int) ∧ ns.length + 1 < scanBound ∧
  ∀ (p : Addr) (c : Nat), H p = none → c ≤ ns.length → Q (.ref p) (upd H p (SetO w p (fun j => decide (j ∈ ns)) c))
theorem cr_setLI (hc : X.calm = true) : CallR X (.type "set") (rSetLI X.K X.w) := by
  intro pins s σ H xs us Q I r h
  obtain ⟨t, ns, rfl, ht, hb, q⟩ := h
  rw [Vals.ref1 r]
  obtain ⟨its, rv, hl, hz⟩ := I.list ht
  refine call_set_listI (items := its.toArray) ns (I.ok.hd hc) hl.isList (by simpa using ints_of_vals rv) hb fun h' tk c x hf k => ?_
  exact ⟨.ref _, upd H s.heap.objs.size (SetO X.w s.heap.objs.size (fun j => decide (j ∈ ns)) c), I.laid k (Nat.le_refl _) (setO_new x), rfl, q _ _ (I.hok.fresh (Nat.le_refl _)) hf⟩
end
end Mk

set_option Elab.async false
set_option linter.all false
set_option maxRecDepth 100000
set_option maxHeartbeats 4000000
/-! next states -/
namespace Mk
open PySem PySem.Spec L2 PyProof.Rows

abbrev sNxt : Stmt := top 58
/-- states in a list or in a tuple -/
def SqS (K : PySem.W.Frag) (H : Hp) (a : Addr) (m : Mch) : Prop := ∃ ss : List Addr, (SqL K H a (ss.map V.ref) ∨ SqT K H a (ss.map V.ref)) ∧ Paired (StA H) ss m
theorem LsAt.sq {K : PySem.W.Frag} {H : Hp} {a : Addr} {m : Mch} (h : LsAt H a m) : SqS K H a m := h.imp fun ss ⟨e, p⟩ => ⟨.inl (SqL.of e), p⟩
theorem SqS.at_ {K : PySem.W.Frag} {H : Hp} {t : Addr} {m : Mch} (h : SqS K H t m) {i : Int} (hi : 0 ≤ i ∧ i < m.length) : ∃ (ss : List Addr) (s d : Addr), (SqL K H t (ss.map V.ref) ∨ SqT K H t (ss.map V.ref)) ∧ atI (ss.map V.ref) i = some (.ref s) ∧ H s = some (.tup [.ref d, .bl (lst? m i)]) ∧ H d = some (.dK (kvsP (mvs m i))) := by
  obtain ⟨ss, e, p⟩ := h
  have l := Paired.length p
  have hl : i.toNat < ss.length := by omega
  obtain ⟨q, hq, d, e1, e2⟩ := L2.paired_get p (List.getElem?_eq_getElem hl)
  have eq : m.getD i.toNat ([], false) = q := by rw [List.getD_eq_getElem?_getD, hq]; rfl
  refine ⟨ss, ss[i.toNat], d, e, at_ofA (j := i.toNat) (by omega) (by rw [List.getElem?_map, List.getElem?_eq_getElem hl]; rfl), ?_, ?_⟩
  · unfold lst?
    rw [eq]
    exact e1
  · unfold mvs
    rw [eq]
    exact e2
theorem sqS_keep {K : PySem.W.Frag} {H H' : Hp} {a : Addr} {m : Mch} (k : Same H H') (h : SqS K H a m) : SqS K H' a m := h.imp fun ss ⟨e, p⟩ => ⟨e.imp (Same.seq k) (SqT.keep k), L2.Paired.mapP p fun _ _ e => e.keep k⟩
section
variable {X : Cx}
def rIxSq (K : PySem.W.Frag) : R2 := fun x y H Q => ∃ p xs i v, x = .ref p ∧ y = .int i ∧ (SqL K H p xs ∨ SqT K H p xs) ∧ atI xs i = some v ∧ Q v H
theorem ix_sq : IxR X (rIxSq X.K) := by
  intro value slice pins s σ H x y v u Q I rx ry h hs
  obtain ⟨p, xs, i, z, hx, hy, hq, he, q⟩ := h
  rcases hq with hq | hq
  · exact ix_list value slice pins s σ H x y v u Q I rx ry ⟨p, xs, i, z, hx, hy, hq, he, q⟩ hs
  · exact ix_tup value slice pins s σ H x y v u Q I rx ry ⟨p, xs, i, z, hx, hy, hq, he, q⟩ hs
theorem ix_sqK (K : PySem.W.Frag) (hK : X.K = K := by rfl) : IxR X (rIxSq K) := by
  subst hK
  exact ix_sq
end
/-- the states one move on -/
def nxts (m : Mch) (i : Int) (ns : List Int) : Prop := ns.Pairwise (· < ·) ∧ ∀ j, j ∈ ns ↔ ∃ p ∈ mvs m i, p.2 = j
def spNxt (K : PySem.W.Frag) : Sp := fun vs H Q _ => ∃ (a : Addr) (m : Mch) (i : Int), vs = [.ref a, .int i] ∧ SqS K H a m ∧ WF m ∧ (0 ≤ i ∧ i < m.length) ∧ ∀ H' L ns, Same H H' → H L = none → H' L = some (.lst (ns.map V.int)) → nxts m i ns → Q (.ref L) H'
section
variable {P : Program} {w : World} {K : PySem.W.Frag} {mg : Str → Option Value} {base : Heap}
theorem scNxt : FnScope ["_law_raw", "_law_state"] ["_law_raw", "_law_state"] (defScope sNxt) := ⟨rfl, rfl, rfl, by decide +kernel, rfl, by decide +kernel, by decide +kernel⟩
theorem ok_nxt {f : Addr} {fd : FuncData} (F : Fun K "_law_next_states" "_law_next_states" sNxt f fd) (B : Bn mg) (O : On mg) : FnOk P w K mg base CX0 1 f fd ["_law_raw", "_law_state"] (spNxt K) := by
  refine F.ok scNxt (fun vs H Q E h => ?_) (fun cdv A outer s H vs Q E hr h => ?_)
  · obtain ⟨a, m, i, rfl, _⟩ := h
    rfl
  · obtain ⟨a, m, i, rfl, hm, wf, hi, q⟩ := h
    refine ⟨_, pss_one (ps_ret (pe_callB (cr_sortedSet rfl) (by rfl) O.sorted (by decide +kernel) (pa_cons (pe_callTy (cr_setLI rfl) (by rfl) O.set (by decide +kernel) (pa_cons (pe_callTy (call_listVals rfl) (by rfl) B.list (by decide +kernel) (pa_cons (pe_bm0 PySem.F.plainAttrs_dict PySem.F.slot_dict_values PySem.F.type_dict_values mt_vals (pe_ix ix_tup (pe_ix ix_sq (pv 0) (pv 1) (fun _ _ => rfl)) pe_int (fun _ _ => rfl))) pa_nil)) pa_nil)) pa_nil))), ?_⟩
    obtain ⟨ss, s', d, g1, e2, g3, g4⟩ := hm.at_ hi
    refine ⟨_, rfl, _, rfl, a, _, _, _, rfl, rfl, g1, e2, s', _, 0, _, rfl, rfl, SqT.of g3, at_ofA (j := 0) rfl rfl, ?_⟩
    refine ⟨.inr (.inr (.inl ⟨rfl, .inl ⟨_, g4⟩⟩)), d, rfl, rfl, .inl ⟨_, g4⟩, fun W hW => ?_⟩
    have s1 := Same.new (o := valuesO W d) hW
    have eW := (upd_same : upd H W (valuesO W d) W = _)
    generalize upd H W (valuesO W d) = H1 at s1 eW ⊢
    refine ⟨W, d, rfl, eW, .inl ⟨_, s1 _ _ g4, fun L hL => ?_⟩⟩
    have e3 : (kvsP (mvs m i)).map (·.2) = ((mvs m i).map (·.2)).map V.int := kvsP_snd _
    rw [e3]
    have s2 := s1.trans (Same.new (o := .lst (((mvs m i).map (·.2)).map V.int)) hL)
    have eL := (upd_same : upd H1 L (.lst (((mvs m i).map (·.2)).map V.int)) L = _)
    generalize upd H1 L (.lst (((mvs m i).map (·.2)).map V.int)) = H2 at s2 eL ⊢
    have l5 : ((mvs m i).map (·.2)).length ≤ 5 := by
      rw [List.length_map]
      have := wf.l5 _ (mvs_set_mem (m := m) (i := i.toNat) (by omega))
      rw [show ((i.toNat : Nat) : Int) = i from by omega] at this
      exact this
    refine ⟨L, (mvs m i).map (·.2), rfl, SqL.of eL, by unfold scanBound; omega, fun S c hS hc => ?_⟩
    refine ⟨S, _, c, rfl, upd_same, by omega, fun ns R up mem _ hR => ?_⟩
    have s3 := s2.trans ((Same.new hS).trans (Same.new (o := .lst (ns.map V.int)) hR))
    refine q _ R ns s3 ((s2.trans (Same.new hS)).free hR) upd_same ⟨up, fun j => ?_⟩
    rw [mem j, decide_eq_true_eq, List.mem_map]
end
end Mk

set_option Elab.async false
set_option linter.all false
set_option maxRecDepth 100000
set_option maxHeartbeats 8000000
/-! useful states, by the law -/
namespace Mk
open PySem PySem.Spec L2 PyProof.Rows

abbrev sUso : Stmt := top 59
abbrev nUso : List Str := ["_law_raw", "_law_met", "_law_rest", "_law_many", "_law_state", "_law_to", "_law_ends"]
/-- reached, and leads to a last one -/
def Usf (m : Mch) (i : Int) : Prop := Rch m 0 i ∧ ∃ j, Rch m i j ∧ lst? m j = true
structure UsOk (m : Mch) (us : List Int) : Prop where
  up : us.Pairwise (· < ·)
  mem : ∀ i, i ∈ us ↔ Usf m i
def spUso (K : PySem.W.Frag) : Sp := fun vs H Q _ => ∃ (a : Addr) (m : Mch), vs = [.ref a] ∧ SqS K H a m ∧ WF m ∧ 1 ≤ m.length ∧ m.length ≤ 40 ∧ ∀ H' L us, Same H H' → H L = none → H' L = some (.lst (us.map V.int)) → UsOk m us → Q (.ref L) H'
theorem merge_E : ∀ (b a : List Int), (a ++ b).Nodup → mergeK (kvsE a) (kvsE b) = kvsE (a ++ b)
  | [], a, _ => by rw [List.append_nil]; rfl
  | x :: b, a, nd => by
    have e : mergeK (kvsE a) (kvsE (x :: b)) = mergeK (L2.putK (kvsE a) (Sum.inl x) (V.bl true)) (kvsE b) := rfl
    have nx : x ∉ a := fun h => by
      rw [List.nodup_append] at nd
      exact nd.2.2 x h x List.mem_cons_self rfl
    rw [e, kvsE_put nx, merge_E b (a ++ [x]) (by rw [List.append_assoc]; exact nd), List.append_assoc]
    rfl
theorem kvsE_same {f : List Int} {x : Int} (h : x ∈ f) : L2.putK (kvsE f) (Sum.inl x) (V.bl true) = kvsE f := by
  unfold L2.putK
  have ha : ((kvsE f).any fun kv => decide (kv.1 = (Sum.inl x : Key))) = true := List.any_eq_true.mpr ⟨(Sum.inl x, V.bl true), List.mem_map.mpr ⟨x, h, rfl⟩, decide_eq_true rfl⟩
  rw [if_pos ha]
  unfold kvsE
  rw [List.map_map]
  refine List.map_congr_left fun y _ => ?_
  show (if (Sum.inl y : Key) = Sum.inl x then ((Sum.inl y : Key), V.bl true) else (Sum.inl y, V.bl true)) = _
  split <;> rfl
theorem filt1 {f : Int → Bool} {x : Int} (h : f x = true) : [x].filter f = [x] := by rw [List.filter_cons_of_pos h]; rfl
theorem filt0 {f : Int → Bool} {x : Int} (h : f x = false) : [x].filter f = [] := by rw [List.filter_cons_of_neg (by rw [h]; decide)]; rfl
theorem kvsE_len (f : List Int) : (kvsE f).length = f.length := List.length_map _
/-- states that are met -/
structure Me (m : Mch) (f : List Int) : Prop where
  nd : f.Nodup
  rc : ∀ x ∈ f, Rch m 0 x
  z : (0 : Int) ∈ f
theorem Me.rg {m : Mch} {f : List Int} (h : Me m f) (wf : WF m) (ml : 1 ≤ m.length) : ∀ x ∈ f, 0 ≤ x ∧ x < m.length := fun x hx => rch_rg wf (h.rc x hx) ⟨by omega, by omega⟩
theorem Me.len {m : Mch} {f : List Int} (h : Me m f) (wf : WF m) (ml : 1 ≤ m.length) : f.length ≤ m.length := in_len h.nd (h.rg wf ml)
section
variable {P : Program} {w : World} {K : PySem.W.Frag} {mg : Str → Option Value} {base : Heap}
theorem scUso : FnScope nUso ["_law_raw"] (defScope sUso) := ⟨rfl, rfl, rfl, by decide +kernel, rfl, by decide +kernel, by decide +kernel⟩
theorem ok_uso {f : Addr} {fd : FuncData} (F : Fun K "_law_useful_ones" "_law_useful_ones" sUso f fd) (B : Bn mg) (O : On mg) (Dd : Dn mg) (J : Cd P w K mg base 1 "_law_next_states" ["_law_raw", "_law_state"] (spNxt K)) : FnOk P w K mg base CX0 2 f fd ["_law_raw"] (spUso K) := by
  obtain ⟨a1, d1, G1, m1, k1, b1⟩ := J.ex
  refine F.ok scUso (fun vs H Q E h => ?_) (fun cdv A outer s H vs Q E hr h => ?_)
  · obtain ⟨a, m, rfl, _⟩ := h
    rfl
  · have hu := hu_of hr
    have h64 : A.units + 3 + 64 < cLine := by
      have h2 : A.units + 3 + 16 * 1 + 200 < cLine := hr.un
      omega
    obtain ⟨a, m, rfl, hm, wf, ml, l40, q⟩ := h
    refine ⟨_, PSs.nox (pss_cons (ps_par3 (i := 1) (j := 2) (l := 3) rfl scUso.nd rfl rfl rfl (by decide) (by decide) (by decide) rfl rfl rfl (pa_cons (pe_disp (L2.pps_cons pe_int pe_bl L2.pps_nil) rfl rfl (by exact fun z => nomatch z) (by decide)) (pa_cons (pe_lst (pa_cons pe_int pa_nil)) (pa_cons (pe_un un_neg pe_int) pa_nil))) (by rfl))
      (pss_cons (ps_while PassesOwn.never (pt_cmpR (op_neD h64) (pv 2) (pe_lst pa_nil) (nomark _))
        (pss_cons (ps_set (i := 4) scUso.nd rfl (.inl rfl) (pe_bm0 PySem.F.plainAttrs_list PySem.F.slot_list_pop PySem.F.type_list_pop mt_pop (pv 2)))
        (pss_one (ps_for PassesOwn.never rfl (pi_list (pe_call G1 hr (by rfl) m1 k1 b1 .nil pass0 (pa_cons (pv 0) (pa_cons (pv 4) pa_nil)))) (pg_name (i := 5) scUso.nd rfl (.inl rfl))
          (pss_one (ps_if (pt_cmp (pc_dnotin hu (pv 5) (pv 1)))
            (pss_cons (ps_dput hu (pv 1) (pv 5) pe_bl rfl)
            (pss_one (ps_expr (pe_bm PySem.F.plainAttrs_list PySem.F.slot_list_append PySem.F.type_list_append mt_append (pv 2) (pa_cons (pv 5) pa_nil))))) pss_nil))))))
      (pss_cons (ps_set (i := 6) scUso.nd rfl (.inr rfl) (pe_callTy (call_dictP rfl) (by rfl) Dd.dict (by decide +kernel) (pa_cons (pe_lock (pe_lc (own := [("_law_state", 4)]) (g := gName 4) rfl scUso.nd (pi_keys (pv 1)) (blkOk_by (N := nUso) (sc := defScope sUso) (by decide +kernel))
          (fun _ _ _ _ _ => pg_name (i := 4) scUso.nd rfl (Or.inl rfl)) (fun _ _ _ _ _ => pts_one (pt_val (pe_ix (ix_tupK K) (pe_ix (ix_sqK K) (pv 0) (pv 4) (fun _ _ => rfl)) pe_int (fun _ _ => rfl)))) (fun _ _ _ _ _ => pe_tup (pa_cons (pv 4) (pa_cons pe_bl pa_nil))))) pa_nil)))
      (pss_cons (ps_while PassesOwn.never (pt_cmpR op_lt (pv 3) (pe_callB call_lenD (by rfl) B.len PySem.boot_len (pa_cons (pv 6) pa_nil)) (nomark _))
        (pss_cons (ps_set (i := 3) scUso.nd rfl (.inl rfl) (pe_callB call_lenD (by rfl) B.len PySem.boot_len (pa_cons (pv 6) pa_nil)))
        (pss_one (ps_for PassesOwn.never rfl (pi_list (pe_callTy (call_list_dK rfl) (by rfl) B.list (by decide +kernel) (pa_cons (pv 1) pa_nil))) (pg_name (i := 4) scUso.nd rfl (.inl rfl))
          (pss_one (ps_if (pt_cmpR (op_neD h64) (pe_lc (own := [("_law_to", 5)]) (g := gName 5) rfl scUso.nd (pi_list (pe_call G1 hr (by rfl) m1 k1 b1 .nil pass0 (pa_cons (pv 0) (pa_cons (pv 4) pa_nil)))) (blkOk_by (N := nUso) (sc := defScope sUso) (by decide +kernel))
              (fun _ _ _ _ _ => pg_name (i := 5) scUso.nd rfl (Or.inl rfl)) (fun _ _ _ _ _ => pts_one (pt_cmp (pc_din hu (pv 5) (pv 6)))) (fun _ _ _ _ _ => pv 5)) (pe_lst pa_nil) (nomark _))
            (pss_one (ps_dput hu (pv 6) (pv 4) pe_bl rfl)) pss_nil))))))
      (pss_one (ps_ret (pe_callB (call_sortedDI rfl) (by rfl) O.sorted (by decide +kernel) (pa_cons (pv 6) pa_nil)))))))), ?_⟩
    have lt1 : ∀ {n : Nat}, n ≤ 3999 → n < sizeLine := fun h1 => by rw [sizeLine_eq]; omega
    refine fun D hD => ⟨upd_same, [(Sum.inl 0, V.bl true)], rfl, (by show 1 ≤ 15; decide), ?_⟩
    have em : mergeK [] [((Sum.inl 0 : Key), V.bl true)] = kvsE [0] := rfl
    rw [em]
    have sD : Same H (upd (upd H D (.dK [])) D (.dK (kvsE [0]))) := fun b o e => by
      have nb := ne_of_none e hD
      rw [upd_ne nb, upd_ne nb]
      exact e
    have eD : (upd (upd H D (.dK [])) D (.dK (kvsE [0]))) D = some (.dK (kvsE [0])) := upd_same
    generalize upd (upd H D (.dK [])) D (.dK (kvsE [0])) = H1 at sD eD ⊢
    refine ⟨(by show 1 ≤ sizeLine; decide), fun L hL => ⟨_, rfl, _, _, _, rfl, ?_⟩⟩
    have hL0 : H L = none := sD.free hL
    have nDL : D ≠ L := ne_of_none eD hL
    have s2 := sD.trans (Same.new (o := .lst [V.int 0]) hL)
    have eD2 := (upd_ne nDL (H := H1) (o := .lst [V.int 0])).trans eD
    have eL2 := (upd_same : upd H1 L (.lst [V.int 0]) L = _)
    generalize upd H1 L (.lst [V.int 0]) = H2 at s2 eD2 eL2 ⊢
    clear sD eD hL em H1
    refine while_by (fun σ H3 => ∃ (f r : List Int) (o4 o5 : Option V), σ = [some (.ref a), some (.ref D), some (.ref L), some (.int (-1)), o4, o5, none] ∧ Same H H3 ∧ H3 D = some (.dK (kvsE f)) ∧ H3 L = some (.lst (r.map V.int)) ∧ Me m f ∧ r.Nodup ∧ (∀ x ∈ r, x ∈ f) ∧ (∀ x ∈ f, x ∉ r → ∀ p ∈ mvs m x, p.2 ∈ f))
      (fun _ H3 => match H3 D, H3 L with | some (.dK kvs), some (.lst xs) => 2 * (m.length - kvs.length) + xs.length | _, _ => 0) ?_ ?_ ?_
    · exact ⟨[0], [0], _, _, rfl, s2, eD2, eL2, ⟨by simp, fun x hx => by rw [List.mem_singleton.mp hx]; exact .refl 0, List.mem_cons_self⟩, by simp, fun x hx => hx, fun x hx hn => absurd hx hn⟩
    · rintro σ H3 ⟨f, r, o4, o5, rfl, s3, eD, eL, me, nr, rf, cl⟩
      have lf := me.len wf ml
      have lr : r.length ≤ f.length := nd_len nr rf
      refine ⟨_, rfl, (by show 0 ≤ sizeLine; decide), fun l0 hl0 => ?_⟩
      have sl := Same.new (o := .lst []) hl0
      refine ⟨.list (r.map .int), .list [], .lst (SqL.of (sl _ _ eL)) (dpall_ints _), .lst (SqL.of upd_same) .nil, shaped_ints _, by decide +kernel, _, rfl, ?_⟩
      rw [eqv_nil]
      have s4 := s3.trans sl
      have eD4 := sl _ _ eD
      have eL4 := sl _ _ eL
      generalize upd H3 l0 (.lst []) = H4 at s4 eD4 eL4 ⊢
      by_cases hr0 : r = []
      case neg =>
        have eb : (!decide (r.map PyData.int = [])) = true := by
          cases r with
          | nil => exact absurd rfl hr0
          | cons _ _ => rfl
        rw [eb]
        obtain ⟨r', x, er⟩ : ∃ r' x, r = r' ++ [x] := ⟨r.dropLast, r.getLast hr0, (List.dropLast_concat_getLast hr0).symm⟩
        have xf : x ∈ f := rf x (by rw [er]; exact List.mem_append_right _ List.mem_cons_self)
        have nr' := nr
        rw [er, List.nodup_append] at nr'
        have xr : x ∉ r' := fun h => nr'.2.2 x h x List.mem_cons_self rfl
        have lr' : r.length = r'.length + 1 := by rw [er, List.length_append]; rfl
        have edl : (r.map V.int).dropLast = r'.map V.int := by
          rw [er, List.map_append]
          exact List.dropLast_concat
        refine iteT ⟨_, rfl, .inl ⟨rfl, _, SqL.of eL4⟩, L, _, V.int x, rfl, rfl, eL4, ?_, ?_⟩
        · rw [List.length_map, lr', er, List.map_append]
          rw [List.getElem?_append_right (by rw [List.length_map]; omega), List.length_map, show r'.length + 1 - 1 - r'.length = 0 from by omega]
          rfl
        rw [edl]
        have s5 : Same H (upd H4 L (.lst (r'.map V.int))) := Same.upN s4 hL0
        have eD5 := (upd_ne nDL (H := H4) (o := .lst (r'.map V.int))).trans eD4
        have eL5 := (upd_same : upd H4 L (.lst (r'.map V.int)) L = _)
        generalize upd H4 L (.lst (r'.map V.int)) = H5 at s5 eD5 eL5 ⊢
        refine ⟨_, rfl, _, rfl, a, m, x, rfl, sqS_keep s5 hm, wf, me.rg wf ml x xf, fun H6 S ns s6 fS eS nx => ?_⟩
        have eD6 := s6 _ _ eD5
        have eL6 := s6 _ _ eL5
        have nSD : S ≠ D := (ne_of_none eD5 fS).symm
        have nSL : S ≠ L := (ne_of_none eL5 fS).symm
        refine ⟨S, rfl, ⟨_, SqL.of eS⟩, for_list (xs := ns.map V.int) (fun j σ H7 => ∃ (f' r2 : List Int) (o5 : Option V), σ = [some (.ref a), some (.ref D), some (.ref L), some (.int (-1)), some (.int x), o5, none] ∧ Same H H7 ∧ H7 D = some (.dK (kvsE f')) ∧ H7 L = some (.lst (r2.map V.int)) ∧ H7 S = some (.lst (ns.map V.int)) ∧ Me m f' ∧ r2.Nodup ∧ (∀ y ∈ r2, y ∈ f') ∧ (∀ y ∈ f, y ∈ f') ∧ x ∉ r2 ∧ (∀ y ∈ f', y ∉ r2 → y ≠ x → ∀ p ∈ mvs m y, p.2 ∈ f') ∧ (∀ k ∈ ns.take j, k ∈ f') ∧ 2 * (m.length - f'.length) + r2.length ≤ 2 * (m.length - f.length) + r'.length) ?_ (fun j σ H7 _ h7 => ?_) ?_ ?_⟩
        · refine ⟨f, r', _, rfl, s5.trans s6, eD6, eL6, eS, me, nr'.1, fun y hy => rf y (by rw [er]; exact List.mem_append_left _ hy), fun y hy => hy, xr, fun y hy hn hx => cl y hy fun h => ?_, (fun k hk => by rw [List.take_zero] at hk; cases hk), Nat.le_refl _⟩
          rw [er] at h
          rcases List.mem_append.mp h with h | h
          · exact hn h
          · exact hx (List.mem_singleton.mp h)
        · obtain ⟨f', r2, o5, _, _, _, _, eS7, _⟩ := h7
          exact SqL.of eS7
        · rintro j v σ H7 hv ⟨f', r2, o5, rfl, s7, eD7, eL7, eS7, me', nr2, rf2, ff, xr2, cl2, ns2, ms⟩
          have jl : j < ns.length := by
            have := (List.getElem?_eq_some_iff.mp hv).1
            rwa [List.length_map] at this
          obtain rfl : V.int ns[j] = v := by
            rw [List.getElem?_map, List.getElem?_eq_getElem jl] at hv
            exact Option.some.inj hv
          have nt : ns.take (j + 1) = ns.take j ++ [ns[j]] := by
            rw [List.take_add_one, List.getElem?_eq_getElem jl]
            rfl
          have lf' := me'.len wf ml
          have lr2 : r2.length ≤ f'.length := nd_len nr2 rf2
          obtain ⟨pm, hpm, epm⟩ := (nx.2 ns[j]).mp (List.getElem_mem jl)
          have rck : Rch m 0 ns[j] := .step (me'.rc x (ff x xf)) (s := pm.1) (by rw [← epm]; exact hpm)
          generalize ns[j] = k at nt rck ⊢
          refine ⟨_, rfl, _, rfl, D, _, rfl, DGet.k (k := Sum.inl k) eD7, _, rfl, ?_⟩
          rw [kvsE_some]
          by_cases kin : k ∈ f'
          · rw [decide_eq_true kin]
            refine iteF ⟨f', r2, _, rfl, s7, eD7, eL7, eS7, me', nr2, rf2, ff, xr2, cl2, fun y hy => ?_, ms⟩
            rw [nt] at hy
            rcases List.mem_append.mp hy with hy | hy
            · exact ns2 y hy
            · rw [List.mem_singleton.mp hy]
              exact kin
          · rw [decide_eq_false kin]
            refine iteT ⟨_, rfl, _, rfl, D, _, rfl, DPut.k (k := Sum.inl k) eD7 (lt1 (by rw [kvsE_len]; omega)), ?_⟩
            rw [kvsE_put kin]
            have k8 : ∀ b o, b ≠ D → H7 b = some o → (upd H7 D (.dK (kvsE (f' ++ [k])))) b = some o := fun b o n e => (upd_ne n).trans e
            have eL8 := k8 _ _ nDL.symm eL7
            have eS8 := k8 _ _ nSD eS7
            have eD8 := (upd_same : upd H7 D (.dK (kvsE (f' ++ [k]))) D = _)
            have s8 : Same H (upd H7 D (.dK (kvsE (f' ++ [k])))) := Same.upN s7 hD
            generalize upd H7 D (.dK (kvsE (f' ++ [k]))) = H8 at eL8 eS8 eD8 s8 ⊢
            refine ⟨_, rfl, .inl ⟨rfl, _, SqL.of eL8⟩, _, rfl, L, _, _, rfl, rfl, eL8, lt1 (by rw [List.length_map]; omega), ⟨f' ++ [k], r2 ++ [k], _, rfl, Same.upN s8 hL0, (upd_ne nDL).trans eD8, by rw [upd_same, List.map_append]; rfl, (upd_ne nSL).trans eS8, ⟨nd_snoc me'.nd kin, fun y hy => ?_, List.mem_append_left _ me'.z⟩, nd_snoc nr2 fun h => kin (rf2 k h), fun y hy => ?_, fun y hy => List.mem_append_left _ (ff y hy), fun h => ?_, fun y hy hn hx => ?_, fun y hy => ?_, ?_⟩⟩
            · rcases List.mem_append.mp hy with hy | hy
              · exact me'.rc y hy
              · rw [List.mem_singleton.mp hy]
                exact rck
            · rcases List.mem_append.mp hy with hy | hy
              · exact List.mem_append_left _ (rf2 y hy)
              · exact List.mem_append_right _ hy
            · rcases List.mem_append.mp h with h | h
              · exact xr2 h
              · exact kin (by rw [← List.mem_singleton.mp h]; exact ff x xf)
            · rcases List.mem_append.mp hy with hy | hy
              · exact fun p hp => List.mem_append_left _ (cl2 y hy (fun h => hn (List.mem_append_left _ h)) hx p hp)
              · exact absurd (List.mem_append_right _ hy) hn
            · rw [nt] at hy
              rcases List.mem_append.mp hy with hy | hy
              · exact List.mem_append_left _ (ns2 y hy)
              · exact List.mem_append_right _ hy
            · have : (f' ++ [k]).length ≤ m.length := Me.len (m := m) ⟨nd_snoc me'.nd kin, fun y hy => by
                rcases List.mem_append.mp hy with hy | hy
                · exact me'.rc y hy
                · rw [List.mem_singleton.mp hy]
                  exact rck, List.mem_append_left _ me'.z⟩ wf ml
              rw [List.length_append] at this ⊢
              rw [List.length_append]
              have : f'.length + 1 ≤ m.length := this
              show 2 * (m.length - (f'.length + 1)) + (r2.length + 1) ≤ _
              omega
        · rintro σ H7 ⟨f', r2, o5, rfl, s7, eD7, eL7, eS7, me', nr2, rf2, ff, xr2, cl2, ns2, ms⟩
          rw [List.length_map, List.take_length] at ns2
          refine ⟨⟨f', r2, _, _, rfl, s7, eD7, eL7, me', nr2, rf2, fun y hy hn p hp => ?_⟩, ?_⟩
          · by_cases c : y = x
            · rw [c] at hp
              exact ns2 _ ((nx.2 p.2).mpr ⟨p, hp, rfl⟩)
            · exact cl2 y hy hn c p hp
          · rw [eD7, eL7, eD, eL]
            show 2 * (m.length - (kvsE f').length) + (r2.map V.int).length < 2 * (m.length - (kvsE f).length) + (r.map V.int).length
            rw [kvsE_len, kvsE_len, List.length_map, List.length_map]
            omega
      case pos =>
        subst hr0
        have eb : (!decide (([] : List Int).map PyData.int = [])) = false := rfl
        rw [eb]
        refine iteF ?_
        have clo : ∀ x ∈ f, ∀ p ∈ mvs m x, p.2 ∈ f := fun x hx => cl x hx (fun h => nomatch h)
        have rin : ∀ {i j : Int}, Rch m i j → i ∈ f → j ∈ f := fun {i j} r => by
          induction r with
          | refl => exact id
          | step _ hs ih => exact fun h => clo _ (ih h) _ hs
        have fall : ∀ {i : Int}, Rch m 0 i → i ∈ f := fun r => rin r me.z
        clear cl nr rf lr eL eD s3 sl hl0 eb
        refine ⟨D, _, eD4, trivial, fun od => ⟨_, rfl, D, od, rfl, .inl ⟨_, upd_same, fun C hC => ?_⟩⟩⟩
        have eF : (upd H4 D (.frz od (.dK (kvsE f)))) D = some (.frz od (.dK (kvsE f))) := upd_same
        have sF : Same H (upd H4 D (.frz od (.dK (kvsE f)))) := Same.upN s4 hD
        have kF : ∀ b o, b ≠ D → H4 b = some o → (upd H4 D (.frz od (.dK (kvsE f)))) b = some o := fun b o n e => (upd_ne n).trans e
        have nDC : D ≠ C := ne_of_none eF hC
        generalize upd H4 D (.frz od (.dK (kvsE f))) = HF at eF sF kF hC ⊢
        have ftake : ∀ {i : Nat} (h : i < f.length), (f.take (i + 1)).filter (lst? m) = (f.take i).filter (lst? m) ++ if lst? m f[i] = true then [f[i]] else [] := fun {i} h => by
          rw [List.take_add_one, List.getElem?_eq_getElem h, List.filter_append]
          congr 1
          by_cases c : lst? m f[i] = true
          · simp [c]
          · simp [c]
        refine lc_it (walk_keys (d := D) (o := od) (kvs := kvsE f)) (fun i H5 => Same HF H5 ∧ ∃ ts : List Addr, H5 C = some (.lst (ts.map V.ref)) ∧ Paired (fun (t : Addr) (k : Int) => H5 t = some (.tup [.int k, .bl true])) ts ((f.take i).filter (lst? m))) ⟨Same.new hC, [], upd_same, .nil⟩ (fun i H5 _ h5 => h5.1 _ _ eF) ?_ ?_
        · rintro i x H5 H6 hi ⟨s5, ts, e5, pt⟩ ⟨rfl, ky, vv, hx, rfl⟩
          have hi : i < f.length := by rwa [kvsE_len] at hi
          have ek : ky = Sum.inl f[i] := by
            unfold kvsE at hx
            rw [List.getElem?_map, List.getElem?_eq_getElem hi] at hx
            exact (congrArg Prod.fst (Option.some.inj hx)).symm
          subst ek
          obtain ⟨ss, s', d, g1, e2, g3, g4⟩ := (sqS_keep (sF.trans s5) hm).at_ (me.rg wf ml _ (List.getElem_mem hi))
          refine ⟨rfl, _, rfl, _, rfl, a, _, _, _, rfl, rfl, g1, e2, s', _, 1, _, rfl, rfl, SqT.of g3, at_ofA (j := 1) rfl rfl, _, rfl, ?_⟩
          rw [ftake hi]
          have lts := Paired.length pt
          have lts2 := List.length_filter_le (lst? m) (f.take i)
          rw [List.length_take] at lts2
          cases hl : lst? m f[i] with
          | false =>
            refine iteF ⟨s5, ts, e5, ?_⟩
            simpa using pt
          | true =>
            refine iteT ⟨_, rfl, (by show 2 ≤ sizeLine; decide), fun T hT => ?_⟩
            have sT := Same.new (o := .tup [V.int f[i], V.bl true]) hT
            have eT := (upd_same : upd H6 T (.tup [V.int f[i], V.bl true]) T = _)
            refine ⟨_, sT _ _ e5, lt1 (by rw [List.length_map]; omega), Same.upN (s5.trans sT) hC, ts ++ [T], by rw [upd_same, List.map_append]; rfl, ?_⟩
            have TC : T ≠ C := fun z => by rw [z, e5] at hT; cases hT
            have kC : ∀ b o, b ≠ C → (upd H6 T (.tup [V.int f[i], V.bl true])) b = some o → (upd (upd H6 T (.tup [V.int f[i], V.bl true])) C (.lst (ts.map V.ref ++ [V.ref T]))) b = some o := fun b o n e => (upd_ne n).trans e
            rw [if_pos rfl]
            exact Paired.appendP (L2.Paired.mapP pt fun x y h => kC _ _ (fun z => by rw [z, e5] at h; cases h) (sT _ _ h)) (.cons (kC _ _ TC eT) .nil)
        rintro H5 ⟨s5, ts, e5, pt⟩
        rw [kvsE_len, List.take_length] at pt
        refine ⟨s5 _ _ eF, ?_⟩
        have back : Same H4 (upd H5 D (.dK (kvsE f))) := fun b o e => by
          by_cases c : b = D
          · rw [c, eD4] at e
            rw [c, upd_same]
            exact e
          · rw [upd_ne c]
            exact s5 _ _ (kF b o c e)
        have kU : ∀ b o, b ≠ D → H5 b = some o → (upd H5 D (.dK (kvsE f))) b = some o := fun b o n e => (upd_ne n).trans e
        have eC6 := kU _ _ nDC.symm e5
        have pt6 : Paired (fun (t : Addr) (k : Int) => (upd H5 D (.dK (kvsE f))) t = some (.tup [.int k, .bl true])) ts (f.filter (lst? m)) := L2.Paired.mapP pt fun x y h => kU _ _ (fun z => by rw [z, s5 _ _ eF] at h; cases h) h
        have eD6 := (upd_same : upd H5 D (.dK (kvsE f)) D = _)
        have s6 := s4.trans back
        generalize upd H5 D (.dK (kvsE f)) = H6 at eC6 pt6 eD6 s6 ⊢
        clear e5 pt s5 back kU kF sF eF hC
        have pE : Paired (fun (p : Addr) (kv : Key × V) => SqT K H6 p [kV kv.1, kv.2]) ts (kvsE (f.filter (lst? m))) := by
          unfold kvsE
          clear eC6
          generalize f.filter (lst? m) = g at pt6
          induction pt6 with
          | nil => exact .nil
          | cons h _ ih => exact .cons (SqT.of h) ih
        refine ⟨C, ts, _, rfl, SqL.of eC6, pE, fun E hE => ?_⟩
        have nd0 : (f.filter (lst? m)).Nodup := List.Nodup.sublist List.filter_sublist me.nd
        rw [show mergeK [] (kvsE (f.filter (lst? m))) = kvsE (f.filter (lst? m)) from merge_E _ [] nd0]
        have nDE : D ≠ E := ne_of_none eD6 hE
        have hE0 : H E = none := s6.free hE
        have s7 := s6.trans (Same.new (o := .dK (kvsE (f.filter (lst? m)))) hE)
        have eD7 := (upd_ne nDE (H := H6) (o := .dK (kvsE (f.filter (lst? m))))).trans eD6
        have eE7 := (upd_same : upd H6 E (.dK (kvsE (f.filter (lst? m)))) E = _)
        generalize upd H6 E (.dK (kvsE (f.filter (lst? m)))) = H7 at s7 eD7 eE7 ⊢
        clear pE eC6 pt6 hE eD6 s6 s4 eD4 eL4
        have f0 : ∀ x ∈ f.filter (lst? m), ∃ j, Rch m x j ∧ lst? m j = true := fun x hx => ⟨x, .refl x, (List.mem_filter.mp hx).2⟩
        refine while_by (fun σ H8 => ∃ (e : List Int) (n : Int) (o4 o5 : Option V), σ = [some (.ref a), some (.ref D), some (.ref L), some (.int n), o4, o5, some (.ref E)] ∧ Same H H8 ∧ H8 D = some (.dK (kvsE f)) ∧ H8 E = some (.dK (kvsE e)) ∧ e.Nodup ∧ (∀ x ∈ e, x ∈ f) ∧ (∀ x ∈ e, ∃ j, Rch m x j ∧ lst? m j = true) ∧ (∀ x ∈ f, lst? m x = true → x ∈ e) ∧ -1 ≤ n ∧ n ≤ (e.length : Nat) ∧ (n = (e.length : Nat) → ∀ x ∈ f, ∀ p ∈ mvs m x, p.2 ∈ e → x ∈ e))
          (fun σ _ => match σ[3]? with | some (some (V.int n)) => (m.length + 1 - n).toNat | _ => 0) ?_ ?_ ?_
        · exact ⟨_, _, _, _, rfl, s7, eD7, eE7, nd0, fun x hx => (List.mem_filter.mp hx).1, f0, fun x hx hl => List.mem_filter.mpr ⟨hx, hl⟩, Int.le_refl _, by omega, fun h => by omega⟩
        · rintro σ H8 ⟨e, n, o4, o5, rfl, s8, eD8, eE8, nde, ef, ej, el, n1, n2, ecl⟩
          have le : e.length ≤ f.length := nd_len nde ef
          refine ⟨_, rfl, _, rfl, E, _, rfl, eE8, _, _, rfl, rfl, _, rfl, ?_⟩
          rw [kvsE_len]
          by_cases hn : n < (e.length : Nat)
          · rw [decide_eq_true hn]
            refine iteT ⟨_, rfl, E, _, rfl, eE8, ?_⟩
            rw [kvsE_len]
            refine ⟨_, rfl, D, _, rfl, eD8, fun S hS => ?_⟩
            have ek : ((kvsE f).map fun kv => kV kv.1) = f.map V.int := by
              unfold kvsE
              rw [List.map_map]
              rfl
            rw [ek]
            have s9 := s8.trans (Same.new (o := .lst (f.map V.int)) hS)
            have nDS : D ≠ S := ne_of_none eD8 hS
            have nES : E ≠ S := ne_of_none eE8 hS
            have eD9 := (upd_ne nDS (H := H8) (o := .lst (f.map V.int))).trans eD8
            have eE9 := (upd_ne nES (H := H8) (o := .lst (f.map V.int))).trans eE8
            have eS9 := (upd_same : upd H8 S (.lst (f.map V.int)) S = _)
            generalize upd H8 S (.lst (f.map V.int)) = H9 at s9 eD9 eE9 eS9 ⊢
            refine ⟨S, rfl, ⟨_, SqL.of eS9⟩, for_list (xs := f.map V.int) (fun j σ H10 => ∃ (r : List Int) (o4 o5 : Option V), σ = [some (.ref a), some (.ref D), some (.ref L), some (.int (e.length : Nat)), o4, o5, some (.ref E)] ∧ Same H H10 ∧ H10 D = some (.dK (kvsE f)) ∧ H10 S = some (.lst (f.map V.int)) ∧ H10 E = some (.dK (kvsE (e ++ r))) ∧ (e ++ r).Nodup ∧ (∀ x ∈ e ++ r, x ∈ f) ∧ (∀ x ∈ e ++ r, ∃ j, Rch m x j ∧ lst? m j = true) ∧ (r = [] → ∀ x ∈ f.take j, ∀ p ∈ mvs m x, p.2 ∈ e → x ∈ e)) ?_ (fun j σ H10 _ h10 => ?_) ?_ ?_⟩
            · exact ⟨[], _, _, rfl, s9, eD9, eS9, by rw [List.append_nil]; exact eE9, by rw [List.append_nil]; exact nde, by rw [List.append_nil]; exact ef, by rw [List.append_nil]; exact ej, fun _ x hx => by rw [List.take_zero] at hx; cases hx⟩
            · obtain ⟨r, o4, o5, _, _, _, eS, _⟩ := h10
              exact SqL.of eS
            · rintro j v σ H10 hv ⟨r, o4, o5, rfl, s10, eD10, eS10, eE10, nd10, ef10, ej10, ec10⟩
              have jl : j < f.length := by
                have := (List.getElem?_eq_some_iff.mp hv).1
                rwa [List.length_map] at this
              obtain rfl : V.int f[j] = v := by
                rw [List.getElem?_map, List.getElem?_eq_getElem jl] at hv
                exact Option.some.inj hv
              have nt : f.take (j + 1) = f.take j ++ [f[j]] := by
                rw [List.take_add_one, List.getElem?_eq_getElem jl]
                rfl
              have xf := List.getElem_mem jl
              generalize f[j] = x at nt xf ⊢
              have ler : (e ++ r).length ≤ f.length := nd_len nd10 ef10
              refine ⟨_, rfl, _, rfl, a, m, x, rfl, sqS_keep s10 hm, wf, me.rg wf ml x xf, fun H11 R ns s11 fR eR nx => ?_⟩
              refine ⟨R, rfl, ⟨_, SqL.of eR⟩, fun C hC => lc_it (walk_list (K := K) (a := R) (xs := ns.map V.int)) (fun i H12 => Same H11 H12 ∧ H12 C = some (.lst (((ns.take i).filter fun k => decide (k ∈ e ++ r)).map V.int))) ⟨Same.new hC, upd_same⟩ (fun i H12 _ h12 => SqL.of (h12.1 _ _ eR)) ?_ ?_⟩
              · rintro i y H12 H13 hi ⟨s12, e12⟩ ⟨rfl, hy⟩
                rw [List.length_map] at hi
                obtain rfl : V.int ns[i] = y := by
                  rw [List.getElem?_map, List.getElem?_eq_getElem hi] at hy
                  exact Option.some.inj hy
                have ni : (ns.take (i + 1)).filter (fun k => decide (k ∈ e ++ r)) = (ns.take i).filter (fun k => decide (k ∈ e ++ r)) ++ if ns[i] ∈ e ++ r then [ns[i]] else [] := by
                  rw [List.take_add_one, List.getElem?_eq_getElem hi, List.filter_append]
                  congr 1
                  by_cases c : ns[i] ∈ e ++ r
                  · rw [if_pos c]
                    exact filt1 (decide_eq_true c)
                  · rw [if_neg c]
                    exact filt0 (decide_eq_false c)
                have lns : ns.length ≤ m.length := in_len (nx.1.imp fun h => by omega) fun y hy => by
                  obtain ⟨p, hp, ep⟩ := (nx.2 y).mp hy
                  have := rch_rg wf (.step (.refl x) (s := p.1) hp) (me.rg wf ml x xf)
                  rw [← ep]
                  exact this
                refine ⟨rfl, _, rfl, _, rfl, E, _, rfl, DGet.k (k := Sum.inl ns[i]) (s12 _ _ (s11 _ _ eE10)), _, rfl, ?_⟩
                rw [kvsE_some, ni]
                by_cases c : ns[i] ∈ e ++ r
                · rw [decide_eq_true c, if_pos c]
                  refine iteT ⟨_, rfl, _, e12, lt1 (by rw [List.length_map]; exact Nat.le_trans (List.length_filter_le _ _) (by rw [List.length_take]; omega)), Same.upN s12 hC, ?_⟩
                  rw [upd_same, List.map_append]
                  rfl
                · rw [decide_eq_false c, if_neg c, List.append_nil]
                  exact iteF ⟨s12, e12⟩
              rintro H12 ⟨s12, e12⟩
              rw [List.length_map, List.take_length] at e12
              refine ⟨(by show 0 ≤ sizeLine; decide), fun l0 hl0 => ?_⟩
              have sl := Same.new (o := .lst []) hl0
              refine ⟨.list ((ns.filter fun k => decide (k ∈ e ++ r)).map .int), .list [], .lst (SqL.of (sl _ _ e12)) (dpall_ints _), .lst (SqL.of upd_same) .nil, shaped_ints _, by decide +kernel, _, rfl, ?_⟩
              rw [eqv_nil]
              have s13 := (s11.trans s12).trans sl
              generalize upd H12 l0 (.lst []) = H13 at s13 ⊢
              have eD13 := s13 _ _ eD10
              have eS13 := s13 _ _ eS10
              have eE13 := s13 _ _ eE10
              have step : (r = [] → ∀ y ∈ f.take (j + 1), ∀ p ∈ mvs m y, p.2 ∈ e → y ∈ e) ∨ ∃ p ∈ mvs m x, p.2 ∈ e ++ r := by
                by_cases c : ∃ p ∈ mvs m x, p.2 ∈ e ++ r
                · exact .inr c
                · refine .inl fun hr0 y hy p hp hpe => ?_
                  rw [nt] at hy
                  rcases List.mem_append.mp hy with hy | hy
                  · exact ec10 hr0 y hy p hp hpe
                  · rw [List.mem_singleton.mp hy] at hp
                    exact absurd ⟨p, hp, List.mem_append_left _ hpe⟩ c
              by_cases c : ∃ p ∈ mvs m x, p.2 ∈ e ++ r
              · have eb : (!decide (((ns.filter fun k => decide (k ∈ e ++ r)).map PyData.int) = [])) = true := by
                  obtain ⟨p, hp, hpe⟩ := c
                  have : p.2 ∈ ns.filter fun k => decide (k ∈ e ++ r) := List.mem_filter.mpr ⟨(nx.2 _).mpr ⟨p, hp, rfl⟩, decide_eq_true hpe⟩
                  cases hf : ns.filter fun k => decide (k ∈ e ++ r) with
                  | nil => rw [hf] at this; cases this
                  | cons _ _ => rfl
                rw [eb]
                obtain ⟨p, hp, hpe⟩ := c
                obtain ⟨j', rj, lj⟩ := ej10 _ hpe
                refine iteT ⟨_, rfl, _, rfl, E, _, rfl, DPut.k (k := Sum.inl x) eE13 (lt1 (by rw [kvsE_len]; omega)), ?_⟩
                have lput : ∃ r', L2.putK (kvsE (e ++ r)) (Sum.inl x) (V.bl true) = kvsE (e ++ r') ∧ (e ++ r').Nodup ∧ (∀ y ∈ e ++ r', y = x ∨ y ∈ e ++ r) ∧ (r' = [] → r = [] ∧ x ∈ e) := by
                  by_cases xin : x ∈ e ++ r
                  · refine ⟨r, ?_, nd10, fun y hy => .inr hy, fun h => ⟨h, by rw [h, List.append_nil] at xin; exact xin⟩⟩
                    have := kvsE_same xin
                    exact this
                  · refine ⟨r ++ [x], ?_, ?_, fun y hy => ?_, fun h => ?_⟩
                    · rw [kvsE_put xin, List.append_assoc]
                    · rw [← List.append_assoc]
                      exact nd_snoc nd10 xin
                    · rw [← List.append_assoc] at hy
                      rcases List.mem_append.mp hy with hy | hy
                      · exact .inr hy
                      · exact .inl (List.mem_singleton.mp hy)
                    · simp at h
                obtain ⟨r', er', ndr, memr, nilr⟩ := lput
                rw [er']
                refine ⟨r', _, _, rfl, Same.upN (s10.trans s13) hE0, (upd_ne nDE).trans eD13, (upd_ne nES.symm).trans eS13, upd_same, ndr, fun y hy => ?_, fun y hy => ?_, fun h y hy p' hp' hpe' => ?_⟩
                · rcases memr y hy with rfl | h
                  · exact xf
                  · exact ef10 y h
                · rcases memr y hy with rfl | h
                  · exact ⟨j', Rch.head (s := p.1) (j := p.2) hp rj, lj⟩
                  · exact ej10 y h
                · obtain ⟨h1, h2⟩ := nilr h
                  rw [nt] at hy
                  rcases List.mem_append.mp hy with hy | hy
                  · exact ec10 h1 y hy p' hp' hpe'
                  · rw [List.mem_singleton.mp hy]
                    exact h2
              · have eb : (!decide (((ns.filter fun k => decide (k ∈ e ++ r)).map PyData.int) = [])) = false := by
                  have : ns.filter (fun k => decide (k ∈ e ++ r)) = [] := List.filter_eq_nil_iff.mpr fun k hk h => by
                    obtain ⟨p, hp, ep⟩ := (nx.2 k).mp hk
                    exact c ⟨p, hp, by rw [ep]; exact of_decide_eq_true h⟩
                  rw [this]
                  rfl
                rw [eb]
                refine iteF ⟨r, _, _, rfl, s10.trans s13, eD13, eS13, eE13, nd10, ef10, ej10, ?_⟩
                rcases step with h | h
                · exact h
                · exact absurd h c
            · rintro σ H10 ⟨r, o4, o5, rfl, s10, eD10, eS10, eE10, nd10, ef10, ej10, ec10⟩
              rw [List.length_map, List.take_length] at ec10
              have ler : (e ++ r).length ≤ f.length := nd_len nd10 ef10
              rw [List.length_append] at ler
              refine ⟨⟨e ++ r, _, _, _, rfl, s10, eD10, eE10, nd10, ef10, ej10, fun x hx hl => List.mem_append_left _ (el x hx hl), by omega, by rw [List.length_append]; omega, fun h => ?_⟩, ?_⟩
              · have : r = [] := by
                  rw [List.length_append] at h
                  exact List.length_eq_zero_iff.mp (by omega)
                rw [this, List.append_nil]
                exact ec10 this
              · show (m.length + 1 - ((e.length : Nat) : Int)).toNat < (m.length + 1 - n).toNat
                omega
          · rw [decide_eq_false hn]
            have ecl := ecl (by omega)
            have eall : ∀ x ∈ f, (∃ j, Rch m x j ∧ lst? m j = true) → x ∈ e := fun x hx ⟨j, rj, lj⟩ => by
              have back : ∀ {x j : Int}, Rch m x j → x ∈ f → lst? m j = true → x ∈ e := fun {x j} r => by
                intro hx lj
                have : ∀ {k : Int}, k ∈ e → ∀ {x : Int}, Rch m x k → x ∈ f → x ∈ e := fun {k} hk {x} r => by
                  induction r with
                  | refl => exact fun _ => hk
                  | @step j k s r hs ih => exact fun hx => ih (ecl _ (rin r hx) _ hs hk) hx
                exact this (el j (rin r hx) lj) r hx
              exact back rj hx lj
            refine iteF ⟨_, rfl, E, _, e, rfl, .inl eE8, by unfold kvsE; rw [List.map_map]; rfl, by omega, fun ys R perm up hR => ?_⟩
            refine q _ R ys (s8.trans (Same.new hR)) (s8.free hR) upd_same ⟨?_, fun i => ?_⟩
            · have nd := perm.nodup_iff.mpr nde
              exact (List.Pairwise.and up nd).imp fun ⟨h1, h2⟩ => by omega
            · rw [perm.mem_iff]
              exact ⟨fun h => ⟨me.rc i (ef i h), ej i h⟩, fun ⟨h1, h2⟩ => eall i (fall h1) h2⟩
        · rintro σ H8 Q1 Q2 hq ⟨v1, h1, v2, h2, a1, ys, e1, e2, i1, j1, e3, e4, b, e5, h⟩
          exact ⟨v1, h1, v2, h2, a1, ys, e1, e2, i1, j1, e3, e4, b, e5, hq _ _ h⟩
    · rintro σ H3 Q1 Q2 hq ⟨v1, h1, n0, h⟩
      refine ⟨v1, h1, n0, fun l hl => ?_⟩
      obtain ⟨d, e, k1, k2, k3, k4, b, e5, h⟩ := h l hl
      exact ⟨d, e, k1, k2, k3, k4, b, e5, hq _ _ h⟩
end
end Mk

set_option Elab.async false
set_option linter.all false
set_option maxRecDepth 100000
set_option maxHeartbeats 2000000
/-! states trimmed: their mathematics -/
namespace Mk
open PySem PySem.Spec L2 PyProof.Rows

def trmT (us : List Int) (t : PTab) : PTab := (t.filter fun p => decide (p.2 ∈ us)).map fun p => (p.1, (us.idxOf p.2 : Int))
def trm (m : Mch) (us : List Int) : Mch := us.map fun x => (trmT us (mvs m x), lst? m x)
def set0 (m : Mch) : Mch := m.set 0 (mvs m 0, true)
theorem trm_len (m : Mch) (us : List Int) : (trm m us).length = us.length := List.length_map _
theorem trm_at {m : Mch} {us : List Int} {i : Nat} {x : Int} (h : us[i]? = some x) : mvs (trm m us) (i : Int) = trmT us (mvs m x) ∧ lst? (trm m us) (i : Int) = lst? m x := by
  have : (trm m us)[i]? = some (trmT us (mvs m x), lst? m x) := by
    unfold trm
    rw [List.getElem?_map, h]
    rfl
  exact mvs_at this
theorem idx_at {us : List Int} {x : Int} (h : x ∈ us) : us[us.idxOf x]? = some x := by
  have l := List.idxOf_lt_length_of_mem h
  rw [List.getElem?_eq_getElem l, List.getElem_idxOf l]
theorem idx_of {us : List Int} (nd : us.Nodup) {i : Nat} {x : Int} (h : us[i]? = some x) : us.idxOf x = i := by
  have hx := List.mem_of_getElem? h
  have l := List.idxOf_lt_length_of_mem hx
  exact (List.getElem?_inj (l := us) l nd).mp (by rw [idx_at hx, h])
theorem UsOk.nd {m : Mch} {us : List Int} (u : UsOk m us) : us.Nodup := u.up.imp fun h => by omega
section
variable {m : Mch} {us : List Int}
theorem trm_step {x y : Int} {s : Str} (hx : x ∈ us) (hy : y ∈ us) (h : (s, y) ∈ mvs m x) : (s, (us.idxOf y : Int)) ∈ mvs (trm m us) (us.idxOf x : Int) := by
  rw [(trm_at (m := m) (idx_at hx)).1]
  unfold trmT
  exact List.mem_map.mpr ⟨(s, y), List.mem_filter.mpr ⟨h, decide_eq_true hy⟩, rfl⟩
theorem trm_rch (u : UsOk m us) {x y : Int} (r : Rch m x y) : x ∈ us → y ∈ us → Rch (trm m us) (us.idxOf x : Int) (us.idxOf y : Int) := by
  induction r with
  | refl => exact fun _ _ => .refl _
  | @step j k s r hs ih =>
    intro hx hk
    obtain ⟨rx, _⟩ := (u.mem x).mp hx
    obtain ⟨_, e, re, le⟩ := (u.mem k).mp hk
    have hj : j ∈ us := (u.mem j).mpr ⟨rx.trans r, e, Rch.head hs re, le⟩
    exact .step (ih hx hj) (trm_step hj hk hs)
theorem trm_good (wf : WF m) (ml : 1 ≤ m.length) (u : UsOk m us) (h0 : Usf m 0) : GoodM (trm m us) := by
  have z : (0 : Int) ∈ us := (u.mem 0).mpr h0
  have rg : ∀ x ∈ us, 0 ≤ x ∧ x < m.length := fun x hx => rch_rg wf ((u.mem x).mp hx).1 ⟨by omega, by omega⟩
  have i0 : us.idxOf (0 : Int) = 0 := by
    cases hu : us with
    | nil => rw [hu] at z; cases z
    | cons a l =>
      have up := u.up
      rw [hu] at up z
      have : a = 0 := by
        rcases List.mem_cons.mp z with h | h
        · exact h.symm
        · have h1 := (List.pairwise_cons.mp up).1 0 h
          have h2 := (rg a (by rw [hu]; exact List.mem_cons_self)).1
          omega
      rw [this, List.idxOf_cons_self]
  refine ⟨⟨fun q hq => ?_, fun q hq p hp => ?_, fun q hq p hp => ?_⟩, ?_, fun i hi => ?_⟩
  · obtain ⟨x, hx, rfl⟩ := List.mem_map.mp hq
    show ((trmT us (mvs m x)).map (·.1)).Nodup
    unfold trmT
    rw [List.map_map]
    exact List.Nodup.sublist (List.Sublist.map _ List.filter_sublist) (mvs_nd wf x)
  · obtain ⟨x, hx, rfl⟩ := List.mem_map.mp hq
    have hp : p ∈ trmT us (mvs m x) := hp
    unfold trmT at hp
    obtain ⟨r, hr, rfl⟩ := List.mem_map.mp hp
    exact key_sg wf (List.mem_map.mpr ⟨r, (List.mem_filter.mp hr).1, rfl⟩)
  · obtain ⟨x, hx, rfl⟩ := List.mem_map.mp hq
    have hp : p ∈ trmT us (mvs m x) := hp
    unfold trmT at hp
    obtain ⟨r, hr, rfl⟩ := List.mem_map.mp hp
    have := List.idxOf_lt_length_of_mem (of_decide_eq_true (List.mem_filter.mp hr).2)
    rw [trm_len]
    show 0 ≤ ((us.idxOf r.2 : Nat) : Int) ∧ ((us.idxOf r.2 : Nat) : Int) < _
    omega
  · rw [trm_len]
    exact List.length_pos_of_mem z
  · rw [trm_len] at hi
    obtain ⟨x, hx⟩ : ∃ x, us[i.toNat]? = some x := ⟨_, List.getElem?_eq_getElem (by omega)⟩
    have xu := List.mem_of_getElem? hx
    have ix := idx_of u.nd hx
    have r0 := trm_rch u ((u.mem x).mp xu).1 z xu
    rw [i0, ix] at r0
    have e : ((i.toNat : Nat) : Int) = i := by omega
    rw [e] at r0
    refine ⟨r0, ?_⟩
    obtain ⟨rx, j, rj, lj⟩ := (u.mem x).mp xu
    have ju : j ∈ us := (u.mem j).mpr ⟨rx.trans rj, j, .refl j, lj⟩
    have r1 := trm_rch u rj xu ju
    rw [ix, e] at r1
    exact ⟨_, r1, by rw [(trm_at (m := m) (idx_at ju)).2]; exact lj⟩
end
theorem set0_wf {m : Mch} (wf : WF m) (ml : 1 ≤ m.length) : WF (set0 m) := WF.setLa (i := 0) wf (by omega)
theorem set0_len (m : Mch) : (set0 m).length = m.length := List.length_set
theorem set0_usf {m : Mch} (ml : 1 ≤ m.length) : Usf (set0 m) 0 := ⟨.refl 0, 0, .refl 0, by
  have : (set0 m)[0]? = some (mvs m 0, true) := by
    unfold set0
    rw [List.getElem?_set_self (by omega)]
  exact (mvs_at this).2⟩
/-! the dict of the places -/
def kvsQ : Nat → List Int → List (Key × V)
  | _, [] => []
  | n, r :: rs => (Sum.inl r, V.int n) :: kvsQ (n + 1) rs
theorem kvsQ_len : ∀ (n : Nat) (rs : List Int), (kvsQ n rs).length = rs.length
  | _, [] => rfl
  | n, r :: rs => by
    show (kvsQ (n + 1) rs).length + 1 = rs.length + 1
    rw [kvsQ_len]
theorem kvsQ_val : ∀ (n : Nat) (rs : List Int) (q : Int), valV (kvsQ n rs) (Sum.inl q) = if q ∈ rs then some (V.int ((n + rs.idxOf q : Nat) : Int)) else none
  | n, [], q => rfl
  | n, r :: rs, q => by
    by_cases e : r = q
    · subst e
      rw [if_pos List.mem_cons_self, List.idxOf_cons_self]
      exact valV_pos rfl
    · have ne : ¬ (Sum.inl r : Key) = Sum.inl q := fun h => e (Sum.inl.inj h)
      refine (valV_neg ne).trans ?_
      rw [kvsQ_val (n + 1) rs q, List.idxOf_cons, show (r == q) = false from by simpa using e, cond_false]
      by_cases h : q ∈ rs
      · rw [if_pos h, if_pos (List.mem_cons_of_mem _ h)]
        congr 2
        omega
      · rw [if_neg h, if_neg fun c => (List.mem_cons.mp c).elim (fun x => e x.symm) h]
theorem kvsQ_keys : ∀ (n : Nat) (rs : List Int), (kvsQ n rs).map (·.1) = rs.map Sum.inl
  | _, [] => rfl
  | n, r :: rs => by
    show Sum.inl r :: (kvsQ (n + 1) rs).map (·.1) = Sum.inl r :: rs.map Sum.inl
    rw [kvsQ_keys]
/-- a dict of pairs whose keys are different -/
theorem merge_nd : ∀ (b a : List (Key × V)), ((a ++ b).map (·.1)).Nodup → mergeK a b = a ++ b
  | [], a, _ => by rw [List.append_nil]; rfl
  | x :: b, a, nd => by
    have e : mergeK a (x :: b) = mergeK (L2.putK a x.1 x.2) b := rfl
    have nx : valV a x.1 = none := by
      unfold valV
      rw [Option.map_eq_none_iff, List.find?_eq_none]
      intro y hy h
      have h : decide (y.1 = x.1) = true := h
      rw [decide_eq_true_eq] at h
      rw [List.map_append, List.nodup_append] at nd
      exact nd.2.2 y.1 (List.mem_map.mpr ⟨y, hy, rfl⟩) x.1 (List.mem_map.mpr ⟨x, List.mem_cons_self, rfl⟩) h
    rw [e, putK_new _ nx, merge_nd b (a ++ [(x.1, x.2)]) (by rw [List.append_assoc]; exact nd), List.append_assoc]
    rfl
theorem inl_nd {l : List Int} (h : l.Nodup) : (l.map (Sum.inl : Int → Key)).Nodup := nd_map (fun a b e => Sum.inl.inj e) h
end Mk

set_option Elab.async false
set_option linter.all false
set_option maxRecDepth 100000
set_option maxHeartbeats 8000000
/-! states trimmed -/
namespace Mk
open PySem PySem.Spec L2 PyProof.Rows

abbrev sTrm : Stmt := top 60
abbrev nTrm : List Str := ["_law_raw", "_law_kept", "_law_found", "_law_place", "_law_state", "_law_moves", "_law_at", "_law_sign", "_law_to"]
theorem join3 {b : Bool} {A : Prop} {N : L2.St → Hp → Prop} {σ : L2.St} {H : Hp} (S : L2.St → Hp → Prop) (hk : ∀ σ' H', S σ' H' → N σ' H') (hA : (∀ σ' H', S σ' H' → N σ' H') → A) (hS : b = false → S σ H) : if b = true then A else N σ H := by
  cases b with
  | true => exact iteT (hA hk)
  | false => exact iteF (hk _ _ (hS rfl))
theorem inV_decI (x : Int) (zs : List Int) : inV (.int x) (zs.map V.int) = decide (x ∈ zs) := by
  unfold inV
  rw [List.any_map, Bool.eq_iff_iff, decide_eq_true_iff, List.any_eq_true]
  constructor
  · rintro ⟨y, hy, e⟩
    have : eqV (.int y) (.int x) = true := e
    simp [eqV] at this
    rw [← this]
    exact hy
  · intro h
    refine ⟨x, h, ?_⟩
    show eqV (.int x) (.int x) = true
    simp [eqV]
theorem flat_int (zs : List Int) : (zs.map V.int).all flatV = true := by
  rw [List.all_map]
  exact List.all_eq_true.mpr fun _ _ => rfl
theorem kvsQ_at : ∀ (n : Nat) (us : List Int) (i : Nat) (h : i < us.length), (kvsQ n us)[i]? = some (Sum.inl us[i], V.int ((n + i : Nat) : Int))
  | _, [], _, h => absurd h (Nat.not_lt_zero _)
  | n, u :: us, 0, _ => rfl
  | n, u :: us, i + 1, h => by
    have := kvsQ_at (n + 1) us i (by simpa using h)
    rw [show n + 1 + i = n + (i + 1) from by omega] at this
    exact this
theorem trmT_take {us : List Int} {t : PTab} {j : Nat} (h : j < t.length) : trmT us (t.take (j + 1)) = trmT us (t.take j) ++ if t[j].2 ∈ us then [(t[j].1, (us.idxOf t[j].2 : Int))] else [] := by
  unfold trmT
  rw [List.take_add_one, List.getElem?_eq_getElem h, List.filter_append, List.map_append]
  congr 1
  by_cases c : t[j].2 ∈ us
  · rw [if_pos c]
    simp [c]
  · rw [if_neg c]
    simp [c]
theorem trm_take {m : Mch} {us : List Int} {j : Nat} (h : j < us.length) : (trm m us).take (j + 1) = (trm m us).take j ++ [(trmT us (mvs m us[j]), lst? m us[j])] := by
  unfold trm
  rw [List.take_add_one, List.getElem?_map, List.getElem?_eq_getElem h]
  rfl
theorem LsAt.at_ {H : Hp} {t : Addr} {m : Mch} (h : LsAt H t m) {i : Int} (hi : 0 ≤ i ∧ i < m.length) : ∃ (ss : List Addr) (s d : Addr), H t = some (.lst (ss.map V.ref)) ∧ atI (ss.map V.ref) i = some (.ref s) ∧ H s = some (.tup [.ref d, .bl (lst? m i)]) ∧ H d = some (.dK (kvsP (mvs m i))) := by
  obtain ⟨ss, e, p⟩ := h
  have l := Paired.length p
  have hl : i.toNat < ss.length := by omega
  obtain ⟨q, hq, d, e1, e2⟩ := L2.paired_get p (List.getElem?_eq_getElem hl)
  have eq : m.getD i.toNat ([], false) = q := by rw [List.getD_eq_getElem?_getD, hq]; rfl
  refine ⟨ss, ss[i.toNat], d, e, at_ofA (j := i.toNat) (by omega) (by rw [List.getElem?_map, List.getElem?_eq_getElem hl]; rfl), ?_, ?_⟩
  · unfold lst?
    rw [eq]
    exact e1
  · unfold mvs
    rw [eq]
    exact e2
def spTrm (K : PySem.W.Frag) : Sp := fun vs H Q _ => ∃ (a : Addr) (m : Mch), vs = [.ref a] ∧ LsAt H a m ∧ WF m ∧ 1 ≤ m.length ∧ m.length ≤ 40 ∧ ∀ H' r m', Same H H' → H r = none → MAt H' r m' → GoodM m' → m'.length ≤ m.length → Q (.ref r) H'
section
variable {P : Program} {w : World} {K : PySem.W.Frag} {mg : Str → Option Value} {base : Heap}
theorem scTrm : FnScope nTrm ["_law_raw"] (defScope sTrm) := ⟨rfl, rfl, rfl, by decide +kernel, rfl, by decide +kernel, by decide +kernel⟩
theorem ok_trm {f : Addr} {fd : FuncData} (F : Fun K "_law_trimmed_to" "_law_trimmed_to" sTrm f fd) (B : Bn mg) (O : On mg) (Dd : Dn mg) (J : Cd P w K mg base 2 "_law_useful_ones" ["_law_raw"] (spUso K)) : FnOk P w K mg base CX0 3 f fd ["_law_raw"] (spTrm K) := by
  obtain ⟨a1, d1, G1, m1, k1, b1⟩ := J.ex
  refine F.ok scTrm (fun vs H Q E h => ?_) (fun cdv A outer s H vs Q E hr h => ?_)
  · obtain ⟨a, m, rfl, _⟩ := h
    rfl
  · have hu := hu_of hr
    obtain ⟨a, m, rfl, hm, wf, ml, l40, q⟩ := h
    refine ⟨_, pss_cons (ps_if (pt_cmpR op_notIn_seq pe_int (pe_call G1 hr (by rfl) m1 k1 b1 .nil pass0 (pa_cons (pv 0) pa_nil)) (by rfl))
        (pss_one (ps_set (i := 0) scTrm.nd rfl (.inl rfl) (pe_op op_cat (pe_lst (pa_cons (pe_tup (pa_cons (pe_ix ix_tup (pe_ix ix_list (pv 0) pe_int (fun _ _ => rfl)) pe_int (fun _ _ => rfl)) (pa_cons pe_bl pa_nil))) pa_nil)) (pe_slice sl_list (pv 0) (po_some pe_int) po_none)))) pss_nil)
      (pss_cons (ps_asg (pe_tup (pa_cons (pe_call G1 hr (by rfl) m1 k1 b1 .nil pass0 (pa_cons (pv 0) pa_nil)) (pa_cons (pe_lst pa_nil) pa_nil))) (pg_tup rfl (pgs_cons (pg_name (i := 1) scTrm.nd rfl (.inr rfl)) (pgs_cons (pg_name (i := 2) scTrm.nd rfl (.inl rfl)) pgs_nil))))
      (pss_cons (ps_set (i := 3) scTrm.nd rfl (.inr rfl) (pe_callTy (call_dictP rfl) (by rfl) Dd.dict (by decide +kernel) (pa_cons (pe_lc (own := [("_law_at", 6)]) (g := gName 6) (tt := tYes) rfl scTrm.nd (pi_range1 (by rfl) B.range (pa_cons (pe_callB call_len_seq (by rfl) B.len PySem.boot_len (pa_cons (pv 1) pa_nil)) pa_nil)) (blkOk_by (N := nTrm) (sc := defScope sTrm) (by decide +kernel))
          (fun _ _ _ _ _ => pg_name (i := 6) scTrm.nd rfl (Or.inl rfl)) (fun _ _ _ _ _ => pts_nil) (fun _ _ _ _ _ => pe_tup (pa_cons (pe_ix (ix_listK K) (pv 1) (pv 6) (fun _ _ => rfl)) (pa_cons (pv 6) pa_nil)))) pa_nil)))
      (pss_cons (ps_for PassesOwn.never rfl (pi_list (pv 1)) (pg_name (i := 4) scTrm.nd rfl (.inl rfl))
        (pss_cons (ps_set (i := 5) scTrm.nd rfl (.inl rfl) (pe_callTy (call_dictP rfl) (by rfl) Dd.dict (by decide +kernel) (pa_cons (pe_lock (pe_lc (own := [("_law_sign", 7), ("_law_to", 8)]) (g := gTup K 2 (gCons (gName 7) (gCons (gName 8) gNil))) rfl scTrm.nd (pi_items (pe_ix ix_tup (pe_ix ix_list (pv 0) (pv 4) (fun _ _ => rfl)) pe_int (fun _ _ => rfl))) (blkOk_by (N := nTrm) (sc := defScope sTrm) (by decide +kernel))
            (fun _ _ _ _ _ => pg_tup rfl (pgs_cons (pg_name (i := 7) scTrm.nd rfl (Or.inl rfl)) (pgs_cons (pg_name (i := 8) scTrm.nd rfl (Or.inl rfl)) pgs_nil))) (fun _ _ _ _ _ => pts_one (pt_cmp (pc_din hu (pv 8) (pv 3)))) (fun _ _ _ _ _ => pe_tup (pa_cons (pv 7) (pa_cons (pe_dget hu (pv 3) (pv 8) (fun _ _ => rfl)) pa_nil))))) pa_nil)))
        (pss_one (ps_expr (pe_bm PySem.F.plainAttrs_list PySem.F.slot_list_append PySem.F.type_list_append mt_append (pv 2) (pa_cons (pe_tup (pa_cons (pv 5) (pa_cons (pe_ix ix_tup (pe_ix ix_list (pv 0) (pv 4) (fun _ _ => rfl)) pe_int (fun _ _ => rfl)) pa_nil))) pa_nil))))))
      (pss_one (ps_ret (pe_callTy call_tuple_of (by rfl) O.tuple (by decide +kernel) (pa_cons (pv 2) pa_nil))))))), ?_⟩
    have lt1 : ∀ {n : Nat}, n ≤ 3999 → n < sizeLine := fun h1 => by rw [sizeLine_eq]; omega
    refine ⟨_, rfl, a, m, rfl, hm.sq, wf, ml, l40, fun H1 L us s1 fL eL u => ?_⟩
    refine ⟨L, _, rfl, .inl (SqL.of eL), rfl, flat_int us, _, rfl, ?_⟩
    rw [if_pos rfl, inV_decI]
    have hm1 := hm.keep s1
    refine join3 (fun σ' H' => ∃ (a' : Addr) (m' : Mch), σ' = [some (.ref a'), none, none, none, none, none, none, none, none] ∧ Same H H' ∧ LsAt H' a' m' ∧ WF m' ∧ m'.length = m.length ∧ Usf m' 0) ?_ (fun hC => ?_) (fun hb => ?_)
    rotate_left
    · obtain ⟨ss, ea, ps⟩ := hm1
      have ls := Paired.length ps
      obtain ⟨s0, sr, es⟩ : ∃ s0 sr, ss = s0 :: sr := by
        cases hs : ss with
        | nil => rw [hs] at ls; have ls : 0 = m.length := ls; omega
        | cons a b => exact ⟨a, b, rfl⟩
      obtain ⟨q0, hq0, d, g1, g2⟩ := L2.paired_get ps (show ss[0]? = some s0 by rw [es]; rfl)
      have em : mvs m 0 = q0.1 := (mvs_at (k := 0) hq0).1
      refine ⟨_, rfl, a, _, _, V.ref s0, rfl, rfl, SqL.of ea, at_ofA (j := 0) rfl (by rw [es]; rfl), s0, _, 0, _, rfl, rfl, SqT.of g1, at_ofA (j := 0) rfl rfl, (by show 2 ≤ sizeLine; decide), fun T hT => ⟨(by show 1 ≤ sizeLine; decide), fun A hA => ?_⟩⟩
      have sT := Same.new (o := .tup [V.ref d, V.bl true]) hT
      have eT := (upd_same : upd H1 T (.tup [V.ref d, V.bl true]) T = _)
      generalize upd H1 T (.tup [V.ref d, V.bl true]) = H2 at sT eT hA ⊢
      have sA := Same.new (o := .lst [V.ref T]) hA
      have eA := (upd_same : upd H2 A (.lst [V.ref T]) A = _)
      have eT3 := sA _ _ eT
      generalize upd H2 A (.lst [V.ref T]) = H3 at sA eA eT3 ⊢
      have s13 := sT.trans sA
      refine ⟨_, rfl, _, rfl, a, _, rfl, SqL.of (s13 _ _ ea), fun Bq hB => ?_⟩
      rw [cut1]
      have sB := Same.new (o := .lst ((ss.map V.ref).drop 1)) hB
      have eB := (upd_same : upd H3 Bq (.lst ((ss.map V.ref).drop 1)) Bq = _)
      have eA4 := sB _ _ eA
      generalize upd H3 Bq (.lst ((ss.map V.ref).drop 1)) = H4 at sB eB eA4 ⊢
      refine ⟨A, Bq, _, _, rfl, rfl, eA4, eB, Nat.le_of_lt (lt1 (by rw [List.length_drop, List.length_map]; show 1 + _ ≤ 3999; omega)), fun R hR => ?_⟩
      have s15 := (s13.trans sB).trans (Same.new (o := .lst ([V.ref T] ++ (ss.map V.ref).drop 1)) hR)
      refine hC _ _ ⟨R, set0 m, rfl, s1.trans s15, ⟨ss.set 0 T, ?_, ?_⟩, set0_wf wf ml, set0_len m, set0_usf ml⟩
      · rw [upd_same, es]
        rfl
      · unfold set0
        refine paired_set (L2.Paired.mapP ps fun _ _ e => e.keep s15) ⟨d, (sB.trans (Same.new hR)) _ _ eT3, s15 _ _ (by rw [em]; exact g2)⟩
    · have z : (0 : Int) ∈ us := by
        rw [Bool.not_eq_false'] at hb
        exact of_decide_eq_true hb
      exact ⟨a, m, rfl, s1, hm1, wf, rfl, (u.mem 0).mp z⟩
    clear hm1 s1 u eL fL
    rintro σ' H2 ⟨a', m', rfl, s2, hm2, wf2, lm2, u0⟩
    refine ⟨_, rfl, a', m', rfl, hm2.sq, wf2, by omega, by omega, fun H3 L us s3 fL eL u => ?_⟩
    have z0 := (u.mem 0).mpr u0
    have rg : ∀ x ∈ us, 0 ≤ x ∧ x < m'.length := fun x hx => rch_rg wf2 ((u.mem x).mp hx).1 ⟨by omega, by omega⟩
    have lus : us.length ≤ m'.length := in_len u.nd rg
    have good := trm_good wf2 (by omega) u u0
    refine ⟨(by show 0 ≤ sizeLine; decide), fun Fo hFo => ⟨(by show 2 ≤ sizeLine; decide), fun Tq hTq => ?_⟩⟩
    have s4 := Same.new (o := .lst []) hFo
    have eF4 := (upd_same : upd H3 Fo (.lst []) Fo = _)
    have eL4 := s4 _ _ eL
    have nLF : L ≠ Fo := ne_of_none eL hFo
    generalize upd H3 Fo (.lst []) = H4 at s4 eF4 eL4 hTq ⊢
    have s5 := Same.new (o := .tup [V.ref L, V.ref Fo]) hTq
    have eT5 := (upd_same : upd H4 Tq (.tup [V.ref L, V.ref Fo]) Tq = _)
    generalize upd H4 Tq (.tup [V.ref L, V.ref Fo]) = H5 at s5 eT5 ⊢
    refine ⟨Tq, _, rfl, SqT.of eT5, rfl, _, _, rfl, _, _, rfl, rfl, ?_⟩
    have eF5 := s5 _ _ eF4
    have eL5 := s5 _ _ eL4
    have s25 := ((s2.trans s3).trans s4).trans s5
    have hm5 := ((hm2.keep s3).keep s4).keep s5
    have hFo0 : H Fo = none := (s2.trans s3).free hFo
    clear s4 s5 eF4 eL4 eT5 hTq
    refine ⟨_, rfl, L, _, rfl, .inl (SqL.of eL5), _, rfl, by omega, by rw [List.length_map]; omega, fun C hC => ?_⟩
    rw [List.length_map]
    have lk : (kvsQ 0 us).length = us.length := kvsQ_len 0 us
    refine lc_range (lo := 0) (n := us.length) (fun i H6 => Same H5 H6 ∧ ∃ ts : List Addr, H6 C = some (.lst (ts.map V.ref)) ∧ Paired (fun (t : Addr) (kv : Key × V) => H6 t = some (.tup [kV kv.1, kv.2])) ts ((kvsQ 0 us).take i)) ⟨Same.new hC, [], upd_same, .nil⟩ ?_ ?_
    · rintro i H6 hi ⟨s6, ts, e6, pt⟩
      have lts := Paired.length pt
      rw [List.length_take] at lts
      refine ⟨rfl, _, rfl, _, rfl, L, _, _, V.int us[i], rfl, rfl, SqL.of (s6 _ _ eL5), at_ofA (j := i) (by omega) (by rw [List.getElem?_map, List.getElem?_eq_getElem hi]; rfl), _, rfl, (by show 2 ≤ sizeLine; decide), fun T hT => ?_⟩
      have sT := Same.new (o := .tup [V.int us[i], V.int (0 + (i : Int))]) hT
      have eT := (upd_same : upd H6 T (.tup [V.int us[i], V.int (0 + (i : Int))]) T = _)
      have TC : T ≠ C := fun z => by rw [z, e6] at hT; cases hT
      refine ⟨_, sT _ _ e6, lt1 (by rw [List.length_map]; omega), Same.upN (s6.trans sT) hC, ts ++ [T], by rw [upd_same, List.map_append]; rfl, ?_⟩
      have kC : ∀ b o, b ≠ C → (upd H6 T (.tup [V.int us[i], V.int (0 + (i : Int))])) b = some o → (upd (upd H6 T (.tup [V.int us[i], V.int (0 + (i : Int))])) C (.lst (ts.map V.ref ++ [V.ref T]))) b = some o := fun b o n e => (upd_ne n).trans e
      rw [List.take_add_one, kvsQ_at 0 us i hi]
      refine Paired.appendP (L2.Paired.mapP pt fun x y h => kC _ _ (fun z => by rw [z, e6] at h; cases h) (sT _ _ h)) (.cons (kC _ _ TC ?_) .nil)
      rw [eT, show ((0 : Int) + (i : Int)) = ((0 + i : Nat) : Int) from by omega]
      rfl
    rintro H6 ⟨s6, ts, e6, pt⟩
    rw [← lk, List.take_length] at pt
    have pE : Paired (fun (p : Addr) (kv : Key × V) => SqT K H6 p [kV kv.1, kv.2]) ts (kvsQ 0 us) := L2.Paired.mapP pt fun _ _ h => SqT.of h
    refine ⟨C, ts, _, rfl, SqL.of e6, pE, fun Pl hPl => ?_⟩
    rw [merge_nd _ [] (by rw [List.nil_append, kvsQ_keys]; exact inl_nd u.nd), List.nil_append]
    have hm6 := hm5.keep s6
    have s67 := Same.new (o := .dK (kvsQ 0 us)) hPl
    have s7 := s6.trans s67
    have eP7 := (upd_same : upd H6 Pl (.dK (kvsQ 0 us)) Pl = _)
    generalize upd H6 Pl (.dK (kvsQ 0 us)) = H7 at s7 s67 eP7 ⊢
    have eF7 := s7 _ _ eF5
    have eL7 := s7 _ _ eL5
    have s27 := s25.trans s7
    have hm7 := hm5.keep s7
    have nPF : Pl ≠ Fo := fun z => by rw [z, eF7] at eP7; cases eP7
    have eF6 := s6 _ _ eF5
    clear s25 s7 eF5 eL5 hm5 s6 e6 pt pE hC
    refine ⟨_, rfl, L, rfl, ⟨_, SqL.of eL7⟩, for_list (xs := us.map V.int) (fun j σ H8 => ∃ (o4 o5 : Option V) (ss : List Addr), σ = [some (.ref a'), some (.ref L), some (.ref Fo), some (.ref Pl), o4, o5, none, none, none] ∧ (∀ b o, b ≠ Fo → H7 b = some o → H8 b = some o) ∧ H8 Fo = some (.lst (ss.map V.ref)) ∧ Paired (StA H8) ss ((trm m' us).take j)) ?_ (fun j σ H8 _ h8 => ?_) ?_ ?_⟩
    · exact ⟨_, _, [], rfl, fun _ _ _ e => e, eF7, .nil⟩
    · obtain ⟨o4, o5, ss, _, k8, _⟩ := h8
      exact SqL.of (k8 _ _ nLF eL7)
    · rintro j v σ H8 hv ⟨o4, o5, ss, rfl, k8, eF8, ps⟩
      have jl : j < us.length := by
        have := (List.getElem?_eq_some_iff.mp hv).1
        rwa [List.length_map] at this
      obtain rfl : V.int us[j] = v := by
        rw [List.getElem?_map, List.getElem?_eq_getElem jl] at hv
        exact Option.some.inj hv
      have nt := trm_take (m := m') (us := us) jl
      have rgx := rg _ (List.getElem_mem jl)
      generalize us[j] = x at nt rgx ⊢
      have lss := Paired.length ps
      rw [List.length_take] at lss
      obtain ⟨s0, sx, d, g1, g2, g3, g4⟩ := hm6.at_ rgx
      have nPd : Pl ≠ d := (ne_of_none g4 hPl).symm
      have s0F : a' ≠ Fo := fun z => by
        rw [z, eF6] at g1
        have h := Option.some.inj g1
        injection h with h
        obtain ⟨s1, e1, p1⟩ := hm6
        rw [z, eF6] at e1
        have h1 := Option.some.inj e1
        injection h1 with h1
        cases s1 with
        | nil =>
          have := Paired.length p1
          have : 0 = m'.length := this
          omega
        | cons _ _ => cases h1
      have g1 := k8 _ _ s0F (s67 _ _ g1)
      have g3 := k8 _ _ (fun z => by rw [z, eF6] at g3; cases g3) (s67 _ _ g3)
      have g4 := k8 _ _ (fun z => by rw [z, eF6] at g4; cases g4) (s67 _ _ g4)
      have l5 : (mvs m' x).length ≤ 5 := by
        have := wf2.l5 _ (mvs_set_mem (m := m') (i := x.toNat) (by omega))
        rw [show ((x.toNat : Nat) : Int) = x from by omega] at this
        exact this
      have eP8 := k8 _ _ nPF eP7
      have dF : d ≠ Fo := fun z => by rw [z, eF8] at g4; cases g4
      have nda : a' ≠ d := fun z => by rw [z, g4] at g1; cases g1
      have nds : sx ≠ d := fun z => by rw [z, g4] at g3; cases g3
      refine ⟨d, _, g4, trivial, fun od => ⟨_, rfl, _, rfl, a', _, _, V.ref sx, rfl, rfl, SqL.of ((upd_ne nda).trans g1), g2, sx, _, 0, V.ref d, rfl, rfl, SqT.of ((upd_ne nds).trans g3), at_ofA (j := 0) rfl rfl, d, od, kvsP (mvs m' x), rfl, upd_same, fun W hW => ?_⟩⟩
      have eL9 : (upd H8 d (.frz od (.dK (kvsP (mvs m' x))))) d = some (.frz od (.dK (kvsP (mvs m' x)))) := upd_same
      have kL : ∀ b o, b ≠ d → H8 b = some o → (upd H8 d (.frz od (.dK (kvsP (mvs m' x))))) b = some o := fun b o n e => (upd_ne n).trans e
      have nW : d ≠ W := ne_of_none eL9 hW
      have eP9 := kL _ _ nPd eP8
      have eF9 := kL _ _ dF.symm eF8
      generalize upd H8 d (.frz od (.dK (kvsP (mvs m' x)))) = HL at eL9 kL hW eP9 eF9 ⊢
      refine lc_it (walk_items (d := d) (o := od) (kvs := kvsP (mvs m' x))) (fun i H10 => Same HL H10 ∧ ∃ ts : List Addr, H10 W = some (.lst (ts.map V.ref)) ∧ Paired (fun (t : Addr) (kv : Key × V) => H10 t = some (.tup [kV kv.1, kv.2])) ts (kvsP (trmT us ((mvs m' x).take i)))) ⟨Same.new hW, [], upd_same, .nil⟩ (fun i H10 _ h10 => h10.1 _ _ eL9) ?_ ?_
      · rintro i y H10 H11 hi ⟨s10, ts, e10, pt⟩ ⟨Ty, x1, y1, rfl, hTy, rfl, hx1, hy1⟩
        rw [kvsP_len] at hi
        have hx1 : ((kvsP (mvs m' x))[i]?.map fun kv => kV kv.1) = some x1 := hx1
        have hy1 : ((kvsP (mvs m' x))[i]?.map Prod.snd) = some y1 := hy1
        rw [kvsP_at hi] at hx1 hy1
        cases hx1
        cases hy1
        have sY := Same.new (o := .tup [kV (Sum.inr (mvs m' x)[i].1), V.int (mvs m' x)[i].2]) hTy
        have eY := (upd_same : upd H10 Ty (.tup [kV (Sum.inr (mvs m' x)[i].1), V.int (mvs m' x)[i].2]) Ty = _)
        generalize upd H10 Ty (.tup [kV (Sum.inr (mvs m' x)[i].1), V.int (mvs m' x)[i].2]) = H11 at sY eY ⊢
        have s11 := s10.trans sY
        have e11 := sY _ _ e10
        have pt11 : Paired (fun (t : Addr) (kv : Key × V) => H11 t = some (.tup [kV kv.1, kv.2])) ts (kvsP (trmT us ((mvs m' x).take i))) := L2.Paired.mapP pt fun _ _ h => sY _ _ h
        have lts := Paired.length pt11
        rw [kvsP_len] at lts
        have ltr : (trmT us ((mvs m' x).take i)).length ≤ 5 := by
          unfold trmT
          rw [List.length_map]
          exact Nat.le_trans (List.length_filter_le _ _) (by rw [List.length_take]; omega)
        refine ⟨Ty, _, rfl, SqT.of eY, rfl, _, _, rfl, _, _, rfl, rfl, rfl, ?_⟩
        refine ⟨_, rfl, _, rfl, Pl, _, rfl, DGet.k (k := Sum.inl (mvs m' x)[i].2) (s11 _ _ eP9), _, rfl, ?_⟩
        rw [kvsQ_val, trmT_take hi]
        by_cases c : (mvs m' x)[i].2 ∈ us
        · rw [if_pos c, if_pos c]
          refine iteT ⟨_, rfl, _, rfl, _, rfl, Pl, V.int ((us.idxOf (mvs m' x)[i].2 : Nat) : Int), rfl, .inl ⟨kvsQ 0 us, Sum.inl (mvs m' x)[i].2, .inl (s11 _ _ eP9), rfl, by rw [kvsQ_val, if_pos c, Nat.zero_add]⟩, (by show 2 ≤ sizeLine; decide), fun T hT => ?_⟩
          have sT := Same.new (o := .tup [kV (Sum.inr (mvs m' x)[i].1), V.int ((us.idxOf (mvs m' x)[i].2 : Nat) : Int)]) hT
          have eT := (upd_same : upd H11 T (.tup [kV (Sum.inr (mvs m' x)[i].1), V.int ((us.idxOf (mvs m' x)[i].2 : Nat) : Int)]) T = _)
          have TW : T ≠ W := fun z => by rw [z, e11] at hT; cases hT
          refine ⟨_, sT _ _ e11, lt1 (by rw [List.length_map]; omega), Same.upN (s11.trans sT) hW, ts ++ [T], by rw [upd_same, List.map_append]; rfl, ?_⟩
          have kW : ∀ b o, b ≠ W → (upd H11 T (.tup [kV (Sum.inr (mvs m' x)[i].1), V.int ((us.idxOf (mvs m' x)[i].2 : Nat) : Int)])) b = some o → (upd (upd H11 T (.tup [kV (Sum.inr (mvs m' x)[i].1), V.int ((us.idxOf (mvs m' x)[i].2 : Nat) : Int)])) W (.lst (ts.map V.ref ++ [V.ref T]))) b = some o := fun b o n e => (upd_ne n).trans e
          unfold kvsP
          rw [List.map_append]
          exact Paired.appendP (L2.Paired.mapP pt11 fun x y h => kW _ _ (fun z => by rw [z, e11] at h; cases h) (sT _ _ h)) (.cons (kW _ _ TW eT) .nil)
        · rw [if_neg c, if_neg c, List.append_nil]
          exact iteF ⟨s11, ts, e11, pt11⟩
      rintro H10 ⟨s10, ts, e10, pt⟩
      rw [kvsP_len, List.take_length] at pt
      refine ⟨s10 _ _ eL9, ?_⟩
      have back : Same H8 (upd H10 d (.dK (kvsP (mvs m' x)))) := fun b o e => by
        by_cases c : b = d
        · rw [c, g4] at e
          rw [c, upd_same]
          exact e
        · rw [upd_ne c]
          exact s10 _ _ (kL b o c e)
      have kU : ∀ b o, b ≠ d → H10 b = some o → (upd H10 d (.dK (kvsP (mvs m' x)))) b = some o := fun b o n e => (upd_ne n).trans e
      have eW11 := kU _ _ nW.symm e10
      have pt11 : Paired (fun (t : Addr) (kv : Key × V) => (upd H10 d (.dK (kvsP (mvs m' x)))) t = some (.tup [kV kv.1, kv.2])) ts (kvsP (trmT us (mvs m' x))) := L2.Paired.mapP pt fun y kv h => kU _ _ (fun z => by rw [z, s10 _ _ eL9] at h; cases h) h
      generalize upd H10 d (.dK (kvsP (mvs m' x))) = H11 at back eW11 pt11 ⊢
      clear pt e10 s10 kU kL eL9 eP9 eF9 hW
      refine ⟨W, ts, _, rfl, SqL.of eW11, L2.Paired.mapP pt11 fun _ _ h => SqT.of h, fun dn hdn => ?_⟩
      have ndt : ((trmT us (mvs m' x)).map (·.1)).Nodup := by
        unfold trmT
        rw [List.map_map]
        exact List.Nodup.sublist (List.Sublist.map _ List.filter_sublist) (mvs_nd wf2 x)
      rw [merge_P0 ndt]
      have s12 := back.trans (Same.new (o := .dK (kvsP (trmT us (mvs m' x)))) hdn)
      have edn := (upd_same : upd H11 dn (.dK (kvsP (trmT us (mvs m' x)))) dn = _)
      generalize upd H11 dn (.dK (kvsP (trmT us (mvs m' x)))) = H12 at s12 edn ⊢
      have eF12 := s12 _ _ eF8
      have g1' := s12 _ _ g1
      have g3' := s12 _ _ g3
      refine ⟨_, rfl, .inl ⟨rfl, _, SqL.of eF12⟩, _, rfl, _, rfl, _, rfl, a', _, _, V.ref sx, rfl, rfl, SqL.of g1', g2, sx, _, 1, V.bl (lst? m' x), rfl, rfl, SqT.of g3', at_ofA (j := 1) rfl rfl, (by show 2 ≤ sizeLine; decide), fun T hT => ?_⟩
      have sT := Same.new (o := .tup [V.ref dn, V.bl (lst? m' x)]) hT
      have eT := (upd_same : upd H12 T (.tup [V.ref dn, V.bl (lst? m' x)]) T = _)
      generalize upd H12 T (.tup [V.ref dn, V.bl (lst? m' x)]) = H13 at sT eT ⊢
      have eF13 := sT _ _ eF12
      have s13 := s12.trans sT
      have edn13 := sT _ _ edn
      have kF : ∀ b o, b ≠ Fo → H13 b = some o → (upd H13 Fo (.lst (ss.map V.ref ++ [V.ref T]))) b = some o := fun b o n e => (upd_ne n).trans e
      refine ⟨Fo, _, _, rfl, rfl, eF13, lt1 (by rw [List.length_map]; omega), ⟨_, _, ss ++ [T], rfl, fun b o n e => kF _ _ n (s13 _ _ (k8 b o n e)), by rw [upd_same, List.map_append]; rfl, ?_⟩⟩
      rw [nt]
      refine Paired.appendP (L2.Paired.mapP ps fun y q ⟨d', h1, h2⟩ => ⟨d', kF _ _ (fun z => by rw [z, eF8] at h1; cases h1) (s13 _ _ h1), kF _ _ (fun z => by rw [z, eF8] at h2; cases h2) (s13 _ _ h2)⟩) (.cons ⟨dn, kF _ _ (fun z => by rw [z, eF13] at eT; cases eT) eT, kF _ _ (fun z => by rw [z, eF13] at edn13; cases edn13) edn13⟩ .nil)
    · rintro σ H8 ⟨o4, o5, ss, rfl, k8, eF8, ps⟩
      rw [List.length_map, ← trm_len m' us, List.take_length] at ps
      refine ⟨_, rfl, Fo, _, rfl, .inl ⟨SqL.of eF8, fun r hr => ?_⟩⟩
      have sR := Same.new (o := .tup (ss.map V.ref)) hr
      refine q _ r (trm m' us) (fun b o e => sR _ _ (k8 _ _ (ne_of_none e hFo0) (s27 _ _ e))) ?_ ⟨ss, upd_same, L2.Paired.mapP ps fun _ _ e => e.keep sR⟩ good (by rw [trm_len]; omega)
      cases h : H r with
      | none => rfl
      | some o => rw [k8 _ _ (ne_of_none h hFo0) (s27 _ _ h)] at hr; cases hr
end
end Mk

set_option Elab.async false
set_option linter.all false
set_option maxRecDepth 100000
set_option maxHeartbeats 2000000
/-! the walks reach no more than they should; rows put otherwise -/
namespace Mk
open PySem PySem.Spec L2 PyProof.Rows

theorem addF_snd {P : Int → Prop} {t : PTab} {w : Str} {f : Fnd} {s : Str} (h : ∀ p ∈ f, P p.1) (ht : P (look t s)) : ∀ p ∈ addF t w f s, P p.1 := by
  unfold addF
  split
  · exact h
  · intro p hp
    rcases List.mem_append.mp hp with hp | hp
    · exact h p hp
    · rw [List.mem_singleton.mp hp]
      exact ht
theorem foldF_snd {P : Int → Prop} {t : PTab} {w : Str} : ∀ {ks : List Str} {f : Fnd}, (∀ p ∈ f, P p.1) → (∀ s ∈ ks, P (look t s)) → ∀ p ∈ ks.foldl (addF t w) f, P p.1
  | [], f, h, _ => h
  | s :: ks, f, h, hk => foldF_snd (ks := ks) (addF_snd h (hk s List.mem_cons_self)) fun x hx => hk x (List.mem_cons_of_mem _ hx)
theorem bfs_snd {m : Mch} (w : WF m) {P : Int → Prop} (hP : ∀ i, P i → ∀ q ∈ mvs m i, P q.2) : ∀ (n k : Nat) (f : Fnd), (∀ p ∈ f, P p.1) → ∀ p ∈ bfs m n k f, P p.1
  | 0, _, f, h => h
  | n + 1, k, f, h => by
    unfold bfs
    cases e : f[k]? with
    | none => exact h
    | some p =>
      refine bfs_snd w hP n (k + 1) _ (foldF_snd h fun s hs => ?_)
      exact hP _ (h p (List.mem_of_getElem? e)) _ (look_in (mvs_nd w p.1) (keysM_mem.mp hs))
theorem first_snd {m : Mch} (w : WF m) {i j : Int} (h : j ∈ (firstW m i).map (·.1)) : Rch m i j := by
  obtain ⟨p, hp, rfl⟩ := List.mem_map.mp h
  exact bfs_snd w (P := Rch m i) (fun a ha q hq => .step ha hq) _ _ _ (fun p hp => by rw [List.mem_singleton.mp hp]; exact .refl _) p hp
theorem addN_snd {k : Nat} {t : PTab} {nr : Near} {s : Str} {j : Nat} {x : Int} (h : x ∈ (addN t k nr s).getD j []) : x ∈ nr.getD j [] ∨ (x = (k : Int) ∧ (look t s).toNat = j) := by
  unfold addN at h
  by_cases e : (look t s).toNat = j
  · subst e
    by_cases l : (look t s).toNat < nr.length
    · rw [List.getD_eq_getElem?_getD, List.getElem?_set_self l] at h
      rcases List.mem_append.mp h with h | h
      · exact .inl h
      · exact .inr ⟨List.mem_singleton.mp h, rfl⟩
    · rw [List.set_eq_of_length_le (by omega)] at h
      exact .inl h
  · rw [List.getD_eq_getElem?_getD, List.getElem?_set_ne e, ← List.getD_eq_getElem?_getD] at h
    exact .inl h
theorem foldN_snd {k : Nat} {t : PTab} {j : Nat} {x : Int} : ∀ {ks : List Str} {nr : Near}, x ∈ (ks.foldl (addN t k) nr).getD j [] → x ∈ nr.getD j [] ∨ (x = (k : Int) ∧ ∃ s ∈ ks, (look t s).toNat = j)
  | [], nr, h => .inl h
  | s :: ks, nr, h => by
    rcases foldN_snd (ks := ks) h with h | ⟨h1, y, h2, h3⟩
    · rcases addN_snd h with h | ⟨h1, h2⟩
      · exact .inl h
      · exact .inr ⟨h1, s, List.mem_cons_self, h2⟩
    · exact .inr ⟨h1, y, List.mem_cons_of_mem _ h2, h3⟩
theorem near_snd {m : Mch} (w : WF m) : ∀ (k j : Nat) (x : Int), x ∈ (nearK m k).getD j [] → ∃ i : Nat, x = (i : Int) ∧ ∃ p ∈ mvs m (i : Int), p.2.toNat = j
  | 0, j, x, h => by
    have h : x ∈ (List.replicate m.length ([] : List Int)).getD j [] := h
    rw [List.getD_eq_getElem?_getD, List.getElem?_replicate] at h
    split at h <;> cases h
  | k + 1, j, x, h => by
    rcases foldN_snd h with h | ⟨h1, s, h2, h3⟩
    · exact near_snd w k j x h
    · exact ⟨k, h1, _, look_in (mvs_nd w _) h2, h3⟩
theorem foldE_snd {P : Int → Prop} : ∀ {l f : List Int}, (∀ x ∈ f, P x) → (∀ x ∈ l, P x) → ∀ x ∈ l.foldl addE f, P x
  | [], f, h, _ => h
  | s :: l, f, h, hl => foldE_snd (l := l) (f := addE f s) (by
      unfold addE
      split
      · exact h
      · intro x hx
        rcases List.mem_append.mp hx with hx | hx
        · exact h x hx
        · rw [List.mem_singleton.mp hx]
          exact hl s List.mem_cons_self) fun x hx => hl x (List.mem_cons_of_mem _ hx)
theorem bfsE_snd {nr : Near} {P : Int → Prop} (hP : ∀ i, P i → ∀ x ∈ nr.getD i.toNat [], P x) : ∀ (n k : Nat) (f : List Int), (∀ x ∈ f, P x) → ∀ x ∈ bfsE nr n k f, P x
  | 0, _, f, h => h
  | n + 1, k, f, h => by
    unfold bfsE
    cases e : f[k]? with
    | none => exact h
    | some p => exact bfsE_snd hP n (k + 1) _ (foldE_snd h fun x hx => hP p (h p (List.mem_of_getElem? e)) x hx)
theorem end_snd {m : Mch} (w : WF m) {i : Int} (h : i ∈ endM m) : ∃ j, Rch m i j ∧ lst? m j = true := by
  refine (bfsE_snd (nr := nearK m m.length) (P := fun i => 0 ≤ i ∧ ∃ j, Rch m i j ∧ lst? m j = true) ?_ m.length 0 (lasts m m.length) ?_ i h).2
  · rintro i ⟨h0, j, r, l⟩ x hx
    obtain ⟨n, rfl, p, hp, e⟩ := near_snd w _ _ _ hx
    obtain ⟨q, hq, _, hpq⟩ := mvs_mem hp
    have := (w.to q hq p hpq).1
    have e2 : p.2 = i := by omega
    exact ⟨by omega, j, Rch.head (s := p.1) (by rw [← e2]; exact hp) r, l⟩
  · intro x hx
    have := lasts_mem.mp hx
    exact ⟨this.1, x, .refl _, this.2.2⟩
theorem useful_iff {m : Mch} (w : WF m) (ne : 1 ≤ m.length) {i : Int} : i ∈ useful m ↔ Usf m i := by
  have h0 : (0 : Int) ≤ 0 ∧ (0 : Int) < m.length := ⟨by omega, by omega⟩
  unfold useful
  rw [List.mem_filter, decide_eq_true_eq]
  constructor
  · rintro ⟨h1, h2⟩
    exact ⟨first_snd w h1, end_snd w h2⟩
  · rintro ⟨h1, j, h2, h3⟩
    exact ⟨(first_ok w h0).2 _ h1, (end_ok w).2 i j (rch_rg w h1 h0) h2 h3⟩
theorem useful_nd {m : Mch} (w : WF m) (ne : 1 ≤ m.length) : (useful m).Nodup := List.Nodup.sublist List.filter_sublist (first_ok w ⟨by omega, by omega⟩).1.nd
theorem goodB_us {m : Mch} {us : List Int} (w : WF m) (ne : 1 ≤ m.length) (u : UsOk m us) : goodB m = decide (us.length = m.length) := by
  have p : (useful m).Perm us := (List.perm_ext_iff_of_nodup (useful_nd w ne) u.nd).mpr fun i => (useful_iff w ne).trans (u.mem i).symm
  unfold goodB
  rw [p.length_eq]
theorem goodB_good {m : Mch} (w : WF m) (ne : 1 ≤ m.length) (h : goodB m = true) : GoodM m := by
  have e : (useful m).length = m.length := of_decide_eq_true h
  refine ⟨w, ne, fun i hi => (useful_iff w ne).mp (sub_all (k := ups m.length) (useful_nd w ne) (fun x hx => ?_) (by rw [ups_len]; exact e) i (ups_mem.mpr hi))⟩
  exact ups_mem.mpr (rch_rg w ((useful_iff w ne).mp hx).1 ⟨by omega, by omega⟩)
theorem GoodM.b {m : Mch} (g : GoodM m) : goodB m = true := decide_eq_true (useful_len g)

/-! ### rows put otherwise -/
structure Rq (m m' : Mch) : Prop where
  len : m.length = m'.length
  row : ∀ i : Int, (mvs m i).Perm (mvs m' i)
  la : ∀ i : Int, lst? m i = lst? m' i
theorem Rq.refl (m : Mch) : Rq m m := ⟨rfl, fun _ => .refl _, fun _ => rfl⟩
theorem Rq.symm {m m' : Mch} (h : Rq m m') : Rq m' m := ⟨h.len.symm, fun i => (h.row i).symm, fun i => (h.la i).symm⟩
theorem Rq.trans {m m' m2 : Mch} (h : Rq m m') (k : Rq m' m2) : Rq m m2 := ⟨h.len.trans k.len, fun i => (h.row i).trans (k.row i), fun i => (h.la i).trans (k.la i)⟩
theorem Rq.rch {m m' : Mch} (h : Rq m m') {i j : Int} (r : Rch m i j) : Rch m' i j := by
  induction r with
  | refl => exact .refl _
  | step _ hs ih => exact .step ih ((h.row _).mem_iff.mp hs)
theorem Rq.usf {m m' : Mch} (h : Rq m m') {i : Int} (u : Usf m i) : Usf m' i := by
  obtain ⟨a, j, b, c⟩ := u
  exact ⟨h.rch a, j, h.rch b, by rw [← h.la]; exact c⟩
theorem Rq.us {m m' : Mch} (h : Rq m m') {us : List Int} (u : UsOk m us) : UsOk m' us := ⟨u.up, fun i => (u.mem i).trans ⟨h.usf, h.symm.usf⟩⟩
theorem mem_at {m : Mch} {q : PTab × Bool} (h : q ∈ m) : ∃ i : Nat, i < m.length ∧ mvs m (i : Int) = q.1 ∧ lst? m (i : Int) = q.2 := by
  obtain ⟨i, hi, rfl⟩ := List.getElem_of_mem h
  exact ⟨i, hi, mvs_at (List.getElem?_eq_getElem hi)⟩
theorem Rq.wf {m m' : Mch} (h : Rq m m') (w : WF m) : WF m' := by
  have key : ∀ q ∈ m', ∃ t b, (t, b) ∈ m ∧ q.1.Perm t := fun q hq => by
    obtain ⟨i, hi, e, _⟩ := mem_at hq
    exact ⟨_, _, mvs_set_mem (m := m) (i := i) (by rw [h.len]; exact hi), by rw [← e]; exact (h.row _).symm⟩
  refine ⟨fun q hq => ?_, fun q hq p hp => ?_, fun q hq p hp => ?_⟩
  · obtain ⟨t, b, h1, h2⟩ := key q hq
    exact (h2.map _).nodup_iff.mpr (w.nd _ h1)
  · obtain ⟨t, b, h1, h2⟩ := key q hq
    exact w.sg _ h1 p (h2.mem_iff.mp hp)
  · obtain ⟨t, b, h1, h2⟩ := key q hq
    rw [← h.len]
    exact w.to _ h1 p (h2.mem_iff.mp hp)
theorem srtP_pm {t t' : PTab} (nd : (t.map (·.1)).Nodup) (p : t.Perm t') : srtP t = srtP t' := by
  have nd' : (t'.map (·.1)).Nodup := (p.map _).nodup_iff.mp nd
  have ke := keysM_ext nd nd' fun s => (p.map _).mem_iff
  unfold srtP
  rw [← ke]
  unfold put
  refine List.map_congr_left fun s hs => ?_
  have hs := look_in nd (keysM_mem.mp hs)
  have h2 := look_mem nd' _ (p.mem_iff.mp hs)
  rw [show look t' s = look t s from h2]
theorem srtP_perm {t : PTab} (nd : (t.map (·.1)).Nodup) : (srtP t).Perm t := put_perm nd (keysM_perm t)
theorem srtM_at (m : Mch) (i : Int) : mvs (srtM m) i = srtP (mvs m i) ∧ lst? (srtM m) i = lst? m i := by
  unfold mvs lst? srtM
  rw [List.getD_eq_getElem?_getD, List.getD_eq_getElem?_getD, List.getElem?_map]
  cases m[i.toNat]? with
  | none => exact ⟨by simp [srtP, keysM, put], rfl⟩
  | some q => exact ⟨rfl, rfl⟩
theorem Rq.srt {m : Mch} (w : WF m) : Rq (srtM m) m := ⟨srtM_len m, fun i => by rw [(srtM_at m i).1]; exact srtP_perm (mvs_nd w i), fun i => (srtM_at m i).2⟩
theorem mch_ext {m m' : Mch} (l : m.length = m'.length) (h : ∀ i : Nat, i < m.length → mvs m (i : Int) = mvs m' (i : Int) ∧ lst? m (i : Int) = lst? m' (i : Int)) : m = m' := by
  refine List.ext_getElem l fun i h1 h2 => ?_
  have a := mvs_at (List.getElem?_eq_getElem h1)
  have b := mvs_at (List.getElem?_eq_getElem h2)
  obtain ⟨c, d⟩ := h i h1
  rw [a.1, b.1] at c
  rw [a.2, b.2] at d
  exact Prod.ext c d
theorem Rq.eq {m m' : Mch} (w : WF m) (h : Rq m m') : srtM m = srtM m' := by
  refine mch_ext (by rw [srtM_len, srtM_len]; exact h.len) fun i _ => ?_
  rw [(srtM_at m _).1, (srtM_at m' _).1, (srtM_at m _).2, (srtM_at m' _).2]
  exact ⟨srtP_pm (mvs_nd w _) (h.row _), h.la _⟩
theorem srtM_two {m : Mch} (w : WF m) : srtM (srtM m) = srtM m := Rq.eq ((Rq.srt w).symm.wf w) (Rq.srt w)
theorem set_at {m : Mch} {i : Nat} {q : PTab × Bool} (hi : i < m.length) (j : Int) : (mvs (m.set i q) j, lst? (m.set i q) j) = if j.toNat = i then q else (mvs m j, lst? m j) := by
  unfold mvs lst?
  rw [List.getD_eq_getElem?_getD, List.getD_eq_getElem?_getD]
  by_cases e : j.toNat = i
  · rw [if_pos e, e, List.getElem?_set_self hi]
    rfl
  · rw [if_neg e, List.getElem?_set_ne (fun h => e h.symm)]
theorem Rq.set {m m' : Mch} (h : Rq m m') {i : Nat} (hi : i < m.length) {t t' : PTab} {b : Bool} (p : t.Perm t') : Rq (m.set i (t, b)) (m'.set i (t', b)) := by
  have hi' : i < m'.length := by rw [← h.len]; exact hi
  refine ⟨by rw [List.length_set, List.length_set]; exact h.len, fun j => ?_, fun j => ?_⟩
  · have a := congrArg Prod.fst (set_at (q := (t, b)) hi j)
    have c := congrArg Prod.fst (set_at (q := (t', b)) hi' j)
    have a : mvs (m.set i (t, b)) j = _ := a
    have c : mvs (m'.set i (t', b)) j = _ := c
    rw [a, c]
    split
    · exact p
    · exact h.row j
  · have a := congrArg Prod.snd (set_at (q := (t, b)) hi j)
    have c := congrArg Prod.snd (set_at (q := (t', b)) hi' j)
    have a : lst? (m.set i (t, b)) j = _ := a
    have c : lst? (m'.set i (t', b)) j = _ := c
    rw [a, c]
    split
    · rfl
    · exact h.la j
theorem chg_perm {t t' : PTab} (p : t.Perm t') (s : Str) (to : Option Int) : (chg t s to).Perm (chg t' s to) := List.Perm.append (p.filter _) (.refl _)
/-- a key put into a table: in its place, or behind -/
def putI (t : PTab) (s : Str) (k : Int) : PTab := if s ∈ t.map (·.1) then t.map fun p => if p.1 = s then (s, k) else p else t ++ [(s, k)]
theorem nd_of {t : PTab} (nd : (t.map (·.1)).Nodup) : t.Nodup := List.Pairwise.imp (fun h e => h (congrArg Prod.fst e)) (List.pairwise_map.mp nd)
theorem putI_perm {t : PTab} (nd : (t.map (·.1)).Nodup) (s : Str) (k : Int) : (putI t s k).Perm (chg t s (some k)) := by
  have nd2 := nd_of (chg_nd (s := s) (to := some k) nd)
  unfold putI
  split
  · rename_i hs
    have nk : ((t.map fun p => if p.1 = s then (s, k) else p).map (·.1)).Nodup := by
      rw [List.map_map]
      have : (t.map ((·.1) ∘ fun p => if p.1 = s then (s, k) else p)) = t.map (·.1) := List.map_congr_left fun p _ => by
        show (if p.1 = s then (s, k) else p).1 = p.1
        split
        · rename_i h; exact h.symm
        · rfl
      rw [this]
      exact nd
    refine (List.perm_ext_iff_of_nodup (nd_of nk) nd2).mpr fun q => ?_
    unfold chg
    rw [List.mem_append, List.mem_map, List.mem_filter]
    constructor
    · rintro ⟨p, hp, rfl⟩
      by_cases c : p.1 = s
      · rw [if_pos c]
        exact .inr List.mem_cons_self
      · rw [if_neg c]
        exact .inl ⟨hp, by simpa using c⟩
    · rintro (⟨h1, h2⟩ | h)
      · have h2 : ¬ q.1 = s := by simpa using h2
        exact ⟨q, h1, if_neg h2⟩
      · rw [List.mem_singleton.mp h]
        obtain ⟨p, hp, e⟩ := List.mem_map.mp hs
        exact ⟨p, hp, if_pos e⟩
  · rename_i hs
    unfold chg
    have : (t.filter fun p => !decide (p.1 = s)) = t := List.filter_eq_self.mpr fun p hp => by
      have : ¬ p.1 = s := fun e => hs (List.mem_map.mpr ⟨p, hp, e⟩)
      simpa using this
    rw [this]
/-! ### words and counts of rows put otherwise -/
theorem rq_stp {m m' : Mch} (w : WF m) (h : Rq m m') (i : Int) (s : Str) : stp m i s = stp m' i s := by
  have w' := h.wf w
  cases e : stp m i s with
  | none =>
    cases e' : Mk.stp m' i s with
    | none => rfl
    | some j =>
      have := (stp_mem w).mpr ((h.row i).mem_iff.mpr ((stp_mem w').mp e'))
      rw [e] at this
      cases this
  | some j => exact ((stp_mem w').mpr ((h.row i).mem_iff.mp ((stp_mem w).mp e))).symm
theorem rq_led {m m' : Mch} (w : WF m) (h : Rq m m') : ∀ (a : List Str) (i : Int), led m i a = led m' i a
  | [], i => rfl
  | s :: a, i => by
    show (match Mk.stp m i s with | none => none | some j => Mk.led m j a) = (match Mk.stp m' i s with | none => none | some j => Mk.led m' j a)
    rw [rq_stp w h]
    cases Mk.stp m' i s with
    | none => rfl
    | some j => exact rq_led w h a j
theorem rq_acc {m m' : Mch} (w : WF m) (h : Rq m m') (i : Int) (a : List Str) : acc m i a = acc m' i a := by
  unfold Mk.acc
  rw [rq_led w h]
  cases Mk.led m' i a with
  | none => rfl
  | some j => exact h.la j
theorem sum_pm {a b : List Int} (p : a.Perm b) : a.sum = b.sum := by
  induction p with
  | nil => rfl
  | cons x _ ih => rw [List.sum_cons, List.sum_cons, ih]
  | swap x y l => rw [List.sum_cons, List.sum_cons, List.sum_cons, List.sum_cons]; omega
  | trans _ _ h1 h2 => exact h1.trans h2
theorem rq_cnt {m m' : Mch} (h : Rq m m') : ∀ (n : Nat) (i : Int), cnt m n i = cnt m' n i
  | 0, i => by
    show (if lst? m i = true then (1 : Int) else 0) = if lst? m' i = true then 1 else 0
    rw [h.la]
  | n + 1, i => by
    show ((mvs m i).map fun p => Mk.cnt m n p.2).sum = ((mvs m' i).map fun p => Mk.cnt m' n p.2).sum
    rw [show (fun p : Str × Int => Mk.cnt m n p.2) = fun p => Mk.cnt m' n p.2 from funext fun p => rq_cnt h n p.2]
    exact sum_pm ((h.row i).map _)
end Mk

set_option Elab.async false
set_option linter.all false
set_option maxRecDepth 100000
set_option maxHeartbeats 4000000
/-! states as they are told; drawn states -/
namespace Mk
open PySem PySem.Spec L2 PyProof.Rows

abbrev sDst : Stmt := top 61
abbrev sShw : Stmt := top 62
abbrev nDst : List Str := ["_law_purse", "_law_most", "_law_signs"]
abbrev nShw : List Str := ["_law_states", "_law_moves", "_law_last"]
theorem up_srt {u t : PTab} (p : u.Perm t) (nd : (t.map (·.1)).Nodup) (h : (u.map (·.1)).Pairwise fun a b => byCs a b = true) : u = srtP t := by
  have ku : u.map (·.1) = keysM t := List.Perm.eq_of_pairwise (fun a b _ _ k1 k2 => byCs_anti a b k1 k2) h (List.pairwise_mergeSort byCs_trans byCs_total _) ((p.map _).trans (keysM_perm t).symm)
  have ndu : (u.map (·.1)).Nodup := (p.map _).nodup_iff.mpr nd
  have e : u = put u (u.map (·.1)) := by
    unfold put
    rw [List.map_map]
    conv => lhs; rw [← List.map_id u]
    exact List.map_congr_left fun q hq => by
      show q = (q.1, look u q.1)
      rw [look_mem ndu q hq]
  rw [e, ku]
  unfold srtP
  exact put_same p nd fun z hz => keysM_mem.mp hz
def rDictP (K : PySem.W.Frag) : List V → Hp → VK → Prop := fun xs H Q => ∃ (a : Addr) (ps : List Addr) (kvs : List (Key × V)), xs = [.ref a] ∧ SqL K H a (ps.map V.ref) ∧ Paired (fun p kv => SqT K H p [kV kv.1, kv.2]) ps kvs ∧ ∀ d, H d = none → Q (.ref d) (upd H d (.dK (mergeK [] kvs)))
theorem call_dictPK {X : Cx} (K : PySem.W.Frag) (hc : X.calm = true := by rfl) (hK : X.K = K := by rfl) : CallR X (.type "dict") (rDictP K) := by
  subst hK
  exact call_dictP hc
def spShw : Sp := fun vs H Q _ => ∃ (a : Addr) (m : Mch), vs = [.ref a] ∧ LsAt H a m ∧ WF m ∧ m.length ≤ 40 ∧ ∀ H' r, Same H H' → H r = none → MAt H' r (srtM m) → Q (.ref r) H'
section
variable {P : Program} {w : World} {K : PySem.W.Frag} {mg : Str → Option Value} {base : Heap}
theorem scShw : FnScope nShw ["_law_states"] (defScope sShw) := ⟨rfl, rfl, rfl, by decide +kernel, rfl, by decide +kernel, by decide +kernel⟩
theorem ok_shw {f : Addr} {fd : FuncData} (F : Fun K "_law_as_shown" "_law_as_shown" sShw f fd) (B : Bn mg) (O : On mg) (Dd : Dn mg) : FnOk P w K mg base CX0 1 f fd ["_law_states"] spShw := by
  refine F.ok scShw (fun vs H Q E h => ?_) (fun cdv A outer s H vs Q E hr h => ?_)
  · obtain ⟨a, m, rfl, _⟩ := h
    rfl
  · have hu := hu_of hr
    have h3 : A.units + 3 + 60 < cLine := by
      have h2 : A.units + 3 + 16 * 0 + 200 < cLine := hr.un
      omega
    obtain ⟨a, m, rfl, hm, wf, lm, q⟩ := h
    refine ⟨_, pss_one (ps_ret (pe_callTy call_tuple_of (by rfl) O.tuple (by decide +kernel) (pa_cons (pe_lc (own := [("_law_moves", 1), ("_law_last", 2)]) (g := gTup K 2 (gCons (gName 1) (gCons (gName 2) gNil))) (tt := tYes) rfl scShw.nd (pi_list (pv 0)) (blkOk_by (N := nShw) (sc := defScope sShw) (by decide +kernel))
          (fun _ _ _ _ _ => pg_tup rfl (pgs_cons (pg_name (i := 1) scShw.nd rfl (Or.inl rfl)) (pgs_cons (pg_name (i := 2) scShw.nd rfl (Or.inl rfl)) pgs_nil))) (fun _ _ _ _ _ => pts_nil)
          (fun _ _ _ _ _ => pe_tup (pa_cons (pe_callTy (call_dictPK K) (by rfl) Dd.dict (by decide +kernel) (pa_cons (pe_callB (call_sortK rfl (by show A.units + 3 + 60 < cLine; exact h3)) (by rfl) O.sorted (by decide +kernel) (pa_cons (atK0 K (pe_bm0 PySem.F.plainAttrs_dict PySem.F.slot_dict_items PySem.F.type_dict_items mt_itms (pv 1))) pa_nil)) pa_nil)) (pa_cons (pv 2) pa_nil)))) pa_nil))), ?_⟩
    have lt1 : ∀ {n : Nat}, n ≤ 3999 → n < sizeLine := fun h1 => by rw [sizeLine_eq]; omega
    obtain ⟨ss, et, pt⟩ := id hm
    have ls : ss.length = m.length := Paired.length pt
    have lsm : (srtM m).length = m.length := List.length_map _
    refine ⟨_, rfl, a, rfl, ⟨_, SqL.of et⟩, fun D hD => lc_it (walk_list (K := K) (a := a) (xs := ss.map V.ref)) (fun i H1 => Same H H1 ∧ ∃ ts : List Addr, H1 D = some (.lst (ts.map V.ref)) ∧ Paired (StA H1) ts ((srtM m).take i)) ⟨Same.new hD, [], upd_same, .nil⟩ (fun i H1 _ h1 => SqL.of (h1.1 _ _ et)) ?_ ?_⟩
    · rintro i x H0 H1 hi ⟨s1, ts, e1, pp⟩ ⟨rfl, hx⟩
      rw [List.length_map] at hi
      obtain ⟨⟨mv, la⟩, hq, d, g1, g2⟩ := L2.paired_get pt (List.getElem?_eq_getElem hi)
      obtain rfl : V.ref ss[i] = x := by
        rw [List.getElem?_map, List.getElem?_eq_getElem hi] at hx
        exact Option.some.inj hx
      have hqm := List.mem_of_getElem? hq
      have nd : (mv.map (·.1)).Nodup := wf.nd _ hqm
      have l6 : mv.length ≤ 5 := wf.l5 _ hqm
      have e2 := s1 _ _ g2
      refine ⟨ss[i], _, rfl, SqT.of (s1 _ _ g1), rfl, _, _, rfl, _, _, rfl, rfl, rfl, ?_⟩
      refine ⟨_, rfl, .inr (.inr (.inl ⟨rfl, .inl ⟨_, e2⟩⟩)), d, rfl, rfl, .inl ⟨_, e2⟩, fun p hp => ?_⟩
      have sp := Same.new (o := DX.itemsO p d) hp
      have ep := (upd_same : upd H1 p (DX.itemsO p d) p = _)
      have e2p := sp _ _ e2
      generalize upd H1 p (DX.itemsO p d) = H2 at sp ep e2p ⊢
      refine ⟨p, d, mv, rfl, ep, e2p, by omega, fun H3 l us u s3 fl el pu up pus => ?_⟩
      obtain rfl := up_srt pu nd up
      refine ⟨l, us, _, rfl, SqL.of el, tups_sq pus, fun dn hdn => ?_⟩
      have ndt : ((srtP mv).map (·.1)).Nodup := (pu.map _).nodup_iff.mpr nd
      rw [merge_P0 ndt]
      have s4 := (sp.trans s3).trans (Same.new (o := .dK (kvsP (srtP mv))) hdn)
      have edn := (upd_same : upd H3 dn (.dK (kvsP (srtP mv))) dn = _)
      generalize upd H3 dn (.dK (kvsP (srtP mv))) = H4 at s4 edn ⊢
      refine ⟨_, rfl, (by show 2 ≤ sizeLine; decide), fun s' hs' => ?_⟩
      have k3 := s4.trans (Same.new (o := .tup [V.ref dn, V.bl la]) hs')
      have e3 := k3 _ _ e1
      have es := (upd_same : upd H4 s' (.tup [V.ref dn, V.bl la]) s' = _)
      have ed := Same.new (o := .tup [V.ref dn, V.bl la]) hs' _ _ edn
      have lts := Paired.length pp
      rw [List.length_take] at lts
      generalize upd H4 s' (.tup [V.ref dn, V.bl la]) = H5 at k3 e3 es ed ⊢
      refine ⟨_, e3, lt1 (by rw [List.length_map]; omega), Same.upN (s1.trans k3) hD, ts ++ [s'], by rw [upd_same, List.map_append]; rfl, ?_⟩
      have nx : (srtM m).take (i + 1) = (srtM m).take i ++ [(srtP mv, la)] := by
        have : (srtM m)[i]? = some (srtP mv, la) := by
          unfold srtM
          rw [List.getElem?_map, hq]
          rfl
        rw [List.take_add_one, this]
        rfl
      rw [nx]
      have kU : ∀ b o, b ≠ D → H5 b = some o → (upd H5 D (.lst (ts.map V.ref ++ [V.ref s']))) b = some o := fun b o n e => (upd_ne n).trans e
      have nsD : s' ≠ D := fun c => by rw [c, e3] at es; cases es
      have nCD : dn ≠ D := fun c => by rw [c, e3] at ed; cases ed
      refine Paired.appendP (L2.Paired.mapP pp fun b q ⟨d', a1, a2⟩ => ⟨d', kU _ _ (fun c => by rw [c, e1] at a1; cases a1) (k3 _ _ a1), kU _ _ (fun c => by rw [c, e1] at a2; cases a2) (k3 _ _ a2)⟩) (.cons ⟨dn, kU _ _ nsD es, kU _ _ nCD ed⟩ .nil)
    rintro H1 ⟨s1, ts, e1, pp⟩
    rw [List.length_map, ls, ← lsm, List.take_length] at pp
    refine ⟨D, _, rfl, .inl ⟨SqL.of e1, fun p hp => ?_⟩⟩
    have k2 := Same.new (o := .tup (ts.map V.ref)) hp
    exact q _ p (s1.trans k2) (s1.free hp) ⟨ts, upd_same, L2.Paired.mapP pp fun _ _ e => e.keep k2⟩
end
end Mk

set_option Elab.async false
set_option linter.all false
set_option maxRecDepth 100000
set_option maxHeartbeats 4000000
/-! drawn states; the state behind a word, told by the law -/
namespace Mk
open PySem PySem.Spec L2 PyProof.Rows

abbrev sLedL : Stmt := top 63
abbrev sHwL : Stmt := top 64
abbrev nLedL : List Str := ["_law_states", "_law_word", "_law_state", "_law_sign"]
abbrev nHwL : List Str := ["_law_states", "_law_word", "_law_state"]
def ledZ : Option Int → Int
  | none => -1
  | some j => j
def spDst : Sp := fun vs H Q _ => ∃ (p : Addr) (n : Nat), vs = [.ref p, .int 5] ∧ Pot H p n ∧ n + 200 < PB ∧ ∀ H' r m', But p H H' → Pot H' p (n + 101) → H r = none → r ≠ p → MAt H' r m' → GoodM m' → m'.length ≤ 5 → Q (.ref r) H'
def spLedL (K : PySem.W.Frag) : Sp := fun vs H Q _ => ∃ (a : Addr) (m : Mch) (z : Str), vs = [.ref a, .str z] ∧ SqS K H a m ∧ WF m ∧ 1 ≤ m.length ∧ Q (.int (ledZ (led m 0 (sgs z)))) H
def spHwL (K : PySem.W.Frag) : Sp := fun vs H Q _ => ∃ (a : Addr) (m : Mch) (z : Str), vs = [.ref a, .str z] ∧ SqS K H a m ∧ WF m ∧ 1 ≤ m.length ∧ Q (.bl (acc m 0 (sgs z))) H
section
variable {P : Program} {w : World} {K : PySem.W.Frag} {mg : Str → Option Value} {base : Heap}
theorem scDst : FnScope nDst ["_law_purse", "_law_most"] (defScope sDst) := ⟨rfl, rfl, rfl, by decide +kernel, rfl, by decide +kernel, by decide +kernel⟩
theorem sgt9 : ∀ z ∈ (["a", "ab", "ac", "be", "abc", "bde", "ab", "abcde", "cd"] : List Str), SgT z := by
  intro z hz
  have : ∀ z ∈ (["a", "ab", "ac", "be", "abc", "bde", "ab", "abcde", "cd"] : List Str), (sgs z).Nodup ∧ (∀ x ∈ sgs z, sgB x = true) ∧ z.length ≤ 5 := by decide +kernel
  obtain ⟨a, b, c⟩ := this z hz
  exact ⟨a, b, c⟩
theorem ok_dst {f : Addr} {fd : FuncData} (F : Fun K "_law_drawn_states" "_law_drawn_states" sDst f fd) (J : Cd P w K mg base 2 "_law_pick" ["_law_purse", "_law_items"] (spPick2 K)) (J1 : Cd P w K mg base 2 "_law_raw_states" ["_law_purse", "_law_most", "_law_signs"] spRaw) (J2 : Cd P w K mg base 3 "_law_trimmed_to" ["_law_raw"] (spTrm K)) : FnOk P w K mg base CX0 4 f fd ["_law_purse", "_law_most"] spDst := by
  obtain ⟨a1, d1, G1, m1, k1, b1⟩ := J.ex
  obtain ⟨a2, d2, G2, m2, k2, b2⟩ := J1.ex
  obtain ⟨a3, d3, G3, m3, k3, b3⟩ := J2.ex
  refine F.ok scDst (fun vs H Q E h => ?_) (fun cdv A outer s H vs Q E hr h => ?_)
  · obtain ⟨p, n, rfl, _⟩ := h
    rfl
  · have r2 : Room 2 _ := hr.mono (by decide)
    obtain ⟨p, n, rfl, hp, hn, q⟩ := h
    refine ⟨_, pss_cons (ps_set (i := 2) scDst.nd rfl (.inl rfl) (pe_call G1 r2 (by rfl) m1 k1 b1 .nil pass0 (pa_cons (pv 0) (pa_cons (pe_lst (pa_cons pe_str (pa_cons pe_str (pa_cons pe_str (pa_cons pe_str (pa_cons pe_str (pa_cons pe_str (pa_cons pe_str (pa_cons pe_str (pa_cons pe_str pa_nil)))))))))) pa_nil))))
      (pss_one (ps_ret (pe_call G3 hr (by rfl) m3 k3 b3 .nil pass0 (pa_cons (pe_call G2 r2 (by rfl) m2 k2 b2 .nil pass0 (pa_cons (pv 0) (pa_cons (pv 1) (pa_cons (pv 2) pa_nil)))) pa_nil)))), ?_⟩
    refine ⟨_, rfl, (by show 9 ≤ sizeLine; decide), fun W hW => ?_⟩
    have bW : But p H (upd H W (.lst ((["a", "ab", "ac", "be", "abc", "bde", "ab", "abcde", "cd"] : List Str).map V.str))) := But.of_same (Same.new hW)
    have nW := hp.ne hW
    have pW : Pot (upd H W (.lst ((["a", "ab", "ac", "be", "abc", "bde", "ab", "abcde", "cd"] : List Str).map V.str))) p n := hp.up nW
    have eW : upd H W (.lst ((["a", "ab", "ac", "be", "abc", "bde", "ab", "abcde", "cd"] : List Str).map V.str)) W = some _ := upd_same
    refine ⟨p, n, pW, by omega, .inl ⟨W, _, rfl, nW.symm, eW, (by decide), (by decide), fun H1 v nx hv => ?_⟩⟩
    obtain ⟨z, hz, rfl⟩ := List.mem_map.mp hv
    obtain ⟨b1', _, p1⟩ := nx
    refine ⟨_, rfl, _, rfl, _, rfl, p, n + 1, 5, z, rfl, p1, by omega, by omega, by omega, sgt9 z hz, fun H2 L m bb p2 fL nL hL wf l1 l5 => ?_⟩
    refine ⟨L, m, rfl, hL, wf, l1, by omega, fun H3 r m' s3 fr hr g lm => ?_⟩
    have b13 := (bW.trans b1').trans (bb.trans (But.of_same s3))
    refine q H3 r m' b13 ?_ ?_ ?_ hr g (by omega)
    · obtain ⟨u, mm, c, e, rest⟩ := p2
      exact ⟨u, mm, c, s3 _ _ e, by refine ⟨rest.1, rest.2.1, rest.2.2.1, rest.2.2.2.1, rest.2.2.2.2.1, ?_⟩; have := rest.2.2.2.2.2; omega⟩
    · cases h : H r with
      | none => rfl
      | some o =>
        have nr : r ≠ p := fun e => by
          obtain ⟨_, _, _, e2, _⟩ := p2
          rw [e, e2] at fr
          cases fr
        have := (bW.trans b1').trans bb r o nr h
        rw [this] at fr
        cases fr
    · intro e
      obtain ⟨_, _, _, e2, _⟩ := p2
      rw [e, e2] at fr
      cases fr
theorem scLedL : FnScope nLedL ["_law_states", "_law_word"] (defScope sLedL) := ⟨rfl, rfl, rfl, by decide +kernel, rfl, by decide +kernel, by decide +kernel⟩
theorem ok_ledL {f : Addr} {fd : FuncData} (F : Fun K "_law_led" "_law_led" sLedL f fd) : FnOk P w K mg base CX0 1 f fd ["_law_states", "_law_word"] (spLedL K) := by
  refine F.ok scLedL (fun vs H Q E h => ?_) (fun cdv A outer s H vs Q E hr h => ?_)
  · obtain ⟨a, m, z, rfl, _⟩ := h
    rfl
  · have hu := hu_of hr
    obtain ⟨a, m, z, rfl, hm, wf, l1, q⟩ := h
    refine ⟨_, pss_cons (ps_set (i := 2) scLedL.nd rfl (.inl rfl) pe_int)
      (pss_cons (ps_for PassesOwn.never rfl (pi_str (pv 1)) (pg_name (i := 3) scLedL.nd rfl (.inl rfl))
        (pss_one (ps_set (i := 2) scLedL.nd rfl (.inl rfl) (pe_ifExp (pt_cmpR op_ge (pv 2) pe_int (nomark _)) (pe_dget2 hu (pe_ix ix_tup (pe_ix ix_sq (pv 0) (pv 2) (fun _ _ => rfl)) pe_int (fun _ _ => rfl)) (pv 3) (pe_un un_neg pe_int) ⟨rfl, rfl, rfl, rfl⟩) (pe_un un_neg pe_int)))))
      (pss_one (ps_ret (pv 2)))), ?_⟩
    have h0 : (0 : Int) ≤ 0 ∧ (0 : Int) < m.length := ⟨by omega, by omega⟩
    refine ⟨_, rfl, z, rfl, for_it (walk_str (z := z)) (fun k σ H1 => ∃ o3, σ = [some (.ref a), some (.str z), some (.int (ledZ (led m 0 ((sgs z).take k)))), o3] ∧ H1 = H) ⟨_, rfl, rfl⟩ (fun _ _ _ _ _ => trivial) ?_ ?_⟩
    · rintro k v σ H1 H2 hk ⟨o3, rfl, rfl⟩ ⟨rfl, ch, hc, rfl⟩
      have hs := sgs_at hc
      have nx : (sgs z).take (k + 1) = (sgs z).take k ++ [⟨#[ch]⟩] := by
        rw [List.take_add_one, hs]
        rfl
      generalize (⟨#[ch]⟩ : Str) = sg at nx ⊢
      refine ⟨_, rfl, _, _, rfl, rfl, _, rfl, ?_⟩
      have es := led_snoc m ((sgs z).take k) sg 0
      rw [← nx] at es
      cases e : led m 0 ((sgs z).take k) with
      | none =>
        rw [e] at es
        have es : led m 0 ((sgs z).take (k + 1)) = none := es
        refine iteF ⟨_, rfl, some (.str sg), ?_, rfl⟩
        rw [es]
        rfl
      | some j =>
        rw [e] at es
        have es : led m 0 ((sgs z).take (k + 1)) = stp m j sg := es
        have hj := led_rg wf _ _ _ h0 e
        obtain ⟨ss, s', d, g1, e2, g3, g4⟩ := hm.at_ hj
        have dj : decide (ledZ (some j) ≥ 0) = true := decide_eq_true hj.1
        rw [dj]
        refine iteT ⟨_, rfl, _, rfl, a, _, _, _, rfl, rfl, g1, e2, s', _, 0, _, rfl, rfl, SqT.of g3, at_ofA (j := 0) rfl rfl, d, rfl, .inl ⟨_, .inl g4⟩, _, rfl, _, rfl, _, .inl ⟨_, Sum.inr sg, .inl g4, rfl, rfl⟩, some (.str sg), ?_, rfl⟩
        rw [val_stp, es]
        cases stp m j sg with
        | none => rfl
        | some j2 => rfl
    rintro σ H1 ⟨o3, rfl, rfl⟩
    rw [show z.cps.size = (sgs z).length from (sgs_length z).symm, List.take_length]
    exact ⟨_, rfl, q⟩
theorem scHwL : FnScope nHwL ["_law_states", "_law_word"] (defScope sHwL) := ⟨rfl, rfl, rfl, by decide +kernel, rfl, by decide +kernel, by decide +kernel⟩
theorem ok_hwL {f : Addr} {fd : FuncData} (F : Fun K "_law_has_word" "_law_has_word" sHwL f fd) (J : Cd P w K mg base 1 "_law_led" ["_law_states", "_law_word"] (spLedL K)) : FnOk P w K mg base CX0 2 f fd ["_law_states", "_law_word"] (spHwL K) := by
  obtain ⟨a1, d1, G1, m1, k1, b1⟩ := J.ex
  refine F.ok scHwL (fun vs H Q E h => ?_) (fun cdv A outer s H vs Q E hr h => ?_)
  · obtain ⟨a, m, z, rfl, _⟩ := h
    rfl
  · obtain ⟨a, m, z, rfl, hm, wf, l1, q⟩ := h
    refine ⟨_, pss_cons (ps_set (i := 2) scHwL.nd rfl (.inl rfl) (pe_call G1 hr (by rfl) m1 k1 b1 .nil pass0 (pa_cons (pv 0) (pa_cons (pv 1) pa_nil))))
      (pss_one (ps_ret (pe_and (pe_cmpR op_ge (pv 2) pe_int (nomark _)) (pe_one (pe_ix ix_tup (pe_ix ix_sq (pv 0) (pv 2) (fun _ _ => rfl)) pe_int (fun _ _ => rfl)))))), ?_⟩
    have h0 : (0 : Int) ≤ 0 ∧ (0 : Int) < m.length := ⟨by omega, by omega⟩
    refine ⟨_, rfl, _, rfl, a, m, z, rfl, hm, wf, l1, ?_⟩
    refine ⟨_, rfl, _, _, rfl, rfl, _, rfl, ?_⟩
    cases e : led m 0 (sgs z) with
    | none =>
      have ea : acc m 0 (sgs z) = false := by unfold acc; rw [e]
      rw [ea] at q
      exact iteF q
    | some j =>
      have ea : acc m 0 (sgs z) = lst? m j := by unfold acc; rw [e]
      rw [ea] at q
      have hj := led_rg wf _ _ _ h0 e
      obtain ⟨ss, s', d, g1, e2, g3, g4⟩ := hm.at_ hj
      have dj : decide (ledZ (some j) ≥ 0) = true := decide_eq_true hj.1
      rw [dj]
      exact iteT ⟨_, rfl, _, rfl, a, _, _, _, rfl, rfl, g1, e2, s', _, 1, _, rfl, rfl, SqT.of g3, at_ofA (j := 1) rfl rfl, q⟩
end
end Mk

set_option Elab.async false
set_option linter.all false
set_option maxRecDepth 100000
set_option maxHeartbeats 4000000
/-! the states behind a change -/
namespace Mk
open PySem PySem.Spec L2 PyProof.Rows

abbrev sBch : Stmt := top 69
abbrev nBch : List Str := ["_law_states", "_law_change", "_law_state", "_law_sign", "_law_to", "_law_moves", "_law_last", "_law_one", "_law_there"]
/-- a change: the boolean of a state, or a move of it -/
inductive Chg where
  | la (i : Nat) (b : Bool)
  | mv (i : Nat) (s : Str) (to : Option Int)
def Chg.at_ : Chg → Nat
  | .la i _ => i
  | .mv i _ _ => i
def Chg.obj : Chg → HO
  | .la i b => .tup [.int i, .str "", .bl b]
  | .mv i s to => .tup [.int i, .str s, oV to]
/-- a change that can be asked of m -/
def Chg.ok (m : Mch) : Chg → Prop
  | .la i _ => i < m.length
  | .mv i s to => i < m.length ∧ sgB s = true ∧ ∀ k, to = some k → 0 ≤ k ∧ k < m.length
def Chg.row (m : Mch) : Chg → PTab × Bool
  | .la i b => (mvs m i, b)
  | .mv i s none => ((mvs m i).filter fun p => !decide (p.1 = s), lst? m i)
  | .mv i s (some k) => (putI (mvs m i) s k, lst? m i)
/-- behind the change, as the law has it -/
def beh (m : Mch) (g : Chg) : Mch := m.set g.at_ (g.row m)
/-- behind the change, as the form has it -/
def fbeh (m : Mch) : Chg → Mch
  | .la i b => setLa m i b
  | .mv i s to => setMv m i s to
theorem Chg.lt {m : Mch} {g : Chg} (h : g.ok m) : g.at_ < m.length := by
  cases g with
  | la i b => exact h
  | mv i s to => exact h.1
theorem Chg.ok_len {m m' : Mch} {g : Chg} (h : g.ok m) (e : m.length = m'.length) : g.ok m' := by
  cases g with
  | la i b =>
    have h : i < m.length := h
    show i < m'.length
    omega
  | mv i s to => exact ⟨e ▸ h.1, h.2.1, fun k hk => e ▸ h.2.2 k hk⟩
theorem fbeh_ok {m : Mch} {g : Chg} (ok : MOk m) (h : g.ok m) : MOk (fbeh m g) := by
  cases g with
  | la i b => exact ok.setLa h
  | mv i s to => exact ok.setMv h.1 h.2.1 h.2.2
theorem row_perm {m : Mch} (w : WF m) {i : Nat} {s : Str} {to : Option Int} : (chg (mvs m i) s to, lst? m i).1.Perm (Chg.row m (.mv i s to)).1 ∧ lst? m i = (Chg.row m (.mv i s to)).2 := by
  cases to with
  | none =>
    refine ⟨?_, rfl⟩
    show (chg (mvs m i) s none).Perm ((mvs m i).filter fun p => !decide (p.1 = s))
    unfold chg
    rw [List.append_nil]
  | some k => exact ⟨(putI_perm (mvs_nd w _) s k).symm, rfl⟩
/-- what the form has is what the law has -/
theorem beh_rq {m m' : Mch} (w : WF m) (h : Rq m' m) {g : Chg} (ok : g.ok m) : Rq (fbeh m' g) (beh m g) := by
  have hl := Chg.lt ok
  cases g with
  | la i b =>
    have : Rq (m'.set i (mvs m' i, b)) (m.set i (mvs m i, b)) := h.set (by rw [h.len]; exact hl) (h.row _)
    exact this
  | mv i s to =>
    obtain ⟨p1, p2⟩ := row_perm (m := m) w (i := i) (s := s) (to := to)
    have hr : Chg.row m (.mv i s to) = ((Chg.row m (.mv i s to)).1, lst? m i) := Prod.ext rfl p2.symm
    have : Rq (m'.set i (chg (mvs m' i) s to, lst? m' i)) (m.set i ((Chg.row m (.mv i s to)).1, lst? m i)) := by
      rw [h.la]
      exact h.set (by rw [h.len]; exact hl) ((chg_perm (h.row _) s to).trans p1)
    show Rq (m'.set i (chg (mvs m' i) s to, lst? m' i)) (m.set i (Chg.row m (.mv i s to)))
    rw [hr]
    exact this
theorem beh_ok {m : Mch} {g : Chg} (ok : MOk m) (h : g.ok m) : MOk (beh m g) := by
  have r := beh_rq ok.wf (Rq.refl m) h
  have k := fbeh_ok ok h
  have w := r.wf k.wf
  exact ⟨w, by rw [← r.len]; exact k.l1, by rw [← r.len]; exact k.l40, w.l5⟩
end Mk

set_option Elab.async false
set_option linter.all false
set_option maxRecDepth 100000
set_option maxHeartbeats 4000000
/-! _law_behind_change -/
namespace Mk
open PySem PySem.Spec L2 PyProof.Rows

theorem seq_join {t u : TS} {D : _} {σ : L2.St} {H : Hp} (S : L2.St → Hp → Prop) (hk : ∀ σ' H', S σ' H' → u D σ' H') (h : (∀ σ' H', S σ' H' → u D σ' H') → t { D with nx := u D } σ H) : tSeq t u D σ H := h hk
theorem paired_snd {α β γ : Type} {F : α → γ → Prop} {g : β → γ} : ∀ {as : List α} {bs : List β}, Paired F as (bs.map g) → Paired (fun a b => F a (g b)) as bs
  | _, [], .nil => .nil
  | _, _ :: _, .cons h t => .cons h (paired_snd t)
theorem putI_K (t : PTab) (z : Str) (k : Int) : L2.putK (kvsP t) (Sum.inr z) (V.int k) = kvsP (putI t z k) := by
  unfold putI
  split
  · rename_i h
    unfold L2.putK
    obtain ⟨p, hp, e⟩ := List.mem_map.mp h
    have ha : ((kvsP t).any fun kv => decide (kv.1 = (Sum.inr z : Key))) = true := List.any_eq_true.mpr ⟨(Sum.inr p.1, V.int p.2), List.mem_map.mpr ⟨p, hp, rfl⟩, decide_eq_true (by rw [e])⟩
    rw [if_pos ha]
    unfold kvsP
    rw [List.map_map, List.map_map]
    refine List.map_congr_left fun y _ => ?_
    show (if (Sum.inr y.1 : Key) = Sum.inr z then ((Sum.inr y.1 : Key), V.int k) else (Sum.inr y.1, V.int y.2)) = (Sum.inr (if y.1 = z then (z, k) else y).1, V.int (if y.1 = z then (z, k) else y).2)
    by_cases c : y.1 = z
    · rw [if_pos (by rw [c]), if_pos c, c]
    · rw [if_neg (fun e => c (Sum.inr.inj e)), if_neg c]
  · rename_i h
    exact putP_new h
def spBch : Sp := fun vs H Q _ => ∃ (a c : Addr) (m : Mch) (g : Chg), vs = [.ref a, .ref c] ∧ LsAt H a m ∧ MOk m ∧ H c = some g.obj ∧ g.ok m ∧ ∀ H' L, Same H H' → H L = none → LsAt H' L (beh m g) → Q (.ref L) H'
section
variable {P : Program} {w : World} {K : PySem.W.Frag} {mg : Str → Option Value} {base : Heap}
theorem scBch : FnScope nBch ["_law_states", "_law_change"] (defScope sBch) := ⟨rfl, rfl, rfl, by decide +kernel, rfl, by decide +kernel, by decide +kernel⟩
theorem ok_bch {f : Addr} {fd : FuncData} (F : Fun K "_law_behind_change" "_law_behind_change" sBch f fd) (B : Bn mg) (O : On mg) (Dd : Dn mg) : FnOk P w K mg base CX0 1 f fd ["_law_states", "_law_change"] spBch := by
  refine F.ok scBch (fun vs H Q E h => ?_) (fun cdv A outer s H vs Q E hr h => ?_)
  · obtain ⟨a, c, m, g, rfl, _⟩ := h
    rfl
  · have hu := hu_of hr
    obtain ⟨a, c, m, g, rfl, hm, ok, hc, hg, q⟩ := h
    refine ⟨_, pss_cons (ps_asg (pv 1) (pg_tup rfl (pgs_cons (pg_name (i := 2) scBch.nd rfl (.inl rfl)) (pgs_cons (pg_name (i := 3) scBch.nd rfl (.inr rfl)) (pgs_cons (pg_name (i := 4) scBch.nd rfl (.inl rfl)) pgs_nil)))))
      (pss_cons (ps_par (i := 5) (j := 6) rfl scBch.nd rfl rfl (by decide) rfl rfl (pa_cons (pe_callTy (call_dictP rfl) (by rfl) Dd.dict (by decide +kernel) (pa_cons (pe_callTy (call_listItms rfl) (by rfl) B.list (by decide +kernel) (pa_cons (pe_bm0 PySem.F.plainAttrs_dict PySem.F.slot_dict_items PySem.F.type_dict_items mt_itms (pe_ix ix_tup (pe_ix ix_list (pv 0) (pv 2) (fun _ _ => rfl)) pe_int (fun _ _ => rfl))) pa_nil)) pa_nil)) (pa_cons (pe_ix ix_tup (pe_ix ix_list (pv 0) (pv 2) (fun _ _ => rfl)) pe_int (fun _ _ => rfl)) pa_nil)) (by rfl))
      (pss_cons (ps_if (pt_cmpR op_eq (pv 3) pe_str (nomark _)) (pss_one (ps_set (i := 6) scBch.nd rfl (.inl rfl) (pv 4)))
        (pss_one (ps_if (pt_cmp (pc_isN (pv 4))) (pss_one (ps_set (i := 5) scBch.nd rfl (.inl rfl) (pe_callTy (call_dictP rfl) (by rfl) Dd.dict (by decide +kernel) (pa_cons (pe_lock (pe_lc (own := [("_law_one", 7), ("_law_there", 8)]) (g := gTup K 2 (gCons (gName 7) (gCons (gName 8) gNil))) rfl scBch.nd (pi_items (pv 5)) (blkOk_by (N := nBch) (sc := defScope sBch) (by decide +kernel))
            (fun _ _ _ _ _ => pg_tup rfl (pgs_cons (pg_name (i := 7) scBch.nd rfl (Or.inl rfl)) (pgs_cons (pg_name (i := 8) scBch.nd rfl (Or.inl rfl)) pgs_nil))) (fun _ _ _ _ _ => pts_one (pt_cmpR op_ne (pv 7) (pv 3) (nomark _))) (fun _ _ _ _ _ => pe_tup (pa_cons (pv 7) (pa_cons (pv 8) pa_nil))))) pa_nil))))
          (pss_one (ps_dput hu (pv 5) (pv 3) (pv 4) rfl)))))
      (pss_one (ps_ret (pe_op op_cat (pe_op op_cat (pe_slice sl_list (pv 0) po_none (po_some (pv 2))) (pe_lst (pa_cons (pe_tup (pa_cons (pv 5) (pa_cons (pv 6) pa_nil))) pa_nil))) (pe_slice sl_list (pv 0) (po_some (pe_op op_add (pv 2) pe_int)) po_none)))))), ?_⟩
    have lt1 : ∀ {n : Nat}, n ≤ 3999 → n < sizeLine := fun h1 => by rw [sizeLine_eq]; omega
    have nar : ∀ {n : Nat}, n ≤ 3999 → n ≤ sizeLine := fun h1 => by rw [sizeLine_eq]; omega
    obtain ⟨i, hi⟩ : ∃ i, g.at_ = i := ⟨_, rfl⟩
    have il : i < m.length := hi ▸ Chg.lt hg
    obtain ⟨sg, to, eg⟩ : ∃ (sg : Str) (to : V), g.obj = .tup [.int i, .str sg, to] := by
      cases g with
      | la j b => exact ⟨_, _, by rw [← hi]; rfl⟩
      | mv j s to => exact ⟨_, _, by rw [← hi]; rfl⟩
    rw [eg] at hc
    obtain ⟨ss, ea, pt⟩ := id hm
    have ls : ss.length = m.length := Paired.length pt
    have l40 := ok.l40
    obtain ⟨q0, hq, d, g1, g2⟩ := L2.paired_get pt (List.getElem?_eq_getElem (show i < ss.length by omega))
    obtain ⟨em, el⟩ := mvs_at hq
    have l5 : q0.1.length ≤ 5 := ok.l5 _ (List.mem_of_getElem? hq)
    have nd : (q0.1.map (·.1)).Nodup := ok.wf.nd _ (List.mem_of_getElem? hq)
    have eat : atI (ss.map V.ref) (i : Int) = some (V.ref ss[i]) := at_ofA (j := i) rfl (by rw [List.getElem?_map, List.getElem?_eq_getElem (show i < ss.length by omega)]; rfl)
    refine ⟨_, rfl, c, _, rfl, SqT.of hc, rfl, _, _, rfl, _, _, rfl, _, _, rfl, rfl, ?_⟩
    refine ⟨_, rfl, _, rfl, a, _, _, _, rfl, rfl, SqL.of ea, eat, ss[i], _, 0, _, rfl, rfl, SqT.of g1, at_ofA (j := 0) rfl rfl, ?_⟩
    refine ⟨.inr (.inr (.inl ⟨rfl, .inl ⟨_, g2⟩⟩)), d, rfl, rfl, .inl ⟨_, g2⟩, fun p hp => ?_⟩
    have sp := Same.new (o := DX.itemsO p d) hp
    have ep := (upd_same : upd H p (DX.itemsO p d) p = _)
    have g2p := sp _ _ g2
    generalize upd H p (DX.itemsO p d) = H1 at sp ep g2p ⊢
    refine ⟨p, d, rfl, ep, .inl ⟨_, g2p, fun H2 l us s2 fl el2 pus => ?_⟩⟩
    have pus2 : Paired (fun (t : Addr) (kv : Key × V) => SqT K H2 t [kV kv.1, kv.2]) us (kvsP q0.1) := L2.Paired.mapP (paired_snd pus) fun _ _ h => SqT.of h
    refine ⟨l, us, _, rfl, SqL.of el2, pus2, fun D hD => ?_⟩
    rw [merge_P0 nd]
    have s3 := (sp.trans s2).trans (Same.new (o := .dK (kvsP q0.1)) hD)
    have fD := (sp.trans s2).free hD
    have eD := (upd_same : upd H2 D (.dK (kvsP q0.1)) D = _)
    generalize upd H2 D (.dK (kvsP q0.1)) = H3 at s3 eD ⊢
    refine ⟨_, rfl, _, rfl, a, _, _, _, rfl, rfl, SqL.of (s3 _ _ ea), eat, ss[i], _, 1, _, rfl, rfl, SqT.of (s3 _ _ g1), at_ofA (j := 1) rfl rfl, ?_⟩
    refine ⟨_, _, rfl, ?_⟩
    dsimp only
    refine seq_join (fun σ' H' => ∃ (D' : Addr) (o7 o8 : Option V), σ' = [some (.ref a), some (.ref c), some (.int i), some (.str sg), some to, some (.ref D'), some (.bl (g.row m).2), o7, o8] ∧ Same H H' ∧ H' D' = some (.dK (kvsP (g.row m).1))) ?_ (fun hC => ?_)
    · rintro σ' H5 ⟨D', o7, o8, rfl, s5, eD5⟩
      refine ⟨_, rfl, _, rfl, _, rfl, a, _, rfl, SqL.of (s5 _ _ ea), fun A hA => ?_⟩
      rw [cut_hi]
      have s6 := s5.trans (Same.new (o := .lst ((ss.map V.ref).take i)) hA)
      have eA := (upd_same : upd H5 A (.lst ((ss.map V.ref).take i)) A = _)
      have eD6 := Same.new (o := .lst ((ss.map V.ref).take i)) hA _ _ eD5
      generalize upd H5 A (.lst ((ss.map V.ref).take i)) = H6 at s6 eA eD6 ⊢
      refine ⟨_, rfl, _, rfl, (by show 2 ≤ sizeLine; decide), fun st hst => ?_⟩
      have s7 := s6.trans (Same.new (o := .tup [V.ref D', V.bl (g.row m).2]) hst)
      have eA7 := Same.new (o := .tup [V.ref D', V.bl (g.row m).2]) hst _ _ eA
      have eD7 := Same.new (o := .tup [V.ref D', V.bl (g.row m).2]) hst _ _ eD6
      have est := (upd_same : upd H6 st (.tup [V.ref D', V.bl (g.row m).2]) st = _)
      generalize upd H6 st (.tup [V.ref D', V.bl (g.row m).2]) = H7 at s7 eA7 eD7 est ⊢
      refine ⟨(by show 1 ≤ sizeLine; decide), fun Bq hB => ?_⟩
      have sB := Same.new (o := .lst [V.ref st]) hB
      have eB := (upd_same : upd H7 Bq (.lst [V.ref st]) Bq = _)
      generalize upd H7 Bq (.lst [V.ref st]) = H8 at sB eB ⊢
      refine ⟨A, Bq, _, _, rfl, rfl, sB _ _ eA7, eB, nar (by rw [List.length_take, List.length_map]; show _ + 1 ≤ 3999; omega), fun U hU => ?_⟩
      have sU := sB.trans (Same.new (o := .lst ((ss.map V.ref).take i ++ [V.ref st])) hU)
      have eU := (upd_same : upd H8 U (.lst ((ss.map V.ref).take i ++ [V.ref st])) U = _)
      generalize upd H8 U (.lst ((ss.map V.ref).take i ++ [V.ref st])) = H9 at sU eU ⊢
      refine ⟨_, rfl, _, rfl, _, _, rfl, rfl, _, rfl, a, _, rfl, SqL.of (sU _ _ (s7 _ _ ea)), fun Cq hCq => ?_⟩
      rw [show ((i : Nat) : Int) + 1 = ((i + 1 : Nat) : Int) from by omega, cut_lo]
      have sC := sU.trans (Same.new (o := .lst ((ss.map V.ref).drop (i + 1))) hCq)
      have eU2 := Same.new (o := .lst ((ss.map V.ref).drop (i + 1))) hCq _ _ eU
      have eC := (upd_same : upd H9 Cq (.lst ((ss.map V.ref).drop (i + 1))) Cq = _)
      generalize upd H9 Cq (.lst ((ss.map V.ref).drop (i + 1))) = H10 at sC eU2 eC ⊢
      refine ⟨U, Cq, _, _, rfl, rfl, eU2, eC, nar (by rw [List.length_append, List.length_take, List.length_drop, List.length_map]; show _ + 1 + _ ≤ 3999; omega), fun R hR => ?_⟩
      have e6 : (ss.map V.ref).take i ++ [V.ref st] ++ (ss.map V.ref).drop (i + 1) = (ss.set i st).map V.ref := by
        rw [List.map_set, set_cut (by rw [List.length_map]; omega)]
      rw [e6]
      have sR := Same.new (o := .lst ((ss.set i st).map V.ref)) hR
      have s10 := s7.trans sC
      refine q _ R (s10.trans sR) (s10.free hR) ⟨_, upd_same, ?_⟩
      unfold beh
      rw [hi]
      exact paired_set (L2.Paired.mapP pt fun _ _ e => e.keep (s10.trans sR)) ⟨D', sR _ _ (sC _ _ est), sR _ _ (sC _ _ eD7)⟩
    · cases g with
      | la j b =>
        obtain rfl : j = i := hi
        have eg : (HO.tup [V.int (j : Nat), V.str "", V.bl b]) = .tup [V.int (j : Nat), V.str sg, to] := eg
        injection eg with eg
        have e1 : V.str "" = V.str sg := (List.cons.inj (List.cons.inj eg).2).1
        have e2 : V.bl b = to := (List.cons.inj (List.cons.inj (List.cons.inj eg).2).2).1
        injection e1 with e1
        subst e1 e2
        refine ⟨_, rfl, rfl, _, rfl, iteT ⟨_, rfl, hC _ _ ⟨D, _, _, rfl, s3, ?_⟩⟩⟩
        show _ = some (HO.dK (kvsP (mvs m (j : Int))))
        rw [em]
        exact eD
      | mv j z k0 =>
        obtain rfl : j = i := hi
        have eg : (HO.tup [V.int (j : Nat), V.str z, oV k0]) = .tup [V.int (j : Nat), V.str sg, to] := eg
        injection eg with eg
        have e1 : V.str z = V.str sg := (List.cons.inj (List.cons.inj eg).2).1
        have e2 : oV k0 = to := (List.cons.inj (List.cons.inj (List.cons.inj eg).2).2).1
        injection e1 with e1
        subst e1 e2
        have zn : ¬ V.str z = V.str "" := fun e => by
          injection e with e
          have := one_of hg.2.1
          rw [e] at this
          exact absurd this (by decide)
        refine ⟨_, rfl, rfl, _, rfl, ?_⟩
        rw [decide_eq_false zn]
        refine iteF ?_
        cases k0 with
        | some k =>
          refine ⟨_, rfl, _, rfl, iteF ⟨_, rfl, _, rfl, _, rfl, D, _, rfl, DPut.k (k := Sum.inr z) eD (lt1 (by rw [kvsP_len]; omega)), ?_⟩⟩
          refine hC _ _ ⟨D, none, none, ?_, Same.upN s3 fD, ?_⟩
          · show _ = [_, _, _, _, _, _, some (V.bl (lst? m (j : Int))), _, _]
            rw [el]
            rfl
          · show _ = some (HO.dK (kvsP (putI (mvs m (j : Int)) z k)))
            rw [upd_same, em, ← putI_K]
            rfl
        | none =>
          refine ⟨_, rfl, _, rfl, iteT ?_⟩
          refine ⟨D, _, eD, trivial, fun od => ⟨_, rfl, D, od, kvsP q0.1, rfl, upd_same, fun W hW => ?_⟩⟩
          have eL9 : upd H3 D (.frz od (.dK (kvsP q0.1))) D = some (.frz od (.dK (kvsP q0.1))) := upd_same
          have kL : ∀ b o, b ≠ D → H3 b = some o → (upd H3 D (.frz od (.dK (kvsP q0.1)))) b = some o := fun b o n e => (upd_ne n).trans e
          have nW : D ≠ W := ne_of_none eL9 hW
          generalize upd H3 D (.frz od (.dK (kvsP q0.1))) = HL at eL9 kL hW ⊢
          refine lc_it (walk_items (d := D) (o := od) (kvs := kvsP q0.1)) (fun i H10 => Same HL H10 ∧ ∃ ts : List Addr, H10 W = some (.lst (ts.map V.ref)) ∧ Paired (fun (t : Addr) (kv : Key × V) => H10 t = some (.tup [kV kv.1, kv.2])) ts (kvsP ((q0.1.take i).filter fun p => !decide (p.1 = z)))) ⟨Same.new hW, [], upd_same, .nil⟩ (fun i H10 _ h10 => h10.1 _ _ eL9) ?_ ?_
          · rintro i y H10 H11 hi ⟨s10, ts, e10, pt⟩ ⟨Ty, x1, y1, rfl, hTy, rfl, hx1, hy1⟩
            rw [kvsP_len] at hi
            have hx1 : ((kvsP q0.1)[i]?.map fun kv => kV kv.1) = some x1 := hx1
            have hy1 : ((kvsP q0.1)[i]?.map Prod.snd) = some y1 := hy1
            rw [kvsP_at hi] at hx1 hy1
            cases hx1
            cases hy1
            have sY := Same.new (o := .tup [kV (Sum.inr q0.1[i].1), V.int q0.1[i].2]) hTy
            have eY := (upd_same : upd H10 Ty (.tup [kV (Sum.inr q0.1[i].1), V.int q0.1[i].2]) Ty = _)
            generalize upd H10 Ty (.tup [kV (Sum.inr q0.1[i].1), V.int q0.1[i].2]) = H11 at sY eY ⊢
            have s11 := s10.trans sY
            have e11 := sY _ _ e10
            have pt11 : Paired (fun (t : Addr) (kv : Key × V) => H11 t = some (.tup [kV kv.1, kv.2])) ts (kvsP ((q0.1.take i).filter fun p => !decide (p.1 = z))) := L2.Paired.mapP pt fun _ _ h => sY _ _ h
            have lts := Paired.length pt11
            rw [kvsP_len] at lts
            have ltr : ((q0.1.take i).filter fun p => !decide (p.1 = z)).length ≤ 5 := Nat.le_trans (List.length_filter_le _ _) (by rw [List.length_take]; omega)
            have nx := chg_snoc (t := q0.1) (s := z) hi
            refine ⟨Ty, _, rfl, SqT.of eY, rfl, _, _, rfl, _, _, rfl, rfl, rfl, ?_⟩
            refine ⟨_, rfl, _, rfl, rfl, _, rfl, ?_⟩
            refine ite2 (fun h => ?_) (fun h => ?_)
            · have c : ¬ q0.1[i].1 = z := by
                have h : (!decide (V.str q0.1[i].1 = V.str z)) = true := h
                simp at h
                exact h
              refine ⟨_, rfl, _, rfl, (by show 2 ≤ sizeLine; decide), fun T hT => ?_⟩
              have sT := Same.new (o := .tup [V.str q0.1[i].1, V.int q0.1[i].2]) hT
              have eT := (upd_same : upd H11 T (.tup [V.str q0.1[i].1, V.int q0.1[i].2]) T = _)
              have TW : T ≠ W := fun z => by rw [z, e11] at hT; cases hT
              refine ⟨_, sT _ _ e11, lt1 (by rw [List.length_map]; omega), Same.upN (s11.trans sT) hW, ts ++ [T], by rw [upd_same, List.map_append]; rfl, ?_⟩
              have kW : ∀ b o, b ≠ W → (upd H11 T (.tup [V.str q0.1[i].1, V.int q0.1[i].2])) b = some o → (upd (upd H11 T (.tup [V.str q0.1[i].1, V.int q0.1[i].2])) W (.lst (ts.map V.ref ++ [V.ref T]))) b = some o := fun b o n e => (upd_ne n).trans e
              rw [nx, if_neg c]
              unfold kvsP
              rw [List.map_append]
              exact Paired.appendP (L2.Paired.mapP pt11 fun x y h => kW _ _ (fun z => by rw [z, e11] at h; cases h) (sT _ _ h)) (.cons (kW _ _ TW eT) .nil)
            · have c : q0.1[i].1 = z := by
                have h : ¬ (!decide (V.str q0.1[i].1 = V.str z)) = true := h
                simp at h
                exact h
              rw [nx, if_pos c, List.append_nil]
              exact ⟨s11, ts, e11, pt11⟩
          rintro H10 ⟨s10, ts, e10, pt⟩
          rw [kvsP_len, List.take_length] at pt
          refine ⟨s10 _ _ eL9, ?_⟩
          have back : Same H3 (upd H10 D (.dK (kvsP q0.1))) := fun b o e => by
            by_cases c : b = D
            · rw [c, eD] at e
              rw [c, upd_same]
              exact e
            · rw [upd_ne c]
              exact s10 _ _ (kL b o c e)
          have kU : ∀ b o, b ≠ D → H10 b = some o → (upd H10 D (.dK (kvsP q0.1))) b = some o := fun b o n e => (upd_ne n).trans e
          have eW11 := kU _ _ nW.symm e10
          have pt11 : Paired (fun (t : Addr) (kv : Key × V) => (upd H10 D (.dK (kvsP q0.1))) t = some (.tup [kV kv.1, kv.2])) ts (kvsP (q0.1.filter fun p => !decide (p.1 = z))) := L2.Paired.mapP pt fun y kv h => kU _ _ (fun z => by rw [z, s10 _ _ eL9] at h; cases h) h
          generalize upd H10 D (.dK (kvsP q0.1)) = H11 at back eW11 pt11 ⊢
          refine ⟨W, ts, _, rfl, SqL.of eW11, L2.Paired.mapP pt11 fun _ _ h => SqT.of h, fun dn hdn => ?_⟩
          have ndt : ((q0.1.filter fun p => !decide (p.1 = z)).map (·.1)).Nodup := List.Nodup.sublist (List.Sublist.map _ List.filter_sublist) nd
          rw [merge_P0 ndt]
          refine hC _ _ ⟨dn, none, none, ?_, s3.trans (back.trans (Same.new hdn)), ?_⟩
          · show _ = [_, _, _, _, _, _, some (V.bl (lst? m (j : Int))), _, _]
            rw [el]
            rfl
          · show _ = some (HO.dK (kvsP ((mvs m (j : Int)).filter fun p => !decide (p.1 = z))))
            rw [upd_same, em]
end
end Mk

set_option Elab.async false
set_option linter.all false
set_option maxRecDepth 100000
set_option maxHeartbeats 4000000
/-! _law_done_by -/
namespace Mk
open PySem PySem.Spec L2 PyProof.Rows

abbrev sDon : Stmt := top 70
abbrev nDon : List Str := ["_law_form", "_law_change", "_law_state", "_law_sign", "_law_to"]
/-- a method that may let an exception out, the wish told by the slots -/
def tMethE (C : Addr) (m : Str) (sp : Sp) (W : L2.St → XK) (te : TE) (t : TA) : TE := fun σ H Q => te σ H fun x H1 => ∃ a dx fs, x = V.ref a ∧ H1 a = some (.ins C dx fs) ∧ fs.lookup m = none ∧ t σ H1 fun ys H2 => sp (V.ref a :: ys) H2 Q (W σ)
section
variable {X : Cx}
theorem pe_methE {CX : CXT} {k : Nat} {g C : Addr} {fd : FuncData} {ps : List Str} {sp : Sp} {W : L2.St → XK} {m : Str} {p1 p2 : Pos} {a o : Expr} {as : List Expr} {te : TE} {t : TA} {pl : Sem Bool} (ho : PE X o te) (c : Cls X.K C) (mm : Meth X.K C m g) (G : FnOk X.prog X.w X.K X.mg X.base CX k g fd ps sp) (rm : Room k X.A) (bd : Binds X.K fd ps []) (pw : ∀ σ, PassesAt CX X σ (W σ)) (ha : PA X (a :: as) t)
    (st : starEach (a :: as) X.env = (false, eval a X.env) :: starEach as X.env := by rfl) (bt : (backTo p2 (starEach as X.env)).any (·.1) = false := by rfl)
    (ev : eval (.Call (.Attribute o m p1) (a :: as) [] p2) X.env = (do
      let ov ← eval o X.env
      standAt p1.atName
      let (f, first) ← holding [ov] (getMethod ov m pl)
      callWith p2 f first (backTo p2 (starEach (a :: as) X.env)) (backToKw p2 (keywordEach [] X.env))) := by rfl) : PE X (.Call (.Attribute o m p1) (a :: as) [] p2) (tMethE C m sp W te t) := by
  constructor
  intro pins s σ H Q I h
  refine PySem.W.methodCall_KW (pl := pl) (thn (ho.run pins s σ H _ I h) fun u s1 z => ?_) ev
  obtain ⟨x, H1, I1, rx, b, dx, fs, ex, hb, hl, q⟩ := z
  subst ex
  obtain rfl : u = Value.ref b := rx
  refine getmeth_ok I1 hb c mm hl ?_
  refine PySem.W.callWith_K (first := [Value.ref b]) (h₀ := X.base) I.ok.mod.kin mm.kp (thn (ha.run p2 pins s1 σ H1 _ I1 q) fun us s2 z => ?_) st bt
  obtain ⟨vs, H2, I2, r, q2⟩ := z
  exact ⟨I2.kIn, run_fnS (us := Value.ref b :: us) (vs := V.ref b :: vs) G rm bd (pw σ) I2 (.cons rfl r) q2⟩
end

/-- the form behind a change, or None -/
def spDon (C : Addr) : Sp := fun vs H Q _ => ∃ (x c : Addr) (m : Mch) (g : Chg), vs = [.ref x, .ref c] ∧ FmAt C H x m ∧ MOk m ∧ H c = some g.obj ∧ g.ok m ∧
  (goodB (fbeh m g) = true → ∀ H' y, Same H H' → H y = none → FmAt C H' y (srtM (fbeh m g)) → Q (.ref y) H') ∧ (goodB (fbeh m g) = false → ∀ H', Same H H' → Q .non H')
section
variable {P : Program} {w : World} {K : PySem.W.Frag} {mg : Str → Option Value} {base : Heap} {C CI : Addr}
theorem scDon : FnScope nDon ["_law_form", "_law_change"] (defScope sDon) := ⟨rfl, rfl, rfl, by decide +kernel, rfl, by decide +kernel, by decide +kernel⟩
theorem ok_don {f : Addr} {fd : FuncData} (F : Fun K "_law_done_by" "_law_done_by" sDon f fd) (T : Fc K C) (gI : mg "InvalidForm" = some (.ref CI)) (cI : PySem.W.exmOne K (.ref CI) (.ref CI) = some true) (M1 : Md P w K mg base C (L2.CX P w) 9 "with_move" ["self", "state", "sign", "to"] (spWMv C CI)) (M2 : Md P w K mg base C (L2.CX P w) 9 "with_last" ["self", "state", "last"] (spWLa C CI)) : FnOk P w K mg base CX0 10 f fd ["_law_form", "_law_change"] (spDon C) := by
  obtain ⟨g1, d1, Mg1, G1, b1⟩ := M1.ex
  obtain ⟨g2, d2, Mg2, G2, b2⟩ := M2.ex
  refine F.ok scDon (fun vs H Q E h => ?_) (fun cdv A outer s H vs Q E hr h => ?_)
  · obtain ⟨x, c, m, g, rfl, _⟩ := h
    rfl
  · obtain ⟨x, c, m, g, rfl, ⟨dx, t, hx, hm⟩, ok, hc, hg, qt, qf⟩ := h
    refine ⟨_, pss_cons (ps_asg (pv 1) (pg_tup rfl (pgs_cons (pg_name (i := 2) scDon.nd rfl (.inl rfl)) (pgs_cons (pg_name (i := 3) scDon.nd rfl (.inl rfl)) (pgs_cons (pg_name (i := 4) scDon.nd rfl (.inl rfl)) pgs_nil)))))
      (pss_one (ps_try_only (tb := fun W => tRet (tIf (tTest (tOp rEq (tVar 3) (tC (V.str "")))) (tMethE C "with_last" (spWLa C CI) (WE W) (tVar 0) (tCons (tVar 2) (tCons (tVar 4) tNil))) (tMethE C "with_move" (spWMv C CI) (WE W) (tVar 0) (tCons (tVar 2) (tCons (tVar 3) (tCons (tVar 4) tNil)))))) (Wout := fun _ _ _ _ => False) rfl rfl ⟨rfl, by decide, Or.inl gI⟩ takes0
        (fun W pn xe tk _ => pss_one (ps_ret (pe_ifExp (pt_cmpR op_eq (pv 3) pe_str (nomark _)) (pe_methE (pv 0) T.cl Mg2 G2 hr b2 (fun σ => passAt tk σ) (by exact (pa_cons (pv 2) (pa_cons (pv 4) pa_nil)))) (pe_methE (pv 0) T.cl Mg1 G1 hr b1 (fun σ => passAt tk σ) (by exact (pa_cons (pv 2) (pa_cons (pv 3) (pa_cons (pv 4) pa_nil))))))))
        (fun _ _ _ _ _ _ _ => pss_one (ps_ret pe_non)))), ?_⟩
    cases g with
    | la i b =>
      refine ⟨_, rfl, c, _, rfl, SqT.of hc, rfl, _, _, rfl, _, _, rfl, _, _, rfl, rfl, ?_⟩
      refine ⟨_, rfl, rfl, _, rfl, iteT ⟨_, rfl, x, dx, _, rfl, hx, rfl, _, rfl, _, rfl, x, m, i, b, rfl, ⟨dx, t, hx, hm⟩, ok, hg, qt, fun hf H' s' => ⟨true, cI, fun _ a ha => qf hf H' s', fun z => nomatch z⟩⟩⟩
    | mv i z to =>
      have zn : ¬ V.str z = V.str "" := fun e => by
        injection e with e
        have := one_of hg.2.1
        rw [e] at this
        exact absurd this (by decide)
      refine ⟨_, rfl, c, _, rfl, SqT.of hc, rfl, _, _, rfl, _, _, rfl, _, _, rfl, rfl, ?_⟩
      refine ⟨_, rfl, rfl, _, rfl, ?_⟩
      rw [decide_eq_false zn]
      exact iteF ⟨_, rfl, x, dx, _, rfl, hx, rfl, _, rfl, _, rfl, _, rfl, x, m, i, z, to, rfl, ⟨dx, t, hx, hm⟩, ok, hg.1, hg.2.1, hg.2.2, qt, fun hf H' s' => ⟨true, cI, fun _ a ha => qf hf H' s', fun z => nomatch z⟩⟩
end
end Mk

set_option Elab.async false
set_option linter.all false
set_option maxRecDepth 100000
set_option maxHeartbeats 4000000
/-! all words of few signs -/
namespace Mk
open PySem PySem.Spec L2 PyProof.Rows

abbrev sAll : Stmt := top 65
abbrev nAll : List Str := ["_law_signs", "_law_many", "_law_found", "_law_level", "_law_turn", "_law_more", "_law_word", "_law_sign"]
def ext1 (z w : Str) : List Str := (sgs z).map fun s => w ++ s
def lev (z : Str) : Nat → List Str
  | 0 => [""]
  | n + 1 => (lev z n).flatMap (ext1 z)
def allW (z : Str) : Nat → List Str
  | 0 => [""]
  | n + 1 => allW z n ++ lev z (n + 1)
theorem ext1_len (z w : Str) : (ext1 z w).length = z.length := by
  unfold ext1
  rw [List.length_map, sgs_length]
theorem flatC_len {α β : Type} {f : α → List β} {c : Nat} : ∀ {l : List α}, (∀ x ∈ l, (f x).length = c) → (l.flatMap f).length = l.length * c
  | [], _ => by rw [List.flatMap_nil, List.length_nil, List.length_nil, Nat.zero_mul]
  | a :: l, h => by
    rw [List.flatMap_cons, List.length_append, h a List.mem_cons_self, flatC_len (l := l) fun x hx => h x (List.mem_cons_of_mem _ hx), List.length_cons, Nat.add_mul, Nat.one_mul, Nat.add_comm]
theorem sadd_len (x y : Str) : (x ++ y).length = x.length + y.length := by
  show (x.cps ++ y.cps).size = _
  rw [Array.size_append]
  rfl
theorem lev_len (z : Str) : ∀ n : Nat, (lev z n).length = z.length ^ n
  | 0 => rfl
  | n + 1 => by
    show ((lev z n).flatMap (ext1 z)).length = _
    rw [flatC_len fun x _ => ext1_len z x, lev_len z n, Nat.pow_succ]
theorem lev_words (z : Str) : ∀ (n : Nat) (x : Str), x ∈ lev z n → x.length = n
  | 0, x, h => by
    rw [List.mem_singleton.mp h]
    rfl
  | n + 1, x, h => by
    obtain ⟨y, hy, hx⟩ := List.mem_flatMap.mp h
    obtain ⟨s, hs, rfl⟩ := List.mem_map.mp hx
    have := lev_words z n y hy
    rw [sadd_len, this]
    unfold sgs at hs
    obtain ⟨c, _, rfl⟩ := List.mem_map.mp hs
    rfl
theorem lev_le {z : Str} (hz : z.length ≤ 5) {n : Nat} (hn : n ≤ 3) : (lev z n).length ≤ 125 := by
  rw [lev_len]
  have h1 : z.length ^ n ≤ 5 ^ n := Nat.pow_le_pow_left hz n
  have h2 : 5 ^ n ≤ 5 ^ 3 := Nat.pow_le_pow_right (by decide) hn
  exact Nat.le_trans h1 h2
theorem allW_le {z : Str} (hz : z.length ≤ 5) : ∀ {n : Nat}, n ≤ 3 → (allW z n).length ≤ 1 + 125 * n
  | 0, _ => Nat.le_refl _
  | n + 1, hn => by
    have h1 := allW_le hz (n := n) (by omega)
    have h2 := lev_le hz hn
    show (allW z n ++ lev z (n + 1)).length ≤ _
    rw [List.length_append]
    omega
def spAll : Sp := fun vs H Q _ => ∃ (z : Str) (n : Nat), vs = [.str z, .int n] ∧ z.length ≤ 5 ∧ n ≤ 3 ∧ ∀ H' L, Same H H' → H L = none → H' L = some (.lst ((allW z n).map V.str)) → Q (.ref L) H'
section
variable {P : Program} {w : World} {K : PySem.W.Frag} {mg : Str → Option Value} {base : Heap}
theorem scAll : FnScope nAll ["_law_signs", "_law_many"] (defScope sAll) := ⟨rfl, rfl, rfl, by decide +kernel, rfl, by decide +kernel, by decide +kernel⟩
theorem ok_all {f : Addr} {fd : FuncData} (F : Fun K "_law_all_listed" "_law_all_listed" sAll f fd) (B : Bn mg) : FnOk P w K mg base CX0 1 f fd ["_law_signs", "_law_many"] spAll := by
  refine F.ok scAll (fun vs H Q E h => ?_) (fun cdv A outer s H vs Q E hr h => ?_)
  · obtain ⟨z, n, rfl, _⟩ := h
    rfl
  · obtain ⟨z, n, rfl, hz, hn, q⟩ := h
    refine ⟨_, pss_cons (ps_par (i := 2) (j := 3) rfl scAll.nd rfl rfl (by decide) rfl rfl (pa_cons (pe_lst (pa_cons pe_str pa_nil)) (pa_cons (pe_lst (pa_cons pe_str pa_nil)) pa_nil)) (by rfl))
      (pss_cons (ps_for PassesOwn.never rfl (pi_range1 (by rfl) B.range (pa_cons (pv 1) pa_nil)) (pg_name (i := 4) scAll.nd rfl (.inl rfl))
        (pss_cons (ps_set (i := 5) scAll.nd rfl (.inl rfl) (pe_lst pa_nil))
        (pss_cons (ps_for PassesOwn.never rfl (pi_list (pv 3)) (pg_name (i := 6) scAll.nd rfl (.inr rfl))
          (pss_one (ps_set (i := 5) scAll.nd rfl (.inl rfl) (pe_op op_cat (pv 5) (pe_lc (own := [("_law_sign", 7)]) (g := gName 7) (tt := tYes) rfl scAll.nd (pi_str (pv 0)) (blkOk_by (N := nAll) (sc := defScope sAll) (by decide +kernel))
            (fun _ _ _ _ _ => pg_name (i := 7) scAll.nd rfl (Or.inl rfl)) (fun _ _ _ _ _ => pts_nil) (fun _ _ _ _ _ => pe_op op_add_str (pv 6) (pv 7)))))))
        (pss_one (ps_par (i := 2) (j := 3) rfl scAll.nd rfl rfl (by decide) rfl rfl (pa_cons (pe_op op_cat (pv 2) (pv 5)) (pa_cons (pv 5) pa_nil)) (by rfl))))))
      (pss_one (ps_ret (pv 2)))), ?_⟩
    have lt1 : ∀ {n : Nat}, n ≤ 3999 → n < sizeLine := fun h1 => by rw [sizeLine_eq]; omega
    have nar : ∀ {n : Nat}, n ≤ 3999 → n ≤ sizeLine := fun h1 => by rw [sizeLine_eq]; omega
    refine ⟨(by show 1 ≤ sizeLine; decide), fun Fo hF => ⟨(by show 1 ≤ sizeLine; decide), fun Lo hL => ?_⟩⟩
    have s0 := (Same.new (o := .lst [V.str ""]) hF).trans (Same.new (o := .lst [V.str ""]) hL)
    have eF := Same.new (o := .lst [V.str ""]) hL _ _ (upd_same : upd H Fo (.lst [V.str ""]) Fo = _)
    have eL := (upd_same : upd (upd H Fo (.lst [V.str ""])) Lo (.lst [V.str ""]) Lo = _)
    generalize upd (upd H Fo (.lst [V.str ""])) Lo (.lst [V.str ""]) = H1 at s0 eF eL ⊢
    refine ⟨_, _, rfl, _, rfl, _, rfl, by omega, by omega, for_range (lo := 0) (n := Int.toNat _) (fun k σ H3 => ∃ (F1 L1 : Addr) (o4 o5 o6 : Option V), σ = [some (.str z), some (.int n), some (.ref F1), some (.ref L1), o4, o5, o6, none] ∧ Same H H3 ∧ H F1 = none ∧ H3 F1 = some (.lst ((allW z k).map V.str)) ∧ H3 L1 = some (.lst ((lev z k).map V.str))) ⟨Fo, Lo, _, _, _, rfl, s0, hF, eF, eL⟩ ?_ ?_⟩
    · rintro k σ H3 hk ⟨F1, L1, o4, o5, o6, rfl, s3, fF, eF, eL⟩
      have hk : k < n := by omega
      refine ⟨(by show 0 ≤ sizeLine; decide), fun M0 hM => ?_⟩
      have s4 := Same.new (o := .lst []) hM
      have eM := (upd_same : upd H3 M0 (.lst []) M0 = _)
      generalize upd H3 M0 (.lst []) = H4 at s4 eM ⊢
      have eF4 := s4 _ _ eF
      have eL4 := s4 _ _ eL
      refine ⟨_, rfl, L1, rfl, ⟨_, SqL.of eL4⟩, for_list (xs := (lev z k).map V.str) (fun j σ H8 => ∃ (M : Addr) (o6 : Option V), σ = [some (.str z), some (.int n), some (.ref F1), some (.ref L1), some (.int (0 + k)), some (.ref M), o6, none] ∧ Same H4 H8 ∧ H8 M = some (.lst ((((lev z k).take j).flatMap (ext1 z)).map V.str))) ⟨M0, _, rfl, fun _ _ e => e, eM⟩ (fun j σ H8 _ h8 => by
        obtain ⟨_, _, _, s8, _⟩ := h8
        exact SqL.of (s8 _ _ eL4)) ?_ ?_⟩
      · rintro j v σ H8 hv ⟨M, o6, rfl, s8, eM8⟩
        have jl : j < (lev z k).length := by
          have := (List.getElem?_eq_some_iff.mp hv).1
          rwa [List.length_map] at this
        obtain rfl : V.str (lev z k)[j] = v := by
          rw [List.getElem?_map, List.getElem?_eq_getElem jl] at hv
          exact Option.some.inj hv
        have nx : (lev z k).take (j + 1) = (lev z k).take j ++ [(lev z k)[j]] := by
          rw [List.take_add_one, List.getElem?_eq_getElem jl]
          rfl
        have lw := lev_words z k _ (List.getElem_mem jl)
        have lk := lev_le hz (n := k) (by omega)
        generalize (lev z k)[j] = x at nx lw ⊢
        refine ⟨_, rfl, _, rfl, z, rfl, fun C hC => lc_it (walk_str (z := z)) (fun i H9 => Same H8 H9 ∧ H9 C = some (.lst ((((sgs z).take i).map fun s => x ++ s).map V.str))) ⟨Same.new hC, upd_same⟩ (fun _ _ _ _ => trivial) ?_ ?_⟩
        · rintro i v H9 H10 hi ⟨s9, e9⟩ ⟨rfl, ch, hc, rfl⟩
          have hs := sgs_at hc
          have nx2 : (sgs z).take (i + 1) = (sgs z).take i ++ [⟨#[ch]⟩] := by
            rw [List.take_add_one, hs]
            rfl
          refine ⟨rfl, _, rfl, _, rfl, _, _, rfl, rfl, nar (by rw [lw]; show k + 1 ≤ 3999; omega), _, e9, lt1 (by rw [List.length_map, List.length_map, List.length_take, sgs_length]; omega), Same.upN s9 hC, ?_⟩
          rw [upd_same, nx2, List.map_append, List.map_append]
          rfl
        rintro H9 ⟨s9, e9⟩
        rw [show z.cps.size = (sgs z).length from (sgs_length z).symm, List.take_length] at e9
        have lM : (((lev z k).take j).flatMap (ext1 z)).length ≤ 625 := by
          rw [flatC_len fun x _ => ext1_len z x, List.length_take]
          exact Nat.mul_le_mul (show min j (lev z k).length ≤ 125 by omega) hz
        refine ⟨M, C, _, _, rfl, rfl, s9 _ _ eM8, e9, nar (by rw [List.length_map, List.length_map, List.length_map, sgs_length]; omega), fun R hR => ⟨R, _, rfl, (s8.trans s9).trans (Same.new hR), ?_⟩⟩
        rw [upd_same, nx, List.flatMap_append, List.map_append, List.flatMap_cons, List.flatMap_nil, List.append_nil]
        rfl
      rintro σ H8 ⟨M, o6, rfl, s8, eM8⟩
      rw [List.length_map, List.take_length] at eM8
      have eM8 : H8 M = some (.lst ((lev z (k + 1)).map V.str)) := eM8
      have l1 := allW_le hz (n := k) (by omega)
      have l2 := lev_le hz (n := k + 1) (by omega)
      refine ⟨_, rfl, _, rfl, F1, M, _, _, rfl, rfl, s8 _ _ eF4, eM8, nar (by rw [List.length_map, List.length_map]; omega), fun R hR => ⟨_, rfl, _, _, rfl, R, M, _, _, _, rfl, ((s3.trans s4).trans s8).trans (Same.new hR), ((s3.trans s4).trans s8).free hR, ?_, Same.new hR _ _ eM8⟩⟩
      rw [upd_same, ← List.map_append]
      rfl
    rintro σ H3 ⟨F1, L1, o4, o5, o6, rfl, s3, fF, eF, eL⟩
    refine ⟨_, rfl, q H3 F1 s3 fF ?_⟩
    rw [eF]
    have : (((n : Nat) : Int) - 0).toNat = n := by omega
    first
      | rw [this]
      | rfl
end
end Mk

set_option Elab.async false
set_option linter.all false
set_option maxRecDepth 100000
set_option maxHeartbeats 2000000
/-! counting words forwards is counting them backwards -/
namespace Mk
open PySem PySem.Spec L2 PyProof.Rows

def dot : List Int → (Nat → Int) → Int
  | [], _ => 0
  | a :: v, c => a * c 0 + dot v fun i => c (i + 1)
def addAt (x : Int) (v : List Int) (j : Nat) : List Int := v.set j (v.getD j 0 + x)
def rowAdd (t : PTab) (x : Int) (v : List Int) : List Int := t.foldl (fun v p => addAt x v p.2.toNat) v
def stepN (m : Mch) (now : List Int) (n : Nat) : List Int := (List.range n).foldl (fun (v : List Int) (i : Nat) => rowAdd (mvs m (i : Int)) (now.getD i 0) v) (List.replicate m.length 0)
def fwd (m : Mch) : Nat → List Int
  | 0 => 1 :: List.replicate (m.length - 1) 0
  | k + 1 => stepN m (fwd m k) m.length
def fwdS (m : Mch) (n : Nat) : Int := (((List.range m.length).filter fun i => lst? m (i : Nat)).map fun i => (fwd m n).getD i 0).sum
theorem dot_set {x : Int} : ∀ {v : List Int} {j : Nat} {c : Nat → Int}, j < v.length → dot (addAt x v j) c = dot v c + x * c j
  | [], _, _, h => absurd h (Nat.not_lt_zero _)
  | a :: v, 0, c, _ => by
    show (a + x) * c 0 + dot v _ = a * c 0 + dot v _ + x * c 0
    rw [Int.add_mul]
    omega
  | a :: v, j + 1, c, h => by
    have ih := dot_set (x := x) (v := v) (j := j) (c := fun i => c (i + 1)) (Nat.lt_of_succ_lt_succ h)
    show a * c 0 + dot (addAt x v j) (fun i => c (i + 1)) = a * c 0 + dot v (fun i => c (i + 1)) + x * c (j + 1)
    rw [ih]
    omega
theorem addAt_len (x : Int) (v : List Int) (j : Nat) : (addAt x v j).length = v.length := List.length_set
theorem rowAdd_len (x : Int) : ∀ (t : PTab) (v : List Int), (rowAdd t x v).length = v.length
  | [], _ => rfl
  | p :: t, v => (rowAdd_len x t (addAt x v p.2.toNat)).trans (addAt_len _ _ _)
theorem dot_row {x : Int} {c : Nat → Int} : ∀ {t : PTab} {v : List Int}, (∀ p ∈ t, p.2.toNat < v.length) → dot (rowAdd t x v) c = dot v c + x * (t.map fun p => c p.2.toNat).sum
  | [], v, _ => by
    show dot v c = dot v c + x * 0
    rw [Int.mul_zero, Int.add_zero]
  | p :: t, v, h => by
    have ih := dot_row (x := x) (c := c) (t := t) (v := addAt x v p.2.toNat) fun q hq => by rw [addAt_len]; exact h q (List.mem_cons_of_mem _ hq)
    show dot (rowAdd t x (addAt x v p.2.toNat)) c = _
    rw [ih, dot_set (h p List.mem_cons_self), List.map_cons, List.sum_cons, Int.mul_add]
    omega
theorem dot_rep (c : Nat → Int) : ∀ n : Nat, dot (List.replicate n 0) c = 0
  | 0 => rfl
  | n + 1 => by
    show 0 * c 0 + dot (List.replicate n 0) (fun i => c (i + 1)) = 0
    rw [dot_rep, Int.zero_mul]
    rfl
theorem stepN_len (m : Mch) (now : List Int) : ∀ n : Nat, (stepN m now n).length = m.length
  | 0 => List.length_replicate
  | n + 1 => by
    unfold stepN
    rw [List.range_succ, List.foldl_append]
    show (rowAdd _ _ _).length = _
    rw [rowAdd_len]
    exact stepN_len m now n
theorem stepN_succ (m : Mch) (now : List Int) (n : Nat) : stepN m now (n + 1) = rowAdd (mvs m (n : Int)) (now.getD n 0) (stepN m now n) := by
  unfold stepN
  rw [List.range_succ, List.foldl_append]
  rfl
theorem mvs_to {m : Mch} (w : WF m) {i : Int} {p : Str × Int} (h : p ∈ mvs m i) : 0 ≤ p.2 ∧ p.2 < m.length := by
  obtain ⟨q, hq, _, hp⟩ := mvs_mem h
  exact w.to q hq p hp
theorem dot_step {m : Mch} (w : WF m) (now : List Int) (c : Nat → Int) : ∀ n : Nat, dot (stepN m now n) c = ((List.range n).map fun i => now.getD i 0 * ((mvs m (i : Nat)).map fun p => c p.2.toNat).sum).sum
  | 0 => dot_rep c _
  | n + 1 => by
    rw [stepN_succ, dot_row fun p hp => by
      have := mvs_to w hp
      rw [stepN_len]
      omega, dot_step w now c n, List.range_succ, List.map_append, List.sum_append]
    show _ + _ = _ + (_ + 0)
    rw [Int.add_zero]
theorem dot_sum : ∀ (v : List Int) (c : Nat → Int), ((List.range v.length).map fun i => v.getD i 0 * c i).sum = dot v c
  | [], _ => rfl
  | a :: v, c => by
    rw [List.length_cons, List.range_succ_eq_map, List.map_cons, List.sum_cons, List.map_map]
    show a * c 0 + _ = a * c 0 + dot v fun i => c (i + 1)
    rw [← dot_sum v fun i => c (i + 1)]
    rfl
theorem fwd_len {m : Mch} (l1 : 1 ≤ m.length) : ∀ k : Nat, (fwd m k).length = m.length
  | 0 => by
    show (1 :: List.replicate (m.length - 1) (0 : Int)).length = _
    rw [List.length_cons, List.length_replicate]
    omega
  | k + 1 => stepN_len _ _ _
theorem dot_fwd {m : Mch} (w : WF m) (l1 : 1 ≤ m.length) : ∀ (k r : Nat), dot (fwd m k) (fun i => cnt m r (i : Nat)) = cnt m (k + r) 0
  | 0, r => by
    show 1 * cnt m r ((0 : Nat) : Int) + dot (List.replicate (m.length - 1) 0) _ = _
    rw [dot_rep, Int.one_mul, Int.add_zero, Nat.zero_add]
    rfl
  | k + 1, r => by
    have e : dot (fwd m (k + 1)) (fun i => cnt m r (i : Nat)) = dot (fwd m k) (fun i => cnt m (r + 1) (i : Nat)) := by
      show dot (stepN m (fwd m k) m.length) _ = _
      rw [dot_step w, ← dot_sum, fwd_len l1]
      refine congrArg List.sum (List.map_congr_left fun i _ => ?_)
      show _ * _ = _ * ((mvs m (i : Nat)).map fun p => cnt m r p.2).sum
      refine congrArg _ (congrArg List.sum (List.map_congr_left fun p hp => ?_))
      have := mvs_to w hp
      rw [show ((p.2.toNat : Nat) : Int) = p.2 from by omega]
    rw [e, dot_fwd w l1 k (r + 1)]
    congr 1
    omega
theorem filt_sum (f : Nat → Int) (p : Nat → Bool) : ∀ l : List Nat, ((l.filter p).map f).sum = (l.map fun i => f i * (if p i = true then 1 else 0)).sum
  | [] => rfl
  | a :: l => by
    rw [List.map_cons, List.sum_cons, ← filt_sum f p l]
    cases h : p a with
    | true =>
      rw [List.filter_cons_of_pos h, List.map_cons, List.sum_cons, if_pos rfl, Int.mul_one]
    | false =>
      rw [List.filter_cons_of_neg (by rw [h]; decide), if_neg (by decide), Int.mul_zero, Int.zero_add]
theorem fwd_cnt {m : Mch} (w : WF m) (l1 : 1 ≤ m.length) (n : Nat) : fwdS m n = cnt m n 0 := by
  unfold fwdS
  have e := dot_fwd w l1 n 0
  rw [← dot_sum, fwd_len l1] at e
  rw [filt_sum]
  exact e
end Mk

set_option Elab.async false
set_option linter.all false
set_option maxRecDepth 100000
set_option maxHeartbeats 4000000
/-! _law_count_words -/
namespace Mk
open PySem PySem.Spec L2 PyProof.Rows

abbrev sCw : Stmt := top 66
abbrev nCw : List Str := ["_law_states", "_law_many", "_law_now", "_law_turn", "_law_later", "_law_state", "_law_sign", "_law_to"]
theorem rep_flat (v : V) : ∀ n : Nat, (List.replicate n [v]).flatten = List.replicate n v
  | 0 => rfl
  | n + 1 => by rw [List.replicate_succ, List.flatten_cons, rep_flat v n]; rfl
theorem atD {v : List Int} {j : Nat} (h : j < v.length) : atI (v.map V.int) (j : Int) = some (V.int (v.getD j 0)) := at_ofA (j := j) rfl (by
  rw [List.getElem?_map, List.getElem?_eq_getElem h, List.getD_eq_getElem?_getD, List.getElem?_eq_getElem h]
  rfl)
theorem rowAdd_snoc (t : PTab) (p : Str × Int) (x : Int) (v : List Int) : rowAdd (t ++ [p]) x v = addAt x (rowAdd t x v) p.2.toNat := by
  unfold rowAdd
  rw [List.foldl_append]
  rfl
theorem ixN_of {n j : Nat} (hj : j < n) : ixN n (j : Int) = some j := by
  unfold ixN
  rw [if_pos (by omega), if_pos (by omega)]
  simp
def spCw : Sp := fun vs H Q _ => ∃ (a : Addr) (m : Mch) (n : Nat), vs = [.ref a, .int n] ∧ LsAt H a m ∧ WF m ∧ 1 ≤ m.length ∧ m.length ≤ 40 ∧ n ≤ 200 ∧ ∀ H', Same H H' → Q (.int (cnt m n 0)) H'
section
variable {P : Program} {w : World} {K : PySem.W.Frag} {mg : Str → Option Value} {base : Heap}
theorem scCw : FnScope nCw ["_law_states", "_law_many"] (defScope sCw) := ⟨rfl, rfl, rfl, by decide +kernel, rfl, by decide +kernel, by decide +kernel⟩
theorem ok_cw {f : Addr} {fd : FuncData} (F : Fun K "_law_count_words" "_law_count_words" sCw f fd) (B : Bn mg) (Sm : mg "sum" = none) : FnOk P w K mg base CX0 1 f fd ["_law_states", "_law_many"] spCw := by
  refine F.ok scCw (fun vs H Q E h => ?_) (fun cdv A outer s H vs Q E hr h => ?_)
  · obtain ⟨a, m, n, rfl, _⟩ := h
    rfl
  · have hu := hu_of hr
    obtain ⟨a, m, n, rfl, hm, wf, l1, l40, hn, q⟩ := h
    refine ⟨_, PSs.nox (pss_cons (ps_set (i := 2) scCw.nd rfl (.inr rfl) (pe_op op_cat (pe_lst (pa_cons pe_int pa_nil)) (pe_op op_rep (pe_lst (pa_cons pe_int pa_nil)) (pe_op op_sub (pe_callB call_len_seq (by rfl) B.len PySem.boot_len (pa_cons (pv 0) pa_nil)) pe_int))))
      (pss_cons (ps_for PassesOwn.never rfl (pi_range1 (by rfl) B.range (pa_cons (pv 1) pa_nil)) (pg_name (i := 3) scCw.nd rfl (.inl rfl))
        (pss_cons (ps_set (i := 4) scCw.nd rfl (.inl rfl) (pe_op op_rep (pe_lst (pa_cons pe_int pa_nil)) (pe_callB call_len_seq (by rfl) B.len PySem.boot_len (pa_cons (pv 0) pa_nil))))
        (pss_cons (ps_for PassesOwn.never rfl (pi_range1 (by rfl) B.range (pa_cons (pe_callB call_len_seq (by rfl) B.len PySem.boot_len (pa_cons (pv 0) pa_nil)) pa_nil)) (pg_name (i := 5) scCw.nd rfl (.inl rfl))
          (pss_one (ps_lock (ps_for PassesOwn.never rfl (pi_items (pe_ix ix_tup (pe_ix ix_sq (pv 0) (pv 5) (fun _ _ => rfl)) pe_int (fun _ _ => rfl))) (pg_tup rfl (pgs_cons (pg_name (i := 6) scCw.nd rfl (.inl rfl)) (pgs_cons (pg_name (i := 7) scCw.nd rfl (.inl rfl)) pgs_nil)))
            (pss_one (ps_asg (pe_op op_add (pe_ix ix_list (pv 4) (pv 7) (fun _ _ => rfl)) (pe_ix ix_list (pv 2) (pv 5) (fun _ _ => rfl))) (pg_sub (pv 4) (pv 7) set_list)))))))
        (pss_one (ps_set (i := 2) scCw.nd rfl (.inr rfl) (pe_callTy call_list_of (by rfl) B.list (by decide +kernel) (pa_cons (pv 4) pa_nil)))))))
      (pss_one (ps_ret (pe_callB (cr_sum rfl) (by rfl) Sm (by decide +kernel) (pa_cons (pe_lc (own := [("_law_state", 5)]) (g := gName 5) rfl scCw.nd (pi_range1 (by rfl) B.range (pa_cons (pe_callB call_len_seq (by rfl) B.len PySem.boot_len (pa_cons (pv 0) pa_nil)) pa_nil)) (blkOk_by (N := nCw) (sc := defScope sCw) (by decide +kernel))
          (fun _ _ _ _ _ => pg_name (i := 5) scCw.nd rfl (Or.inl rfl)) (fun _ _ _ _ _ => pts_one (pt_val (pe_ix (ix_tupK K) (pe_ix (ix_sqK K) (pv 0) (pv 5) (fun _ _ => rfl)) pe_int (fun _ _ => rfl)))) (fun _ _ _ _ _ => pe_ix (ix_listK K) (pv 2) (pv 5) (fun _ _ => rfl))) pa_nil)))))), ?_⟩
    have lt1 : ∀ {n : Nat}, n ≤ 3999 → n < sizeLine := fun h1 => by rw [sizeLine_eq]; omega
    have nar : ∀ {n : Nat}, n ≤ 3999 → n ≤ sizeLine := fun h1 => by rw [sizeLine_eq]; omega
    obtain ⟨ss, ea, pt⟩ := id hm
    have ls : ss.length = m.length := Paired.length pt
    have ea1 : ∀ {H' : Hp}, Same H H' → (SqL K H' a (ss.map V.ref) ∨ SqT K H' a (ss.map V.ref)) := fun k => .inl (SqL.of (k _ _ ea))
    refine ⟨(by show 1 ≤ sizeLine; decide), fun A0 hA => ⟨(by show 1 ≤ sizeLine; decide), fun B0 hB => ?_⟩⟩
    have sA := Same.new (o := .lst [V.int 1]) hA
    have sB := sA.trans (Same.new (o := .lst [V.int 0]) hB)
    have eA := Same.new (o := .lst [V.int 0]) hB _ _ (upd_same : upd H A0 (.lst [V.int 1]) A0 = _)
    have eB := (upd_same : upd (upd H A0 (.lst [V.int 1])) B0 (.lst [V.int 0]) B0 = _)
    generalize upd (upd H A0 (.lst [V.int 1])) B0 (.lst [V.int 0]) = H1 at sB eA eB ⊢
    refine ⟨_, rfl, a, _, rfl, ea1 sB, _, _, rfl, rfl, B0, _, _, rfl, rfl, eB, by rw [List.length_map]; omega, by rw [List.length_map]; omega, nar (by rw [List.length_map]; show 1 * _ ≤ 3999; omega), fun C0 hC => ?_⟩
    rw [rep_flat, List.length_map, ls, show (((m.length : Nat) : Int) - 1).toNat = m.length - 1 from by omega]
    have sC := sB.trans (Same.new (o := .lst (List.replicate (m.length - 1) (V.int 0))) hC)
    have eA2 := Same.new (o := .lst (List.replicate (m.length - 1) (V.int 0))) hC _ _ eA
    have eC := (upd_same : upd H1 C0 (.lst (List.replicate (m.length - 1) (V.int 0))) C0 = _)
    generalize upd H1 C0 (.lst (List.replicate (m.length - 1) (V.int 0))) = H2 at sC eA2 eC ⊢
    refine ⟨A0, C0, _, _, rfl, rfl, eA2, eC, nar (by rw [List.length_replicate]; show 1 + _ ≤ 3999; omega), fun N0 hN => ?_⟩
    have e0 : [V.int 1] ++ List.replicate (m.length - 1) (V.int 0) = (fwd m 0).map V.int := by
      show _ = V.int 1 :: (List.replicate (m.length - 1) (0 : Int)).map V.int
      rw [List.map_replicate]
      rfl
    rw [e0]
    have sN := sC.trans (Same.new (o := .lst ((fwd m 0).map V.int)) hN)
    have eN := (upd_same : upd H2 N0 (.lst ((fwd m 0).map V.int)) N0 = _)
    generalize upd H2 N0 (.lst ((fwd m 0).map V.int)) = H3 at sN eN ⊢
    refine ⟨_, rfl, _, rfl, by omega, by omega, for_range (lo := 0) (n := Int.toNat _) (fun k σ H4 => ∃ (NW : Addr) (o3 o4 o5 o6 o7 : Option V), σ = [some (.ref a), some (.int n), some (.ref NW), o3, o4, o5, o6, o7] ∧ Same H H4 ∧ H4 NW = some (.lst ((fwd m k).map V.int))) ⟨N0, _, _, _, _, _, rfl, sN, eN⟩ ?_ ?_⟩
    · rintro k σ H4 hk ⟨NW, o3, o4, o5, o6, o7, rfl, s4, eN4⟩
      have lnow := fwd_len l1 k
      generalize hnow : fwd m k = now at eN4 lnow
      refine ⟨(by show 1 ≤ sizeLine; decide), fun Z0 hZ => ?_⟩
      have s5 := s4.trans (Same.new (o := .lst [V.int 0]) hZ)
      have eN5 := Same.new (o := .lst [V.int 0]) hZ _ _ eN4
      have eZ := (upd_same : upd H4 Z0 (.lst [V.int 0]) Z0 = _)
      generalize upd H4 Z0 (.lst [V.int 0]) = H5 at s5 eN5 eZ ⊢
      refine ⟨_, rfl, a, _, rfl, ea1 s5, Z0, _, _, rfl, rfl, eZ, by rw [List.length_map]; omega, by rw [List.length_map]; omega, nar (by rw [List.length_map]; show 1 * _ ≤ 3999; omega), fun LT hLT => ?_⟩
      rw [rep_flat, List.length_map, ls, show ((m.length : Nat) : Int).toNat = m.length from by omega]
      have hLT0 : H LT = none := s5.free hLT
      have nNL : NW ≠ LT := ne_of_none eN5 hLT
      have s6 := s5.trans (Same.new (o := .lst (List.replicate m.length (V.int 0))) hLT)
      have eN6 := Same.new (o := .lst (List.replicate m.length (V.int 0))) hLT _ _ eN5
      have eL6 : (upd H5 LT (.lst (List.replicate m.length (V.int 0)))) LT = some (.lst ((stepN m now 0).map V.int)) := by
        rw [upd_same]
        show _ = some (HO.lst ((List.replicate m.length (0 : Int)).map V.int))
        rw [List.map_replicate]
      generalize upd H5 LT (.lst (List.replicate m.length (V.int 0))) = H6 at s6 eN6 eL6 ⊢
      refine ⟨_, rfl, a, _, rfl, ea1 s6, _, rfl, by omega, by rw [List.length_map]; omega, for_range (lo := 0) (n := Int.toNat _) (fun i σ H7 => ∃ (o5 o6 o7 : Option V), σ = [some (.ref a), some (.int n), some (.ref NW), some (.int (0 + k)), some (.ref LT), o5, o6, o7] ∧ Same H H7 ∧ H7 NW = some (.lst (now.map V.int)) ∧ H7 LT = some (.lst ((stepN m now i).map V.int))) ⟨_, _, _, rfl, s6, eN6, eL6⟩ ?_ ?_⟩
      · rintro i σ H7 hi ⟨o5, o6, o7, rfl, s7, eN7, eL7⟩
        rw [List.length_map, ls] at hi
        have hi : i < m.length := by omega
        obtain ⟨ss', s', d, g1, e2, g3, g4⟩ := hm.at_ (i := (0 : Int) + (i : Int)) ⟨by omega, by omega⟩
        rw [show (0 : Int) + (i : Int) = (i : Nat) from by omega] at e2 g3 g4
        have g4H := g4
        have dLT : d ≠ LT := ne_of_none g4 hLT0
        have g4 := s7 _ _ g4
        have lrow : (mvs m (i : Int)).length ≤ 5 := wf.l5 _ (mvs_set_mem hi)
        have nda : a ≠ d := fun z => by rw [z, g4H] at g1; cases g1
        have nds : s' ≠ d := fun z => by rw [z, g4H] at g3; cases g3
        refine ⟨d, _, g4, trivial, fun od => ⟨_, rfl, _, rfl, a, _, _, _, rfl, rfl, .inl (SqL.of ((upd_ne nda).trans (s7 _ _ g1))), by rw [show (0 : Int) + (i : Int) = (i : Nat) from by omega]; exact e2, s', _, 0, _, rfl, rfl, SqT.of ((upd_ne nds).trans (s7 _ _ g3)), at_ofA (j := 0) rfl rfl, d, od, kvsP (mvs m (i : Int)), rfl, upd_same, ?_⟩⟩
        have eLd : upd H7 d (.frz od (.dK (kvsP (mvs m (i : Int))))) d = some (.frz od (.dK (kvsP (mvs m (i : Int))))) := upd_same
        have kL : ∀ b o, b ≠ d → H7 b = some o → (upd H7 d (.frz od (.dK (kvsP (mvs m (i : Int)))))) b = some o := fun b o n e => (upd_ne n).trans e
        have nd' : NW ≠ d := fun z => by rw [z, g4] at eN7; cases eN7
        have eN8 := kL _ _ nd' eN7
        have eL8 := kL _ _ dLT.symm eL7
        generalize upd H7 d (.frz od (.dK (kvsP (mvs m (i : Int))))) = H8 at eLd kL eN8 eL8 ⊢
        refine for_it (walk_items (d := d) (o := od) (kvs := kvsP (mvs m (i : Int)))) (fun j σ H9 => ∃ (o6 o7 : Option V), σ = [some (.ref a), some (.int n), some (.ref NW), some (.int (0 + k)), some (.ref LT), some (.int (0 + i)), o6, o7] ∧ (∀ b o, b ≠ LT → H8 b = some o → H9 b = some o) ∧ H9 LT = some (.lst ((rowAdd ((mvs m (i : Int)).take j) (now.getD i 0) (stepN m now i)).map V.int))) ⟨_, _, rfl, fun _ _ _ e => e, eL8⟩ (fun j σ H9 _ h9 => by
          obtain ⟨_, _, _, k9, _⟩ := h9
          exact k9 _ _ dLT eLd) ?_ ?_
        · rintro j y σ H9 H10 hj ⟨o6, o7, rfl, k9, eL9⟩ ⟨Ty, x1, y1, rfl, hTy, rfl, hx1, hy1⟩
          rw [kvsP_len] at hj
          have hx1 : ((kvsP (mvs m (i : Int)))[j]?.map fun kv => kV kv.1) = some x1 := hx1
          have hy1 : ((kvsP (mvs m (i : Int)))[j]?.map Prod.snd) = some y1 := hy1
          rw [kvsP_at hj] at hx1 hy1
          cases hx1
          cases hy1
          have sY := Same.new (o := .tup [kV (Sum.inr (mvs m (i : Int))[j].1), V.int (mvs m (i : Int))[j].2]) hTy
          have eY := (upd_same : upd H9 Ty (.tup [kV (Sum.inr (mvs m (i : Int))[j].1), V.int (mvs m (i : Int))[j].2]) Ty = _)
          have eL10 := sY _ _ eL9
          have pm := List.getElem_mem hj
          have to := mvs_to wf pm
          have nx : (mvs m (i : Int)).take (j + 1) = (mvs m (i : Int)).take j ++ [(mvs m (i : Int))[j]] := by
            rw [List.take_add_one, List.getElem?_eq_getElem hj]
            rfl
          generalize upd H9 Ty (.tup [kV (Sum.inr (mvs m (i : Int))[j].1), V.int (mvs m (i : Int))[j].2]) = H10 at sY eY eL10 ⊢
          have eN10 := sY _ _ (k9 _ _ nNL eN8)
          generalize (mvs m (i : Int))[j] = p at nx to eY ⊢
          have lv : (rowAdd ((mvs m (i : Int)).take j) (now.getD i 0) (stepN m now i)).length = m.length := by rw [rowAdd_len, stepN_len]
          have nx2 := rowAdd_snoc ((mvs m (i : Int)).take j) p (now.getD i 0) (stepN m now i)
          rw [← nx] at nx2
          generalize rowAdd ((mvs m (i : Int)).take j) (now.getD i 0) (stepN m now i) = v at lv nx2 eL10 ⊢
          obtain ⟨q, hq⟩ : ∃ q : Nat, p.2 = (q : Int) := ⟨p.2.toNat, by omega⟩
          have ql : q < v.length := by omega
          refine ⟨Ty, _, rfl, SqT.of eY, rfl, _, _, rfl, _, _, rfl, rfl, ?_⟩
          refine ⟨_, rfl, _, rfl, LT, _, _, V.int (v.getD q 0), rfl, rfl, SqL.of eL10, by rw [hq]; exact atD ql, _, rfl, _, rfl, NW, _, _, V.int (now.getD i 0), rfl, rfl, SqL.of eN10, by rw [show (0 : Int) + (i : Int) = (i : Nat) from by omega]; exact atD (by omega), _, _, rfl, rfl, ?_⟩
          refine ⟨_, rfl, _, rfl, LT, _, _, q, rfl, rfl, eL10, by rw [hq, List.length_map]; exact ixN_of ql, _, _, rfl, fun b o nb e => ?_, ?_⟩
          · rw [upd_ne nb]
            exact sY _ _ (k9 b o nb e)
          · rw [upd_same, nx2, show p.2.toNat = q from by omega]
            unfold addAt
            rw [List.map_set]
        rintro σ H9 ⟨o6, o7, rfl, k9, eL9⟩
        rw [kvsP_len, List.take_length, ← stepN_succ] at eL9
        refine ⟨k9 _ _ dLT eLd, _, _, _, rfl, fun b o e => ?_, ?_, ?_⟩
        · by_cases c : b = d
          · rw [c, g4H] at e
            rw [c, upd_same]
            exact e
          · rw [upd_ne c]
            exact k9 _ _ (ne_of_none e hLT0) (kL b o c (s7 _ _ e))
        · exact (upd_ne nd').trans (k9 _ _ nNL eN8)
        · exact (upd_ne dLT.symm).trans eL9
      rintro σ H7 ⟨o5, o6, o7, rfl, s7, eN7, eL7⟩
      refine ⟨_, rfl, LT, _, rfl, .inl (SqL.of eL7), fun R hR => ⟨R, _, _, _, _, _, rfl, s7.trans (Same.new hR), ?_⟩⟩
      rw [upd_same, List.length_map, ls, show ((m.length : Nat) : Int).toNat = m.length from by omega, ← hnow]
      rfl
    rintro σ H4 ⟨NW, o3, o4, o5, o6, o7, rfl, s4, eN4⟩
    rw [show ((n : Nat) : Int).toNat = n from by omega] at eN4
    have lnow := fwd_len l1 n
    refine ⟨_, rfl, a, _, rfl, ea1 s4, _, rfl, by omega, by rw [List.length_map]; omega, fun C hC => ?_⟩
    rw [List.length_map, ls]
    refine lc_range (lo := 0) (n := m.length) (fun i H6 => Same H4 H6 ∧ H6 C = some (.lst ((((List.range i).filter fun i => lst? m (i : Nat)).map fun i => (fwd m n).getD i 0).map V.int))) ⟨Same.new hC, upd_same⟩ ?_ ?_
    · rintro i H6 hi ⟨s6, eC6⟩
      obtain ⟨ss', s', d, g1, e2, g3, g4⟩ := (sqS_keep (K := K) (s4.trans s6) hm.sq).at_ (i := (i : Int)) ⟨by omega, by omega⟩
      rw [show (0 : Int) + (i : Int) = (i : Nat) from by omega]
      refine ⟨rfl, _, rfl, _, rfl, a, _, _, _, rfl, rfl, g1, e2, s', _, 1, _, rfl, rfl, SqT.of g3, at_ofA (j := 1) rfl rfl, _, rfl, ?_⟩
      rw [List.range_succ, List.filter_append]
      cases hb : lst? m (i : Int) with
      | true =>
        rw [List.filter_cons_of_pos (by exact hb)]
        refine iteT ⟨_, rfl, _, rfl, NW, _, _, V.int ((fwd m n).getD i 0), rfl, rfl, SqL.of (s6 _ _ eN4), atD (by omega), _, eC6, lt1 (by rw [List.length_map, List.length_map]; exact Nat.le_trans (List.length_filter_le _ _) (by rw [List.length_range]; omega)), Same.upN s6 hC, ?_⟩
        rw [upd_same, List.map_append, List.map_append]
        rfl
      | false =>
        rw [List.filter_cons_of_neg (by rw [hb]; decide), List.filter_nil, List.append_nil]
        exact iteF ⟨s6, eC6⟩
    rintro H6 ⟨s6, eC6⟩
    refine ⟨C, _, rfl, SqL.of eC6, ?_⟩
    have e := fwd_cnt wf l1 n
    unfold fwdS at e
    rw [e]
    exact q _ (s4.trans s6)
end
end Mk

set_option Elab.async false
set_option linter.all false
set_option maxRecDepth 100000
set_option maxHeartbeats 4000000
/-! _law_words_right -/
namespace Mk
open PySem PySem.Spec L2 PyProof.Rows

abbrev sWr : Stmt := top 71
abbrev nWr : List Str := ["_law_form", "_law_states", "_law_some", "_law_sizes", "_law_word", "_law_many"]
theorem all40 : ∀ z ∈ allW "abe" 3, wB z = true ∧ PyData.strOk z = true ∧ z.length ≤ 4000 := by decide +kernel
theorem all40_len : (allW "abe" 3).length = 40 := by decide +kernel
def spWr (C : Addr) : Sp := fun vs H Q _ => ∃ (x a : Addr) (m1 m : Mch), vs = [.ref x, .ref a] ∧ FmAt C H x m1 ∧ MOk m1 ∧ LsAt H a m ∧ MOk m ∧ Rq m1 m ∧ ∀ H', Same H H' → Q (.bl true) H'
section
variable {P : Program} {w : World} {K : PySem.W.Frag} {mg : Str → Option Value} {base : Heap} {C : Addr}
theorem scWr : FnScope nWr ["_law_form", "_law_states"] (defScope sWr) := ⟨rfl, rfl, rfl, by decide +kernel, rfl, by decide +kernel, by decide +kernel⟩
theorem ok_wr {f gc : Addr} {fd dc : FuncData} (F : Fun K "_law_words_right" "_law_words_right" sWr f fd) (T : Fc K C) (J : Cd P w K mg base 1 "_law_all_listed" ["_law_signs", "_law_many"] spAll) (J1 : Cd P w K mg base 2 "_law_has_word" ["_law_states", "_law_word"] (spHwL K)) (J2 : Cd P w K mg base 1 "_law_count_words" ["_law_states", "_law_many"] spCw) (DC : OwnD K C gc "__contains__") (GC : FnOk P w K mg base CX0 4 gc dc ["self", "value"] (spFCon C K)) (bC : Binds K dc ["self", "value"] []) (M : Md P w K mg base C CX0 4 "count" ["self", "many"] (spFCnt C)) : FnOk P w K mg base CX0 5 f fd ["_law_form", "_law_states"] (spWr C) := by
  obtain ⟨a1, d1, G1, m1', k1, b1⟩ := J.ex
  obtain ⟨a2, d2, G2, m2', k2, b2⟩ := J1.ex
  obtain ⟨a3, d3, G3, m3', k3, b3⟩ := J2.ex
  obtain ⟨gm, dm, Mg, Gm, bm⟩ := M.ex
  refine F.ok scWr (fun vs H Q E h => ?_) (fun cdv A outer s H vs Q E hr h => ?_)
  · obtain ⟨x, a, m1, m, rfl, _⟩ := h
    rfl
  · have h64 : A.units + 3 + 64 < cLine := by
      have h2 : A.units + 3 + 16 * 4 + 200 < cLine := hr.un
      omega
    have r1 : Room 1 _ := hr.mono (by decide)
    have r2 : Room 2 _ := hr.mono (by decide)
    obtain ⟨x, a, m1, m, rfl, hx, ok1, hm, ok, rq, q⟩ := h
    refine ⟨_, pss_cons (ps_set (i := 2) scWr.nd rfl (.inl rfl) (pe_call G1 r1 (by rfl) m1' k1 b1 .nil pass0 (pa_cons pe_str (pa_cons pe_int pa_nil))))
      (pss_cons (ps_if (pt_cmpR (op_neD h64) (pe_lc (own := [("_law_word", 4)]) (g := gName 4) rfl scWr.nd (pi_list (pv 2)) (blkOk_by (N := nWr) (sc := defScope sWr) (by decide +kernel))
          (fun _ _ _ _ _ => pg_name (i := 4) scWr.nd rfl (Or.inl rfl)) (fun _ _ _ _ _ => pts_one (pt_cmpR (op_in_own (n := 4) ⟨gc, dc, DC, GC, bC⟩ hr) (pv 4) (pv 0) (by rfl))) (fun _ _ _ _ _ => pv 4))
        (pe_lc (own := [("_law_word", 4)]) (g := gName 4) rfl scWr.nd (pi_list (pv 2)) (blkOk_by (N := nWr) (sc := defScope sWr) (by decide +kernel))
          (fun _ _ _ _ _ => pg_name (i := 4) scWr.nd rfl (Or.inl rfl)) (fun _ _ _ _ _ => pts_one (pt_val (pe_call G2 r2 (by rfl) m2' k2 b2 .nil pass0 (pa_cons (pv 1) (pa_cons (pv 4) pa_nil))))) (fun _ _ _ _ _ => pv 4)) (nomark _)) (pss_one (ps_ret pe_bl)) pss_nil)
      (pss_cons (ps_set (i := 3) scWr.nd rfl (.inl rfl) (pe_tup (pa_cons pe_int (pa_cons pe_int (pa_cons pe_int (pa_cons pe_int pa_nil))))))
      (pss_one (ps_ret (pe_cmpR (op_eqD h64) (pe_lc (own := [("_law_many", 5)]) (g := gName 5) (tt := tYes) rfl scWr.nd (pi_tup (pv 3)) (blkOk_by (N := nWr) (sc := defScope sWr) (by decide +kernel))
          (fun _ _ _ _ _ => pg_name (i := 5) scWr.nd rfl (Or.inl rfl)) (fun _ _ _ _ _ => pts_nil) (fun _ _ _ _ _ => pe_meth (pv 0) T.cl Mg Gm hr bm .nil pass0 (pa_cons (pv 5) pa_nil)))
        (pe_lc (own := [("_law_many", 5)]) (g := gName 5) (tt := tYes) rfl scWr.nd (pi_tup (pv 3)) (blkOk_by (N := nWr) (sc := defScope sWr) (by decide +kernel))
          (fun _ _ _ _ _ => pg_name (i := 5) scWr.nd rfl (Or.inl rfl)) (fun _ _ _ _ _ => pts_nil) (fun _ _ _ _ _ => pe_call G3 r1 (by rfl) m3' k3 b3 .nil pass0 (pa_cons (pv 1) (pa_cons (pv 5) pa_nil)))) (nomark _)))))), ?_⟩
    have lt1 : ∀ {n : Nat}, n ≤ 3999 → n < sizeLine := fun h1 => by rw [sizeLine_eq]; omega
    obtain ⟨dx, t, hx1, hx2⟩ := id hx
    refine ⟨_, _, rfl, (by decide), (by decide), fun H1 L s1 fL eL => ?_⟩
    let Wl : List Str := allW "abe" 3
    have eL : H1 L = some (.lst (Wl.map V.str)) := eL
    have lW : Wl.length = 40 := all40_len
    have hW : ∀ z ∈ Wl, wB z = true ∧ PyData.strOk z = true ∧ z.length ≤ 4000 := all40
    generalize Wl = Wl at eL lW hW
    have snoc : ∀ i, (h : i < Wl.length) → (Wl.take (i + 1)).filter (fun z => acc m 0 (sgs z)) = (Wl.take i).filter (fun z => acc m 0 (sgs z)) ++ if acc m 0 (sgs Wl[i]) = true then [Wl[i]] else [] := fun i h => by
      rw [List.take_add_one, List.getElem?_eq_getElem h, List.filter_append]
      congr 1
      show List.filter _ [Wl[i]] = _
      cases hb : acc m 0 (sgs Wl[i]) with
      | true => rw [List.filter_cons_of_pos (p := fun z => acc m 0 (sgs z)) hb, if_pos rfl]; rfl
      | false => rw [List.filter_cons_of_neg (p := fun z => acc m 0 (sgs z)) (by rw [hb]; decide), if_neg (by decide)]; rfl
    have okL : ∀ z ∈ Wl.filter (fun z => acc m 0 (sgs z)), PyData.strOk z = true := fun z hz => (hW z (List.mem_filter.mp hz).1).2.1
    have l41 : ∀ i : Nat, (((Wl.take i).filter fun z => acc m 0 (sgs z)).map V.str).length < sizeLine := fun i => lt1 (by
      rw [List.length_map]
      exact Nat.le_trans (List.length_filter_le _ _) (by rw [List.length_take]; omega))
    refine ⟨_, rfl, L, rfl, ⟨_, SqL.of eL⟩, fun C1 hC1 => lc_it (walk_list (K := K) (a := L) (xs := Wl.map V.str)) (fun i H2 => Same H1 H2 ∧ H2 C1 = some (.lst (((Wl.take i).filter fun z => acc m 0 (sgs z)).map V.str))) ⟨Same.new hC1, upd_same⟩ (fun i H2 _ h2 => SqL.of (h2.1 _ _ eL)) ?_ ?_⟩
    · rintro i v H2 H3 hi ⟨s2, e2⟩ ⟨rfl, hv⟩
      rw [List.length_map] at hi
      obtain rfl : V.str Wl[i] = v := by
        rw [List.getElem?_map, List.getElem?_eq_getElem hi] at hv
        exact Option.some.inj hv
      obtain ⟨w1, w2, w3⟩ := hW _ (List.getElem_mem hi)
      have nx := snoc i hi
      refine ⟨rfl, _, rfl, _, rfl, x, dx, _, rfl, (s1.trans s2) _ _ hx1, x, m1, _, rfl, hx.keep (s1.trans s2), ok1.wf, ok1.l1, .inl ⟨Wl[i], rfl, w3, fun H4 s4 => ⟨_, rfl, _, rfl, ?_⟩⟩⟩
      rw [w1, Bool.true_and, rq_acc ok1.wf rq]
      have s24 := s2.trans s4
      have e4 := s4 _ _ e2
      cases hb : acc m 0 (sgs Wl[i]) with
      | true =>
        rw [hb, if_pos rfl] at nx
        refine iteT ⟨_, rfl, _, e4, l41 i, Same.upN s24 hC1, ?_⟩
        rw [upd_same, nx, List.map_append]
        rfl
      | false =>
        rw [hb, if_neg (by decide), List.append_nil] at nx
        refine iteF ⟨s24, ?_⟩
        rw [nx]
        exact e4
    rintro H2 ⟨s2, e2⟩
    rw [List.length_map, List.take_length] at e2
    have eL2 := s2 _ _ eL
    refine ⟨_, rfl, L, rfl, ⟨_, SqL.of eL2⟩, fun C2 hC2 => lc_it (walk_list (K := K) (a := L) (xs := Wl.map V.str)) (fun i H3 => Same H2 H3 ∧ H3 C2 = some (.lst (((Wl.take i).filter fun z => acc m 0 (sgs z)).map V.str))) ⟨Same.new hC2, upd_same⟩ (fun i H3 _ h3 => SqL.of (h3.1 _ _ eL2)) ?_ ?_⟩
    · rintro i v H3 H4 hi ⟨s3, e3⟩ ⟨rfl, hv⟩
      rw [List.length_map] at hi
      obtain rfl : V.str Wl[i] = v := by
        rw [List.getElem?_map, List.getElem?_eq_getElem hi] at hv
        exact Option.some.inj hv
      have nx := snoc i hi
      refine ⟨rfl, _, rfl, _, rfl, a, m, Wl[i], rfl, (hm.keep ((s1.trans s2).trans s3)).sq, ok.wf, ok.l1, _, rfl, ?_⟩
      cases hb : acc m 0 (sgs Wl[i]) with
      | true =>
        rw [hb, if_pos rfl] at nx
        refine iteT ⟨_, rfl, _, e3, l41 i, Same.upN s3 hC2, ?_⟩
        rw [upd_same, nx, List.map_append]
        rfl
      | false =>
        rw [hb, if_neg (by decide), List.append_nil] at nx
        refine iteF ⟨s3, ?_⟩
        rw [nx]
        exact e3
    rintro H3 ⟨s3, e3⟩
    rw [List.length_map, List.take_length] at e3
    refine ⟨_, _, .lst (SqL.of (s3 _ _ e2)) (dpall_strs _), .lst (SqL.of e3) (dpall_strs _), shaped_strsL okL, shaped_strsL okL, _, rfl, ?_⟩
    rw [eqv_lsts, decide_eq_true rfl]
    refine iteF ?_
    have s13 := (s1.trans s2).trans s3
    clear e2 e3 eL eL2 s1 s2 s3 hC1 hC2 snoc okL l41
    refine ⟨(by show 4 ≤ sizeLine; decide), fun T0 hT0 => ?_⟩
    have gen : ∀ nl : List Nat, nl = [0, 2, 5, 30] → ([V.int 0, V.int 2, V.int 5, V.int 30] : List V) = nl.map fun n : Nat => V.int (n : Int) := fun nl e => by rw [e]; rfl
    obtain ⟨nl, hnl⟩ : ∃ nl : List Nat, nl = [0, 2, 5, 30] := ⟨_, rfl⟩
    have eT : (upd H3 T0 (.tup ([V.int 0, V.int 2, V.int 5, V.int 30] : List V))) T0 = some (.tup (nl.map fun n : Nat => V.int (n : Int))) := by rw [upd_same, gen nl hnl]
    have sT := s13.trans (Same.new (o := .tup ([V.int 0, V.int 2, V.int 5, V.int 30] : List V)) hT0)
    have big : ∀ n ∈ nl, n ≤ 200 := by rw [hnl]; decide
    have ln : nl.length = 4 := by rw [hnl]; rfl
    clear gen hnl
    generalize upd H3 T0 (.tup ([V.int 0, V.int 2, V.int 5, V.int 30] : List V)) = H4 at eT sT ⊢
    have at_ : ∀ {i : Nat} {v : V}, (hi : i < nl.length) → (nl.map fun n : Nat => V.int (n : Int))[i]? = some v → V.int (nl[i] : Nat) = v := fun {i v} hi hv => by
      rw [List.getElem?_map, List.getElem?_eq_getElem hi] at hv
      exact Option.some.inj hv
    have nx : ∀ i, (h : i < nl.length) → (nl.take (i + 1)).map (fun n => V.int (cnt m n 0)) = (nl.take i).map (fun n => V.int (cnt m n 0)) ++ [V.int (cnt m nl[i] 0)] := fun i h => by
      rw [List.take_add_one, List.getElem?_eq_getElem h, List.map_append]
      rfl
    have l4 : ∀ i : Nat, ((nl.take i).map fun n => V.int (cnt m n 0)).length < sizeLine := fun i => lt1 (by rw [List.length_map, List.length_take]; omega)
    refine ⟨_, rfl, T0, rfl, ⟨_, SqT.of eT⟩, fun C1 hC1 => lc_it (walk_tup (K := K) (a := T0) (xs := nl.map fun n : Nat => V.int (n : Int))) (fun i H5 => Same H4 H5 ∧ H5 C1 = some (.lst ((nl.take i).map fun n => V.int (cnt m n 0)))) ⟨Same.new hC1, upd_same⟩ (fun i H5 _ h5 => SqT.of (h5.1 _ _ eT)) ?_ ?_⟩
    · rintro i v H5 H6 hi ⟨s5, e5⟩ ⟨rfl, hv⟩
      rw [List.length_map] at hi
      obtain rfl := at_ hi hv
      refine ⟨rfl, _, rfl, x, dx, _, rfl, (sT.trans s5) _ _ hx1, rfl, _, rfl, x, m1, nl[i], rfl, hx.keep (sT.trans s5), ok1.wf, ok1.l1, ok1.l40, ok1.l5, big _ (List.getElem_mem hi), fun H7 s7 => ⟨_, s7 _ _ e5, l4 i, Same.upN (s5.trans s7) hC1, ?_⟩⟩
      rw [upd_same, nx i hi, rq_cnt rq]
    rintro H5 ⟨s5, e5⟩
    rw [List.length_map, List.take_length] at e5
    have eT5 := s5 _ _ eT
    refine ⟨_, rfl, T0, rfl, ⟨_, SqT.of eT5⟩, fun C2 hC2 => lc_it (walk_tup (K := K) (a := T0) (xs := nl.map fun n : Nat => V.int (n : Int))) (fun i H6 => Same H5 H6 ∧ H6 C2 = some (.lst ((nl.take i).map fun n => V.int (cnt m n 0)))) ⟨Same.new hC2, upd_same⟩ (fun i H6 _ h6 => SqT.of (h6.1 _ _ eT5)) ?_ ?_⟩
    · rintro i v H6 H7 hi ⟨s6, e6⟩ ⟨rfl, hv⟩
      rw [List.length_map] at hi
      obtain rfl := at_ hi hv
      refine ⟨rfl, _, rfl, _, rfl, a, m, nl[i], rfl, hm.keep ((sT.trans s5).trans s6), ok.wf, ok.l1, ok.l40, big _ (List.getElem_mem hi), fun H8 s8 => ⟨_, s8 _ _ e6, l4 i, Same.upN (s6.trans s8) hC2, ?_⟩⟩
      rw [upd_same, nx i hi]
    rintro H6 ⟨s6, e6⟩
    rw [List.length_map, List.take_length] at e6
    have em : (nl.map fun n => V.int (cnt m n 0)) = (nl.map fun n => cnt m n 0).map V.int := by rw [List.map_map]; rfl
    rw [em] at e5 e6
    refine ⟨_, _, .lst (SqL.of (s6 _ _ e5)) (dpall_ints _), .lst (SqL.of e6) (dpall_ints _), shaped_ints _, shaped_ints _, ?_⟩
    rw [eqv_intL, decide_eq_true rfl]
    exact q _ ((sT.trans s5).trans s6)
end
end Mk

set_option Elab.async false
set_option linter.all false
set_option maxRecDepth 100000
set_option maxHeartbeats 4000000
/-! a drawn change -/
namespace Mk
open PySem PySem.Spec L2 PyProof.Rows

abbrev sDch : Stmt := top 68
abbrev nDch : List Str := ["_law_purse", "_law_states", "_law_state", "_law_signs", "_law_way", "_law_to"]
theorem LsAt.nep {H : Hp} {a p : Addr} {m : Mch} {n : Nat} (h : LsAt H a m) (l1 : 1 ≤ m.length) (P : Pot H p n) : a ≠ p := by
  rintro rfl
  obtain ⟨ss, e, pt⟩ := h
  obtain ⟨u, mm, c, e2, _⟩ := P
  have l := Paired.length pt
  rw [e] at e2
  have e2 := Option.some.inj e2
  injection e2 with e2
  cases ss with
  | nil =>
    have l : 0 = m.length := l
    omega
  | cons x r => cases e2
theorem LsAt.butP {H H' : Hp} {a p : Addr} {m : Mch} {n : Nat} (h : LsAt H a m) (l1 : 1 ≤ m.length) (k : But p H H') (P : Pot H p n) : LsAt H' a m := by
  have na := h.nep l1 P
  obtain ⟨ss, e, pt⟩ := h
  exact ⟨ss, k _ _ na e, L2.Paired.mapP pt fun _ _ e => e.butP k P⟩
theorem Pot.keep {H H' : Hp} {p : Addr} {n : Nat} (h : Pot H p n) (k : Same H H') : Pot H' p n := by
  obtain ⟨u, m, c, e, r⟩ := h
  exact ⟨u, m, c, k _ _ e, r⟩
theorem But.new_of {H H' : Hp} {p c : Addr} {n : Nat} (k : But p H H') (P : Pot H' p n) (h : H' c = none) : H c = none ∧ c ≠ p := by
  have nc : c ≠ p := fun e => by
    obtain ⟨_, _, _, e2, _⟩ := P
    rw [e, e2] at h
    cases h
  refine ⟨?_, nc⟩
  cases e : H c with
  | none => rfl
  | some o =>
    rw [k c o nc e] at h
    cases h
theorem join_v {b : Bool} {te1 te2 : TE} {σ : L2.St} {H : Hp} {C : VK} (R : V → Hp → Prop) (hC : ∀ z H', R z H' → C z H') (h1 : b = true → (∀ z H', R z H' → C z H') → te1 σ H C) (h2 : b = false → (∀ z H', R z H' → C z H') → te2 σ H C) :
    (fun (c : Bool) (H1 : Hp) => if c = true then te1 σ H1 C else te2 σ H1 C) b H := by
  cases b with
  | true => exact iteT (h1 rfl hC)
  | false => exact iteF (h2 rfl hC)
def spDch : Sp := fun vs H Q _ => ∃ (p a : Addr) (n : Nat) (m : Mch), vs = [.ref p, .ref a] ∧ Pot H p n ∧ n + 10 < PB ∧ LsAt H a m ∧ MOk m ∧ ∀ H' c g, But p H H' → Pot H' p (n + 5) → H c = none → c ≠ p → H' c = some (Chg.obj g) → g.ok m → Q (.ref c) H'
section
variable {P : Program} {w : World} {K : PySem.W.Frag} {mg : Str → Option Value} {base : Heap}
theorem scDch : FnScope nDch ["_law_purse", "_law_states"] (defScope sDch) := ⟨rfl, rfl, rfl, by decide +kernel, rfl, by decide +kernel, by decide +kernel⟩
theorem abe_sg : ∀ y ∈ (["a", "b", "e"] : List Str), sgB y = true := by decide +kernel
theorem ok_dch {f : Addr} {fd : FuncData} (F : Fun K "_law_drawn_change" "_law_drawn_change" sDch f fd) (B : Bn mg) (O : On mg) (D : Cd P w K mg base 1 "_law_coin" ["_law_purse", "_law_total"] spDip) (J : Cd P w K mg base 2 "_law_pick" ["_law_purse", "_law_items"] (spPick2 K)) : FnOk P w K mg base CX0 3 f fd ["_law_purse", "_law_states"] spDch := by
  obtain ⟨a1, d1, G1, m1, k1, b1⟩ := D.ex
  obtain ⟨a2, d2, G2, m2, k2, b2⟩ := J.ex
  refine F.ok scDch (fun vs H Q E h => ?_) (fun cdv A outer s H vs Q E hr h => ?_)
  · obtain ⟨p, a, n, m, rfl, _⟩ := h
    rfl
  · have r1 : Room 1 _ := hr.mono (by decide)
    obtain ⟨p, a, n, m, rfl, hp, hn, hm, ok, q⟩ := h
    refine ⟨_, pss_cons (ps_par (i := 2) (j := 3) rfl scDch.nd rfl rfl (by decide) rfl rfl (pa_cons (pe_call G1 r1 (by rfl) m1 k1 b1 .nil pass0 (pa_cons (pv 0) (pa_cons (pe_callB call_len_seq (by rfl) B.len PySem.boot_len (pa_cons (pv 1) pa_nil)) pa_nil)))
        (pa_cons (pe_op op_cat (pe_callB (call_sortedD rfl) (by rfl) O.sorted (by decide +kernel) (pa_cons (pe_ix ix_tup (pe_ix ix_list (pv 1) pe_int (fun _ _ => rfl)) pe_int (fun _ _ => rfl)) pa_nil)) (pe_lst (pa_cons pe_str (pa_cons pe_str (pa_cons pe_str pa_nil))))) pa_nil)) (by rfl))
      (pss_cons (ps_set (i := 4) scDch.nd rfl (.inl rfl) (pe_call G1 r1 (by rfl) m1 k1 b1 .nil pass0 (pa_cons (pv 0) (pa_cons pe_int pa_nil))))
      (pss_cons (ps_if (pt_cmpR op_eq (pv 4) pe_int (nomark _)) (pss_one (ps_ret (pe_tup (pa_cons (pv 2) (pa_cons pe_str (pa_cons (pe_cmpR op_eq (pe_call G1 r1 (by rfl) m1 k1 b1 .nil pass0 (pa_cons (pv 0) (pa_cons pe_int pa_nil))) pe_int (nomark _)) pa_nil)))))) pss_nil)
      (pss_cons (ps_set (i := 3) scDch.nd rfl (.inl rfl) (pe_op op_cat (pv 3) (pe_op op_rep (pe_callB (call_sortedD rfl) (by rfl) O.sorted (by decide +kernel) (pa_cons (pe_ix ix_tup (pe_ix ix_list (pv 1) (pv 2) (fun _ _ => rfl)) pe_int (fun _ _ => rfl)) pa_nil)) pe_int)))
      (pss_cons (ps_set (i := 5) scDch.nd rfl (.inl rfl) (pe_ifExp (pt_cmpR op_eq (pv 4) pe_int (nomark _)) pe_non (pe_call G1 r1 (by rfl) m1 k1 b1 .nil pass0 (pa_cons (pv 0) (pa_cons (pe_callB call_len_seq (by rfl) B.len PySem.boot_len (pa_cons (pv 1) pa_nil)) pa_nil)))))
      (pss_one (ps_ret (pe_tup (pa_cons (pv 2) (pa_cons (pe_call G2 hr (by rfl) m2 k2 b2 .nil pass0 (pa_cons (pv 0) (pa_cons (pv 3) pa_nil))) (pa_cons (pv 5) pa_nil)))))))))), ?_⟩
    have nar : ∀ {n : Nat}, n ≤ 3999 → n ≤ sizeLine := fun h1 => by rw [sizeLine_eq]; omega
    have l1 := ok.l1
    have l40 := ok.l40
    obtain ⟨ss, ea, pt⟩ := id hm
    have ls : ss.length = m.length := Paired.length pt
    refine ⟨_, rfl, _, rfl, a, _, rfl, .inl (SqL.of ea), p, n, _, rfl, hp, by omega, by rw [List.length_map]; omega, by rw [List.length_map]; omega, fun H1 k c1 f1 p1 k0 k1' => ?_⟩
    rw [List.length_map, ls] at k1'
    have hm1 := hm.butP l1 c1 hp
    obtain ⟨s0, sx, d, g1, g2, g3, g4⟩ := hm1.at_ (i := 0) ⟨by omega, by omega⟩
    have l5 : ∀ i : Int, (mvs m i).length ≤ 5 := fun i => by
      unfold mvs
      rw [List.getD_eq_getElem?_getD]
      cases e : m[i.toNat]? with
      | none => exact Nat.zero_le _
      | some q0 => exact ok.l5 _ (List.mem_of_getElem? e)
    have sgk : ∀ (i : Int) (ys : List Str), ys.Perm ((mvs m i).map (·.1)) → ys.length ≤ 5 ∧ ∀ y ∈ ys, sgB y = true := fun i ys pm => ⟨by rw [pm.length_eq, List.length_map]; exact l5 i, fun y hy => key_sg ok.wf (pm.mem_iff.mp hy)⟩
    refine ⟨_, rfl, a, _, _, _, rfl, rfl, SqL.of g1, g2, sx, _, 0, _, rfl, rfl, SqT.of g3, at_ofA (j := 0) rfl rfl, d, kvsP (mvs m 0), (mvs m 0).map (·.1), rfl, .inl g4, kvsP_keys _, by rw [List.length_map]; have := l5 0; omega, fun ys A0 perm so hA => ?_⟩
    obtain ⟨ly, sy⟩ := sgk 0 ys perm
    have sA := Same.new (o := .lst (ys.map V.str)) hA
    have eA := (upd_same : upd H1 A0 (.lst (ys.map V.str)) A0 = _)
    generalize upd H1 A0 (.lst (ys.map V.str)) = H2 at sA eA ⊢
    refine ⟨(by show 3 ≤ sizeLine; decide), fun B0 hB => ?_⟩
    have sB := sA.trans (Same.new (o := .lst [V.str "a", V.str "b", V.str "e"]) hB)
    have eA2 := Same.new (o := .lst [V.str "a", V.str "b", V.str "e"]) hB _ _ eA
    have eB := (upd_same : upd H2 B0 (.lst [V.str "a", V.str "b", V.str "e"]) B0 = _)
    generalize upd H2 B0 (.lst [V.str "a", V.str "b", V.str "e"]) = H3 at sB eA2 eB ⊢
    refine ⟨A0, B0, _, _, rfl, rfl, eA2, eB, nar (by rw [List.length_map]; show _ + 3 ≤ 3999; omega), fun C0 hC => ⟨_, _, rfl, ?_⟩⟩
    have eqC : ys.map V.str ++ [V.str "a", V.str "b", V.str "e"] = (ys ++ (["a", "b", "e"] : List Str)).map V.str := by rw [List.map_append]; rfl
    rw [eqC]
    have sy2 : ∀ y ∈ ys ++ (["a", "b", "e"] : List Str), sgB y = true := fun y hy => (List.mem_append.mp hy).elim (sy y) (abe_sg y)
    have ly2 : (ys ++ (["a", "b", "e"] : List Str)).length ≤ 8 := by rw [List.length_append]; show _ + 3 ≤ 8; omega
    have lz : 3 ≤ (ys ++ (["a", "b", "e"] : List Str)).length := by rw [List.length_append]; show 3 ≤ _ + 3; omega
    generalize ys ++ (["a", "b", "e"] : List Str) = zs at sy2 ly2 lz ⊢
    have sC := sB.trans (Same.new (o := .lst (zs.map V.str)) hC)
    have eC := (upd_same : upd H3 C0 (.lst (zs.map V.str)) C0 = _)
    generalize upd H3 C0 (.lst (zs.map V.str)) = H4 at sC eC ⊢
    have p4 := p1.keep sC
    have b4 := c1.trans (But.of_same sC)
    have nC : C0 ≠ p := (But.new_of (c1.trans (But.of_same sB)) (p1.keep sB) hC).2
    obtain ⟨st, rfl⟩ : ∃ st : Nat, k = (st : Int) := ⟨k.toNat, by omega⟩
    have stl : st < m.length := by omega
    refine ⟨_, rfl, p, n + 1, 4, rfl, p4, by omega, by decide, by decide, fun H5 w5 c5 f5 p5 w0 w1 => ?_⟩
    have b5 := b4.trans c5
    have eC5 := c5 _ _ nC eC
    refine ⟨_, rfl, rfl, _, rfl, ?_⟩
    refine ite2 (fun h => ?_) (fun h => ?_)
    · refine ⟨_, rfl, _, rfl, p, n + 1 + 1, 2, rfl, p5, by omega, by decide, by decide, fun H6 z6 c6 f6 p6 z0 z1 => ⟨rfl, (by show 3 ≤ sizeLine; decide), fun T hT => ?_⟩⟩
      obtain ⟨hT0, nT⟩ := But.new_of (b5.trans c6) p6 hT
      exact q _ T (.la st (decide (V.int z6 = V.int 0))) ((b5.trans c6).trans (But.of_same (Same.new hT))) ((p6.keep (Same.new hT)).mono (by omega)) hT0 nT upd_same stl
    · have hm5 := hm.butP l1 b5 hp
      obtain ⟨s0', sx', d', g1', g2', g3', g4'⟩ := hm5.at_ (i := (st : Int)) ⟨by omega, by omega⟩
      refine ⟨_, rfl, _, rfl, _, rfl, a, _, _, _, rfl, rfl, SqL.of g1', g2', sx', _, 0, _, rfl, rfl, SqT.of g3', at_ofA (j := 0) rfl rfl, d', kvsP (mvs m (st : Int)), (mvs m (st : Int)).map (·.1), rfl, .inl g4', kvsP_keys _, by rw [List.length_map]; have := l5 (st : Int); omega, fun ys A1 perm2 so2 hA1 => ?_⟩
      obtain ⟨ly, sy⟩ := sgk (st : Int) ys perm2
      have sD := Same.new (o := .lst (ys.map V.str)) hA1
      have eD := (upd_same : upd H5 A1 (.lst (ys.map V.str)) A1 = _)
      generalize upd H5 A1 (.lst (ys.map V.str)) = H6 at sD eD ⊢
      refine ⟨A1, 2, _, rfl, rfl, eD, by decide, by decide, nar (by rw [List.length_map]; show _ * 2 ≤ 3999; omega), fun R0 hR => ?_⟩
      have e2 : (List.replicate (2 : Int).toNat (ys.map V.str)).flatten = (ys ++ ys).map V.str := by
        show (ys.map V.str) ++ ((ys.map V.str) ++ []) = _
        rw [List.append_nil, List.map_append]
      rw [e2]
      have sE := sD.trans (Same.new (o := .lst ((ys ++ ys).map V.str)) hR)
      have eR := (upd_same : upd H6 R0 (.lst ((ys ++ ys).map V.str)) R0 = _)
      generalize upd H6 R0 (.lst ((ys ++ ys).map V.str)) = H7 at sE eR ⊢
      refine ⟨C0, R0, _, _, rfl, rfl, sE _ _ eC5, eR, nar (by rw [List.length_map, List.length_map, List.length_append]; omega), fun Z0 hZ => ?_⟩
      rw [← List.map_append]
      have sy3 : ∀ y ∈ zs ++ (ys ++ ys), sgB y = true := fun y hy => (List.mem_append.mp hy).elim (sy2 y) fun h => (List.mem_append.mp h).elim (sy y) (sy y)
      have ly3 : (zs ++ (ys ++ ys)).length ≤ 18 := by rw [List.length_append, List.length_append]; omega
      have lz0 : 3 ≤ zs.length := lz
      have ly4 : 0 < (zs ++ (ys ++ ys)).length := by rw [List.length_append]; omega
      generalize zs ++ (ys ++ ys) = xs at sy3 ly3 ly4 ⊢
      have sF := sE.trans (Same.new (o := .lst (xs.map V.str)) hZ)
      have eZ := (upd_same : upd H7 Z0 (.lst (xs.map V.str)) Z0 = _)
      have b7 := b5.trans (But.of_same sE)
      have p7 := p5.keep sE
      obtain ⟨_, nZ⟩ := But.new_of b7 p7 hZ
      generalize upd H7 Z0 (.lst (xs.map V.str)) = H8 at sF eZ ⊢
      have b8 := b5.trans (But.of_same sF)
      have p8 := p5.keep sF
      refine ⟨_, rfl, rfl, _, rfl, ?_⟩
      refine join_v (fun z H9 => ∃ to : Option Int, z = oV to ∧ But p H8 H9 ∧ Pot H9 p (n + 3) ∧ ∀ j, to = some j → 0 ≤ j ∧ j < m.length) ?_ ?_ ?_
      · rintro z H9 ⟨to, rfl, c9, p9, hto⟩
        refine ⟨_, rfl, _, rfl, _, rfl, p, n + 3, p9, by omega, .inl ⟨Z0, xs.map V.str, rfl, nZ, c9 _ _ nZ eZ, by rw [List.length_map]; exact ly4, by rw [List.length_map]; omega, fun H10 v nx hv => ?_⟩⟩
        obtain ⟨y, hy, rfl⟩ := List.mem_map.mp hv
        obtain ⟨c10, _, p10⟩ := nx
        refine ⟨_, rfl, (by show 3 ≤ sizeLine; decide), fun T hT => ?_⟩
        have b10 := (b8.trans c9).trans c10
        obtain ⟨hT0, nT⟩ := But.new_of b10 p10 hT
        exact q _ T (.mv st y to) (b10.trans (But.of_same (Same.new hT))) ((p10.keep (Same.new hT)).mono (by omega)) hT0 nT upd_same ⟨stl, sy3 y hy, hto⟩
      · intro _ hC
        exact hC _ _ ⟨none, rfl, But.refl, p8.mono (by omega), fun j h => nomatch h⟩
      · intro _ hC
        have hm8 := hm.butP l1 b8 hp
        obtain ⟨ss8, ea8, pt8⟩ := id hm8
        have ls8 : ss8.length = m.length := Paired.length pt8
        refine ⟨_, rfl, _, rfl, a, _, rfl, .inl (SqL.of ea8), p, n + 2, _, rfl, p8, by omega, by rw [List.length_map]; omega, by rw [List.length_map]; omega, fun H9 k2 c9 f9 p9 j0 j1 => hC _ _ ⟨some k2, rfl, c9, p9, fun j h => ?_⟩⟩
        cases h
        rw [List.length_map, ls8] at j1
        exact ⟨j0, j1⟩
end
end Mk

set_option Elab.async false
set_option linter.all false
set_option maxRecDepth 100000
set_option maxHeartbeats 4000000
/-! a drawn start -/
namespace Mk
open PySem PySem.Spec L2 PyProof.Rows

abbrev sDrw : Stmt := top 67
abbrev nDrw : List Str := ["_law_purse", "_law_states", "_law_words", "_law_turn", "_law_form", "_law_spot"]
theorem abe_w : ∀ y ∈ sgs "abe", wB y = true ∧ y.length = 1 := by decide +kernel
theorem Rq.good {m m' : Mch} (h : Rq m m') (g : GoodM m) : GoodM m' := ⟨h.wf g.wf, by rw [← h.len]; exact g.ne, fun i hi => h.usf (g.rc i (by rw [h.len]; exact hi))⟩
theorem GoodM.ok {m : Mch} (g : GoodM m) (h : m.length ≤ 40) : MOk m := ⟨g.wf, g.ne, h, g.wf.l5⟩
theorem sum_le {α : Type} {f : α → Nat} {c : Nat} : ∀ {l : List α}, (∀ x ∈ l, f x ≤ c) → (l.map f).sum ≤ l.length * c
  | [], _ => Nat.zero_le _
  | a :: l, h => by
    have h1 := h a List.mem_cons_self
    have h2 := sum_le (l := l) fun x hx => h x (List.mem_cons_of_mem _ hx)
    rw [List.map_cons, List.sum_cons, List.length_cons, Nat.add_mul, Nat.one_mul]
    omega
theorem mow_few {zs ws : List Str} (a : Asc zs ws) (hz : ∀ z ∈ zs, z.length ≤ 4) (l4 : zs.length ≤ 4) (ne : zs ≠ []) : ∃ p, mow 41 ([ws], []) = some p := by
  have nw : ws ≠ [] := fun e => by
    cases zs with
    | nil => exact ne rfl
    | cons x r =>
      have := (a.mem x).mpr List.mem_cons_self
      rw [e] at this
      cases this
  refine mow_some ?_ 41 _ (mow_start nw)
  rw [RR_len]
  have h1 := sum_le (f := fun z : Str => z.length + 1) (c := 5) (l := ws) fun x hx => by
    have := hz x ((a.mem x).mp hx)
    show x.length + 1 ≤ 5
    omega
  have := a.len
  omega
/-- a form and its record -/
structure Pr13 (C : Addr) (H : Hp) (x L : Addr) (m1 ml : Mch) : Prop where
  fm : FmAt C H x m1
  ls : LsAt H L ml
  rq : Rq m1 ml
  gd : GoodM m1
  l40 : m1.length ≤ 40
def spDrw (C : Addr) : Sp := fun vs H Q _ => ∃ (p : Addr) (n : Nat), vs = [.ref p] ∧ Pot H p n ∧ n + 300 < PB ∧ ∀ H' R x L m1 ml, But p H H' → Pot H' p (n + 200) → H' R = some (.lst [.ref x, .ref L]) → Pr13 C H' x L m1 ml → Q (.ref R) H'
section
variable {P : Program} {w : World} {K : PySem.W.Frag} {mg : Str → Option Value} {base : Heap} {C : Addr}
theorem scDrw : FnScope nDrw ["_law_purse"] (defScope sDrw) := ⟨rfl, rfl, rfl, by decide +kernel, rfl, by decide +kernel, by decide +kernel⟩
theorem ok_drw {f fi fs gs pr ge : Addr} {fd fdi ds : FuncData} {mc : Value} (F : Fun K "_law_drawn_start" "_law_drawn_start" sDrw f fd) (B : Bn mg) (O : On mg) (T : Fc K C) (mF : mg "Form" = some (.ref C)) (D : Cd P w K mg base 1 "_law_coin" ["_law_purse", "_law_total"] spDip) (J : Cd P w K mg base 2 "_law_pick" ["_law_purse", "_law_items"] (spPick2 K)) (J2 : Cd P w K mg base 4 "_law_drawn_states" ["_law_purse", "_law_most"] spDst) (M : L2.Mk K C fi) (G : FnOk P w K mg base CX0 5 fi fdi ["self", "states"] (spFInit C)) (b : Binds K fdi ["self", "states"] []) (rd : ClX.CRead K C mc) (cmt : ClX.CMet K C mc "of_words" pr ge) (E1 : FnR P w K mg base CX0 7 ge (spOfW C)) (Os : PropOf K C "states" fs gs) (Gs : FnOk P w K mg base CX0 2 gs ds ["self"] (spFSt C)) (bs : Binds K ds ["self"] []) : FnOk P w K mg base CX0 8 f fd ["_law_purse"] (spDrw C) := by
  obtain ⟨a1, d1, G1, m1, k1, b1⟩ := D.ex
  obtain ⟨a2, d2, G2, m2, k2, b2⟩ := J.ex
  obtain ⟨a3, d3, G3, m3, k3, b3⟩ := J2.ex
  refine F.ok scDrw (fun vs H Q E h => ?_) (fun cdv A outer s H vs Q E hr h => ?_)
  · obtain ⟨p, n, rfl, _⟩ := h
    rfl
  · have r1 : Room 1 _ := hr.mono (by decide)
    have r2 : Room 2 _ := hr.mono (by decide)
    have r3 : Room 3 _ := hr.mono (by decide)
    have r4 : Room 4 _ := hr.mono (by decide)
    have r6 : Room 6 _ := hr.mono (by decide)
    obtain ⟨p, n, rfl, hp, hn, q⟩ := h
    refine ⟨_, pss_cons (ps_if (pt_cmpR op_gt (pe_call G1 r1 (by rfl) m1 k1 b1 .nil pass0 (pa_cons (pv 0) (pa_cons pe_int pa_nil))) pe_int (nomark _))
        (pss_cons (ps_set (i := 1) scDrw.nd rfl (.inl rfl) (pe_call G3 r4 (by rfl) m3 k3 b3 .nil pass0 (pa_cons (pv 0) (pa_cons pe_int pa_nil))))
        (pss_one (ps_ret (pe_lst (pa_cons (pe_make M G r6 (by rfl) mF b .nil pass0 (pa_cons (pv 1) pa_nil)) (pa_cons (pe_callTy call_list_of (by rfl) B.list (by decide +kernel) (pa_cons (pv 1) pa_nil)) pa_nil)))))) pss_nil)
      (pss_cons (ps_set (i := 2) scDrw.nd rfl (.inl rfl) (pe_lst pa_nil))
      (pss_cons (ps_for PassesOwn.never rfl (pi_range1 (by rfl) B.range (pa_cons (pe_op op_add pe_int (pe_call G1 r1 (by rfl) m1 k1 b1 .nil pass0 (pa_cons (pv 0) (pa_cons pe_int pa_nil)))) pa_nil)) (pg_name (i := 3) scDrw.nd rfl (.inl rfl))
        (pss_one (ps_expr (pe_bm PySem.F.plainAttrs_list PySem.F.slot_list_append PySem.F.type_list_append mt_append (pv 2) (pa_cons (pe_join pe_str (pe_lc (own := [("_law_spot", 5)]) (g := gName 5) (tt := tYes) rfl scDrw.nd (pi_range1 (by rfl) B.range (pa_cons (pe_call G1 r1 (by rfl) m1 k1 b1 .nil pass0 (pa_cons (pv 0) (pa_cons pe_int pa_nil))) pa_nil)) (blkOk_by (N := nDrw) (sc := defScope sDrw) (by decide +kernel))
          (fun _ _ _ _ _ => pg_name (i := 5) scDrw.nd rfl (Or.inl rfl)) (fun _ _ _ _ _ => pts_nil)
          (fun _ _ _ _ _ => pe_call G2 r2 (by rfl) m2 k2 b2 .nil pass0 (pa_cons (pv 0) (pa_cons pe_str pa_nil))))) pa_nil)))))
      (pss_cons (ps_set (i := 4) scDrw.nd rfl (.inl rfl) (ClX.pe_cmeth (pe_glob (v := .ref C) (by rfl) mF rfl) rd cmt E1 hr pass0 (pa_cons (pe_callTy call_tuple_of (by rfl) O.tuple (by decide +kernel) (pa_cons (pv 2) pa_nil)) pa_nil)))
      (pss_one (ps_ret (pe_lst (pa_cons (pv 4) (pa_cons (pe_callTy call_list_of (by rfl) B.list (by decide +kernel) (pa_cons (pe_prop (pv 4) T.cl Os Gs r3 bs .nil pass0 rfl) pa_nil)) pa_nil)))))))), ?_⟩
    have lt1 : ∀ {n : Nat}, n ≤ 3999 → n < sizeLine := fun h1 => by rw [sizeLine_eq]; omega
    refine ⟨_, rfl, p, n, 3, rfl, hp, by omega, by decide, by decide, fun H1 z1 c1 f1 p1 z0 z3 => ?_⟩
    refine ⟨_, _, rfl, rfl, _, rfl, ?_⟩
    refine ite2 (fun h => ?_) (fun h => ?_)
    · refine ⟨_, rfl, p, n + 1, rfl, p1, by omega, fun H2 r m bb p2 fr nr hr' g lm => ?_⟩
      have b2 := c1.trans bb
      refine ⟨_, rfl, fun x dx hx hdx ne => ?_⟩
      have k3 : Same H2 (upd (upd H2 dx (.own x)) x (.ins C dx [])) := fun b o e => by
        rw [upd_ne (ne_of_none e hx), upd_ne (ne_of_none e hdx)]
        exact e
      refine ⟨x, dx, r, m, rfl, upd_same, hr'.keep k3, g, by omega, g.wf.l5, fun H3 b3 fm => ⟨rfl, ?_⟩⟩
      have k4 : Same H2 H3 := fun b o e => b3 b o (ne_of_none e hx) (k3 b o e)
      obtain ⟨ss, er, pt⟩ := id hr'
      refine ⟨_, rfl, r, _, rfl, .inr (SqT.of (k4 _ _ er)), fun Lx hLx => ⟨(by show 2 ≤ sizeLine; decide), fun R hR => ?_⟩⟩
      have s5 := Same.new (o := .lst (ss.map V.ref)) hLx
      have eL := (upd_same : upd H3 Lx (.lst (ss.map V.ref)) Lx = _)
      generalize upd H3 Lx (.lst (ss.map V.ref)) = H4 at s5 eL hR ⊢
      have s6 := Same.new (o := .lst [V.ref x, V.ref Lx]) hR
      have s26 := k4.trans (s5.trans s6)
      have rs := Rq.srt g.wf
      exact q _ R x Lx (srtM m) m (b2.trans (But.of_same s26)) ((p2.keep s26).mono (by omega)) upd_same ⟨fm.keep (s5.trans s6), ⟨ss, s6 _ _ eL, L2.Paired.mapP pt fun _ _ e => e.keep s26⟩, rs, rs.symm.good g, by rw [srtM_len]; omega⟩
    · refine ⟨(by show 0 ≤ sizeLine; decide), fun W hW => ?_⟩
      obtain ⟨hW0, nW⟩ := But.new_of c1 p1 hW
      have c2 := c1.trans (But.of_same (Same.new (o := .lst []) hW))
      have p2 := p1.keep (Same.new (o := .lst []) hW)
      have eW := (upd_same : upd H1 W (.lst []) W = _)
      generalize upd H1 W (.lst []) = H2 at c2 p2 eW ⊢
      refine ⟨_, rfl, p, n + 1, 4, rfl, p2, by omega, by decide, by decide, fun H3 z2 c3 f3 p3 y0 y4 => ?_⟩
      have c3' := c2.trans c3
      have eW3 := c3 _ _ nW eW
      refine ⟨_, _, rfl, rfl, _, rfl, by omega, by omega, for_range (lo := 0) (n := Int.toNat _) (fun i σ H4 => ∃ (o3 : Option V) (zs : List Str), σ = [some (.ref p), none, some (.ref W), o3, none, none] ∧ But p H H4 ∧ Pot H4 p (n + 2 + 5 * i) ∧ H4 W = some (.lst (zs.map V.str)) ∧ zs.length = i ∧ ∀ z ∈ zs, IsW z ∧ z.length ≤ 4) ⟨_, [], rfl, c3', p3.mono (by omega), eW3, rfl, fun _ h => nomatch h⟩ ?_ ?_⟩
      · rintro i σ H4 hi ⟨o3, zs, rfl, c4, p4, eW4, lz, hz⟩
        refine ⟨_, rfl, .inl ⟨rfl, _, SqL.of eW4⟩, ⟨_, rfl⟩, _, rfl, p, n + 2 + 5 * i, 5, rfl, p4, by omega, by decide, by decide, fun H5 k c5 f5 p5 k0 k5 => ⟨k, rfl, by omega, by omega, fun Dq hD => ?_⟩⟩
        obtain ⟨_, nD⟩ := But.new_of (c4.trans c5) p5 hD
        have eW5 := c5 _ _ nW eW4
        have nWD : W ≠ Dq := ne_of_none eW5 hD
        have i4 : i < 4 := by omega
        refine lc_range (lo := 0) (n := k.toNat) (fun j H6 => ∃ ys : List Str, But p H5 H6 ∧ H6 Dq = some (.lst (ys.map V.str)) ∧ ys.length = j ∧ (∀ y ∈ ys, IsW y ∧ y.length = 1) ∧ Pot H6 p (n + 2 + 5 * i + 1 + j)) ?_ ?_ ?_
        · exact ⟨[], But.up .refl hD, upd_same, rfl, (fun _ h => nomatch h), p5.up nD.symm⟩
        · rintro j H6 hj ⟨ys, hB, h1, hl, hw, hP2⟩
          refine ⟨rfl, _, rfl, p, _, hP2, by omega, .inr ⟨_, rfl, by decide, by decide, fun H7 y hN hy => ?_⟩⟩
          obtain ⟨w1, w2⟩ := abe_w y hy
          refine ⟨ys.map V.str, hN.but _ _ nD h1, lt1 (by rw [List.length_map, hl]; omega), ys ++ [y], But.up (hB.trans hN.but) hD, ?_, ?_, ?_, hN.pot.up nD.symm⟩
          · rw [upd_same, List.map_append]
            rfl
          · rw [List.length_append, hl]
            rfl
          · intro y' hy'
            rcases List.mem_append.mp hy' with hy' | hy'
            · exact hw y' hy'
            · rw [List.mem_singleton.mp hy']
              exact ⟨isW_of w1, w2⟩
        · rintro H6 ⟨ys, hB, h1, hl, hw, hP2⟩
          have hsum := sum_one (ys := ys) fun y hy => (hw y hy).2
          have eW6 := hB _ _ nW eW5
          refine ⟨_, Dq, ys, rfl, rfl, .inl (SqL.of h1), ?_, W, _, _, rfl, rfl, eW6, lt1 (by rw [List.length_map]; omega), _, zs ++ [Txt.join "" ys], rfl, But.up ((c4.trans c5).trans hB) hW0, (hP2.up nW.symm).mono (by omega), ?_, ?_, ?_⟩
          · rw [hsum, hl]
            show k.toNat + k.toNat * 0 ≤ 16777216
            omega
          · rw [upd_same, List.map_append]
            rfl
          · rw [List.length_append, lz]
            rfl
          · intro z' hz'
            rcases List.mem_append.mp hz' with hz' | hz'
            · exact hz z' hz'
            · rw [List.mem_singleton.mp hz']
              refine ⟨isW_join fun y hy => (hw y hy).1, ?_⟩
              rw [len_join, hsum, hl]
              omega
      rintro σ H4 ⟨o3, zs, rfl, c4, p4, eW4, lz, hz⟩
      have lz1 : 1 ≤ zs.length := by omega
      have lz4 : zs.length ≤ 4 := by omega
      have nez : zs ≠ [] := fun e => by rw [e] at lz1; exact absurd lz1 (by decide)
      refine ⟨rfl, _, rfl, W, _, rfl, .inl ⟨SqL.of eW4, fun r hr' => ?_⟩⟩
      have sr := Same.new (o := .tup (zs.map V.str)) hr'
      refine ⟨r, zs, rfl, upd_same, fun z h => ⟨(hz z h).1, by have := (hz z h).2; omega⟩, nez, by omega, fun ws asc => mow_few asc (fun z h => (hz z h).2) lz4 nez, fun H5 x ws pp s5 fx asc em fm => ?_⟩
      have wd := asc.wd fun z h => ⟨(hz z h).1, by have := (hz z h).2; omega⟩
      have nw : ws ≠ [] := fun e => by
        cases zs with
        | nil => exact nez rfl
        | cons y r =>
          have := (asc.mem y).mpr List.mem_cons_self
          rw [e] at this
          cases this
      obtain ⟨g, l40, _, _⟩ := mow_good wd nw em
      obtain ⟨dx, t, hx1, hx2⟩ := id fm
      refine ⟨_, rfl, _, rfl, x, dx, _, rfl, hx1, x, pp.2, rfl, fm, g.wf, l40, g.wf.l5, fun H6 r6 s6 f6 hr6 => ?_⟩
      obtain ⟨ss, er, pt⟩ := id hr6
      refine ⟨r6, _, rfl, .inr (SqT.of er), fun Lx hLx => ⟨(by show 2 ≤ sizeLine; decide), fun R hR => ?_⟩⟩
      have s7 := Same.new (o := .lst (ss.map V.ref)) hLx
      have eL := (upd_same : upd H6 Lx (.lst (ss.map V.ref)) Lx = _)
      generalize upd H6 Lx (.lst (ss.map V.ref)) = H7 at s7 eL hR ⊢
      have s8 := Same.new (o := .lst [V.ref x, V.ref Lx]) hR
      have s48 := sr.trans (s5.trans (s6.trans (s7.trans s8)))
      exact q _ R x Lx pp.2 (srtM pp.2) (c4.trans (But.of_same s48)) ((p4.keep s48).mono (by omega)) upd_same ⟨fm.keep (s6.trans (s7.trans s8)), ⟨ss, s8 _ _ eL, L2.Paired.mapP pt fun _ _ e => e.keep (s7.trans s8)⟩, (Rq.srt g.wf).symm, g, l40⟩
end
end Mk

set_option Elab.async false
set_option linter.all false
set_option maxRecDepth 100000
set_option maxHeartbeats 4000000
/-! a history: its state, and its text's reading -/
namespace Mk
open PySem PySem.Spec L2 PyProof.Rows

abbrev sAlr : Stmt := top 72
abbrev nAlr : List Str := ["_law_purse", "_law_form", "_law_states", "_law_elder", "_law_turn", "_law_change", "_law_later", "_law_told", "_law_before", "_law_after", "_law_one"]
/-- all but lists is kept -/
def KP (H H' : Hp) : Prop := ∀ b o, H b = some o → (∀ xs, o ≠ .lst xs) → H' b = some o
theorem KP.of {H H' : Hp} (k : Same H H') : KP H H' := fun b o e _ => k b o e
theorem KP.but {H H' : Hp} {p : Addr} {n : Nat} (k : But p H H') (P : Pot H p n) : KP H H' := fun b o e nl => by
  obtain ⟨u, m, c, ep, _⟩ := P
  exact k b o (fun z => by rw [z, ep] at e; exact nl _ (Option.some.inj e).symm) e
theorem KP.up {H : Hp} {l : Addr} {xs ys : List V} (e : H l = some (.lst xs)) : KP H (upd H l (.lst ys)) := fun b o eb nl => by
  have : b ≠ l := fun z => by rw [z, e] at eb; exact nl _ (Option.some.inj eb).symm
  rw [upd_ne this]
  exact eb
theorem StA.kp {H H' : Hp} {s : Addr} {q : PTab × Bool} (k : KP H H') (h : StA H s q) : StA H' s q := by
  obtain ⟨d, a, b⟩ := h
  exact ⟨d, k _ _ a (fun _ z => nomatch z), k _ _ b (fun _ z => nomatch z)⟩
theorem MAt.kp {H H' : Hp} {t : Addr} {m : Mch} (k : KP H H') (h : MAt H t m) : MAt H' t m := by
  obtain ⟨ss, a, b⟩ := h
  exact ⟨ss, k _ _ a (fun _ z => nomatch z), L2.Paired.mapP b fun _ _ e => e.kp k⟩
theorem FmAt.kp {C : Addr} {H H' : Hp} {x : Addr} {m : Mch} (k : KP H H') (h : FmAt C H x m) : FmAt C H' x m := by
  obtain ⟨dx, t, a, b⟩ := h
  exact ⟨dx, t, k _ _ a (fun _ z => nomatch z), b.kp k⟩
theorem Chg.obj_nl (g : Chg) : ∀ xs, g.obj ≠ .lst xs := fun xs z => by cases g <;> cases z
/-- one row of the elder forms: the form, its states as shown, the change, the form behind it -/
structure Eld (C : Addr) (H : Hp) (e : Addr) : Prop where
  ex : ∃ (x b c y : Addr) (m1 : Mch) (g : Chg), H e = some (.tup [.ref x, .ref b, .ref c, .ref y]) ∧ FmAt C H x m1 ∧ MAt H b (srtM m1) ∧ H c = some g.obj ∧ FmAt C H y (srtM (fbeh m1 g)) ∧ MOk m1 ∧ g.ok m1 ∧ goodB (fbeh m1 g) = true
theorem Eld.kp {C : Addr} {H H' : Hp} {e : Addr} (k : KP H H') (h : Eld C H e) : Eld C H' e := by
  obtain ⟨x, b, c, y, m1, g, a1, a2, a3, a4, a5, a6, a7, a8⟩ := h
  exact ⟨x, b, c, y, m1, g, k _ _ a1 (fun _ z => nomatch z), a2.kp k, a3.kp k, k _ _ a4 g.obj_nl, a5.kp k, a6, a7, a8⟩
/-- a history as it stands: the form, the record, the elder ones -/
structure His (C : Addr) (H : Hp) (x L E : Addr) (m1 ml : Mch) (es : List Addr) : Prop where
  pr : Pr13 C H x L m1 ml
  ne : L ≠ E
  el : H E = some (.lst (es.map V.ref))
  all : ∀ e ∈ es, Eld C H e
/-- behind a change -/
theorem his_next {m1 ml : Mch} {g : Chg} (rq : Rq m1 ml) (w : WF ml) (ok1 : MOk m1) (hg : g.ok m1) : Rq (srtM (fbeh m1 g)) (beh ml g) := by
  have r := beh_rq w rq (Chg.ok_len hg rq.len)
  exact (Rq.srt (fbeh_ok ok1 hg).wf).trans r
/-- whether the change is refused, by the law's own search -/
theorem his_good {m1 ml : Mch} {g : Chg} {us : List Int} (rq : Rq m1 ml) (w : WF ml) (ok1 : MOk m1) (hg : g.ok m1) (u : UsOk (beh ml g) us) : goodB (fbeh m1 g) = decide (us.length = (beh ml g).length) := by
  have r := beh_rq w rq (Chg.ok_len hg rq.len)
  have k := fbeh_ok ok1 hg
  rw [goodB_us k.wf k.l1 (r.symm.us u), r.len]
theorem srt_ok {m : Mch} (k : MOk m) : MOk (srtM m) := by
  have w := (Rq.srt k.wf).symm.wf k.wf
  exact ⟨w, by rw [srtM_len]; exact k.l1, by rw [srtM_len]; exact k.l40, w.l5⟩
end Mk

set_option Elab.async false
set_option linter.all false
set_option maxRecDepth 100000
set_option maxHeartbeats 8000000
/-! _law_all_right -/
namespace Mk
open PySem PySem.Spec L2 PyProof.Rows

theorem Pr13.l1 {C : Addr} {H : Hp} {x L : Addr} {m1 ml : Mch} (h : Pr13 C H x L m1 ml) : 1 ≤ ml.length := by rw [← h.rq.len]; exact h.gd.ne
theorem Pr13.but {C : Addr} {H H' : Hp} {x L p : Addr} {n : Nat} {m1 ml : Mch} (h : Pr13 C H x L m1 ml) (k : But p H H') (P : Pot H p n) : Pr13 C H' x L m1 ml := ⟨h.fm.kp (KP.but k P), h.ls.butP h.l1 k P, h.rq, h.gd, h.l40⟩
theorem Pr13.keep {C : Addr} {H H' : Hp} {x L : Addr} {m1 ml : Mch} (h : Pr13 C H x L m1 ml) (k : Same H H') : Pr13 C H' x L m1 ml := ⟨h.fm.keep k, h.ls.keep k, h.rq, h.gd, h.l40⟩
theorem His.but {C : Addr} {H H' : Hp} {x L E p : Addr} {n : Nat} {m1 ml : Mch} {es : List Addr} (h : His C H x L E m1 ml es) (k : But p H H') (P : Pot H p n) (nE : E ≠ p) : His C H' x L E m1 ml es := ⟨h.pr.but k P, h.ne, k _ _ nE h.el, fun e he => (h.all e he).kp (KP.but k P)⟩
theorem His.keep {C : Addr} {H H' : Hp} {x L E : Addr} {m1 ml : Mch} {es : List Addr} (h : His C H x L E m1 ml es) (k : Same H H') : His C H' x L E m1 ml es := ⟨h.pr.keep k, h.ne, k _ _ h.el, fun e he => (h.all e he).kp (KP.of k)⟩
theorem MOk.ndm {m : Mch} (k : MOk m) : NdM m := k.wf.nd
theorem eqM_self (m : Mch) : eqM m m = true := decide_eq_true rfl
def spAlr : Sp := fun vs H Q _ => ∃ (p : Addr) (n : Nat), vs = [.ref p] ∧ Pot H p n ∧ n + 1000 < PB ∧ ∀ H', But p H H' → Q (.bl true) H'
section
variable {P : Program} {w : World} {K : PySem.W.Frag} {mg : Str → Option Value} {base : Heap} {C : Addr}
theorem scAlr : FnScope nAlr ["_law_purse"] (defScope sAlr) := ⟨rfl, rfl, rfl, by decide +kernel, rfl, by decide +kernel, by decide +kernel⟩
theorem ok_alr {f fs gs gq : Addr} {fd ds dq : FuncData} (F : Fun K "_law_all_right" "_law_all_right" sAlr f fd) (B : Bn mg) (hRe : mg "repr" = none) (T : Fc K C) (D : Cd P w K mg base 1 "_law_coin" ["_law_purse", "_law_total"] spDip)
    (Js : Cd P w K mg base 8 "_law_drawn_start" ["_law_purse"] (spDrw C)) (Jc : Cd P w K mg base 3 "_law_drawn_change" ["_law_purse", "_law_states"] spDch) (Jb : Cd P w K mg base 1 "_law_behind_change" ["_law_states", "_law_change"] spBch) (Jd : Cd P w K mg base 10 "_law_done_by" ["_law_form", "_law_change"] (spDon C))
    (Ju : Cd P w K mg base 2 "_law_useful_ones" ["_law_raw"] (spUso K)) (Jw : Cd P w K mg base 1 "_law_as_shown" ["_law_states"] spShw) (Jr : Cd P w K mg base 5 "_law_words_right" ["_law_form", "_law_states"] (spWr C))
    (Os : PropOf K C "states" fs gs) (Gs : FnOk P w K mg base CX0 2 gs ds ["self"] (spFSt C)) (bs : Binds K ds ["self"] []) (OE : OwnD K C gq "__eq__") (GE : FnOk P w K mg base CX0 1 gq dq ["self", "other"] (spFEq C K)) (bE : Binds K dq ["self", "other"] []) (NE : NeD K C) : FnG P w K mg base CX0 11 f fd ["_law_purse"] spAlr := by
  obtain ⟨a1, d1, G1, m1, k1, b1⟩ := D.ex
  obtain ⟨a2, d2, G2, m2, k2, b2⟩ := Js.ex
  obtain ⟨a3, d3, G3, m3, k3, b3⟩ := Jc.ex
  obtain ⟨a4, d4, G4, m4, k4, b4⟩ := Jb.ex
  obtain ⟨a5, d5, G5, m5, k5, b5⟩ := Jd.ex
  obtain ⟨a6, d6, G6, m6, k6, b6⟩ := Ju.ex
  obtain ⟨a7, d7, G7, m7, k7, b7⟩ := Jw.ex
  obtain ⟨a8, d8, G8, m8, k8, b8⟩ := Jr.ex
  refine Fun_okG F scAlr (fun vs H Q E h => ?_) (fun cdv A outer s H vs Q E hr gd h => ?_)
  · obtain ⟨p, n, rfl, _⟩ := h
    rfl
  · have h2 : A.units + 3 + 16 * 10 + 200 < cLine := hr.un
    have h64 : A.units + 3 + 64 < cLine := by omega
    have h100 : A.units + 3 + 100 < cLine := by omega
    have r1 : Room 1 _ := hr.mono (by decide)
    have r2 : Room 2 _ := hr.mono (by decide)
    have r3 : Room 3 _ := hr.mono (by decide)
    have r5 : Room 5 _ := hr.mono (by decide)
    have r8 : Room 8 _ := hr.mono (by decide)
    obtain ⟨p, n, rfl, hp, hn, q⟩ := h
    refine ⟨_, pss_cons (ps_asg (pe_call G2 r8 (by rfl) m2 k2 b2 .nil pass0 (pa_cons (pv 0) pa_nil)) (pg_lst rfl (pgs_cons (pg_name (i := 1) scAlr.nd rfl (.inl rfl)) (pgs_cons (pg_name (i := 2) scAlr.nd rfl (.inl rfl)) pgs_nil))))
      (pss_cons (ps_set (i := 3) scAlr.nd rfl (.inl rfl) (pe_lst pa_nil))
      (pss_cons (ps_for PassesOwn.never rfl (pi_range1 (by rfl) B.range (pa_cons (pe_op op_add pe_int (pe_call G1 r1 (by rfl) m1 k1 b1 .nil pass0 (pa_cons (pv 0) (pa_cons pe_int pa_nil)))) pa_nil)) (pg_name (i := 4) scAlr.nd rfl (.inl rfl))
        (pss_cons (ps_set (i := 5) scAlr.nd rfl (.inl rfl) (pe_call G3 r3 (by rfl) m3 k3 b3 .nil pass0 (pa_cons (pv 0) (pa_cons (pv 2) pa_nil))))
        (pss_cons (ps_par (i := 6) (j := 7) rfl scAlr.nd rfl rfl (by decide) rfl rfl (pa_cons (pe_call G4 r1 (by rfl) m4 k4 b4 .nil pass0 (pa_cons (pv 2) (pa_cons (pv 5) pa_nil))) (pa_cons (pe_call G5 hr (by rfl) m5 k5 b5 .nil pass0 (pa_cons (pv 1) (pa_cons (pv 5) pa_nil))) pa_nil)) (by rfl))
        (pss_cons (ps_if (pt_cmpR op_ne (pe_callB call_len_seq (by rfl) B.len PySem.boot_len (pa_cons (pe_call G6 r2 (by rfl) m6 k6 b6 .nil pass0 (pa_cons (pv 6) pa_nil)) pa_nil)) (pe_callB call_len_seq (by rfl) B.len PySem.boot_len (pa_cons (pv 6) pa_nil)) (nomark _))
          (pss_cons (ps_if (pt_cmp (pc_notN (pv 7))) (pss_one (ps_ret pe_bl)) pss_nil) (pss_one ps_continue)) pss_nil)
        (pss_cons (ps_par (i := 8) (j := 9) rfl scAlr.nd rfl rfl (by decide) rfl rfl (pa_cons (pe_call G7 r1 (by rfl) m7 k7 b7 .nil pass0 (pa_cons (pv 2) pa_nil)) (pa_cons (pe_call G7 r1 (by rfl) m7 k7 b7 .nil pass0 (pa_cons (pv 6) pa_nil)) pa_nil)) (by rfl))
        (pss_cons (ps_if (PW.pt (pw_or (pt_cmp (pc_isN (pv 7))) (pw_or (pt_cmpR op_ne (pe_callB (call_reprM gd h100) (by rfl) hRe (by decide +kernel) (pa_cons (pe_prop (pv 7) T.cl Os Gs r3 bs .nil pass0 rfl) pa_nil)) (pe_callB (call_reprM gd h100) (by rfl) hRe (by decide +kernel) (pa_cons (pv 9) pa_nil)) (nomark _)) (pw_or1 (pt_not (pt_val (pe_call G8 r5 (by rfl) m8 k8 b8 .nil pass0 (pa_cons (pv 7) (pa_cons (pv 6) pa_nil))))))))) (pss_one (ps_ret pe_bl)) pss_nil)
        (pss_cons (ps_if (PW.pt (pw_or (pt_cmpR op_ne (pe_cmpR (op_eq_own (n := 1) ⟨gq, dq, OE, GE, bE⟩ r1) (pv 7) (pv 1) (nomark _)) (pe_cmpR (op_eqM h64) (pv 8) (pv 9) (nomark _)) (nomark _)) (pw_or1 (pt_cmpR (op_ne_own (n := 1) ⟨gq, dq, OE, GE, bE⟩ NE r2) (pe_call G5 hr (by rfl) m5 k5 b5 .nil pass0 (pa_cons (pv 1) (pa_cons (pv 5) pa_nil))) (pv 7) (nomark _))))) (pss_one (ps_ret pe_bl)) pss_nil)
        (pss_cons (ps_expr (pe_bm PySem.F.plainAttrs_list PySem.F.slot_list_append PySem.F.type_list_append mt_append (pv 3) (pa_cons (pe_tup (pa_cons (pv 1) (pa_cons (pv 8) (pa_cons (pv 5) (pa_cons (pv 7) pa_nil))))) pa_nil)))
        (pss_one (ps_par (i := 1) (j := 2) rfl scAlr.nd rfl rfl (by decide) rfl rfl (pa_cons (pv 7) (pa_cons (pv 6) pa_nil)) (by rfl)))))))))))
      (pss_cons (ps_for PassesOwn.never rfl (pi_list (pv 3)) (pg_tup rfl (pgs_cons (pg_name (i := 10) scAlr.nd rfl (.inl rfl)) (pgs_cons (pg_name (i := 8) scAlr.nd rfl (.inl rfl)) (pgs_cons (pg_name (i := 5) scAlr.nd rfl (.inl rfl)) (pgs_cons (pg_name (i := 7) scAlr.nd rfl (.inl rfl)) pgs_nil)))))
        (pss_one (ps_if (PW.pt (pw_or (pt_cmpR op_ne (pe_callB (call_reprM gd h100) (by rfl) hRe (by decide +kernel) (pa_cons (pe_prop (pv 10) T.cl Os Gs r3 bs .nil pass0 rfl) pa_nil)) (pe_callB (call_reprM gd h100) (by rfl) hRe (by decide +kernel) (pa_cons (pv 8) pa_nil)) (nomark _)) (pw_or1 (pt_cmpR (op_ne_own (n := 1) ⟨gq, dq, OE, GE, bE⟩ NE r2) (pe_call G5 hr (by rfl) m5 k5 b5 .nil pass0 (pa_cons (pv 10) (pa_cons (pv 5) pa_nil))) (pv 7) (nomark _))))) (pss_one (ps_ret pe_bl)) pss_nil)))
      (pss_one (ps_ret pe_bl))))), ?_⟩
    have lt1 : ∀ {n : Nat}, n ≤ 3999 → n < sizeLine := fun h1 => by rw [sizeLine_eq]; omega
    refine ⟨_, rfl, p, n, rfl, hp, by omega, fun H1 R x0 L0 m10 ml0 c1 p1 eR pr0 => ?_⟩
    refine ⟨R, _, rfl, SqL.of eR, rfl, _, _, rfl, _, _, rfl, rfl, ?_⟩
    refine ⟨(by show 0 ≤ sizeLine; decide), fun El hE => ?_⟩
    have sE := Same.new (o := .lst []) hE
    obtain ⟨hE0, nE⟩ := But.new_of c1 p1 hE
    have c2 := c1.trans (But.of_same sE)
    have p2 := p1.keep sE
    have eE := (upd_same : upd H1 El (.lst []) El = _)
    have pr2 := pr0.keep sE
    have nLE : L0 ≠ El := by
      obtain ⟨_, e, _⟩ := pr0.ls
      exact ne_of_none e hE
    generalize upd H1 El (.lst []) = H2 at c2 p2 eE pr2 ⊢
    clear sE pr0 eR hE
    refine ⟨_, rfl, p, n + 200, 10, rfl, p2, by omega, by decide, by decide, fun H3 z c3 f3 p3 z0 z10 => ?_⟩
    have his3 : His C H3 x0 L0 El m10 ml0 [] := (⟨pr2, nLE, eE, fun _ h => nomatch h⟩ : His C H2 x0 L0 El m10 ml0 []).but c3 p2 nE
    refine ⟨_, _, rfl, rfl, _, rfl, by omega, by omega, for_range (lo := 0) (n := Int.toNat _) (fun i σ H4 => ∃ (o4 o5 o6 o7 o8 o9 : Option V) (x L : Addr) (m1 ml : Mch) (es : List Addr), σ = [some (.ref p), some (.ref x), some (.ref L), some (.ref El), o4, o5, o6, o7, o8, o9, none] ∧ But p H H4 ∧ Pot H4 p (n + 201 + 5 * i) ∧ es.length ≤ i ∧ His C H4 x L El m1 ml es) ⟨_, _, _, _, _, _, x0, L0, m10, ml0, [], rfl, c2.trans c3, p3.mono (by omega), Nat.le_refl _, his3⟩ ?_ ?_⟩
    · rintro i σ H4 hi ⟨o4, o5, o6, o7, o8, o9, x, L, m1, ml, es, rfl, c4, p4, le, his⟩
      have i15 : i < 15 := by omega
      have rq := his.pr.rq
      have ok1 : MOk m1 := his.pr.gd.ok his.pr.l40
      have okl : MOk ml := ⟨rq.wf ok1.wf, his.pr.l1, by rw [← rq.len]; exact ok1.l40, (rq.wf ok1.wf).l5⟩
      refine ⟨_, rfl, _, rfl, p, L, _, ml, rfl, p4, by omega, his.pr.ls, okl, fun H5 c g c5 p5 c0 cp ec hg => ?_⟩
      have his5 := his.but c5 p4 nE
      refine ⟨_, rfl, _, rfl, L, c, ml, g, rfl, his5.pr.ls, okl, ec, hg, fun H6 Lt s6 fLt hLt => ?_⟩
      have hg1 : g.ok m1 := Chg.ok_len hg rq.len.symm
      have okB : MOk (beh ml g) := beh_ok okl hg
      have nLt : Lt ≠ El := (ne_of_none his5.el fLt).symm
      have his6 := his5.keep s6
      have ec6 := s6 _ _ ec
      have c46 := (c4.trans c5).trans (But.of_same s6)
      have p6 := p5.keep s6
      refine ⟨_, rfl, _, rfl, x, c, m1, g, rfl, his6.pr.fm, ok1, ec6, hg1, fun hgood H7 y s7 fy hy => ?_, fun hbad H7 s7 => ?_⟩
      · refine ⟨_, _, rfl, ?_⟩
        have his7 := his6.keep s7
        have hLt7 := hLt.keep s7
        refine ⟨_, rfl, Lt, beh ml g, rfl, hLt7.sq, okB.wf, okB.l1, okB.l40, fun H8 U us s8 fU eU u => ?_⟩
        have hu := his_good rq okl.wf ok1 hg1 u
        rw [hgood] at hu
        have hu : us.length = (beh ml g).length := of_decide_eq_true hu.symm
        obtain ⟨ss, eLt, ptL⟩ := id (hLt7.keep s8)
        have lss : ss.length = (beh ml g).length := Paired.length ptL
        refine ⟨U, _, rfl, .inl (SqL.of eU), _, rfl, Lt, _, rfl, .inl (SqL.of eLt), rfl, _, rfl, ?_⟩
        rw [List.length_map, List.length_map, hu, lss, decide_eq_true rfl]
        refine iteF ?_
        have rq1 := his_next rq okl.wf ok1 hg1
        have okF : MOk (srtM (fbeh m1 g)) := srt_ok (fbeh_ok ok1 hg1)
        have his8 := his7.keep s8
        have hLt8 := hLt7.keep s8
        have hy8 := hy.keep s8
        have ec8 := s8 _ _ (s7 _ _ ec6)
        have p8 := p6.keep (s7.trans s8)
        have c48 := c46.trans (But.of_same (s7.trans s8))
        generalize hm2 : srtM (fbeh m1 g) = m2 at rq1 okF hy8
        have gF : GoodM m2 := by
          rw [← hm2]
          exact ((Rq.srt (fbeh_ok ok1 hg1).wf).symm).good (goodB_good (fbeh_ok ok1 hg1).wf (fbeh_ok ok1 hg1).l1 hgood)
        clear his7 hLt7 hy eLt ptL lss s8 s7 eU fU u hu his6 ec6 p6 c46 hLt
        refine ⟨_, rfl, L, ml, rfl, his8.pr.ls, okl.wf, okl.l40, fun H9 bb s9 fb hb => ?_⟩
        refine ⟨_, rfl, Lt, beh ml g, rfl, hLt8.keep s9, okB.wf, okB.l40, fun H10 aa s10 fa ha => ⟨_, _, rfl, ?_⟩⟩
        have hb10 := hb.keep s10
        have s810 := s9.trans s10
        have hy10 := hy8.keep s810
        have eA : srtM m1 = srtM ml := rq.eq ok1.wf
        have eB : srtM m2 = srtM (beh ml g) := rq1.eq okF.wf
        obtain ⟨dy, ty, hy1, hy2⟩ := id hy10
        refine ⟨_, rfl, _, rfl, iteF ⟨_, rfl, y, dy, _, rfl, hy1, y, m2, rfl, hy10, okF.wf, okF.l40, okF.l5, fun H11 r s11 fr hr11 => ?_⟩⟩
        refine ⟨r, srtM m2, rfl, hr11, srt_ok okF, _, rfl, aa, srtM (beh ml g), rfl, ha.keep s11, srt_ok okB, rfl, _, rfl, ?_⟩
        rw [eB, decide_eq_true rfl]
        have s811 := s810.trans s11
        refine iteF ⟨_, rfl, _, rfl, y, Lt, m2, beh ml g, rfl, hy8.keep s811, okF, hLt8.keep s811, okB, rq1, fun H12 s12 => ⟨_, rfl, iteF ?_⟩⟩
        have s812 := s811.trans s12
        have s1012 := s11.trans s12
        obtain ⟨dx, tx, hx1, hx2⟩ := id (his8.pr.fm.keep s812)
        have hy12 := hy8.keep s812
        obtain ⟨dy', ty', hy1', hy2'⟩ := id hy12
        refine ⟨_, rfl, _, rfl, y, dy', _, rfl, hy1', Rgt.ins hx1, y, m2, .ref x, rfl, hy12, okF.ndm, .inl ⟨x, m1, rfl, his8.pr.fm.keep s812, ok1.ndm, _, rfl, ?_⟩⟩
        refine ⟨_, rfl, _, rfl, bb, aa, srtM ml, srtM (beh ml g), rfl, rfl, hb10.keep s1012, ha.keep s1012, (srt_ok okl).ndm, (srt_ok okB).ndm, rfl, _, rfl, ?_⟩
        have ee : eqM m2 m1 = eqM (srtM ml) (srtM (beh ml g)) := by
          unfold eqM
          rw [eA, eB, srtM_two okl.wf, srtM_two okB.wf, Bool.eq_iff_iff, decide_eq_true_iff, decide_eq_true_iff]
          exact eq_comm
        rw [ee, decide_eq_true rfl]
        refine iteF ?_
        refine ⟨_, rfl, _, rfl, x, c, m1, g, rfl, his8.pr.fm.keep s812, ok1, s812 _ _ ec8, hg1, fun _ H13 y2 s13 fy2 hy2 => ?_, fun hbad => absurd (hgood.symm.trans hbad) (by decide)⟩
        rw [hm2] at hy2
        obtain ⟨dz, tz, hz1, hz2⟩ := id hy2
        have hy13 := hy12.keep s13
        obtain ⟨dw, tw, hw1, hw2⟩ := id hy13
        refine ⟨_, rfl, y2, dz, _, rfl, hz1, Rgt.ins hw1, y2, m2, .ref y, rfl, hy2, okF.ndm, .inl ⟨y, m2, rfl, hy13, okF.ndm, _, rfl, _, rfl, ?_⟩⟩
        rw [eqM_self]
        refine iteF ?_
        have s813 := s812.trans s13
        have his13 := his8.keep s813
        refine ⟨_, rfl, .inl ⟨rfl, _, SqL.of his13.el⟩, _, rfl, _, rfl, _, rfl, _, rfl, (by show 4 ≤ sizeLine; decide), fun Tq hTq => ?_⟩
        have sT := Same.new (o := .tup [V.ref x, V.ref bb, V.ref c, V.ref y]) hTq
        have eT := (upd_same : upd H13 Tq (.tup [V.ref x, V.ref bb, V.ref c, V.ref y]) Tq = _)
        generalize upd H13 Tq (.tup [V.ref x, V.ref bb, V.ref c, V.ref y]) = H14 at sT eT ⊢
        have hisT := his13.keep sT
        have kU : KP H14 (upd H14 El (.lst (es.map V.ref ++ [V.ref Tq]))) := KP.up hisT.el
        refine ⟨El, _, _, rfl, rfl, hisT.el, lt1 (by rw [List.length_map]; omega), _, rfl, _, rfl, _, _, rfl, ?_⟩
        have s814 := s813.trans sT
        have p14 := p8.keep s814
        have nU : ∀ b o, b ≠ El → H14 b = some o → (upd H14 El (.lst (es.map V.ref ++ [V.ref Tq]))) b = some o := fun b o n e => (upd_ne n).trans e
        refine ⟨_, _, _, _, _, _, y, Lt, m2, beh ml g, es ++ [Tq], rfl, But.up (c48.trans (But.of_same s814)) hE0, (p14.up nE.symm).mono (by omega), by rw [List.length_append]; show _ + 1 ≤ _; omega, ⟨⟨(hy8.keep s814).kp kU, ?_, rq1, gF, okF.l40⟩, nLt, by rw [upd_same, List.map_append]; rfl, fun e he => ?_⟩⟩
        · obtain ⟨ss', e', pt'⟩ := hLt8.keep s814
          exact ⟨ss', nU _ _ nLt e', L2.Paired.mapP pt' fun _ _ e => e.kp kU⟩
        · rcases List.mem_append.mp he with he | he
          · exact (hisT.all e he).kp kU
          · rw [List.mem_singleton.mp he]
            refine (⟨x, bb, c, y, m1, g, eT, his8.pr.fm.keep s814, ?_, s814 _ _ ec8, by rw [hm2]; exact hy8.keep s814, ok1, hg1, hgood⟩ : Eld C H14 Tq).kp kU
            rw [eA]
            exact (hb10.keep s1012).keep (s13.trans sT)
      · refine ⟨_, _, rfl, ?_⟩
        have his7 := his6.keep s7
        have hLt7 := hLt.keep s7
        refine ⟨_, rfl, Lt, beh ml g, rfl, hLt7.sq, okB.wf, okB.l1, okB.l40, fun H8 U us s8 fU eU u => ?_⟩
        have hu := his_good rq okl.wf ok1 hg1 u
        rw [hbad] at hu
        have hu : ¬ us.length = (beh ml g).length := of_decide_eq_false hu.symm
        obtain ⟨ss, eLt, ptL⟩ := id (hLt7.keep s8)
        have lss : ss.length = (beh ml g).length := Paired.length ptL
        refine ⟨U, _, rfl, .inl (SqL.of eU), _, rfl, Lt, _, rfl, .inl (SqL.of eLt), rfl, _, rfl, ?_⟩
        rw [List.length_map, List.length_map, lss, decide_eq_false (fun e => hu (by injection e with e; omega))]
        refine iteT ⟨_, rfl, _, rfl, iteF ?_⟩
        exact ⟨_, _, _, _, _, _, x, L, m1, ml, es, rfl, c46.trans (But.of_same (s7.trans s8)), (p6.keep (s7.trans s8)).mono (by omega), by omega, his7.keep s8⟩
    rintro σ H4 ⟨o4, o5, o6, o7, o8, o9, x, L, m1, ml, es, rfl, c4, p4, le, his⟩
    refine ⟨_, rfl, El, rfl, ⟨_, SqL.of his.el⟩, for_list (xs := es.map V.ref) (fun j σ H8 => ∃ (o5 o7 o8 o10 : Option V), σ = [some (.ref p), some (.ref x), some (.ref L), some (.ref El), o4, o5, o6, o7, o8, o9, o10] ∧ Same H4 H8) ⟨_, _, _, _, rfl, fun _ _ e => e⟩ (fun j σ H8 _ h8 => by
      obtain ⟨_, _, _, _, _, s8⟩ := h8
      exact SqL.of (s8 _ _ his.el)) ?_ ?_⟩
    · rintro j v σ H8 hv ⟨o5, o7, o8, o10, rfl, s8⟩
      have jl : j < es.length := by
        have := (List.getElem?_eq_some_iff.mp hv).1
        rwa [List.length_map] at this
      obtain rfl : V.ref es[j] = v := by
        rw [List.getElem?_map, List.getElem?_eq_getElem jl] at hv
        exact Option.some.inj hv
      obtain ⟨x', b, c, y, m1', g, e1, e2, e3, e4, e5, ok1, hg, hgood⟩ := (his.all _ (List.getElem_mem jl)).kp (KP.of s8)
      generalize es[j] = e at e1 ⊢
      have okF : MOk (srtM (fbeh m1' g)) := srt_ok (fbeh_ok ok1 hg)
      generalize hm2 : srtM (fbeh m1' g) = m2 at e5 okF
      obtain ⟨dx, tx, hx1, hx2⟩ := id e2
      refine ⟨e, _, rfl, SqT.of e1, rfl, _, _, rfl, _, _, rfl, _, _, rfl, _, _, rfl, rfl, ?_⟩
      refine ⟨_, rfl, x', dx, _, rfl, hx1, x', m1', rfl, e2, ok1.wf, ok1.l40, ok1.l5, fun H9 r s9 fr hr9 => ?_⟩
      refine ⟨r, srtM m1', rfl, hr9, srt_ok ok1, _, rfl, b, srtM m1', rfl, e3.keep s9, srt_ok ok1, rfl, _, rfl, ?_⟩
      rw [decide_eq_true rfl]
      refine iteF ⟨_, rfl, _, rfl, x', c, m1', g, rfl, e2.keep s9, ok1, s9 _ _ e4, hg, fun _ H10 y2 s10 fy2 hy2 => ?_, fun hbad => absurd (hgood.symm.trans hbad) (by decide)⟩
      rw [hm2] at hy2
      obtain ⟨dz, tz, hz1, hz2⟩ := id hy2
      have hy10 := e5.keep (s9.trans s10)
      obtain ⟨dw, tw, hw1, hw2⟩ := id hy10
      refine ⟨_, rfl, y2, dz, _, rfl, hz1, Rgt.ins hw1, y2, m2, .ref y, rfl, hy2, okF.ndm, .inl ⟨y, m2, rfl, hy10, okF.ndm, _, rfl, _, rfl, ?_⟩⟩
      rw [eqM_self]
      exact iteF ⟨_, _, _, _, rfl, s8.trans (s9.trans s10)⟩
    rintro σ H8 ⟨o5, o7, o8, o10, rfl, s8⟩
    exact q _ (c4.trans (But.of_same s8))
end
end Mk

set_option Elab.async false
set_option linter.all false
set_option maxRecDepth 100000
set_option maxHeartbeats 4000000
/-! machines, forms and None in lists, compared -/
namespace Mk
open PySem PySem.Spec L2 PyProof.Rows

section
variable {X : Cx}
/-- two machines that are the same but for the order of their moves -/
def DMch : Eqv := fun x y H => ∃ a b m m', x = .ref a ∧ y = .ref b ∧ MAt H a m ∧ MAt H b m' ∧ NdM m ∧ NdM m' ∧ srtM m = srtM m'
theorem mon_mch : Mon DMch := fun x y H H' e ⟨a, b, m, m', h1, h2, h3, h4, h5⟩ => ⟨a, b, m, m', h1, h2, h3.keep e, h4.keep e, h5⟩
theorem rcG_mch : RcG X 0 DMch := by
  intro A pins s σ H x y v u sb I rx ry h
  have hu : A.units + 64 < cLine := by
    have := sb.room.un
    omega
  obtain ⟨a, b, m, m', rfl, rfl, ⟨ss, ea, pa⟩, ⟨ss', eb, pb⟩, nd, nd', hmm⟩ := h
  cases rx
  cases ry
  obtain ⟨its, rv, ⟨o, ho, hc, k, hd⟩, _⟩ := I.tuple (SqT.of ea)
  obtain ⟨its', rv', ⟨o', ho', hc', k', hd'⟩, _⟩ := I.tuple (SqT.of eb)
  have l1 : its.length = m.length := by rw [← rv.length, List.length_map, Paired.length pa]
  have l2 : its'.length = m'.length := by rw [← rv'.length, List.length_map, Paired.length pb]
  have s1 := Paired.length pa
  have s2 := Paired.length pb
  refine PySem.W.eq_tuplesT (n := 2) (e := fun j => decide ((srtM m)[j]? = (srtM m')[j]?)) ⟨o, ho, hc, k, hd⟩ ⟨o', ho', hc', k', hd'⟩ (fun j h1 h2 => ?_) (by omega) ?_
  · have h1 : j < its.length := by simpa using h1
    have h2 : j < its'.length := by simpa using h2
    have g : ∀ {ss : List Addr} {its : List Value}, Vals (ss.map V.ref) its → ∀ {j : Nat} (hj : j < ss.length) (hi : j < its.toArray.size), its.toArray[j] = Value.ref ss[j] := fun {ss its} rv {j} hj hi => by
      obtain ⟨y, hy, ry⟩ := L2.paired_get rv (show (ss.map V.ref)[j]? = some (V.ref ss[j]) by rw [List.getElem?_map, List.getElem?_eq_getElem hj]; rfl)
      obtain rfl : y = Value.ref ss[j] := ry
      obtain ⟨l, e⟩ := List.getElem?_eq_some_iff.mp hy
      simpa using e
    rw [g rv (by omega) (by simpa using h1), g rv' (by omega) (by simpa using h2)]
    obtain ⟨q1, hq1, g1⟩ := L2.paired_get pa (List.getElem?_eq_getElem (show j < ss.length by omega))
    obtain ⟨q2, hq2, g2⟩ := L2.paired_get pb (List.getElem?_eq_getElem (show j < ss'.length by omega))
    have T := st_tree I g1 g2 (nd _ (List.mem_of_getElem? hq1)) (nd' _ (List.mem_of_getElem? hq2))
    have e1 : (srtM m)[j]? = some (srtP q1.1, q1.2) := by unfold srtM; rw [List.getElem?_map, hq1]; rfl
    have e2 : (srtM m')[j]? = some (srtP q2.1, q2.2) := by unfold srtM; rw [List.getElem?_map, hq2]; rfl
    have eb : decide ((srtM m)[j]? = (srtM m')[j]?) = decide ((srtP q1.1, q1.2) = (srtP q2.1, q2.2)) := by
      rw [e1, e2, Bool.eq_iff_iff, decide_eq_true_eq, decide_eq_true_eq]
      exact ⟨fun h => Option.some.inj h, fun h => by rw [h]⟩
    rw [eb]
    exact T
  · have e : ((List.range (min its.toArray.size its'.toArray.size)).all (fun j => decide ((srtM m)[j]? = (srtM m')[j]?)) && its.toArray.size == its'.toArray.size) = eqM m m' := by
      have z1 : its.toArray.size = m.length := by simpa using l1
      have z2 : its'.toArray.size = m'.length := by simpa using l2
      rw [z1, z2]
      unfold eqM
      rw [Bool.eq_iff_iff, Bool.and_eq_true, List.all_eq_true, decide_eq_true_eq, beq_iff_eq]
      constructor
      · rintro ⟨h1, h2⟩
        refine List.ext_getElem? fun j => ?_
        by_cases c : j < m.length
        · have := h1 j (List.mem_range.mpr (by omega))
          exact of_decide_eq_true this
        · rw [List.getElem?_eq_none (by rw [srtM_len]; omega), List.getElem?_eq_none (by rw [srtM_len]; omega)]
      · intro h
        refine ⟨fun j _ => decide_eq_true (by rw [h]), ?_⟩
        have := congrArg List.length h
        rwa [srtM_len, srtM_len] at this
    rw [e]
    have em : eqM m m' = true := decide_eq_true hmm
    rw [em]
    exact ⟨rfl, H, I, fun _ _ e => e⟩
theorem eqG_mch : EqG X 0 DMch := rcG_mch.eqG fun _ _ _ d => let ⟨a, b, _, _, hx, hy, _⟩ := d; ⟨a, b, hx, hy⟩
/-- two forms of such machines -/
def RFm (C : Addr) : Addr → Addr → Hp → Prop := fun a b H => ∃ m m', FmAt C H a m ∧ FmAt C H b m' ∧ NdM m ∧ NdM m' ∧ srtM m = srtM m'
theorem mon_fm {C : Addr} : Mon (DIns C (RFm C)) := mon_ins fun a b H H' e ⟨m, m', h1, h2, h3⟩ => ⟨m, m', h1.keep e, h2.keep e, h3⟩
theorem eqG_fm {C g : Addr} {fd : FuncData} (OE : OwnD X.K C g "__eq__") (GE : FnOk X.prog X.w X.K X.mg X.base CX0 1 g fd ["self", "other"] (spFEq C X.K)) (bE : Binds X.K fd ["self", "other"] []) : EqG X 1 (DIns C (RFm C)) := by
  have F : FnOk X.prog X.w X.K X.mg X.base CX0 1 g fd ["self", "other"] (spEq (RFm C)) := GE.imp (fun vs H Q E ⟨a, b, e, ⟨m, m', h1, h2, h3, h4, h5⟩, q⟩ => ⟨a, m, .ref b, e, h1, h3, .inl ⟨b, m', rfl, h2, h4, by
    rw [show eqM m m' = true from decide_eq_true h5]
    exact q H fun _ _ e => e⟩⟩)
  exact eqG_ins (E := fun _ _ _ => False) F OE.find OE.fn bE pass0
/-- what stands in the law's last lists -/
def DEnd (C : Addr) : Eqv := fun x y H => (DMch x y H ∨ DIns C (RFm C) x y H) ∨ DFlat x y H
theorem mon_end {C : Addr} : Mon (DEnd C) := fun x y H H' e h => h.elim (fun h => .inl (h.elim (fun h => .inl (mon_mch x y H H' e h)) fun h => .inr (mon_fm x y H H' e h))) fun h => .inr h
theorem rcG_end {C g : Addr} {fd : FuncData} (OE : OwnD X.K C g "__eq__") (GE : FnOk X.prog X.w X.K X.mg X.base CX0 1 g fd ["self", "other"] (spFEq C X.K)) (bE : Binds X.K fd ["self", "other"] []) : RcG X 2 (DList (DEnd C)) :=
  rcG_list mon_end (((eqG_mch.mono (by decide)).or (eqG_fm OE GE bE)).or (eqG_flat.mono (by decide)))
end
end Mk

set_option Elab.async false
set_option linter.all false
set_option maxRecDepth 100000
set_option maxHeartbeats 4000000
/-! the law's fixed examples -/
namespace Mk
open PySem PySem.Spec L2 PyProof.Rows

abbrev exM : Mch := [([("a", 1)], false), ([("b", 0)], true)]
theorem ex_srt : srtM exM = exM := by decide +kernel
theorem ex_good : goodB exM = true := by decide +kernel
abbrev exD : Mch := [([("a", 1), ("b", 1)], false), ([("b", 0)], true)]
theorem ex_d1 : setMv exM 0 "b" (some 1) = exD := by decide +kernel
theorem exD_wf : WF exD := by
  refine ⟨?_, ?_, ?_⟩ <;> decide +kernel
theorem exD_g : GoodM exD := by
  have h01 : Rch exD 0 1 := .step (s := "a") (.refl 0) (by decide +kernel)
  have hl : lst? exD 1 = true := by decide +kernel
  refine ⟨exD_wf, by decide, fun i hi => ?_⟩
  have h2 : i < 2 := hi.2
  rcases (by omega : i = 0 ∨ i = 1) with rfl | rfl
  · exact ⟨.refl 0, 1, h01, hl⟩
  · exact ⟨h01, 1, .refl 1, hl⟩
theorem ex_b1 : goodB (setMv exM 0 "b" (some 1)) = true := by rw [ex_d1]; exact exD_g.b
theorem ex_b2 : goodB (setMv exM 1 "b" none) = true := by decide +kernel
theorem ex_b3 : goodB (setMv exM 1 "c" none) = true := by decide +kernel
theorem ex_n1 : goodB (setMv exM 0 "a" (some 0)) = false := by decide +kernel
theorem ex_n2 : goodB (setLa exM 1 false) = false := by decide +kernel
theorem ex_n3 : goodB (setMv exM 0 "a" none) = false := by decide +kernel
theorem ex_l : goodB (setLa exM 0 true) = true := by decide +kernel
theorem ex_f : fstM (srtM (setLa exM 0 true)) 0 = some "" := by decide +kernel
theorem ex_s1 : srtM (srtM (setMv exM 0 "b" (some 1))) = srtM exD := by rw [ex_d1]; exact srtM_two exD_wf
theorem ex_s2 : srtM (srtM (setMv exM 1 "b" none)) = srtM [([("a", 1)], false), ([], true)] := by decide +kernel
theorem ex_s3 : srtM (setMv exM 1 "c" none) = exM := by decide +kernel
theorem ex_wf : WF exM := by
  refine ⟨?_, ?_, ?_⟩ <;> decide +kernel
theorem ex_ok : MOk exM := ⟨ex_wf, by decide, by decide, ex_wf.l5⟩
theorem ex_g : GoodM exM := goodB_good ex_wf (by decide) ex_good
end Mk

set_option Elab.async false
set_option linter.all false
set_option maxRecDepth 100000
set_option maxHeartbeats 8000000
/-! the law of histories of forms -/
namespace Mk
open PySem PySem.Spec L2 PyProof.Rows

abbrev sLaw13 : Stmt := top 73
abbrev nLaw13 : List Str := ["_law_script", "_law_at", "_law_form", "_law_told", "_law_due", "_law_change"]
def spLaw13 (K : PySem.W.Frag) : Sp := fun vs H Q _ => ∃ (a : Addr) (ns : List Int), vs = [.ref a] ∧ SqL K H a (ns.map V.int) ∧ ns.length ≤ 63 ∧ ∀ H', Q (.bl true) H'
section
variable {P : Program} {w : World} {K : PySem.W.Frag} {mg : Str → Option Value} {base : Heap} {C CI : Addr}
theorem scLaw13 : FnScope nLaw13 ["_law_script"] (defScope sLaw13) := ⟨rfl, rfl, rfl, by decide +kernel, rfl, by decide +kernel, by decide +kernel⟩
theorem ok_law13 {f fs gs ff gf gq fi fa : Addr} {fd ds df dq fdi da : FuncData} (F : Fun K "law" "law" sLaw13 f fd) (B : Bn mg) (T : Fc K C) (mF : mg "Form" = some (.ref C))
    (Jp : Cd P w K mg base 1 "_law_purse_of" ["_law_script", "_law_at"] (spFilled K)) (GA : FnG P w K mg base CX0 11 fa da ["_law_purse"] spAlr) (mA : mg "_law_all_right" = some (.ref fa)) (kA : PySem.W.keepIn K (.ref fa) = true) (bA : Binds K da ["_law_purse"] [])
    (Jd : Cd P w K mg base 10 "_law_done_by" ["_law_form", "_law_change"] (spDon C)) (M : L2.Mk K C fi) (G : FnOk P w K mg base CX0 5 fi fdi ["self", "states"] (spFInit C)) (b : Binds K fdi ["self", "states"] [])
    (M1 : Md P w K mg base C (L2.CX P w) 9 "with_move" ["self", "state", "sign", "to"] (spWMv C CI)) (M2 : Md P w K mg base C (L2.CX P w) 9 "with_last" ["self", "state", "last"] (spWLa C CI))
    (Os : PropOf K C "states" fs gs) (Gs : FnOk P w K mg base CX0 2 gs ds ["self"] (spFSt C)) (bs : Binds K ds ["self"] []) (Of : PropOf K C "first" ff gf) (Gf : FnOk P w K mg base CX0 3 gf df ["self"] (spFFst C)) (bf : Binds K df ["self"] [])
    (OE : OwnD K C gq "__eq__") (GE : FnOk P w K mg base CX0 1 gq dq ["self", "other"] (spFEq C K)) (bE : Binds K dq ["self", "other"] []) : FnG P w K mg base CX0 12 f fd ["_law_script"] (spLaw13 K) := by
  obtain ⟨a1, d1, G1, m1, k1, b1⟩ := Jp.ex
  obtain ⟨a5, d5, G5, m5, k5, b5⟩ := Jd.ex
  obtain ⟨gm, dm, Mm, Gm, bm⟩ := M1.ex
  obtain ⟨gl, dl, Ml, Gl, bl⟩ := M2.ex
  refine Fun_okG F scLaw13 (fun vs H Q E h => ?_) (fun cdv A outer s H vs Q E hr gd h => ?_)
  · obtain ⟨a, ns, rfl, _⟩ := h
    rfl
  · have h2 : A.units + 3 + 16 * 11 + 200 < cLine := hr.un
    have r1 : Room 1 _ := hr.mono (by decide)
    have r2 : Room 2 _ := hr.mono (by decide)
    have r3 : Room 3 _ := hr.mono (by decide)
    have r4 : Room 4 _ := hr.mono (by decide)
    have r6 : Room 6 _ := hr.mono (by decide)
    have r9 : Room 9 _ := hr.mono (by decide)
    have r10 : Room 10 _ := hr.mono (by decide)
    obtain ⟨a, ns, rfl, hS, hl, q⟩ := h
    refine ⟨_, pss_cons (ps_for PassesOwn.never rfl (pi_range1 (by rfl) B.range (pa_cons (pe_callB (call_max2 rfl) (by rfl) B.max (by decide +kernel) (pa_cons pe_int (pa_cons (pe_callB (call_min2 rfl) (by rfl) B.min (by decide +kernel) (pa_cons pe_int (pa_cons (pe_callB call_len_seq (by rfl) B.len PySem.boot_len (pa_cons (pv 0) pa_nil)) pa_nil))) pa_nil))) pa_nil)) (pg_name (i := 1) scLaw13.nd rfl (.inl rfl))
        (pss_one (ps_if (pt_not (pt_val (pe_callG GA hr gd (by rfl) mA kA bA pass0 (pa_cons (pe_call G1 r1 (by rfl) m1 k1 b1 .nil pass0 (pa_cons (pv 0) (pa_cons (pv 1) pa_nil))) pa_nil)))) (pss_one (ps_ret pe_bl)) pss_nil)))
      (pss_cons (ps_set (i := 2) scLaw13.nd rfl (.inr rfl) (pe_make M G r6 (by rfl) mF b .nil pass0 (pa_cons (pe_tup (pa_cons (pe_tup (pa_cons (pe_disp (L2.pps_cons pe_str pe_int L2.pps_nil) rfl rfl (by exact fun z => nomatch z) (by decide)) (pa_cons pe_bl pa_nil))) (pa_cons (pe_tup (pa_cons (pe_disp (L2.pps_cons pe_str pe_int L2.pps_nil) rfl rfl (by exact fun z => nomatch z) (by decide)) (pa_cons pe_bl pa_nil))) pa_nil))) pa_nil)))
      (pss_cons (ps_set (i := 3) scLaw13.nd rfl (.inl rfl) (pe_lst (pa_cons (pe_prop (pe_meth (pv 2) T.cl Mm Gm r9 bm .nil passL (pa_cons pe_int (pa_cons pe_str (pa_cons pe_int pa_nil)))) T.cl Os Gs r3 bs .nil pass0 rfl)
          (pa_cons (pe_prop (pe_meth (pv 2) T.cl Mm Gm r9 bm .nil passL (pa_cons pe_int (pa_cons pe_str (pa_cons pe_non pa_nil)))) T.cl Os Gs r3 bs .nil pass0 rfl)
          (pa_cons (pe_meth (pv 2) T.cl Mm Gm r9 bm .nil passL (pa_cons pe_int (pa_cons pe_str (pa_cons pe_non pa_nil)))) pa_nil)))))
      (pss_cons (ps_set (i := 4) scLaw13.nd rfl (.inl rfl) (pe_lst (pa_cons (pe_tup (pa_cons (pe_tup (pa_cons (pe_disp (L2.pps_cons pe_str pe_int (L2.pps_cons pe_str pe_int L2.pps_nil)) rfl rfl (by exact fun z => nomatch z) (by decide)) (pa_cons pe_bl pa_nil))) (pa_cons (pe_tup (pa_cons (pe_disp (L2.pps_cons pe_str pe_int L2.pps_nil) rfl rfl (by exact fun z => nomatch z) (by decide)) (pa_cons pe_bl pa_nil))) pa_nil)))
          (pa_cons (pe_tup (pa_cons (pe_tup (pa_cons (pe_disp (L2.pps_cons pe_str pe_int L2.pps_nil) rfl rfl (by exact fun z => nomatch z) (by decide)) (pa_cons pe_bl pa_nil))) (pa_cons (pe_tup (pa_cons pe_dnewK (pa_cons pe_bl pa_nil))) pa_nil))) (pa_cons (pv 2) pa_nil)))))
      (pss_cons (ps_set (i := 3) scLaw13.nd rfl (.inl rfl) (pe_op op_cat (pv 3) (pe_lc (own := [("_law_change", 5)]) (g := gName 5) (tt := tYes) rfl scLaw13.nd (pi_tup (pe_tup (pa_cons (pe_tup (pa_cons pe_int (pa_cons pe_str (pa_cons pe_int pa_nil)))) (pa_cons (pe_tup (pa_cons pe_int (pa_cons pe_str (pa_cons pe_bl pa_nil)))) (pa_cons (pe_tup (pa_cons pe_int (pa_cons pe_str (pa_cons pe_non pa_nil)))) pa_nil))))) (blkOk_by (N := nLaw13) (sc := defScope sLaw13) (by decide +kernel))
          (fun _ _ _ _ _ => pg_name (i := 5) scLaw13.nd rfl (Or.inl rfl)) (fun _ _ _ _ _ => pts_nil) (fun _ _ _ _ _ => pe_call G5 r10 (by rfl) m5 k5 b5 .nil pass0 (pa_cons (pv 2) (pa_cons (pv 5) pa_nil))))))
      (pss_one (ps_ret (pe_and (pe_cmpR (op_eqG (rcG_end OE GE bE) r2) (pv 3) (pe_op op_cat (pv 4) (pe_lst (pa_cons pe_non (pa_cons pe_non (pa_cons pe_non pa_nil))))) (nomark _)) (pe_one (pe_cmpR op_eq (pe_prop (pe_meth (pv 2) T.cl Ml Gl r9 bl .nil passL (pa_cons pe_int (pa_cons pe_bl pa_nil))) T.cl Of Gf r4 bf .nil pass0 rfl) pe_str (nomark _)))))))))), ?_⟩
    have nar : ∀ {n : Nat}, n ≤ 3999 → n ≤ sizeLine := fun h1 => by rw [sizeLine_eq]; omega
    refine ⟨_, rfl, a, _, rfl, .inl hS, 6, _, rfl, 1, _, rfl, _, rfl, ?_, ?_, ?_⟩
    · split <;> (try split) <;> omega
    · split <;> (try split) <;> omega
    have few : ∀ z : Int, (if (if z < 6 then z else 6) > 1 then (if z < 6 then z else 6) else 1).toNat ≤ 6 := fun z => by split <;> (try split) <;> omega
    have fewz := few ((ns.map V.int).length : Nat)
    refine for_range (lo := 0) (n := Int.toNat _) (fun i σ H1 => (∃ o1, σ = [some (.ref a), o1, none, none, none, none]) ∧ Same H H1) ⟨⟨_, rfl⟩, fun _ _ e => e⟩ ?_ ?_
    · rintro i σ H1 hi ⟨⟨o1, rfl⟩, hs⟩
      refine ⟨_, rfl, _, rfl, a, ns, i, (by show [V.ref a, V.int (0 + (i : Int))] = _; rw [Int.zero_add]), hs.seq hS, hl, (by omega), fun H2 p s2 p0 P2 => ?_⟩
      refine ⟨p, 0, rfl, P2, by decide, fun H3 b3 => ⟨_, rfl, iteF ⟨⟨_, rfl⟩, fun b o e => ?_⟩⟩⟩
      exact b3 _ _ (ne_of_none (hs _ _ e) p0) (s2 _ _ (hs _ _ e))
    rintro σ H1 ⟨⟨o1, rfl⟩, hs⟩
    refine fun d1 hd1 => ⟨upd_same, [(Sum.inr "a", V.int 1)], rfl, (by show 1 ≤ 15; decide), ?_⟩
    have em1 : mergeK [] [((Sum.inr "a" : Key), V.int 1)] = kvsP [("a", 1)] := rfl
    rw [em1]
    have e1 : (upd (upd H1 d1 (.dK [])) d1 (.dK (kvsP [("a", 1)]))) d1 = some (.dK (kvsP [("a", 1)])) := upd_same
    generalize upd (upd H1 d1 (.dK [])) d1 (.dK (kvsP [("a", 1)])) = H2 at e1 ⊢
    refine ⟨nar (by show 2 ≤ 3999; decide), fun t1 ht1 => ?_⟩
    have s1 := Same.new (o := .tup [V.ref d1, V.bl false]) ht1
    have f1 := (upd_same : upd H2 t1 (.tup [V.ref d1, V.bl false]) t1 = _)
    have e1 := s1 _ _ e1
    generalize upd H2 t1 (.tup [V.ref d1, V.bl false]) = H3 at e1 f1 ⊢
    refine fun d2 hd2 => ⟨upd_same, [(Sum.inr "b", V.int 0)], rfl, (by show 1 ≤ 15; decide), ?_⟩
    have em2 : mergeK [] [((Sum.inr "b" : Key), V.int 0)] = kvsP [("b", 0)] := rfl
    rw [em2]
    have k2 : Same H3 (upd (upd H3 d2 (.dK [])) d2 (.dK (kvsP [("b", 0)]))) := fun b o e => by
      have nb := ne_of_none e hd2
      rw [upd_ne nb, upd_ne nb]
      exact e
    have e2 : (upd (upd H3 d2 (.dK [])) d2 (.dK (kvsP [("b", 0)]))) d2 = some (.dK (kvsP [("b", 0)])) := upd_same
    have e1 := k2 _ _ e1
    have f1 := k2 _ _ f1
    generalize upd (upd H3 d2 (.dK [])) d2 (.dK (kvsP [("b", 0)])) = H4 at e1 f1 e2 ⊢
    refine ⟨nar (by show 2 ≤ 3999; decide), fun t2 ht2 => ?_⟩
    have s2 := Same.new (o := .tup [V.ref d2, V.bl true]) ht2
    have f2 := (upd_same : upd H4 t2 (.tup [V.ref d2, V.bl true]) t2 = _)
    have e1 := s2 _ _ e1
    have f1 := s2 _ _ f1
    have e2 := s2 _ _ e2
    generalize upd H4 t2 (.tup [V.ref d2, V.bl true]) = H5 at e1 f1 e2 f2 ⊢
    refine ⟨nar (by show 2 ≤ 3999; decide), fun T0 hT0 => ?_⟩
    have k5 := Same.new (o := .tup [V.ref t1, V.ref t2]) hT0
    have mt : MAt (upd H5 T0 (.tup [V.ref t1, V.ref t2])) T0 exM := ⟨[t1, t2], upd_same, .cons ⟨d1, k5 _ _ f1, k5 _ _ e1⟩ (.cons ⟨d2, k5 _ _ f2, k5 _ _ e2⟩ .nil)⟩
    generalize upd H5 T0 (.tup [V.ref t1, V.ref t2]) = H6 at mt ⊢
    clear hd1 ht1 hd2 ht2 hT0 e1 e2 f1 f2 hs k2 s1 s2 k5
    refine fun x dx hx hdx ne => ?_
    have sN : Same H6 (upd (upd H6 dx (.own x)) x (.ins C dx [])) := fun b o e => by
      rw [upd_ne (ne_of_none e hx), upd_ne (ne_of_none e hdx)]
      exact e
    refine ⟨x, dx, T0, exM, rfl, upd_same, mt.keep sN, ex_g, by decide, ex_wf.l5, fun H7 b7 fm => ⟨rfl, ?_⟩⟩
    rw [ex_srt] at fm
    clear mt hx hdx ne sN b7
    have fm7 := fm
    obtain ⟨dx7, tx7, hx7, _⟩ := id fm
    have sgb : sgB "b" = true := by decide +kernel
    have sgc : sgB "c" = true := by decide +kernel
    have rg1 : ∀ k : Int, some (1 : Int) = some k → 0 ≤ k ∧ k < exM.length := fun k h => by cases h; decide
    have rgn : ∀ k : Int, (none : Option Int) = some k → 0 ≤ k ∧ k < exM.length := fun k h => nomatch h
    have okA : MOk (srtM (setMv exM 0 "b" (some 1))) := srt_ok (ex_ok.setMv (by decide) sgb rg1)
    have okB : MOk (srtM (setMv exM 1 "b" none)) := srt_ok (ex_ok.setMv (by decide) sgb rgn)
    refine ⟨_, rfl, x, dx7, _, rfl, hx7, rfl, x, exM, 0, "b", some 1, rfl, fm, ex_ok, by decide, sgb, rg1, fun _ H8 y1 s8 fy1 hy1 => ?_, fun hb => absurd (ex_b1.symm.trans hb) (by decide)⟩
    obtain ⟨dy1, ty1, hy11, _⟩ := id hy1
    refine ⟨y1, dy1, _, rfl, hy11, y1, _, rfl, hy1, okA.wf, okA.l40, okA.l5, fun H9 q1 s9 fq1 hq1 => ?_⟩
    have s79 := s8.trans s9
    have fm := fm7.keep s79
    obtain ⟨dx9, tx9, hx9, _⟩ := id fm
    refine ⟨_, rfl, x, dx9, _, rfl, hx9, rfl, x, exM, 1, "b", none, rfl, fm, ex_ok, by decide, sgb, rgn, fun _ H10 y2 s10 fy2 hy2 => ?_, fun hb => absurd (ex_b2.symm.trans hb) (by decide)⟩
    obtain ⟨dy2, ty2, hy21, _⟩ := id hy2
    refine ⟨y2, dy2, _, rfl, hy21, y2, _, rfl, hy2, okB.wf, okB.l40, okB.l5, fun H11 q2 s11 fq2 hq2 => ?_⟩
    have s911 := s10.trans s11
    have fm := fm.keep s911
    obtain ⟨dx11, tx11, hx11, _⟩ := id fm
    refine ⟨_, rfl, x, dx11, _, rfl, hx11, rfl, x, exM, 1, "c", none, rfl, fm, ex_ok, by decide, sgc, rgn, fun _ H12 y3 s12 fy3 hy3 => ?_, fun hb => absurd (ex_b3.symm.trans hb) (by decide)⟩
    have hq1 := hq1.keep (s911.trans s12)
    have hq2 := hq2.keep s12
    have fm := fm.keep s12
    refine ⟨nar (by show 3 ≤ 3999; decide), fun Lt hLt => ?_⟩
    have k1 := Same.new (o := .lst [V.ref q1, V.ref q2, V.ref y3]) hLt
    have eLt := (upd_same : upd H12 Lt (.lst [V.ref q1, V.ref q2, V.ref y3]) Lt = _)
    have hq1 := hq1.keep k1
    have hq2 := hq2.keep k1
    have hy3 := hy3.keep k1
    have fm := fm.keep k1
    generalize upd H12 Lt (.lst [V.ref q1, V.ref q2, V.ref y3]) = H13 at hq1 hq2 hy3 fm eLt ⊢
    clear fm7 hx7 hy1 hy11 hy2 hy21 hx9 hx11 s8 s9 s10 s11 s12 s79 s911 k1 hLt fy1 fq1 fy2 fq2 fy3
    -- what is due
    refine fun d1 hd1 => ⟨upd_same, [(Sum.inr "a", V.int 1), (Sum.inr "b", V.int 1)], rfl, (by show 2 ≤ 15; decide), ?_⟩
    have em3 : mergeK [] [((Sum.inr "a" : Key), V.int 1), ((Sum.inr "b" : Key), V.int 1)] = kvsP [("a", 1), ("b", 1)] := by decide +kernel
    rw [em3]
    have disp : ∀ {H : Hp} {d : Addr} {o : HO}, H d = none → Same H (upd (upd H d (.dK [])) d o) := fun {H d o} h b o' e => by
      have nb := ne_of_none e h
      rw [upd_ne nb, upd_ne nb]
      exact e
    have k1 := disp (o := .dK (kvsP [("a", 1), ("b", 1)])) hd1
    have e1 : (upd (upd H13 d1 (.dK [])) d1 (.dK (kvsP [("a", 1), ("b", 1)]))) d1 = some (.dK (kvsP [("a", 1), ("b", 1)])) := upd_same
    generalize upd (upd H13 d1 (.dK [])) d1 (.dK (kvsP [("a", 1), ("b", 1)])) = H14 at k1 e1 ⊢
    refine ⟨nar (by show 2 ≤ 3999; decide), fun t1 ht1 => ?_⟩
    have k2 := Same.new (o := .tup [V.ref d1, V.bl false]) ht1
    have f1 := (upd_same : upd H14 t1 (.tup [V.ref d1, V.bl false]) t1 = _)
    have e1 := k2 _ _ e1
    have k := k1.trans k2
    generalize upd H14 t1 (.tup [V.ref d1, V.bl false]) = H15 at k e1 f1 ⊢
    clear k1 k2 hd1 ht1
    refine fun d2 hd2 => ⟨upd_same, [(Sum.inr "b", V.int 0)], rfl, (by show 1 ≤ 15; decide), ?_⟩
    rw [em2]
    have k1 := disp (o := .dK (kvsP [("b", 0)])) hd2
    have e2 : (upd (upd H15 d2 (.dK [])) d2 (.dK (kvsP [("b", 0)]))) d2 = some (.dK (kvsP [("b", 0)])) := upd_same
    generalize upd (upd H15 d2 (.dK [])) d2 (.dK (kvsP [("b", 0)])) = H16 at k1 e2 ⊢
    refine ⟨nar (by show 2 ≤ 3999; decide), fun t2 ht2 => ?_⟩
    have k2 := Same.new (o := .tup [V.ref d2, V.bl true]) ht2
    have f2 := (upd_same : upd H16 t2 (.tup [V.ref d2, V.bl true]) t2 = _)
    have e2 := k2 _ _ e2
    have k12 := k1.trans k2
    have e1 := k12 _ _ e1
    have f1 := k12 _ _ f1
    have k := k.trans k12
    generalize upd H16 t2 (.tup [V.ref d2, V.bl true]) = H17 at k e1 f1 e2 f2 ⊢
    clear k1 k2 k12 hd2 ht2
    refine ⟨nar (by show 2 ≤ 3999; decide), fun T1 hT1 => ?_⟩
    have k1 := Same.new (o := .tup [V.ref t1, V.ref t2]) hT1
    have mD : MAt (upd H17 T1 (.tup [V.ref t1, V.ref t2])) T1 exD := ⟨[t1, t2], upd_same, .cons ⟨d1, k1 _ _ f1, k1 _ _ e1⟩ (.cons ⟨d2, k1 _ _ f2, k1 _ _ e2⟩ .nil)⟩
    have k := k.trans k1
    generalize upd H17 T1 (.tup [V.ref t1, V.ref t2]) = H18 at mD k ⊢
    clear k1 e1 f1 e2 f2 hT1
    refine fun d3 hd3 => ⟨upd_same, [(Sum.inr "a", V.int 1)], rfl, (by show 1 ≤ 15; decide), ?_⟩
    rw [em1]
    have k1 := disp (o := .dK (kvsP [("a", 1)])) hd3
    have e1 : (upd (upd H18 d3 (.dK [])) d3 (.dK (kvsP [("a", 1)]))) d3 = some (.dK (kvsP [("a", 1)])) := upd_same
    generalize upd (upd H18 d3 (.dK [])) d3 (.dK (kvsP [("a", 1)])) = H19 at k1 e1 ⊢
    refine ⟨nar (by show 2 ≤ 3999; decide), fun t3 ht3 => ?_⟩
    have k2 := Same.new (o := .tup [V.ref d3, V.bl false]) ht3
    have f1 := (upd_same : upd H19 t3 (.tup [V.ref d3, V.bl false]) t3 = _)
    have e1 := k2 _ _ e1
    have k12 := k1.trans k2
    have mD := mD.keep k12
    have k := k.trans k12
    generalize upd H19 t3 (.tup [V.ref d3, V.bl false]) = H20 at k mD e1 f1 ⊢
    clear k1 k2 k12 hd3 ht3
    refine fun d4 hd4 => ?_
    have k1 := Same.new (o := .dK []) hd4
    have e2 := (upd_same : upd H20 d4 (.dK []) d4 = _)
    generalize upd H20 d4 (.dK []) = H21 at k1 e2 ⊢
    refine ⟨nar (by show 2 ≤ 3999; decide), fun t4 ht4 => ?_⟩
    have k2 := Same.new (o := .tup [V.ref d4, V.bl true]) ht4
    have f2 := (upd_same : upd H21 t4 (.tup [V.ref d4, V.bl true]) t4 = _)
    have e2 := k2 _ _ e2
    have k12 := k1.trans k2
    have e1 := k12 _ _ e1
    have f1 := k12 _ _ f1
    have mD := mD.keep k12
    have k := k.trans k12
    generalize upd H21 t4 (.tup [V.ref d4, V.bl true]) = H22 at k mD e1 f1 e2 f2 ⊢
    clear k1 k2 k12 hd4 ht4
    refine ⟨nar (by show 2 ≤ 3999; decide), fun T2 hT2 => ?_⟩
    have k1 := Same.new (o := .tup [V.ref t3, V.ref t4]) hT2
    have mE : MAt (upd H22 T2 (.tup [V.ref t3, V.ref t4])) T2 [([("a", 1)], false), ([], true)] := ⟨[t3, t4], upd_same, .cons ⟨d3, k1 _ _ f1, k1 _ _ e1⟩ (.cons ⟨d4, k1 _ _ f2, k1 _ _ e2⟩ .nil)⟩
    have mD := mD.keep k1
    have k := k.trans k1
    generalize upd H22 T2 (.tup [V.ref t3, V.ref t4]) = H23 at mD mE k ⊢
    clear k1 e1 f1 e2 f2 hT2
    refine ⟨_, rfl, nar (by show 3 ≤ 3999; decide), fun Ld hLd => ?_⟩
    have k1 := Same.new (o := .lst [V.ref T1, V.ref T2, V.ref x]) hLd
    have eLd := (upd_same : upd H23 Ld (.lst [V.ref T1, V.ref T2, V.ref x]) Ld = _)
    have mD := mD.keep k1
    have mE := mE.keep k1
    have k := k.trans k1
    generalize upd H23 Ld (.lst [V.ref T1, V.ref T2, V.ref x]) = H24 at mD mE k eLd ⊢
    clear k1 hLd
    have hq1 := hq1.keep k
    have hq2 := hq2.keep k
    have hy3 := hy3.keep k
    have fm := fm.keep k
    have eLt := k _ _ eLt
    clear k
    -- the changes that are refused
    refine ⟨_, rfl, nar (by show 3 ≤ 3999; decide), fun c1 hc1 => ?_⟩
    have k1 := Same.new (o := Chg.obj (.mv 0 "a" (some 0))) hc1
    have g1 : (upd H24 c1 (Chg.obj (.mv 0 "a" (some 0)))) c1 = some (Chg.obj (.mv 0 "a" (some 0))) := upd_same
    have go1 : (upd H24 c1 (.tup [V.int 0, V.str "a", V.int 0])) = upd H24 c1 (Chg.obj (.mv 0 "a" (some 0))) := rfl
    rw [go1]
    generalize upd H24 c1 (Chg.obj (.mv 0 "a" (some 0))) = H25 at k1 g1 ⊢
    refine ⟨nar (by show 3 ≤ 3999; decide), fun c2 hc2 => ?_⟩
    have k2 := Same.new (o := Chg.obj (.la 1 false)) hc2
    have g2 : (upd H25 c2 (Chg.obj (.la 1 false))) c2 = some (Chg.obj (.la 1 false)) := upd_same
    have go2 : (upd H25 c2 (.tup [V.int 1, V.str "", V.bl false])) = upd H25 c2 (Chg.obj (.la 1 false)) := rfl
    rw [go2]
    have g1 := k2 _ _ g1
    have k := k1.trans k2
    generalize upd H25 c2 (Chg.obj (.la 1 false)) = H26 at k g1 g2 ⊢
    refine ⟨nar (by show 3 ≤ 3999; decide), fun c3 hc3 => ?_⟩
    have k3 := Same.new (o := Chg.obj (.mv 0 "a" none)) hc3
    have g3 : (upd H26 c3 (Chg.obj (.mv 0 "a" none))) c3 = some (Chg.obj (.mv 0 "a" none)) := upd_same
    have go3 : (upd H26 c3 (.tup [V.int 0, V.str "a", V.non])) = upd H26 c3 (Chg.obj (.mv 0 "a" none)) := rfl
    rw [go3]
    have g1 := k3 _ _ g1
    have g2 := k3 _ _ g2
    have k := k.trans k3
    generalize upd H26 c3 (Chg.obj (.mv 0 "a" none)) = H27 at k g1 g2 g3 ⊢
    refine ⟨nar (by show 3 ≤ 3999; decide), fun Tc hTc => ?_⟩
    have k4 := Same.new (o := .tup [V.ref c1, V.ref c2, V.ref c3]) hTc
    have eTc := (upd_same : upd H27 Tc (.tup [V.ref c1, V.ref c2, V.ref c3]) Tc = _)
    have k := k.trans k4
    have g1 := k4 _ _ g1
    have g2 := k4 _ _ g2
    have g3 := k4 _ _ g3
    generalize upd H27 Tc (.tup [V.ref c1, V.ref c2, V.ref c3]) = H28 at k g1 g2 g3 eTc ⊢
    have hq1 := hq1.keep k
    have hq2 := hq2.keep k
    have hy3 := hy3.keep k
    have fm := fm.keep k
    have mD := mD.keep k
    have mE := mE.keep k
    have eLt := k _ _ eLt
    have eLd := k _ _ eLd
    clear k k1 k2 k3 k4 hc1 hc2 hc3 hTc go1 go2 go3
    have sga : sgB "a" = true := by decide +kernel
    have ask : ∀ {i : Nat} {v : V}, ([V.ref c1, V.ref c2, V.ref c3] : List V)[i]? = some v → ∃ (c : Addr) (g : Chg), v = V.ref c ∧ H28 c = some g.obj ∧ g.ok exM ∧ goodB (fbeh exM g) = false := fun {i v} h => by
      match i, h with
      | 0, h => exact ⟨c1, _, (Option.some.inj h).symm, g1, ⟨by decide, sga, fun k h => by cases h; decide⟩, ex_n1⟩
      | 1, h => exact ⟨c2, _, (Option.some.inj h).symm, g2, (by decide : 1 < exM.length), ex_n2⟩
      | 2, h => exact ⟨c3, _, (Option.some.inj h).symm, g3, ⟨by decide, sga, rgn⟩, ex_n3⟩
      | n + 3, h => cases h
    refine ⟨Tc, rfl, ⟨_, SqT.of eTc⟩, fun D hD => lc_it (walk_tup (K := K) (a := Tc) (xs := [V.ref c1, V.ref c2, V.ref c3])) (fun i H1 => Same H28 H1 ∧ H1 D = some (.lst (List.replicate i V.non))) ⟨Same.new hD, upd_same⟩ (fun i H1 _ h1 => SqT.of (h1.1 _ _ eTc)) ?_ ?_⟩
    · rintro i v H1 H2 hi ⟨s1, e1⟩ ⟨rfl, hv⟩
      obtain ⟨c, g, rfl, ec, hok, hbad⟩ := ask hv
      have hi3 : i < 3 := hi
      refine ⟨rfl, _, rfl, _, rfl, x, c, exM, g, rfl, fm.keep s1, ex_ok, s1 _ _ ec, hok, fun hg => absurd (hg.symm.trans hbad) (by decide), fun _ H3 s3 => ⟨_, s3 _ _ e1, Nat.lt_of_lt_of_le (by rw [List.length_replicate]; omega : _ < 5) (nar (by decide)), Same.upN (s1.trans s3) hD, ?_⟩⟩
      rw [upd_same, List.replicate_succ']
    rintro H1 ⟨s1, e1⟩
    have e1 : H1 D = some (.lst [V.non, V.non, V.non]) := e1
    refine ⟨Lt, D, _, _, rfl, rfl, s1 _ _ eLt, e1, nar (by show 3 + 3 ≤ 3999; decide), fun R1 hR1 => ?_⟩
    have k1 := s1.trans (Same.new (o := .lst ([V.ref q1, V.ref q2, V.ref y3] ++ [V.non, V.non, V.non])) hR1)
    have eR1 := (upd_same : upd H1 R1 (.lst ([V.ref q1, V.ref q2, V.ref y3] ++ [V.non, V.non, V.non])) R1 = _)
    generalize upd H1 R1 (.lst ([V.ref q1, V.ref q2, V.ref y3] ++ [V.non, V.non, V.non])) = H29 at k1 eR1 ⊢
    have hq1 := hq1.keep k1
    have hq2 := hq2.keep k1
    have hy3 := hy3.keep k1
    have fm := fm.keep k1
    have mD := mD.keep k1
    have mE := mE.keep k1
    have eLd := k1 _ _ eLd
    clear k1 s1 e1 hD ask hR1 eLt eTc g1 g2 g3
    refine ⟨_, rfl, _, rfl, nar (by show 3 ≤ 3999; decide), fun N0 hN0 => ?_⟩
    have k1 := Same.new (o := .lst [V.non, V.non, V.non]) hN0
    have eN := (upd_same : upd H29 N0 (.lst [V.non, V.non, V.non]) N0 = _)
    generalize upd H29 N0 (.lst [V.non, V.non, V.non]) = H30 at k1 eN ⊢
    refine ⟨Ld, N0, _, _, rfl, rfl, k1 _ _ eLd, eN, nar (by show 3 + 3 ≤ 3999; decide), fun R2 hR2 => ?_⟩
    have k := k1.trans (Same.new (o := .lst ([V.ref T1, V.ref T2, V.ref x] ++ [V.non, V.non, V.non])) hR2)
    have eR2 := (upd_same : upd H30 R2 (.lst ([V.ref T1, V.ref T2, V.ref x] ++ [V.non, V.non, V.non])) R2 = _)
    generalize upd H30 R2 (.lst ([V.ref T1, V.ref T2, V.ref x] ++ [V.non, V.non, V.non])) = H31 at k eR2 ⊢
    have hq1 := hq1.keep k
    have hq2 := hq2.keep k
    have hy3 := hy3.keep k
    have fm := fm.keep k
    have mD := mD.keep k
    have mE := mE.keep k
    have eR1 := k _ _ eR1
    rw [ex_s3] at hy3
    obtain ⟨dx, tx, hx1, _⟩ := id fm
    obtain ⟨dy, ty, hy1, _⟩ := id hy3
    have wE : WF [([("a", 1)], false), ([], true)] := by
      refine ⟨?_, ?_, ?_⟩ <;> decide +kernel
    have D1 : DEnd C (V.ref q1) (V.ref T1) H31 := .inl (.inl ⟨q1, T1, _, _, rfl, rfl, hq1, mD, (srt_ok okA).ndm, exD_wf.nd, by rw [srtM_two okA.wf]; exact ex_s1⟩)
    have D2 : DEnd C (V.ref q2) (V.ref T2) H31 := .inl (.inl ⟨q2, T2, _, _, rfl, rfl, hq2, mE, (srt_ok okB).ndm, wE.nd, by rw [srtM_two okB.wf]; exact ex_s2⟩)
    have D3 : DEnd C (V.ref y3) (V.ref x) H31 := .inl (.inr ⟨y3, x, dy, dx, _, _, rfl, rfl, hy1, hx1, exM, exM, hy3, fm, ex_ok.ndm, ex_ok.ndm, rfl⟩)
    have D4 : DEnd C V.non V.non H31 := .inr ⟨rfl, rfl, rfl⟩
    refine ⟨⟨R1, R2, _, _, rfl, rfl, eR1, eR2, rfl, fun i u v hu hv => ?_⟩, fun H32 ext => ?_⟩
    · match i, hu, hv with
      | 0, hu, hv => cases hu; cases hv; exact D1
      | 1, hu, hv => cases hu; cases hv; exact D2
      | 2, hu, hv => cases hu; cases hv; exact D3
      | 3, hu, hv => cases hu; cases hv; exact D4
      | 4, hu, hv => cases hu; cases hv; exact D4
      | 5, hu, hv => cases hu; cases hv; exact D4
      | n + 6, hu, hv => cases hu
    have fm := fm.keep ext
    obtain ⟨dx2, tx2, hx2, _⟩ := id fm
    have okL : MOk (setLa exM 0 true) := ex_ok.setLa (by decide)
    refine ⟨_, rfl, iteT ⟨_, rfl, x, dx2, _, rfl, hx2, rfl, x, exM, 0, true, rfl, fm, ex_ok, by decide, fun _ H33 y s33 fy hy => ?_, fun hb => absurd (ex_l.symm.trans hb) (by decide)⟩⟩
    obtain ⟨dy3, ty3, hy31, _⟩ := id hy
    refine ⟨y, dy3, _, rfl, hy31, y, _, rfl, hy, srt_ok okL, fun H34 s34 => ?_⟩
    rw [ex_f]
    exact ⟨rfl, q _⟩
end
end Mk

set_option Elab.async false
set_option linter.all false
set_option maxRecDepth 100000
set_option maxHeartbeats 4000000
namespace Mk
open PySem PySem.Spec PyProof.Rows L2

/-! ### what the top has written -/
structure Df (K : PySem.W.Frag) (x : Str) (st : Stmt) (f : Addr) : Prop where
  at_ : PySem.W.nsIn K mainGlobals x = some (some (.ref f))
  fn : ∃ fd, Fun K x x st f fd
theorem df_mk {K : PySem.W.Frag} {x : Str} {st : Stmt} {f : Addr} {oc kV doc pm cd ct : Value} {od an : Option Addr} {sl : Array (Option Value)} (a : PySem.W.nsIn K mainGlobals x = some (some (.ref f)))
    (l : K.lookup f = some ⟨oc, od, .func (PySem.W.fnOf x x (defArgs st) (defBody st) (defScope st) .none kV doc pm an cd ct), sl⟩) (c : PySem.W.codeIn K cd x = true) (k : PySem.W.keepIn K (.ref f) = true) : Df K x st f :=
  ⟨a, _, fun_mk (st := st) l c k⟩
/-- a def of the class -/
structure Mf (K : PySem.W.Frag) (C : Addr) (m qual : Str) (st : Stmt) (g : Addr) : Prop where
  find : PySem.W.findIn K (.ref C) m = some (some (.ref g))
  fun_ : PySem.W.isFn K (.ref g) = true
  fn : ∃ fd, Fun K m qual st g fd
theorem mf_mk {K : PySem.W.Frag} {C : Addr} {m qual : Str} {st : Stmt} {g : Addr} {oc kV doc pm cd ct : Value} {od an : Option Addr} {sl : Array (Option Value)} (a : PySem.W.findIn K (.ref C) m = some (some (.ref g))) (i : PySem.W.isFn K (.ref g) = true)
    (l : K.lookup g = some ⟨oc, od, .func (PySem.W.fnOf m qual (defArgs st) (defBody st) (defScope st) .none kV doc pm an cd ct), sl⟩) (c : PySem.W.codeIn K cd qual = true) (k : PySem.W.keepIn K (.ref g) = true) : Mf K C m qual st g :=
  ⟨a, i, _, fun_mk (st := st) l c k⟩
/-- a property of the class -/
structure Pf (K : PySem.W.Frag) (C : Addr) (m qual : Str) (st : Stmt) (p g : Addr) : Prop where
  of : PropOf K C m p g
  fn : ∃ fd, Fun K m qual st g fd
theorem pf_mk {K : PySem.W.Frag} {C : Addr} {m qual : Str} {st : Stmt} {p g : Addr} {rest : List Value} {oc kV doc pm cd ct : Value} {od an : Option Addr} {sl : Array (Option Value)} (a : PySem.W.findIn K (.ref C) m = some (some (.ref p)))
    (b : PySem.W.specialIn K (.ref p) "__get__" = some (some (.builtin "property.__get__"))) (t : PySem.W.takesIn K (.ref p) = some true) (r : PySem.W.recIn K p "property" = some (.ref g :: rest))
    (l : K.lookup g = some ⟨oc, od, .func (PySem.W.fnOf m qual (defArgs st) (defBody st) (defScope st) .none kV doc pm an cd ct), sl⟩) (c : PySem.W.codeIn K cd qual = true) (k : PySem.W.keepIn K (.ref g) = true) : Pf K C m qual st p g :=
  ⟨⟨a, b, t, _, r⟩, _, fun_mk (st := st) l c k⟩
theorem kit_own {K : PySem.W.Frag} {C : Addr} {T : String} (h1 : PySem.W.isClsIn K C = true) (h2 : PySem.W.typeIn K (.ref C) = some (.type "type")) (h3 : PySem.W.subIn K (.type T) (.ref C) = some false) : PySem.W.kitOne K (.type T) (.ref C) = some false := by
  have e2 : ((PySem.W.clsIn K C).isSome && PySem.W.typeIn K (.ref C) == some (.type "type")) = true := by
    have h4 : (PySem.W.clsIn K C).isSome = true := h1
    rw [h4, h2] <;> rfl
  unfold PySem.W.kitOne
  rw [if_neg (by intro z; cases z)]
  show (if ((PySem.W.clsIn K C).isSome && PySem.W.typeIn K (.ref C) == some (.type "type")) = true then PySem.W.subIn K (.type T) (.ref C) else none) = _
  rw [if_pos e2]
  exact h3
/-- an exception of the class at S is what the handler for S takes -/
theorem cat_self {K : PySem.W.Frag} {S : Addr} (sb : PySem.W.subIn K (.ref S) (.type "BaseException") = some true) (ic : PySem.W.isClsIn K S = true) (ty : PySem.W.typeIn K (.ref S) = some (.type "type")) (ss : PySem.W.subIn K (.ref S) (.ref S) = some true) : PySem.W.exmOne K (.ref S) (.ref S) = some true := by
  have e2 : ((PySem.W.clsIn K S).isSome && PySem.W.typeIn K (.ref S) == some (.type "type")) = true := by
    have h4 : (PySem.W.clsIn K S).isSome = true := ic
    rw [h4, ty] <;> rfl
  have e1 : (PySem.W.subIn K (.ref S) (.type "BaseException") == some true) = true := by
    rw [sb] <;> rfl
  unfold PySem.W.exmOne
  rw [if_pos e1]
  show (if ((PySem.W.clsIn K S).isSome && PySem.W.typeIn K (.ref S) == some (.type "type")) = true then PySem.W.subIn K (.ref S) (.ref S) else none) = _
  rw [if_pos e2]
  exact ss
theorem lg_of {mg : Str → Option Value} {h : Heap} (V : PySem.W.LooseAre [("LARGEST", PySem.W.WData.int LG)] mg h) : ∃ t, mg "LARGEST" = some (.int LG t) := by
  obtain ⟨v, e, r⟩ := V.val _ List.mem_cons_self
  cases r
  exact ⟨_, e⟩

theorem kit_self {K : PySem.W.Frag} {C : Addr} : PySem.W.kitOne K (.ref C) (.ref C) = some true := by
  unfold PySem.W.kitOne
  rw [if_pos (beq_self_eq_true _)]
theorem all_mk {l : PySem.W.OpenLaw} {w : World} {K : PySem.W.Frag} {h : Heap} {mg : Str → Option Value} {fa CF CB CI fiF fiB fw fv fx TW TV TX pr ge : Addr} {f1 f2 f3 f4 f5 f6 f7 f8 f9 f10 f11 f12 f13 f14 f15 f16 f17 f18 f19 f20 f21 f22 f23 f24 f25 f26 f27 f28 f29 f30 f31 f32 f33 f34 f35 f36 f37 gN gE gC gV gA p0 q0 p1 q1 : Addr} (X : K.In h) (G : h.Ns mainGlobals mg) (V : PySem.W.LooseAre [("LARGEST", PySem.W.WData.int LG)] mg h) (hfa : mg "law" = some (.ref fa))
    (D1 : Df K "_state_at" sStAt f1)
    (D2 : Df K "is_sign" sIsSign f2)
    (D3 : Df K "is_number" sIsNum f3)
    (D4 : Df K "is_number_within" sIsNumW f4)
    (D5 : Df K "_is_state" sIsSt f5)
    (D6 : Df K "_states_ahead_of_last" sEndM f6)
    (D7 : Df K "useful_states" sUsef f7)
    (D8 : Df K "is_machine_of_form" sIsMF f8)
    (D9 : Df K "copied" sCopd f9)
    (D10 : Df K "is_word" sIsWord f10)
    (D11 : Df K "has_word" sHasW f11)
    (D12 : Df K "check_number" sChkNum f12)
    (D13 : Df K "word_counts" sCnts f13)
    (D14 : Df K "form_of_machine" sFOM f14)
    (D15 : Df K "_with_state" sWSt f15)
    (D16 : Df K "ordered" sOrdered f16)
    (D17 : Df K "_machine_of_words" sMow f17)
    (D18 : Df K "_law_coin" sCoin f18)
    (D19 : Df K "_law_pick" sPick f19)
    (D20 : Df K "_law_raw_states" sRaw f20)
    (D21 : Df K "_law_next_states" sNxt f21)
    (D22 : Df K "_law_useful_ones" sUso f22)
    (D23 : Df K "_law_trimmed_to" sTrm f23)
    (D24 : Df K "_law_drawn_states" sDst f24)
    (D25 : Df K "_law_drawn_start" sDrw f25)
    (D26 : Df K "_law_drawn_change" sDch f26)
    (D27 : Df K "_law_behind_change" sBch f27)
    (D28 : Df K "_law_done_by" sDon f28)
    (D29 : Df K "_law_as_shown" sShw f29)
    (D30 : Df K "_law_all_listed" sAll f30)
    (D31 : Df K "_law_led" sLedL f31)
    (D32 : Df K "_law_has_word" sHwL f32)
    (D33 : Df K "_law_count_words" sCw f33)
    (D34 : Df K "_law_words_right" sWr f34)
    (D35 : Df K "_law_all_right" sAlr f35)
    (D36 : Df K "_law_purse_of" sPurse f36)
    (D37 : Df K "law" sLaw13 f37)
    (z_len : PySem.W.nsIn K mainGlobals "len" = some none)
    (z_int : PySem.W.nsIn K mainGlobals "int" = some none)
    (z_abs : PySem.W.nsIn K mainGlobals "abs" = some none)
    (z_max : PySem.W.nsIn K mainGlobals "max" = some none)
    (z_min : PySem.W.nsIn K mainGlobals "min" = some none)
    (z_range : PySem.W.nsIn K mainGlobals "range" = some none)
    (z_list : PySem.W.nsIn K mainGlobals "list" = some none)
    (z_isinstance : PySem.W.nsIn K mainGlobals "isinstance" = some none)
    (z_str : PySem.W.nsIn K mainGlobals "str" = some none)
    (z_tuple : PySem.W.nsIn K mainGlobals "tuple" = some none)
    (z_all : PySem.W.nsIn K mainGlobals "all" = some none)
    (z_sorted : PySem.W.nsIn K mainGlobals "sorted" = some none)
    (z_set : PySem.W.nsIn K mainGlobals "set" = some none)
    (z_bool : PySem.W.nsIn K mainGlobals "bool" = some none)
    (z_dict : PySem.W.nsIn K mainGlobals "dict" = some none)
    (z_sum : PySem.W.nsIn K mainGlobals "sum" = some none)
    (z_enumerate : PySem.W.nsIn K mainGlobals "enumerate" = some none)
    (z_zip : PySem.W.nsIn K mainGlobals "zip" = some none)
    (z_repr : PySem.W.nsIn K mainGlobals "repr" = some none)
    {tS tQ tL t8 : Tok}
    (vS : PySem.W.nsIn K mainGlobals "SIGNS" = some (some (.str "abcde" tS)))
    (vQ : PySem.W.nsIn K mainGlobals "MAX_STATES" = some (some (.int 40 tQ)))
    (vL : PySem.W.nsIn K mainGlobals "MAX_LENGTH" = some (some (.int 200 tL)))
    (v8 : PySem.W.nsIn K mainGlobals "MAX_WRITTEN" = some (some (.int 8 t8)))
    (aF : PySem.W.nsIn K mainGlobals "Form" = some (some (.ref CF)))
    (pgF : PySem.W.plainGet K CF Str.empty = true)
    (hdF : PySem.W.hasDictIn K CF = true)
    (poF : PySem.W.plainOver K CF = true)
    (saF : PySem.W.findIn K (.ref CF) "__setattr__" = some (some (.builtin "object.__setattr__")))
    (mkF : PySem.W.makesIn K CF = true)
    (kcF : PySem.W.keepIn K (.ref CF) = true)
    (nF0 : PySem.W.findIn K (.ref CF) "_states" = some none)
    {oiF kViF dociF pmiF cdiF ctiF : Value} {odiF aniF : Option Addr} {sliF : Array (Option Value)}
    (iiF : PySem.W.findIn K (.ref CF) "__init__" = some (some (.ref fiF)))
    (jfF : PySem.W.isFn K (.ref fiF) = true)
    (liF : K.lookup fiF = some ⟨oiF, odiF, .func (PySem.W.fnOf "__init__" "Form.__init__" (defArgs sFInit) (defBody sFInit) (defScope sFInit) .none kViF dociF pmiF aniF cdiF ctiF), sliF⟩)
    (ciF : PySem.W.codeIn K cdiF "Form.__init__" = true)
    (kiF : PySem.W.keepIn K (.ref fiF) = true)
    (aB : PySem.W.nsIn K mainGlobals "Built" = some (some (.ref CB)))
    (pgB : PySem.W.plainGet K CB Str.empty = true)
    (hdB : PySem.W.hasDictIn K CB = true)
    (poB : PySem.W.plainOver K CB = true)
    (saB : PySem.W.findIn K (.ref CB) "__setattr__" = some (some (.builtin "object.__setattr__")))
    (mkB : PySem.W.makesIn K CB = true)
    (kcB : PySem.W.keepIn K (.ref CB) = true)
    (nB0 : PySem.W.findIn K (.ref CB) "machine" = some none)
    {oiB kViB dociB pmiB cdiB ctiB : Value} {odiB aniB : Option Addr} {sliB : Array (Option Value)}
    (iiB : PySem.W.findIn K (.ref CB) "__init__" = some (some (.ref fiB)))
    (jfB : PySem.W.isFn K (.ref fiB) = true)
    (liB : K.lookup fiB = some ⟨oiB, odiB, .func (PySem.W.fnOf "__init__" "Built.__init__" (defArgs sBInit) (defBody sBInit) (defScope sBInit) .none kViB dociB pmiB aniB cdiB ctiB), sliB⟩)
    (ciB : PySem.W.codeIn K cdiB "Built.__init__" = true)
    (kiB : PySem.W.keepIn K (.ref fiB) = true)
    (cB : PySem.W.isClsIn K CB = true)
    (tB : PySem.W.typeIn K (.ref CB) = some (.type "type"))
    (sB : PySem.W.subIn K (.type "tuple") (.ref CB) = some false)
    (hn : PySem.W.specialIn K (.builtin "object.__class__") "__get__" = some (some (.builtin "getset_descriptor.__get__")))
    (ht : PySem.W.takesIn K (.builtin "object.__class__") = some true)
    (haF : PySem.W.findIn K (.ref CF) "__class__" = some (some (.builtin "object.__class__")))
    (hmF : PySem.W.mroIn K CF (.type "object") = some true)
    (haB : PySem.W.findIn K (.ref CB) "__class__" = some (some (.builtin "object.__class__")))
    (hmB : PySem.W.mroIn K CB (.type "object") = some true)
    {oc0 kV0 doc0 pm0 cd0 ct0 : Value} {od0 an0 : Option Addr} {sl0 : Array (Option Value)}
    (w_a0 : PySem.W.nsIn K mainGlobals "first_words" = some (some (.ref fw)))
    (w_l0 : K.lookup fw = some ⟨oc0, od0, .func (PySem.W.fnOf "first_words" "first_words" (defArgs sFirstW) (defBody sFirstW) (defScope sFirstW) (.ref TW) kV0 doc0 pm0 an0 cd0 ct0), sl0⟩)
    (w_c0 : PySem.W.codeIn K cd0 "first_words" = true)
    (w_k0 : PySem.W.keepIn K (.ref fw) = true)
    {tc0 : Value} {td0 : Option Addr} {tt0 : Tok} {tn0 : Nat} {ts0 : Array (Option Value)}
    (w_T0 : K.lookup TW = some ⟨tc0, td0, .seq #[.int 0 tt0] tn0, ts0⟩)
    {oc1 kV1 doc1 pm1 cd1 ct1 : Value} {od1 an1 : Option Addr} {sl1 : Array (Option Value)}
    (w_a1 : PySem.W.nsIn K mainGlobals "walked" = some (some (.ref fv)))
    (w_l1 : K.lookup fv = some ⟨oc1, od1, .func (PySem.W.fnOf "walked" "walked" (defArgs sWlkd) (defBody sWlkd) (defScope sWlkd) (.ref TV) kV1 doc1 pm1 an1 cd1 ct1), sl1⟩)
    (w_c1 : PySem.W.codeIn K cd1 "walked" = true)
    (w_k1 : PySem.W.keepIn K (.ref fv) = true)
    {tc1 : Value} {td1 : Option Addr} {tt1 : Tok} {tn1 : Nat} {ts1 : Array (Option Value)}
    (w_T1 : K.lookup TV = some ⟨tc1, td1, .seq #[.int 0 tt1] tn1, ts1⟩)
    {oc2 kV2 doc2 pm2 cd2 ct2 : Value} {od2 an2 : Option Addr} {sl2 : Array (Option Value)}
    (w_a2 : PySem.W.nsIn K mainGlobals "first_word" = some (some (.ref fx)))
    (w_l2 : K.lookup fx = some ⟨oc2, od2, .func (PySem.W.fnOf "first_word" "first_word" (defArgs sFst) (defBody sFst) (defScope sFst) (.ref TX) kV2 doc2 pm2 an2 cd2 ct2), sl2⟩)
    (w_c2 : PySem.W.codeIn K cd2 "first_word" = true)
    (w_k2 : PySem.W.keepIn K (.ref fx) = true)
    {tc2 : Value} {td2 : Option Addr} {tt2 : Tok} {tn2 : Nat} {ts2 : Array (Option Value)}
    (w_T2 : K.lookup TX = some ⟨tc2, td2, .seq #[.int 0 tt2] tn2, ts2⟩)
    {rest : List Value}
    (r1 : PySem.W.readsIn K CF (.type "type") = true)
    (r2 : PySem.W.specialIn K (.ref CF) "__getattribute__" = some (some (.builtin "type.__getattribute__")))
    (m1 : PySem.W.findCls K (.ref CF) (.type "type") "of_words" = some (.get (.builtin "classmethod.__get__") (.ref pr) .none (.ref CF)))
    (m2 : PySem.W.recIn K pr "classmethod" = some (.ref ge :: rest))
    (m3 : PySem.W.fnIn K ge = true)
    {oc kV doc pm cd ct : Value} {od an : Option Addr} {sl : Array (Option Value)}
    (l4 : K.lookup ge = some ⟨oc, od, .func (PySem.W.fnOf "of_words" "Form.of_words" (defArgs sOfW) (defBody sOfW) (defScope sOfW) .none kV doc pm an cd ct), sl⟩)
    (c4 : PySem.W.codeIn K cd "Form.of_words" = true)
    (k4 : PySem.W.keepIn K (.ref ge) = true)
    (fne : PySem.W.findIn K (.ref CF) "__ne__" = some (some (.builtin "object.__ne__")))
    (aI : PySem.W.nsIn K mainGlobals "InvalidForm" = some (some (.ref CI)))
    (xI : PySem.W.excIn K CI [.type "ValueError", .type "Exception", .type "BaseException", .type "object"] "ValueError.__new__" = true)
    (kI : PySem.W.keepIn K (.ref CI) = true)
    (bI : PySem.W.subIn K (.ref CI) (.type "BaseException") = some true)
    (tI : PySem.W.typeIn K (.ref CI) = some (.type "type"))
    (iI : PySem.W.isClsIn K CI = true)
    (sI : PySem.W.subIn K (.ref CI) (.ref CI) = some true)
    (MN : Mf K CF "__contains__" "Form.__contains__" sFCon gN)
    (ME : Mf K CF "__eq__" "Form.__eq__" sFEq gE)
    (MC : Mf K CF "count" "Form.count" sFCnt gC)
    (MV : Mf K CF "with_move" "Form.with_move" sWMv gV)
    (MA : Mf K CF "with_last" "Form.with_last" sWLa gA)
    (Q0 : Pf K CF "states" "Form.states" sFSt p0 q0)
    (Q1 : Pf K CF "first" "Form.first" sFFst p1 q1) :
    ∃ fd : FuncData, (∀ (s : Shared) (v : Value), BindsTo s fd ⟨[v], []⟩ [("_law_script", v)]) ∧ ∀ base : Heap, K.In base → base.Ns mainGlobals mg → FnG l.prog w K mg base CX0 12 fa fd ["_law_script"] (spLaw13 K) := by
  have gm := fun {x : Str} {v : Value} (e : PySem.W.nsIn K mainGlobals x = some (some v)) => PySem.W.mg_of X G e
  have gz := fun {x : Str} (e : PySem.W.nsIn K mainGlobals x = some none) => PySem.W.mg_none_of X G e
  have B : Bn mg := ⟨gz z_len, gz z_int, gz z_abs, gz z_max, gz z_min, gz z_range, gz z_list⟩
  have W : Wn mg := ⟨gz z_isinstance, gz z_str, _, gm vS⟩
  have O : On mg := ⟨gz z_tuple, gz z_all, gz z_sorted, gz z_set⟩
  have N : Nn mg := ⟨gz z_bool, lg_of V⟩
  have Dd : Dn mg := ⟨gz z_dict⟩
  have En : En mg := ⟨gz z_enumerate⟩
  have Zp : Zn mg := ⟨gz z_zip⟩
  obtain ⟨d1, F1⟩ := D1.fn
  have b1 := F1.binds (ps := ["machine", "state", "sign"]) fun _ _ _ _ _ _ us hl => match us, hl with | [_, _, _], _ => rfl
  obtain ⟨d2, F2⟩ := D2.fn
  have b2 := F2.binds (ps := ["value"]) fun _ _ _ _ _ _ us hl => match us, hl with | [_], _ => rfl
  obtain ⟨d3, F3⟩ := D3.fn
  have b3 := F3.binds (ps := ["value"]) fun _ _ _ _ _ _ us hl => match us, hl with | [_], _ => rfl
  obtain ⟨d4, F4⟩ := D4.fn
  have b4 := F4.binds (ps := ["value", "least", "most"]) fun _ _ _ _ _ _ us hl => match us, hl with | [_, _, _], _ => rfl
  obtain ⟨d5, F5⟩ := D5.fn
  have b5 := F5.binds (ps := ["value", "many"]) fun _ _ _ _ _ _ us hl => match us, hl with | [_, _], _ => rfl
  obtain ⟨d6, F6⟩ := D6.fn
  have b6 := F6.binds (ps := ["machine"]) fun _ _ _ _ _ _ us hl => match us, hl with | [_], _ => rfl
  obtain ⟨d7, F7⟩ := D7.fn
  have b7 := F7.binds (ps := ["machine"]) fun _ _ _ _ _ _ us hl => match us, hl with | [_], _ => rfl
  obtain ⟨d8, F8⟩ := D8.fn
  have b8 := F8.binds (ps := ["value", "most"]) fun _ _ _ _ _ _ us hl => match us, hl with | [_, _], _ => rfl
  obtain ⟨d9, F9⟩ := D9.fn
  have b9 := F9.binds (ps := ["machine"]) fun _ _ _ _ _ _ us hl => match us, hl with | [_], _ => rfl
  obtain ⟨d10, F10⟩ := D10.fn
  have b10 := F10.binds (ps := ["value"]) fun _ _ _ _ _ _ us hl => match us, hl with | [_], _ => rfl
  obtain ⟨d11, F11⟩ := D11.fn
  have b11 := F11.binds (ps := ["machine", "word"]) fun _ _ _ _ _ _ us hl => match us, hl with | [_, _], _ => rfl
  obtain ⟨d12, F12⟩ := D12.fn
  have b12 := F12.binds (ps := ["given", "least", "most"]) fun _ _ _ _ _ _ us hl => match us, hl with | [_, _, _], _ => rfl
  obtain ⟨d13, F13⟩ := D13.fn
  have b13 := F13.binds (ps := ["machine", "many"]) fun _ _ _ _ _ _ us hl => match us, hl with | [_, _], _ => rfl
  obtain ⟨d14, F14⟩ := D14.fn
  have b14 := F14.binds (ps := ["machine"]) fun _ _ _ _ _ _ us hl => match us, hl with | [_], _ => rfl
  obtain ⟨d15, F15⟩ := D15.fn
  have b15 := F15.binds (ps := ["machine", "at", "state"]) fun _ _ _ _ _ _ us hl => match us, hl with | [_, _, _], _ => rfl
  obtain ⟨d16, F16⟩ := D16.fn
  have b16 := F16.binds (ps := ["words"]) fun _ _ _ _ _ _ us hl => match us, hl with | [_], _ => rfl
  obtain ⟨d17, F17⟩ := D17.fn
  have b17 := F17.binds (ps := ["words"]) fun _ _ _ _ _ _ us hl => match us, hl with | [_], _ => rfl
  obtain ⟨d18, F18⟩ := D18.fn
  have b18 := F18.binds (ps := ["_law_purse", "_law_total"]) fun _ _ _ _ _ _ us hl => match us, hl with | [_, _], _ => rfl
  obtain ⟨d19, F19⟩ := D19.fn
  have b19 := F19.binds (ps := ["_law_purse", "_law_items"]) fun _ _ _ _ _ _ us hl => match us, hl with | [_, _], _ => rfl
  obtain ⟨d20, F20⟩ := D20.fn
  have b20 := F20.binds (ps := ["_law_purse", "_law_most", "_law_signs"]) fun _ _ _ _ _ _ us hl => match us, hl with | [_, _, _], _ => rfl
  obtain ⟨d21, F21⟩ := D21.fn
  have b21 := F21.binds (ps := ["_law_raw", "_law_state"]) fun _ _ _ _ _ _ us hl => match us, hl with | [_, _], _ => rfl
  obtain ⟨d22, F22⟩ := D22.fn
  have b22 := F22.binds (ps := ["_law_raw"]) fun _ _ _ _ _ _ us hl => match us, hl with | [_], _ => rfl
  obtain ⟨d23, F23⟩ := D23.fn
  have b23 := F23.binds (ps := ["_law_raw"]) fun _ _ _ _ _ _ us hl => match us, hl with | [_], _ => rfl
  obtain ⟨d24, F24⟩ := D24.fn
  have b24 := F24.binds (ps := ["_law_purse", "_law_most"]) fun _ _ _ _ _ _ us hl => match us, hl with | [_, _], _ => rfl
  obtain ⟨d25, F25⟩ := D25.fn
  have b25 := F25.binds (ps := ["_law_purse"]) fun _ _ _ _ _ _ us hl => match us, hl with | [_], _ => rfl
  obtain ⟨d26, F26⟩ := D26.fn
  have b26 := F26.binds (ps := ["_law_purse", "_law_states"]) fun _ _ _ _ _ _ us hl => match us, hl with | [_, _], _ => rfl
  obtain ⟨d27, F27⟩ := D27.fn
  have b27 := F27.binds (ps := ["_law_states", "_law_change"]) fun _ _ _ _ _ _ us hl => match us, hl with | [_, _], _ => rfl
  obtain ⟨d28, F28⟩ := D28.fn
  have b28 := F28.binds (ps := ["_law_form", "_law_change"]) fun _ _ _ _ _ _ us hl => match us, hl with | [_, _], _ => rfl
  obtain ⟨d29, F29⟩ := D29.fn
  have b29 := F29.binds (ps := ["_law_states"]) fun _ _ _ _ _ _ us hl => match us, hl with | [_], _ => rfl
  obtain ⟨d30, F30⟩ := D30.fn
  have b30 := F30.binds (ps := ["_law_signs", "_law_many"]) fun _ _ _ _ _ _ us hl => match us, hl with | [_, _], _ => rfl
  obtain ⟨d31, F31⟩ := D31.fn
  have b31 := F31.binds (ps := ["_law_states", "_law_word"]) fun _ _ _ _ _ _ us hl => match us, hl with | [_, _], _ => rfl
  obtain ⟨d32, F32⟩ := D32.fn
  have b32 := F32.binds (ps := ["_law_states", "_law_word"]) fun _ _ _ _ _ _ us hl => match us, hl with | [_, _], _ => rfl
  obtain ⟨d33, F33⟩ := D33.fn
  have b33 := F33.binds (ps := ["_law_states", "_law_many"]) fun _ _ _ _ _ _ us hl => match us, hl with | [_, _], _ => rfl
  obtain ⟨d34, F34⟩ := D34.fn
  have b34 := F34.binds (ps := ["_law_form", "_law_states"]) fun _ _ _ _ _ _ us hl => match us, hl with | [_, _], _ => rfl
  obtain ⟨d35, F35⟩ := D35.fn
  have b35 := F35.binds (ps := ["_law_purse"]) fun _ _ _ _ _ _ us hl => match us, hl with | [_], _ => rfl
  obtain ⟨d36, F36⟩ := D36.fn
  have b36 := F36.binds (ps := ["_law_script", "_law_at"]) fun _ _ _ _ _ _ us hl => match us, hl with | [_, _], _ => rfl
  obtain ⟨d37, F37⟩ := D37.fn
  obtain ⟨eNn, NN⟩ := MN.fn
  have cbN := NN.binds (ps := ["self", "value"]) fun _ _ _ _ _ _ us hl => match us, hl with | [_, _], _ => rfl
  obtain ⟨eEn, NE⟩ := ME.fn
  have cbE := NE.binds (ps := ["self", "other"]) fun _ _ _ _ _ _ us hl => match us, hl with | [_, _], _ => rfl
  obtain ⟨eCn, NC⟩ := MC.fn
  have cbC := NC.binds (ps := ["self", "many"]) fun _ _ _ _ _ _ us hl => match us, hl with | [_, _], _ => rfl
  obtain ⟨eVn, NV⟩ := MV.fn
  have cbV := NV.binds (ps := ["self", "state", "sign", "to"]) fun _ _ _ _ _ _ us hl => match us, hl with | [_, _, _, _], _ => rfl
  obtain ⟨eAn, NA⟩ := MA.fn
  have cbA := NA.binds (ps := ["self", "state", "last"]) fun _ _ _ _ _ _ us hl => match us, hl with | [_, _, _], _ => rfl
  obtain ⟨h0, R0⟩ := Q0.fn
  have j0 := R0.binds (ps := ["self"]) fun _ _ _ _ _ _ us hl => match us, hl with | [_], _ => rfl
  obtain ⟨h1, R1⟩ := Q1.fn
  have j1 := R1.binds (ps := ["self"]) fun _ _ _ _ _ _ us hl => match us, hl with | [_], _ => rfl
  have clF : Cls K CF := ⟨pgF, hdF, poF, saF⟩
  have FiF := fun_mk (st := sFInit) liF ciF kiF
  have biF := FiF.binds (ps := ["self", "states"]) fun _ _ _ _ _ _ us hl => match us, hl with | [_, _], _ => rfl
  have McF : L2.Mk K CF fiF := ⟨mkF, iiF, jfF, kcF⟩
  have clB : Cls K CB := ⟨pgB, hdB, poB, saB⟩
  have FiB := fun_mk (st := sBInit) liB ciB kiB
  have biB := FiB.binds (ps := ["self", "machine"]) fun _ _ _ _ _ _ us hl => match us, hl with | [_, _], _ => rfl
  have McB : L2.Mk K CB fiB := ⟨mkB, iiB, jfB, kcB⟩
  have TcF : Fc K CF := ⟨clF, nF0⟩
  have TcB : Bc K mg CB := ⟨gm aB, clB, nB0, fun e => .base (.ins e clB haB hn ht hmB), kit_self⟩
  have EI : ExK K mg "InvalidForm" CI := ⟨gm aI, kI, xI, bI, tI⟩
  have nE : NeD K CF := ⟨fne, hmF⟩
  have Z : Kn K mg CF CB := ⟨gm aB, gm aF, kit_own cB tB sB, kit_self, ⟨_, gm v8⟩, fun e => .base (.ins e clF haF hn ht hmF)⟩
  have Fw : FunD K "first_words" "first_words" (defArgs sFirstW) (defBody sFirstW) (defScope sFirstW) [.int 0] [] fw _ := ⟨⟨oc0, od0, .ref TW, kV0, doc0, pm0, an0, cd0, ct0, sl0, rfl, w_l0, w_c0, .inr ⟨List.cons_ne_nil _ _, TW, _, [.int 0 tt0], tn0, rfl, w_T0, rfl, .cons ⟨_, rfl⟩ .nil⟩, .inl rfl⟩, w_k0⟩
  obtain ⟨dsFw, vdFw, bwFw⟩ := Fw.binds1 (ps := ["machine", "start"]) 1 0 (List.cons_ne_nil _ _) rfl fun _ _ _ _ _ _ _ us its hu hi => match us, its, hu, hi with | [_], [_], _, _ => ⟨_, rfl, rfl⟩
  obtain ⟨dsX, vdX, bwX⟩ := Fw.binds1 (ps := ["machine", "start"]) 2 1 (List.cons_ne_nil _ _) rfl fun _ _ _ _ _ _ _ us its hu hi => match us, its, hu, hi with | [_, _], [_], _, _ => ⟨_, rfl, rfl⟩
  obtain rfl : dsX = [] := by
    have v : Vals [] dsX := vdX
    cases v
    rfl
  have Fv : FunD K "walked" "walked" (defArgs sWlkd) (defBody sWlkd) (defScope sWlkd) [.int 0] [] fv _ := ⟨⟨oc1, od1, .ref TV, kV1, doc1, pm1, an1, cd1, ct1, sl1, rfl, w_l1, w_c1, .inr ⟨List.cons_ne_nil _ _, TV, _, [.int 0 tt1], tn1, rfl, w_T1, rfl, .cons ⟨_, rfl⟩ .nil⟩, .inl rfl⟩, w_k1⟩
  obtain ⟨dsFv, vdFv, bwFv⟩ := Fv.binds1 (ps := ["machine", "word", "start"]) 2 0 (List.cons_ne_nil _ _) rfl fun _ _ _ _ _ _ _ us its hu hi => match us, its, hu, hi with | [_, _], [_], _, _ => ⟨_, rfl, rfl⟩
  have Fx : FunD K "first_word" "first_word" (defArgs sFst) (defBody sFst) (defScope sFst) [.int 0] [] fx _ := ⟨⟨oc2, od2, .ref TX, kV2, doc2, pm2, an2, cd2, ct2, sl2, rfl, w_l2, w_c2, .inr ⟨List.cons_ne_nil _ _, TX, _, [.int 0 tt2], tn2, rfl, w_T2, rfl, .cons ⟨_, rfl⟩ .nil⟩, .inl rfl⟩, w_k2⟩
  obtain ⟨dsFx, vdFx, bwFx⟩ := Fx.binds1 (ps := ["machine", "start"]) 1 0 (List.cons_ne_nil _ _) rfl fun _ _ _ _ _ _ _ us its hu hi => match us, its, hu, hi with | [_], [_], _, _ => ⟨_, rfl, rfl⟩
  have eL : f37 = fa := by
    have e := hfa.symm.trans (gm D37.at_)
    cases e
    rfl
  subst eL
  have FL := F37
  obtain ⟨oc', od', kV', doc', pm', an', cdv', ct', osl', rfl, lk', hcd'⟩ := FL.ex
  refine ⟨PySem.W.fnOf "law" "law" (defArgs sLaw13) (defBody sLaw13) (defScope sLaw13) .none kV' doc' pm' an' cdv' ct', fun s v => .of_eq rfl, fun base _ _ => ?_⟩
  have GW : FnOk l.prog w K mg base CX0 1 fw _ ["machine", "start"] spFirstW := ok_firstW Fw B O
  have C_stAt : Cd l.prog w K mg base 1 "_state_at" ["machine", "state", "sign"] spStAt := ⟨_, _, ok_stAt F1 , gm D1.at_, F1.kp, b1⟩
  have GVw : FnOk l.prog w K mg base CX0 2 fv _ ["machine", "word", "start"] spWlkd := ok_wlkd Fv O C_stAt
  have GX : FnOk l.prog w K mg base CX0 2 fx _ ["machine", "start"] spFst := ok_fst Fx GW (gm w_a0) w_k0 bwFw vdFw bwX
  have C_isSign : Cd l.prog w K mg base 1 "is_sign" ["value"] (spJudge sgB K) := ⟨_, _, ok_isSign F2 B W, gm D2.at_, F2.kp, b2⟩
  have C_isNum : Cd l.prog w K mg base 1 "is_number" ["value"] spIsNum := ⟨_, _, ok_isNum F3 B W N, gm D3.at_, F3.kp, b3⟩
  have C_isNumW : Cd l.prog w K mg base 2 "is_number_within" ["value", "least", "most"] spIsNumW := ⟨_, _, ok_isNumW F4 C_isNum, gm D4.at_, F4.kp, b4⟩
  have C_isSt : Cd l.prog w K mg base 3 "_is_state" ["value", "many"] spIsSt := ⟨_, _, ok_isSt F5 B W O N Dd C_isSign C_isNumW, gm D5.at_, F5.kp, b5⟩
  have C_endM : Cd l.prog w K mg base 1 "_states_ahead_of_last" ["machine"] spEndM := ⟨_, _, ok_endM F6 B En, gm D6.at_, F6.kp, b6⟩
  have C_usef : Cd l.prog w K mg base 2 "useful_states" ["machine"] spUsef := ⟨_, _, ok_usef F7 C_endM GW (gm w_a0) w_k0 bwFw vdFw, gm D7.at_, F7.kp, b7⟩
  have C_isMF : Cd l.prog w K mg base 4 "is_machine_of_form" ["value", "most"] spIsMF := ⟨_, _, ok_isMF F8 B W O C_isSt C_usef, gm D8.at_, F8.kp, b8⟩
  have C_copd : Cd l.prog w K mg base 1 "copied" ["machine"] spCopd := ⟨_, _, ok_copd F9 O, gm D9.at_, F9.kp, b9⟩
  have GiF : FnOk l.prog w K mg base CX0 5 fiF _ ["self", "states"] (spFInit CF) := ok_fInit FiF TcF W Z C_isMF C_copd
  have GiB : FnOk l.prog w K mg base CX0 1 fiB _ ["self", "machine"] (spBInit CB) := ok_bInit FiB TcB
  have GiFB : FnOk l.prog w K mg base CX0 5 fiF _ ["self", "states"] (spFInitB CF CB) := ok_fInitB FiF TcF TcB W
  have GP0 : FnOk l.prog w K mg base CX0 2 q0 h0 ["self"] (spFSt CF) := ok_fSt R0 TcF C_copd
  have GP1 : FnOk l.prog w K mg base CX0 3 q1 h1 ["self"] (spFFst CF) := ok_fFst R1 TcF GX (gm w_a2) w_k2 bwFx vdFx
  have C_isWord : Cd l.prog w K mg base 1 "is_word" ["value"] (spJudge wB K) := ⟨_, _, ok_isWord F10 W, gm D10.at_, F10.kp, b10⟩
  have C_hasW : Cd l.prog w K mg base 3 "has_word" ["machine", "word"] spHasW := ⟨_, _, ok_hasW F11 B GVw (gm w_a1) w_k1 bwFv vdFv, gm D11.at_, F11.kp, b11⟩
  have GN : FnOk l.prog w K mg base CX0 4 gN eNn ["self", "value"] (spFCon CF K) := ok_fCon NN TcF C_isWord C_hasW
  have GE : FnOk l.prog w K mg base CX0 1 gE eEn ["self", "other"] (spFEq CF K) := ok_fEq NE TcF W Z
  have C_chkNum : Cd l.prog w K mg base 3 "check_number" ["given", "least", "most"] spChkNum := ⟨_, _, ok_chkNum F12 C_isNumW, gm D12.at_, F12.kp, b12⟩
  have C_cnts : Cd l.prog w K mg base 1 "word_counts" ["machine", "many"] spCnts := ⟨_, _, ok_cnts F13 B (gz z_sum), gm D13.at_, F13.kp, b13⟩
  have GC : FnOk l.prog w K mg base CX0 4 gC eCn ["self", "many"] (spFCnt CF) := ok_fCnt NC TcF ⟨_, gm vL⟩ C_chkNum C_cnts
  have C_isMFg : Cd l.prog w K mg base 4 "is_machine_of_form" ["value", "most"] spIsMFg := ⟨_, _, ok_isMFg F8 B W O C_isSt C_usef, gm D8.at_, F8.kp, b8⟩
  have C_fOM : Cd l.prog w K mg base 7 "form_of_machine" ["machine"] (spFOM CF) := ⟨_, _, ok_fOM F14 ⟨_, gm vQ⟩ (gm aF) TcF TcB McF McB GiFB biF GiB biB C_isMFg C_copd, gm D14.at_, F14.kp, b14⟩
  have C_wSt : CdX l.prog w K mg base 8 "_with_state" ["machine", "at", "state"] (spWSt CF CI) := ⟨_, _, ok_wSt F15 EI C_fOM, gm D15.at_, F15.kp, b15⟩
  have GV : FnOk l.prog w K mg base (L2.CX l.prog w) 9 gV eVn ["self", "state", "sign", "to"] (spWMv CF CI) := ok_wMv NV B TcF C_chkNum C_isSign C_wSt
  have GA : FnOk l.prog w K mg base (L2.CX l.prog w) 9 gA eAn ["self", "state", "last"] (spWLa CF CI) := ok_wLa NA B TcF C_chkNum C_wSt
  have C_ordered : Cd l.prog w K mg base 2 "ordered" ["words"] (spOrdered K) := ⟨_, _, ok_ordered F16 B W O C_isWord, gm D16.at_, F16.kp, b16⟩
  have C_mow : Cd l.prog w K mg base 1 "_machine_of_words" ["words"] spMow := ⟨_, _, ok_mow F17 B W O ⟨_, gm vQ⟩, gm D17.at_, F17.kp, b17⟩
  have Fe := fun_mk (st := sOfW) l4 c4 k4
  have bE := Fe.binds (ps := ["cls", "words"]) fun _ _ _ _ _ _ us hl => match us, hl with | [_, _], _ => rfl
  have Ge : FnOk l.prog w K mg base CX0 7 ge _ ["cls", "words"] (spOfW CF) := ok_ofW Fe TcF TcB McF McB GiFB biF GiB biB C_ordered C_mow
  have E1 : FnR l.prog w K mg base CX0 7 ge (spOfW CF) := by
    have e : (fun (vs : List L2.V) (H : Hp) (Q : VK) (E : XK) => spOfW CF (vs ++ []) H Q E) = spOfW CF := by
      funext vs H Q E
      rw [List.append_nil]
    rw [← e]
    exact Ge.raw bE .nil
  have C_coin : Cd l.prog w K mg base 1 "_law_coin" ["_law_purse", "_law_total"] spDip := ⟨_, _, ok_coin F18 B, gm D18.at_, F18.kp, b18⟩
  have C_pick : Cd l.prog w K mg base 2 "_law_pick" ["_law_purse", "_law_items"] (spPick2 K) := ⟨_, _, ok_pick F19 B C_coin, gm D19.at_, F19.kp, b19⟩
  have C_raw : Cd l.prog w K mg base 2 "_law_raw_states" ["_law_purse", "_law_most", "_law_signs"] spRaw := ⟨_, _, ok_raw F20 B C_coin, gm D20.at_, F20.kp, b20⟩
  have C_nxt : Cd l.prog w K mg base 1 "_law_next_states" ["_law_raw", "_law_state"] (spNxt K) := ⟨_, _, ok_nxt F21 B O, gm D21.at_, F21.kp, b21⟩
  have C_uso : Cd l.prog w K mg base 2 "_law_useful_ones" ["_law_raw"] (spUso K) := ⟨_, _, ok_uso F22 B O Dd C_nxt, gm D22.at_, F22.kp, b22⟩
  have C_trm : Cd l.prog w K mg base 3 "_law_trimmed_to" ["_law_raw"] (spTrm K) := ⟨_, _, ok_trm F23 B O Dd C_uso, gm D23.at_, F23.kp, b23⟩
  have C_dst : Cd l.prog w K mg base 4 "_law_drawn_states" ["_law_purse", "_law_most"] spDst := ⟨_, _, ok_dst F24 C_pick C_raw C_trm, gm D24.at_, F24.kp, b24⟩
  have C_drw : Cd l.prog w K mg base 8 "_law_drawn_start" ["_law_purse"] (spDrw CF) := ⟨_, _, ok_drw F25 B O TcF (gm aF) C_coin C_pick C_dst McF GiF biF ⟨r1, r2⟩ ⟨m1, ⟨rest, m2⟩, m3⟩ E1 Q0.of GP0 j0, gm D25.at_, F25.kp, b25⟩
  have C_dch : Cd l.prog w K mg base 3 "_law_drawn_change" ["_law_purse", "_law_states"] spDch := ⟨_, _, ok_dch F26 B O C_coin C_pick, gm D26.at_, F26.kp, b26⟩
  have C_bch : Cd l.prog w K mg base 1 "_law_behind_change" ["_law_states", "_law_change"] spBch := ⟨_, _, ok_bch F27 B O Dd, gm D27.at_, F27.kp, b27⟩
  have C_don : Cd l.prog w K mg base 10 "_law_done_by" ["_law_form", "_law_change"] (spDon CF) := ⟨_, _, ok_don F28 TcF (gm aI) (cat_self bI iI tI sI) ⟨gV, _, ⟨MV.find, MV.fun_, NV.kp⟩, GV, cbV⟩ ⟨gA, _, ⟨MA.find, MA.fun_, NA.kp⟩, GA, cbA⟩, gm D28.at_, F28.kp, b28⟩
  have C_shw : Cd l.prog w K mg base 1 "_law_as_shown" ["_law_states"] spShw := ⟨_, _, ok_shw F29 B O Dd, gm D29.at_, F29.kp, b29⟩
  have C_all : Cd l.prog w K mg base 1 "_law_all_listed" ["_law_signs", "_law_many"] spAll := ⟨_, _, ok_all F30 B, gm D30.at_, F30.kp, b30⟩
  have C_ledL : Cd l.prog w K mg base 1 "_law_led" ["_law_states", "_law_word"] (spLedL K) := ⟨_, _, ok_ledL F31 , gm D31.at_, F31.kp, b31⟩
  have C_hwL : Cd l.prog w K mg base 2 "_law_has_word" ["_law_states", "_law_word"] (spHwL K) := ⟨_, _, ok_hwL F32 C_ledL, gm D32.at_, F32.kp, b32⟩
  have C_cw : Cd l.prog w K mg base 1 "_law_count_words" ["_law_states", "_law_many"] spCw := ⟨_, _, ok_cw F33 B (gz z_sum), gm D33.at_, F33.kp, b33⟩
  have C_wr : Cd l.prog w K mg base 5 "_law_words_right" ["_law_form", "_law_states"] (spWr CF) := ⟨_, _, ok_wr F34 TcF C_all C_hwL C_cw ⟨MN.find, MN.fun_⟩ GN cbN ⟨gC, _, ⟨MC.find, MC.fun_, NC.kp⟩, GC, cbC⟩, gm D34.at_, F34.kp, b34⟩
  have GR35 : FnG l.prog w K mg base CX0 11 f35 d35 ["_law_purse"] spAlr := ok_alr F35 B (gz z_repr) TcF C_coin C_drw C_dch C_bch C_don C_uso C_shw C_wr Q0.of GP0 j0 ⟨ME.find, ME.fun_⟩ GE cbE nE
  have C_purse : Cd l.prog w K mg base 1 "_law_purse_of" ["_law_script", "_law_at"] (spFilled K) := ⟨_, _, ok_purse F36 B, gm D36.at_, F36.kp, b36⟩
  exact ok_law13 F37 B TcF (gm aF) C_purse GR35 (gm D35.at_) F35.kp b35 C_don McF GiF biF ⟨gV, _, ⟨MV.find, MV.fun_, NV.kp⟩, GV, cbV⟩ ⟨gA, _, ⟨MA.find, MA.fun_, NA.kp⟩, GA, cbA⟩ Q0.of GP0 j0 Q1.of GP1 j1 ⟨ME.find, ME.fun_⟩ GE cbE
theorem walk {l : PySem.W.OpenLaw} {q p : Program} {loose : List Str} {YP : World → Heap → Prop} {d : DefRec} {K : Params → PySem.W.Frag} (hn : l.most = some 63) (hdf : d.params.defaults = [])
    (hY : ∀ (w : World) (h : Heap), YP w h → (K w.params).In h)
    (F : ∀ (w : World) (mg : Str → Option Value) (fa : Addr) (h : Heap), (K w.params).In h → h.Ns mainGlobals mg → PySem.W.XL p [("LARGEST", PySem.W.WData.int LG)] mg h → mg d.name = some (.ref fa) →
      ∃ fd : FuncData, (∀ (s : Shared) (u : Value), BindsTo s fd ⟨[u], []⟩ [("_law_script", u)]) ∧ ∀ base : Heap, (K w.params).In base → base.Ns mainGlobals mg → FnG l.prog w (K w.params) mg base CX0 12 fa fd ["_law_script"] (spLaw13 (K w.params))) :
    PySem.W.WalkO q loose (PySem.W.XL p [("LARGEST", PySem.W.WData.int LG)]) YP l.row.toRowW d [] (fun f vs => PySem.call f vs) :=
  walk_ofG (n := 63) (k := 12) (x := "_law_script") (sp := fun w => spLaw13 (K w.params)) hn (by decide) hdf ⟨rfl, by decide, by decide⟩ hY F (fun _ _ a ns hl _ hS => ⟨a, ns, rfl, hS, hl, fun _ => rfl⟩)
end Mk

open PySem PySem.W PyProof.Rows in
set_option maxRecDepth 100000 in
set_option maxHeartbeats 0 in
theorem PySem.Challenge.cw_mendnumber_k13_whole_histories_of_forms_holds : PySem.Challenge.rw_mendnumber_k13_whole_histories_of_forms.Holds := by
  refine head13 ?_
  k_fill
  refine Mk.walk (l := PySem.Challenge.rw_mendnumber_k13_whole_histories_of_forms) rfl rfl (fun w h Y => PySem.W.kIn_of Y) ?F
  case F =>
    intro w mg fa h KX G XP hmg
    refine' Mk.all_mk KX G XP.2 hmg (Mk.df_mk ?a1 ?l1 ?c1 ?k1) (Mk.df_mk ?a2 ?l2 ?c2 ?k2) (Mk.df_mk ?a3 ?l3 ?c3 ?k3) (Mk.df_mk ?a4 ?l4 ?c4 ?k4) (Mk.df_mk ?a5 ?l5 ?c5 ?k5) (Mk.df_mk ?a6 ?l6 ?c6 ?k6) (Mk.df_mk ?a7 ?l7 ?c7 ?k7) (Mk.df_mk ?a8 ?l8 ?c8 ?k8) (Mk.df_mk ?a9 ?l9 ?c9 ?k9) (Mk.df_mk ?a10 ?l10 ?c10 ?k10) (Mk.df_mk ?a11 ?l11 ?c11 ?k11) (Mk.df_mk ?a12 ?l12 ?c12 ?k12) (Mk.df_mk ?a13 ?l13 ?c13 ?k13) (Mk.df_mk ?a14 ?l14 ?c14 ?k14) (Mk.df_mk ?a15 ?l15 ?c15 ?k15) (Mk.df_mk ?a16 ?l16 ?c16 ?k16) (Mk.df_mk ?a17 ?l17 ?c17 ?k17) (Mk.df_mk ?a18 ?l18 ?c18 ?k18) (Mk.df_mk ?a19 ?l19 ?c19 ?k19) (Mk.df_mk ?a20 ?l20 ?c20 ?k20) (Mk.df_mk ?a21 ?l21 ?c21 ?k21) (Mk.df_mk ?a22 ?l22 ?c22 ?k22) (Mk.df_mk ?a23 ?l23 ?c23 ?k23) (Mk.df_mk ?a24 ?l24 ?c24 ?k24) (Mk.df_mk ?a25 ?l25 ?c25 ?k25) (Mk.df_mk ?a26 ?l26 ?c26 ?k26) (Mk.df_mk ?a27 ?l27 ?c27 ?k27) (Mk.df_mk ?a28 ?l28 ?c28 ?k28) (Mk.df_mk ?a29 ?l29 ?c29 ?k29) (Mk.df_mk ?a30 ?l30 ?c30 ?k30) (Mk.df_mk ?a31 ?l31 ?c31 ?k31) (Mk.df_mk ?a32 ?l32 ?c32 ?k32) (Mk.df_mk ?a33 ?l33 ?c33 ?k33) (Mk.df_mk ?a34 ?l34 ?c34 ?k34) (Mk.df_mk ?a35 ?l35 ?c35 ?k35) (Mk.df_mk ?a36 ?l36 ?c36 ?k36) (Mk.df_mk ?a37 ?l37 ?c37 ?k37) ?y_z_len ?y_z_int ?y_z_abs ?y_z_max ?y_z_min ?y_z_range ?y_z_list ?y_z_isinstance ?y_z_str ?y_z_tuple ?y_z_all ?y_z_sorted ?y_z_set ?y_z_bool ?y_z_dict ?y_z_sum ?y_z_enumerate ?y_z_zip ?y_z_repr ?y_vS ?y_vQ ?y_vL ?y_v8 ?y_aF ?y_pgF ?y_hdF ?y_poF ?y_saF ?y_mkF ?y_kcF ?y_nF0 ?y_iiF ?y_jfF ?y_liF ?y_ciF ?y_kiF ?y_aB ?y_pgB ?y_hdB ?y_poB ?y_saB ?y_mkB ?y_kcB ?y_nB0 ?y_iiB ?y_jfB ?y_liB ?y_ciB ?y_kiB ?y_cB ?y_tB ?y_sB ?y_hn ?y_ht ?y_haF ?y_hmF ?y_haB ?y_hmB ?y_w_a0 ?y_w_l0 ?y_w_c0 ?y_w_k0 ?y_w_T0 ?y_w_a1 ?y_w_l1 ?y_w_c1 ?y_w_k1 ?y_w_T1 ?y_w_a2 ?y_w_l2 ?y_w_c2 ?y_w_k2 ?y_w_T2 ?y_r1 ?y_r2 ?y_m1 ?y_m2 ?y_m3 ?y_l4 ?y_c4 ?y_k4 ?y_fne ?y_aI ?y_xI ?y_kI ?y_bI ?y_tI ?y_iI ?y_sI (Mk.mf_mk ?mNa ?mNi ?mNl ?mNc ?mNk) (Mk.mf_mk ?mEa ?mEi ?mEl ?mEc ?mEk) (Mk.mf_mk ?mCa ?mCi ?mCl ?mCc ?mCk) (Mk.mf_mk ?mVa ?mVi ?mVl ?mVc ?mVk) (Mk.mf_mk ?mAa ?mAi ?mAl ?mAc ?mAk) (Mk.pf_mk ?p0a ?p0b ?p0t ?p0r ?p0l ?p0c ?p0k) (Mk.pf_mk ?p1a ?p1b ?p1t ?p1r ?p1l ?p1c ?p1k)
    (case a1 => k_is)
    (case l1 => k_is)
    (case c1 => k_is)
    (case k1 => k_is)
    (case a2 => k_is)
    (case l2 => k_is)
    (case c2 => k_is)
    (case k2 => k_is)
    (case a3 => k_is)
    (case l3 => k_is)
    (case c3 => k_is)
    (case k3 => k_is)
    (case a4 => k_is)
    (case l4 => k_is)
    (case c4 => k_is)
    (case k4 => k_is)
    (case a5 => k_is)
    (case l5 => k_is)
    (case c5 => k_is)
    (case k5 => k_is)
    (case a6 => k_is)
    (case l6 => k_is)
    (case c6 => k_is)
    (case k6 => k_is)
    (case a7 => k_is)
    (case l7 => k_is)
    (case c7 => k_is)
    (case k7 => k_is)
    (case a8 => k_is)
    (case l8 => k_is)
    (case c8 => k_is)
    (case k8 => k_is)
    (case a9 => k_is)
    (case l9 => k_is)
    (case c9 => k_is)
    (case k9 => k_is)
    (case a10 => k_is)
    (case l10 => k_is)
    (case c10 => k_is)
    (case k10 => k_is)
    (case a11 => k_is)
    (case l11 => k_is)
    (case c11 => k_is)
    (case k11 => k_is)
    (case a12 => k_is)
    (case l12 => k_is)
    (case c12 => k_is)
    (case k12 => k_is)
    (case a13 => k_is)
    (case l13 => k_is)
    (case c13 => k_is)
    (case k13 => k_is)
    (case a14 => k_is)
    (case l14 => k_is)
    (case c14 => k_is)
    (case k14 => k_is)
    (case a15 => k_is)
    (case l15 => k_is)
    (case c15 => k_is)
    (case k15 => k_is)
    (case a16 => k_is)
    (case l16 => k_is)
    (case c16 => k_is)
    (case k16 => k_is)
    (case a17 => k_is)
    (case l17 => k_is)
    (case c17 => k_is)
    (case k17 => k_is)
    (case a18 => k_is)
    (case l18 => k_is)
    (case c18 => k_is)
    (case k18 => k_is)
    (case a19 => k_is)
    (case l19 => k_is)
    (case c19 => k_is)
    (case k19 => k_is)
    (case a20 => k_is)
    (case l20 => k_is)
    (case c20 => k_is)
    (case k20 => k_is)
    (case a21 => k_is)
    (case l21 => k_is)
    (case c21 => k_is)
    (case k21 => k_is)
    (case a22 => k_is)
    (case l22 => k_is)
    (case c22 => k_is)
    (case k22 => k_is)
    (case a23 => k_is)
    (case l23 => k_is)
    (case c23 => k_is)
    (case k23 => k_is)
    (case a24 => k_is)
    (case l24 => k_is)
    (case c24 => k_is)
    (case k24 => k_is)
    (case a25 => k_is)
    (case l25 => k_is)
    (case c25 => k_is)
    (case k25 => k_is)
    (case a26 => k_is)
    (case l26 => k_is)
    (case c26 => k_is)
    (case k26 => k_is)
    (case a27 => k_is)
    (case l27 => k_is)
    (case c27 => k_is)
    (case k27 => k_is)
    (case a28 => k_is)
    (case l28 => k_is)
    (case c28 => k_is)
    (case k28 => k_is)
    (case a29 => k_is)
    (case l29 => k_is)
    (case c29 => k_is)
    (case k29 => k_is)
    (case a30 => k_is)
    (case l30 => k_is)
    (case c30 => k_is)
    (case k30 => k_is)
    (case a31 => k_is)
    (case l31 => k_is)
    (case c31 => k_is)
    (case k31 => k_is)
    (case a32 => k_is)
    (case l32 => k_is)
    (case c32 => k_is)
    (case k32 => k_is)
    (case a33 => k_is)
    (case l33 => k_is)
    (case c33 => k_is)
    (case k33 => k_is)
    (case a34 => k_is)
    (case l34 => k_is)
    (case c34 => k_is)
    (case k34 => k_is)
    (case a35 => k_is)
    (case l35 => k_is)
    (case c35 => k_is)
    (case k35 => k_is)
    (case a36 => k_is)
    (case l36 => k_is)
    (case c36 => k_is)
    (case k36 => k_is)
    (case a37 => k_is)
    (case l37 => k_is)
    (case c37 => k_is)
    (case k37 => k_is)
    (case y_z_len => k_is)
    (case y_z_int => k_is)
    (case y_z_abs => k_is)
    (case y_z_max => k_is)
    (case y_z_min => k_is)
    (case y_z_range => k_is)
    (case y_z_list => k_is)
    (case y_z_isinstance => k_is)
    (case y_z_str => k_is)
    (case y_z_tuple => k_is)
    (case y_z_all => k_is)
    (case y_z_sorted => k_is)
    (case y_z_set => k_is)
    (case y_z_bool => k_is)
    (case y_z_dict => k_is)
    (case y_z_sum => k_is)
    (case y_z_enumerate => k_is)
    (case y_z_zip => k_is)
    (case y_z_repr => k_is)
    (case y_vS => k_is)
    (case y_vQ => k_is)
    (case y_vL => k_is)
    (case y_v8 => k_is)
    (case y_aF => k_is)
    (case y_pgF => k_is)
    (case y_hdF => k_is)
    (case y_poF => k_is)
    (case y_saF => k_is)
    (case y_mkF => k_is)
    (case y_kcF => k_is)
    (case y_nF0 => k_is)
    (case y_iiF => k_is)
    (case y_jfF => k_is)
    (case y_liF => k_is)
    (case y_ciF => k_is)
    (case y_kiF => k_is)
    (case y_aB => k_is)
    (case y_pgB => k_is)
    (case y_hdB => k_is)
    (case y_poB => k_is)
    (case y_saB => k_is)
    (case y_mkB => k_is)
    (case y_kcB => k_is)
    (case y_nB0 => k_is)
    (case y_iiB => k_is)
    (case y_jfB => k_is)
    (case y_liB => k_is)
    (case y_ciB => k_is)
    (case y_kiB => k_is)
    (case y_cB => k_is)
    (case y_tB => k_is)
    (case y_sB => k_is)
    (case y_hn => k_is)
    (case y_ht => k_is)
    (case y_haF => k_is)
    (case y_hmF => k_is)
    (case y_haB => k_is)
    (case y_hmB => k_is)
    (case y_w_a0 => k_is)
    (case y_w_l0 => k_is)
    (case y_w_c0 => k_is)
    (case y_w_k0 => k_is)
    (case y_w_T0 => k_is)
    (case y_w_a1 => k_is)
    (case y_w_l1 => k_is)
    (case y_w_c1 => k_is)
    (case y_w_k1 => k_is)
    (case y_w_T1 => k_is)
    (case y_w_a2 => k_is)
    (case y_w_l2 => k_is)
    (case y_w_c2 => k_is)
    (case y_w_k2 => k_is)
    (case y_w_T2 => k_is)
    (case y_r1 => k_is)
    (case y_r2 => k_is)
    (case y_m1 => k_is)
    (case y_m2 => k_is)
    (case y_m3 => k_is)
    (case y_l4 => k_is)
    (case y_c4 => k_is)
    (case y_k4 => k_is)
    (case y_fne => k_is)
    (case y_aI => k_is)
    (case y_xI => k_exc)
    (case y_kI => k_is)
    (case y_bI => k_is)
    (case y_tI => k_is)
    (case y_iI => k_is)
    (case y_sI => k_is)
    (case mNa => k_is)
    (case mNi => k_is)
    (case mNl => k_is)
    (case mNc => k_is)
    (case mNk => k_is)
    (case mEa => k_is)
    (case mEi => k_is)
    (case mEl => k_is)
    (case mEc => k_is)
    (case mEk => k_is)
    (case mCa => k_is)
    (case mCi => k_is)
    (case mCl => k_is)
    (case mCc => k_is)
    (case mCk => k_is)
    (case mVa => k_is)
    (case mVi => k_is)
    (case mVl => k_is)
    (case mVc => k_is)
    (case mVk => k_is)
    (case mAa => k_is)
    (case mAi => k_is)
    (case mAl => k_is)
    (case mAc => k_is)
    (case mAk => k_is)
    (case p0a => k_is)
    (case p0b => k_is)
    (case p0t => k_is)
    (case p0r => k_is)
    (case p0l => k_is)
    (case p0c => k_is)
    (case p0k => k_is)
    (case p1a => k_is)
    (case p1b => k_is)
    (case p1t => k_is)
    (case p1r => k_is)
    (case p1l => k_is)
    (case p1c => k_is)
    (case p1k => k_is)
