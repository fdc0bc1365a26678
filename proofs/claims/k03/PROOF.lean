import PyProof.Rows.All
import HandS.ForMost
import HandS.Set
import HandS.SetFor
import HandS.SetTxt0
import HandS.Strs
import KE.SortData
import KE.SortLaws
import KE.SortKeyHeap
import KE.SortUse
import Wide.All
import OpenK.AllK
import Wide.FinOn
import HandS.Wide
import HandS.Flow
import PySem.Challenge.RW_mendnumber_k03_whole_closed_prices
import HandS.IsInst
import HandS.StrMore
import HandS.Walk
import HandS.MakeKwOnly
import HandS.ClsMeth
import HandS.DictComp
import HandS.Conv
import HandS.Iter
import HandS.Dict
import KE.KDictWalk
import HandS.More
import PyProof.Rows.SortStr
import KE.KDictSum
import HandS.Defaults
import HandS.Property
import HandS.Small
import HandS.DictTup
import HandS.OwnEq
import KE.KCallOwn
import KE.KFmtOwn
import PyProof.InstNe
import PyProof.FactsAll.enumerate_1
import OpenK.KMeth
import PyProof.P3In
import HandS.Exc
import HandS.ExcOwn
import HandS.WordsExc
import HandS.DictEq
import KE.KDictList
import KE.KDictCopyH
import KE.KItemsList
import KE.DataMinMax
import HandS.Sort
import HandS.FStr
import HandS.TupLen
import KE.KDictPairs
import PyProof.ListStr
import HandS.Style
import KE.KRevSl
import HandS.WordsDict
import KE.KDictDisplayH
import PyProof.DictTable
import HandS.Text
import HandS.TryOnly
import KE.KEqNest
import HandS.TupLe
set_option Elab.async false
set_option linter.all false
set_option maxRecDepth 100000
set_option maxHeartbeats 4000000
namespace Mk
open PySem PySem.Spec PyProof.Rows L2 PySem.Froz

/-- the table of a payload can be walked -/
def Wk (w : World) (D : SD) : Prop := Ris D.2.2.place.toList ∧ (w.params.followText "set-order" = true ∨ D.2.2.led = true)
/-- the payload holds just the unlike texts l, and can be walked -/
structure Tx (P : Program) (w : World) (D : SD) (l : List Str) : Prop where
  ok : TxOk P w D l
  wk : Wk w D
  nd : l.Nodup

section
variable {P : Program} {w : World} {A : Around} {E : Value → Shared → Prop} {s : Shared}
theorem plain_wk {t : SetTable} (h : Ris t.place.toList ∧ (w.params.followText "set-order" = true ∨ t.led = true)) :
    Ris (if t.plain = true then { t with plain := false } else t).place.toList ∧ (w.params.followText "set-order" = true ∨ (if t.plain = true then { t with plain := false } else t).led = true) := by
  by_cases c : t.plain = true
  · rw [if_pos c]; exact h
  · rw [if_neg c]; exact h
theorem tail_wk {ep : Nat} {es : Array (Int × Value)} {t : SetTable} {b : Bool} (h : Ris t.place.toList ∧ (w.params.followText "set-order" = true ∨ t.led = true)) : Wk w (tailTx ep es t b) := by
  unfold tailTx
  by_cases c : (!b && t.tooFull) = true
  · rw [if_pos c]
    refine ⟨relayAll_ris t es _, h.2.imp id fun z => ?_⟩
    show (relayAll t es (SetTable.grown es.size)).2.1.led = true
    rw [relayAll_led t es _]
    exact z
  · rw [if_neg c]; exact h
theorem add_wk {D : SD} (h : Int) (v : Value) (k : Wk w D) : Wk w (addTx h v D) := by
  unfold addTx
  refine tail_wk (plain_wk ⟨layNew_ris D.2.2 D.1 h v k.1, k.2.imp id fun z => ?_⟩)
  rw [layNew_led D.2.2 D.1 h v]
  exact z
theorem Tx.add {D : SD} {l : List Str} {k : Str} (u : Tok) (x : Tx P w D l) (hk : k ∉ l) : Tx P w (addTx (hashStr w k) (.str k u) D) (k :: l) :=
  ⟨add_ok u x.ok, add_wk _ _ x.wk, List.nodup_cons.mpr ⟨hk, x.nd⟩⟩

/-- an add of a text that is there -/
theorem dup_x {a : Addr} {T : String} {D : SD} {l : List Str} {k : Str} {u : Tok} {Q : Bool → Shared → Prop} (ho : s.heap.get? a = some (sObj T D)) (x : TxOk P w D l) (hk : k ∈ l) (hb : l.length < scanBound)
    (h : Q false s) : wpAny (model P w) A (setAddHashed a (.str k u) (hashStr w k)) Q E s := by
  obtain ⟨es, ep, t⟩ := D
  have d0 : (sObj T (es, ep, t)).data = .set es ep t := rfl
  have f0 : t.fits es.size = true := x.fit
  have e0 : ElemsOf (PySem.strKind P w) es.toList := x.el
  have z0 : es.size = l.length := x.sz
  have b0 : es.size < scanBound := by omega
  have k0 : (PySem.strKind P w).is k (.str k u) = true := is_str k u
  obtain ⟨e, he, hq⟩ := (x.mem k).mp hk
  unfold setAddHashed setAddHashedIn
  refine wpAny_holding (wpAny_bind (wpAny_setState_of ho d0 f0 ?_))
  dsimp only
  rw [byScan_of rfl b0 e0]
  simp only [↓reduceIte]
  unfold setAddByScan
  refine wpAny_bind (wpAny_bind (wpAny_rule ?_))
  refine wpAny_bind (wpAny_setScan_of (knd := PySem.strKind P w) (k := k) k0 ho d0 f0 e0 ?_)
  cases r : List.findIdx? (fun e => (PySem.strKind P w).is k e.2) es.toList with
  | none =>
    have := List.findIdx?_eq_none_iff.mp r e he
    rw [hq] at this
    cases this
  | some j => exact wpAny_pure (wpAny_pure h)

/-- at a stands the set of just the unlike texts l -/
def SetS (P : Program) (w : World) (h : Heap) (a : Addr) (l : List Str) : Prop := ∃ D : SD, h.get? a = some (sObj "set" D) ∧ Tx P w D l
theorem SetS.at {h h' : Heap} {a : Addr} {l : List Str} (x : SetS P w h a l) (k : ∀ o, h.get? a = some o → h'.get? a = some o) : SetS P w h' a l :=
  let ⟨D, e, t⟩ := x
  ⟨D, k _ e, t⟩
/-- l holds just the first i of xs -/
def Firsts (xs : List Str) (i : Nat) (l : List Str) : Prop := (∀ y, y ∈ l ↔ y ∈ xs.take i) ∧ l.length ≤ i
theorem put_x {a : Addr} {l : List Str} {k : Str} {u : Tok} {Q : Bool → Shared → Prop} (x : SetS P w s.heap a l) (hb : l.length + 1 < scanBound)
    (h : ∀ (b : Bool) (h' : Heap) (l' : List Str), Heap.SameBut a s.heap h' → SetS P w h' a l' → (∀ y, y ∈ l' ↔ y ∈ l ∨ y = k) → l'.length ≤ l.length + 1 → Q b { s with heap := h' }) :
    wpAny (model P w) A (setAddHashed a (.str k u) (hashStr w k)) Q E s := by
  obtain ⟨D, e, t⟩ := x
  by_cases hk : k ∈ l
  · refine dup_x e t.ok hk (by omega) (h false s.heap l (Heap.SameBut.refl a s.heap) ⟨D, e, t⟩ (fun y => ⟨.inl, fun z => z.elim id fun q => q ▸ hk⟩) (Nat.le_succ _))
  · refine add_x e t.ok hk hb (h true _ (k :: l) ?_ ⟨_, ?_, t.add u hk⟩ (fun y => ?_) (by simp))
    · exact Heap.SameBut.update _ _ _
    · exact get_upd _ e rfl
    · rw [List.mem_cons]
      exact Or.comm

theorem grow_x {I : Addr} {fp wr : List Addr} {G : Array GenState → Array GenState → Prop} {n : Nat} {Pv : Nat → Value → Prop} {St : Nat → Shared → Prop} {R : Result → Shared → Prop}
    (W : WalksS P w A.in1 I fp wr G n Pv St) (a : Addr) (ha : a ∉ fp) (xs : List Str) (hn : n = xs.length) (hb : xs.length + 1 < scanBound) (hv : ∀ i v, Pv i v → ∃ y t, xs[i]? = some y ∧ v = .str y t) :
    ∀ (m i : Nat) (s : Shared), n - i = m → i ≤ n → St i s → (∃ l, Firsts xs i l ∧ SetS P w s.heap a l) →
      (∀ s' l, Moved (a :: wr) G s s' → Firsts xs n l → SetS P w s'.heap a l → R (.ok (.ret .none)) s') →
      codeAny (model P w) A (.builtin "set.update.loop" ⟨[.ref a, .ref I], []⟩) R s := by
  have aw : a ∉ wr := fun z => ha (W.sub _ z)
  have more : ∀ b ∈ wr, b ∈ a :: wr := fun b z => List.mem_cons_of_mem _ z
  intro m
  induction m with
  | zero =>
    intro i s hm hi st ⟨l, hf, x⟩ hR
    obtain rfl : i = n := by omega
    refine codeAny_builtin PyProof.Rows.F.entry_set_update_loop ?_
    rw [Around.under_plainId PyProof.Rows.F.plain_set_update_loop _]
    show wpAny _ A.in1 (pyNext (.ref I) >>= _) _ _ s
    refine wpAny_bind (W.done s _ _ st fun s1 mv => wpAny_pure ?_)
    exact hR s1 l (mv.mono more) hf (x.at fun o e => mv.heap a o aw e)
  | succ m ih =>
    intro i s hm hi st ⟨l, hf, x⟩ hR
    have lt : i < n := by omega
    refine codeAny_builtin PyProof.Rows.F.entry_set_update_loop ?_
    rw [Around.under_plainId PyProof.Rows.F.plain_set_update_loop _]
    show wpAny _ A.in1 (pyNext (.ref I) >>= _) _ _ s
    refine wpAny_bind (W.item i s _ _ lt st fun v s1 pv st1 mv => ?_)
    obtain ⟨y, t, hy, rfl⟩ := hv i v pv
    have x1 : SetS P w s1.heap a l := x.at fun o e => mv.heap a o aw e
    show wpAny _ A.in1 (holding [Value.str y t] (setAdd a (.str y t)) >>= _) _ _ s1
    refine wpAny_bind (wpAny_holding ?_)
    unfold setAdd
    refine wpAny_holding (wpAny_bind ((PySem.strKind P w).pyHash (k := y) (is_str y t) ?_))
    refine put_x (s := { s1 with toks := s1.toks + 1 }) x1 (by have := hf.2; omega) fun b h1 l1 sb x2 hm2 hl2 => ?_
    have hf1 : Firsts xs (i + 1) l1 := ⟨fun z => by
      rw [hm2, hf.1, List.take_add_one, hy, List.mem_append]
      simp, by have := hf.2; omega⟩
    refine wpAny_pure ⟨plainId_quiet PyProof.Rows.F.plain_set_update_loop _, ih (i + 1) _ (by omega) lt (W.frame _ s1 _ _ st1 (Nat.le_succ _) fun b hb o e => ?_) ⟨l1, hf1, x2⟩ fun s2 l2 mv2 hf2 x3 => ?_⟩
    · exact (sb.2 b fun z => ha (z ▸ hb)).trans e
    · refine hR s2 l2 (Moved.trans W.gtrans ((mv.mono more).then_heap (Nat.le_succ _) fun b o hb e => ?_) mv2) hf2 x3
      exact (sb.2 b fun z => hb (z ▸ List.mem_cons_self)).trans e

/-- a set just made -/
abbrev ob0 (w : World) : Obj := { cls := .type "set", dict := none, data := .set #[] 0 (.fresh 0 0 (!w.params.followText "set-order")) }
theorem setS_new {h : Heap} {a : Addr} (e : h.get? a = some (ob0 w)) : SetS P w h a [] :=
  ⟨(#[], 0, .fresh 0 0 (!w.params.followText "set-order")), e, TxOk.nil rfl, ⟨List.Pairwise.nil, by
    show _ ∨ (!w.params.followText "set-order") = true
    cases w.params.followText "set-order"
    · exact .inr rfl
    · exact .inl rfl⟩, List.nodup_nil⟩

set_option maxHeartbeats 3200000 in
/-- set(t), t a tuple of texts -/
theorem call_set_tupleX {t : Addr} {items : Array Value} (xs : List Str) {Q : Value → Shared → Prop} (hh : A.handled = none) (ht : s.heap.IsTuple t items) (hx : StrsAre items.toList xs) (hb : xs.length + 1 < scanBound)
    (h : ∀ (h' : Heap) (tk : Nat) (l : List Str), SetS P w h' s.heap.objs.size l → Firsts xs xs.length l → (∀ b o, s.heap.get? b = some o → h'.get? b = some o) → Q (.ref s.heap.objs.size) { s with heap := h', toks := tk }) :
    wpAny (model P w) A (call (.type "set") [.ref t]) Q E s := by
  have hsz : items.size = xs.length := by
    have q := StrsAre.length hx
    rw [Array.length_toList] at q
    exact q
  obtain ⟨c0, tl0, mro0⟩ := PySem.F.called_set.mro
  have made0 := PySem.F.called_set.made
  have sub0 := PySem.F.called_set.sub
  refine wpAny_call (codeAny_of_tree ?_)
  show wpAny _ _ (callAny (.type "set") _) _ _ _
  refine wpAny_pure ⟨Code.quiet_builtin _ (by decide +kernel), codeAny_builtin PySem.F.entry_type_call ?_⟩
  rw [Around.under_plain (weight_type_call_type "set" [.ref t] []) rfl]
  have nt0 := PySem.F.called_set.notType
  have cc0 := PySem.F.called_set.canCreate
  have tc0 := PySem.F.typeCall_set_1 (.ref t)
  repeat (any_goals (first | assumption | wp_step))
  refine codeAny_mono (code_set_led1 (.ref t) (E := E) (Q₁ := fun v s1 => v = .ref s.heap.objs.size ∧ s1 = { s with heap := s.heap.push (ob0 w) }) ⟨rfl, rfl⟩) fun r s1 hr => ?_
  match r, hr with
  | .error e, hr => exact hr
  | .ok (.ret v), hr =>
    obtain ⟨rfl, rfl⟩ := hr
    have o0 : (s.heap.push (ob0 w)).get? s.heap.objs.size = some (ob0 w) := Heap.get?_push_size _ rfl
    have ty0 : Shared.TypeIs { s with heap := s.heap.push (ob0 w) } (.ref s.heap.objs.size) "set" := ⟨_, o0, rfl⟩
    have il0 := PySem.F.called_set.init.lookup
    have ib0 := PySem.F.called_set.init.bind (.ref s.heap.objs.size)
    repeat (any_goals (first | assumption | wp_step))
    refine codeAny_mono (codeAny_call_builtin (R := wants (fun v s2 => v = .none ∧ ∃ h2 tk l, s2 = { s with heap := h2, toks := tk } ∧ SetS P w h2 s.heap.objs.size l ∧ Firsts xs xs.length l ∧
        (∀ b o, s.heap.get? b = some o → h2.get? b = some o)) E) PySem.F.called_set.init.plain PySem.F.entry_set_init (check_set_init_1 ty0 ?_)) fun r2 s2 hr2 => ?_
    · obtain ⟨⟨oc, od, dt, osl⟩, ot, hc, nl, hd⟩ := ht
      simp only at hc hd
      subst hc
      subst hd
      have ot2 : (s.heap.push (ob0 w)).get? t = some { cls := .type "tuple", dict := od, data := .seq items nl, slots := osl } := Heap.get?_push_of_some _ ot
      have st1 := F.sub_tuple_set
      have st2 := F.sub_tuple_frozenset
      have td0 : (Value.type "tuple" == Value.type "dict") = false := by decide
      have t1 : (s.heap.push (ob0 w)).IsTuple t items := ⟨_, ot2, rfl, nl, rfl⟩
      unfold Builtin.«set.__init__» noKeywords Builtin.Frozenset.updateFrom
      generalize hPI : pyIter = PI
      wp_walk
      subst hPI
      refine wpAny_pyIter_tuple t1 (wpAny_bind (wpAny_runValue ?_))
      have lt0 : t < s.heap.objs.size := Heap.lt_size ot
      have hh3 : A.in1.in1.in1.handled = none := by simp [hh]
      have z1 : (s.heap.push (ob0 w)).objs.size = s.heap.objs.size + 1 := Heap.size_push ..
      have ne1 : t ≠ (s.heap.push (ob0 w)).objs.size := by rw [z1]; exact Nat.ne_of_lt (Nat.lt_succ_of_lt lt0)
      have nf1 : s.heap.objs.size ∉ [(s.heap.push (ob0 w)).objs.size, t] := by
        rw [z1]
        simp only [List.mem_cons, List.not_mem_nil, or_false, not_or]
        exact And.intro (Nat.ne_of_lt (Nat.lt_succ_self _)) (Nat.ne_of_gt lt0)
      have val1 : ∀ (i : Nat) (v : Value), items[i]? = some v → ∃ y u, xs[i]? = some y ∧ v = .str y u := fun i v e => by
        have hi : i < xs.length := by rw [← hsz]; exact (Array.getElem?_eq_some_iff.mp e).1
        obtain ⟨u, q⟩ := SS.strs_at hx i v (by rw [Array.getElem?_toList]; exact e)
        exact ⟨xs[i], u, List.getElem?_eq_getElem hi, by rw [q, List.getD_eq_getElem?_getD, List.getElem?_eq_getElem hi]; rfl⟩
      refine grow_x ((Walks.tuple hh3 _ t ne1 items).toS) s.heap.objs.size nf1 xs hsz hb val1 (items.size - 0) 0 _ (by omega) (Nat.zero_le _)
        ⟨⟨_, Heap.get?_push_size _ rfl, rfl, rfl⟩, (t1.push _)⟩ ⟨[], ⟨fun y => by simp, Nat.le_refl 0⟩, setS_new (Heap.get?_push_of_some _ o0)⟩ ?_
      intro s3 l3 mv hf3 x3
      obtain ⟨h3, g3, d3, tk3, os3⟩ := s3
      obtain rfl : g3 = s.gens := mv.gens
      obtain rfl : d3 = s.drawn := mv.drawn
      obtain rfl : os3 = s.os := mv.os
      show wpAny _ _ _ _ _ _
      refine wpAny_pure ?_
      show wpAny _ _ (ret Value.none) _ _ _
      rw [hsz] at hf3
      refine wpAny_pure ⟨rfl, h3, tk3, l3, rfl, x3, hf3, fun b o e => ?_⟩
      have b0 : b < s.heap.objs.size := Heap.lt_size e
      refine mv.heap b o ?_ (Heap.get?_push_of_some _ (Heap.get?_push_of_some _ e))
      rw [z1]
      simp only [List.mem_cons, List.not_mem_nil, or_false, not_or]
      exact And.intro (Nat.ne_of_lt b0) (Nat.ne_of_lt (Nat.lt_succ_of_lt b0))
    · match r2, hr2 with
      | .error e, hr2 => exact hr2
      | .ok (.ret v2), hr2 =>
        obtain ⟨rfl, h2, tk2, l2, rfl, x2, hf2, k2⟩ := hr2
        repeat (any_goals (first | assumption | wp_step))
        exact h _ _ _ x2 hf2 k2
      | .ok .next, hr2 => exact hr2.elim
      | .ok .brk, hr2 => exact hr2.elim
      | .ok .cont, hr2 => exact hr2.elim
  | .ok .next, hr => exact hr.elim
  | .ok .brk, hr => exact hr.elim
  | .ok .cont, hr => exact hr.elim
end
end Mk

set_option Elab.async false
set_option linter.all false
set_option maxRecDepth 100000
set_option maxHeartbeats 4000000
namespace Mk
open PySem PySem.Spec PyProof.Rows L2 PySem.Froz

theorem perm_sub {α : Type} [BEq α] [LawfulBEq α] : ∀ {l m : List α}, l.Nodup → (∀ x ∈ l, x ∈ m) → m.length = l.length → m.Perm l
  | [], m, _, _, h => by
    have e : m = [] := List.length_eq_zero_iff.mp (by simpa using h)
    rw [e]
  | a :: l, m, nd, h, hl => by
    have ha := h a List.mem_cons_self
    obtain ⟨n1, n2⟩ := List.nodup_cons.mp nd
    have p := List.perm_cons_erase ha
    refine p.trans (List.Perm.cons a (perm_sub n2 (fun x hx => ?_) ?_))
    · have hne : x ≠ a := fun e => n1 (e ▸ hx)
      exact (List.mem_erase_of_ne hne).mpr (h x (List.mem_cons_of_mem _ hx))
    · have := p.length_eq
      rw [List.length_cons] at this hl
      omega
/-- a value that is the text y -/
abbrev IsTx (v : Value) (y : Str) : Prop := ∃ t, v = .str y t
def txOf (v : Value) : Str := match v with
  | .str y _ => y
  | _ => Str.empty
theorem each_tx : ∀ (vs : List Value), (∀ v ∈ vs, ∃ y t, v = .str y t) → PySem.W.EachIs IsTx vs (vs.map txOf)
  | [], _ => .nil
  | v :: vs, h => by
    obtain ⟨y, t, rfl⟩ := h v List.mem_cons_self
    exact .cons ⟨t, rfl⟩ (each_tx vs fun u hu => h u (List.mem_cons_of_mem _ hu))
theorem each_len {α β : Type} {R : α → β → Prop} : ∀ {as : List α} {bs : List β}, PySem.W.EachIs R as bs → as.length = bs.length
  | _, _, .nil => rfl
  | _, _, .cons _ t => by rw [List.length_cons, List.length_cons, each_len t]
theorem each_mono {α β : Type} {R R' : α → β → Prop} (h : ∀ a b, R a b → R' a b) : ∀ {as : List α} {bs : List β}, PySem.W.EachIs R as bs → PySem.W.EachIs R' as bs
  | _, _, .nil => .nil
  | _, _, .cons r t => .cons (h _ _ r) (each_mono h t)
theorem each_vals : ∀ {vs : List Value} {ys : List Str}, PySem.W.EachIs IsTx vs ys → Vals (ys.map V.str) vs
  | _, _, .nil => .nil
  | _, _, .cons r t => .cons r (each_vals t)
theorem vals_each : ∀ {ys : List Str} {vs : List Value}, Vals (ys.map V.str) vs → PySem.W.EachIs IsTx vs ys
  | [], _, .nil => .nil
  | _ :: _, _, .cons r t => .cons r (vals_each t)
section
variable {P : Program} {w : World} {A : Around} {E : Value → Shared → Prop} {s : Shared}
theorem Tx.texts {D : SD} {l : List Str} (x : Tx P w D l) : (∀ v ∈ D.1.toList.map (·.2), ∃ y t, v = .str y t) ∧ ((D.1.toList.map (·.2)).map txOf).Perm l := by
  have h1 : ∀ v ∈ D.1.toList.map (·.2), ∃ y t, v = Value.str y t := fun v hv => by
    obtain ⟨e, he, rfl⟩ := List.mem_map.mp hv
    obtain ⟨⟨k, hk, _⟩, _⟩ := x.ok.el e he
    obtain ⟨t, q⟩ := Value.isStrOf_shape (show Value.isStrOf k e.2 = true from hk)
    exact ⟨k, t, q⟩
  refine ⟨h1, perm_sub x.nd (fun k hk => ?_) (by rw [List.length_map, List.length_map, Array.length_toList]; exact x.ok.sz)⟩
  obtain ⟨e, he, hq⟩ := (x.ok.mem k).mp hk
  obtain ⟨t, q⟩ := Value.isStrOf_shape (show Value.isStrOf k e.2 = true from hq)
  exact List.mem_map.mpr ⟨e.2, List.mem_map.mpr ⟨e, he, rfl⟩, by rw [q]; rfl⟩

/-- texts by their codes -/
abbrev byCs (x y : Str) : Bool := decide (x.cps.toList ≤ y.cps.toList)
theorem enc_le : PySem.W.dataLe false (fun x : Str => PyData.str x) = byCs := PySem.W.dataLe_str (fun x => x)
/-- sorted(set) of texts -/
theorem sorted_setX {a : Addr} {l : List Str} {Q : Value → Shared → Prop} (x : SetS P w s.heap a l) (hh : A.handled = none) (hb : l.length < scanBound) (hu : A.units + 60 < cLine)
    (hQ : ∀ s' p (out : List Value) (c : Nat) (ys : List Str), (∀ b o, s.heap.get? b = some o → s'.heap.get? b = some o) → s'.gens = s.gens → s'.os = s.os → s.heap.objs.size ≤ p →
      s'.heap.get? p = some (seqObj "list" out.toArray c) → PySem.W.EachIs IsTx out (ys.mergeSort byCs) → ys.Perm l → Q (.ref p) s') :
    wpAny (model P w) A (call (.builtin "sorted") [.ref a]) Q E s := by
  obtain ⟨D, e0, t0⟩ := x
  obtain ⟨tx, pm0⟩ := t0.texts
  refine Calls.call_function_entry kind_sorted plain_sorted entry_sorted (args_sorted1 _) ?_
  unfold Builtin.«sorted»
  refine wpAny_bind (m := checkCount "sorted" 1 1 _) (wpAny_pure ?_)
  have z0 : D.1.size < scanBound := by rw [t0.ok.sz]; exact hb
  refine wpAny_bind (collect_set (A := A.in1) (es := D.1) (ep := D.2.1) (t := D.2.2) hh ⟨_, e0, rfl, rfl⟩ t0.ok.fit z0 t0.wk.1 t0.wk.2 fun s1 vs kp hz g1 o1 pm => ?_)
  have lv : vs.length = l.length := by rw [pm.length_eq, List.length_map, Array.length_toList]; exact t0.ok.sz
  have txv : ∀ v ∈ vs, ∃ y t, v = Value.str y t := fun v hv => tx v (pm.mem_iff.mp hv)
  have ev := each_tx vs txv
  have fit : l.length ≤ sizeLine := Nat.le_trans (Nat.le_of_lt hb) (by decide)
  refine wpAny_bind (wpAny_newList ?_ (by rw [lv]; exact fit))
  have at0 : (s1.heap.push (seqObj "list" vs.toArray 0)).get? s1.heap.objs.size = some (seqObj "list" vs.toArray 0) := Heap.get?_push_size _ rfl
  refine wpAny_bind (wpAny_holding (PySem.W.list_sort_data (s := { s1 with heap := s1.heap.push (seqObj "list" vs.toArray 0) }) (enc := fun x : Str => PyData.str x) at0 ev (each_mono (fun v y ⟨t, q⟩ => ⟨[], by rw [q]; exact .str y t, (fun z => nomatch z)⟩) ev)
    (PySem.W.AllAlike.of fun _ _ => rfl) (PySem.W.Sortable.others fun _ => ⟨(fun z => nomatch z), (fun _ z => nomatch z)⟩) (by rw [List.length_map, lv]; exact fit) (fun y _ => ?_) fun out lo eo => ?_))
  · show A.units + 1 + 1 + 0 < cLine
    omega
  obtain ⟨c, hc⟩ := sortedHeap_at (vs := vs) (out := out.toArray) at0
  rw [enc_le] at eo
  refine wpAny_pure ⟨_, rfl, hQ _ s1.heap.objs.size out c _ (fun b u e => ?_) g1 o1 hz hc eo ((pm.map txOf).trans pm0)⟩
  have q := kp b u e
  have lt := Heap.lt_size q
  show (sortedHeap (s1.heap.push (seqObj "list" vs.toArray 0)) s1.heap.objs.size vs out.toArray).get? b = some u
  rw [sortedHeap_old (Nat.ne_of_lt lt) (by rw [size_push']; exact Nat.lt_succ_of_lt lt)]
  exact Heap.get?_push_of_some _ q
end
end Mk

set_option Elab.async false
set_option linter.all false
set_option maxRecDepth 100000
set_option maxHeartbeats 4000000
namespace Mk
open PySem PySem.Spec PyProof.Rows L2 PySem.Froz

/-- the set of the unlike texts l at a -/
def SetSO (P : Program) (w : World) (a : Addr) (l : List Str) : HO := .ext fun h => SetS P w h a l
section
variable {X : Cx}
theorem setSO_new {P : Program} {w : World} {H : Hp} {h : Heap} {a : Addr} {l : List Str} (x : SetS P w h a l) : ObjOk P w H h a (SetSO P w a l) := by
  obtain ⟨D, e, t⟩ := id x
  exact ⟨x, ⟨_, e⟩, fun h1 h2 y k => y.at k⟩
theorem setSO_get {pins : List (Addr × Obj)} {σ : L2.St} {H : Hp} {s : Shared} {a : Addr} {l : List Str} (I : Inv X pins σ H s) (ha : H a = some (SetSO X.prog X.w a l)) : SetS X.prog X.w s.heap a l := (I.hok a _ ha).1
theorem strs_of : ∀ {ys : List Str} {us : List Value}, Vals (ys.map V.str) us → StrsAre us ys
  | [], _, .nil => .nil
  | y :: ys, _, .cons r t => by
    obtain ⟨k, rfl⟩ := r
    exact .cons y k (strs_of t)
/-- set(t), t a tuple of texts -/
def rSetX (K : PySem.W.Frag) (P : Program) (w : World) : List V → Hp → VK → Prop := fun xs H Q => ∃ (t : Addr) (zs : List Str), xs = [.ref t] ∧ SqT K H t (zs.map V.str) ∧ zs.length + 1 < scanBound ∧
  ∀ (p : Addr) (l : List Str), H p = none → l.Nodup → (∀ y, y ∈ l ↔ y ∈ zs) → l.length ≤ zs.length → Q (.ref p) (upd H p (SetSO P w p l))
theorem cr_setX (hc : X.calm = true) : CallR X (.type "set") (rSetX X.K X.prog X.w) := by
  intro pins s σ H xs us Q I r h
  obtain ⟨t, zs, rfl, ht, hb, q⟩ := h
  rw [Vals.ref1 r]
  obtain ⟨its, rv, hl, hz⟩ := I.tuple ht
  refine call_set_tupleX (items := its.toArray) zs (I.ok.hd hc) hl (by simpa using strs_of rv) hb fun h' tk l x hf k => ?_
  obtain ⟨D, e, tx⟩ := id x
  refine ⟨.ref _, upd H s.heap.objs.size (SetSO X.prog X.w s.heap.objs.size l), I.laid k (Nat.le_refl _) (setSO_new x), rfl, q _ _ (I.hok.fresh (Nat.le_refl _)) tx.nd (fun y => ?_) hf.2⟩
  rw [hf.1, List.take_length]
/-- sorted(set of texts) -/
def rSortedSX (P : Program) (w : World) : List V → Hp → VK → Prop := fun vs H Q => ∃ (a : Addr) (l : List Str), vs = [.ref a] ∧ H a = some (SetSO P w a l) ∧ l.length < scanBound ∧
  ∀ (ys : List Str) (p : Addr), ys.Perm l → H p = none → Q (.ref p) (upd H p (.lst ((ys.mergeSort byCs).map V.str)))
theorem cr_sortedSX (hc : X.calm = true) (hu : X.A.units + 60 < cLine) : CallR X (.builtin "sorted") (rSortedSX X.prog X.w) := by
  intro pins s σ H vs us Q I r h
  obtain ⟨a, l, rfl, ha, hb, q⟩ := h
  rw [Vals.ref1 r]
  refine sorted_setX (setSO_get I ha) (I.ok.hd hc) hb hu fun s' p out c ys k g o hp hg he hm => ?_
  have lo : ((ys.mergeSort byCs).map V.str).length ≤ sizeLine := by
    rw [List.length_map, (List.mergeSort_perm ys byCs).length_eq, hm.length_eq]
    exact Nat.le_trans (Nat.le_of_lt hb) (by decide)
  have hn : H p = none := I.hok.fresh hp
  have J : Inv X pins σ (upd H p (.lst ((ys.mergeSort byCs).map V.str))) { s with heap := s'.heap, gens := s'.gens, drawn := s'.drawn, toks := s'.toks } :=
    I.call (ch := []) (Un.laid k hp hn) (I.hok.laid k hp ⟨lo, out, c, each_vals he, hg⟩) (by rw [g]; exact I.bare) (fun _ z => nomatch z)
  have e : s' = { s with heap := s'.heap, gens := s'.gens, drawn := s'.drawn, toks := s'.toks } := by
    obtain ⟨s1, s2, s3, s4, s5⟩ := s'
    obtain ⟨t1, t2, t3, t4, t5⟩ := s
    obtain rfl : s5 = t5 := o
    rfl
  rw [e]
  exact ⟨.ref p, _, J, rfl, q ys p hm hn⟩
/-- texts by their lengths -/
abbrev byLen (x y : Str) : Bool := decide ((x.length : Int) ≤ (y.length : Int))
/-- sorted(xs, key=len), xs a list of texts -/
def tSortLen (K : PySem.W.Frag) (t : TA) : TE := fun σ H Q => t σ H fun vs H1 => ∃ (a : Addr) (zs : List Str), vs = [.ref a] ∧ SqL K H1 a (zs.map V.str) ∧ (∀ z ∈ zs, z.length ≤ sizeLine) ∧
  ∀ p, H1 p = none → Q (.ref p) (upd H1 p (.lst ((zs.mergeSort byLen).map V.str)))
theorem pe_sortLen {e : Expr} {t : TA} {p p2 kp pos : Pos} (hg : Gl X "sorted") (hm : X.mg "sorted" = none) (hgL : Gl X "len") (hmL : X.mg "len" = none) (hu : X.A.units + 60 < cLine) (ha : PA X [e] t)
    (he : backTo pos (starEach [e] X.env) = (false, eval e X.env) :: backTo pos (starEach [] X.env) := by rfl) (hpl : (backTo pos (starEach [e] X.env)).any (·.1) = false := by rfl) :
    PE X (.Call (.Name "sorted" p) [e] [⟨some "key", .Name "len" p2, kp⟩] pos) (tSortLen X.K t) := by
  refine ⟨fun pins s σ H Q I h => ?_⟩
  refine wpAny_Call_Name_kw (ld_blt I hg hm (u := .builtin "sorted") (by decide +kernel) ?_)
  refine PyProof.Rows.callWith_kw (thn (ha.run pos pins s σ H _ I h) fun us s1 ⟨vs, H1, I1, r1, q1⟩ => ?_) he hpl
  show wpAny _ _ (evalAll [do let v ← eval (.Name "len" p2) X.env; standAt pos; pure v]) _ _ s1
  refine wpAny_evalAll_cons (wpAny_bind (ld_blt I1 hgL hmL (u := .builtin "len") (by decide +kernel) (wpAny_bind (wpAny_standAt (wpAny_pure (wpAny_evalAll_nil ?_))))))
  show wpAny _ _ (call (.builtin "sorted") us [(Str.ofString "key", .builtin "len")]) _ _ s1
  obtain ⟨a, zs, rfl, hs, hz, q⟩ := q1
  rw [Vals.ref1 r1]
  obtain ⟨its, rv, hl, hsz⟩ := I1.list hs
  refine PySem.W.sorted_key_data (b := false) (R := IsTx) (bs := zs) (fun x : Str => PyData.int x.length) hl.isList (vals_each rv) (PySem.W.AllAlike.of fun _ _ => rfl) (PySem.W.Sortable.others fun _ => ⟨(fun z => nomatch z), (fun _ z => nomatch z)⟩)
    (by rw [List.length_map] at hsz; exact hsz) (fun x _ => ?_) (ksk_s1 _ _) (fun _ => ksk_l1 _ _) (fun _ => ksk_t4 _ _) (fun v x hR hx h0 tk0 k0 => ?_) fun out c h' tk k hn hd hlo he => ?_
  · show X.A.units + 2 + 0 < cLine
    omega
  · obtain ⟨t0, rfl⟩ := hR
    refine PySem.P.len_str ?_ ⟨h0, _, rfl, fun _ _ z => z, .int _ _⟩
    have := hz x hx
    rw [sizeLine_eq] at this
    omega
  · have ee : PySem.W.dataLe false (fun x : Str => PyData.int (x.length : Nat)) = byLen := PySem.W.dataLe_int fun x : Str => ((x.length : Nat) : Int)
    rw [ee] at he
    refine ⟨.ref _, upd H1 (s1.heap.objs.size + 1) (.lst ((zs.mergeSort byLen).map V.str)), I1.laid (t' := tk) k (Nat.le_succ _) ⟨?_, out, c, each_vals he, hd⟩, rfl, q _ (I1.hok.fresh (Nat.le_succ _))⟩
    rw [List.length_map, (List.mergeSort_perm zs byLen).length_eq]
    rw [List.length_map] at hsz
    exact hsz
end
end Mk

set_option Elab.async false
set_option maxRecDepth 100000
set_option maxHeartbeats 4000000
namespace Mk
open PySem L2

/-! ### rules of our own -/
section
variable {X : Cx}
def CPowW (i j : Int) : Prop := 0 ≤ j ∧ (Builtin.Int.intBits i : Int) * j ≤ 2 ^ 27
theorem op_powW : OpR X (binaryOp .Pow) (rI CPowW fun i j => .int (i ^ j.toNat)) := opI fun _ _ _ _ _ _ _ hc q => PyProof.Rows.pow_int hc.1 hc.2 q
end

/-! ### the pot -/
abbrev PB : Nat := 4294967296
/-- the pot at p: its count is at most n -/
def Pot (H : Hp) (p : Addr) (n : Nat) : Prop := ∃ u m c : Int, H p = some (.lst [.int u, .int m, .int c]) ∧ 0 ≤ u ∧ u < 2 ^ 2000 ∧ 0 ≤ m ∧ m < 2 ^ 62 ∧ 0 ≤ c ∧ c ≤ (n : Int)
theorem Pot.mono {H : Hp} {p : Addr} {n k : Nat} (h : Pot H p n) (hk : n ≤ k) : Pot H p k := by
  obtain ⟨u, m, c, e, h1, h2, h3, h4, h5, h6⟩ := h
  exact ⟨u, m, c, e, h1, h2, h3, h4, h5, by omega⟩
/-- all but p is as it was -/
def But (p : Addr) (H H' : Hp) : Prop := ∀ b o, b ≠ p → H b = some o → H' b = some o

/-! rules for a comprehension's block, the written part told -/
section
variable {X : Cx} {K : PySem.W.Frag}
theorem atK {e : Expr} {T : String} {r : V → List V → Hp → VK → Prop} {to : TE} {t : TA} (K : PySem.W.Frag) (h : PE X e (tBM X.K T r to t)) (hK : X.K = K := by rfl) : PE X e (tBM K T r to t) := hK ▸ h
theorem ix_listK (K : PySem.W.Frag) (hK : X.K = K := by rfl) : IxR X (rIxL K) := by
  subst hK
  exact ix_list
theorem call_lenK (K : PySem.W.Frag) (hK : X.K = K := by rfl) : CallR X (.builtin "len") (fun xs H Q => ∃ p ys, xs = [.ref p] ∧ (SqL K H p ys ∨ SqT K H p ys) ∧ Q (.int ys.length) H) := by
  subst hK
  exact call_len_seq
end
/-! ### words -/
/-- the codes of a text -/
abbrev cs (z : Str) : List Nat := z.cps.toList
/-- a text of signs a .. e -/
def IsW (z : Str) : Prop := ∀ c ∈ cs z, 97 ≤ c ∧ c ≤ 101
theorem cs_append (x y : Str) : cs (x ++ y) = cs x ++ cs y := by
  show (x.cps ++ y.cps).toList = _
  rw [Array.toList_append]
theorem len_cs (z : Str) : z.length = (cs z).length := rfl
theorem cs_join : ∀ ys : List Str, cs (Txt.join "" ys) = (ys.map cs).flatten := by
  intro ys
  show cs (Builtin.Str.glued "" ys) = _
  rw [StrLaws.glued_eq_join]
  induction ys with
  | nil => rfl
  | cons x r ih =>
    cases r with
    | nil => simp [Str.join]
    | cons y t =>
      show cs (x ++ "" ++ Str.join "" (y :: t)) = _
      rw [cs_append, cs_append, ih]
      simp
      rfl
theorem isW_join {ys : List Str} (h : ∀ y ∈ ys, IsW y) : IsW (Txt.join "" ys) := by
  intro c hc
  rw [cs_join] at hc
  obtain ⟨l, hl, hc⟩ := List.mem_flatten.mp hc
  obtain ⟨y, hy, rfl⟩ := List.mem_map.mp hl
  exact h y hy c hc
theorem len_join (ys : List Str) : (Txt.join "" ys).length = (ys.map (·.length)).sum := by
  rw [len_cs, cs_join, List.length_flatten, List.map_map]
  rfl
theorem sum_one {ys : List Str} (h : ∀ y ∈ ys, y.length = 1) : (ys.map (·.length)).sum = ys.length := by
  induction ys with
  | nil => rfl
  | cons y r ih =>
    rw [List.map_cons, List.sum_cons, h y List.mem_cons_self, ih fun z hz => h z (List.mem_cons_of_mem _ hz), List.length_cons]
    omega
theorem isW_one {c : Nat} (h : c ∈ cs "abcde") : IsW ⟨#[c]⟩ := by
  have e : cs "abcde" = [97, 98, 99, 100, 101] := by decide +kernel
  rw [e] at h
  intro d hd
  have : d = c := by simpa [cs] using hd
  subst this
  simp at h
  omega
theorem perm_erase {α : Type} : ∀ {l : List α} {k : Nat} (h : k < l.length), (l[k] :: l.eraseIdx k).Perm l
  | [], _, h => absurd h (Nat.not_lt_zero _)
  | a :: l, 0, _ => .refl _
  | a :: l, k + 1, h => by
    have ih := perm_erase (l := l) (k := k) (by simpa using h)
    simp only [List.getElem_cons_succ, List.eraseIdx_cons_succ]
    exact (List.Perm.swap _ _ _).trans (ih.cons a)
theorem seq_at {k : Int} {n : Nat} (h0 : 0 ≤ k) (h1 : k < n) : seqIndex? k n = some k.toNat := by
  unfold seqIndex?
  rw [if_neg (by omega : ¬ k < 0)]
  simp [h0, h1]
theorem at_ofA {α : Type} {xs : List α} {z : Int} {j : Nat} {v : α} (e : z = (j : Int)) (h : xs[j]? = some v) : atI xs z = some v := by
  rw [e]
  exact atI_nat h
theorem But.refl {p : Addr} {H : Hp} : But p H H := fun _ _ _ e => e
theorem But.trans {p : Addr} {H H1 H2 : Hp} (a : But p H H1) (b : But p H1 H2) : But p H H2 := fun c o h e => b c o h (a c o h e)
theorem But.of_same {p : Addr} {H H' : Hp} (h : Same H H') : But p H H' := fun b o _ e => h b o e
theorem Same.new {H : Hp} {l : Addr} {o : HO} (hl : H l = none) : Same H (upd H l o) := fun b u e => by
  rw [upd_ne (ne_of_none e hl)]
  exact e
/-- a store at an address that was new -/
theorem But.up {p l : Addr} {o : HO} {H H1 : Hp} (a : But p H H1) (hl : H l = none) : But p H (upd H1 l o) := fun b u h e => by
  rw [upd_ne (ne_of_none e hl)]
  exact a b u h e
theorem Pot.up {H : Hp} {p l : Addr} {n : Nat} {o : HO} (h : Pot H p n) (hn : p ≠ l) : Pot (upd H l o) p n := by
  obtain ⟨u, m, c, e, r⟩ := h
  exact ⟨u, m, c, by rw [upd_ne hn]; exact e, r⟩
theorem Pot.ne {H : Hp} {p l : Addr} {n : Nat} (h : Pot H p n) (hn : H l = none) : p ≠ l := by
  obtain ⟨u, m, c, e, r⟩ := h
  exact ne_of_none e hn
theorem join_e {b : Bool} {te1 te2 : TE} {σ : L2.St} {H : Hp} {C : VK} (R : V → Prop) (hC : ∀ z, R z → C z H) (h1 : b = true → (∀ z, R z → C z H) → te1 σ H C) (h2 : b = false → (∀ z, R z → C z H) → te2 σ H C) :
    (fun (c : Bool) (H1 : Hp) => if c = true then te1 σ H1 C else te2 σ H1 C) b H := by
  cases b with
  | true => exact iteT (h1 rfl hC)
  | false => exact iteF (h2 rfl hC)
def wide_nz (j : Int) : Prop := j ≠ 0
theorem nz600 : (fun (_ j : Int) => j ≠ 0) 0 ((10 ^ Int.toNat 60) ^ Int.toNat 10) := by decide +kernel
/-! ### the text by places -/
def top (i : Nat) : Stmt := PySem.Challenge.pw_mendnumber_k03_whole_closed_prices.main.body.getD i (.Pass ⟨0, 0, 0, 0⟩)
abbrev sFilled : Stmt := top 34
abbrev sDip : Stmt := top 35

/-- the names of the builtins that the text leaves alone -/
structure Bn (mg : Str → Option Value) : Prop where
  len : mg "len" = none
  int : mg "int" = none
  abs : mg "abs" = none
  max : mg "max" = none
  min : mg "min" = none
  range : mg "range" = none
  list : mg "list" = none

def spFilled (K : PySem.W.Frag) : Sp := fun vs H Q _ => ∃ (a : Addr) (ns : List Int) (k : Nat), vs = [.ref a, .int k] ∧ SqL K H a (ns.map V.int) ∧ ns.length ≤ 63 ∧ k ≤ 63 ∧
  ∀ H' p, Same H H' → H p = none → Pot H' p 0 → Q (.ref p) H'
def spDip : Sp := fun vs H Q _ => ∃ (p : Addr) (n : Nat) (t : Int), vs = [.ref p, .int t] ∧ Pot H p n ∧ n < PB ∧ 0 < t ∧ t < 1073741824 ∧
  ∀ H' (k : Int), But p H H' → (∀ b, H b = none → H' b = none) → Pot H' p (n + 1) → 0 ≤ k → k < t → Q (.int k) H'

section
variable {P : Program} {w : World} {K : PySem.W.Frag} {mg : Str → Option Value} {base : Heap}
theorem scFilled : FnScope ["_law_script", "_law_at", "_law_cell", "_law_whole", "_law_mixed"] ["_law_script", "_law_at"] (defScope sFilled) := ⟨rfl, rfl, rfl, by decide +kernel, rfl, by decide +kernel, by decide +kernel⟩
theorem ok_filled {f : Addr} {fd : FuncData} (F : Fun K "_law_filled" "_law_filled" sFilled f fd) (B : Bn mg) : FnOk P w K mg base CX0 1 f fd ["_law_script", "_law_at"] (spFilled K) := by
  refine F.ok scFilled (fun vs H Q E h => ?_) (fun cdv A outer s H vs Q E hr h => ?_)
  · obtain ⟨a, ns, k, rfl, _⟩ := h
    rfl
  · obtain ⟨a, ns, k, rfl, hS, hl, hk, q⟩ := h
    refine ⟨_, pss_cons (ps_set (i := 2) scFilled.nd rfl (.inl rfl) (pe_ifExp (pt_cmpR op_lt (pv 1) (pe_callB call_len_seq (by rfl) B.len PySem.boot_len (pa_cons (pv 0) pa_nil)) (nomark _)) (pe_ix ix_list (pv 0) (pv 1) (fun _ _ => rfl)) (pe_op op_add (pe_op op_mul pe_int (pv 1)) pe_int)))
      (pss_cons (ps_set (i := 3) scFilled.nd rfl (.inl rfl) (pe_op op_modN (pe_callTy call_int1 (by rfl) B.int (by decide +kernel) (pa_cons (pe_callB call_abs (by rfl) B.abs (by decide +kernel) (pa_cons (pv 2) pa_nil)) pa_nil)) (pe_op op_powW (pe_op op_powW pe_int pe_int) pe_int)))
      (pss_cons (ps_set (i := 4) scFilled.nd rfl (.inl rfl) (pe_op op_modN (pe_callTy call_int1 (by rfl) B.int (by decide +kernel) (pa_cons (pe_op op_add (pe_op op_add (pe_op op_add (pv 3) (pe_op op_mul pe_int (pv 1))) (pe_op op_mul pe_int (pe_callTy call_int1 (by rfl) B.int (by decide +kernel) (pa_cons (pe_cmpR op_lt (pv 2) pe_int (nomark _)) pa_nil)))) pe_int) pa_nil)) pe_int))
      (pss_one (ps_ret (pe_lst (pa_cons (pe_callB (call_max2 rfl) (by rfl) B.max (by decide +kernel) (pa_cons pe_int (pa_cons (pe_op op_sub (pv 3) (pe_op op_powW pe_int pe_int)) pa_nil))) (pa_cons (pv 4) (pa_cons pe_int pa_nil)))))))), ?_⟩
    have hpw : CPowW 10 60 := ⟨by decide, by decide +kernel⟩
    have hpw2 : CPowW (10 ^ (60 : Int).toNat) 10 := ⟨by decide, by decide +kernel⟩
    have hpw3 : CPowW 10 18 := ⟨by decide, by decide +kernel⟩
    refine ⟨_, rfl, _, rfl, a, _, rfl, .inl hS, _, _, rfl, rfl, _, rfl, ?_⟩
    refine join_e (fun z => ∃ i, z = V.int i) ?_ ?_ ?_
    · rintro _ ⟨z, rfl⟩
      refine ⟨_, rfl, _, rfl, .inl ⟨_, rfl, _, _, rfl, rfl, hpw, _, _, rfl, rfl, hpw2, _, _, rfl, rfl, nz600, ?_⟩⟩
      refine ⟨_, rfl, _, rfl, _, _, rfl, rfl, .inl ⟨by decide, by decide⟩, _, _, rfl, rfl, ?_⟩
      refine ⟨_, rfl, _, _, rfl, rfl, .inr ⟨_, rfl, _, _, rfl, rfl, .inl ⟨by decide, by decide⟩, _, _, rfl, rfl, _, _, rfl, rfl, .inl ⟨_, rfl, _, _, rfl, rfl, (by show (2305843009213693921 : Int) ≠ 0; decide), ?_⟩⟩⟩
      refine ⟨_, rfl, _, _, rfl, rfl, hpw3, _, _, rfl, rfl, _, _, rfl, _, rfl, (by show 3 ≤ sizeLine; decide), fun p hp => ?_⟩
      refine q _ p (fun b o e => ?_) hp ?_
      · rw [upd_ne (ne_of_none e hp)]
        exact e
      · have hb : (0 : Int) < (10 ^ Int.toNat 60) ^ Int.toNat 10 := by decide +kernel
        have hb2 : ((10 ^ Int.toNat 60) ^ Int.toNat 10 : Int) < 2 ^ 2000 := by decide +kernel
        generalize ((10 ^ Int.toNat 60) ^ Int.toNat 10 : Int) = N at hb hb2 ⊢
        have h1 := Int.fmod_nonneg_of_pos (if z < 0 then -z else z) hb
        have h2 := Int.fmod_lt_of_pos (if z < 0 then -z else z) hb
        generalize (if z < 0 then -z else z).fmod N = y at h1 h2 ⊢
        have h3 := Int.fmod_nonneg_of_pos (y + 7368787 * (k : Int) + (32452843 * if decide (z < 0) = true then 1 else 0) + 101) (show (0 : Int) < 2305843009213693921 by decide)
        have h4 := Int.fmod_lt_of_pos (y + 7368787 * (k : Int) + (32452843 * if decide (z < 0) = true then 1 else 0) + 101) (show (0 : Int) < 2305843009213693921 by decide)
        refine ⟨_, _, _, upd_same, ?_, ?_, h3, Int.lt_of_lt_of_le h4 (by decide), Int.le_refl _, Int.le_refl _⟩
        · split <;> omega
        · split
          · have : (0 : Int) < 10 ^ Int.toNat 18 := by decide +kernel
            omega
          · exact Int.lt_trans hb hb2
    · intro hb hC
      have hk2 : (k : Int) < ((ns.map V.int).length : Nat) := of_decide_eq_true hb
      rw [List.length_map] at hk2
      have hk3 : k < ns.length := by omega
      refine ⟨_, rfl, _, rfl, a, _, _, V.int (ns[k]'hk3), rfl, rfl, hS, atI_nat (by rw [List.getElem?_map, List.getElem?_eq_getElem hk3]; rfl), hC _ ⟨_, rfl⟩⟩
    · intro hb hC
      exact ⟨_, rfl, _, _, rfl, rfl, .inl ⟨by decide, by decide⟩, _, _, rfl, rfl, hC _ ⟨_, rfl⟩⟩
theorem scDip : FnScope ["_law_pot", "_law_total", "_law_found", "_law_one", "_law_two"] ["_law_pot", "_law_total"] (defScope sDip) := ⟨rfl, rfl, rfl, by decide +kernel, rfl, by decide +kernel, by decide +kernel⟩
theorem ok_dip {f : Addr} {fd : FuncData} (F : Fun K "_law_dip" "_law_dip" sDip f fd) (B : Bn mg) : FnOk P w K mg base CX0 1 f fd ["_law_pot", "_law_total"] spDip := by
  refine F.ok scDip (fun vs H Q E h => ?_) (fun cdv A outer s H vs Q E hr h => ?_)
  · obtain ⟨p, n, t, rfl, _⟩ := h
    rfl
  · obtain ⟨p, n, t, rfl, ⟨u, m, c, hp, hu0, hu1, hm0, hm1, hc0, hc1⟩, hn, ht0, ht1, q⟩ := h
    refine ⟨_, pss_cons (ps_if (pt_cmpR op_gt (pe_ix ix_list (pv 0) pe_int (fun _ _ => rfl)) pe_int (nomark _))
        (pss_cons (ps_set (i := 2) scDip.nd rfl (.inl rfl) (pe_op op_modN (pe_callTy call_int1 (by rfl) B.int (by decide +kernel) (pa_cons (pe_ix ix_list (pv 0) pe_int (fun _ _ => rfl)) pa_nil)) (pv 1)))
        (pss_cons (ps_asg (pe_op op_fdivW (pe_ix ix_list (pv 0) pe_int (fun _ _ => rfl)) (pv 1)) (pg_sub (pv 0) pe_int set_list))
        (pss_one (ps_ret (pv 2))))) pss_nil)
      (pss_cons (ps_asg (pe_op op_add (pe_ix ix_list (pv 0) pe_int (fun _ _ => rfl)) pe_int) (pg_sub (pv 0) pe_int set_list))
      (pss_cons (ps_set (i := 3) scDip.nd rfl (.inl rfl) (pe_op op_modN (pe_callTy call_int1 (by rfl) B.int (by decide +kernel) (pa_cons (pe_op op_add (pe_op op_mulW (pe_ix ix_list (pv 0) pe_int (fun _ _ => rfl)) pe_int) (pe_op op_mulW (pe_ix ix_list (pv 0) pe_int (fun _ _ => rfl)) pe_int)) pa_nil)) pe_int))
      (pss_cons (ps_set (i := 4) scDip.nd rfl (.inl rfl) (pe_op op_modN (pe_callTy call_int1 (by rfl) B.int (by decide +kernel) (pa_cons (pe_op op_add (pe_op op_mulW (pv 3) (pv 3)) (pe_op op_mulW pe_int (pe_ix ix_list (pv 0) pe_int (fun _ _ => rfl)))) pa_nil)) pe_int))
      (pss_one (ps_ret (pe_op op_modN (pe_callTy call_int1 (by rfl) B.int (by decide +kernel) (pa_cons (pe_op op_fdivW (pe_op op_modN (pe_callTy call_int1 (by rfl) B.int (by decide +kernel) (pa_cons (pe_op op_add (pe_op op_mulW (pv 4) pe_int) (pv 3)) pa_nil)) pe_int) pe_int) pa_nil)) (pv 1))))))), ?_⟩
    have tnz : t ≠ 0 := by omega
    have tb : t.natAbs < 2 ^ 30 := by omega
    have g0 : (fun (_ : V) => True) V.non := trivial
    refine ⟨_, rfl, p, _, _, _, rfl, rfl, SqL.of hp, atI_nat (j := 0) rfl, _, _, rfl, rfl, _, rfl, ?_⟩
    refine ite2 (fun _ => ?_) (fun _ => ?_)
    · refine ⟨_, rfl, p, _, _, _, rfl, rfl, SqL.of hp, atI_nat (j := 0) rfl, .inl ⟨_, rfl, _, rfl, _, _, rfl, rfl, tnz, ?_⟩⟩
      refine ⟨_, rfl, p, _, _, _, rfl, rfl, SqL.of hp, atI_nat (j := 0) rfl, _, rfl, _, _, rfl, rfl, wide_div ht0 tb (by decide) (by decide), ?_⟩
      refine ⟨_, rfl, p, _, _, 0, rfl, rfl, hp, rfl, _, rfl, ?_⟩
      refine q _ _ (fun b o hb e => ?_) (fun b hb => ?_) ⟨_, _, _, upd_same, ?_, ?_, hm0, hm1, hc0, by omega⟩ (Int.fmod_nonneg_of_pos _ ht0) (Int.fmod_lt_of_pos _ ht0)
      · rw [upd_ne hb]; exact e
      · have : b ≠ p := fun e => by rw [e, hp] at hb; cases hb
        rw [upd_ne this]; exact hb
      · exact Int.ediv_nonneg hu0 (by omega)
      · exact Int.lt_of_le_of_lt (Int.ediv_le_self _ hu0) hu1
    · have tC1 : wide_nz 2305843009213693951 := by unfold wide_nz; decide
      refine ⟨_, rfl, p, _, _, _, rfl, rfl, SqL.of hp, atI_nat (j := 2) rfl, _, _, rfl, rfl, _, rfl, p, _, _, 2, rfl, rfl, hp, rfl, ?_⟩
      have hn' : n < 4294967296 := hn
      have hc2 : (c + 1).natAbs < 2 ^ 62 := by omega
      have hm2 : m.natAbs < 2 ^ 62 := by omega
      have hp2 : upd H p (.lst [V.int u, V.int m, V.int (c + 1)]) p = some (.lst [V.int u, V.int m, V.int (c + 1)]) := upd_same
      refine ⟨_, rfl, p, _, _, _, rfl, rfl, SqL.of hp2, atI_nat (j := 1) rfl, _, _, rfl, rfl, wide_mul (a := 62) (b := 64) hm2 (by decide) (by decide) (by decide) (by decide), ?_⟩
      refine ⟨_, rfl, p, _, _, _, rfl, rfl, SqL.of hp2, atI_nat (j := 2) rfl, _, _, rfl, rfl, wide_mul (a := 62) (b := 64) hc2 (by decide) (by decide) (by decide) (by decide), ?_⟩
      refine ⟨_, _, rfl, rfl, .inl ⟨_, rfl, _, _, rfl, rfl, tC1, ?_⟩⟩
      have h1 := Int.fmod_nonneg_of_pos (m * 3935559000370003845 + (c + 1) * 2691343689449507681) (show (0 : Int) < 2305843009213693951 by decide)
      have h2 := Int.fmod_lt_of_pos (m * 3935559000370003845 + (c + 1) * 2691343689449507681) (show (0 : Int) < 2305843009213693951 by decide)
      have ho : ((m * 3935559000370003845 + (c + 1) * 2691343689449507681).fmod 2305843009213693951).natAbs < 2 ^ 62 := by omega
      refine ⟨_, rfl, _, rfl, _, _, rfl, rfl, wide_mul (a := 62) (b := 62) ho ho (by decide) (by decide) (by decide), ?_⟩
      refine ⟨_, rfl, p, _, _, _, rfl, rfl, SqL.of hp2, atI_nat (j := 2) rfl, _, _, rfl, rfl, wide_mul (a := 62) (b := 62) (by decide) hc2 (by decide) (by decide) (by decide), ?_⟩
      refine ⟨_, _, rfl, rfl, .inl ⟨_, rfl, _, _, rfl, rfl, (by show wide_nz 1152921504606846883; unfold wide_nz; decide), ?_⟩⟩
      have h3 := Int.fmod_nonneg_of_pos (((m * 3935559000370003845 + (c + 1) * 2691343689449507681).fmod 2305843009213693951) * ((m * 3935559000370003845 + (c + 1) * 2691343689449507681).fmod 2305843009213693951) + 40503 * (c + 1)) (show (0 : Int) < 1152921504606846883 by decide)
      have h4 := Int.fmod_lt_of_pos (((m * 3935559000370003845 + (c + 1) * 2691343689449507681).fmod 2305843009213693951) * ((m * 3935559000370003845 + (c + 1) * 2691343689449507681).fmod 2305843009213693951) + 40503 * (c + 1)) (show (0 : Int) < 1152921504606846883 by decide)
      have hw : ((((m * 3935559000370003845 + (c + 1) * 2691343689449507681).fmod 2305843009213693951) * ((m * 3935559000370003845 + (c + 1) * 2691343689449507681).fmod 2305843009213693951) + 40503 * (c + 1)).fmod 1152921504606846883).natAbs < 2 ^ 62 := by omega
      refine ⟨_, rfl, _, _, rfl, rfl, wide_mul (a := 62) (b := 62) hw (by decide) (by decide) (by decide) (by decide), ?_⟩
      refine ⟨_, rfl, _, _, rfl, rfl, .inl ⟨_, rfl, _, _, rfl, rfl, (by show wide_nz 4611686018427387847; unfold wide_nz; decide), ?_⟩⟩
      refine ⟨_, _, rfl, rfl, wide_div (b := 30) (by decide) (by decide) (by decide) (by decide), .inl ⟨_, rfl, ?_⟩⟩
      refine ⟨_, rfl, _, _, rfl, rfl, tnz, ?_⟩
      refine q _ _ (fun b o hb e => ?_) (fun b hb => ?_) ⟨_, _, _, upd_same, hu0, hu1, hm0, hm1, by omega, by omega⟩ (Int.fmod_nonneg_of_pos _ ht0) (Int.fmod_lt_of_pos _ ht0)
      · rw [upd_ne hb]; exact e
      · have : b ≠ p := fun e => by rw [e, hp] at hb; cases hb
        rw [upd_ne this]; exact hb
end
end Mk

set_option Elab.async false
set_option maxRecDepth 100000
set_option maxHeartbeats 4000000
namespace Mk
open PySem L2

abbrev sChoose : Stmt := top 36
abbrev sShuf : Stmt := top 37
abbrev sWord : Stmt := top 0

/-- the pot at p has been drawn from -/
structure Nx (p : Addr) (n : Nat) (H H' : Hp) : Prop where
  but : But p H H'
  fresh : ∀ b, H b = none → H' b = none
  pot : Pot H' p n

def spChoose : Sp := fun vs H Q _ => ∃ (p : Addr) (n : Nat), Pot H p n ∧ n < PB ∧
  ((∃ (a : Addr) (xs : List V), vs = [.ref p, .ref a] ∧ a ≠ p ∧ H a = some (.lst xs) ∧ 0 < xs.length ∧ xs.length < 1000000 ∧ ∀ H' v, Nx p (n + 1) H H' → v ∈ xs → Q v H') ∨
   (∃ z : Str, vs = [.ref p, .str z] ∧ 0 < z.length ∧ z.length < 1000000 ∧ ∀ H' c, Nx p (n + 1) H H' → c ∈ z.cps.toList → Q (.str ⟨#[c]⟩) H'))

section
variable {P : Program} {w : World} {K : PySem.W.Frag} {mg : Str → Option Value} {base : Heap}
/-- a def of the text that is called by its name -/
structure Cd (P : Program) (w : World) (K : PySem.W.Frag) (mg : Str → Option Value) (base : Heap) (k : Nat) (x : Str) (ps : List Str) (sp : Sp) : Prop where
  ex : ∃ (f : Addr) (fd : FuncData), FnOk P w K mg base CX0 k f fd ps sp ∧ mg x = some (.ref f) ∧ PySem.W.keepIn K (.ref f) = true ∧ Binds K fd ps []
theorem scChoose : FnScope ["_law_pot", "_law_items"] ["_law_pot", "_law_items"] (defScope sChoose) := ⟨rfl, rfl, rfl, by decide +kernel, rfl, by decide +kernel, by decide +kernel⟩
theorem ok_choose {f : Addr} {fd : FuncData} (F : Fun K "_law_choose" "_law_choose" sChoose f fd) (B : Bn mg) (D : Cd P w K mg base 1 "_law_dip" ["_law_pot", "_law_total"] spDip) : FnOk P w K mg base CX0 2 f fd ["_law_pot", "_law_items"] spChoose := by
  obtain ⟨d, dd, G, gm, gk, gb⟩ := D.ex
  refine F.ok scChoose (fun vs H Q E h => ?_) (fun cdv A outer s H vs Q E hr h => ?_)
  · obtain ⟨p, n, _, _, ⟨a, xs, rfl, _⟩ | ⟨z, rfl, _⟩⟩ := h
    · rfl
    · rfl
  · obtain ⟨p, n, hp, hn, ⟨a, xs, rfl, hap, ha, h0, h1, q⟩ | ⟨z, rfl, h0, h1, q⟩⟩ := h
    · refine ⟨_, pss_one (ps_ret (pe_ix ix_list (pv 1) (pe_call G hr (by rfl) gm gk gb .nil pass0 (pa_cons (pv 0) (pa_cons (pe_callB call_len_seq (by rfl) B.len PySem.boot_len (pa_cons (pv 1) pa_nil)) pa_nil))) (fun _ _ => rfl))), ?_⟩
      refine ⟨_, rfl, _, rfl, _, rfl, a, _, rfl, .inl (SqL.of ha), p, n, _, rfl, hp, hn, by omega, by omega, fun H' k hb hf hP hk0 hk1 => ?_⟩
      have hk : k.toNat < xs.length := by omega
      refine ⟨a, xs, k, xs[k.toNat], rfl, rfl, SqL.of (hb _ _ hap ha), ?_, q _ _ ⟨hb, hf, hP⟩ (List.getElem_mem hk)⟩
      exact at_ofA (j := k.toNat) (by omega) (List.getElem?_eq_getElem hk)
    · refine ⟨_, pss_one (ps_ret (pe_ix ix_str (pv 1) (pe_call G hr (by rfl) gm gk gb .nil pass0 (pa_cons (pv 0) (pa_cons (pe_callB call_len_str (by rfl) B.len PySem.boot_len (pa_cons (pv 1) pa_nil)) pa_nil))) (fun _ _ => rfl))), ?_⟩
      refine ⟨_, rfl, _, rfl, _, rfl, z, rfl, Nat.le_trans (Nat.le_of_lt h1) (by decide), p, n, (z.length : Int), rfl, hp, hn, by omega, by omega, fun H' k hb hf hP hk0 hk1 => ?_⟩
      have hk : k.toNat < z.cps.toList.length := by
        have e : z.cps.toList.length = z.length := by rfl
        rw [e]
        omega
      refine ⟨z, k, z.cps.toList[k.toNat], rfl, rfl, Nat.le_trans (Nat.le_of_lt h1) (by decide), ?_, q _ _ ⟨hb, hf, hP⟩ (List.getElem_mem hk)⟩
      exact at_ofA (j := k.toNat) (by omega) (List.getElem?_eq_getElem hk)

def spShuf : Sp := fun vs H Q _ => ∃ (p a : Addr) (n : Nat) (xs : List V), vs = [.ref p, .ref a] ∧ a ≠ p ∧ H a = some (.lst xs) ∧ xs.length < 100000 ∧ Pot H p n ∧ n + xs.length < PB ∧
  ∀ H' D ys, But p H H' → H D = none → H' D = some (.lst ys) → ys.Perm xs → Pot H' p (n + xs.length) → Q (.ref D) H'
theorem scShuf : FnScope ["_law_pot", "_law_items", "_law_left", "_law_turn"] ["_law_pot", "_law_items"] (defScope sShuf) := ⟨rfl, rfl, rfl, by decide +kernel, rfl, by decide +kernel, by decide +kernel⟩
theorem ok_shuf {f : Addr} {fd : FuncData} (F : Fun K "_law_shuffled" "_law_shuffled" sShuf f fd) (B : Bn mg) (D : Cd P w K mg base 1 "_law_dip" ["_law_pot", "_law_total"] spDip) : FnOk P w K mg base CX0 2 f fd ["_law_pot", "_law_items"] spShuf := by
  obtain ⟨d, dd, G, gm, gk, gb⟩ := D.ex
  refine F.ok scShuf (fun vs H Q E h => ?_) (fun cdv A outer s H vs Q E hr h => ?_)
  · obtain ⟨p, a, n, xs, rfl, _⟩ := h
    rfl
  · obtain ⟨p, a, n, xs, rfl, hap, ha, hl, hp, hn, q⟩ := h
    refine ⟨_, pss_cons (ps_set (i := 2) scShuf.nd rfl (.inr rfl) (pe_callTy call_list_of (by rfl) B.list (by decide +kernel) (pa_cons (pv 1) pa_nil)))
      (pss_one (ps_ret (pe_lc (own := [("_law_turn", 3)]) (g := gName 3) (tt := tYes) rfl scShuf.nd (pi_range1 (by rfl) B.range (pa_cons (pe_callB call_len_seq (by rfl) B.len PySem.boot_len (pa_cons (pv 1) pa_nil)) pa_nil)) (blkOk_by (N := ["_law_pot", "_law_items", "_law_left", "_law_turn"]) (sc := defScope sShuf) (by decide +kernel))
        (fun _ _ _ _ _ => pg_name (i := 3) scShuf.nd rfl (Or.inl rfl)) (fun _ _ _ _ _ => pts_nil)
        (fun _ _ _ _ _ => atK K (pe_bm PySem.F.plainAttrs_list PySem.F.slot_list_pop PySem.F.type_list_pop mt_popAt (pv 2) (pa_cons (pe_call G hr (by rfl) gm gk gb .nil pass0 (pa_cons (pv 0) (pa_cons (pe_callB (call_lenK K) (by rfl) B.len PySem.boot_len (pa_cons (pv 2) pa_nil)) pa_nil))) pa_nil)))))), ?_⟩
    refine ⟨_, rfl, a, xs, rfl, .inl (SqL.of ha), fun l hl0 => ?_⟩
    have hal : a ≠ l := ne_of_none ha hl0
    have hpl : p ≠ l := by
      obtain ⟨_, _, _, e, _⟩ := hp
      exact ne_of_none e hl0
    refine ⟨_, rfl, a, xs, rfl, .inl (SqL.of (by rw [upd_ne hal]; exact ha)), _, rfl, by omega, by omega, fun D hD => ?_⟩
    have hDl : D ≠ l := (ne_of_none (upd_same : upd H l (.lst xs) l = some (.lst xs)) hD).symm
    have hD0 : H D = none := by rw [upd_ne hDl] at hD; exact hD
    refine lc_range (lo := 0) (n := xs.length) (fun i H1 => ∃ ys left, But p H H1 ∧ H1 l = some (.lst left) ∧ H1 D = some (.lst ys) ∧ ys.length = i ∧ (ys ++ left).Perm xs ∧ Pot H1 p (n + i)) ?_ ?_ ?_
    · refine ⟨[], xs, (But.up (But.up But.refl hl0) hD0), ?_, upd_same, rfl, .refl _, (hp.up hpl).up (hp.ne hD0)⟩
      rw [upd_ne hDl.symm]
      exact upd_same
    · rintro i H1 hi ⟨ys, left, hB, h1, h2, hy, hperm, hP⟩
      have hlen : left.length = xs.length - i := by
        have := hperm.length_eq
        rw [List.length_append] at this
        omega
      refine ⟨rfl, _, rfl, .inl ⟨rfl, _, SqL.of h1⟩, _, rfl, _, rfl, l, left, rfl, .inl (SqL.of h1), p, n + i, _, rfl, hP, by omega, by omega, by omega, fun H2 k hb hf hP2 hk0 hk1 => ?_⟩
      have hkn : k.toNat < left.length := by omega
      have hlp : l ≠ p := hpl.symm
      have h1' := hb _ _ hlp h1
      have h2' := hb _ _ (hp.ne hD0).symm h2
      refine ⟨l, left, k, k.toNat, left[k.toNat], rfl, rfl, h1', by omega, by omega, ?_, List.getElem?_eq_getElem hkn, ys, ?_, ?_, ys ++ [left[k.toNat]], left.eraseIdx k.toNat, ?_, ?_, upd_same, ?_, ?_, ?_⟩
      · exact seq_at hk0 hk1
      · rw [upd_ne hDl]
        exact h2'
      · show ys.length < sizeLine
        exact Nat.lt_of_lt_of_le (by omega : ys.length < 100000) (by decide)
      · exact But.up (But.up (hB.trans hb) hl0) hD0
      · rw [upd_ne hDl.symm]
        exact upd_same
      · rw [List.length_append, hy]
        rfl
      · rw [List.append_assoc]
        exact (List.Perm.append_left ys (perm_erase hkn)).trans hperm
      · exact (hP2.up hpl).up (hp.ne hD0)
    · rintro H1 ⟨ys, left, hB, h1, h2, hy, hperm, hP⟩
      have : left = [] := by
        have := hperm.length_eq
        rw [List.length_append] at this
        exact List.length_eq_zero_iff.mp (by omega)
      subst this
      rw [List.append_nil] at hperm
      exact q _ _ _ hB hD0 h2 hperm hP

end
end Mk

set_option Elab.async false
set_option maxRecDepth 100000
set_option maxHeartbeats 4000000
namespace Mk
open PySem L2

/-! ### strip -/
def gB (c : Nat) : Bool := decide (97 ≤ c) && decide (c ≤ 101)
def wB (z : Str) : Bool := (cs z).all gB
theorem isW_of {z : Str} (h : wB z = true) : IsW z := fun c hc => by
  have := List.all_eq_true.mp h c hc
  simpa [gB] using this
theorem wB_of {z : Str} (h : IsW z) : wB z = true := List.all_eq_true.mpr fun c hc => by
  have := h c hc
  simpa [gB] using this
theorem tw_full {p : Nat → Bool} : ∀ {l : List Nat}, (l.takeWhile p).length = l.length → l.all p = true
  | [], _ => rfl
  | a :: l, h => by
    rw [List.takeWhile_cons] at h
    cases e : p a with
    | false => rw [e] at h; simp at h
    | true =>
      rw [e] at h
      rw [List.all_cons, e, tw_full (l := l) (by simpa using h)]
      rfl
theorem tw_drop {p : Nat → Bool} : ∀ {l : List Nat}, (l.drop (l.takeWhile p).length).all p = true → l.all p = true
  | [], _ => rfl
  | a :: l, h => by
    rw [List.takeWhile_cons] at h
    cases e : p a with
    | false =>
      rw [e] at h
      simp [e] at h
    | true =>
      rw [e] at h
      rw [List.all_cons, e, tw_drop (l := l) (by simpa using h)]
      rfl
theorem tw_all {p : Nat → Bool} : ∀ {l : List Nat}, l.all p = true → l.takeWhile p = l
  | [], _ => rfl
  | a :: l, h => by
    rw [List.all_cons, Bool.and_eq_true] at h
    rw [List.takeWhile_cons, h.1, if_pos rfl, tw_all h.2]
theorem goes_eq (c : Nat) : ("abcde" : Str).cps.contains c = gB c := by
  have e : ("abcde" : Str).cps = #[97, 98, 99, 100, 101] := by decide +kernel
  rw [e, Bool.eq_iff_iff]
  simp [gB]
  omega
theorem strip_len (z : Str) : (Txt.stripChars z "abcde").length = 0 ↔ wB z = true := by
  have hg : ("abcde" : Str).cps.contains = gB := funext goes_eq
  unfold Txt.stripChars
  rw [hg]
  unfold Txt.stripBy
  have hlo : stripLo gB true z = ((cs z).takeWhile gB).length := rfl
  have hhi : stripHi gB true z (stripLo gB true z) = (cs z).length - (((cs z).drop (stripLo gB true z)).reverse.takeWhile gB).length := rfl
  have hle : ((cs z).takeWhile gB).length ≤ (cs z).length := (List.takeWhile_sublist _).length_le
  have key : wB z = true ∨ stripLo gB true z < stripHi gB true z (stripLo gB true z) := by
    cases e : wB z with
    | true => exact .inl rfl
    | false =>
      refine .inr ?_
      rw [hhi, hlo]
      have h1 : (((cs z).drop ((cs z).takeWhile gB).length).reverse.takeWhile gB).length ≠ (((cs z).drop ((cs z).takeWhile gB).length).reverse).length := fun h => by
        have := tw_full h
        rw [List.all_reverse] at this
        have q : wB z = true := tw_drop this
        rw [e] at q
        cases q
      have h2 : (((cs z).drop ((cs z).takeWhile gB).length).reverse.takeWhile gB).length ≤ (((cs z).drop ((cs z).takeWhile gB).length).reverse).length := (List.takeWhile_sublist _).length_le
      rw [List.length_reverse, List.length_drop] at h1 h2
      omega
  by_cases hs : stripSame gB true true z = true
  · rw [if_pos hs]
    constructor
    · intro h
      show (cs z).all gB = true
      rw [List.length_eq_zero_iff.mp (show (cs z).length = 0 from h)]
      rfl
    · intro h
      have e1 : stripLo gB true z = z.length := by
        rw [hlo, tw_all h]
        rfl
      unfold stripSame at hs
      rw [Bool.and_eq_true, beq_iff_eq] at hs
      omega
  · rw [if_neg hs]
    have hl : (stripped gB true true z).length = stripHi gB true z (stripLo gB true z) - stripLo gB true z := by
      show ((z.cps.extract (stripLo gB true z) (stripHi gB true z (stripLo gB true z)))).size = _
      rw [Array.size_extract]
      have : stripHi gB true z (stripLo gB true z) ≤ z.cps.size := by
        rw [hhi]
        exact Nat.sub_le _ _
      omega
    rw [hl]
    constructor
    · intro h
      rcases key with k | k
      · exact k
      · omega
    · intro h
      have e1 : stripLo gB true z = (cs z).length := by rw [hlo, tw_all h]
      have e2 : stripHi gB true z (stripLo gB true z) ≤ (cs z).length := by
        rw [hhi]
        exact Nat.sub_le _ _
      omega
theorem strip_dec (z : Str) : decide (V.str (Txt.stripChars z "abcde") = V.str "") = wB z := by
  rw [Bool.eq_iff_iff, decide_eq_true_iff, ← strip_len z]
  constructor
  · intro h
    injection h with h
    rw [h]
    decide +kernel
  · intro h
    have : Txt.stripChars z "abcde" = "" := by
      generalize Txt.stripChars z "abcde" = y at h
      obtain ⟨a⟩ := y
      have : a = #[] := Array.eq_empty_of_size_eq_zero h
      subst this
      decide +kernel
    rw [this]
end Mk

set_option Elab.async false
set_option maxRecDepth 100000
set_option maxHeartbeats 4000000
namespace Mk
open PySem L2

abbrev sIsSign : Stmt := top 16
abbrev sIsWord : Stmt := top 0
abbrev sLIsWord : Stmt := top 0

/-- a value that is no text, of a kind that isinstance tells -/
def NoStr (K : PySem.W.Frag) (H : Hp) (v : V) : Prop := ∃ t : Value, TyX K H v t ∧ PySem.W.kitOne K t (.type "str") = some false
def sgB (z : Str) : Bool := decide (z.length = 1) && wB z
/-- a def that judges a value, reading alone -/
def spJudge (g : Str → Bool) (K : PySem.W.Frag) : Sp := fun vs H Q _ => ∃ v : V, vs = [v] ∧ ((∃ z : Str, v = .str z ∧ z.length ≤ 100000 ∧ Q (.bl (g z)) H) ∨ (NoStr K H v ∧ Q (.bl false) H))
structure Wn (mg : Str → Option Value) : Prop where
  isi : mg "isinstance" = none
  str : mg "str" = none
  sg : ∃ t, mg "SIGNS" = some (.str "abcde" t)
section
variable {P : Program} {w : World} {K : PySem.W.Frag} {mg : Str → Option Value} {base : Heap}
theorem scIsSign : FnScope ["value"] ["value"] (defScope sIsSign) := ⟨rfl, rfl, rfl, by decide +kernel, rfl, by decide +kernel, by decide +kernel⟩
theorem len_one {z : Str} (h : z.length = 1) : ∃ c, z = ⟨#[c]⟩ := by
  obtain ⟨a⟩ := z
  obtain ⟨l⟩ := a
  match l, h with
  | [c], _ => exact ⟨c, rfl⟩
theorem ok_isSign {f : Addr} {fd : FuncData} (F : Fun K "is_sign" "is_sign" sIsSign f fd) (B : Bn mg) (W : Wn mg) : FnOk P w K mg base CX0 1 f fd ["value"] (spJudge sgB K) := by
  obtain ⟨t, hsg⟩ := W.sg
  refine F.ok scIsSign (fun vs H Q E h => ?_) (fun cdv A outer s H vs Q E hr h => ?_)
  · obtain ⟨v, rfl, _⟩ := h
    rfl
  · obtain ⟨v, rfl, h⟩ := h
    refine ⟨_, pss_one (ps_ret (pe_and (pe_callB call_isi (by rfl) W.isi (by decide +kernel) (pa_cons (pv 0) (pa_cons (pe_bltn (v := .ty "str") (u := .type "str") (by rfl) W.str (by decide +kernel) rfl) pa_nil)))
      (pe_and (pe_cmpR op_eq (pe_callB call_len (by rfl) B.len PySem.boot_len (pa_cons (pv 0) pa_nil)) pe_int (nomark _)) (pe_one (pe_cmpR op_in_sign (pv 0) (pe_glob (v := .str "abcde") (by rfl) hsg ⟨_, rfl⟩) (by rfl)))))), ?_⟩
    rcases h with ⟨z, rfl, hz, q⟩ | ⟨⟨tv, hty, hk⟩, q⟩
    · have hz2 : z.length ≤ sizeLine := Nat.le_trans hz (by decide)
      refine ⟨_, rfl, _, _, _, _, true, rfl, .ty "str", .base (.str z), kit_ty (by decide +kernel), _, rfl, iteT ?_⟩
      refine ⟨_, rfl, _, z.length, rfl, ⟨hz2, rfl⟩, rfl, _, rfl, ?_⟩
      have e1 : decide (V.int (z.length : Nat) = V.int 1) = decide (z.length = 1) := by
        rw [dec_int, Bool.eq_iff_iff]
        simp
        omega
      rw [e1]
      by_cases h1 : z.length = 1
      · rw [decide_eq_true h1]
        refine iteT ?_
        obtain ⟨c, rfl⟩ := len_one h1
        refine ⟨_, rfl, c, "abcde", rfl, rfl, ?_⟩
        have e2 : decide (c ∈ ("abcde" : Str).cps.toList) = sgB ⟨#[c]⟩ := by
          have e3 : ("abcde" : Str).cps.toList = [97, 98, 99, 100, 101] := by decide +kernel
          rw [e3, Bool.eq_iff_iff]
          simp [sgB, wB, gB, cs, Str.length]
          omega
        rw [e2]
        exact q
      · rw [decide_eq_false h1]
        refine iteF ?_
        have e2 : sgB z = false := by simp [sgB, h1]
        rw [e2] at q
        exact q
    · refine ⟨_, rfl, _, _, _, _, false, rfl, .ty "str", hty, hk, _, rfl, iteF q⟩
end
end Mk

set_option Elab.async false
set_option linter.all false
set_option maxRecDepth 100000
set_option maxHeartbeats 4000000
namespace Mk
open PySem L2

theorem cs_inj {x y : Str} (h : cs x = cs y) : x = y := by
  obtain ⟨⟨a⟩⟩ := x
  obtain ⟨⟨b⟩⟩ := y
  have : a = b := h
  rw [this]
theorem byCs_trans (a b c : Str) (h1 : byCs a b = true) (h2 : byCs b c = true) : byCs a c = true := by
  simp only [byCs, decide_eq_true_eq] at *
  exact List.le_trans h1 h2
theorem byCs_total (a b : Str) : (byCs a b || byCs b a) = true := by
  simp only [byCs, Bool.or_eq_true, decide_eq_true_eq]
  exact List.le_total _ _
structure On (mg : Str → Option Value) : Prop where
  tuple : mg "tuple" = none
  all : mg "all" = none
  sorted : mg "sorted" = none
  set : mg "set" = none
end Mk

set_option Elab.async false
set_option linter.all false
set_option maxRecDepth 100000
set_option maxHeartbeats 4000000
namespace Mk
open PySem PySem.Spec PyProof.Rows L2

/-- a def's promise where nothing is being printed -/
structure FnG (P : Program) (w : World) (K : PySem.W.Frag) (mg : Str → Option Value) (base : Heap) (CX : CXT) (k : Nat) (f : Addr) (fd : FuncData) (ps : List Str) (sp : Sp) : Prop where
  len : ∀ vs H Q E, sp vs H Q E → vs.length = ps.length
  go : ∀ (A : Around) (outer : List Env) (s : Shared) (H : Hp) (args : Args) (us : List Value) (vs : List V) (Q : VK) (E : XK), Room k A → A.guards = some [] → Env0 P w K mg base A outer s H → BindsTo s fd args (ps.zip us) → Vals vs us → sp vs H Q E →
    codeAny (model P w) A (.call (.ref f) args) (CR CX outer P w H s Q E) s

section
variable {P : Program} {w : World} {K : PySem.W.Frag} {mg : Str → Option Value} {base : Heap} {CX : CXT} {k : Nat} {f : Addr} {sp : Sp} {N ps : List Str}
theorem fn_ofG {name qual : Str} {params : Arguments} {body : List Stmt} {scope : Scope} {dV kV doc pm cdv ct oc : Value} {an od : Option Addr} {osl : Array (Option Value)}
    (at0 : K.lookup f = some ⟨oc, od, .func (PySem.W.fnOf name qual params body scope dV kV doc pm an cdv ct), osl⟩) (cd0 : PySem.W.codeIn K cdv qual = true) (S : FnScope N ps scope)
    (len : ∀ vs H Q E, sp vs H Q E → vs.length = ps.length)
    (hb : ∀ (A : Around) (outer : List Env) (s : Shared) (H : Hp) (vs : List V) (Q : VK) (E : XK), Room k (A.deeper (envOfC qual scope s.heap.objs.size f cdv)) → A.guards = some [] → sp vs H Q E →
      ∃ t, PSs (cxOf CX P w K mg base N qual scope f cdv A outer s H E) body t ∧ t { nx := fun _ H' => Q .non H', rt := Q } (start N vs) H) :
    FnG P w K mg base CX (k + 1) f (PySem.W.fnOf name qual params body scope dV kV doc pm an cdv ct) ps sp := by
  refine ⟨len, fun A outer s H args us vs Q E hr gd e0 bd rel hsp => ?_⟩
  have lv := len _ _ _ _ hsp
  have kin : K.In s.heap := e0.mod.kin.keeps fun b o e => (e0.bs b o e).1
  have nol : s.heap.NoLimit := e0.mod.nolimit.keeps fun b o e => (e0.bs b o e).1
  have kinds : ∀ y ∈ ps.zip us, scope.names.lookup y.1 = some .local ∨ (scope.names.lookup y.1 = some .cell ∧ ((cellsFrom (s.heap.objs.size + 1) scope.names []).lookup y.1).isSome = true) := by
    rintro ⟨n, v⟩ hy
    exact (S.par n (List.of_mem_zip hy).1).imp id fun q => ⟨q, PySem.W.cellsFrom_some _ _ _ (.inl q)⟩
  refine codeAny_call_function hr.depth (kin _ _ at0) rfl S.co S.gen rfl (PySem.W.codeRec_of kin cd0) (bd _ _ _ _ ?_)
  refine wpAny_newFunctionEnv_cells S.kind kinds fun env he s1 x => ?_
  subst he
  obtain ⟨t, ht, hq⟩ := hb A outer s H vs Q E (hr.deeper _) gd hsp
  have I : Inv (cxOf CX P w K mg base N qual scope f cdv A outer s H E) [] (start N vs) H s1 := inv_start S hr.hd e0 lv rel x
  refine ⟨nol.keeps x.toInCall.keep, codeAny_func (wpAny_mono (ht.run [] s1 (start N vs) H _ I hq) (fun fl s' z => ?_) fun e s' z => z)⟩
  match fl, z with
  | .ret u, ⟨v, σ', H', J, rv, q⟩ => exact ⟨v, H', J.os, J.bare, J.base, J.hok, rv, q⟩
  | .next, ⟨σ', H', J, q⟩ => exact ⟨V.non, H', J.os, J.bare, J.base, J.hok, rfl, q⟩
  | .brk, ⟨_, _, _, q⟩ => exact q.elim
  | .cont, ⟨_, _, _, q⟩ => exact q.elim
/-- the rule for a def, where nothing is being printed -/
theorem Fun_okG {x qual : Str} {st : Stmt} {fd : FuncData} (F : Fun K x qual st f fd) (S : FnScope N ps (defScope st)) (len : ∀ vs H Q E, sp vs H Q E → vs.length = ps.length)
    (hb : ∀ (cdv : Value) (A : Around) (outer : List Env) (s : Shared) (H : Hp) (vs : List V) (Q : VK) (E : XK), Room k (A.deeper (envOfC qual (defScope st) s.heap.objs.size f cdv)) → A.guards = some [] → sp vs H Q E →
      ∃ t, PSs (cxOf CX0 P w K mg base N qual (defScope st) f cdv A outer s H E).nox (defBody st) t ∧ t { nx := fun _ H' => Q .non H', rt := Q } (start N vs) H) : FnG P w K mg base CX0 (k + 1) f fd ps sp := by
  obtain ⟨oc, od, kV, doc, pm, an, cdv, ct, osl, rfl, at0, cd0⟩ := F.ex
  refine fn_ofG at0 cd0 S len fun A outer s H vs Q E hr gd hsp => ?_
  obtain ⟨t, h, q⟩ := hb cdv A outer s H vs Q E hr gd hsp
  exact ⟨t, h.nox, q⟩
end
section
variable {X : Cx} {CX : CXT} {k : Nat} {f : Addr} {fd : FuncData} {ps : List Str} {sp : Sp} {E : XK} {x : Str} {p pos : Pos} {e : Expr} {es : List Expr} {t : TA}
theorem pe_callG (F : FnG X.prog X.w X.K X.mg X.base CX k f fd ps sp) (hr : Room k X.A) (gd : X.A.guards = some []) (hg : Gl X x) (hm : X.mg x = some (.ref f)) (hk : PySem.W.keepIn X.K (.ref f) = true) (hb : Binds X.K fd ps []) (hx : Passes CX X E)
    (ha : PA X (e :: es) t) (hdb : (x == ("__debug__" : Str)) = false := by decide) (he : starEach (e :: es) X.env = (false, eval e X.env) :: starEach es X.env := by rfl) (hpl : (backTo pos (starEach es X.env)).any (·.1) = false := by rfl) :
    PE X (.Call (.Name x p) (e :: es) [] pos) (tCall sp [] E t) := by
  refine ⟨fun pins s σ H Q I h => wpAny_Call_Name_kw (ld_glob I hg hm ?_ hdb)⟩
  refine PySem.W.callWith_K (h₀ := X.base) I.ok.mod.kin hk (thn (ha.run pos pins s σ H _ I h) fun us s1 ⟨vs, H1, I1, r, q⟩ => ⟨I1.kIn, ?_⟩) he hpl
  have q2 : sp (vs ++ []) H1 Q E := q
  rw [List.append_nil] at q2
  have lu : us.length = ps.length := by rw [← r.length]; exact F.len _ _ _ _ q2
  have bd := hb s1 us I1.kIn (by rw [List.append_nil]; exact lu)
  rw [List.append_nil] at bd
  refine wpAny_call (codeAny_mono (F.go X.A X.stack s1 H1 ⟨us, []⟩ us vs Q E hr gd I1.env0 bd r q2) fun r s' z => ?_)
  match r, z with
  | .error e, z => exact hx pins σ H1 s1 e s' I1 z
  | .ok (.ret u), z => exact I1.after z
  | .ok .next, z => exact False.elim z
  | .ok .brk, z => exact False.elim z
  | .ok .cont, z => exact False.elim z

/-- repr of data -/
theorem call_reprD (gd : X.A.guards = some []) (hu : X.A.units + 100 < cLine) : CallR X (.builtin "repr") (fun xs H Q => ∃ (a : Addr) (d : PyData), xs = [.ref a] ∧ Dp X.K H (.ref a) d ∧ d.showable = true ∧ d.hasDict = false ∧ d.depth ≤ 60 ∧ d.shown.length ≤ sizeLine ∧ Q (.str d.shown) H) := by
  intro pins s σ H xs us Q I r h
  obtain ⟨a, d, rfl, hd, h1, h2, h3, h4, q⟩ := h
  obtain ⟨u, rfl, hu1⟩ := vals1 r
  obtain ⟨as, rd⟩ := Dp.reads I d _ _ hd hu1
  obtain rfl : u = Value.ref a := hu1
  refine repr_of_reads' rd h1 (fun z => ?_) gd (by omega) (fun _ _ z => z) (fun h' v tk k => ⟨.str d.shown, H, I.kept k, ⟨_, rfl⟩, q⟩) h4
  rw [h2] at z
  cases z
end

section
variable {P : Program} {w : World} {K : PySem.W.Frag} {mg mb : Str → Option Value} {CX : CXT} {k : Nat} {fa a : Addr} {fd : FuncData} {x : Str} {sp : Sp} {s1 : Shared} {vs : List Value} {ns : List Int}
theorem law_callG (kin : K.In s1.heap) (hns : s1.heap.Ns mainGlobals mg) (hb : s1.heap.Ns builtinsNs mb) (hbb : ∀ x : Str, x ≠ "__name__" → mb x = bootBuiltins x) (nol : s1.heap.NoLimit) (hg : s1.gens = #[])
    (at0 : s1.heap.get? a = some { cls := .type "list", data := .seq vs.toArray }) (hi : IntsAre vs ns) (hl : ns.length ≤ sizeLine) (hr : Room k callerA)
    (F : ∀ base : Heap, K.In base → base.Ns mainGlobals mg → FnG P w K mg base CX k fa fd [x] sp) (bd : ∀ (s : Shared) (u : Value), BindsTo s fd ⟨[u], []⟩ [(x, u)])
    (hsp : ∀ H : Hp, Only H → SqL K H a (ns.map V.int) → sp [.ref a] H (fun v _ => v = .bl true) fun _ _ _ => False)
    (hCX : ∀ H e s', CX [] H s1 (fun _ _ _ => False) e s' → False) :
    codeAny (model P w) callerA (.call (.ref fa) ⟨[.ref a], []⟩) (fun r s' => r = .ok (.ret (.bool true)) ∧ OldK s1.heap s'.heap ∧ s'.os = s1.os ∧ AllBare s'.gens) s1 := by
  have rv := vals_ints hi
  have core : ∀ H : Hp, Only H → SqL K H a (ns.map V.int) → HOk P w H s1.heap → (∀ b, H b ≠ none → b = a) → (H a ≠ none → K.lookup a = none) →
      codeAny (model P w) callerA (.call (.ref fa) ⟨[.ref a], []⟩) (fun r s' => r = .ok (.ret (.bool true)) ∧ OldK s1.heap s'.heap ∧ s'.os = s1.os ∧ AllBare s'.gens) s1 := by
    intro H hO hS ok only noK
    have free : ∀ {b : Addr} {o : Obj}, s1.heap.get? b = some o → b ≠ a → H b = none := fun {b o} _ ne => by
      cases q : H b with
      | none => rfl
      | some u => exact absurd (only b (by rw [q]; exact fun z => nomatch z)) ne
    have nsH : ∀ {b : Addr} {m : Str → Option Value}, s1.heap.Ns b m → (hidT s1.heap H).Ns b m := fun {b m} ⟨o, es, ep, e, d, r⟩ => by
      refine ⟨o, es, ep, hidT_get e (free e fun z => ?_), d, r⟩
      rw [z, at0] at e
      cases e
      cases d
    have kinH : K.In (hidT s1.heap H) := fun b o e => by
      have e1 := kin b o e
      cases q : H b with
      | none => exact hidT_get e1 q
      | some u =>
        have z := only b (by rw [q]; exact fun z => nomatch z)
        subst z
        rw [noK (by rw [q]; exact fun z => nomatch z)] at e
        cases e
    have M0 : Mod K mg (hidT s1.heap H) := ⟨kinH, nsH hns, ⟨mb, nsH hb, hbb⟩, let ⟨mc, h1, h2⟩ := nol; ⟨mc, nsH h1, h2⟩⟩
    have e0 : Env0 P w K mg (hidT s1.heap H) callerA [] s1 H := ⟨rfl, M0, fun b o e => of_hidT e, Nat.le_of_eq (hidT_size _ _), trivial, fun b z => absurd (show b ∈ ([] : List Addr) from z) (by simp), ok, .of_eq hg⟩
    refine codeAny_mono ((F _ kinH (nsH hns)).go callerA [] s1 H ⟨[.ref a], []⟩ [.ref a] [.ref a] _ _ hr rfl e0 (bd s1 (.ref a)) (.cons rfl .nil) (hsp H hO hS)) fun r s' z => ?_
    match r, z with
    | .error e, z => exact (hCX H e s' z).elim
    | .ok .next, z => exact False.elim z
    | .ok .brk, z => exact False.elim z
    | .ok .cont, z => exact False.elim z
    | .ok (.ret u), ⟨v, H', os, bare, un, ok', rel, q⟩ =>
      obtain rfl : v = V.bl true := q
      obtain rfl : u = Value.bool true := rel
      refine ⟨rfl, OldK.of_keep fun b o e => ?_, os, bare⟩
      rcases hO b with z | ⟨ob, xs, z⟩
      · exact un.keep b o e z (fun q => absurd (show b ∈ ([] : List Addr) from q) (by simp)) (by simp)
      · have e1 := (ok b _ z).1
        have e2 := (ok' b _ (un.frzs b ob _ z)).1
        rw [e] at e1
        cases e1
        exact e2
  cases q : K.lookup a with
  | some o =>
    have e := kin a o q
    rw [at0] at e
    cases e
    refine core (fun _ => none) (fun _ => .inl rfl) (.inr ⟨_, vs.toArray, _, q, rfl, rfl, rfl, by rw [List.size_toArray, hi.length]; exact hl, by simpa using rv⟩) (fun b u z => nomatch z) (fun b z => absurd rfl z) fun z => absurd rfl z
  | none =>
    have self : ∀ {b : Addr} {u : HO}, (if b = a then some (HO.frz { cls := .type "list", data := .seq vs.toArray } (.lst (ns.map V.int))) else none) = some u → b = a ∧ u = .frz { cls := .type "list", data := .seq vs.toArray } (.lst (ns.map V.int)) := fun {b u} z => by
      by_cases c : b = a
      · rw [if_pos c] at z
        exact ⟨c, (Option.some.inj z).symm⟩
      · rw [if_neg c] at z
        cases z
    refine core (fun b => if b = a then some (.frz { cls := .type "list", data := .seq vs.toArray } (.lst (ns.map V.int))) else none) (fun b => ?_) (.inl (.inr ⟨_, if_pos rfl⟩)) (fun b u z => ?_) (fun b z => ?_) fun _ => q
    · by_cases c : b = a
      · exact .inr ⟨_, _, if_pos c⟩
      · exact .inl (if_neg c)
    · obtain ⟨rfl, rfl⟩ := self z
      exact ⟨at0, by rw [List.length_map]; exact hl, vs, _, rv, at0⟩
    · by_cases c : b = a
      · exact c
      · exact absurd (if_neg c) z
end
/-- the goal that k_head leaves, from the law's promise -/
theorem walk_ofG {l : PySem.W.OpenLaw} {n k : Nat} {q : Program} {loose : List Str} {XP : (Str → Option Value) → Heap → Prop} {YP : World → Heap → Prop} {d : DefRec} {K : Params → PySem.W.Frag} {sp : World → Sp} {x : Str}
    (hn : l.most = some n) (hn2 : n ≤ sizeLine) (hdf : d.params.defaults = []) (hr : Room k callerA) (hY : ∀ (w : World) (h : Heap), YP w h → (K w.params).In h)
    (F : ∀ (w : World) (mg : Str → Option Value) (fa : Addr) (h : Heap), (K w.params).In h → h.Ns mainGlobals mg → XP mg h → mg d.name = some (.ref fa) →
      ∃ fd : FuncData, (∀ (s : Shared) (u : Value), BindsTo s fd ⟨[u], []⟩ [(x, u)]) ∧ ∀ base : Heap, (K w.params).In base → base.Ns mainGlobals mg → FnG l.prog w (K w.params) mg base CX0 k fa fd [x] (sp w))
    (hsp : ∀ (w : World) (H : Hp) (a : Addr) (ns : List Int), ns.length ≤ n → Only H → SqL (K w.params) H a (ns.map V.int) → sp w [.ref a] H (fun v _ => v = .bl true) fun _ _ _ => False) :
    PySem.W.WalkO q loose XP YP l.row.toRowW d [] (fun f vs => PySem.call f vs) := by
  refine Att.attach_call hn hdf fun w s0 s1 mg mb fa o pm cd doc a vs ns G Y ho hd hcd hmg hobj hints hlen hg => ?_
  have kin := hY w _ Y
  obtain ⟨fd, bd, hF⟩ := F w mg fa _ kin G.T.g G.X hmg
  exact law_callG kin G.T.g G.T.b G.T.builtins G.T.nolimit hg hobj hints (Nat.le_trans hlen hn2) hr hF bd (fun H hO hS => hsp w H a ns hlen hO hS) fun _ _ _ z => z
end Mk

set_option Elab.async false
set_option linter.all false
set_option maxRecDepth 100000
set_option maxHeartbeats 4000000
namespace Mk
open PySem L2

abbrev sIsNum : Stmt := top 9
abbrev sIsNumW : Stmt := top 10
abbrev sChkNum : Stmt := top 11
abbrev sChkSigns : Stmt := top 0

abbrev LG : Int := 999999999999999999999999999999999999999999999999999999999999
def nuB (i : Int) : Bool := decide (-LG ≤ i) && decide (i ≤ LG)
def nwB (i a b : Int) : Bool := nuB i && (decide (a ≤ i) && decide (i ≤ b))
def spIsNum : Sp := fun vs H Q _ => ∃ i : Int, vs = [.int i] ∧ Q (.bl (nuB i)) H
def spIsNumW : Sp := fun vs H Q _ => ∃ i a b : Int, vs = [.int i, .int a, .int b] ∧ Q (.bl (nwB i a b)) H
def spChkNum : Sp := fun vs H Q _ => ∃ i a b : Int, vs = [.int i, .int a, .int b] ∧ nwB i a b = true ∧ Q .non H
/-- ascending unlike signs -/
def AscSg (zs : List Str) : Prop := zs ≠ [] ∧ (∀ z ∈ zs, sgB z = true) ∧ zs.Pairwise (fun x y => cs x < cs y)
def spChkSigns : Sp := fun vs H Q _ => ∃ (t : Addr) (zs : List Str), vs = [.ref t] ∧ H t = some (.tup (zs.map V.str)) ∧ AscSg zs ∧ zs.length ≤ 5 ∧ ∀ H', Same H H' → Q .non H'
structure Nn (mg : Str → Option Value) : Prop where
  bool : mg "bool" = none
  lg : ∃ t, mg "LARGEST" = some (.int LG t)
section
variable {P : Program} {w : World} {K : PySem.W.Frag} {mg : Str → Option Value} {base : Heap}
theorem scIsNum : FnScope ["value"] ["value"] (defScope sIsNum) := ⟨rfl, rfl, rfl, by decide +kernel, rfl, by decide +kernel, by decide +kernel⟩
theorem ok_isNum {f : Addr} {fd : FuncData} (F : Fun K "is_number" "is_number" sIsNum f fd) (B : Bn mg) (W : Wn mg) (N : Nn mg) : FnOk P w K mg base CX0 1 f fd ["value"] spIsNum := by
  obtain ⟨t, hL⟩ := N.lg
  refine F.ok scIsNum (fun vs H Q E h => ?_) (fun cdv A outer s H vs Q E hr h => ?_)
  · obtain ⟨i, rfl, _⟩ := h
    rfl
  · obtain ⟨i, rfl, q⟩ := h
    refine ⟨_, pss_cons (ps_if (PW.pt (pw_or (pt_val (pe_callB call_isi (by rfl) W.isi (by decide +kernel) (pa_cons (pv 0) (pa_cons (pe_bltn (v := .ty "bool") (u := .type "bool") (by rfl) N.bool (by decide +kernel) rfl) pa_nil))))
        (pw_or1 (pt_not (pt_val (pe_callB call_isi (by rfl) W.isi (by decide +kernel) (pa_cons (pv 0) (pa_cons (pe_bltn (v := .ty "int") (u := .type "int") (by rfl) B.int (by decide +kernel) rfl) pa_nil)))))))) (pss_one (ps_ret pe_bl)) pss_nil)
      (pss_one (ps_ret (pe_chain op_le op_le (pe_un un_neg (pe_glob (v := .int LG) (by rfl) hL ⟨_, rfl⟩)) (pv 0) (pe_glob (v := .int LG) (by rfl) hL ⟨_, rfl⟩)))), ?_⟩
    refine ⟨_, rfl, _, _, _, _, false, rfl, .ty "bool", .base (.int i), kit_ty (by decide +kernel), _, rfl, iteF ?_⟩
    refine ⟨_, rfl, _, _, _, _, true, rfl, .ty "int", .base (.int i), kit_ty (by decide +kernel), _, rfl, iteF ?_⟩
    refine ⟨_, rfl, _, rfl, _, _, rfl, rfl, _, rfl, ?_⟩
    by_cases h1 : -LG ≤ i
    · rw [decide_eq_true h1]
      refine iteT ⟨_, _, rfl, rfl, ?_⟩
      have e : decide (i ≤ LG) = nuB i := by
        unfold nuB
        rw [decide_eq_true h1, Bool.true_and]
      rw [← e] at q
      exact q
    · rw [decide_eq_false h1]
      have e : nuB i = false := by
        unfold nuB
        rw [decide_eq_false h1, Bool.false_and]
      rw [e] at q
      exact iteF q
theorem scIsNumW : FnScope ["value", "least", "most"] ["value", "least", "most"] (defScope sIsNumW) := ⟨rfl, rfl, rfl, by decide +kernel, rfl, by decide +kernel, by decide +kernel⟩
theorem ok_isNumW {f : Addr} {fd : FuncData} (F : Fun K "is_number_within" "is_number_within" sIsNumW f fd) (J : Cd P w K mg base 1 "is_number" ["value"] spIsNum) : FnOk P w K mg base CX0 2 f fd ["value", "least", "most"] spIsNumW := by
  obtain ⟨j, dj, G, gm, gk, gb⟩ := J.ex
  refine F.ok scIsNumW (fun vs H Q E h => ?_) (fun cdv A outer s H vs Q E hr h => ?_)
  · obtain ⟨i, a, b, rfl, _⟩ := h
    rfl
  · obtain ⟨i, a, b, rfl, q⟩ := h
    refine ⟨_, pss_one (ps_ret (pe_and (pe_call G hr (by rfl) gm gk gb .nil pass0 (pa_cons (pv 0) pa_nil)) (pe_one (pe_chain op_le op_le (pv 1) (pv 0) (pv 2))))), ?_⟩
    refine ⟨_, rfl, i, rfl, _, rfl, ?_⟩
    unfold nwB at q
    cases e : nuB i with
    | false =>
      rw [e, Bool.false_and] at q
      exact iteF q
    | true =>
      rw [e, Bool.true_and] at q
      refine iteT ⟨_, rfl, _, rfl, _, _, rfl, rfl, _, rfl, ?_⟩
      by_cases h1 : a ≤ i
      · rw [decide_eq_true h1] at q ⊢
        rw [Bool.true_and] at q
        exact iteT ⟨_, rfl, _, _, rfl, rfl, q⟩
      · rw [decide_eq_false h1] at q ⊢
        exact iteF q
theorem scChkNum : FnScope ["given", "least", "most"] ["given", "least", "most"] (defScope sChkNum) := ⟨rfl, rfl, rfl, by decide +kernel, rfl, by decide +kernel, by decide +kernel⟩
theorem ok_chkNum {f : Addr} {fd : FuncData} (F : Fun K "check_number" "check_number" sChkNum f fd) (J : Cd P w K mg base 2 "is_number_within" ["value", "least", "most"] spIsNumW) : FnOk P w K mg base CX0 3 f fd ["given", "least", "most"] spChkNum := by
  obtain ⟨j, dj, G, gm, gk, gb⟩ := J.ex
  refine F.ok scChkNum (fun vs H Q E h => ?_) (fun cdv A outer s H vs Q E hr h => ?_)
  · obtain ⟨i, a, b, rfl, _⟩ := h
    rfl
  · obtain ⟨i, a, b, rfl, hn, q⟩ := h
    refine ⟨_, pss_one (ps_if (pt_not (pt_val (pe_call G hr (by rfl) gm gk gb .nil pass0 (pa_cons (pv 0) (pa_cons (pv 1) (pa_cons (pv 2) pa_nil)))))) (pss_one ps_never) pss_nil), ?_⟩
    refine ⟨_, rfl, _, rfl, _, rfl, i, a, b, rfl, _, rfl, ?_⟩
    rw [hn]
    exact iteF q

theorem sorted_same {le : Str → Str → Bool} (tr : ∀ a b c, le a b = true → le b c = true → le a c = true) (tot : ∀ a b, (le a b || le b a) = true) (anti : ∀ a b, le a b = true → le b a = true → a = b) {l zs : List Str} (p : l.Perm zs) (s : zs.Pairwise (fun x y => le x y = true)) : l.mergeSort le = zs := by
  have s1 := List.pairwise_mergeSort tr tot l
  have p1 := (List.mergeSort_perm l le).trans p
  exact List.Perm.eq_of_pairwise (fun a b _ _ h1 h2 => anti a b h1 h2) s1 s p1
theorem dpAll_str {K : PySem.W.Frag} {H : Hp} : ∀ zs : List Str, DpAll K H (zs.map V.str) (zs.map PyData.str)
  | [] => .nil
  | z :: zs => .cons (.str z) (dpAll_str zs)
theorem lay_strs : ∀ zs : List Str, (∀ z ∈ zs, PyData.strOk z = true) → PyData.canLayAll0 (zs.map PyData.str) = true
  | [], _ => by simp [PyData.canLayAll0]
  | z :: zs, h => by simp [PyData.canLayAll0, PyData.canLay0, h z List.mem_cons_self, lay_strs zs fun y hy => h y (List.mem_cons_of_mem _ hy)]
theorem depth_strs : ∀ zs : List Str, PyData.depthAll (zs.map PyData.str) = 0
  | [] => by simp [PyData.depthAll]
  | z :: zs => by simp [PyData.depthAll, PyData.depth, depth_strs zs]
theorem shaped_strs {zs : List Str} (h : ∀ z ∈ zs, PyData.strOk z = true) : SeqAt.shaped (.tuple (zs.map PyData.str)) = true := by
  unfold SeqAt.shaped
  simp [PyData.canLay0, PyData.depth, lay_strs zs h, depth_strs]
theorem ok_of_wB {z : Str} (h : wB z = true) : PyData.strOk z = true := by
  unfold PyData.strOk
  rw [← Array.all_toList]
  refine List.all_eq_true.mpr fun c hc => ?_
  have := isW_of h c hc
  simp
  omega
theorem byCs_anti (a b : Str) (h1 : byCs a b = true) (h2 : byCs b a = true) : a = b := by
  simp only [byCs, decide_eq_true_eq] at h1 h2
  exact cs_inj (List.le_antisymm h1 h2)
theorem nodup_lt {zs : List Str} (h : zs.Pairwise (fun x y => cs x < cs y)) : zs.Nodup := List.Pairwise.imp (fun {a b} h (e : a = b) => List.lt_irrefl (cs b) (by rw [e] at h; exact h)) h
end
end Mk

set_option Elab.async false
set_option linter.all false
set_option maxRecDepth 100000
set_option maxHeartbeats 4000000
/-! d.values() of a dict whose keys are tuples -/
namespace Mk
open PySem PySem.Spec PyProof.Rows PySem.W L2

section
variable {X : Cx} {pins : List (Addr × Obj)} {σ : L2.St} {H : Hp} {s : Shared} {d : Addr} {o : Obj}
theorem frzV {kvs : List (List Key × V)} (I : Inv X pins σ H s) (hf : H d = some (.frz o (.dT kvs))) :
    (d == sysModules) = false ∧ ∃ (es : Array DictEntry) (ep : Nat), o.data = .dict es ep ∧ es.size = kvs.length ∧ s.heap.DictRaw d es ep ∧
      ∀ (i : Nat) (k : List Key) (v : V), kvs[i]? = some (k, v) → ∃ en : DictEntry, es[i]? = some en ∧ RelV v en.val := by
  obtain ⟨ho1, zl, hsm, xs, pr, o', es, ep, ho2, hx, hdt, he, _⟩ := I.hok d _ hf
  obtain rfl : o = o' := Option.some.inj (ho1.symm.trans ho2)
  refine ⟨hsm, es, ep, hdt, ?_, ⟨o, ho1, hx, hdt⟩, fun i k v e => ?_⟩
  · exact (size_of_entries he).trans (Paired.length pr).symm
  · obtain ⟨b, hb, _, _, e3⟩ := paired_get pr e
    have q := entry_at he i
    rw [hb] at q
    exact ⟨_, q, e3⟩
end
/-- the values of the locked dict at d, whose keys are tuples -/
def Itdt (d : Addr) (o : Obj) (kvs : List (List Key × V)) : It where
  go := fun i H => H d = some (.frz o (.dT kvs)) ∧ i < kvs.length
  yld := fun i H x H' => H' = H ∧ ∃ k, kvs[i]? = some (k, x)
  stop := fun i H => H d = some (.frz o (.dT kvs)) ∧ kvs.length ≤ i
theorem walk_valuesT {d : Addr} {o : Obj} {kvs : List (List Key × V)} : Walk (Itdt d o kvs) kvs.length (fun H => H d = some (.frz o (.dT kvs))) (fun i H x H' => H' = H ∧ ∃ k, kvs[i]? = some (k, x)) where
  goes := fun i _ hi q => ⟨q, hi⟩
  stops := fun _ q => ⟨q, Nat.le_refl _⟩
  yields := fun _ _ _ _ _ _ y => y
section
variable {P : Program} {w : World} {K : PySem.W.Frag} {tg : Expr} {d : Addr} {o : Obj} {es : Array DictEntry} {ep : Nat}
theorem turn_valsT {kvs : List (List Key × V)} (it : Addr) (hod : o.data = .dict es ep) : Turn P w K tg (Itdt d o kvs) [it] it (fun i h => h.IsValIter it d i kvs.length ep) where
  mem := List.mem_singleton.mpr rfl
  obj := fun i h st b hb => by
    obtain rfl := List.mem_singleton.mp hb
    obtain ⟨oi, e, c, dd⟩ := st
    refine ⟨oi, e, fun v z => ?_⟩
    rw [dd] at z
    cases z
  keep := fun i h h' st k => st.at fun oi e => k it (List.mem_singleton.mpr rfl) oi e
  item := by
    intro X hP hw hK hc i pins s σ H E I hf st hg
    subst hP hw hK
    have ⟨f0, f1, f2, f3, f4, f5⟩ := hf it (List.mem_singleton.mpr rfl)
    have ⟨hsm, es', ep', hdt, hsz, hr, ent⟩ := frzV I hg.1
    obtain ⟨rfl, rfl⟩ := dict_ep hod hdt
    have hgi : i < kvs.length := hg.2
    have hkv : kvs[i]? = some kvs[i] := List.getElem?_eq_getElem hgi
    obtain ⟨en, hen, ru⟩ := ent i _ _ hkv
    have hlt : i < es'.size := by rw [hsz]; exact hg.2
    have een : es'[i] = en := Option.some.inj ((Array.getElem?_eq_getElem hlt).symm.trans hen)
    rw [← hsz] at st ⊢
    refine wpAny_pyNext_values_item_raw st hr hlt fun h' st' sb => ?_
    have I1 := I.turned (t' := s.toks) (h' := h') (fun b ob hb e => (sb.2 b hb).trans e) f0 f1 f3 f4 f5
    have ⟨oi, e, c, dd⟩ := id st'
    exact ⟨_, rfl, go_of (s := { s with heap := h' }) e c dd (by decide) ⟨_, H, I1, by rw [een]; exact ru, ⟨rfl, _, hkv⟩, st', fun b hb => (hf b hb).1⟩⟩
  done := by
    intro X hP hw hK hc i pins s σ H E I hf st hg
    subst hP hw hK
    have ⟨f0, f1, f2, f3, f4, f5⟩ := hf it (List.mem_singleton.mpr rfl)
    have ⟨hsm, es', ep', hdt, hsz, hr, ent⟩ := frzV I hg.1
    obtain ⟨rfl, rfl⟩ := dict_ep hod hdt
    rw [← hsz] at st
    refine wpAny_pyNext_values_end_raw (I.ok.hd hc) st hr (by rw [hsz]; exact hg.2) fun h' eb => ?_
    exact ⟨rfl, I.turned (t' := s.toks) (fun b ob hb e => eb b ob hb e) f0 f1 f3 f4 f5⟩
  self := fun A i s Q E st h => wpAny_pyIter_valiter st h
end
def iValsT (td : TE) : TI := fun σ H R => td σ H fun x H1 => ∃ d o kvs, x = .ref d ∧ H1 d = some (.frz o (.dT kvs)) ∧ R (Itdt d o kvs) H1
section
variable {X : Cx} {tg e : Expr} {td : TE} {apos cpos : Pos}
theorem pi_valuesT (he : PE X e td) (hbase : attributeBase e "values" X.env (eval e X.env) = eval e X.env := by rfl) (hline : (apos.endLine == cpos.line) = true := by rfl) : PI X tg (.Call (.Attribute e "values" apos) [] [] cpos) (iValsT td) := by
  refine ⟨fun pins s σ H R I h => ?_⟩
  refine wpAny_Call_method (T := "dict") (id := "dict.values") hbase rfl hline F.plainAttrs_dict F.slot_dict_values F.type_dict_values (thn (he.run pins s σ H _ I h) fun u s1 z => ?_)
  obtain ⟨x, H1, I1, rx, d, o, kvs, rfl, hd, q⟩ := z
  obtain rfl : u = Value.ref d := rx
  have ⟨hsm, es, ep, hdt, hsz, hr, ent⟩ := frzV I1 hd
  have ⟨o1, ho1, hx1, hd1⟩ := id hr
  have I2 := I1.kept (t' := s1.toks) (h' := s1.heap.push { cls := .type "dict_values", data := .fields #[.ref d] }) fun b ob q => Heap.get?_push_of_some _ q
  have fin : wpAny (model X.prog X.w) X.A (pyIter (.ref s1.heap.objs.size)) (PIE X pins σ tg R) X.xe { s1 with heap := s1.heap.push { cls := .type "dict_values", data := .fields #[.ref d] } } := by
    refine wpAny_pyIter_values_raw (d := d) (es := es) (ep := ep) ⟨_, Heap.get?_push_size _ rfl, rfl, rfl⟩ ⟨o1, Heap.get?_push_of_some _ ho1, hx1, hd1⟩ (pi_one (tk := s1.toks) I2 _ (turn_valsT _ hdt) ⟨_, Heap.get?_push_size _ rfl, rfl, ?_⟩ q)
    rw [hsz] <;> rfl
  refine ⟨⟨o1, ho1, hx1.1⟩, ?_, ?_⟩
  · intro b e
    cases e
    exact ⟨o1, ho1, hx1.2.1⟩
  · exact method_meetsIn F.slot_dict_values F.entry_dict_values rfl (PySem.evalArgs_none ⟨rfl, ⟨o1, ho1, hx1.1⟩, F.args_dict_values_1 _, _, meets_dict_values_raw d hsm, ⟨⟨es, ep, hr⟩, fin⟩⟩)
end
end Mk

set_option Elab.async false
set_option linter.all false
set_option maxRecDepth 100000
set_option maxHeartbeats 4000000
namespace Mk
open PySem L2

abbrev sAreT : Stmt := top 23
abbrev sIsST : Stmt := top 24
abbrev sHasP : Stmt := top 25
abbrev sIsPair : Stmt := top 26

/-! ### tables of prices -/
abbrev PTab := List (Str × Int)
abbrev STab := List ((Str × Str) × Int)
def kvsP (t : PTab) : List (Key × V) := t.map fun p => (Sum.inr p.1, V.int p.2)
def kvsS (t : STab) : List (List Key × V) := t.map fun p => ([Sum.inr p.1.1, Sum.inr p.1.2], V.int p.2)
structure Pn (mg : Str → Option Value) : Prop where
  dict : mg "dict" = none
  mp : ∃ t, mg "MAX_PRICE" = some (.int 9 t)
  ms : ∃ t, mg "MAX_SWAP_PRICE" = some (.int 18 t)
/-- a generic walk: a comprehension of booleans -/
theorem wk_any {J : It} {n : Nat} {Gd : Hp → Prop} {Y : Nat → Hp → V → Hp → Prop} (wk : Walk J n Gd Y) {Body : V → Hp → (Hp → Prop) → Prop} {H0 : Hp} {Qd : Hp → Prop} (Pv : Nat → Hp → Prop) (h0 : Pv 0 H0) (hG : ∀ i H, i ≤ n → Pv i H → Gd H)
    (hs : ∀ i x H H', i < n → Pv i H → Y i H x H' → Body x H' (Pv (i + 1))) (hd : ∀ H, Pv n H → Qd H) :
    ∃ W : Nat → Nat → Hp → Prop, (∃ m, W 0 m H0) ∧ ∀ i m H, W i m H → (J.stop i H ∧ Qd H) ∨ (J.go i H ∧ ∃ Nx : Hp → Prop, (∀ H', Nx H' → ∃ m', m' < m ∧ W (i + 1) m' H') ∧ ∀ x H', J.yld i H x H' → Body x H' Nx) := by
  refine ⟨fun i m H => m = n - i ∧ i ≤ n ∧ Pv i H, ⟨n, by simp, Nat.zero_le _, h0⟩, ?_⟩
  rintro i m H ⟨rfl, le, p⟩
  by_cases lt : i < n
  · exact .inr ⟨wk.goes i H lt (hG i H le p), Pv (i + 1), fun H' p' => ⟨n - (i + 1), by omega, rfl, lt, p'⟩, fun x H' y => hs i x H H' lt p (wk.yields i H x H' lt (hG i H le p) y)⟩
  · obtain rfl : i = n := by omega
    exact .inl ⟨wk.stops H (hG _ H le p), hd H p⟩
theorem Same.upN {H H1 : Hp} {l : Addr} {o : HO} (a : Same H H1) (hl : H l = none) : Same H (upd H1 l o) := fun b u e => by
  rw [upd_ne (ne_of_none e hl)]
  exact a b u e
section
variable {X : Cx} {tg e : Expr} {td : TE} {apos cpos : Pos}
/-- d.values(), keys of either kind -/
theorem pi_valuesU (he : PE X e td) (hbase : attributeBase e "values" X.env (eval e X.env) = eval e X.env := by rfl) (hline : (apos.endLine == cpos.line) = true := by rfl) : PI X tg (.Call (.Attribute e "values" apos) [] [] cpos) (fun σ H R => iVals td σ H R ∨ iValsT td σ H R) :=
  ⟨fun pins s σ H R I h => h.elim (fun h => (pi_values he hbase hline).run pins s σ H R I h) (fun h => (pi_valuesT he hbase hline).run pins s σ H R I h)⟩
end
/-- d is a dict of prices: of signs, or of pairs -/
def IsTab (H : Hp) (d : Addr) (ns : List Int) : Prop := (∃ t : PTab, H d = some (.dK (kvsP t)) ∧ ns = t.map (·.2)) ∨ ∃ t : STab, H d = some (.dT (kvsS t)) ∧ ns = t.map (·.2)
def spHasP : Sp := fun vs H Q _ => ∃ (d : Addr) (m : Int) (ns : List Int), vs = [.ref d, .int m] ∧ IsTab H d ns ∧ ns.length ≤ 30 ∧ ∀ H', Same H H' → Q (.bl (ns.all fun i => nwB i 1 m)) H'
section
variable {P : Program} {w : World} {K : PySem.W.Frag} {mg : Str → Option Value} {base : Heap}
theorem scHasP : FnScope ["value", "most", "price"] ["value", "most"] (defScope sHasP) := ⟨rfl, rfl, rfl, by decide +kernel, rfl, by decide +kernel, by decide +kernel⟩
/-- what stands behind the walk over the locked dict at d: the list D of answers -/
structure Bls (H H1 : Hp) (d D : Addr) (u : HO) (bs : List Bool) : Prop where
  but : ∀ b o, b ≠ d → H b = some o → H1 b = some o
  at_ : H1 d = some u
  out : H1 D = some (.lst (bs.map V.bl))
theorem Bls.start {H : Hp} {d D : Addr} {u : HO} (hD : upd H d u D = none) : D ≠ d ∧ H D = none ∧ Bls H (upd (upd H d u) D (.lst [])) d D u [] := by
  have ne : D ≠ d := fun e => by
    rw [e, upd_same] at hD
    cases hD
  have h0 : H D = none := by rwa [upd_ne ne] at hD
  refine ⟨ne, h0, fun b o hb e => ?_, ?_, upd_same⟩
  · rw [upd_ne (ne_of_none e h0), upd_ne hb]
    exact e
  · rw [upd_ne ne.symm]
    exact upd_same
theorem Bls.push {H H1 : Hp} {d D : Addr} {u : HO} {bs : List Bool} (W : Bls H H1 d D u bs) (ne : D ≠ d) (h0 : H D = none) (b : Bool) : Bls H (upd H1 D (.lst (bs.map V.bl ++ [.bl b]))) d D u (bs ++ [b]) := by
  refine ⟨fun a o hb e => ?_, ?_, ?_⟩
  · rw [upd_ne (ne_of_none e h0)]
    exact W.but a o hb e
  · rw [upd_ne ne.symm]
    exact W.at_
  · rw [upd_same, List.map_append]
    rfl
theorem Bls.done {H H1 : Hp} {d D : Addr} {u u0 : HO} {bs : List Bool} (W : Bls H H1 d D u bs) (hd : H d = some u0) : Same H (upd H1 d u0) := fun b o e => by
  by_cases hb : b = d
  · subst hb
    rw [hd] at e
    cases e
    exact upd_same
  · rw [upd_ne hb]
    exact W.but b o hb e
theorem ok_hasP {f : Addr} {fd : FuncData} (F : Fun K "_has_prices" "_has_prices" sHasP f fd) (W : Wn mg) (O : On mg) (N : Pn mg) (J : Cd P w K mg base 2 "is_number_within" ["value", "least", "most"] spIsNumW) : FnOk P w K mg base CX0 3 f fd ["value", "most"] spHasP := by
  obtain ⟨j, dj, G, gm, gk, gb⟩ := J.ex
  refine F.ok scHasP (fun vs H Q E h => ?_) (fun cdv A outer s H vs Q E hr h => ?_)
  · obtain ⟨d, m, ns, rfl, _⟩ := h
    rfl
  · obtain ⟨d, m, ns, rfl, ht, hl, q⟩ := h
    refine ⟨_, pss_cons (ps_if (pt_not (pt_val (pe_callB call_isi (by rfl) W.isi (by decide +kernel) (pa_cons (pv 0) (pa_cons (pe_bltn (v := .ty "dict") (u := .type "dict") (by rfl) N.dict (by decide +kernel) rfl) pa_nil))))) (pss_one (ps_ret pe_bl)) pss_nil)
      (pss_one (ps_ret (pe_callB (cr_all rfl) (by rfl) O.all (by decide +kernel) (pa_cons (pe_lock (pe_lc (own := [("price", 2)]) (g := gName 2) (tt := tYes) rfl scHasP.nd (pi_valuesU (pv 0)) (blkOk_by (N := ["value", "most", "price"]) (sc := defScope sHasP) (by decide +kernel))
          (fun _ _ _ _ _ => pg_name (i := 2) scHasP.nd rfl (Or.inl rfl)) (fun _ _ _ _ _ => pts_nil) (fun _ _ _ _ _ => pe_call G hr (by rfl) gm gk gb .nil pass0 (pa_cons (pv 2) (pa_cons pe_int (pa_cons (pv 1) pa_nil)))))) pa_nil)))), ?_⟩
    have small : ns.length < sizeLine := Nat.lt_of_lt_of_le (by omega : ns.length < 4000) (by decide)
    rcases ht with ⟨t, hd, rfl⟩ | ⟨t, hd, rfl⟩
    · refine ⟨_, rfl, _, _, _, _, true, rfl, .ty "dict", .base (.dK hd), kit_ty (by decide +kernel), _, rfl, iteF ?_⟩
      refine ⟨d, _, hd, trivial, fun od => .inl ⟨_, rfl, d, od, kvsP t, rfl, upd_same, fun D hD => ?_⟩⟩
      obtain ⟨ne, h0, st⟩ := Bls.start hD
      refine wk_any (walk_values (d := d) (o := od) (kvs := kvsP t)) (fun i H1 => Bls H H1 d D (.frz od (.dK (kvsP t))) ((t.take i).map fun p => nwB p.2 1 m)) st (fun i H1 _ h1 => h1.at_) ?_ ?_
      · rintro i x H1 H2 hi h1 ⟨rfl, k, hx⟩
        have hi2 : i < t.length := by simpa [kvsP] using hi
        have e : x = V.int t[i].2 := by
          unfold kvsP at hx
          rw [List.getElem?_map, List.getElem?_eq_getElem hi2] at hx
          have := Option.some.inj hx
          injection this with _ e2
          exact e2.symm
        subst e
        refine ⟨rfl, _, rfl, _, rfl, t[i].2, 1, m, rfl, _, h1.out, ?_, ?_⟩
        · rw [List.length_map, List.length_map, List.length_take]
          rw [List.length_map] at small
          omega
        · have := h1.push ne h0 (nwB t[i].2 1 m)
          rw [List.take_add_one, List.getElem?_eq_getElem hi2, List.map_append]
          exact this
      · rintro H1 h1
        have e : (kvsP t).length = t.length := by simp [kvsP]
        rw [e, List.take_length] at h1
        refine ⟨h1.at_, D, _, rfl, SqL.of (by rw [upd_ne ne]; exact h1.out), ?_⟩
        rw [List.all_map]
        have := q _ (h1.done hd)
        rw [List.all_map] at this
        exact this
    · refine ⟨_, rfl, _, _, _, _, true, rfl, .ty "dict", .base (.dT hd), kit_ty (by decide +kernel), _, rfl, iteF ?_⟩
      refine ⟨d, _, hd, trivial, fun od => .inr ⟨_, rfl, d, od, kvsS t, rfl, upd_same, fun D hD => ?_⟩⟩
      obtain ⟨ne, h0, st⟩ := Bls.start hD
      refine wk_any (walk_valuesT (d := d) (o := od) (kvs := kvsS t)) (fun i H1 => Bls H H1 d D (.frz od (.dT (kvsS t))) ((t.take i).map fun p => nwB p.2 1 m)) st (fun i H1 _ h1 => h1.at_) ?_ ?_
      · rintro i x H1 H2 hi h1 ⟨rfl, k, hx⟩
        have hi2 : i < t.length := by simpa [kvsS] using hi
        have e : x = V.int t[i].2 := by
          unfold kvsS at hx
          rw [List.getElem?_map, List.getElem?_eq_getElem hi2] at hx
          have := Option.some.inj hx
          injection this with _ e2
          exact e2.symm
        subst e
        refine ⟨rfl, _, rfl, _, rfl, t[i].2, 1, m, rfl, _, h1.out, ?_, ?_⟩
        · rw [List.length_map, List.length_map, List.length_take]
          rw [List.length_map] at small
          omega
        · have := h1.push ne h0 (nwB t[i].2 1 m)
          rw [List.take_add_one, List.getElem?_eq_getElem hi2, List.map_append]
          exact this
      · rintro H1 h1
        have e : (kvsS t).length = t.length := by simp [kvsS]
        rw [e, List.take_length] at h1
        refine ⟨h1.at_, D, _, rfl, SqL.of (by rw [upd_ne ne]; exact h1.out), ?_⟩
        rw [List.all_map]
        have := q _ (h1.done hd)
        rw [List.all_map] at this
        exact this
end
end Mk

set_option Elab.async false
set_option linter.all false
set_option maxRecDepth 100000
set_option maxHeartbeats 4000000
namespace Mk
open PySem PySem.Spec PyProof.Rows L2

section
variable {prog : Program} {w : World} {A : Around} {E : Value → Shared → Prop} {s : Shared} {r d : Addr} {n : Nat} {Pi : Nat → Value → Prop} {OK : Heap → Prop}
theorem new_tuple_d {Q1 : Value → Shared → Prop} (Kd : PySem.W.KdlSrc prog w "dict" r d n Pi OK) (hh : A.handled = none) (hok : OK s.heap) (hn : n ≤ sizeLine) (hT : s.TypeIs (.ref r) "dict")
    (h : ∀ (h' : Heap) (tk : Nat) (acc : Array Value), (∀ b o, s.heap.get? b = some o → h'.get? b = some o) → ItemsOf Pi acc n → Q1 (.ref h'.objs.size) { s with heap := h'.push { cls := .type "tuple", data := .seq acc }, toks := tk }) :
    codeAny (model prog w) A (.call (.builtin "tuple.__new__") ⟨[.type "tuple", .ref r], []⟩) (wants Q1 E) s := by
  refine codeAny_of_tree ?_
  show wpAny _ A.in1 (do checkBuiltinCall "tuple.__new__" ⟨[.type "tuple", .ref r], []⟩; again (.builtin "tuple.__new__" ⟨[.type "tuple", .ref r], []⟩)) _ _ s
  refine wpAny_bind (wpAny_of_eq (F.newCall_tuple_1 _) (wpAny_pure ⟨plainId_quiet F.plain_tuple_new _, codeAny_builtin F.entry_tuple_new ?_⟩))
  rw [Around.under_plainId F.plain_tuple_new _]
  have s1 := sub_tuple_self
  have s2 := init_tuple_lookup
  have s3 := madeHere_tuple
  have h1 : A.in1.handled = none := hh
  wp_walk using wpAny_typeOf hT, PySem.W.kdu_collect (A := A.in1) Kd h1 hok hn
  intro h' tk acc k it
  show wpAny _ _ (Builtin.Tuple.tupleExact acc.toList.toArray >>= fun v => ret v) _ _ _
  unfold Builtin.Tuple.tupleExact
  have e : acc.toList.toArray = acc := by simp
  rw [e]
  refine wpAny_bind (wpAny_newObj_type ?_ (by show acc.size ≤ sizeLine; rw [it.1]; exact hn))
  exact wpAny_pure (h h' tk acc k it)
theorem call_tuple_d {Q : Value → Shared → Prop} (Kd : PySem.W.KdlSrc prog w "dict" r d n Pi OK) (hh : A.handled = none) (hok : OK s.heap) (hn : n ≤ sizeLine) (hT : s.TypeIs (.ref r) "dict")
    (h : ∀ (h' : Heap) (tk : Nat) (acc : Array Value), (∀ b o, s.heap.get? b = some o → h'.get? b = some o) → ItemsOf Pi acc n → Q (.ref h'.objs.size) { s with heap := h'.push { cls := .type "tuple", data := .seq acc }, toks := tk }) :
    wpAny (model prog w) A (call (.type "tuple") [.ref r]) Q E s := by
  refine callType_codes (Q₁ := fun v s1 => s1.TypeIs v "tuple" ∧ Q v s1) F.called_tuple (F.typeCall_tuple_1 _) F.entry_object_init
    (new_tuple_d (A := A.in1) Kd hh hok hn hT fun h' tk acc k it => ⟨⟨_, Heap.get?_push_size _ rfl, rfl⟩, h h' tk acc k it⟩) fun v s1 z => ?_
  exact ⟨z.1, F.args_object_init_2 v _, object_init_meets F.called_tuple.init.lookup F.called_tuple.made (by decide) prog w A.in1 _ s1 ⟨z.1, rfl, z.2⟩⟩
end
/-- tuple(d): its keys -/
def rTupD : List V → Hp → VK → Prop := fun xs H Q => ∃ (p : Addr) (kvs : List (Key × V)), xs = [.ref p] ∧ H p = some (.dK kvs) ∧ ∀ q, H q = none → Q (.ref q) (upd H q (.tup (kvs.map fun kv => kV kv.1)))
theorem cr_tupD {X : Cx} (hc : X.calm = true) : CallR X (.type "tuple") rTupD := by
  intro pins s σ H xs us Q I r h
  obtain ⟨p, kvs, rfl, hk, q⟩ := h
  rw [Vals.ref1 r]
  obtain ⟨z, lo, vs, rk, hd⟩ := (show ObjOk X.prog X.w H s.heap p (.dK kvs) from I.hok p _ hk)
  obtain ⟨ep, hat⟩ := hd.dictAt
  have hl : kvs.length = vs.length := Paired.length rk
  have hT : s.TypeIs (.ref p) "dict" := by
    obtain ⟨o, es, ep2, e, ex, _⟩ := hd
    exact ⟨o, e, ex.1⟩
  refine call_tuple_d (PySem.W.kdl_dict (knd := mixKind X.prog X.w) (kvs := vs) (ep := ep) lo) (I.ok.hd hc) hat (by rw [← hl]; exact z) hT fun h' tk acc k it => ?_
  have I1 : Inv X pins σ H { s with heap := h', toks := tk } := I.kept k
  have fr : H h'.objs.size = none := I1.hok.fresh (Nat.le_refl _)
  have el : acc.toList.length = acc.size := by simp
  have rv : Vals (kvs.map fun kv => kV kv.1) acc.toList := vals_of_at (by rw [List.length_map, el, it.1, hl]) fun j x v h1 h2 => by
    obtain ⟨ky, y, e1, e2⟩ := it.2 j v (by rw [← Array.getElem?_toList]; exact h2)
    have e3 : (kvs.map (·.1))[j]? = some ky := by
      rw [KV.keys rk, List.getElem?_map, e1]
      rfl
    have e4 : (kvs.map fun kv => kV kv.1) = (kvs.map (·.1)).map kV := by
      rw [List.map_map]
      rfl
    rw [e4, List.getElem?_map, e3] at h1
    obtain rfl : kV ky = x := Option.some.inj h1
    exact keyIs_rel e2
  refine ⟨.ref _, upd H h'.objs.size (.tup (kvs.map fun kv => kV kv.1)), I1.laid (t' := tk) (fun b o e => Heap.get?_push_of_some _ e) (Nat.le_refl _) ⟨by rw [List.length_map]; exact z, acc.toList, rv, ?_⟩, rfl, q _ fr⟩
  rw [Array.toArray_toList]
  exact ⟨_, Heap.get?_push_size _ rfl, rfl, _, rfl⟩
end Mk

set_option Elab.async false
set_option linter.all false
set_option maxRecDepth 100000
set_option maxHeartbeats 4000000
namespace Mk
open PySem L2

theorem kvsP_len (t : PTab) : (kvsP t).length = t.length := by simp [kvsP]
theorem kvsS_len (t : STab) : (kvsS t).length = t.length := by simp [kvsS]
theorem kvsP_keys (t : PTab) : (kvsP t).map (·.1) = (t.map (·.1)).map Sum.inr := by simp [kvsP]
theorem kvsP_at {t : PTab} {i : Nat} (h : i < t.length) : (kvsP t)[i]? = some (Sum.inr t[i].1, V.int t[i].2) := by
  unfold kvsP
  rw [List.getElem?_map, List.getElem?_eq_getElem h]
  rfl
theorem kvsS_at {t : STab} {i : Nat} (h : i < t.length) : (kvsS t)[i]? = some ([Sum.inr t[i].1.1, Sum.inr t[i].1.2], V.int t[i].2) := by
  unfold kvsS
  rw [List.getElem?_map, List.getElem?_eq_getElem h]
  rfl
def okP (t : PTab) (m : Int) : Bool := t.all fun p => nwB p.2 1 m
def okS (t : STab) (m : Int) : Bool := t.all fun p => nwB p.2 1 m
def spIsST : Sp := fun vs H Q _ => ∃ (d : Addr) (t : PTab), vs = [.ref d] ∧ H d = some (.dK (kvsP t)) ∧ t.length ≤ 5 ∧ (∀ p ∈ t, sgB p.1 = true) ∧ ∀ H', Same H H' → Q (.bl (okP t 9 && !t.isEmpty)) H'
def spPair : Sp := fun vs H Q _ => ∃ (q t : Addr) (x y : Str) (zs : List Str), vs = [.ref q, .ref t] ∧ H q = some (.tup [.str x, .str y]) ∧ H t = some (.tup (zs.map V.str)) ∧ Q (.bl (decide (x ∈ zs) && (decide (y ∈ zs) && decide (x ≠ y)))) H
theorem inV_dec (x : Str) (zs : List Str) : inV (.str x) (zs.map V.str) = decide (x ∈ zs) := by
  unfold inV
  rw [List.any_map, Bool.eq_iff_iff, decide_eq_true_iff, List.any_eq_true]
  constructor
  · rintro ⟨y, hy, e⟩
    have : eqV (.str y) (.str x) = true := e
    simp [eqV] at this
    rw [← this]
    exact hy
  · intro h
    refine ⟨x, h, ?_⟩
    show eqV (.str x) (.str x) = true
    simp [eqV]
theorem flat_str (zs : List Str) : (zs.map V.str).all flatV = true := by
  rw [List.all_map]
  exact List.all_eq_true.mpr fun _ _ => rfl
section
variable {P : Program} {w : World} {K : PySem.W.Frag} {mg : Str → Option Value} {base : Heap}
theorem scIsPair : FnScope ["value", "signs"] ["value", "signs"] (defScope sIsPair) := ⟨rfl, rfl, rfl, by decide +kernel, rfl, by decide +kernel, by decide +kernel⟩
theorem ok_isPair {f : Addr} {fd : FuncData} (F : Fun K "_is_pair" "_is_pair" sIsPair f fd) (B : Bn mg) (W : Wn mg) (O : On mg) : FnOk P w K mg base CX0 1 f fd ["value", "signs"] spPair := by
  refine F.ok scIsPair (fun vs H Q E h => ?_) (fun cdv A outer s H vs Q E hr h => ?_)
  · obtain ⟨q, t, x, y, zs, rfl, _⟩ := h
    rfl
  · obtain ⟨q, t, x, y, zs, rfl, hq, ht, k⟩ := h
    refine ⟨_, pss_cons (ps_if (PW.pt (pw_or (pt_not (pt_val (pe_callB call_isi (by rfl) W.isi (by decide +kernel) (pa_cons (pv 0) (pa_cons (pe_bltn (v := .ty "tuple") (u := .type "tuple") (by rfl) O.tuple (by decide +kernel) rfl) pa_nil)))))
        (pw_or1 (pt_cmpR op_ne (pe_callB call_len_seq (by rfl) B.len PySem.boot_len (pa_cons (pv 0) pa_nil)) pe_int (nomark _))))) (pss_one (ps_ret pe_bl)) pss_nil)
      (pss_one (ps_ret (pe_and (pe_cmpR op_in_seq (pe_ix ix_tup (pv 0) pe_int (fun _ _ => rfl)) (pv 1) (by rfl)) (pe_and (pe_cmpR op_in_seq (pe_ix ix_tup (pv 0) pe_int (fun _ _ => rfl)) (pv 1) (by rfl))
        (pe_one (pe_cmpR op_ne (pe_ix ix_tup (pv 0) pe_int (fun _ _ => rfl)) (pe_ix ix_tup (pv 0) pe_int (fun _ _ => rfl)) (nomark _))))))), ?_⟩
    refine ⟨_, rfl, _, _, _, _, true, rfl, .ty "tuple", .base (.tup hq), kit_ty (by decide +kernel), _, rfl, iteF ?_⟩
    refine ⟨_, rfl, q, _, rfl, .inr (SqT.of hq), rfl, _, rfl, iteF ?_⟩
    refine ⟨_, rfl, q, _, 0, _, rfl, rfl, SqT.of hq, rfl, _, rfl, t, _, rfl, .inr (SqT.of ht), rfl, flat_str zs, _, rfl, ?_⟩
    rw [inV_dec]
    cases e1 : decide (x ∈ zs) with
    | false =>
      rw [e1] at k
      exact iteF k
    | true =>
      rw [e1] at k
      refine iteT ⟨_, rfl, q, _, 1, _, rfl, rfl, SqT.of hq, rfl, _, rfl, t, _, rfl, .inr (SqT.of ht), rfl, flat_str zs, _, rfl, ?_⟩
      rw [inV_dec]
      cases e2 : decide (y ∈ zs) with
      | false =>
        rw [e2] at k
        exact iteF k
      | true =>
        rw [e2] at k
        refine iteT ⟨_, rfl, q, _, 0, _, rfl, rfl, SqT.of hq, rfl, _, rfl, q, _, 1, _, rfl, rfl, SqT.of hq, rfl, rfl, ?_⟩
        have e3 : (!decide (V.str x = V.str y)) = decide (x ≠ y) := by
          rw [Bool.eq_iff_iff]
          simp
        rw [e3]
        exact k
end
end Mk

set_option Elab.async false
set_option linter.all false
set_option maxRecDepth 100000
set_option maxHeartbeats 4000000
namespace Mk
open PySem L2

theorem sg_len {z : Str} (h : sgB z = true) : z.length ≤ 100000 := by
  unfold sgB at h
  rw [Bool.and_eq_true, decide_eq_true_eq] at h
  omega
theorem sg_ok {z : Str} (h : sgB z = true) : PyData.strOk z = true := by
  unfold sgB at h
  rw [Bool.and_eq_true] at h
  exact ok_of_wB h.2
section
variable {P : Program} {w : World} {K : PySem.W.Frag} {mg : Str → Option Value} {base : Heap}
theorem scIsST : FnScope ["value", "sign"] ["value"] (defScope sIsST) := ⟨rfl, rfl, rfl, by decide +kernel, rfl, by decide +kernel, by decide +kernel⟩
theorem ok_isST {f : Addr} {fd : FuncData} (F : Fun K "_is_sign_table" "_is_sign_table" sIsST f fd) (O : On mg) (N : Pn mg) (J : Cd P w K mg base 3 "_has_prices" ["value", "most"] spHasP) (S : Cd P w K mg base 1 "is_sign" ["value"] (spJudge sgB K)) : FnOk P w K mg base CX0 4 f fd ["value"] spIsST := by
  obtain ⟨j, dj, G, gm, gk, gb⟩ := J.ex
  obtain ⟨c, dc, Gc, cm, ck, cb⟩ := S.ex
  obtain ⟨tm, hm9⟩ := N.mp
  refine F.ok scIsST (fun vs H Q E h => ?_) (fun cdv A outer s H vs Q E hr h => ?_)
  · obtain ⟨d, t, rfl, _⟩ := h
    rfl
  · obtain ⟨d, t, rfl, hd, hl, hv, q⟩ := h
    refine ⟨_, pss_cons (ps_if (PW.pt (pw_or (pt_not (pt_val (pe_call G hr (by rfl) gm gk gb .nil pass0 (pa_cons (pv 0) (pa_cons (pe_glob (v := .int 9) (by rfl) hm9 ⟨_, rfl⟩) pa_nil)))))
        (pw_or1 (pt_not (pt_truth (pv 0) (by intro _; rfl)))))) (pss_one (ps_ret pe_bl)) pss_nil)
      (pss_one (ps_ret (pe_callB (cr_all rfl) (by rfl) O.all (by decide +kernel) (pa_cons (pe_lock (pe_lc (own := [("sign", 1)]) (g := gName 1) (tt := tYes) rfl scIsST.nd (pi_keys (pv 0)) (blkOk_by (N := ["value", "sign"]) (sc := defScope sIsST) (by decide +kernel))
          (fun _ _ _ _ _ => pg_name (i := 1) scIsST.nd rfl (Or.inl rfl)) (fun _ _ _ _ _ => pts_nil) (fun _ _ _ _ _ => pe_call Gc (hr.mono (by decide)) (by rfl) cm ck cb .nil pass0 (pa_cons (pv 1) pa_nil)))) pa_nil)))), ?_⟩
    refine ⟨_, rfl, d, 9, t.map (·.2), rfl, .inl ⟨t, hd, rfl⟩, by rw [List.length_map]; omega, fun H1 hS => ⟨_, rfl, ?_⟩⟩
    have ea : ((t.map (·.2)).all fun i => nwB i 1 9) = okP t 9 := by
      unfold okP
      rw [List.all_map]
      rfl
    rw [ea]
    cases e1 : okP t 9 with
    | false =>
      rw [e1] at q
      exact iteT (q _ hS)
    | true =>
    rw [e1] at q
    have hd1 := hS _ _ hd
    refine iteF ⟨_, rfl, _, .inr (.inr ⟨_, hd1, rfl⟩), ?_⟩
    cases t with
    | nil => exact iteT (q _ hS)
    | cons a l =>
    refine iteF ⟨d, _, hd1, trivial, fun od => ?_⟩
    generalize hT : (a :: l) = t at *
    have q : ∀ H', Same H H' → Q (.bl true) H' := by
      intro H' h
      have := q H' h
      rw [← hT] at this
      exact this
    refine ⟨_, rfl, d, od, rfl, .inl ⟨kvsP t, upd_same, fun D hD => ?_⟩⟩
    obtain ⟨ne, h0, st⟩ := Bls.start hD
    refine wk_any (walk_keys (d := d) (o := od) (kvs := kvsP t)) (fun i H2 => Bls H1 H2 d D (.frz od (.dK (kvsP t))) (List.replicate i true)) st (fun i H2 _ h2 => h2.at_) ?_ ?_
    · rintro i x H2 H3 hi h2 ⟨rfl, k, v, hx, rfl⟩
      have hi2 : i < t.length := by rwa [kvsP_len] at hi
      rw [kvsP_at hi2] at hx
      cases hx
      have sg := hv _ (List.getElem_mem hi2)
      refine ⟨rfl, _, rfl, _, rfl, .inl ⟨t[i].1, rfl, sg_len sg, _, h2.out, ?_, ?_⟩⟩
      · rw [List.length_map, List.length_replicate]
        exact Nat.lt_of_lt_of_le (by omega : i < 4000) (by decide)
      · rw [sg, List.replicate_succ']
        exact h2.push ne h0 true
    · rintro H2 h2
      have ea : (List.replicate (kvsP t).length true).all id = true := List.all_eq_true.mpr fun b hb => (List.mem_replicate.mp hb).2
      refine ⟨h2.at_, D, _, rfl, SqL.of (by rw [upd_ne ne]; exact h2.out), ?_⟩
      rw [ea]
      exact q _ (Same.trans hS (h2.done hd1))
end
end Mk

set_option Elab.async false
set_option linter.all false
set_option maxRecDepth 100000
set_option maxHeartbeats 4000000
namespace Mk
open PySem PySem.Spec L2 PyProof.Rows

theorem rise_up : ∀ {r : List Str} {p : Str}, risingS p r = true → (p :: r).Pairwise (fun a b => byCs a b = true)
  | [], p, _ => List.pairwise_singleton _ _
  | x :: r, p, h => by
    unfold risingS at h
    rw [Bool.and_eq_true, ltCps_eq] at h
    have hp : byCs p x = true := by
      unfold byCs
      have h1 := h.1
      simp only [Bool.not_eq_true', decide_eq_false_iff_not] at h1
      rw [decide_eq_true_iff]
      exact List.not_lt.mp h1
    have ih := rise_up h.2
    refine List.pairwise_cons.mpr ⟨fun y hy => ?_, ih⟩
    rcases List.mem_cons.mp hy with rfl | hy
    · exact hp
    · exact byCs_trans p x y hp ((List.pairwise_cons.mp ih).1 y hy)
theorem sorted_up : ∀ {l : List Str}, sortedS l = true → l.Pairwise (fun a b => byCs a b = true)
  | [], _ => .nil
  | _ :: _, h => rise_up h
theorem sorted_one {xs ys : List Str} (p : xs.Perm ys) (h1 : sortedS xs = true) (h2 : sortedS ys = true) : xs = ys :=
  List.Perm.eq_of_pairwise (fun a b _ _ k1 k2 => byCs_anti a b k1 k2) (sorted_up h1) (sorted_up h2) p
theorem shaped_strsL {zs : List Str} (h : ∀ z ∈ zs, PyData.strOk z = true) : SeqAt.shaped (.list (zs.map PyData.str)) = true := by
  unfold SeqAt.shaped
  simp [PyData.canLay0, PyData.depth, lay_strs zs h, depth_strs]
/-- three tables that agree in their signs -/
structure Agree (t1 t2 : PTab) (t3 : STab) : Prop where
  sg : ∀ p ∈ t1, sgB p.1 = true
  nd : (t1.map (·.1)).Nodup
  l1 : t1.length ≤ 5
  pm : (t2.map (·.1)).Perm (t1.map (·.1))
  l3 : t3.length ≤ 20
  pr : ∀ p ∈ t3, p.1.1 ∈ t1.map (·.1) ∧ p.1.2 ∈ t1.map (·.1) ∧ p.1.1 ≠ p.1.2
theorem Agree.sg2 {t1 t2 : PTab} {t3 : STab} (a : Agree t1 t2 t3) : ∀ p ∈ t2, sgB p.1 = true := fun p hp => by
  obtain ⟨q, hq, e⟩ := List.mem_map.mp (a.pm.mem_iff.mp (List.mem_map.mpr ⟨p, hp, rfl⟩))
  rw [← e]
  exact a.sg q hq
theorem Agree.l2 {t1 t2 : PTab} {t3 : STab} (a : Agree t1 t2 t3) : t2.length ≤ 5 := by
  have := a.pm.length_eq
  rw [List.length_map, List.length_map] at this
  rw [this]
  exact a.l1
/-- they stand in the heap -/
structure Tabs (H : Hp) (p o s : Addr) (t1 t2 : PTab) (t3 : STab) : Prop where
  p : H p = some (.dK (kvsP t1))
  o : H o = some (.dK (kvsP t2))
  s : H s = some (.dT (kvsS t3))
theorem Tabs.same {H H' : Hp} {p o s : Addr} {t1 t2 : PTab} {t3 : STab} (h : Tabs H p o s t1 t2 t3) (k : Same H H') : Tabs H' p o s t1 t2 t3 := ⟨k _ _ h.p, k _ _ h.o, k _ _ h.s⟩
def rightB (t1 t2 : PTab) (t3 : STab) : Bool := okP t1 9 && (!t1.isEmpty && (okP t2 9 && okS t3 18))
def spAreT : Sp := fun vs H Q _ => ∃ (p o s : Addr) (t1 t2 : PTab) (t3 : STab), vs = [.ref p, .ref o, .ref s] ∧ Tabs H p o s t1 t2 t3 ∧ Agree t1 t2 t3 ∧ ∀ H', Same H H' → Q (.bl (rightB t1 t2 t3)) H'
section
variable {P : Program} {w : World} {K : PySem.W.Frag} {mg : Str → Option Value} {base : Heap}
theorem scAreT : FnScope ["put", "out", "swap", "signs", "pair"] ["put", "out", "swap"] (defScope sAreT) := ⟨rfl, rfl, rfl, by decide +kernel, rfl, by decide +kernel, by decide +kernel⟩
theorem ok_areT {f : Addr} {fd : FuncData} (F : Fun K "_are_tables" "_are_tables" sAreT f fd) (O : On mg) (N : Pn mg) (J : Cd P w K mg base 4 "_is_sign_table" ["value"] spIsST) (S : Cd P w K mg base 3 "_has_prices" ["value", "most"] spHasP) (R : Cd P w K mg base 1 "_is_pair" ["value", "signs"] spPair) : FnOk P w K mg base CX0 5 f fd ["put", "out", "swap"] spAreT := by
  obtain ⟨j, dj, G, gm, gk, gb⟩ := J.ex
  obtain ⟨c, dc, Gc, cm, ck, cb⟩ := S.ex
  obtain ⟨e, de, Ge, em, ek, eb⟩ := R.ex
  obtain ⟨tm, hm18⟩ := N.ms
  refine F.ok scAreT (fun vs H Q E h => ?_) (fun cdv A outer s H vs Q E hr h => ?_)
  · obtain ⟨p, o, s, t1, t2, t3, rfl, _⟩ := h
    rfl
  · obtain ⟨p, o, sw, t1, t2, t3, rfl, hT, ag, q⟩ := h
    have hu2 : A.units + 3 + 64 < cLine := by
      have h2 : A.units + 3 + 16 * 4 + 200 < cLine := hr.un
      omega
    refine ⟨_, pss_cons (ps_if (PW.pt (pw_or (pt_not (pt_val (pe_call G hr (by rfl) gm gk gb .nil pass0 (pa_cons (pv 0) pa_nil)))) (pw_or (pt_not (pt_val (pe_call G hr (by rfl) gm gk gb .nil pass0 (pa_cons (pv 1) pa_nil))))
        (pw_or1 (pt_cmpR (op_neD hu2) (pe_callB (call_sortedD rfl) (by rfl) O.sorted (by decide +kernel) (pa_cons (pv 0) pa_nil)) (pe_callB (call_sortedD rfl) (by rfl) O.sorted (by decide +kernel) (pa_cons (pv 1) pa_nil)) (nomark _)))))) (pss_one (ps_ret pe_bl)) pss_nil)
      (pss_cons (ps_if (pt_not (pt_val (pe_call Gc (hr.mono (by decide)) (by rfl) cm ck cb .nil pass0 (pa_cons (pv 2) (pa_cons (pe_glob (v := .int 18) (by rfl) hm18 ⟨_, rfl⟩) pa_nil))))) (pss_one (ps_ret pe_bl)) pss_nil)
      (pss_cons (ps_set (i := 3) scAreT.nd rfl (.inr rfl) (pe_callTy (cr_tupD rfl) (by rfl) O.tuple (by decide +kernel) (pa_cons (pv 0) pa_nil)))
      (pss_one (ps_ret (pe_callB (cr_all rfl) (by rfl) O.all (by decide +kernel) (pa_cons (pe_lock (pe_lc (own := [("pair", 4)]) (g := gName 4) (tt := tYes) rfl scAreT.nd (pi_keys (pv 2)) (blkOk_by (N := ["put", "out", "swap", "signs", "pair"]) (sc := defScope sAreT) (by decide +kernel))
          (fun _ _ _ _ _ => pg_name (i := 4) scAreT.nd rfl (Or.inl rfl)) (fun _ _ _ _ _ => pts_nil) (fun _ _ _ _ _ => pe_call Ge (hr.mono (by decide)) (by rfl) em ek eb .nil pass0 (pa_cons (pv 4) (pa_cons (pv 3) pa_nil))))) pa_nil)))))), ?_⟩
    unfold rightB at q
    refine ⟨_, rfl, p, t1, rfl, hT.p, ag.l1, ag.sg, fun H1 s1 => ⟨_, rfl, ?_⟩⟩
    cases e1 : okP t1 9 with
    | false =>
      rw [e1] at q
      exact iteT (q _ s1)
    | true =>
    rw [e1] at q
    cases e2 : t1.isEmpty with
    | true =>
      rw [e2] at q
      exact iteT (q _ s1)
    | false =>
    rw [e2] at q
    refine iteF ?_
    have hT1 := hT.same s1
    refine ⟨_, rfl, o, t2, rfl, hT1.o, ag.l2, ag.sg2, fun H2 s2 => ⟨_, rfl, ?_⟩⟩
    have s12 := Same.trans s1 s2
    have ne2 : t2.isEmpty = false := by
      have := ag.pm.length_eq
      rw [List.length_map, List.length_map] at this
      cases t2 with
      | nil =>
        cases t1 with
        | nil => cases e2
        | cons a l => simp at this
      | cons a l => rfl
    rw [ne2]
    cases e3 : okP t2 9 with
    | false =>
      rw [e3] at q
      exact iteT (q _ s12)
    | true =>
    rw [e3] at q
    have hT2 := hT.same s12
    refine iteF ⟨_, rfl, p, kvsP t1, t1.map (·.1), rfl, .inl hT2.p, kvsP_keys t1, by rw [List.length_map]; have := ag.l1; omega, fun xs a perm sa ha => ?_⟩
    have hoa : (upd H2 a (.lst (xs.map V.str))) o = some (.dK (kvsP t2)) := (Same.new ha) _ _ hT2.o
    refine ⟨_, rfl, o, kvsP t2, t2.map (·.1), rfl, .inl hoa, kvsP_keys t2, by rw [List.length_map]; have := ag.l2; omega, fun ys b perm2 sb hb => ?_⟩
    obtain rfl : ys = xs := sorted_one ((perm2.trans ag.pm).trans perm.symm) sb sa
    have zo : ∀ y ∈ ys, PyData.strOk y = true := fun y hy => by
      obtain ⟨r, hr1, e⟩ := List.mem_map.mp (perm.mem_iff.mp hy)
      rw [← e]
      exact sg_ok (ag.sg r hr1)
    have nab : a ≠ b := ne_of_none (upd_same : upd H2 a (.lst (ys.map V.str)) a = some _) hb
    refine ⟨.list (ys.map PyData.str), .list (ys.map PyData.str), .lst (SqL.of (by rw [upd_ne nab]; exact upd_same)) (dpAll_str ys), .lst (SqL.of upd_same) (dpAll_str ys), shaped_strsL zo, shaped_strsL zo, _, rfl, ?_⟩
    rw [SeqAt.eqv_refl _ (SeqAt.canLay_of_shaped (shaped_strsL zo))]
    have s3 : Same H (upd (upd H2 a (.lst (ys.map V.str))) b (.lst (ys.map V.str))) := Same.trans (Same.trans s12 (Same.new ha)) (Same.new hb)
    have hT3 := hT.same s3
    refine iteF ⟨_, rfl, sw, 18, t3.map (·.2), rfl, .inr ⟨t3, hT3.s, rfl⟩, by rw [List.length_map]; have := ag.l3; omega, fun H4 s4 => ⟨_, rfl, ?_⟩⟩
    have ea : ((t3.map (·.2)).all fun i => nwB i 1 18) = okS t3 18 := by
      unfold okS
      rw [List.all_map]
      rfl
    rw [ea]
    have s34 := Same.trans s3 s4
    cases e4 : okS t3 18 with
    | false =>
      rw [e4] at q
      exact iteT (q _ s34)
    | true =>
    rw [e4] at q
    have hT4 := hT.same s34
    refine iteF ⟨_, rfl, p, _, rfl, hT4.p, fun t ht => ?_⟩
    have ek : (kvsP t1).map (fun kv => kV kv.1) = (t1.map (·.1)).map V.str := by
      unfold kvsP
      rw [List.map_map, List.map_map]
      rfl
    have eT : upd H4 t (.tup ((kvsP t1).map fun kv => kV kv.1)) = upd H4 t (.tup ((t1.map (·.1)).map V.str)) := by rw [ek]
    rw [eT]
    have s5 : Same H (upd H4 t (.tup ((t1.map (·.1)).map V.str))) := Same.trans s34 (Same.new ht)
    have hT5 := hT.same s5
    have x5 : upd H4 t (.tup ((t1.map (·.1)).map V.str)) t = some (.tup ((t1.map (·.1)).map V.str)) := upd_same
    generalize upd H4 t (.tup ((t1.map (·.1)).map V.str)) = H5 at s5 hT5 x5 ⊢
    refine ⟨sw, _, hT5.s, trivial, fun od => ⟨_, rfl, sw, od, rfl, .inr ⟨kvsS t3, upd_same, fun D hD => ?_⟩⟩⟩
    obtain ⟨ne, h0, st⟩ := Bls.start hD
    have nts : t ≠ sw := fun e => by
      rw [e, hT5.s] at x5
      cases x5
    refine wk_any (walk_keysT (d := sw) (o := od) (kvs := kvsS t3)) (fun i H6 => Bls H5 H6 sw D (.frz od (.dT (kvsS t3))) (List.replicate i true)) st (fun i H6 _ h6 => h6.at_) ?_ ?_
    · rintro i x H6 H7 hi h6 ⟨rfl, k, v, qa, hx, rfl, hq⟩
      have hi2 : i < t3.length := by rwa [kvsS_len] at hi
      rw [kvsS_at hi2] at hx
      cases hx
      have hpr := ag.pr _ (List.getElem_mem hi2)
      refine ⟨rfl, _, rfl, _, rfl, qa, t, t3[i].1.1, t3[i].1.2, t1.map (·.1), rfl, hq, h6.but _ _ nts x5, _, h6.out, ?_, ?_⟩
      · rw [List.length_map, List.length_replicate]
        exact Nat.lt_of_lt_of_le (by have := ag.l3; omega : i < 4000) (by decide)
      · rw [decide_eq_true hpr.1, decide_eq_true hpr.2.1, decide_eq_true hpr.2.2, List.replicate_succ']
        exact h6.push ne h0 true
    · rintro H6 h6
      have ea2 : (List.replicate (kvsS t3).length true).all id = true := List.all_eq_true.mpr fun b hb => (List.mem_replicate.mp hb).2
      refine ⟨h6.at_, D, _, rfl, SqL.of (by rw [upd_ne ne]; exact h6.out), ?_⟩
      rw [ea2]
      exact q _ (Same.trans s5 (h6.done hT5.s))
end
end Mk

set_option Elab.async false
set_option linter.all false
set_option maxRecDepth 100000
set_option maxHeartbeats 4000000
/-! sorted(d) of a dict whose keys are pairs of texts -/
namespace Mk
open PySem PySem.Spec PyProof.Rows L2

abbrev enc2 (k : Str × Str) : PyData := .tuple [.str k.1, .str k.2]
def le2 (a b : Str × Str) : Bool := decide (a.1.cps.toList < b.1.cps.toList) || (decide (a.1 = b.1) && decide (a.2.cps.toList ≤ b.2.cps.toList))
theorem enc2_le : PySem.W.dataLe false enc2 = le2 := by
  funext a b
  show (!PySem.W.dataLt (enc2 b) (enc2 a)) = le2 a b
  unfold enc2 le2
  rw [PySem.W.dataLt_pair (by simp [PySem.W.alike]) (by simp [PySem.W.alike]), PySem.W.dataLt_str, PySem.W.dataLt_str]
  have inj : ∀ {x y : Str}, x.cps.toList = y.cps.toList → x = y := by
    rintro ⟨⟨x⟩⟩ ⟨⟨y⟩⟩ h
    have h : x = y := h
    rw [h]
  by_cases e1 : b.1 = a.1
  · have q1 : PyData.eqv (.str b.1) (.str a.1) = true := by simp [PyData.eqv, e1]
    rw [if_pos q1, e1]
    have n1 : ¬ (a.1.cps.toList < a.1.cps.toList) := List.lt_irrefl _
    rw [decide_eq_false n1]
    by_cases e2 : b.2 = a.2
    · have q2 : PyData.eqv (.str b.2) (.str a.2) = true := by simp [PyData.eqv, e2]
      rw [if_pos q2, e2]
      simp
    · have q2 : ¬ PyData.eqv (.str b.2) (.str a.2) = true := by simp [PyData.eqv, e2]
      rw [if_neg q2]
      rw [Bool.eq_iff_iff]
      simp
  · have q1 : ¬ PyData.eqv (.str b.1) (.str a.1) = true := by simp [PyData.eqv, e1]
    rw [if_neg q1, decide_eq_false (fun h => e1 h.symm : ¬ a.1 = b.1)]
    rw [Bool.eq_iff_iff]
    simp
    constructor
    · intro h
      rcases Classical.em (a.1.cps.toList < b.1.cps.toList) with k | k
      · exact k
      · exact absurd (inj (List.le_antisymm h (List.not_lt.mp k))) (fun e => e1 e.symm)
    · intro h
      exact List.le_of_lt h
/-- the tuples at qs are the pairs ks -/
abbrev Pairs (H : Hp) (qs : List Addr) (ks : List (Str × Str)) : Prop := Paired (fun (q : Addr) (k : Str × Str) => H q = some (.tup [.str k.1, .str k.2])) qs ks
abbrev keyOf (k : Str × Str) : List Key := [Sum.inr k.1, Sum.inr k.2]
def rSortT2 : List V → Hp → VK → Prop := fun vs H Q => ∃ (d : Addr) (kvs : List (List Key × V)) (ks : List (Str × Str)), vs = [.ref d] ∧ Rd H d (.dT kvs) ∧ kvs.map (·.1) = ks.map keyOf ∧ ks.length ≤ 100 ∧
  ∀ (p : Addr) (qs : List Addr), H p = none → Pairs H qs (ks.mergeSort le2) → Q (.ref p) (upd H p (.lst (qs.map V.ref)))
/-- a value that is such a pair -/
def IsPr (H : Hp) (v : Value) (k : Str × Str) : Prop := ∃ q : Addr, v = .ref q ∧ H q = some (.tup [.str k.1, .str k.2])
theorem prs_of {H : Hp} : ∀ {kvs : List (List Key × V)} {xs : List (List Key × Addr × Value)} {ks : List (Str × Str)}, KT H kvs xs → kvs.map (·.1) = ks.map keyOf → PySem.W.EachIs (IsPr H) ((xs.map fun x => x.2.1).map Value.ref) ks
  | _, _, [], .nil, _ => .nil
  | _, _, _ :: _, .nil, h => nomatch h
  | _, _, [], .cons _ _, h => nomatch h
  | p :: kvs, x :: xs, k :: ks, .cons r t, h => by
    rw [List.map_cons, List.map_cons] at h
    injection h with h1 h2
    refine .cons ⟨_, rfl, ?_⟩ (prs_of t h2)
    rw [r.2.1, h1]
    rfl
theorem prs_pairs {H : Hp} : ∀ {out : List Value} {ks : List (Str × Str)}, PySem.W.EachIs (IsPr H) out ks → ∃ qs : List Addr, out = qs.map Value.ref ∧ Pairs H qs ks
  | _, _, .nil => ⟨[], rfl, .nil⟩
  | _, _, .cons ⟨q, e, h⟩ t => by
    obtain ⟨qs, e2, h2⟩ := prs_pairs t
    exact ⟨q :: qs, by rw [e, e2]; rfl, .cons h h2⟩
theorem each_mono2 {α β : Type} {R R' : α → β → Prop} (h : ∀ a b, R a b → R' a b) : ∀ {as : List α} {bs : List β}, PySem.W.EachIs R as bs → PySem.W.EachIs R' as bs
  | _, _, .nil => .nil
  | _, _, .cons r t => .cons (h _ _ r) (each_mono2 h t)
section
variable {X : Cx}
theorem cr_sortT2 (hc : X.calm = true) (hu : X.A.units + 60 < cLine) : CallR X (.builtin "sorted") rSortT2 := by
  intro pins s σ H xs us Q I r h
  obtain ⟨d, kvs, ks, rfl, hd, hks, hl, q⟩ := h
  obtain ⟨u, rfl, rx⟩ := r.one
  cases rx
  obtain ⟨z, hs, es', pr, o, es, ep, ho, hx, hdt, he, hn⟩ := (show ObjOk X.prog X.w H s.heap d (.dT kvs) from hd.ok I.hok)
  have l1 : es.size = es'.length := size_of_entries he
  have l2 : kvs.length = es'.length := Paired.length pr
  have l3 : kvs.length = ks.length := by
    have := congrArg List.length hks
    rwa [List.length_map, List.length_map] at this
  have lim : 100 ≤ sizeLine := by decide
  refine Calls.call_function_entry kind_sorted plain_sorted entry_sorted (args_sorted1 _) ?_
  unfold Builtin.«sorted»
  refine wpAny_bind (m := checkCount "sorted" 1 1 _) (wpAny_pure ?_)
  refine wpAny_bind (PySem.W.kdu_collect (A := X.A.in1) (kdl_raw hs hx hdt) (I.ok.hd hc) ho (by omega) fun h' tk acc kp it => ?_)
  have ea : acc.toList = (es'.map fun x => x.2.1).map Value.ref := by
    have hl : acc.toList.length = es'.length := by rw [Array.length_toList, it.1]; exact l1
    refine List.ext_getElem (by rw [hl, List.length_map, List.length_map]) fun j h1 h2 => ?_
    have hj : j < es'.length := by omega
    obtain ⟨en, hen, hv⟩ := it.2 j acc.toList[j] (by rw [← Array.getElem?_toList]; exact List.getElem?_eq_getElem h1)
    have qe := entry_at he j
    rw [hen, List.getElem?_eq_getElem hj] at qe
    rw [hv, Option.some.inj qe, List.getElem_map, List.getElem_map]
    rfl
  have ev : PySem.W.EachIs (IsPr H) acc.toList ks := by
    rw [ea]
    exact prs_of pr hks
  have lv : acc.toList.length = ks.length := by
    rw [ea, List.length_map, List.length_map]
    omega
  have I1 : Inv X pins σ H { s with heap := h', toks := tk } := I.kept kp
  refine wpAny_bind (wpAny_newList ?_ (by rw [lv]; omega))
  have at0 : (h'.push (seqObj "list" acc.toList.toArray 0)).get? h'.objs.size = some (seqObj "list" acc.toList.toArray 0) := Heap.get?_push_size _ rfl
  have I2 : Inv X pins σ H { s with heap := h'.push (seqObj "list" acc.toList.toArray 0), toks := tk } := I.kept fun b ob e => Heap.get?_push_of_some _ (kp b ob e)
  have rd : ∀ v k, IsPr H v k → ∃ as, Reads (h'.push (seqObj "list" acc.toList.toArray 0)) v (enc2 k) as ∧ h'.objs.size ∉ as := by
    rintro v k ⟨a, rfl, ha⟩
    obtain ⟨its, rv, ⟨ob, e1, e2, n, e3⟩, _⟩ := I2.tuple (SqT.of ha)
    cases rv with
    | cons r1 t1 =>
      obtain ⟨k1, rfl⟩ := r1
      cases t1 with
      | cons r2 t2 =>
        obtain ⟨k2, rfl⟩ := r2
        cases t2
        exact ⟨_, .tuple e1 e2 e3 (.cons (.str _ _) (.cons (.str _ _) .nil)), fun z => nomatch z⟩
  refine wpAny_bind (wpAny_holding (PySem.W.list_sort_data (s := { s with heap := h'.push (seqObj "list" acc.toList.toArray 0), toks := tk }) (enc := enc2) at0 ev (each_mono2 rd ev)
    (PySem.W.AllAlike.of fun _ _ => by simp [PySem.W.alike, PySem.W.alikeAll]) (PySem.W.Sortable.tuples fun k => ⟨_, _, rfl⟩) (by omega) (fun k _ => ?_) fun out lo eo => ?_))
  · show X.A.units + 1 + 1 + (enc2 k).depth < cLine
    have : (enc2 k).depth ≤ 2 := by simp [enc2, PyData.depth, PyData.depthAll]
    omega
  rw [enc2_le] at eo
  obtain ⟨qs, rfl, hq⟩ := prs_pairs eo
  obtain ⟨c, hcc⟩ := sortedHeap_at (vs := acc.toList) (out := (qs.map Value.ref).toArray) at0
  have lq : qs.length = ks.length := by rw [← lo, List.length_map]
  refine wpAny_pure ⟨_, rfl, .ref h'.objs.size, upd H h'.objs.size (.lst (qs.map V.ref)), I1.laid (t' := tk) (o := .lst (qs.map V.ref)) (fun b u e => ?_) (Nat.le_refl _) ⟨by rw [List.length_map]; omega, _, c, vals_refs qs, hcc⟩, rfl, q _ qs (I1.hok.fresh (Nat.le_refl _)) hq⟩
  have lt := Heap.lt_size e
  rw [sortedHeap_old (Nat.ne_of_lt lt) (by rw [size_push']; exact Nat.lt_succ_of_lt lt)]
  exact Heap.get?_push_of_some _ e
end
end Mk

set_option Elab.async false
set_option linter.all false
set_option maxRecDepth 100000
set_option maxHeartbeats 4000000
/-! dict comprehensions, whatever the keys are: told by what a store into the new dict wants -/
namespace Mk
open PySem PySem.Spec PyProof.Rows L2

/-- what a store of z under y into the dict at D wants: the heap behind it is in C -/
abbrev PutK := Addr → V → V → Hp → (Hp → Prop) → Prop
/-- such a store is made by the dict's own step -/
structure PutOk (P : Program) (w : World) (E0 : HO) (Put : PutK) : Prop where
  start : ∀ (H : Hp) (h : Heap), sysModules < h.objs.size → ObjOk P w H (h.push { cls := .type "dict", data := .dict #[] }) h.objs.size E0
  store : ∀ (Y : Cx), Y.prog = P → Y.w = w → Y.calm = true → Y.A.units + 1 < cLine → ∀ (pins : List (Addr × Obj)) (σ : L2.St) (H : Hp) (s : Shared) (D : Addr) (y z : V) (u r : Value) (C : Hp → Prop) (Q : Unit → Shared → Prop) (E : Value → Shared → Prop),
    Inv Y pins σ H s → RelV y u → RelV z r → Put D y z H C → (∀ H' s', C H' → Inv Y pins σ H' s' → Q () s') → wpAny (model P w) Y.A (dictSet D u r) Q E s
/-- one turn of the comprehension behind the walk's step -/
def turnG (Put : PutK) (g : TG) (tt : TT) (tk tv : TE) (vs : List Nat) (σ : L2.St) (D : Addr) (x : V) (H : Hp) (Nx : Hp → Prop) : Prop :=
  g x (wipe σ vs) H fun σ2 H2 => wipe σ2 vs = wipe σ vs ∧ tt σ2 H2 fun b H3 => if b = true then tk σ2 H3 fun y H4 => tv σ2 H4 fun z H5 => Put D y z H5 Nx else Nx H3
def tDcG (E0 : HO) (Put : PutK) (wi : TI) (g : TG) (tt : TT) (tk tv : TE) (vs : List Nat) : TE := fun σ H Q => wi σ H fun J H1 => ∀ D, H1 D = none → ∃ W : Nat → Nat → Hp → Prop, (∃ m, W 0 m (upd H1 D E0)) ∧
  ∀ i m H, W i m H → (J.stop i H ∧ Q (.ref D) H) ∨ (J.go i H ∧ ∃ Nx : Hp → Prop, (∀ H', Nx H' → ∃ m', m' < m ∧ W (i + 1) m' H') ∧ ∀ x H', J.yld i H x H' → turnG Put g tt tk tv vs σ D x H' Nx)
section
variable {X : Cx}
/-- the block's context stands: its own things are its own -/
theorem blk_own {s0 : Shared} {H0 : Hp} {scope : Scope} {ce : Env} {fp : List Addr} {σ : L2.St} {H : Hp} {s : Shared} (I : Inv (X.blk s0 H0 scope ce fp) [] σ H s) (hn : ∀ b ∈ fp, H b = none) : ∀ b ∈ fp, FpOk (X.blk s0 H0 scope ce fp) [] H b := by
  intro b hb
  have ⟨e1, e2⟩ := I.ok.exf b hb
  refine ⟨hn b hb, e1, I.ok.exfs b hb, Or.inl hb, fun x c e => e2 x c e, fun p hp => ?_⟩
  cases hp
/-- one turn, in the block's context -/
theorem turn_blk {E0 : HO} {Put : PutK} (K : PutOk X.prog X.w E0 Put) {kx vx tg : Expr} {ifs : List Expr} {g : TG} {tt : TT} {tk tv : TE} {vs : List Nat} {σ : L2.St} {D : Addr} {s0 : Shared} {H0 : Hp} {scope : Scope} {ce : Env} {fp : List Addr} {tn : Nat → Heap → Prop} {J : It} {it : Addr}
    (cm : X.calm = true) (un : (X.blk s0 H0 scope ce fp).A.units + 1 < cLine) (T : Turn X.prog X.w X.K tg J fp it tn) (pg : PG (X.blk s0 H0 scope ce fp) tg g) (pt : PTs (X.blk s0 H0 scope ce fp) ifs tt) (pk : PE (X.blk s0 H0 scope ce fp) kx tk) (pe : PE (X.blk s0 H0 scope ce fp) vx tv)
    {i : Nat} {s : Shared} {H : Hp} {Nx : Hp → Prop} {Goal : Shared → Prop} {E : Value → Shared → Prop} (I : Inv (X.blk s0 H0 scope ce fp) [] (wipe σ vs) H s) (nf : ∀ b ∈ fp, H b = none) (st : tn (i + 1) s.heap) {x : V} {u : Value} (rx : RelV x u)
    (step : turnG Put g tt tk tv vs σ D x H Nx) (hE : ∀ e s', (X.blk s0 H0 scope ce fp).xe e s' → E e s')
    (fin : ∀ H' s', Nx H' → Inv (X.blk s0 H0 scope ce fp) [] (wipe σ vs) H' s' → tn (i + 1) s'.heap → (∀ b ∈ fp, H' b = none) → Goal s') :
    wpAny (model X.prog X.w) (X.blk s0 H0 scope ce fp).A (assign tg (X.blk s0 H0 scope ce fp).env u) (fun _ s2 => wpAny (model X.prog X.w) (X.blk s0 H0 scope ce fp).A (forIn ifs true fun c r => if r = true then do let ok ← isTrue c (X.blk s0 H0 scope ce fp).env (eval c (X.blk s0 H0 scope ce fp).env); pure (ForInStep.yield ok) else pure (ForInStep.yield r))
      (fun ok s3 => if ok = true then wpAny (model X.prog X.w) (X.blk s0 H0 scope ce fp).A (eval kx (X.blk s0 H0 scope ce fp).env) (fun kv s4 => wpAny (model X.prog X.w) (X.blk s0 H0 scope ce fp).A (eval vx (X.blk s0 H0 scope ce fp).env) (fun vv s5 =>
          wpAny (model X.prog X.w) (X.blk s0 H0 scope ce fp).A (dictSet D kv vv) (fun _ s6 => Goal s6) E s5) E s4) E s3 else Goal s3) E s2) E s := by
  have objs := T.obj _ _ st
  have Ip := I.pinned (blk_own I nf) objs
  -- the walk's own things are held fast while the target is set and the two expressions run
  have back : ∀ {σ8 : L2.St} {H' : Hp} {s' : Shared}, wipe σ8 vs = wipe σ vs → Inv (X.blk s0 H0 scope ce fp) ([] ++ pinsAt fp s.heap) σ8 H' s' → Nx H' → Goal s' := by
    intro σ8 H' s' hw I' nx
    have held : ∀ b ∈ fp, ∀ o, s.heap.get? b = some o → s'.heap.get? b = some o ∧ H' b = none := fun b hb o e => by
      have z := I'.pin (b, o) (List.mem_append_right _ (List.mem_append_right _ (mem_pinsAt hb e)))
      exact ⟨z.1, z.2.1⟩
    refine fin H' s' nx ((I'.unpinned (pins := [])).weak ?_ fun j v e => ?_) (T.keep _ _ _ st fun b hb o e => (held b hb o e).1) fun b hb => ?_
    · rw [← hw, wipe_length]
    · rw [← hw] at e
      exact (wipe_some e).1
    · have ⟨o, e, _⟩ := objs b hb
      exact (held b hb o e).2
  refine wpAny_mono (pg.run _ s _ H x u _ Ip rx step) (fun _ s2 z => ?_) hE
  obtain ⟨σ2, H2, I2, hw, q2⟩ := z
  refine wpAny_mono (pt.run _ s2 σ2 H2 _ I2 q2) (fun ok s3 z => ?_) hE
  obtain ⟨H3, I3, q3⟩ := z
  by_cases c : ok = true
  · rw [if_pos c] at q3 ⊢
    refine wpAny_mono (pk.run _ s3 σ2 H3 _ I3 q3) (fun kv s4 z => ?_) hE
    obtain ⟨y, H4, I4, ry, q4⟩ := z
    refine wpAny_mono (pe.run _ s4 σ2 H4 _ I4 q4) (fun vv s5 z => ?_) hE
    obtain ⟨z, H5, I5, rz, q5⟩ := z
    exact K.store (X.blk s0 H0 scope ce fp) rfl rfl cm un _ σ2 H5 s5 D y z kv vv Nx _ E I5 ry rz q5 fun H6 s6 nx I6 => back hw I6 nx
  · rw [if_neg c] at q3 ⊢
    exact back hw I3 q3
/-- the block's loop -/
theorem loop_blk {E0 : HO} {Put : PutK} (K : PutOk X.prog X.w E0 Put) {kx vx tg iter : Expr} {ifs : List Expr} {scope sc2 : Scope} {pos : Pos} {g : TG} {tt : TT} {tk tv : TE} {vs : List Nat} {σ : L2.St} {D : Addr} {s0 : Shared} {H0 : Hp} {ce : Env} {fp : List Addr} {tn : Nat → Heap → Prop} {J : It} {it : Addr} {Qd : Hp → Prop} {R : Result → Shared → Prop}
    (cm : X.calm = true) (un : (X.blk s0 H0 scope ce fp).A.units + 1 < cLine) (T : Turn X.prog X.w X.K tg J fp it tn) (pg : PG (X.blk s0 H0 scope ce fp) tg g) (pt : PTs (X.blk s0 H0 scope ce fp) ifs tt) (pk : PE (X.blk s0 H0 scope ce fp) kx tk) (pe : PE (X.blk s0 H0 scope ce fp) vx tv)
    {W : Nat → Nat → Hp → Prop} (turn : ∀ i m H, W i m H → (J.stop i H ∧ Qd H) ∨ (J.go i H ∧ ∃ Nx : Hp → Prop, (∀ H', Nx H' → ∃ m', m' < m ∧ W (i + 1) m' H') ∧ ∀ x H', J.yld i H x H' → turnG Put g tt tk tv vs σ D x H' Nx))
    (hE : ∀ e s', (X.blk s0 H0 scope ce fp).xe e s' → notedBy (model X.prog X.w) (X.blk s0 H0 scope ce fp).A (X.blk s0 H0 scope ce fp).env (fun e s' => R (.error e) s') e s')
    (hR : ∀ s' H', Inv (X.blk s0 H0 scope ce fp) [] (wipe σ vs) H' s' → (∀ b ∈ fp, H' b = none) → Qd H' → R (.ok .next) s')
    {m0 : Nat} {s : Shared} {H : Hp} (I : Inv (X.blk s0 H0 scope ce fp) [] (wipe σ vs) H s) (st : tn 0 s.heap) (nf : ∀ b ∈ fp, H b = none) (w0 : W 0 m0 H) :
    codeAny (model X.prog X.w) (X.blk s0 H0 scope ce fp).A (.compLoop (.DictComp kx vx [⟨tg, iter, ifs, 0⟩] sc2 pos) 0 (.ref it) (.ref D) (X.blk s0 H0 scope ce fp).env) R s := by
  refine compLoop_anyD (fun m s' => ∃ i H', Inv (X.blk s0 H0 scope ce fp) [] (wipe σ vs) H' s' ∧ tn i s'.heap ∧ (∀ b ∈ fp, H' b = none) ∧ W i m H') ?_ m0 ⟨0, H, I, st, nf, w0⟩
  rintro m s5 ⟨i, H5, I5, st5, n5, w5⟩
  rcases turn i m H5 w5 with ⟨stop, qd⟩ | ⟨go, Nx, less, step⟩
  · have e := T.done (X.blk s0 H0 scope ce fp) rfl rfl rfl cm i [] s5 _ H5 (fun _ _ => False) I5 (blk_own I5 n5) st5 stop
    refine wpAny_mono e (fun r s6 z => ?_) fun _ _ z => z.elim
    obtain ⟨rfl, I6⟩ := z
    exact hR s6 H5 I6 n5 qd
  · have e := T.item (X.blk s0 H0 scope ce fp) rfl rfl rfl cm i [] s5 _ H5 (fun _ _ => False) I5 (blk_own I5 n5) st5 go
    refine wpAny_mono e (fun r s6 z => ?_) fun _ _ z => z.elim
    obtain ⟨u, rfl, z⟩ := z
    refine wpAny_mono z (fun _ s7 z => ?_) fun _ _ z => z.elim
    obtain ⟨x, H7, I7, rx, y7, st7, n7⟩ := z
    refine turn_blk K cm un T pg pt pk pe I7 n7 st7 rx (step x H7 y7) hE fun H' s' nx I' st' n' => ?_
    obtain ⟨m', lt, w'⟩ := less H' nx
    exact ⟨m', lt, i + 1, H', I', st', n', w'⟩
/-- the whole comprehension, as a value -/
theorem pe_dcG {E0 : HO} {Put : PutK} (K : PutOk X.prog X.w E0 Put) {kx vx tg iter : Expr} {ifs : List Expr} {scope : Scope} {own : List (Str × Nat)} {pos : Pos} {wi : TI} {g : TG} {tt : TT} {tk tv : TE} (cm : X.calm = true) (nd : X.N.Nodup) (un : X.A.units + 20 < cLine) (hi : PI X tg iter wi) (ok : BlkOk X.N X.env.scope scope own)
    (hg : ∀ s H C cl fr, PG (X.blk s H scope (compEnvC scope cl C X.env) fr) tg g) (ht : ∀ s H C cl fr, PTs (X.blk s H scope (compEnvC scope cl C X.env) fr) ifs tt) (hk : ∀ s H C cl fr, PE (X.blk s H scope (compEnvC scope cl C X.env) fr) kx tk) (hv : ∀ s H C cl fr, PE (X.blk s H scope (compEnvC scope cl C X.env) fr) vx tv)
    (fs : ∀ x, foldedSetIterable iter X.env x = pure x := by intro _; rfl) : PE X (.DictComp kx vx [⟨tg, iter, ifs, 0⟩] scope pos) (tDcG E0 Put wi g tt tk tv (own.map (·.2))) := by
  refine ⟨fun pins s σ H Q I h => ?_⟩
  rw [arm_eval_DictComp]
  have cl : ∀ y ∈ scope.names, y.2 = .free → ∃ c, X.env.cells.lookup y.1 = some c := fun y hy e => I.ok.has _ ((ok.free y hy e).elim .inl .inr)
  refine wpAny_comprehension_free rfl fs (closure_ok cl) ok.kind (fun y hy e => by rw [ok.uniq y hy, e]) (thn (hi.run pins s σ H _ I h) fun xv s1 z1 => thn z1 fun itv s2 z2 => ?_)
  obtain ⟨it, fp, tn, J, H2, rfl, I2, T, st2, f2, q⟩ := z2
  refine wpAny_newObj_type (newEnv_comp ?_)
  obtain ⟨W, ⟨m0, w0⟩, turn⟩ := q s2.heap.objs.size (I2.hok.fresh (Nat.le_refl _))
  have I3 : Inv X pins σ (upd H2 s2.heap.objs.size E0) { s2 with heap := s2.heap.push { cls := .type "dict", data := .dict #[] } } :=
    I2.laid (t' := s2.toks) (fun b o e => Heap.get?_push_of_some _ e) (Nat.le_refl _) (K.start _ _ I2.big)
  have old : ∀ b ∈ fp, b < s2.heap.objs.size := fun b hb => have ⟨_, e, _⟩ := T.obj _ _ st2 b hb; Heap.lt_size e
  have f3 : ∀ b ∈ fp, FpOk X pins (upd H2 s2.heap.objs.size E0) b ∧ b < (s2.heap.push { cls := .type "dict", data := .dict #[] }).objs.size := fun b hb =>
    ⟨⟨by rw [upd_ne (Nat.ne_of_lt (old b hb))]; exact (f2 b hb).1, (f2 b hb).2⟩, by rw [Heap.size_push]; exact Nat.lt_succ_of_lt (old b hb)⟩
  have I4 := block_start I3 ok nd f3
  have nfp : ∀ b ∈ fp, upd H2 s2.heap.objs.size E0 b = none := fun b hb => (f3 b hb).1.1
  have st4 := T.keep 0 _ (pushCells ((s2.heap.push { cls := .type "dict", data := .dict #[] }).push { cls := .type "dict", data := .dict #[] }) scope.names) st2 fun b _ o e => pushCells_keeps _ _ _ _ (Heap.get?_push_of_some _ (Heap.get?_push_of_some _ e))
  have pg := hg { s2 with heap := s2.heap.push { cls := .type "dict", data := .dict #[] } } (upd H2 s2.heap.objs.size E0) (s2.heap.push { cls := .type "dict", data := .dict #[] }).objs.size (cellsFrom ((s2.heap.push { cls := .type "dict", data := .dict #[] }).objs.size + 1) scope.names (cloFrom X.env.cells scope.names [])) fp
  have pt := ht { s2 with heap := s2.heap.push { cls := .type "dict", data := .dict #[] } } (upd H2 s2.heap.objs.size E0) (s2.heap.push { cls := .type "dict", data := .dict #[] }).objs.size (cellsFrom ((s2.heap.push { cls := .type "dict", data := .dict #[] }).objs.size + 1) scope.names (cloFrom X.env.cells scope.names [])) fp
  have pk := hk { s2 with heap := s2.heap.push { cls := .type "dict", data := .dict #[] } } (upd H2 s2.heap.objs.size E0) (s2.heap.push { cls := .type "dict", data := .dict #[] }).objs.size (cellsFrom ((s2.heap.push { cls := .type "dict", data := .dict #[] }).objs.size + 1) scope.names (cloFrom X.env.cells scope.names [])) fp
  have pw := hv { s2 with heap := s2.heap.push { cls := .type "dict", data := .dict #[] } } (upd H2 s2.heap.objs.size E0) (s2.heap.push { cls := .type "dict", data := .dict #[] }).objs.size (cellsFrom ((s2.heap.push { cls := .type "dict", data := .dict #[] }).objs.size + 1) scope.names (cloFrom X.env.cells scope.names [])) fp
  have loop := loop_blk (kx := kx) (vx := vx) (iter := iter) (sc2 := scope) (pos := pos) (R := compPost (model X.prog X.w) X.A X.xe none (EP X pins σ Q) (.ref s2.heap.objs.size) (s2.heap.push { cls := .type "dict", data := .dict #[] }).objs.size)
    K cm (by show X.A.units + 1 < cLine; omega) T pg pt pk pw turn (fun _ _ z => False.elim z) (fun s6 H6 I6 n6 qd => ?_) I4 st4 nfp w0
  · exact codeAny_compStart_dict loop (T.self X.A 0 _ _ _ st4 loop)
  · have I7 : Inv X pins σ H6 s6 := I3.call' (ch := fp) I6.os I6.base I6.hok I6.bare fun b hb => by
      have ⟨_, e2, e3, e4, e5, e6⟩ := (f3 b hb).1
      exact ⟨e4, e2, e5, e6⟩
    obtain ⟨m, hn, _⟩ := I6.loc
    have nC : H6 (s2.heap.push { cls := .type "dict", data := .dict #[] }).objs.size = none := I6.free
    obtain ⟨e0, e1, e2, e3, e4, e5⟩ := I3.fpOk (Nat.le_refl _) nC
    exact ⟨m, hn, fun h'' sb => ⟨.ref s2.heap.objs.size, H6, I7.turned (t' := s6.toks) (fun b o hb e => (sb.2 b hb).trans e) e0 e1 e3 e4 e5, rfl, qd⟩⟩
end
/-- keys that are tuples of ints and texts -/
def putT : PutK := fun D y z H C => ∃ (kvs : List (List Key × V)) (k : List Key) (b : Addr), y = .ref b ∧ H b = some (.tup (k.map kV)) ∧ H D = some (.dT kvs) ∧ kvs.length < sizeLine ∧ C (upd H D (.dT (L2.putK kvs k z)))
/-- keys that are ints and texts -/
def putP : PutK := fun D y z H C => ∃ (kvs : List (Key × V)) (k : Key), y = kV k ∧ H D = some (.dK kvs) ∧ kvs.length < sizeLine ∧ C (upd H D (.dK (L2.putK kvs k z)))
theorem putP_ok {P : Program} {w : World} : PutOk P w (.dK []) putP where
  start := fun H h big => dk_empty h big
  store := by
    intro Y hP hw cm hu pins σ H s D y z u r C Q E I ry rz st fin
    subst hP hw
    obtain ⟨kvs, k, rfl, hD, hl, hC⟩ := st
    exact d_dictSet I hD hl ry rz fun s' J => fin _ s' hC J
theorem putT_ok {P : Program} {w : World} : PutOk P w (.dT []) putT where
  start := fun H h big => dt_empty h big
  store := by
    intro Y hP hw cm hu pins σ H s D y z u r C Q E I ry rz st fin
    subst hP hw
    obtain ⟨kvs, k, b, rfl, hb, hD, hl, hC⟩ := st
    obtain rfl : u = Value.ref b := ry
    have ⟨lo, hs, xs, rel, dd⟩ := dt_of I.hok hD
    have lx : xs.length ≤ sizeLine := by rw [← Paired.length rel]; exact lo
    have ln : (L2.putK kvs k z).length ≤ sizeLine := Nat.le_trans (length_putK kvs k z) hl
    refine wpAny_dictSet_heap (hsz := lx) (show (tupleKind (mixKind Y.prog Y.w)).room Y.A from Nat.lt_of_succ_lt hu) (key_of I.hok hb) dd fun h' dd' ext => fin _ _ hC ?_
    have ⟨o, es, ep, ho, h2, h3, h4, _, h5⟩ := dd'
    have rel2 := (rel.put k hb rz).keeps (H' := upd H D (.dT (L2.putK kvs k z))) fun c ys ec => by
      have ne : c ≠ D := fun e => by
        rw [e, hD] at ec
        cases ec
      rw [upd_ne ne]
      exact ec
    exact d_write I (by rw [hD]; exact True.intro) ext ⟨o, ho⟩ ⟨ln, hs, _, rel2, o, es, ep, ho, h2, h3, h4, h5⟩
end Mk

set_option Elab.async false
set_option linter.all false
set_option maxRecDepth 100000
set_option maxHeartbeats 4000000
namespace Mk
open PySem PySem.Spec L2 PyProof.Rows

abbrev sAsc : Stmt := top 13
/-! ### a table in another order -/
section
variable {α : Type} [DecidableEq α]
def look (t : List (α × Int)) (k : α) : Int := ((t.find? fun p => decide (p.1 = k)).map (·.2)).getD 0
theorem look_mem : ∀ {t : List (α × Int)}, (t.map (·.1)).Nodup → ∀ p ∈ t, look t p.1 = p.2
  | [], _, _, h => nomatch h
  | a :: t, nd, p, h => by
    rw [List.map_cons, List.nodup_cons] at nd
    unfold look
    by_cases e : a.1 = p.1
    · rw [List.find?_cons_of_pos (by simpa using e)]
      rcases List.mem_cons.mp h with rfl | m
      · rfl
      · exact absurd (List.mem_map.mpr ⟨p, m, e.symm⟩) nd.1
    · rw [List.find?_cons_of_neg (by simpa using e)]
      rcases List.mem_cons.mp h with rfl | m
      · exact absurd rfl e
      · exact look_mem nd.2 p m
def put (t : List (α × Int)) (ys : List α) : List (α × Int) := ys.map fun k => (k, look t k)
theorem put_perm {t : List (α × Int)} (nd : (t.map (·.1)).Nodup) {ys : List α} (p : ys.Perm (t.map (·.1))) : (put t ys).Perm t := by
  have e : (t.map (·.1)).map (fun k => (k, look t k)) = t := by
    rw [List.map_map]
    conv => rhs; rw [← List.map_id t]
    exact List.map_congr_left fun q hq => by
      show (q.1, look t q.1) = q
      rw [look_mem nd q hq]
  have := p.map fun k => (k, look t k)
  rw [e] at this
  exact this
theorem put_keys (t : List (α × Int)) (ys : List α) : (put t ys).map (·.1) = ys := by
  unfold put
  rw [List.map_map]
  conv => rhs; rw [← List.map_id ys]
  rfl
end
theorem valP {t : PTab} {k : Str} (h : k ∈ t.map (·.1)) : valV (kvsP t) (Sum.inr k) = some (V.int (look t k)) := by
  induction t with
  | nil => exact nomatch h
  | cons a t ih =>
    unfold look
    by_cases e : a.1 = k
    · rw [List.find?_cons_of_pos (by simpa using e)]
      exact valV_pos (by show (Sum.inr a.1 : Key) = Sum.inr k; rw [e])
    · rw [List.find?_cons_of_neg (by simpa using e)]
      have ne : ¬ (Sum.inr a.1 : Key) = Sum.inr k := fun q => e (Sum.inr.inj q)
      refine (valV_neg ne).trans (ih ?_)
      rcases List.mem_cons.mp (by rw [List.map_cons] at h; exact h) with q | q
      · exact absurd q.symm e
      · exact q
theorem noP {t : PTab} {k : Str} (h : k ∉ t.map (·.1)) : valV (kvsP t) (Sum.inr k) = none := by
  induction t with
  | nil => rfl
  | cons a t ih =>
    rw [List.map_cons, List.mem_cons, not_or] at h
    have ne : ¬ (Sum.inr a.1 : Key) = Sum.inr k := fun q => h.1 (Sum.inr.inj q).symm
    exact (valV_neg ne).trans (ih h.2)
theorem key_inj {a b : Str × Str} (h : keyOf a = keyOf b) : a = b := by
  obtain ⟨a1, a2⟩ := a
  obtain ⟨b1, b2⟩ := b
  injection h with h1 h2
  injection h2 with h2 _
  have e1 : a1 = b1 := Sum.inr.inj h1
  have e2 : a2 = b2 := Sum.inr.inj h2
  rw [e1, e2]
theorem valS {t : STab} {k : Str × Str} (h : k ∈ t.map (·.1)) : valV (kvsS t) (keyOf k) = some (V.int (look t k)) := by
  induction t with
  | nil => exact nomatch h
  | cons a t ih =>
    unfold look
    by_cases e : a.1 = k
    · rw [List.find?_cons_of_pos (by simpa using e)]
      exact valV_pos (by show keyOf a.1 = keyOf k; rw [e])
    · rw [List.find?_cons_of_neg (by simpa using e)]
      have ne : ¬ keyOf a.1 = keyOf k := fun q => e (key_inj q)
      refine (valV_neg ne).trans (ih ?_)
      rcases List.mem_cons.mp (by rw [List.map_cons] at h; exact h) with q | q
      · exact absurd q.symm e
      · exact q
theorem noS {t : STab} {k : Str × Str} (h : k ∉ t.map (·.1)) : valV (kvsS t) (keyOf k) = none := by
  induction t with
  | nil => rfl
  | cons a t ih =>
    rw [List.map_cons, List.mem_cons, not_or] at h
    have ne : ¬ keyOf a.1 = keyOf k := fun q => h.1 (key_inj q).symm
    exact (valV_neg ne).trans (ih h.2)
theorem putP_new {t : PTab} {k : Str} {n : Int} (h : k ∉ t.map (·.1)) : L2.putK (kvsP t) (Sum.inr k) (V.int n) = kvsP (t ++ [(k, n)]) := by
  rw [putK_new _ (noP h)]
  simp [kvsP]
theorem putS_new {t : STab} {k : Str × Str} {n : Int} (h : k ∉ t.map (·.1)) : L2.putK (kvsS t) (keyOf k) (V.int n) = kvsS (t ++ [(k, n)]) := by
  rw [putK_new _ (noS h)]
  simp [kvsS]
theorem take_put {α : Type} [DecidableEq α] (t : List (α × Int)) {ys : List α} {i : Nat} (h : i < ys.length) : put t (ys.take (i + 1)) = put t (ys.take i) ++ [(ys[i], look t ys[i])] := by
  unfold put
  rw [List.take_add_one, List.getElem?_eq_getElem h, List.map_append]
  rfl
theorem not_before {α : Type} {ys : List α} (nd : ys.Nodup) {i : Nat} (h : i < ys.length) : ys[i] ∉ ys.take i := fun m => by
  obtain ⟨j, hj, e⟩ := List.getElem_of_mem m
  rw [List.length_take] at hj
  rw [List.getElem_take] at e
  have := (List.getElem_inj nd).mp e
  omega
theorem le2_total (a b : Str × Str) : (le2 a b || le2 b a) = true := by
  unfold le2
  simp only [Bool.or_eq_true, Bool.and_eq_true, decide_eq_true_eq]
  by_cases e : a.1 = b.1
  · rcases List.le_total a.2.cps.toList b.2.cps.toList with h | h
    · exact .inl (.inr ⟨e, h⟩)
    · exact .inr (.inr ⟨e.symm, h⟩)
  · rcases Classical.em (a.1.cps.toList < b.1.cps.toList) with h | h
    · exact .inl (.inl h)
    · rcases Classical.em (b.1.cps.toList < a.1.cps.toList) with k | k
      · exact .inr (.inl k)
      · exact absurd (cs_inj (List.le_antisymm (List.not_lt.mp k) (List.not_lt.mp h))) e
theorem le2_trans (a b c : Str × Str) (h1 : le2 a b = true) (h2 : le2 b c = true) : le2 a c = true := by
  unfold le2 at *
  simp only [Bool.or_eq_true, Bool.and_eq_true, decide_eq_true_eq] at *
  rcases h1 with h1 | ⟨e1, h1⟩
  · rcases h2 with h2 | ⟨e2, h2⟩
    · exact .inl (List.lt_trans h1 h2)
    · rw [← e2]
      exact .inl h1
  · rcases h2 with h2 | ⟨e2, h2⟩
    · rw [e1]
      exact .inl h2
    · exact .inr ⟨e1.trans e2, List.le_trans h1 h2⟩
theorem le2_anti (a b : Str × Str) (h1 : le2 a b = true) (h2 : le2 b a = true) : a = b := by
  unfold le2 at *
  simp only [Bool.or_eq_true, Bool.and_eq_true, decide_eq_true_eq] at *
  obtain ⟨a1, a2⟩ := a
  obtain ⟨b1, b2⟩ := b
  have stop : ∀ {x y : Str}, x.cps.toList < y.cps.toList → y.cps.toList < x.cps.toList → False := fun h k => List.lt_asymm h k
  rcases h1 with h1 | ⟨e1, h1⟩
  · rcases h2 with h2 | ⟨e2, h2⟩
    · exact (stop h1 h2).elim
    · have e2 : b1 = a1 := e2
      have h1 : a1.cps.toList < b1.cps.toList := h1
      rw [e2] at h1
      exact (List.lt_irrefl _ h1).elim
  · have e1 : a1 = b1 := e1
    subst e1
    rcases h2 with h2 | ⟨_, h2⟩
    · exact (List.lt_irrefl _ h2).elim
    · have : a2 = b2 := cs_inj (List.le_antisymm h1 h2)
      rw [this]
def spAsc : Sp := fun vs H Q _ => ∃ d : Addr, vs = [.ref d] ∧
  ((∃ t : PTab, H d = some (.dK (kvsP t)) ∧ (t.map (·.1)).Nodup ∧ t.length ≤ 60 ∧ ∀ H' D (t' : PTab), Same H H' → H D = none → H' D = some (.dK (kvsP t')) → t'.Perm t → (t'.map (·.1)).Pairwise (fun a b => byCs a b = true) → Q (.ref D) H') ∨
   ∃ t : STab, H d = some (.dT (kvsS t)) ∧ (t.map (·.1)).Nodup ∧ t.length ≤ 60 ∧ ∀ H' D (t' : STab), Same H H' → H D = none → H' D = some (.dT (kvsS t')) → t'.Perm t → (t'.map (·.1)).Pairwise (fun a b => le2 a b = true) → Q (.ref D) H')
section
variable {P : Program} {w : World} {K : PySem.W.Frag} {mg : Str → Option Value} {base : Heap}
theorem scAsc : FnScope ["table", "key"] ["table"] (defScope sAsc) := ⟨rfl, rfl, rfl, by decide +kernel, rfl, by decide +kernel, by decide +kernel⟩
theorem ok_asc {f : Addr} {fd : FuncData} (F : Fun K "ascending_dict" "ascending_dict" sAsc f fd) (O : On mg) : FnOk P w K mg base CX0 1 f fd ["table"] spAsc := by
  refine F.ok scAsc (fun vs H Q E h => ?_) (fun cdv A outer s H vs Q E hr h => ?_)
  · obtain ⟨d, rfl, _⟩ := h
    rfl
  · have hu := hu_of hr
    have h3 : A.units + 3 + 60 < cLine := by
      have h2 : A.units + 3 + 16 * 0 + 200 < cLine := hr.un
      omega
    obtain ⟨d, rfl, ⟨t, hd, nd, hl, q⟩ | ⟨t, hd, nd, hl, q⟩⟩ := h
    · refine ⟨_, pss_one (ps_ret (pe_dcG putP_ok (own := [("key", 1)]) (g := gName 1) (tt := tYes) rfl scAsc.nd (by show A.units + 3 + 20 < cLine; omega) (pi_list (pe_callB (call_sortedD rfl) (by rfl) O.sorted (by decide +kernel) (pa_cons (pv 0) pa_nil))) (blkOk_by (N := ["table", "key"]) (sc := defScope sAsc) (by decide +kernel))
        (fun _ _ _ _ _ => pg_name (i := 1) scAsc.nd rfl (Or.inl rfl)) (fun _ _ _ _ _ => pts_nil) (fun _ _ _ _ _ => pv 1) (fun _ _ _ _ _ => pe_dget hu (pv 0) (pv 1) (fun _ _ => rfl)))), ?_⟩
      refine ⟨_, rfl, d, kvsP t, t.map (·.1), rfl, .inl hd, kvsP_keys t, by rw [List.length_map]; omega, fun ys p perm so hp => ?_⟩
      have ndy : ys.Nodup := perm.nodup_iff.mpr nd
      have ly : ys.length ≤ 60 := by rw [perm.length_eq, List.length_map]; exact hl
      refine ⟨p, rfl, ⟨_, SqL.of upd_same⟩, fun D hD => ?_⟩
      have ne : D ≠ p := fun e => by rw [e, upd_same] at hD; cases hD
      have hD0 : H D = none := by rwa [upd_ne ne] at hD
      refine wk_any (walk_list (K := K) (a := p) (xs := ys.map V.str)) (fun i H1 => Same H H1 ∧ H1 p = some (.lst (ys.map V.str)) ∧ H1 D = some (.dK (kvsP (put t (ys.take i))))) ?_ (fun i H1 _ h1 => SqL.of h1.2.1) ?_ ?_
      · refine ⟨Same.trans (Same.new hp) (Same.new hD), ?_, upd_same⟩
        rw [upd_ne ne.symm]
        exact upd_same
      · rintro i x H1 H2 hi ⟨hS, hP, hDc⟩ ⟨rfl, hx⟩
        rw [List.length_map] at hi
        have ex : x = V.str ys[i] := by
          rw [List.getElem?_map, List.getElem?_eq_getElem hi] at hx
          exact (Option.some.inj hx).symm
        subst ex
        have mk : ys[i] ∈ t.map (·.1) := perm.mem_iff.mp (List.getElem_mem hi)
        have nin : ys[i] ∉ (put t (ys.take i)).map (·.1) := by
          rw [put_keys]
          exact not_before ndy hi
        refine ⟨rfl, _, rfl, _, rfl, _, rfl, d, V.int (look t ys[i]), rfl, .inl ⟨kvsP t, Sum.inr ys[i], .inl (hS _ _ hd), rfl, (valP mk).symm⟩, _, Sum.inr ys[i], rfl, hDc, ?_, ?_⟩
        · rw [kvsP_len]
          unfold put
          rw [List.length_map, List.length_take]
          exact Nat.lt_of_lt_of_le (by omega : min i ys.length < 4000) (by decide)
        · refine ⟨Same.upN hS hD0, ?_, ?_⟩
          · rw [upd_ne ne.symm]
            exact hP
          · rw [upd_same, putP_new nin, take_put t hi]
      · rintro H1 ⟨hS, hP, hDc⟩
        rw [List.length_map, List.take_length] at hDc
        exact q _ _ _ hS hD0 hDc (put_perm nd perm) (by rw [put_keys]; exact sorted_up so)
    · refine ⟨_, pss_one (ps_ret (pe_dcG putT_ok (own := [("key", 1)]) (g := gName 1) (tt := tYes) rfl scAsc.nd (by show A.units + 3 + 20 < cLine; omega) (pi_list (pe_callB (cr_sortT2 rfl h3) (by rfl) O.sorted (by decide +kernel) (pa_cons (pv 0) pa_nil))) (blkOk_by (N := ["table", "key"]) (sc := defScope sAsc) (by decide +kernel))
        (fun _ _ _ _ _ => pg_name (i := 1) scAsc.nd rfl (Or.inl rfl)) (fun _ _ _ _ _ => pts_nil) (fun _ _ _ _ _ => pv 1) (fun _ _ _ _ _ => pe_dget hu (pv 0) (pv 1) (fun _ _ => rfl)))), ?_⟩
      have hks : (kvsS t).map (·.1) = (t.map (·.1)).map keyOf := by
        unfold kvsS
        rw [List.map_map, List.map_map]
        rfl
      refine ⟨_, rfl, d, kvsS t, t.map (·.1), rfl, .inl hd, hks, by rw [List.length_map]; omega, fun p qs hp hq => ?_⟩
      have perm := List.mergeSort_perm (t.map (·.1)) le2
      have srt : ((t.map (·.1)).mergeSort le2).Pairwise (fun a b => le2 a b = true) := List.pairwise_mergeSort le2_trans le2_total _
      generalize (t.map (·.1)).mergeSort le2 = ys at hq perm srt
      have ndy : ys.Nodup := perm.nodup_iff.mpr nd
      have ly : ys.length ≤ 60 := by rw [perm.length_eq, List.length_map]; exact hl
      have lq : qs.length = ys.length := Paired.length hq
      refine ⟨p, rfl, ⟨_, SqL.of upd_same⟩, fun D hD => ?_⟩
      have ne : D ≠ p := fun e => by rw [e, upd_same] at hD; cases hD
      have hD0 : H D = none := by rwa [upd_ne ne] at hD
      refine wk_any (walk_list (K := K) (a := p) (xs := qs.map V.ref)) (fun i H1 => Same H H1 ∧ H1 p = some (.lst (qs.map V.ref)) ∧ H1 D = some (.dT (kvsS (put t (ys.take i))))) ?_ (fun i H1 _ h1 => SqL.of h1.2.1) ?_ ?_
      · refine ⟨Same.trans (Same.new hp) (Same.new hD), ?_, upd_same⟩
        rw [upd_ne ne.symm]
        exact upd_same
      · rintro i x H1 H2 hi ⟨hS, hP, hDc⟩ ⟨rfl, hx⟩
        rw [List.length_map] at hi
        have hi2 : i < ys.length := by omega
        have ex : x = V.ref qs[i] := by
          rw [List.getElem?_map, List.getElem?_eq_getElem hi] at hx
          exact (Option.some.inj hx).symm
        subst ex
        obtain ⟨k, hk, eq⟩ := paired_get hq (List.getElem?_eq_getElem hi)
        have ek : k = ys[i] := Option.some.inj (hk.symm.trans (List.getElem?_eq_getElem hi2))
        subst ek
        have mk : ys[i] ∈ t.map (·.1) := perm.mem_iff.mp (List.getElem_mem hi2)
        have nin : ys[i] ∉ (put t (ys.take i)).map (·.1) := by
          rw [put_keys]
          exact not_before ndy hi2
        have eq1 := hS _ _ eq
        refine ⟨rfl, _, rfl, _, rfl, _, rfl, d, V.int (look t ys[i]), rfl, .inr ⟨kvsS t, keyOf ys[i], qs[i], .inl (hS _ _ hd), rfl, eq1, (valS mk).symm⟩, _, keyOf ys[i], qs[i], rfl, eq1, hDc, ?_, ?_⟩
        · rw [kvsS_len]
          unfold put
          rw [List.length_map, List.length_take]
          exact Nat.lt_of_lt_of_le (by omega : min i ys.length < 4000) (by decide)
        · refine ⟨Same.upN hS hD0, ?_, ?_⟩
          · rw [upd_ne ne.symm]
            exact hP
          · rw [upd_same, putS_new nin, take_put t hi2]
      · rintro H1 ⟨hS, hP, hDc⟩
        rw [List.length_map, lq, List.take_length] at hDc
        exact q _ _ _ hS hD0 hDc (put_perm nd perm) (by rw [put_keys]; exact srt)
end
end Mk

set_option Elab.async false
set_option linter.all false
set_option maxRecDepth 100000
set_option maxHeartbeats 4000000
namespace Mk
open PySem PySem.Spec L2 PyProof.Rows

abbrev sInit : Stmt := inClass (top 20) 0
theorem But.set {x : Addr} {H H1 : Hp} {o : HO} (a : But x H H1) : But x H (upd H1 x o) := fun b u hb e => by
  rw [upd_ne hb]
  exact a b u hb e
theorem But.same {x : Addr} {H H1 H2 : Hp} (a : But x H H1) (b : Same H1 H2) : But x H H2 := fun c o h e => b c o (a c o h e)
theorem putF_len (f : Str) (v : V) : ∀ fs : List (Str × V), (putF f v fs).length ≤ fs.length + 1
  | [] => Nat.le_refl _
  | p :: r => by
    unfold putF
    by_cases h : p.1 = f
    · rw [if_pos h]
      simp
    · rw [if_neg h, List.length_cons, List.length_cons]
      exact Nat.succ_le_succ (putF_len f v r)
theorem short1 (f : Str) (v : V) : (putF f v []).length < 1000 := Nat.lt_of_le_of_lt (putF_len f v []) (by decide)
theorem short2 (f g : Str) (v u : V) : (putF f v (putF g u [])).length < 1000 := by
  have a := putF_len g u []
  have b := putF_len f v (putF g u [])
  simp at a
  omega
theorem short3 (f g k : Str) (v u z : V) : (putF f v (putF g u (putF k z []))).length < 1000 := by
  have a := putF_len k z []
  have b := putF_len g u (putF k z [])
  have c := putF_len f v (putF g u (putF k z []))
  simp at a
  omega
structure Pc (K : PySem.W.Frag) (C : Addr) : Prop where
  cl : Cls K C
  n1 : NoAttr K C "_signs"
  n2 : NoAttr K C "_put"
  n3 : NoAttr K C "_out"
  n4 : NoAttr K C "_swap"
/-- the tables are ascending -/
structure Srt (t1 t2 : PTab) (t3 : STab) : Prop where
  a : (t1.map (·.1)).Pairwise (fun a b => byCs a b = true)
  b : (t2.map (·.1)).Pairwise (fun a b => byCs a b = true)
  c : (t3.map (·.1)).Pairwise (fun a b => le2 a b = true)
abbrev fldP (t a b c : Addr) : List (Str × V) := [("_signs", V.ref t), ("_put", V.ref a), ("_out", V.ref b), ("_swap", V.ref c)]
/-- the prices at x -/
def PrAt (C : Addr) (H : Hp) (x : Addr) (t1 t2 : PTab) (t3 : STab) : Prop := ∃ dx t a b c : Addr, H x = some (.ins C dx (fldP t a b c)) ∧ H t = some (.tup ((t1.map (·.1)).map V.str)) ∧ Tabs H a b c t1 t2 t3
theorem PrAt.same {C : Addr} {H H' : Hp} {x : Addr} {t1 t2 : PTab} {t3 : STab} (h : PrAt C H x t1 t2 t3) (k : Same H H') : PrAt C H' x t1 t2 t3 := by
  obtain ⟨dx, t, a, b, c, h1, h2, h3⟩ := h
  exact ⟨dx, t, a, b, c, k _ _ h1, k _ _ h2, h3.same k⟩
theorem fld_eq (t a b c : Addr) : putF "_swap" (V.ref c) (putF "_out" (V.ref b) (putF "_put" (V.ref a) (putF "_signs" (V.ref t) []))) = fldP t a b c := by
  have n1 : ¬ (("_signs" : Str) = "_put") := by decide +kernel
  have n2 : ¬ (("_signs" : Str) = "_out") := by decide +kernel
  have n3 : ¬ (("_signs" : Str) = "_swap") := by decide +kernel
  have n4 : ¬ (("_put" : Str) = "_out") := by decide +kernel
  have n5 : ¬ (("_put" : Str) = "_swap") := by decide +kernel
  have n6 : ¬ (("_out" : Str) = "_swap") := by decide +kernel
  simp [putF, n1, n2, n3, n4, n5, n6]
def spInit (C : Addr) : Sp := fun vs H Q _ => ∃ (x dx p o s : Addr) (t1 t2 : PTab) (t3 : STab), vs = [.ref x, .ref p, .ref o, .ref s] ∧ H x = some (.ins C dx []) ∧ Tabs H p o s t1 t2 t3 ∧ Agree t1 t2 t3 ∧ (t3.map (·.1)).Nodup ∧ rightB t1 t2 t3 = true ∧
  ∀ H' u1 u2 u3, But x H H' → PrAt C H' x u1 u2 u3 → u1.Perm t1 → u2.Perm t2 → u3.Perm t3 → Srt u1 u2 u3 → Q .non H'
section
variable {P : Program} {w : World} {K : PySem.W.Frag} {mg : Str → Option Value} {base : Heap}
theorem scInit : FnScope ["self", "put", "out", "swap"] ["self", "put", "out", "swap"] (defScope sInit) := ⟨rfl, rfl, rfl, by decide +kernel, rfl, by decide +kernel, by decide +kernel⟩
theorem ok_init {f C : Addr} {fd : FuncData} (F : Fun K "__init__" "Prices.__init__" sInit f fd) (T : Pc K C) (O : On mg) (J : Cd P w K mg base 5 "_are_tables" ["put", "out", "swap"] spAreT) (S : Cd P w K mg base 1 "ascending_dict" ["table"] spAsc) : FnOk P w K mg base CX0 6 f fd ["self", "put", "out", "swap"] (spInit C) := by
  obtain ⟨j, dj, G, gm, gk, gb⟩ := J.ex
  obtain ⟨c, dc, Gc, cm, ck, cb⟩ := S.ex
  refine F.ok scInit (fun vs H Q E h => ?_) (fun cdv A outer s H vs Q E hr h => ?_)
  · obtain ⟨x, dx, p, o, s, t1, t2, t3, rfl, _⟩ := h
    rfl
  · obtain ⟨x, dx, p, o, sw, t1, t2, t3, rfl, hx, hT, ag, nd3, hright, q⟩ := h
    have hr1 : Room 1 _ := hr.mono (by decide)
    refine ⟨_, pss_cons (ps_if (pt_not (pt_val (pe_call G hr (by rfl) gm gk gb .nil pass0 (pa_cons (pv 1) (pa_cons (pv 2) (pa_cons (pv 3) pa_nil)))))) (pss_one ps_never) pss_nil)
      (pss_cons (ps_fld (pv 0) (pe_callTy call_tuple_of (by rfl) O.tuple (by decide +kernel) (pa_cons (pe_callB (call_sortedD rfl) (by rfl) O.sorted (by decide +kernel) (pa_cons (pv 1) pa_nil)) pa_nil)) rfl)
      (pss_cons (ps_fld (pv 0) (pe_call Gc hr1 (by rfl) cm ck cb .nil pass0 (pa_cons (pv 1) pa_nil)) rfl)
      (pss_cons (ps_fld (pv 0) (pe_call Gc hr1 (by rfl) cm ck cb .nil pass0 (pa_cons (pv 2) pa_nil)) rfl)
      (pss_one (ps_fld (pv 0) (pe_call Gc hr1 (by rfl) cm ck cb .nil pass0 (pa_cons (pv 3) pa_nil)) rfl))))), ?_⟩
    refine ⟨_, rfl, _, rfl, _, rfl, p, o, sw, t1, t2, t3, rfl, hT, ag, fun H1 s1 => ⟨_, rfl, ?_⟩⟩
    rw [hright]
    refine iteF ?_
    have px : p ≠ x := ne_of hT.p hx (fun z => nomatch z)
    have ox : o ≠ x := ne_of hT.o hx (fun z => nomatch z)
    have sx : sw ≠ x := ne_of hT.s hx (fun z => nomatch z)
    have nd2 : (t2.map (·.1)).Nodup := ag.pm.nodup_iff.mpr ag.nd
    have hl1 := ag.l1
    have hl2 := ag.l2
    have hl3 := ag.l3
    refine ⟨_, rfl, p, kvsP t1, t1.map (·.1), rfl, .inl (s1 _ _ hT.p), kvsP_keys t1, by rw [List.length_map]; omega, fun ys a perm so ha => ?_⟩
    refine ⟨a, _, rfl, .inl ⟨SqL.of upd_same, fun t ht => ?_⟩⟩
    have s2 : Same H (upd (upd H1 a (.lst (ys.map V.str))) t (.tup (ys.map V.str))) := Same.trans (Same.trans s1 (Same.new ha)) (Same.new ht)
    refine ⟨_, rfl, x, C, dx, [], rfl, s2 _ _ hx, T.cl, T.n1, (by show 0 < 1000; decide), ?_⟩
    have b2 : But x H (upd (upd (upd H1 a (.lst (ys.map V.str))) t (.tup (ys.map V.str))) x (.ins C dx (putF "_signs" (V.ref t) []))) := (But.of_same s2).set
    have x2 : (upd (upd (upd H1 a (.lst (ys.map V.str))) t (.tup (ys.map V.str))) x (.ins C dx (putF "_signs" (V.ref t) []))) x = some (.ins C dx (putF "_signs" (V.ref t) [])) := upd_same
    have tx : t ≠ x := fun e => by
      rw [e] at ht
      rw [(Same.trans s1 (Same.new ha)) _ _ hx] at ht
      cases ht
    have y2 : (upd (upd (upd H1 a (.lst (ys.map V.str))) t (.tup (ys.map V.str))) x (.ins C dx (putF "_signs" (V.ref t) []))) t = some (.tup (ys.map V.str)) := by
      rw [upd_ne tx]
      exact upd_same
    generalize (upd (upd (upd H1 a (.lst (ys.map V.str))) t (.tup (ys.map V.str))) x (.ins C dx (putF "_signs" (V.ref t) []))) = H2 at b2 x2 y2 ⊢
    clear s2 s1 ha ht
    refine ⟨_, rfl, p, rfl, .inl ⟨t1, b2 _ _ px hT.p, ag.nd, by omega, fun H3 D3 u1 s3 f3 e3 p3 r3 => ?_⟩⟩
    have nx3 : D3 ≠ x := fun e => by rw [e, x2] at f3; cases f3
    refine ⟨_, rfl, x, C, dx, _, rfl, s3 _ _ x2, T.cl, T.n2, short1 _ _, ?_⟩
    have b3 : But x H (upd H3 x (.ins C dx (putF "_put" (V.ref D3) (putF "_signs" (V.ref t) [])))) := (b2.same s3).set
    have x3 : (upd H3 x (.ins C dx (putF "_put" (V.ref D3) (putF "_signs" (V.ref t) [])))) x = some (.ins C dx (putF "_put" (V.ref D3) (putF "_signs" (V.ref t) []))) := upd_same
    have y3 : (upd H3 x (.ins C dx (putF "_put" (V.ref D3) (putF "_signs" (V.ref t) [])))) t = some (.tup (ys.map V.str)) := by
      rw [upd_ne tx]
      exact s3 _ _ y2
    have z3 : (upd H3 x (.ins C dx (putF "_put" (V.ref D3) (putF "_signs" (V.ref t) [])))) D3 = some (.dK (kvsP u1)) := by
      rw [upd_ne nx3]
      exact e3
    generalize (upd H3 x (.ins C dx (putF "_put" (V.ref D3) (putF "_signs" (V.ref t) [])))) = H4 at b3 x3 y3 z3 ⊢
    clear s3 e3 f3 x2 y2 b2
    refine ⟨_, rfl, o, rfl, .inl ⟨t2, b3 _ _ ox hT.o, nd2, by omega, fun H5 D5 u2 s5 f5 e5 p5 r5 => ?_⟩⟩
    have nx5 : D5 ≠ x := fun e => by rw [e, x3] at f5; cases f5
    refine ⟨_, rfl, x, C, dx, _, rfl, s5 _ _ x3, T.cl, T.n3, short2 _ _ _ _, ?_⟩
    have b5 : But x H (upd H5 x (.ins C dx (putF "_out" (V.ref D5) (putF "_put" (V.ref D3) (putF "_signs" (V.ref t) []))))) := (b3.same s5).set
    have x5 : (upd H5 x (.ins C dx (putF "_out" (V.ref D5) (putF "_put" (V.ref D3) (putF "_signs" (V.ref t) []))))) x = some (.ins C dx (putF "_out" (V.ref D5) (putF "_put" (V.ref D3) (putF "_signs" (V.ref t) [])))) := upd_same
    have keep5 : ∀ {b : Addr} {u : HO}, b ≠ x → H4 b = some u → (upd H5 x (.ins C dx (putF "_out" (V.ref D5) (putF "_put" (V.ref D3) (putF "_signs" (V.ref t) []))))) b = some u := fun hb e => by
      rw [upd_ne hb]
      exact s5 _ _ e
    have y5 := keep5 tx y3
    have z5 := keep5 nx3 z3
    have v5 : (upd H5 x (.ins C dx (putF "_out" (V.ref D5) (putF "_put" (V.ref D3) (putF "_signs" (V.ref t) []))))) D5 = some (.dK (kvsP u2)) := by
      rw [upd_ne nx5]
      exact e5
    generalize (upd H5 x (.ins C dx (putF "_out" (V.ref D5) (putF "_put" (V.ref D3) (putF "_signs" (V.ref t) []))))) = H6 at b5 x5 y5 z5 v5 ⊢
    clear keep5 s5 e5 f5 x3 y3 z3 b3
    refine ⟨_, rfl, sw, rfl, .inr ⟨t3, b5 _ _ sx hT.s, nd3, by omega, fun H7 D7 u3 s7 f7 e7 p7 r7 => ?_⟩⟩
    have nx7 : D7 ≠ x := fun e => by rw [e, x5] at f7; cases f7
    refine ⟨_, rfl, x, C, dx, _, rfl, s7 _ _ x5, T.cl, T.n4, short3 _ _ _ _ _ _, ?_⟩
    have eys : ys = u1.map (·.1) := List.Perm.eq_of_pairwise (fun a b _ _ k1 k2 => byCs_anti a b k1 k2) (sorted_up so) r3 (perm.trans (p3.map (·.1)).symm)
    have keep7 : ∀ {b : Addr} {u : HO}, b ≠ x → H6 b = some u → (upd H7 x (.ins C dx (putF "_swap" (V.ref D7) (putF "_out" (V.ref D5) (putF "_put" (V.ref D3) (putF "_signs" (V.ref t) [])))))) b = some u := fun hb e => by
      rw [upd_ne hb]
      exact s7 _ _ e
    refine q _ u1 u2 u3 (b5.same s7).set ⟨dx, t, D3, D5, D7, ?_, ?_, ⟨keep7 nx3 z5, keep7 nx5 v5, ?_⟩⟩ p3 p5 p7 ⟨r3, r5, r7⟩
    · rw [upd_same, fld_eq]
    · rw [← eys]
      exact keep7 tx y5
    · rw [upd_ne nx7]
      exact e7
end
end Mk

set_option Elab.async false
set_option linter.all false
set_option maxRecDepth 100000
set_option maxHeartbeats 4000000
namespace Mk
open PySem PySem.Spec L2 PyProof.Rows

abbrev sPairs : Stmt := top 30
def prs (zs : List Str) (x : Str) : List (Str × Str) := (zs.filter fun y => decide (x ≠ y)).map fun y => (x, y)
def pairsOf (zs : List Str) : List (Str × Str) := zs.flatMap (prs zs)
theorem Pairs.keep {H H' : Hp} (k : ∀ q xs, H q = some (.tup xs) → H' q = some (.tup xs)) : ∀ {qs : List Addr} {ks : List (Str × Str)}, Pairs H qs ks → Pairs H' qs ks
  | _, _, .nil => .nil
  | _, _, .cons h t => .cons (k _ _ h) (Pairs.keep k t)
theorem Pairs.snoc {H : Hp} {q : Addr} {k : Str × Str} (hq : H q = some (.tup [.str k.1, .str k.2])) : ∀ {qs : List Addr} {ks : List (Str × Str)}, Pairs H qs ks → Pairs H (qs ++ [q]) (ks ++ [k])
  | _, _, .nil => .cons hq .nil
  | _, _, .cons h t => .cons h (Pairs.snoc hq t)
theorem prs_len (zs : List Str) (x : Str) : (prs zs x).length ≤ zs.length := by
  unfold prs
  rw [List.length_map]
  exact List.length_filter_le _ _
theorem flat_len {α β : Type} (f : α → List β) (n : Nat) (h : ∀ a, (f a).length ≤ n) : ∀ l : List α, (l.flatMap f).length ≤ l.length * n
  | [] => by simp
  | a :: l => by
    rw [List.flatMap_cons, List.length_append, List.length_cons, Nat.succ_mul]
    have := flat_len f n h l
    have := h a
    omega
def spPairs : Sp := fun vs H Q _ => ∃ (t : Addr) (zs : List Str), vs = [.ref t] ∧ H t = some (.tup (zs.map V.str)) ∧ zs.length ≤ 5 ∧
  ∀ H' p qs, Same H H' → H p = none → H' p = some (.lst (qs.map V.ref)) → Pairs H' qs (pairsOf zs) → Q (.ref p) H'
/-- the list that grows at D -/
structure Grow (H H1 : Hp) (D : Addr) (ks : List (Str × Str)) : Prop where
  same : Same H H1
  out : ∃ qs : List Addr, H1 D = some (.lst (qs.map V.ref)) ∧ Pairs H1 qs ks
section
variable {P : Program} {w : World} {K : PySem.W.Frag} {mg : Str → Option Value} {base : Heap}
theorem scPairs : FnScope ["signs", "one", "other"] ["signs"] (defScope sPairs) := ⟨rfl, rfl, rfl, by decide +kernel, rfl, by decide +kernel, by decide +kernel⟩
theorem ok_pairs {f : Addr} {fd : FuncData} (F : Fun K "_pairs" "_pairs" sPairs f fd) : FnOk P w K mg base CX0 1 f fd ["signs"] spPairs := by
  refine F.ok scPairs (fun vs H Q E h => ?_) (fun cdv A outer s H vs Q E hr h => ?_)
  · obtain ⟨t, zs, rfl, _⟩ := h
    rfl
  · obtain ⟨t, zs, rfl, ht, hl, q⟩ := h
    refine ⟨_, pss_one (ps_ret (pe_lc2 (own := [("one", 1), ("other", 2)]) (vs1 := [2]) (g := gName 1) (g1 := gName 2) (tt := tYes) (wi1 := iTup K (tVar 0)) rfl scPairs.nd (pi_tup (pv 0)) (blkOk_by (N := ["signs", "one", "other"]) (sc := defScope sPairs) (by decide +kernel)) (by decide)
      (fun _ _ _ _ _ => pg_name (i := 1) scPairs.nd rfl (Or.inl rfl)) (fun _ _ _ _ _ => pts_nil) (fun _ _ _ _ _ => pi_tup (pv 0)) (fun _ _ _ _ _ => pg_name (i := 2) scPairs.nd rfl (Or.inl rfl))
      (fun _ _ _ _ _ => pts_one (pt_cmpR op_ne (pv 1) (pv 2) (nomark _))) (fun _ _ _ _ _ => pe_tup (pa_cons (pv 1) (pa_cons (pv 2) pa_nil))))), ?_⟩
    refine ⟨_, rfl, t, rfl, ⟨_, SqT.of ht⟩, fun D hD => wk_any (walk_tup (K := K) (a := t) (xs := zs.map V.str)) (fun i H1 => Grow H H1 D ((zs.take i).flatMap (prs zs))) ⟨Same.new hD, [], upd_same, .nil⟩ (fun i H1 _ h1 => SqT.of (h1.same _ _ ht)) ?_ ?_⟩
    · rintro i x H1 H2 hi G1 ⟨rfl, hx⟩
      rw [List.length_map] at hi
      have ex : x = V.str zs[i] := by
        rw [List.getElem?_map, List.getElem?_eq_getElem hi] at hx
        exact (Option.some.inj hx).symm
      subst ex
      refine ⟨rfl, _, rfl, t, rfl, ⟨_, SqT.of (G1.same _ _ ht)⟩, wk_any (walk_tup (K := K) (a := t) (xs := zs.map V.str)) (fun j H3 => Grow H H3 D ((zs.take i).flatMap (prs zs) ++ prs (zs.take j) zs[i])) ?_ (fun j H3 _ h3 => SqT.of (h3.same _ _ ht)) ?_ ?_⟩
      · show Grow H H2 D ((zs.take i).flatMap (prs zs) ++ prs (zs.take 0) zs[i])
        have : prs (zs.take 0) zs[i] = [] := by simp [prs]
        rw [this, List.append_nil]
        exact G1
      · rintro j y H3 H4 hj G3 ⟨rfl, hy⟩
        rw [List.length_map] at hj
        have ey : y = V.str zs[j] := by
          rw [List.getElem?_map, List.getElem?_eq_getElem hj] at hy
          exact (Option.some.inj hy).symm
        subst ey
        have nextK : prs (zs.take (j + 1)) zs[i] = prs (zs.take j) zs[i] ++ (if zs[i] ≠ zs[j] then [(zs[i], zs[j])] else []) := by
          unfold prs
          rw [List.take_add_one, List.getElem?_eq_getElem hj, List.filter_append, List.map_append]
          congr 1
          by_cases c : zs[i] = zs[j] <;> simp [c]
        refine ⟨rfl, _, rfl, _, rfl, rfl, _, rfl, ?_⟩
        by_cases c : zs[i] = zs[j]
        · rw [decide_eq_true (by rw [c] : V.str zs[i] = V.str zs[j])]
          refine iteF ?_
          rw [nextK, if_neg (fun h => h c), List.append_nil]
          exact G3
        · rw [decide_eq_false (fun h => c (by injection h) : ¬ V.str zs[i] = V.str zs[j])]
          obtain ⟨qs, hL, hP⟩ := G3.out
          have hk : qs.length ≤ 60 := by
            have e : qs.length = _ := Paired.length hP
            rw [e, List.length_append]
            have a1 := flat_len (prs zs) 5 (fun a => Nat.le_trans (prs_len zs a) hl) (zs.take i)
            have a2 := prs_len (zs.take j) zs[i]
            rw [List.length_take] at a1 a2
            have : min i zs.length * 5 ≤ 5 * 5 := Nat.mul_le_mul_right 5 (by omega)
            omega
          refine iteT ⟨_, rfl, _, rfl, (by show 2 ≤ sizeLine; decide), fun n hn => ⟨qs.map V.ref, (Same.new hn) _ _ hL, ?_, ?_⟩⟩
          · rw [List.length_map]
            exact Nat.lt_of_le_of_lt hk (by decide)
          · have neD : D ≠ n := ne_of_none hL hn
            have D0 : ∀ b o, H b = some o → b ≠ D := fun b o e z => by
              rw [z] at e
              rw [hD] at e
              cases e
            refine ⟨fun b o e => ?_, qs ++ [n], ?_, ?_⟩
            · rw [upd_ne (D0 b o e), upd_ne (ne_of_none (G3.same _ _ e) hn)]
              exact G3.same _ _ e
            · rw [upd_same, List.map_append]
              rfl
            · rw [nextK, if_pos c, ← List.append_assoc]
              refine Pairs.snoc (k := (zs[i], zs[j])) ?_ (Pairs.keep (fun q xs e => ?_) hP)
              · rw [upd_ne neD.symm]
                exact upd_same
              · rw [upd_ne (fun z => by rw [z, hL] at e; cases e), upd_ne (ne_of_none e hn)]
                exact e
      · intro H3 G3
        rw [List.length_map, List.take_length] at G3
        rw [List.take_add_one, List.getElem?_eq_getElem hi, List.flatMap_append]
        simpa using G3
    · intro H1 G1
      rw [List.length_map, List.take_length] at G1
      obtain ⟨qs, hL, hP⟩ := G1.out
      exact q _ _ _ G1.same hD hL hP
end
end Mk

set_option Elab.async false
set_option linter.all false
set_option maxRecDepth 100000
set_option maxHeartbeats 4000000
namespace Mk
open PySem PySem.Spec L2 PyProof.Rows

abbrev sEven : Stmt := inClass (top 20) 1
section
variable {X : Cx} {CX : CXT} {i k : Nat} {f C : Addr} {fd : FuncData} {ps ks : List Str} {sp : Sp} {E : XK} {x : Str} {p pos : Pos} {kws : List Keyword} {tk : TA} {g : List Value → List Value → List Value} {gV : List V → List V → List V}
/-- c(k = v, ..), the class in a local name -/
def tMakeL (i : Nat) (C : Addr) (m : Nat) (sp : Sp) (gV : List V → List V → List V) (E : XK) (tk : TA) : TE := fun σ H Q => σ[i]? = some (some (.ref C)) ∧ tMakeK C 0 m sp gV E tNil tk σ H Q
theorem pe_makeL (M : L2.Mk X.K C f) (F : FnOk X.prog X.w X.K X.mg X.base CX k f fd ps sp) (hr : Room (k + 1) X.A) (hN : X.N[i]? = some x) (hv : Vis X.env.scope x) (hb : KBn X.K fd ps 1 ks g gV) (hx : Passes CX X E) (hkw : PK X kws tk)
    (hall : (backToKw pos (keywordEach kws X.env)).all (·.1.isSome) = true := by rfl) (hks : (backToKw pos (keywordEach kws X.env)).filterMap (·.1) = ks := by rfl) (hdb : (x == ("__debug__" : Str)) = false := by decide) (hcd : (x == ("__classdict__" : Str)) = false := by decide)
    (hpl : ((backTo pos (starEach [] X.env)).any (·.1) || (backToKw pos (keywordEach kws X.env)).any (·.1.isNone)) = false := by rfl) :
    PE X (.Call (.Name x p) [] kws pos) (tMakeL i C ks.length sp gV E tk) := by
  refine ⟨fun pins s σ H Q I h => ?_⟩
  obtain ⟨hs, h⟩ := h
  refine wpAny_Call_Name_kw (thn ((pe_var (pos := p) hN hv hdb hcd).run pins s σ H (fun v H1 => v = .ref C ∧ H1 = H) I ⟨.ref C, hs, rfl, rfl⟩) fun u s1 ⟨v, H1, I1, r1, q1⟩ => ?_)
  obtain ⟨rfl, rfl⟩ := q1
  obtain rfl : u = Value.ref C := r1
  refine PySem.W.callWith_KW0 (h₀ := X.base) I1.ok.mod.kin M.kp hall ?_ hpl
  refine thn (hkw.run pos pins s1 σ _ _ I1 h) fun ws s2 ⟨zs, H2, I2, rz, l1, l2, q2⟩ => ⟨I2.kIn, ?_⟩
  rw [hks]
  exact run_makeK (us := []) (vs := []) M F hr hb hx I2 .nil rz rfl l2 q2
end

section
variable {X : Cx}
/-- name = {..} of a dict comprehension, the name a local -/
theorem ps_setDc {i : Nat} {y : Str} {py : Pos} {kx vx tg iter : Expr} {ifs : List Expr} {scope : Scope} {own : List (Str × Nat)} {pos spos : Pos} {wi : TI} {g : TG} {tt : TT} {tk tv : TE} (cm : X.calm = true) (nd : X.N.Nodup) (hy : X.N[i]? = some y) (lo : X.env.scope.names.lookup y = some .local)
    (sw : swapsWith (.DictComp kx vx [⟨tg, iter, ifs, 0⟩] scope pos) (some (.Name y py)) spos.line X.env = pure true) (hi : PI X tg iter wi) (ok : BlkOk X.N X.env.scope scope own)
    (hg : ∀ (s : Shared) (H : Hp) (C : Addr) (cl : List (Str × Addr)) (fr : List Addr), PG (X.blk s H scope (compEnvC scope cl C X.env) fr) tg g) (ht : ∀ (s : Shared) (H : Hp) (C : Addr) (cl : List (Str × Addr)) (fr : List Addr), PTs (X.blk s H scope (compEnvC scope cl C X.env) fr) ifs tt)
    (hk : ∀ (s : Shared) (H : Hp) (C : Addr) (cl : List (Str × Addr)) (fr : List Addr), PE (X.blk s H scope (compEnvC scope cl C X.env) fr) kx tk) (hv : ∀ (s : Shared) (H : Hp) (C : Addr) (cl : List (Str × Addr)) (fr : List Addr), PE (X.blk s H scope (compEnvC scope cl C X.env) fr) vx tv)
    (fs : ∀ x, foldedSetIterable iter X.env x = pure x := by intro _; rfl) : PS X (.Assign [.Name y py] (.DictComp kx vx [⟨tg, iter, ifs, 0⟩] scope pos) spos) (tAsg (tDc wi g tt tk tv (own.map (·.2))) (gName i)) := by
  refine ⟨fun pins s σ H D I h => ?_⟩
  rw [exec_Assign_Name_used _ _ _ _ sw]
  refine wpAny_bind (wpAny_standAt (wpAny_bind ?_))
  show wpAny _ X.A (do let _ ← comprehension (.DictComp kx vx [⟨tg, iter, ifs, 0⟩] scope pos) scope X.env (firstIterPos [⟨tg, iter, ifs, 0⟩] pos) newDict false (eval iter X.env) (some (assign (.Name y py) X.env))) _ _ s
  have h2 : tDc wi g tt tk tv (own.map (·.2)) σ H (fun x H1 => gName i x σ H1 D.nx) := h
  refine wpAny_bind (thn (dc_core (Qf := fun _ s' => SP X pins D .next s') cm nd I hi ok hg ht hk hv fs h2 fun L C s' m H' J q hn f => ?_) fun _ s' z => wpAny_pure (wpAny_pure z))
  show wpAny _ _ (assign (.Name y py) X.env (.ref L)) _ _ _
  refine wpAny_assign_Name (store_ok2 (v := V.ref L) J nd hy (.inl lo) rfl (fun s2 J2 ⟨a, sb, ha⟩ => ?_) (.inr lo))
  obtain ⟨f0, f1, f2, f3, f4, f5⟩ := f
  have ne : C ≠ a := ha.elim (fun z => z ▸ f1) fun z e => f4 y a z e.symm
  exact ⟨m, hn.sameBut sb ne, fun h3 sb3 => ⟨_, H', J2.turned (t' := s2.toks) (fun b o hb e => (sb3.2 b hb).trans e) f0 f1 f3 f4 f5, q⟩⟩
end
/-! ### even tables -/
def evP (zs : List Str) (i : Int) : PTab := zs.map fun z => (z, i)
def evS (zs : List Str) (i : Int) : STab := (pairsOf zs).map fun k => (k, i)
theorem evP_keys (zs : List Str) (i : Int) : (evP zs i).map (·.1) = zs := by
  unfold evP
  rw [List.map_map]
  exact List.map_id zs
theorem evS_keys (zs : List Str) (i : Int) : (evS zs i).map (·.1) = pairsOf zs := by
  unfold evS
  rw [List.map_map]
  exact List.map_id _
theorem mem_prs {zs : List Str} {x : Str} {k : Str × Str} : k ∈ prs zs x ↔ k.1 = x ∧ k.2 ∈ zs ∧ x ≠ k.2 := by
  unfold prs
  rw [List.mem_map]
  constructor
  · rintro ⟨y, hy, rfl⟩
    rw [List.mem_filter, decide_eq_true_iff] at hy
    exact ⟨rfl, hy.1, hy.2⟩
  · rintro ⟨h1, h2, h3⟩
    refine ⟨k.2, ?_, by rw [← h1]⟩
    rw [List.mem_filter, decide_eq_true_iff]
    exact ⟨h2, h3⟩
theorem mem_pairs {zs : List Str} {k : Str × Str} : k ∈ pairsOf zs ↔ k.1 ∈ zs ∧ k.2 ∈ zs ∧ k.1 ≠ k.2 := by
  unfold pairsOf
  rw [List.mem_flatMap]
  constructor
  · rintro ⟨x, hx, hk⟩
    obtain ⟨h1, h2, h3⟩ := mem_prs.mp hk
    rw [h1]
    exact ⟨hx, h2, h3⟩
  · rintro ⟨h1, h2, h3⟩
    exact ⟨k.1, h1, mem_prs.mpr ⟨rfl, h2, h3⟩⟩
theorem nodup_pairs {zs : List Str} (nd : zs.Nodup) : (pairsOf zs).Nodup := by
  unfold pairsOf List.Nodup
  rw [List.pairwise_flatMap]
  refine ⟨fun x _ => ?_, List.Pairwise.imp (fun {x y} ne => ?_) nd⟩
  · unfold prs
    rw [List.pairwise_map]
    exact (nd.sublist List.filter_sublist).imp fun {a b} h e => h (by injection e)
  · intro p hp q hq e
    have h1 := (mem_prs.mp hp).1
    have h2 := (mem_prs.mp hq).1
    exact ne (by rw [← h1, ← h2, e])
theorem len_pairs {zs : List Str} (hl : zs.length ≤ 5) : (pairsOf zs).length ≤ 20 := by
  have one : ∀ x ∈ zs, (prs zs x).length ≤ 4 := fun x hx => by
    unfold prs
    rw [List.length_map]
    have : (zs.filter fun y => decide (x ≠ y)).length < zs.length := List.length_filter_lt_length_iff_exists.mpr ⟨x, hx, by simp⟩
    omega
  have all : ∀ l : List Str, (∀ x ∈ l, (prs zs x).length ≤ 4) → (l.flatMap (prs zs)).length ≤ l.length * 4 := by
    intro l
    induction l with
    | nil => intro _; simp
    | cons a l ih =>
      intro h
      rw [List.flatMap_cons, List.length_append, List.length_cons]
      have a1 := h a List.mem_cons_self
      have a2 := ih fun x hx => h x (List.mem_cons_of_mem _ hx)
      omega
  have := all zs one
  unfold pairsOf
  omega
theorem ev_agree {zs : List Str} {i : Int} (a : AscSg zs) (hl : zs.length ≤ 5) : Agree (evP zs i) (evP zs i) (evS zs i) where
  sg := fun p hp => by
    obtain ⟨z, hz, rfl⟩ := List.mem_map.mp hp
    exact a.2.1 z hz
  nd := by
    rw [evP_keys]
    exact nodup_lt a.2.2
  l1 := by
    unfold evP
    rw [List.length_map]
    exact hl
  pm := .refl _
  l3 := by
    unfold evS
    rw [List.length_map]
    exact len_pairs hl
  pr := fun p hp => by
    obtain ⟨k, hk, rfl⟩ := List.mem_map.mp hp
    rw [evP_keys]
    exact mem_pairs.mp hk
theorem nw_up {i : Int} (h : nwB i 1 9 = true) : nwB i 1 18 = true := by
  unfold nwB at *
  simp only [Bool.and_eq_true, decide_eq_true_eq] at *
  exact ⟨h.1, h.2.1, by omega⟩
theorem ev_right {zs : List Str} {i : Int} (a : AscSg zs) (h : nwB i 1 9 = true) : rightB (evP zs i) (evP zs i) (evS zs i) = true := by
  have e1 : okP (evP zs i) 9 = true := by
    unfold okP evP
    rw [List.all_map]
    exact List.all_eq_true.mpr fun _ _ => h
  have e2 : okS (evS zs i) 18 = true := by
    unfold okS evS
    rw [List.all_map]
    exact List.all_eq_true.mpr fun _ _ => nw_up h
  have e3 : (evP zs i).isEmpty = false := by
    cases zs with
    | nil => exact absurd rfl a.1
    | cons z l => rfl
  unfold rightB
  rw [e1, e2, e3]
  rfl
def spEven (C : Addr) : Sp := fun vs H Q _ => ∃ (t : Addr) (zs : List Str) (i : Int), vs = [.ref C, .ref t, .int i] ∧ H t = some (.tup (zs.map V.str)) ∧ AscSg zs ∧ zs.length ≤ 5 ∧ nwB i 1 9 = true ∧
  ∀ H' x u1 u2 u3, Same H H' → H x = none → PrAt C H' x u1 u2 u3 → u1.Perm (evP zs i) → u2.Perm (evP zs i) → u3.Perm (evS zs i) → Srt u1 u2 u3 → Q (.ref x) H'
section
variable {P : Program} {w : World} {K : PySem.W.Frag} {mg : Str → Option Value} {base : Heap}
theorem kbn_init {f : Addr} {fd : FuncData} (F : Fun K "__init__" "Prices.__init__" sInit f fd) : KBn K fd ["self", "put", "out", "swap"] 1 ["put", "out", "swap"] (fun us ws => us ++ ws) (fun vs zs => vs ++ zs) := by
  obtain ⟨oc, od, kV, doc, pm, an, cdv, ct, osl, rfl, lk, hcd⟩ := F.ex
  refine ⟨fun s us ws X l1 l2 => BindsTo.of_eq ?_, fun r1 r2 => r1.append r2⟩
  match us, ws, l1, l2 with
  | [_], [_, _, _], _, _ => rfl
end
end Mk

set_option Elab.async false
set_option linter.all false
set_option maxRecDepth 100000
set_option maxHeartbeats 4000000
namespace Mk
open PySem PySem.Spec L2 PyProof.Rows

abbrev sPutP : Stmt := inClass (top 20) 3
abbrev sOutP : Stmt := inClass (top 20) 4
abbrev sSwapP : Stmt := inClass (top 20) 5
abbrev sMult : Stmt := top 29
abbrev sIsPrice : Stmt := top 28
/-- the three tables of the prices at x -/
def spTabP (C : Addr) (g : PTab → PTab → PTab) : Sp := fun vs H Q _ => ∃ (x : Addr) (t1 t2 : PTab) (t3 : STab), vs = [.ref x] ∧ PrAt C H x t1 t2 t3 ∧ ((g t1 t2).map (·.1)).Nodup ∧ (g t1 t2).length ≤ 60 ∧ Srt t1 t2 t3 ∧
  ∀ H' D, Same H H' → H D = none → H' D = some (.dK (kvsP (g t1 t2))) → Q (.ref D) H'
def spTabS (C : Addr) : Sp := fun vs H Q _ => ∃ (x : Addr) (t1 t2 : PTab) (t3 : STab), vs = [.ref x] ∧ PrAt C H x t1 t2 t3 ∧ (t3.map (·.1)).Nodup ∧ t3.length ≤ 60 ∧ Srt t1 t2 t3 ∧
  ∀ H' D, Same H H' → H D = none → H' D = some (.dT (kvsS t3)) → Q (.ref D) H'
theorem tab_one {α : Type} {t u : List (α × Int)} {le : α → α → Bool} (anti : ∀ a b, le a b = true → le b a = true → a = b) (nd : (t.map (·.1)).Nodup) (p : u.Perm t) (s1 : (t.map (·.1)).Pairwise (fun a b => le a b = true)) (s2 : (u.map (·.1)).Pairwise (fun a b => le a b = true)) : u = t := by
  rw [List.pairwise_map] at s1 s2
  refine List.Perm.eq_of_pairwise (fun a b ha hb h1 h2 => ?_) s2 s1 p
  have e := anti _ _ h1 h2
  have ha2 := p.mem_iff.mp ha
  obtain ⟨i, hi, e1⟩ := List.getElem_of_mem ha2
  obtain ⟨j, hj, e2⟩ := List.getElem_of_mem hb
  have hij : (t.map (·.1))[i]'(by rw [List.length_map]; exact hi) = (t.map (·.1))[j]'(by rw [List.length_map]; exact hj) := by
    rw [List.getElem_map, List.getElem_map, e1, e2, e]
  have := (List.getElem_inj nd).mp hij
  subst this
  rw [← e1, ← e2]
section
variable {P : Program} {w : World} {K : PySem.W.Frag} {mg : Str → Option Value} {base : Heap}
theorem look_no {f g : Str} {v : V} {r : List (Str × V)} (h : ¬ f = g) : List.lookup f ((g, v) :: r) = List.lookup f r := by
  have e : (f == g) = false := beq_eq_false_iff_ne.mpr h
  rw [List.lookup_cons, e]
theorem look_yes {f : Str} {v : V} {r : List (Str × V)} : List.lookup f ((f, v) :: r) = some v := by
  rw [List.lookup_cons, beq_self_eq_true]
theorem fld_put (t a b c : Addr) : List.lookup ("_put" : Str) (fldP t a b c) = some (V.ref a) :=
  (look_no (by decide +kernel)).trans look_yes
theorem fld_out (t a b c : Addr) : List.lookup ("_out" : Str) (fldP t a b c) = some (V.ref b) :=
  (look_no (by decide +kernel)).trans ((look_no (by decide +kernel)).trans look_yes)
theorem fld_swap (t a b c : Addr) : List.lookup ("_swap" : Str) (fldP t a b c) = some (V.ref c) :=
  (look_no (by decide +kernel)).trans ((look_no (by decide +kernel)).trans ((look_no (by decide +kernel)).trans look_yes))
theorem fld_signs (t a b c : Addr) : List.lookup ("_signs" : Str) (fldP t a b c) = some (V.ref t) := look_yes
theorem scPutP : FnScope ["self"] ["self"] (defScope sPutP) := ⟨rfl, rfl, rfl, by decide +kernel, rfl, by decide +kernel, by decide +kernel⟩
theorem ok_putP {f C : Addr} {fd : FuncData} (F : Fun K "put" "Prices.put" sPutP f fd) (T : Pc K C) (S : Cd P w K mg base 1 "ascending_dict" ["table"] spAsc) : FnOk P w K mg base CX0 2 f fd ["self"] (spTabP C fun t _ => t) := by
  obtain ⟨c, dc, Gc, cm, ck, cb⟩ := S.ex
  refine F.ok scPutP (fun vs H Q E h => ?_) (fun cdv A outer s H vs Q E hr h => ?_)
  · obtain ⟨x, t1, t2, t3, rfl, _⟩ := h
    rfl
  · obtain ⟨x, t1, t2, t3, rfl, ⟨dx, t, a, b, d, hx, ht, hT⟩, nd, hl, sr, q⟩ := h
    refine ⟨_, pss_one (ps_ret (pe_call Gc hr (by rfl) cm ck cb .nil pass0 (pa_cons (pe_fld (pv 0) rfl) pa_nil))), ?_⟩
    refine ⟨_, rfl, x, C, dx, _, _, rfl, hx, T.cl, T.n2, fld_put t a b d, a, rfl, .inl ⟨t1, hT.p, nd, hl, fun H1 D u s1 f1 e1 p1 r1 => ?_⟩⟩
    obtain rfl := tab_one byCs_anti nd p1 sr.a r1
    exact q _ _ s1 f1 e1
theorem scOutP : FnScope ["self"] ["self"] (defScope sOutP) := ⟨rfl, rfl, rfl, by decide +kernel, rfl, by decide +kernel, by decide +kernel⟩
theorem ok_outP {f C : Addr} {fd : FuncData} (F : Fun K "out" "Prices.out" sOutP f fd) (T : Pc K C) (S : Cd P w K mg base 1 "ascending_dict" ["table"] spAsc) : FnOk P w K mg base CX0 2 f fd ["self"] (spTabP C fun _ t => t) := by
  obtain ⟨c, dc, Gc, cm, ck, cb⟩ := S.ex
  refine F.ok scOutP (fun vs H Q E h => ?_) (fun cdv A outer s H vs Q E hr h => ?_)
  · obtain ⟨x, t1, t2, t3, rfl, _⟩ := h
    rfl
  · obtain ⟨x, t1, t2, t3, rfl, ⟨dx, t, a, b, d, hx, ht, hT⟩, nd, hl, sr, q⟩ := h
    refine ⟨_, pss_one (ps_ret (pe_call Gc hr (by rfl) cm ck cb .nil pass0 (pa_cons (pe_fld (pv 0) rfl) pa_nil))), ?_⟩
    refine ⟨_, rfl, x, C, dx, _, _, rfl, hx, T.cl, T.n3, fld_out t a b d, b, rfl, .inl ⟨t2, hT.o, nd, hl, fun H1 D u s1 f1 e1 p1 r1 => ?_⟩⟩
    obtain rfl := tab_one byCs_anti nd p1 sr.b r1
    exact q _ _ s1 f1 e1
theorem scSwapP : FnScope ["self"] ["self"] (defScope sSwapP) := ⟨rfl, rfl, rfl, by decide +kernel, rfl, by decide +kernel, by decide +kernel⟩
theorem ok_swapP {f C : Addr} {fd : FuncData} (F : Fun K "swap" "Prices.swap" sSwapP f fd) (T : Pc K C) (S : Cd P w K mg base 1 "ascending_dict" ["table"] spAsc) : FnOk P w K mg base CX0 2 f fd ["self"] (spTabS C) := by
  obtain ⟨c, dc, Gc, cm, ck, cb⟩ := S.ex
  refine F.ok scSwapP (fun vs H Q E h => ?_) (fun cdv A outer s H vs Q E hr h => ?_)
  · obtain ⟨x, t1, t2, t3, rfl, _⟩ := h
    rfl
  · obtain ⟨x, t1, t2, t3, rfl, ⟨dx, t, a, b, d, hx, ht, hT⟩, nd, hl, sr, q⟩ := h
    refine ⟨_, pss_one (ps_ret (pe_call Gc hr (by rfl) cm ck cb .nil pass0 (pa_cons (pe_fld (pv 0) rfl) pa_nil))), ?_⟩
    refine ⟨_, rfl, x, C, dx, _, _, rfl, hx, T.cl, T.n4, fld_swap t a b d, d, rfl, .inr ⟨t3, hT.s, nd, hl, fun H1 D u s1 f1 e1 p1 r1 => ?_⟩⟩
    obtain rfl := tab_one le2_anti nd p1 sr.c r1
    exact q _ _ s1 f1 e1
end
end Mk

set_option Elab.async false
set_option linter.all false
set_option maxRecDepth 100000
set_option maxHeartbeats 4000000
namespace Mk
open PySem PySem.Spec L2 PyProof.Rows

def timesP {α : Type} (t : List (α × Int)) (m : Int) : List (α × Int) := t.map fun p => (p.1, p.2 * m)
theorem timesP_keys {α : Type} (t : List (α × Int)) (m : Int) : (timesP t m).map (·.1) = t.map (·.1) := by
  unfold timesP
  rw [List.map_map]
  rfl
theorem cm100 {i m : Int} (h0 : 0 ≤ i) (h1 : i ≤ 100) : CMul i m := .inl ⟨by omega, by omega⟩
def spMult : Sp := fun vs H Q _ => ∃ (d : Addr) (m : Int), vs = [.ref d, .int m] ∧
  ((∃ t : PTab, H d = some (.dK (kvsP t)) ∧ (t.map (·.1)).Nodup ∧ t.length ≤ 60 ∧ (∀ p ∈ t, 0 ≤ p.2 ∧ p.2 ≤ 100) ∧ ∀ H' D, Same H H' → H D = none → H' D = some (.dK (kvsP (timesP t m))) → Q (.ref D) H') ∨
   ∃ t : STab, H d = some (.dT (kvsS t)) ∧ (t.map (·.1)).Nodup ∧ t.length ≤ 60 ∧ (∀ p ∈ t, 0 ≤ p.2 ∧ p.2 ≤ 100) ∧ ∀ H' D, Same H H' → H D = none → H' D = some (.dT (kvsS (timesP t m))) → Q (.ref D) H')
/-- the new dict at D grows while d is locked -/
structure Grw (H H1 : Hp) (d D : Addr) (u v : HO) : Prop where
  but : ∀ b o, b ≠ d → H b = some o → H1 b = some o
  at_ : H1 d = some u
  out : H1 D = some v
theorem Grw.start {H : Hp} {d D : Addr} {u v : HO} (hD : upd H d u D = none) : D ≠ d ∧ H D = none ∧ Grw H (upd (upd H d u) D v) d D u v := by
  have ne : D ≠ d := fun e => by
    rw [e, upd_same] at hD
    cases hD
  have h0 : H D = none := by rwa [upd_ne ne] at hD
  refine ⟨ne, h0, fun b o hb e => ?_, ?_, upd_same⟩
  · rw [upd_ne (ne_of_none e h0), upd_ne hb]
    exact e
  · rw [upd_ne ne.symm]
    exact upd_same
theorem Grw.next {H H1 : Hp} {d D : Addr} {u v v2 : HO} (W : Grw H H1 d D u v) (ne : D ≠ d) (h0 : H D = none) : Grw H (upd H1 D v2) d D u v2 := by
  refine ⟨fun a o hb e => ?_, ?_, upd_same⟩
  · rw [upd_ne (ne_of_none e h0)]
    exact W.but a o hb e
  · rw [upd_ne ne.symm]
    exact W.at_
theorem Grw.done {H H1 : Hp} {d D : Addr} {u v u0 : HO} (W : Grw H H1 d D u v) (hd : H d = some u0) : Same H (upd H1 d u0) := fun b o e => by
  by_cases hb : b = d
  · subst hb
    rw [hd] at e
    cases e
    exact upd_same
  · rw [upd_ne hb]
    exact W.but b o hb e
section
variable {P : Program} {w : World} {K : PySem.W.Frag} {mg : Str → Option Value} {base : Heap}
theorem scMult : FnScope ["table", "many", "key"] ["table", "many"] (defScope sMult) := ⟨rfl, rfl, rfl, by decide +kernel, rfl, by decide +kernel, by decide +kernel⟩
theorem ok_mult {f : Addr} {fd : FuncData} (F : Fun K "_multiplied" "_multiplied" sMult f fd) : FnOk P w K mg base CX0 1 f fd ["table", "many"] spMult := by
  refine F.ok scMult (fun vs H Q E h => ?_) (fun cdv A outer s H vs Q E hr h => ?_)
  · obtain ⟨d, m, rfl, _⟩ := h
    rfl
  · have hu := hu_of hr
    have h3 : A.units + 3 + 20 < cLine := by
      have h2 : A.units + 3 + 16 * 0 + 200 < cLine := hr.un
      omega
    obtain ⟨d, m, rfl, ⟨t, hd, nd, hl, hv, q⟩ | ⟨t, hd, nd, hl, hv, q⟩⟩ := h
    · refine ⟨_, pss_one (ps_ret (pe_lock (pe_dcG putP_ok (own := [("key", 2)]) (g := gName 2) (tt := tYes) rfl scMult.nd h3 (pi_keys (pv 0)) (blkOk_by (N := ["table", "many", "key"]) (sc := defScope sMult) (by decide +kernel))
        (fun _ _ _ _ _ => pg_name (i := 2) scMult.nd rfl (Or.inl rfl)) (fun _ _ _ _ _ => pts_nil) (fun _ _ _ _ _ => pv 2) (fun _ _ _ _ _ => pe_op op_mul (pe_dget hu (pv 0) (pv 2) (fun _ _ => rfl)) (pv 1))))), ?_⟩
      refine ⟨d, _, hd, trivial, fun od => ⟨_, rfl, d, od, rfl, .inl ⟨kvsP t, upd_same, fun D hD => ?_⟩⟩⟩
      obtain ⟨ne, h0, st⟩ := Grw.start (v := .dK []) hD
      refine wk_any (walk_keys (d := d) (o := od) (kvs := kvsP t)) (fun i H1 => Grw H H1 d D (.frz od (.dK (kvsP t))) (.dK (kvsP (timesP (t.take i) m)))) st (fun i H1 _ h1 => h1.at_) ?_ ?_
      · rintro i x H1 H2 hi h1 ⟨rfl, k, v, hx, rfl⟩
        have hi2 : i < t.length := by rwa [kvsP_len] at hi
        rw [kvsP_at hi2] at hx
        cases hx
        have mk : t[i].1 ∈ t.map (·.1) := List.mem_map.mpr ⟨_, List.getElem_mem hi2, rfl⟩
        have ev : look t t[i].1 = t[i].2 := look_mem nd _ (List.getElem_mem hi2)
        have hb := hv _ (List.getElem_mem hi2)
        have nin : t[i].1 ∉ (timesP (t.take i) m).map (·.1) := by
          rw [timesP_keys, List.map_take]
          have h2 : i < (t.map (·.1)).length := by rwa [List.length_map]
          have := not_before nd h2
          rwa [List.getElem_map] at this
        have gv := valP mk
        rw [ev] at gv
        refine ⟨rfl, _, rfl, _, rfl, _, rfl, d, V.int t[i].2, rfl, .inl ⟨kvsP t, Sum.inr t[i].1, .inr ⟨od, h1.at_⟩, rfl, gv.symm⟩, _, rfl, _, _, rfl, rfl, cm100 hb.1 hb.2, _, Sum.inr t[i].1, rfl, h1.out, ?_, ?_⟩
        · rw [kvsP_len]
          unfold timesP
          rw [List.length_map, List.length_take]
          exact Nat.lt_of_lt_of_le (by omega : min i t.length < 4000) (by decide)
        · rw [putP_new nin]
          have e : timesP (t.take i) m ++ [(t[i].1, t[i].2 * m)] = timesP (t.take (i + 1)) m := by
            unfold timesP
            rw [List.take_add_one, List.getElem?_eq_getElem hi2, List.map_append]
            rfl
          rw [e]
          exact h1.next ne h0
      · rintro H1 h1
        rw [kvsP_len, List.take_length] at h1
        refine ⟨h1.at_, q _ D (h1.done hd) h0 ?_⟩
        rw [upd_ne ne]
        exact h1.out
    · refine ⟨_, pss_one (ps_ret (pe_lock (pe_dcG putT_ok (own := [("key", 2)]) (g := gName 2) (tt := tYes) rfl scMult.nd h3 (pi_keys (pv 0)) (blkOk_by (N := ["table", "many", "key"]) (sc := defScope sMult) (by decide +kernel))
        (fun _ _ _ _ _ => pg_name (i := 2) scMult.nd rfl (Or.inl rfl)) (fun _ _ _ _ _ => pts_nil) (fun _ _ _ _ _ => pv 2) (fun _ _ _ _ _ => pe_op op_mul (pe_dget hu (pv 0) (pv 2) (fun _ _ => rfl)) (pv 1))))), ?_⟩
      refine ⟨d, _, hd, trivial, fun od => ⟨_, rfl, d, od, rfl, .inr ⟨kvsS t, upd_same, fun D hD => ?_⟩⟩⟩
      obtain ⟨ne, h0, st⟩ := Grw.start (v := .dT []) hD
      refine wk_any (walk_keysT (d := d) (o := od) (kvs := kvsS t)) (fun i H1 => Grw H H1 d D (.frz od (.dT (kvsS t))) (.dT (kvsS (timesP (t.take i) m)))) st (fun i H1 _ h1 => h1.at_) ?_ ?_
      · rintro i x H1 H2 hi h1 ⟨rfl, k, v, qa, hx, rfl, hq⟩
        have hi2 : i < t.length := by rwa [kvsS_len] at hi
        rw [kvsS_at hi2] at hx
        cases hx
        have mk : t[i].1 ∈ t.map (·.1) := List.mem_map.mpr ⟨_, List.getElem_mem hi2, rfl⟩
        have ev : look t t[i].1 = t[i].2 := look_mem nd _ (List.getElem_mem hi2)
        have hb := hv _ (List.getElem_mem hi2)
        have nin : t[i].1 ∉ (timesP (t.take i) m).map (·.1) := by
          rw [timesP_keys, List.map_take]
          have h2 : i < (t.map (·.1)).length := by rwa [List.length_map]
          have := not_before nd h2
          rwa [List.getElem_map] at this
        have gv := valS mk
        rw [ev] at gv
        refine ⟨rfl, _, rfl, _, rfl, _, rfl, d, V.int t[i].2, rfl, .inr ⟨kvsS t, keyOf t[i].1, qa, .inr ⟨od, h1.at_⟩, rfl, hq, gv.symm⟩, _, rfl, _, _, rfl, rfl, cm100 hb.1 hb.2, _, keyOf t[i].1, qa, rfl, hq, h1.out, ?_, ?_⟩
        · rw [kvsS_len]
          unfold timesP
          rw [List.length_map, List.length_take]
          exact Nat.lt_of_lt_of_le (by omega : min i t.length < 4000) (by decide)
        · rw [putS_new nin]
          have e : timesP (t.take i) m ++ [(t[i].1, t[i].2 * m)] = timesP (t.take (i + 1)) m := by
            unfold timesP
            rw [List.take_add_one, List.getElem?_eq_getElem hi2, List.map_append]
            rfl
          rw [e]
          exact h1.next ne h0
      · rintro H1 h1
        rw [kvsS_len, List.take_length] at h1
        refine ⟨h1.at_, q _ D (h1.done hd) h0 ?_⟩
        rw [upd_ne ne]
        exact h1.out
end
end Mk

set_option Elab.async false
set_option linter.all false
set_option maxRecDepth 100000
set_option maxHeartbeats 4000000
namespace Mk
open PySem PySem.Spec L2 PyProof.Rows

abbrev sIsPriceF : Stmt := top 28
abbrev sIsKind : Stmt := top 27
/-- a right price for this kind of change -/
def PrOk (k : Str) (v : V) : Prop := (k = "swap" ∧ (v = .non ∨ ∃ i, v = .int i ∧ nwB i 1 18 = true)) ∨ (¬ k = "swap" ∧ ∃ i, v = .int i ∧ nwB i 1 9 = true)
def spIsPrice : Sp := fun vs H Q _ => ∃ (k : Str) (v : V), vs = [.str k, v] ∧ PrOk k v ∧ Q (.bl true) H
/-- a kind of change of the signs zs, as a tuple of texts -/
def KiOk (zs : List Str) (xs : List Str) : Prop := (∃ k x : Str, xs = [k, x] ∧ (k = "put" ∨ k = "out") ∧ x ∈ zs) ∨ ∃ x y : Str, xs = [("swap" : Str), x, y] ∧ x ∈ zs ∧ y ∈ zs ∧ x ≠ y
def spIsKind : Sp := fun vs H Q _ => ∃ (c t : Addr) (xs zs : List Str), vs = [.ref c, .ref t] ∧ H c = some (.tup (xs.map V.str)) ∧ H t = some (.tup (zs.map V.str)) ∧ KiOk zs xs ∧ ∀ H', Same H H' → Q (.bl true) H'
section
variable {P : Program} {w : World} {K : PySem.W.Frag} {mg : Str → Option Value} {base : Heap}
theorem scIsPriceF : FnScope ["kind", "value"] ["kind", "value"] (defScope sIsPriceF) := ⟨rfl, rfl, rfl, by decide +kernel, rfl, by decide +kernel, by decide +kernel⟩
theorem ok_isPriceF {f : Addr} {fd : FuncData} (F : Fun K "_is_price" "_is_price" sIsPriceF f fd) (N : Pn mg) (J : Cd P w K mg base 2 "is_number_within" ["value", "least", "most"] spIsNumW) : FnOk P w K mg base CX0 3 f fd ["kind", "value"] spIsPrice := by
  obtain ⟨j, dj, G, gm, gk, gb⟩ := J.ex
  obtain ⟨t9, h9⟩ := N.mp
  obtain ⟨t18, h18⟩ := N.ms
  refine F.ok scIsPriceF (fun vs H Q E h => ?_) (fun cdv A outer s H vs Q E hr h => ?_)
  · obtain ⟨k, v, rfl, _⟩ := h
    rfl
  · obtain ⟨k, v, rfl, hp, q⟩ := h
    refine ⟨_, pss_cons (ps_if (pt_cmpR op_eq (pv 0) pe_str (nomark _)) (pss_one (ps_ret (pe_or (pe_cmpR op_isN (pv 1) pe_non (nomark _)) (pe_one (pe_call G hr (by rfl) gm gk gb .nil pass0 (pa_cons (pv 1) (pa_cons pe_int (pa_cons (pe_glob (v := .int 18) (by rfl) h18 ⟨_, rfl⟩) pa_nil)))))))) pss_nil)
      (pss_one (ps_ret (pe_call G hr (by rfl) gm gk gb .nil pass0 (pa_cons (pv 1) (pa_cons pe_int (pa_cons (pe_glob (v := .int 9) (by rfl) h9 ⟨_, rfl⟩) pa_nil)))))), ?_⟩
    refine ⟨_, rfl, rfl, _, rfl, ?_⟩
    rcases hp with ⟨rfl, hv⟩ | ⟨hk, i, rfl, hi⟩
    · rw [decide_eq_true rfl]
      rcases hv with rfl | ⟨i, rfl, hi⟩
      · refine iteT ⟨_, rfl, rfl, _, rfl, ?_⟩
        rw [decide_eq_true rfl]
        exact iteT q
      · refine iteT ⟨_, rfl, rfl, _, rfl, ?_⟩
        rw [decide_eq_false (fun h => nomatch h)]
        refine iteF ⟨_, rfl, i, 1, 18, rfl, ?_⟩
        rw [hi]
        exact q
    · rw [decide_eq_false (fun h => hk (by injection h))]
      refine iteF ⟨_, rfl, i, 1, 9, rfl, ?_⟩
      rw [hi]
      exact q
theorem scIsKind : FnScope ["value", "signs"] ["value", "signs"] (defScope sIsKind) := ⟨rfl, rfl, rfl, by decide +kernel, rfl, by decide +kernel, by decide +kernel⟩
theorem ok_isKind {f : Addr} {fd : FuncData} (F : Fun K "_is_kind" "_is_kind" sIsKind f fd) (B : Bn mg) (W : Wn mg) (O : On mg) (R : Cd P w K mg base 1 "_is_pair" ["value", "signs"] spPair) : FnOk P w K mg base CX0 2 f fd ["value", "signs"] spIsKind := by
  obtain ⟨j, dj, G, gm, gk, gb⟩ := R.ex
  refine F.ok scIsKind (fun vs H Q E h => ?_) (fun cdv A outer s H vs Q E hr h => ?_)
  · obtain ⟨c, t, xs, zs, rfl, _⟩ := h
    rfl
  · obtain ⟨c, t, xs, zs, rfl, hc, ht, hk, q⟩ := h
    refine ⟨_, pss_cons (ps_if (PW.pt (pw_or (pt_not (pt_val (pe_callB call_isi (by rfl) W.isi (by decide +kernel) (pa_cons (pv 0) (pa_cons (pe_bltn (v := .ty "tuple") (u := .type "tuple") (by rfl) O.tuple (by decide +kernel) rfl) pa_nil)))))
        (pw_or1 (pt_cmpR op_notIn_seq (pe_callB call_len_seq (by rfl) B.len PySem.boot_len (pa_cons (pv 0) pa_nil)) (pe_tup (pa_cons pe_int (pa_cons pe_int pa_nil))) (by rfl))))) (pss_one (ps_ret pe_bl)) pss_nil)
      (pss_cons (ps_if (pt_cmpR op_eq (pe_ix ix_tup (pv 0) pe_int (fun _ _ => rfl)) pe_str (nomark _)) (pss_one (ps_ret (pe_call G hr (by rfl) gm gk gb .nil pass0 (pa_cons (pe_slice sl_tup (pv 0) (po_some pe_int) po_none) (pa_cons (pv 1) pa_nil))))) pss_nil)
      (pss_one (ps_ret (pe_and (pe_cmpR op_in_seq (pe_ix ix_tup (pv 0) pe_int (fun _ _ => rfl)) (pe_tup (pa_cons pe_str (pa_cons pe_str pa_nil))) (by rfl))
        (pe_and (pe_cmpR op_eq (pe_callB call_len_seq (by rfl) B.len PySem.boot_len (pa_cons (pv 0) pa_nil)) pe_int (nomark _)) (pe_one (pe_cmpR op_in_seq (pe_ix ix_tup (pv 0) pe_int (fun _ _ => rfl)) (pv 1) (by rfl)))))))), ?_⟩
    refine ⟨_, rfl, _, _, _, _, true, rfl, .ty "tuple", .base (.tup hc), kit_ty (by decide +kernel), _, rfl, iteF ?_⟩
    refine ⟨_, rfl, c, _, rfl, .inr (SqT.of hc), (by show 2 ≤ sizeLine; decide), fun p hp => ?_⟩
    have s1 := Same.new (o := .tup [V.int 2, V.int 3]) hp
    have hc1 := s1 _ _ hc
    have ht1 := s1 _ _ ht
    have in2 : inV (V.int 2) [V.int 2, V.int 3] = true := by decide
    have in3 : inV (V.int 3) [V.int 2, V.int 3] = true := by decide
    rcases hk with ⟨k, x, rfl, hk, hx⟩ | ⟨x, y, rfl, hx, hy, hxy⟩
    · refine ⟨p, _, rfl, .inr (SqT.of upd_same), rfl, rfl, _, rfl, ?_⟩
      show (if (!inV (V.int 2) [V.int 2, V.int 3]) = true then _ else _)
      rw [in2]
      have kn : ¬ (V.str k = V.str "swap") := by
        rcases hk with rfl | rfl <;> decide +kernel
      refine iteF ⟨_, rfl, c, _, 0, _, rfl, rfl, SqT.of hc1, rfl, rfl, _, rfl, ?_⟩
      rw [decide_eq_false kn]
      refine iteF ⟨_, rfl, c, _, 0, _, rfl, rfl, SqT.of hc1, rfl, (by show 2 ≤ sizeLine; decide), fun p2 hp2 => ?_⟩
      have hc2 := (Same.new (o := .tup [V.str "put", V.str "out"]) hp2) _ _ hc1
      have ht2 := (Same.new (o := .tup [V.str "put", V.str "out"]) hp2) _ _ ht1
      have inK : inV (V.str k) [V.str "put", V.str "out"] = true := by
        have := inV_dec k ["put", "out"]
        rw [show ([V.str "put", V.str "out"] : List V) = (["put", "out"] : List Str).map V.str from rfl, this, decide_eq_true_iff]
        rcases hk with rfl | rfl
        · exact List.mem_cons_self
        · exact List.mem_cons_of_mem _ List.mem_cons_self
      refine ⟨p2, _, rfl, .inr (SqT.of upd_same), rfl, rfl, _, rfl, ?_⟩
      show (if inV (V.str k) [V.str "put", V.str "out"] = true then _ else _)
      rw [inK]
      refine iteT ⟨_, rfl, c, _, rfl, .inr (SqT.of hc2), rfl, _, rfl, ?_⟩
      refine iteT ⟨_, rfl, c, _, 1, _, rfl, rfl, SqT.of hc2, rfl, _, rfl, t, _, rfl, .inr (SqT.of ht2), rfl, flat_str zs, ?_⟩
      rw [inV_dec, decide_eq_true hx]
      exact q _ (Same.trans s1 (Same.new hp2))
    · refine ⟨p, _, rfl, .inr (SqT.of upd_same), rfl, rfl, _, rfl, ?_⟩
      show (if (!inV (V.int 3) [V.int 2, V.int 3]) = true then _ else _)
      rw [in3]
      refine iteF ⟨_, rfl, c, _, 0, _, rfl, rfl, SqT.of hc1, rfl, rfl, _, rfl, ?_⟩
      rw [decide_eq_true rfl]
      refine iteT ⟨_, rfl, _, rfl, c, _, rfl, SqT.of hc1, (by show ¬ (HT.sIx 3 0 (some 1) = 0 ∧ HT.sIx 3 3 none = 3); decide), fun p2 hp2 => ?_⟩
      have ht2 := (Same.new (o := .tup [V.str x, V.str y]) hp2) _ _ ht1
      refine ⟨_, rfl, p2, t, x, y, zs, rfl, upd_same, ht2, ?_⟩
      rw [decide_eq_true hx, decide_eq_true hy, decide_eq_true hxy]
      exact q _ (Same.trans s1 (Same.new (o := .tup [V.str x, V.str y]) hp2))
end
end Mk

set_option Elab.async false
set_option linter.all false
set_option maxRecDepth 100000
set_option maxHeartbeats 4000000
namespace Mk
open PySem PySem.Spec L2 PyProof.Rows

/-! ### a table with another price, or with one less -/
section
variable {α : Type} [DecidableEq α]
def setT (t : List (α × Int)) (k : α) (i : Int) : List (α × Int) := if k ∈ t.map (·.1) then t.map (fun p => if p.1 = k then (p.1, i) else p) else t ++ [(k, i)]
def delT (t : List (α × Int)) (k : α) : List (α × Int) := t.filter fun p => decide (p.1 ≠ k)
theorem setT_in {t : List (α × Int)} {k : α} {i : Int} (h : k ∈ t.map (·.1)) : (setT t k i).map (·.1) = t.map (·.1) := by
  unfold setT
  rw [if_pos h, List.map_map]
  refine List.map_congr_left fun p _ => ?_
  show (if p.1 = k then (p.1, i) else p).1 = p.1
  split <;> rfl
theorem setT_out {t : List (α × Int)} {k : α} {i : Int} (h : k ∉ t.map (·.1)) : setT t k i = t ++ [(k, i)] := by
  unfold setT
  rw [if_neg h]
theorem setT_mem {t : List (α × Int)} {k : α} {i : Int} {q : α × Int} (h : q ∈ setT t k i) : q ∈ t ∨ q = (k, i) := by
  unfold setT at h
  split at h
  · obtain ⟨p, hp, e⟩ := List.mem_map.mp h
    by_cases c : p.1 = k
    · rw [if_pos c] at e
      rw [← e, c]
      exact .inr rfl
    · rw [if_neg c] at e
      rw [← e]
      exact .inl hp
  · rcases List.mem_append.mp h with h | h
    · exact .inl h
    · exact .inr (List.mem_singleton.mp h)
theorem setT_nd {t : List (α × Int)} {k : α} {i : Int} (nd : (t.map (·.1)).Nodup) : ((setT t k i).map (·.1)).Nodup := by
  by_cases h : k ∈ t.map (·.1)
  · rw [setT_in h]
    exact nd
  · rw [setT_out h, List.map_append]
    refine List.nodup_append.mpr ⟨nd, by simp, fun a ha b hb e => ?_⟩
    have : b = k := by simpa using hb
    rw [e, this] at ha
    exact h ha
theorem delT_nd {t : List (α × Int)} {k : α} (nd : (t.map (·.1)).Nodup) : ((delT t k).map (·.1)).Nodup := nd.sublist (List.filter_sublist.map _)
theorem delT_mem {t : List (α × Int)} {k : α} {q : α × Int} (h : q ∈ delT t k) : q ∈ t := (List.mem_filter.mp h).1
end
theorem putP_set (t : PTab) (k : Str) (i : Int) : L2.putK (kvsP t) (Sum.inr k) (V.int i) = kvsP (setT t k i) := by
  by_cases h : k ∈ t.map (·.1)
  · have a : ((kvsP t).any fun kv => decide (kv.1 = (Sum.inr k : Key))) = true := by
      obtain ⟨p, hp, e⟩ := List.mem_map.mp h
      refine List.any_eq_true.mpr ⟨_, List.mem_map.mpr ⟨p, hp, rfl⟩, ?_⟩
      rw [decide_eq_true_iff, ← e]
    unfold L2.putK setT
    rw [if_pos a, if_pos h]
    unfold kvsP
    rw [List.map_map, List.map_map]
    refine List.map_congr_left fun p _ => ?_
    show (if (Sum.inr p.1 : Key) = Sum.inr k then (Sum.inr p.1, V.int i) else (Sum.inr p.1, V.int p.2)) = (Sum.inr (if p.1 = k then (p.1, i) else p).1, V.int (if p.1 = k then (p.1, i) else p).2)
    by_cases c : p.1 = k
    · rw [if_pos c, if_pos (by rw [c])]
    · rw [if_neg c, if_neg fun z => c (Sum.inr.inj z)]
  · rw [putP_new h, setT_out h]
theorem putS_set (t : STab) (k : Str × Str) (i : Int) : L2.putK (kvsS t) (keyOf k) (V.int i) = kvsS (setT t k i) := by
  by_cases h : k ∈ t.map (·.1)
  · have a : ((kvsS t).any fun kv => decide (kv.1 = keyOf k)) = true := by
      obtain ⟨p, hp, e⟩ := List.mem_map.mp h
      refine List.any_eq_true.mpr ⟨_, List.mem_map.mpr ⟨p, hp, rfl⟩, ?_⟩
      rw [decide_eq_true_iff, ← e]
    unfold L2.putK setT
    rw [if_pos a, if_pos h]
    unfold kvsS
    rw [List.map_map, List.map_map]
    refine List.map_congr_left fun p _ => ?_
    show (if keyOf p.1 = keyOf k then (keyOf p.1, V.int i) else (keyOf p.1, V.int p.2)) = (keyOf (if p.1 = k then (p.1, i) else p).1, V.int (if p.1 = k then (p.1, i) else p).2)
    by_cases c : p.1 = k
    · rw [if_pos c, if_pos (by rw [c])]
    · rw [if_neg c, if_neg fun z => c (key_inj z)]
  · rw [putS_new h, setT_out h]
theorem dropS_del (t : STab) (k : Str × Str) : L2.dropK (kvsS t) (keyOf k) = kvsS (delT t k) := by
  unfold L2.dropK delT kvsS
  rw [List.filter_map]
  refine congrArg _ (List.filter_congr fun p _ => ?_)
  show decide (keyOf p.1 ≠ keyOf k) = decide (p.1 ≠ k)
  by_cases c : p.1 = k
  · rw [c]
    simp
  · have n2 : keyOf p.1 ≠ keyOf k := fun z => c (key_inj z)
    rw [decide_eq_true c, decide_eq_true n2]
/-! ### the three tables stay alike -/
theorem Agree.set1 {t1 t2 : PTab} {t3 : STab} (a : Agree t1 t2 t3) {k : Str} {i : Int} (h : k ∈ t1.map (·.1)) : Agree (setT t1 k i) t2 t3 where
  sg := fun p hp => by
    rcases setT_mem hp with hp | rfl
    · exact a.sg p hp
    · obtain ⟨q, hq, e⟩ := List.mem_map.mp h
      rw [← e]
      exact a.sg q hq
  nd := setT_nd a.nd
  l1 := by
    have := congrArg List.length (setT_in (i := i) h)
    rw [List.length_map, List.length_map] at this
    rw [this]
    exact a.l1
  pm := by
    rw [setT_in h]
    exact a.pm
  l3 := a.l3
  pr := fun p hp => by
    rw [setT_in h]
    exact a.pr p hp
theorem Agree.set2 {t1 t2 : PTab} {t3 : STab} (a : Agree t1 t2 t3) {k : Str} {i : Int} (h : k ∈ t1.map (·.1)) : Agree t1 (setT t2 k i) t3 where
  sg := a.sg
  nd := a.nd
  l1 := a.l1
  pm := by
    rw [setT_in (a.pm.mem_iff.mpr h)]
    exact a.pm
  l3 := a.l3
  pr := a.pr
theorem okP_set {t : PTab} {k : Str} {i m : Int} (h : okP t m = true) (hi : nwB i 1 m = true) : okP (setT t k i) m = true := by
  unfold okP at *
  refine List.all_eq_true.mpr fun p hp => ?_
  rcases setT_mem hp with hp | rfl
  · exact List.all_eq_true.mp h p hp
  · exact hi
theorem okS_set {t : STab} {k : Str × Str} {i m : Int} (h : okS t m = true) (hi : nwB i 1 m = true) : okS (setT t k i) m = true := by
  unfold okS at *
  refine List.all_eq_true.mpr fun p hp => ?_
  rcases setT_mem hp with hp | rfl
  · exact List.all_eq_true.mp h p hp
  · exact hi
theorem okS_del {t : STab} {k : Str × Str} {m : Int} (h : okS t m = true) : okS (delT t k) m = true := by
  unfold okS at *
  exact List.all_eq_true.mpr fun p hp => List.all_eq_true.mp h p (delT_mem hp)
end Mk

set_option Elab.async false
set_option linter.all false
set_option maxRecDepth 100000
set_option maxHeartbeats 4000000
namespace Mk
open PySem PySem.Spec L2 PyProof.Rows

abbrev sWithP : Stmt := inClass (top 20) 10
/-- what a deed makes of the tables -/
def Deed (t1 t2 : PTab) (t3 : STab) (xs : List Str) (v : V) (r1 r2 : PTab) (r3 : STab) : Prop :=
  (∃ (s : Str) (i : Int), xs = [("put" : Str), s] ∧ s ∈ t1.map (·.1) ∧ v = .int i ∧ nwB i 1 9 = true ∧ r1 = setT t1 s i ∧ r2 = t2 ∧ r3 = t3) ∨
  (∃ (s : Str) (i : Int), xs = [("out" : Str), s] ∧ s ∈ t1.map (·.1) ∧ v = .int i ∧ nwB i 1 9 = true ∧ r1 = t1 ∧ r2 = setT t2 s i ∧ r3 = t3) ∨
  (∃ (a b : Str), xs = [("swap" : Str), a, b] ∧ a ∈ t1.map (·.1) ∧ b ∈ t1.map (·.1) ∧ a ≠ b ∧ r1 = t1 ∧ r2 = t2 ∧ ((v = .non ∧ r3 = delT t3 (a, b)) ∨ ∃ i, v = .int i ∧ nwB i 1 18 = true ∧ r3 = setT t3 (a, b) i ∧ r3.length ≤ 20))
/-- a def of the class that is read as a property -/
abbrev tb (a b c : Addr) : List (Key × V) := [(Sum.inr ("put" : Str), V.ref a), (Sum.inr ("out" : Str), V.ref b), (Sum.inr ("swap" : Str), V.ref c)]
theorem kn {a b : Str} (h : ¬ a = b) : ¬ (Sum.inr a : Key) = Sum.inr b := fun z => h (Sum.inr.inj z)
theorem tb_eq (a b c : Addr) : mergeK [] (tb a b c) = tb a b c := by
  have n1 : ¬ ("put" : Str) = "out" := by decide +kernel
  have n2 : ¬ ("put" : Str) = "swap" := by decide +kernel
  have n3 : ¬ ("out" : Str) = "swap" := by decide +kernel
  unfold mergeK tb
  simp only [List.foldl_cons, List.foldl_nil]
  rw [putK_new _ (show valV ([] : List (Key × V)) (Sum.inr "put") = none from rfl), List.nil_append, putK_new _ ((valV_neg (kn n1)).trans rfl), List.singleton_append, putK_new _ ((valV_neg (kn n2)).trans ((valV_neg (kn n3)).trans rfl))]
  rfl
theorem tb_put (a b c : Addr) : valV (tb a b c) (Sum.inr "put") = some (V.ref a) := valV_pos rfl
theorem tb_out (a b c : Addr) : valV (tb a b c) (Sum.inr "out") = some (V.ref b) := (valV_neg (kn (by decide +kernel))).trans (valV_pos rfl)
theorem tb_swap (a b c : Addr) : valV (tb a b c) (Sum.inr "swap") = some (V.ref c) := (valV_neg (kn (by decide +kernel))).trans ((valV_neg (kn (by decide +kernel))).trans (valV_pos rfl))
theorem Agree.del3 {t1 t2 : PTab} {t3 : STab} {k : Str × Str} (a : Agree t1 t2 t3) : Agree t1 t2 (delT t3 k) where
  sg := a.sg
  nd := a.nd
  l1 := a.l1
  pm := a.pm
  l3 := Nat.le_trans (List.length_filter_le _ _) a.l3
  pr := fun p hp => a.pr p (delT_mem hp)
theorem Agree.set3 {t1 t2 : PTab} {t3 : STab} {x y : Str} {i : Int} (a : Agree t1 t2 t3) (hx : x ∈ t1.map (·.1)) (hy : y ∈ t1.map (·.1)) (hxy : x ≠ y) (hl : (setT t3 (x, y) i).length ≤ 20) : Agree t1 t2 (setT t3 (x, y) i) where
  sg := a.sg
  nd := a.nd
  l1 := a.l1
  pm := a.pm
  l3 := hl
  pr := fun p hp => by
    rcases setT_mem hp with hp | rfl
    · exact a.pr p hp
    · exact ⟨hx, hy, hxy⟩
theorem right_1 {t1 t2 : PTab} {t3 : STab} {k : Str} {i : Int} (h : rightB t1 t2 t3 = true) (hi : nwB i 1 9 = true) : rightB (setT t1 k i) t2 t3 = true := by
  unfold rightB at *
  simp only [Bool.and_eq_true, Bool.not_eq_true'] at *
  refine ⟨okP_set h.1 hi, ?_, h.2.2⟩
  cases t1 with
  | nil => exact absurd h.2.1 (by simp)
  | cons p r =>
    unfold setT
    split <;> simp
theorem right_2 {t1 t2 : PTab} {t3 : STab} {k : Str} {i : Int} (h : rightB t1 t2 t3 = true) (hi : nwB i 1 9 = true) : rightB t1 (setT t2 k i) t3 = true := by
  unfold rightB at *
  simp only [Bool.and_eq_true, Bool.not_eq_true'] at *
  exact ⟨h.1, h.2.1, okP_set h.2.2.1 hi, h.2.2.2⟩
theorem right_3 {t1 t2 : PTab} {t3 u3 : STab} (h : rightB t1 t2 t3 = true) (hu : okS t3 18 = true → okS u3 18 = true) : rightB t1 t2 u3 = true := by
  unfold rightB at *
  simp only [Bool.and_eq_true, Bool.not_eq_true'] at *
  exact ⟨h.1, h.2.1, h.2.2.1, hu h.2.2.2⟩
structure Pd (P : Program) (w : World) (K : PySem.W.Frag) (mg : Str → Option Value) (base : Heap) (C : Addr) (k : Nat) (f : Str) (sp : Sp) : Prop where
  ex : ∃ (p g : Addr) (fd : FuncData), PropOf K C f p g ∧ FnOk P w K mg base CX0 k g fd ["self"] sp ∧ Binds K fd ["self"] []
section
variable {P : Program} {w : World} {K : PySem.W.Frag} {mg : Str → Option Value} {base : Heap}
theorem scWithP : FnScope ["self", "change", "price", "kind", "tables", "key"] ["self", "change", "price"] (defScope sWithP) := ⟨rfl, rfl, rfl, by decide +kernel, rfl, by decide +kernel, by decide +kernel⟩
def spWith (C : Addr) : Sp := fun vs H Q _ => ∃ (x c : Addr) (v : V) (xs : List Str) (t1 t2 : PTab) (t3 : STab) (r1 r2 : PTab) (r3 : STab), vs = [.ref x, .ref c, v] ∧ PrAt C H x t1 t2 t3 ∧ H c = some (.tup (xs.map V.str)) ∧ Agree t1 t2 t3 ∧ (t3.map (·.1)).Nodup ∧ rightB t1 t2 t3 = true ∧ Srt t1 t2 t3 ∧ Deed t1 t2 t3 xs v r1 r2 r3 ∧
  ∀ H' y u1 u2 u3, Same H H' → H y = none → PrAt C H' y u1 u2 u3 → u1.Perm r1 → u2.Perm r2 → u3.Perm r3 → Srt u1 u2 u3 → Q (.ref y) H'
theorem ok_withP {f fi C : Addr} {fd fdi : FuncData} (F : Fun K "with_price" "Prices.with_price" sWithP f fd) (T : Pc K C) (M : L2.Mk K C fi) (FI : Fun K "__init__" "Prices.__init__" sInit fi fdi) (I : FnOk P w K mg base CX0 6 fi fdi ["self", "put", "out", "swap"] (spInit C)) (mgC : mg "Prices" = some (.ref C))
    (A1 : Cd P w K mg base 2 "_is_kind" ["value", "signs"] spIsKind) (A2 : Cd P w K mg base 3 "_is_price" ["kind", "value"] spIsPrice) (P1 : Pd P w K mg base C 2 "put" (spTabP C fun t _ => t)) (P2 : Pd P w K mg base C 2 "out" (spTabP C fun _ t => t)) (P3 : Pd P w K mg base C 2 "swap" (spTabS C)) : FnOk P w K mg base CX0 8 f fd ["self", "change", "price"] (spWith C) := by
  obtain ⟨j, dj, G, gm, gk, gb⟩ := A1.ex
  obtain ⟨e, de, Ge, em, ek, eb⟩ := A2.ex
  obtain ⟨p1, g1, fd1, O1, G1, b1⟩ := P1.ex
  obtain ⟨p2, g2, fd2, O2, G2, b2⟩ := P2.ex
  obtain ⟨p3, g3, fd3, O3, G3, b3⟩ := P3.ex
  refine F.ok scWithP (fun vs H Q E h => ?_) (fun cdv A outer s H vs Q E hr h => ?_)
  · obtain ⟨x, c, v, xs, t1, t2, t3, r1, r2, r3, rfl, _⟩ := h
    rfl
  · obtain ⟨x, c, v, xs, t1, t2, t3, r1, r2, r3, rfl, hx, hc, ag, nd3, hright, sr, deed, q⟩ := h
    have hu := hu_of hr
    have k3 : Room 3 _ := hr.mono (by decide)
    refine ⟨_, pss_cons (ps_if (pt_not (pt_val (pe_call G (hr.mono (by decide)) (by rfl) gm gk gb .nil pass0 (pa_cons (pv 1) (pa_cons (pe_fld (pv 0) rfl) pa_nil))))) (pss_one ps_never) pss_nil)
      (pss_cons (ps_set (i := 3) scWithP.nd rfl (.inl rfl) (pe_ix ix_tup (pv 1) pe_int (fun _ _ => rfl)))
      (pss_cons (ps_if (pt_not (pt_val (pe_call Ge k3 (by rfl) em ek eb .nil pass0 (pa_cons (pv 3) (pa_cons (pv 2) pa_nil))))) (pss_one ps_never) pss_nil)
      (pss_cons (ps_set (i := 4) scWithP.nd rfl (.inl rfl) (pe_disp (pps_cons pe_str (pe_prop (pv 0) T.cl O1 G1 k3 b1 .nil pass0 rfl) (pps_cons pe_str (pe_prop (pv 0) T.cl O2 G2 k3 b2 .nil pass0 rfl) (pps_cons pe_str (pe_prop (pv 0) T.cl O3 G3 k3 b3 .nil pass0 rfl) pps_nil))) (by rfl) (by rfl) (fun z => by cases z) (by decide)))
      (pss_cons (ps_set (i := 5) scWithP.nd rfl (.inl rfl) (pe_ifExp (pt_cmpR op_eq (pv 3) pe_str (nomark _)) (pe_slice sl_tup (pv 1) (po_some pe_int) po_none) (pe_ix ix_tup (pv 1) pe_int (fun _ _ => rfl))))
      (pss_cons (ps_if (pt_cmpR op_isN (pv 2) pe_non (nomark _)) (pss_one (ps_expr (pe_bm PySem.F.plainAttrs_dict PySem.F.slot_dict_pop PySem.F.type_dict_pop (DX.mt_popT hu) (pe_dget hu (pv 4) (pv 3) (fun _ _ => rfl)) (pa_cons (pv 5) (pa_cons pe_non pa_nil)))))
          (pss_one (ps_asg (pv 2) (pg_sub (pe_dget hu (pv 4) (pv 3) (fun _ _ => rfl)) (pv 5) (set_dict hu)))))
      (pss_one (ps_ret (pe_makeK0 M I hr (by rfl) mgC (kbn_init FI) pass0 (pk_cons (pe_dget hu (pv 4) pe_str (fun _ _ => rfl)) (pk_cons (pe_dget hu (pv 4) pe_str (fun _ _ => rfl)) (pk_cons (pe_dget hu (pv 4) pe_str (fun _ _ => rfl)) pk_nil))))))))))), ?_⟩
    obtain ⟨dx, t, a, b, d, hx0, ht, hT⟩ := id hx
    have ki : KiOk (t1.map (·.1)) xs := by
      rcases deed with ⟨s, i, e, hs, _⟩ | ⟨s, i, e, hs, _⟩ | ⟨a, b, e, ha, hb, ne, _⟩
      · exact .inl ⟨_, s, e, .inl rfl, hs⟩
      · exact .inl ⟨_, s, e, .inr rfl, hs⟩
      · exact .inr ⟨a, b, e, ha, hb, ne⟩
    obtain ⟨k, rest, ek, pk⟩ : ∃ (k : Str) (rest : List Str), xs = k :: rest ∧ PrOk k v := by
      rcases deed with ⟨s, i, e, hs, ev, hi, _⟩ | ⟨s, i, e, hs, ev, hi, _⟩ | ⟨a, b, e, ha, hb, ne, _, _, ev⟩
      · exact ⟨_, _, e, .inr ⟨by decide +kernel, i, ev, hi⟩⟩
      · exact ⟨_, _, e, .inr ⟨by decide +kernel, i, ev, hi⟩⟩
      · refine ⟨_, _, e, .inl ⟨rfl, ?_⟩⟩
        rcases ev with ⟨ev, _⟩ | ⟨i, ev, hi, _⟩
        · exact .inl ev
        · exact .inr ⟨i, ev, hi⟩
    refine ⟨_, rfl, _, rfl, x, C, dx, _, _, rfl, hx0, T.cl, T.n1, fld_signs t a b d, c, t, xs, t1.map (·.1), rfl, hc, ht, ki, fun H1 s1 => ⟨_, rfl, iteF ?_⟩⟩
    have hc1 := s1 _ _ hc
    have at0 : atI (xs.map V.str) 0 = some (V.str k) := at_ofA (j := 0) rfl (by rw [ek]; rfl)
    refine ⟨_, rfl, c, _, 0, _, rfl, rfl, SqT.of hc1, at0, _, rfl, _, rfl, k, v, rfl, pk, _, rfl, iteF fun D hD => ?_⟩
    have hl1 := ag.l1
    have hl2 := ag.l2
    have hl3 := ag.l3
    have nd2 : (t2.map (·.1)).Nodup := ag.pm.nodup_iff.mpr ag.nd
    have s2 : Same H (upd H1 D (.dK [])) := Same.trans s1 (Same.new hD)
    refine ⟨_, rfl, x, dx, _, rfl, s2 _ _ hx0, x, t1, t2, t3, rfl, hx.same s2, ag.nd, (by show t1.length ≤ 60; omega), sr, fun H3 D1 s3 f3 e3 => ?_⟩
    have s13 := Same.trans s2 s3
    refine ⟨_, rfl, x, dx, _, rfl, s13 _ _ hx0, x, t1, t2, t3, rfl, hx.same s13, nd2, (by show t2.length ≤ 60; omega), sr, fun H4 D2 s4 f4 e4 => ?_⟩
    have s14 := Same.trans s13 s4
    refine ⟨_, rfl, x, dx, _, rfl, s14 _ _ hx0, x, t1, t2, t3, rfl, hx.same s14, nd3, by omega, sr, fun H5 D3 s5 f5 e5 => ?_⟩
    have s15 := Same.trans s14 s5
    have hD5 : H5 D = some (.dK []) := s5 _ _ (s4 _ _ (s3 _ _ upd_same))
    have g1' : H5 D1 = some (.dK (kvsP t1)) := s5 _ _ (s4 _ _ e3)
    have g2' : H5 D2 = some (.dK (kvsP t2)) := s5 _ _ e4
    refine ⟨hD5, [(Sum.inr ("put" : Str), V.ref D1), (Sum.inr ("out" : Str), V.ref D2), (Sum.inr ("swap" : Str), V.ref D3)], rfl, (by show 3 ≤ 15; decide), ?_⟩
    have fD : H D = none := by
      cases e : H D with
      | none => rfl
      | some o => have := s1 _ _ e; rw [hD] at this; cases this
    have s16 : Same H (upd H5 D (.dK (mergeK [] (tb D1 D2 D3)))) := fun b o e => by
      rw [upd_ne (ne_of_none e fD)]
      exact s15 _ _ e
    have n1 : D1 ≠ D := fun z => by rw [z, upd_same] at f3; cases f3
    have n2 : D2 ≠ D := fun z => by rw [z, s3 _ _ upd_same] at f4; cases f4
    have n3 : D3 ≠ D := fun z => by rw [z, s4 _ _ (s3 _ _ upd_same)] at f5; cases f5
    have n12 : D2 ≠ D1 := fun z => by rw [z, e3] at f4; cases f4
    have n13 : D3 ≠ D1 := fun z => by rw [z, s4 _ _ e3] at f5; cases f5
    have n23 : D3 ≠ D2 := fun z => by rw [z, e4] at f5; cases f5
    have new1 : H D1 = none := s2.free f3
    have new2 : H D2 = none := s13.free f4
    have new3 : H D3 = none := s14.free f5
    rw [tb_eq] at s16
    have DD6 : upd H5 D (.dK (tb D1 D2 D3)) D = some (.dK (tb D1 D2 D3)) := upd_same
    have q1 : upd H5 D (.dK (tb D1 D2 D3)) D1 = some (.dK (kvsP t1)) := by rw [upd_ne n1]; exact g1'
    have q2 : upd H5 D (.dK (tb D1 D2 D3)) D2 = some (.dK (kvsP t2)) := by rw [upd_ne n2]; exact g2'
    have q3 : upd H5 D (.dK (tb D1 D2 D3)) D3 = some (.dT (kvsS t3)) := by rw [upd_ne n3]; exact e5
    have em : upd H5 D (.dK (mergeK [] [(Sum.inr ("put" : Str), V.ref D1), (Sum.inr ("out" : Str), V.ref D2), (Sum.inr ("swap" : Str), V.ref D3)])) = upd H5 D (.dK (tb D1 D2 D3)) := by
      have := tb_eq D1 D2 D3
      unfold tb at this ⊢
      rw [this]
    rw [em]
    generalize upd H5 D (.dK (tb D1 D2 D3)) = H6 at s16 DD6 q1 q2 q3 ⊢
    have hc6 := s16 _ _ hc
    rcases deed with ⟨s0, i, ex, hs, rfl, hi, rfl, rfl, rfl⟩ | ⟨s0, i, ex, hs, rfl, hi, rfl, rfl, rfl⟩ | ⟨a0, b0, ex, ha, hb, hab, rfl, rfl, dd⟩
    · have ek2 : k = "put" := by rw [ex] at ek; injection ek with z _; exact z.symm
      subst ek2
      have at1 : atI (xs.map V.str) 1 = some (V.str s0) := at_ofA (j := 1) rfl (by rw [ex]; rfl)
      refine ⟨_, rfl, rfl, _, rfl, ?_⟩
      rw [decide_eq_false (by decide +kernel : ¬ V.str ("put" : Str) = V.str "swap")]
      refine iteF ⟨_, rfl, c, _, 1, _, rfl, rfl, SqT.of hc6, at1, ?_⟩
      refine ⟨_, rfl, rfl, _, rfl, ?_⟩
      rw [decide_eq_false (fun z => nomatch z : ¬ V.int i = V.non)]
      refine iteF ⟨_, rfl, _, rfl, _, rfl, D, V.ref D1, rfl, .inl ⟨tb D1 D2 D3, Sum.inr ("put" : Str), .inl DD6, rfl, (tb_put _ _ _).symm⟩, _, rfl, D1, _, rfl, .inl ⟨kvsP t1, Sum.inr s0, q1, rfl, by rw [kvsP_len]; exact Nat.lt_of_le_of_lt hl1 (by decide), rfl⟩, ?_⟩
      rw [putP_set]
      have DD7 : upd H6 D1 (.dK (kvsP (setT t1 s0 i))) D = some (.dK (tb D1 D2 D3)) := by rw [upd_ne n1.symm]; exact DD6
      have w1 : upd H6 D1 (.dK (kvsP (setT t1 s0 i))) D1 = some (.dK (kvsP (setT t1 s0 i))) := upd_same
      have w2 : upd H6 D1 (.dK (kvsP (setT t1 s0 i))) D2 = some (.dK (kvsP r2)) := by rw [upd_ne n12]; exact q2
      have w3 : upd H6 D1 (.dK (kvsP (setT t1 s0 i))) D3 = some (.dT (kvsS r3)) := by rw [upd_ne n13]; exact q3
      have s17 : Same H (upd H6 D1 (.dK (kvsP (setT t1 s0 i)))) := fun b o e => by
        rw [upd_ne (ne_of_none e new1)]
        exact s16 _ _ e
      generalize upd H6 D1 (.dK (kvsP (setT t1 s0 i))) = H7 at DD7 w1 w2 w3 s17 ⊢
      refine ⟨_, rfl, D, _, rfl, .inl ⟨tb D1 D2 D3, Sum.inr ("put" : Str), .inl DD7, rfl, (tb_put _ _ _).symm⟩, _, rfl, D, _, rfl, .inl ⟨tb D1 D2 D3, Sum.inr ("out" : Str), .inl DD7, rfl, (tb_out _ _ _).symm⟩, _, rfl, D, _, rfl, .inl ⟨tb D1 D2 D3, Sum.inr ("swap" : Str), .inl DD7, rfl, (tb_swap _ _ _).symm⟩, rfl, rfl, fun y dy hy hdy ne => ?_⟩
      have sN : Same H7 (upd (upd H7 dy (.own y)) y (.ins C dy [])) := fun b o e => by
        rw [upd_ne (ne_of_none e hy), upd_ne (ne_of_none e hdy)]
        exact e
      refine ⟨y, dy, D1, D2, D3, _, _, _, rfl, upd_same, ⟨sN _ _ w1, sN _ _ w2, sN _ _ w3⟩, ag.set1 hs, nd3, right_1 hright hi, fun H9 u1 u2 u3 b9 pr k1 k2 k3 sr9 => ⟨rfl, ?_⟩⟩
      refine q _ y u1 u2 u3 (fun b o e => ?_) (s17.free hy) pr k1 k2 k3 sr9
      have nb : b ≠ y := fun z => by
        have := s17 _ _ e
        rw [z, hy] at this
        cases this
      exact b9 _ _ nb (sN _ _ (s17 _ _ e))
    · have ek2 : k = "out" := by rw [ex] at ek; injection ek with z _; exact z.symm
      subst ek2
      have at1 : atI (xs.map V.str) 1 = some (V.str s0) := at_ofA (j := 1) rfl (by rw [ex]; rfl)
      refine ⟨_, rfl, rfl, _, rfl, ?_⟩
      rw [decide_eq_false (by decide +kernel : ¬ V.str ("out" : Str) = V.str "swap")]
      refine iteF ⟨_, rfl, c, _, 1, _, rfl, rfl, SqT.of hc6, at1, ?_⟩
      refine ⟨_, rfl, rfl, _, rfl, ?_⟩
      rw [decide_eq_false (fun z => nomatch z : ¬ V.int i = V.non)]
      refine iteF ⟨_, rfl, _, rfl, _, rfl, D, V.ref D2, rfl, .inl ⟨tb D1 D2 D3, Sum.inr ("out" : Str), .inl DD6, rfl, (tb_out _ _ _).symm⟩, _, rfl, D2, _, rfl, .inl ⟨kvsP t2, Sum.inr s0, q2, rfl, by rw [kvsP_len]; exact Nat.lt_of_le_of_lt hl2 (by decide), rfl⟩, ?_⟩
      rw [putP_set]
      have DD7 : upd H6 D2 (.dK (kvsP (setT t2 s0 i))) D = some (.dK (tb D1 D2 D3)) := by rw [upd_ne n2.symm]; exact DD6
      have w1 : upd H6 D2 (.dK (kvsP (setT t2 s0 i))) D1 = some (.dK (kvsP r1)) := by rw [upd_ne n12.symm]; exact q1
      have w2 : upd H6 D2 (.dK (kvsP (setT t2 s0 i))) D2 = some (.dK (kvsP (setT t2 s0 i))) := upd_same
      have w3 : upd H6 D2 (.dK (kvsP (setT t2 s0 i))) D3 = some (.dT (kvsS r3)) := by rw [upd_ne n23]; exact q3
      have s17 : Same H (upd H6 D2 (.dK (kvsP (setT t2 s0 i)))) := fun b o e => by
        rw [upd_ne (ne_of_none e new2)]
        exact s16 _ _ e
      generalize upd H6 D2 (.dK (kvsP (setT t2 s0 i))) = H7 at DD7 w1 w2 w3 s17 ⊢
      refine ⟨_, rfl, D, _, rfl, .inl ⟨tb D1 D2 D3, Sum.inr ("put" : Str), .inl DD7, rfl, (tb_put _ _ _).symm⟩, _, rfl, D, _, rfl, .inl ⟨tb D1 D2 D3, Sum.inr ("out" : Str), .inl DD7, rfl, (tb_out _ _ _).symm⟩, _, rfl, D, _, rfl, .inl ⟨tb D1 D2 D3, Sum.inr ("swap" : Str), .inl DD7, rfl, (tb_swap _ _ _).symm⟩, rfl, rfl, fun y dy hy hdy ne => ?_⟩
      have sN : Same H7 (upd (upd H7 dy (.own y)) y (.ins C dy [])) := fun b o e => by
        rw [upd_ne (ne_of_none e hy), upd_ne (ne_of_none e hdy)]
        exact e
      refine ⟨y, dy, D1, D2, D3, _, _, _, rfl, upd_same, ⟨sN _ _ w1, sN _ _ w2, sN _ _ w3⟩, ag.set2 hs, nd3, right_2 hright hi, fun H9 u1 u2 u3 b9 pr k1 k2 k3 sr9 => ⟨rfl, ?_⟩⟩
      refine q _ y u1 u2 u3 (fun b o e => ?_) (s17.free hy) pr k1 k2 k3 sr9
      have nb : b ≠ y := fun z => by
        have := s17 _ _ e
        rw [z, hy] at this
        cases this
      exact b9 _ _ nb (sN _ _ (s17 _ _ e))
    · have ek2 : k = "swap" := by rw [ex] at ek; injection ek with z _; exact z.symm
      subst ek2
      have hc7 : H6 c = some (.tup [V.str "swap", V.str a0, V.str b0]) := by rw [hc6, ex]; rfl
      refine ⟨_, rfl, rfl, _, rfl, ?_⟩
      rw [decide_eq_true rfl]
      refine iteT ⟨_, rfl, _, rfl, c, _, rfl, SqT.of hc7, (by show ¬ (HT.sIx 3 0 (some 1) = 0 ∧ HT.sIx 3 3 none = 3); decide), fun kp hkp => ?_⟩
      have sk := Same.new (o := .tup [V.str a0, V.str b0]) hkp
      have ekp : upd H6 kp (.tup (cutV [V.str "swap", V.str a0, V.str b0] (some 1) none)) = upd H6 kp (.tup [V.str a0, V.str b0]) := rfl
      rw [ekp]
      have q1' := sk _ _ q1
      have q2' := sk _ _ q2
      have q3' := sk _ _ q3
      have DD6' := sk _ _ DD6
      have hk' : upd H6 kp (.tup [V.str a0, V.str b0]) kp = some (.tup ((keyOf (a0, b0)).map kV)) := upd_same
      have s16' := Same.trans s16 sk
      generalize upd H6 kp (.tup [V.str a0, V.str b0]) = H8 at q1' q2' q3' DD6' hk' s16' ⊢
      refine ⟨_, rfl, rfl, _, rfl, ?_⟩
      have free3 := new3
      rcases dd with ⟨rfl, rfl⟩ | ⟨i, rfl, hi, rfl, hlen⟩
      · rw [decide_eq_true rfl]
        refine iteT ⟨_, rfl, _, rfl, D, V.ref D3, rfl, .inl ⟨tb D1 D2 D3, Sum.inr ("swap" : Str), .inl DD6', rfl, (tb_swap _ _ _).symm⟩, .inr (.inr (.inl ⟨rfl, .inr ⟨_, q3'⟩⟩)), _, rfl, D3, kvsS t3, keyOf (a0, b0), kp, _, rfl, rfl, q3', hk', fun v0 hv0 => ?_, fun hno => ?_⟩
        · rw [dropS_del]
          have DD7 : upd H8 D3 (.dT (kvsS (delT t3 (a0, b0)))) D = some (.dK (tb D1 D2 D3)) := by rw [upd_ne n3.symm]; exact DD6'
          have w1 : upd H8 D3 (.dT (kvsS (delT t3 (a0, b0)))) D1 = some (.dK (kvsP r1)) := by rw [upd_ne n13.symm]; exact q1'
          have w2 : upd H8 D3 (.dT (kvsS (delT t3 (a0, b0)))) D2 = some (.dK (kvsP r2)) := by rw [upd_ne n23.symm]; exact q2'
          have w3 : upd H8 D3 (.dT (kvsS (delT t3 (a0, b0)))) D3 = some (.dT (kvsS (delT t3 (a0, b0)))) := upd_same
          have s17 : Same H (upd H8 D3 (.dT (kvsS (delT t3 (a0, b0))))) := fun b o e => by
            rw [upd_ne (ne_of_none e free3)]
            exact s16' _ _ e
          generalize upd H8 D3 (.dT (kvsS (delT t3 (a0, b0)))) = H7 at DD7 w1 w2 w3 s17 ⊢
          refine ⟨_, rfl, D, _, rfl, .inl ⟨tb D1 D2 D3, Sum.inr ("put" : Str), .inl DD7, rfl, (tb_put _ _ _).symm⟩, _, rfl, D, _, rfl, .inl ⟨tb D1 D2 D3, Sum.inr ("out" : Str), .inl DD7, rfl, (tb_out _ _ _).symm⟩, _, rfl, D, _, rfl, .inl ⟨tb D1 D2 D3, Sum.inr ("swap" : Str), .inl DD7, rfl, (tb_swap _ _ _).symm⟩, rfl, rfl, fun y dy hy hdy ne => ?_⟩
          have sN : Same H7 (upd (upd H7 dy (.own y)) y (.ins C dy [])) := fun b o e => by
            rw [upd_ne (ne_of_none e hy), upd_ne (ne_of_none e hdy)]
            exact e
          refine ⟨y, dy, D1, D2, D3, _, _, _, rfl, upd_same, ⟨sN _ _ w1, sN _ _ w2, sN _ _ w3⟩, ag.del3, delT_nd nd3, right_3 hright okS_del, fun H9 u1 u2 u3 b9 pr k1 k2 k3 sr9 => ⟨rfl, ?_⟩⟩
          refine q _ y u1 u2 u3 (fun b o e => ?_) (s17.free hy) pr k1 k2 k3 sr9
          have nb : b ≠ y := fun z => by
            have := s17 _ _ e
            rw [z, hy] at this
            cases this
          exact b9 _ _ nb (sN _ _ (s17 _ _ e))
        · have ed : delT t3 (a0, b0) = t3 := by
            have hn : (a0, b0) ∉ t3.map (·.1) := fun m => by
              rw [valS m] at hno
              cases hno
            unfold delT
            refine List.filter_eq_self.mpr fun p hp => ?_
            rw [decide_eq_true_iff]
            exact fun e => hn (List.mem_map.mpr ⟨p, hp, e⟩)
          rw [← ed] at q3'
          have DD7 := DD6'
          have w1 := q1'
          have w2 := q2'
          have w3 := q3'
          have s17 := s16'
          generalize H8 = H7 at DD7 w1 w2 w3 s17 ⊢
          refine ⟨_, rfl, D, _, rfl, .inl ⟨tb D1 D2 D3, Sum.inr ("put" : Str), .inl DD7, rfl, (tb_put _ _ _).symm⟩, _, rfl, D, _, rfl, .inl ⟨tb D1 D2 D3, Sum.inr ("out" : Str), .inl DD7, rfl, (tb_out _ _ _).symm⟩, _, rfl, D, _, rfl, .inl ⟨tb D1 D2 D3, Sum.inr ("swap" : Str), .inl DD7, rfl, (tb_swap _ _ _).symm⟩, rfl, rfl, fun y dy hy hdy ne => ?_⟩
          have sN : Same H7 (upd (upd H7 dy (.own y)) y (.ins C dy [])) := fun b o e => by
            rw [upd_ne (ne_of_none e hy), upd_ne (ne_of_none e hdy)]
            exact e
          refine ⟨y, dy, D1, D2, D3, _, _, _, rfl, upd_same, ⟨sN _ _ w1, sN _ _ w2, sN _ _ w3⟩, ag.del3, delT_nd nd3, right_3 hright okS_del, fun H9 u1 u2 u3 b9 pr k1 k2 k3 sr9 => ⟨rfl, ?_⟩⟩
          refine q _ y u1 u2 u3 (fun b o e => ?_) (s17.free hy) pr k1 k2 k3 sr9
          have nb : b ≠ y := fun z => by
            have := s17 _ _ e
            rw [z, hy] at this
            cases this
          exact b9 _ _ nb (sN _ _ (s17 _ _ e))
      · rw [decide_eq_false (fun z => nomatch z : ¬ V.int i = V.non)]
        refine iteF ⟨_, rfl, _, rfl, _, rfl, D, V.ref D3, rfl, .inl ⟨tb D1 D2 D3, Sum.inr ("swap" : Str), .inl DD6', rfl, (tb_swap _ _ _).symm⟩, _, rfl, D3, _, rfl, .inr ⟨kvsS t3, keyOf (a0, b0), kp, q3', rfl, hk', by rw [kvsS_len]; exact Nat.lt_of_le_of_lt hl3 (by decide), rfl⟩, ?_⟩
        rw [putS_set]
        have DD7 : upd H8 D3 (.dT (kvsS (setT t3 (a0, b0) i))) D = some (.dK (tb D1 D2 D3)) := by rw [upd_ne n3.symm]; exact DD6'
        have w1 : upd H8 D3 (.dT (kvsS (setT t3 (a0, b0) i))) D1 = some (.dK (kvsP r1)) := by rw [upd_ne n13.symm]; exact q1'
        have w2 : upd H8 D3 (.dT (kvsS (setT t3 (a0, b0) i))) D2 = some (.dK (kvsP r2)) := by rw [upd_ne n23.symm]; exact q2'
        have w3 : upd H8 D3 (.dT (kvsS (setT t3 (a0, b0) i))) D3 = some (.dT (kvsS (setT t3 (a0, b0) i))) := upd_same
        have s17 : Same H (upd H8 D3 (.dT (kvsS (setT t3 (a0, b0) i)))) := fun b o e => by
          rw [upd_ne (ne_of_none e free3)]
          exact s16' _ _ e
        generalize upd H8 D3 (.dT (kvsS (setT t3 (a0, b0) i))) = H7 at DD7 w1 w2 w3 s17 ⊢
        refine ⟨_, rfl, D, _, rfl, .inl ⟨tb D1 D2 D3, Sum.inr ("put" : Str), .inl DD7, rfl, (tb_put _ _ _).symm⟩, _, rfl, D, _, rfl, .inl ⟨tb D1 D2 D3, Sum.inr ("out" : Str), .inl DD7, rfl, (tb_out _ _ _).symm⟩, _, rfl, D, _, rfl, .inl ⟨tb D1 D2 D3, Sum.inr ("swap" : Str), .inl DD7, rfl, (tb_swap _ _ _).symm⟩, rfl, rfl, fun y dy hy hdy ne => ?_⟩
        have sN : Same H7 (upd (upd H7 dy (.own y)) y (.ins C dy [])) := fun b o e => by
          rw [upd_ne (ne_of_none e hy), upd_ne (ne_of_none e hdy)]
          exact e
        refine ⟨y, dy, D1, D2, D3, _, _, _, rfl, upd_same, ⟨sN _ _ w1, sN _ _ w2, sN _ _ w3⟩, ag.set3 ha hb hab hlen, setT_nd nd3, right_3 hright fun z => okS_set z hi, fun H9 u1 u2 u3 b9 pr k1 k2 k3 sr9 => ⟨rfl, ?_⟩⟩
        refine q _ y u1 u2 u3 (fun b o e => ?_) (s17.free hy) pr k1 k2 k3 sr9
        have nb : b ≠ y := fun z => by
          have := s17 _ _ e
          rw [z, hy] at this
          cases this
        exact b9 _ _ nb (sN _ _ (s17 _ _ e))
end
end Mk

set_option Elab.async false
set_option linter.all false
set_option maxRecDepth 100000
set_option maxHeartbeats 4000000
/-! a class's own len, in, str, == and != -/
namespace Mk
open PySem PySem.Spec L2 PyProof.Rows

/-- the def g of the class at C under this name -/
structure OwnD (K : PySem.W.Frag) (C g : Addr) (name : Str) : Prop where
  find : PySem.W.findIn K (.ref C) name = some (some (.ref g))
  fn : PySem.W.isFn K (.ref g) = true
/-- it, with its promise -/
structure OwnF (X : Cx) (C : Addr) (n : Nat) (name : Str) (ps : List Str) (sp : Sp) : Prop where
  ex : ∃ (g : Addr) (fd : FuncData), OwnD X.K C g name ∧ FnOk X.prog X.w X.K X.mg X.base CX0 n g fd ps sp ∧ Binds X.K fd ps []
section
variable {X : Cx} {n : Nat} {C g : Addr} {fd : FuncData} {ps : List Str} {sp : Sp} {pins : List (Addr × Obj)} {σ : L2.St} {H : Hp} {s : Shared} {name : Str} {Q : VK}
theorem own_run (F : FnOk X.prog X.w X.K X.mg X.base CX0 n g fd ps sp) (hb : Binds X.K fd ps []) {A : Around} (sb : Sub X n A) (I : Inv X pins σ H s) {vs : List V} {us : List Value} (r : Vals vs us) (hsp : sp vs H Q (fun _ _ _ => False)) :
    wpAny (model X.prog X.w) A (call (.ref g) us) (fun v s' => ∃ x H', Inv X pins σ H' s' ∧ RelV x v ∧ Q x H') X.xe s := by
  have e1 := I.env0
  have e0 : Env0 X.prog X.w X.K X.mg X.base A X.stack s H := ⟨sb.fr.trans e1.frames, e1.mod, e1.bs, e1.bsz, e1.funs, e1.frf, e1.hok, e1.bare⟩
  have lu : us.length = ps.length := r.length.symm.trans (F.len _ _ _ _ hsp)
  have bd := hb s us I.kIn (by simpa using lu)
  rw [List.append_nil] at bd
  refine wpAny_call (codeAny_mono (F.run A X.stack s H ⟨us, []⟩ us vs Q _ sb.room e0 bd r hsp) fun res s' z => ?_)
  match res, z with
  | .error e, z => exact pass0 pins σ H s e s' I z
  | .ok (.ret u), z => exact I.after z
  | .ok .next, z => exact z.elim
  | .ok .brk, z => exact z.elim
  | .ok .cont, z => exact z.elim
theorem sub_1 {A : Around} (hr : Room (n + 1) X.A) : Sub X n X.A.in1 := ⟨hr.in1, rfl⟩
theorem sub_2 {A : Around} (hr : Room (n + 2) X.A) : Sub X n X.A.in1.in1 := ⟨hr.in1.in1, rfl⟩
/-- what stands behind a token more -/
theorem inv_tok {t : Nat} (I : Inv X pins σ H s) : Inv X pins σ H { s with toks := t } := by
  have := I.kept (h' := s.heap) (t' := t) fun _ _ e => e
  exact this
theorem call_len_own (O : OwnF X C n "__len__" ps sp) (hr : Room (n + 1) X.A) : CallR X (.builtin "len") (fun xs H Q => ∃ a dx fs, xs = [.ref a] ∧ H a = some (.ins C dx fs) ∧ sp [.ref a] H (fun v H' => ∃ k : Nat, v = .int k ∧ k < 2 ^ 63 ∧ Q v H') (fun _ _ _ => False)) := by
  intro pins s σ H xs us Q I r h
  obtain ⟨a, dx, fs, rfl, ha, h⟩ := h
  obtain ⟨u, rfl, hu⟩ := vals1 r
  obtain rfl : u = Value.ref a := hu
  obtain ⟨g, fd, D, F, hb⟩ := O.ex
  obtain ⟨mA, J, _⟩ := ins_get I.hok ha
  obtain ⟨od, J, _⟩ := J.look
  obtain ⟨m, hF⟩ := I.fr
  refine PySem.W.len_K hF I.ok.mod.kin J D.find D.fn (wpAny_mono (own_run F hb (sub_1 (A := X.A) hr) I r h) (fun v s' z => ?_) fun _ _ z => z)
  obtain ⟨x, H', I', rx, k, rfl, hk, q⟩ := z
  obtain ⟨t, rfl⟩ := rx
  exact ⟨⟨by omega, by omega⟩, .int k, H', inv_tok I', ⟨_, rfl⟩, q⟩
/-- x in o -/
def rInOwn (C : Addr) (sp : Sp) : R2 := fun x y H Q => ∃ a dx fs, y = .ref a ∧ H a = some (.ins C dx fs) ∧ sp [.ref a, x] H (fun v H' => ∃ b, v = .bl b ∧ Q v H') (fun _ _ _ => False)
theorem op_in_own (O : OwnF X C n "__contains__" ps sp) (hr : Room n X.A) : OpR X (compareOp .In) (rInOwn C sp) := by
  intro pins s σ H x y v u Q I rx ry h
  obtain ⟨a, dx, fs, rfl, ha, h⟩ := h
  obtain rfl : u = Value.ref a := ry
  obtain ⟨g, fd, D, F, hb⟩ := O.ex
  obtain ⟨mA, J, _⟩ := ins_get I.hok ha
  obtain ⟨od, J, _⟩ := J.look
  obtain ⟨m, hF⟩ := I.fr
  refine PySem.W.in_K hF I.ok.mod.kin J D.find D.fn (wpAny_mono (own_run (vs := [.ref a, x]) F hb ⟨hr, rfl⟩ I (.cons rfl (.cons rx .nil)) h) (fun w s' z => ?_) fun _ _ z => z)
  obtain ⟨x', H', I', rx', b, rfl, q⟩ := z
  obtain rfl : w = Value.bool b := rx'
  exact wpAny_truthy_bool ⟨.bl b, H', I', rfl, q⟩
theorem call_str_own (O : OwnF X C n "__str__" ps sp) (hr : Room (n + 2) X.A) : CallR X (.type "str") (fun xs H Q => ∃ a dx fs, xs = [.ref a] ∧ H a = some (.ins C dx fs) ∧ sp [.ref a] H (fun v H' => ∃ z : Str, v = .str z ∧ Q v H') (fun _ _ _ => False)) := by
  intro pins s σ H xs us Q I r h
  obtain ⟨a, dx, fs, rfl, ha, h⟩ := h
  obtain ⟨u, rfl, hu⟩ := vals1 r
  obtain rfl : u = Value.ref a := hu
  obtain ⟨g, fd, D, F, hb⟩ := O.ex
  obtain ⟨mA, J, _⟩ := ins_get I.hok ha
  obtain ⟨od, J, _⟩ := J.look
  refine PySem.W.kso_call hr.in1.in1.units0 I.kIn J D.find D.fn (wpAny_mono (own_run F hb (sub_2 (A := X.A) hr) I r h) (fun v s' z => ?_) fun _ _ z => z)
  obtain ⟨x, H', I', rx, k, rfl, q⟩ := z
  obtain ⟨t, rfl⟩ := rx
  exact ⟨.str k, H', I', ⟨_, rfl⟩, q⟩
/-- the kind of what stands on the right of o == .. -/
inductive Rgt (K : PySem.W.Frag) (C : Addr) (H : Hp) : V → Prop where
  | ins {b dx : Addr} {fs : List (Str × V)} : H b = some (.ins C dx fs) → Rgt K C H (.ref b)
  | lst {b : Addr} {xs : List V} : H b = some (.lst xs) → PySem.W.subIn K (.type "list") (.ref C) = some false → Rgt K C H (.ref b)
  | int (i : Int) : PySem.W.subIn K (.type "int") (.ref C) = some false → Rgt K C H (.int i)
def rEqOwn (X : Cx) (C : Addr) (sp : Sp) : R2 := fun x y H Q => ∃ a dx fs, x = .ref a ∧ H a = some (.ins C dx fs) ∧ Rgt X.K C H y ∧ sp [.ref a, y] H (fun v H' => ∃ b, v = .bl b ∧ Q v H') (fun _ _ _ => False)
theorem Rgt.looks {M : Model} {y : V} {u : Value} (h : Rgt X.K C H y) (I : Inv X pins σ H s) (r : RelV y u) : ∃ tb, PySem.W.Looks M s.heap (typeOf u) tb ∧ PySem.W.notFirst X.K C tb = true := by
  cases h with
  | ins e =>
    obtain rfl := r
    obtain ⟨mB, J, _⟩ := ins_get I.hok e
    obtain ⟨od, J, _⟩ := J.look
    exact ⟨_, J.type, by simp [PySem.W.notFirst]⟩
  | lst e hs =>
    obtain rfl := r
    obtain ⟨z, its, k, r, e⟩ := I.hok _ _ e
    refine ⟨.type "list", fun A Q E s2 kp q => wpAny_typeOf_ref (kp _ _ e) q, ?_⟩
    unfold PySem.W.notFirst
    rw [hs]
    simp
  | int i hs =>
    obtain ⟨t, rfl⟩ := r
    refine ⟨.type "int", fun A Q E s2 kp q => wpAny_pure q, ?_⟩
    unfold PySem.W.notFirst
    rw [hs]
    simp
theorem op_eq_own (O : OwnF X C n "__eq__" ps sp) (hr : Room n X.A) : OpR X (compareOp .Eq) (rEqOwn X C sp) := by
  intro pins s σ H x y v u Q I rx ry h
  obtain ⟨a, dx, fs, rfl, ha, hy, h⟩ := h
  obtain rfl : v = Value.ref a := rx
  obtain ⟨g, fd, D, F, hb⟩ := O.ex
  obtain ⟨mA, J, _⟩ := ins_get I.hok ha
  obtain ⟨od, J, _⟩ := J.look
  obtain ⟨m, hF⟩ := I.fr
  obtain ⟨tb, hl, hn⟩ := hy.looks (M := model X.prog X.w) I ry
  refine PySem.W.cmp_K (op := .Eq) hr.units0 hF I.ok.mod.kin J hl hn D.find D.fn (wpAny_mono (own_run (vs := [.ref a, y]) F hb ⟨hr, rfl⟩ I (.cons rfl (.cons ry .nil)) h) (fun w s' z => ?_) fun _ _ z => z)
  obtain ⟨x', H', I', rx', b, rfl, q⟩ := z
  obtain rfl : w = Value.bool b := rx'
  exact ⟨.bl b, H', I', rfl, q⟩
/-- what != of an own == leans on -/
structure NeD (K : PySem.W.Frag) (C : Addr) : Prop where
  find : PySem.W.findIn K (.ref C) "__ne__" = some (some (.builtin "object.__ne__"))
  obj : PySem.W.mroIn K C (.type "object") = some true
theorem run_ne (O : OwnF X C n "__eq__" ps sp) (hr : Room (n + 1) X.A) {a dx : Addr} {fs : List (Str × V)} {y : V} {u : Value} (ne : NeD X.K C) (I : Inv X pins σ H s) (ha : H a = some (.ins C dx fs)) (ry : RelV y u) (h : sp [.ref a, y] H (fun v H' => ∃ b, v = .bl b ∧ Q (.bl (!b)) H') (fun _ _ _ => False)) :
    wpAny (model X.prog X.w) X.A (tryCompare (.ref a) "__ne__" u) (fun r s' => ∃ x H' v, r = some v ∧ Inv X pins σ H' s' ∧ RelV x v ∧ Q x H' ∧ ∃ b, v = .bool b) X.xe s := by
  obtain ⟨g, fd, D, F, hb⟩ := O.ex
  obtain ⟨mA, J, _⟩ := ins_get I.hok ha
  obtain ⟨od, J, _⟩ := J.look
  have body : wpAny (model X.prog X.w) X.A.in1 (Builtin.«object.__ne__» ⟨[.ref a, u], []⟩) (fun fin s' => ∃ b H', fin = .done (.ret (.bool (!b))) ∧ Inv X pins σ H' s' ∧ Q (.bl (!b)) H') X.xe s := by
    unfold Builtin.«object.__ne__»
    refine wpAny_bind (m := slotArgs "__ne__" 1 _) (wpAny_pure ?_)
    refine wpAny_bind (m := cRoomFor _ _) (wpAny_cRoomFor hr.in1.units0 ?_)
    refine wpAny_bind (m := callSpecialIfBound? (.ref a) _ _) (PySem.W.ifBound_K I.kIn J D.find D.fn (wpAny_mono (own_run (vs := [.ref a, y]) F hb (sub_1 (A := X.A) hr) I (.cons rfl (.cons ry .nil)) h) (fun w s' z => ?_) fun _ _ z => z))
    obtain ⟨x', H', I', rx', b, rfl, q⟩ := z
    obtain rfl : w = Value.bool b := rx'
    exact wpAny_bind (wpAny_truthy_bool (wpAny_pure ⟨b, H', rfl, I', q⟩))
  unfold tryCompare
  refine wpAny_bind (m := callSpecialIfBound? (.ref a) _ _) ?_
  simp only [callSpecialIfBound?, bindSpecialIfBound?]
  refine wpAny_holding (wpAny_bind (wpAny_bind (wpAny_bind (J.type.here ((PySem.W.looks_findIn I.kIn ne.find).here ?_)))))
  refine wpAny_bind (wpAny_askSetting (wpAny_ite ?_))
  have fin : ∀ R : Option Value → Shared → Prop, (∀ b H' s', Inv X pins σ H' s' → Q (.bl (!b)) H' → R (some (.bool (!b))) s') → wpAny (model X.prog X.w) X.A (call (.builtin "object.__ne__") ([.ref a] ++ [u]) >>= fun v => pure (some v)) R X.xe s := fun R hR => by
    refine wpAny_bind (wpAny_call (codeAny_call_builtin PySem.F.slot_enumerate_ne.plain PySem.F.cmpEntry_ne (PySem.W.check_slot (i := "object.__ne__") (owner := "object") (n := "__ne__") PySem.F.cmpKind_ne PySem.F.cmpSplit_ne (J.type.andThen (PySem.W.looks_mroIn I.kIn ne.obj)) (PySem.F.cmpArgs_ne _ _) ?_)))
    refine wpAny_mono body (fun fn s' z => ?_) fun _ _ z => z
    obtain ⟨b, H', rfl, I', q⟩ := z
    exact wpAny_pure (hR b H' s' I' q)
  have last : ∀ b H' s', Inv X pins σ H' s' → Q (.bl (!b)) H' → ∃ x H'' v, some (Value.bool (!b)) = some v ∧ Inv X pins σ H'' s' ∧ RelV x v ∧ Q x H'' ∧ ∃ b, v = .bool b := fun b H' s' I' q => ⟨.bl (!b), H', _, rfl, I', rfl, q, _, rfl⟩
  split
  · refine wpAny_bind ((PySem.W.Looks.of_pure (PySem.F.slot_enumerate_ne.bind _)).here (wpAny_pure ?_))
    exact fin _ fun b H' s' I' q => wpAny_pure (last b H' s' I' q)
  · refine wpAny_tryCatch (wpAny_bind ((PySem.W.Looks.of_pure (PySem.F.slot_enumerate_ne.bind _)).here (wpAny_pure ?_)))
    exact fin _ fun b H' s' I' q => wpAny_pure (last b H' s' I' q)
def rNeOwn (X : Cx) (C : Addr) (sp : Sp) : R2 := fun x y H Q => ∃ a dx fs, x = .ref a ∧ H a = some (.ins C dx fs) ∧ Rgt X.K C H y ∧ sp [.ref a, y] H (fun v H' => ∃ b, v = .bl b ∧ Q (.bl (!b)) H') (fun _ _ _ => False)
theorem op_ne_own (O : OwnF X C n "__eq__" ps sp) (ne : NeD X.K C) (hr : Room (n + 1) X.A) : OpR X (compareOp .NotEq) (rNeOwn X C sp) := by
  intro pins s σ H x y v u Q I rx ry h
  obtain ⟨a, dx, fs, rfl, ha, hy, h⟩ := h
  obtain rfl : v = Value.ref a := rx
  obtain ⟨mA, J, _⟩ := ins_get I.hok ha
  obtain ⟨od, J, _⟩ := J.look
  obtain ⟨tb, hl, hn⟩ := hy.looks (M := model X.prog X.w) I ry
  have one := run_ne O hr ne I ha ry h
  show wpAny (model X.prog X.w) X.A (richCompare .NotEq (.ref a) u) (EP X pins σ Q) X.xe s
  unfold richCompare
  simp only [oneThing_ref]
  refine wpAny_holding (wpAny_bind (wpAny_cRoomFor hr.units0 ?_))
  refine wpAny_bind (J.type.here (wpAny_bind (hl.here ?_)))
  have fin : ∀ r s', (∃ x H' v, r = some v ∧ Inv X pins σ H' s' ∧ RelV x v ∧ Q x H' ∧ ∃ b, v = .bool b) → ∃ v, r = some v ∧ EP X pins σ Q v s' := fun r s' ⟨x, H', v, e, I', rv, q, _⟩ => ⟨v, e, x, H', I', rv, q⟩
  split
  · rename_i q
    have e : PySem.W.subIn X.K tb (.ref C) = some false := by
      rcases Bool.or_eq_true_iff.mp hn with e | e
      · rw [beq_iff_eq.mp e] at q; simp at q
      · exact beq_iff_eq.mp e
    refine wpAny_bind ((PySem.W.looks_subIn I.kIn e).here ?_)
    simp only [Bool.false_eq_true, if_false]
    refine wpAny_bind (wpAny_mono one (fun r s' z => ?_) fun _ _ e => e)
    obtain ⟨v, rfl, hq⟩ := fin _ _ z
    exact wpAny_pure hq
  · refine wpAny_bind (wpAny_pure ?_)
    simp only [Bool.false_eq_true, if_false]
    refine wpAny_bind (wpAny_mono one (fun r s' z => ?_) fun _ _ e => e)
    obtain ⟨v, rfl, hq⟩ := fin _ _ z
    exact wpAny_pure hq
end
end Mk

set_option Elab.async false
set_option linter.all false
set_option maxRecDepth 100000
set_option maxHeartbeats 1000000
namespace Mk
open PySem PySem.Spec L2 PyProof.Rows

abbrev sContP : Stmt := inClass (top 20) 13
abbrev sHave : Stmt := top 0
/-- data, an empty dict too -/
inductive Da (K : PySem.W.Frag) (H : Hp) : V → PyData → Prop where
  | of {v : V} {d : PyData} : Dp K H v d → SeqAt.shaped d = true → Da K H v d
  | dic {a : Addr} : H a = some (.dK []) → Da K H (.ref a) (.dict [])
/-- it is one of these texts -/
def inS (zs : List Str) : PyData → Bool
  | .str z => decide (z ∈ zs)
  | _ => false
theorem any_inS : ∀ (zs : List Str) (d : PyData), ((zs.map PyData.str).any fun y => PyData.eqv y d) = inS zs d
  | [], .str z => by simp [inS]
  | [], .none | [], .bool _ | [], .int _ | [], .list _ | [], .tuple _ | [], .dict _ => by simp [inS]
  | x :: zs, .str z => by
    have ih := any_inS zs (.str z)
    rw [List.map_cons, List.any_cons, ih]
    unfold inS
    have e : PyData.eqv (.str x) (.str z) = decide (x = z) := by
      show (x == z) = decide (x = z)
      by_cases h : x = z
      · rw [decide_eq_true h, h, beq_self_eq_true]
      · rw [decide_eq_false h, beq_eq_false_iff_ne.mpr h]
    rw [e]
    by_cases h : x = z
    · subst h
      simp
    · have h2 : ¬ z = x := fun k => h k.symm
      simp [h, h2]
  | x :: zs, .none | x :: zs, .bool _ | x :: zs, .int _ | x :: zs, .list _ | x :: zs, .tuple _ | x :: zs, .dict _ => by
    rw [List.map_cons, List.any_cons, any_inS zs _]
    simp [inS, PyData.eqv]
theorem strs_read {h : Heap} : ∀ {zs : List Str} {vs : List Value} {as : List Addr}, ReadsAll h vs (zs.map PyData.str) as → ∀ y ∈ vs, ∃ (z : Str) (t : Tok), y = .str z t
  | [], _, _, .nil, _, hy => nomatch hy
  | z :: zs, _, _, .cons r1 r2, y, hy => by
    rcases List.mem_cons.mp hy with rfl | hy
    · cases r1
      exact ⟨_, _, rfl⟩
    · exact strs_read r2 y hy
theorem lay_strs' (zs : List Str) (h : ∀ z ∈ zs, PyData.strOk z = true) : PyData.canLayAll0 (zs.map PyData.str) = true := lay_strs zs h
section
variable {A : Around} {s : Shared}
/-- a text is no dict -/
theorem eq_str_dict {d : Addr} {o : Obj} {es : Array DictEntry} {ep : Nat} (b : Str) (u : Tok) (ho : s.heap.get? d = some o) (hx : o.ExactDict) (hd : o.data = .dict es ep) (hu : A.units < cLine) : SeqAt.EqAt A s (.str b u) (.ref d) false := fun prog w E Q h => by
  have ty : s.TypeIs (.ref d) "dict" := ⟨o, ho, hx.1⟩
  have f1 : wpAny (model prog w) A (richCompare .Eq (.str b u) (.ref d)) (fun v s' => v = .bool false ∧ s' = s) E s := by
    refine SeqAt.rc_eq_decline_or (k := false) (typeIs_str s b u) ty (by decide) PySem.F.sub_dict_str PySem.F.slot_str_eq PySem.F.slot_dict_eq_refl (fun Q' hq => ?_) (fun Q' hq => ?_) (fun Q' hq => wpAny_of_eq (rfl : isSame (.str b u) (.ref d) = pure false) hq) (.inr hu) ⟨rfl, rfl⟩
    · refine wpAny_call_entry PySem.F.slot_str_eq (typeIs_str s b u) PySem.F.entry_str_eq ?_ (PySem.F.args_str_eq_2 _ _)
      wp_walk using wpAny_load ho
      rw [hd]
      refine wpAny_pure (wpAny_bind (wpAny_rule (wpAny_pure ⟨_, rfl, hq⟩)))
    · refine wpAny_call_entry PySem.F.slot_dict_eq ty PySem.F.entry_dict_eq ?_ (PySem.F.args_dict_eq_2 _ _)
      show wpAny (model prog w) _ (Builtin.Dict.dictSlotArgs "__eq__" ⟨[.ref d, .str b u], []⟩ >>= _) _ _ s
      unfold Builtin.Dict.dictSlotArgs
      refine wpAny_bind (wpAny_bind (wpAny_notOrdered_dict ty ?_))
      show wpAny (model prog w) _ (pure (Value.ref d, Value.str b u)) _ _ s
      refine wpAny_pure (wpAny_bind (wpAny_isInstance (T := "str") (typeIs_str s b u) PySem.F.sub_str_dict ?_))
      simp only [Bool.not_false, ite_true]
      first
        | exact wpAny_bind (wpAny_rule (wpAny_pure ⟨_, rfl, hq⟩))
        | exact wpAny_rule (wpAny_pure ⟨_, rfl, hq⟩)
        | exact wpAny_bind (wpAny_rule (wpAny_bind (wpAny_pure (wpAny_pure ⟨_, rfl, hq⟩))))
  unfold eqBool
  refine wpAny_holding (wpAny_ite_split (fun hab => absurd (eq_of_beq hab) nofun) fun _ => wpAny_bind (wpAny_mono f1 (fun v s' z => ?_) fun _ _ z => z))
  obtain ⟨rfl, rfl⟩ := z
  exact wpAny_truthy_bool h
end
section
variable {X : Cx}
def rInS (K : PySem.W.Frag) : R2 := fun x y H Q => ∃ p d, ∃ zs : List Str, y = .ref p ∧ SqT K H p (zs.map V.str) ∧ (∀ z ∈ zs, PyData.strOk z = true) ∧ Da K H x d ∧ Q (.bl (inS zs d)) H
theorem op_inS (hu : X.A.units + 65 < cLine) : OpR X (compareOp .In) (rInS X.K) := by
  intro pins s σ H x y v u Q I rx ry h
  obtain ⟨p, d, zs, rfl, hp, ok, hd, q⟩ := h
  obtain ⟨bs, r2⟩ := Dp.reads I (.tuple (zs.map PyData.str)) (.ref p) u (.tup hp (dpAll_str zs)) ry
  have dep : PyData.depthAll (zs.map PyData.str) = 0 := depth_strs zs
  have fin : wpAny (model X.prog X.w) X.A (compareOp .In v u) (EP X pins σ Q) X.xe s → wpAny (model X.prog X.w) X.A (compareOp .In v u) (EP X pins σ Q) X.xe s := id
  have last : EP X pins σ Q (Value.bool ((zs.map PyData.str).any fun y => PyData.eqv y d)) s := by
    rw [any_inS]
    exact ⟨.bl (inS zs d), H, I, rfl, q⟩
  cases hd with
  | of h1 h2 =>
    obtain ⟨as, r1⟩ := Dp.reads I d x v h1 rx
    exact SeqAt.in_tuple_reads r2 r1 (lay_strs' zs ok) (SeqAt.canLay_of_shaped h2) (by rw [dep]; omega) last
  | dic h1 =>
    obtain rfl := rx
    obtain ⟨_, _, vs, kv, o, es, ep, ho, hx, hdt, r⟩ := I.hok _ _ h1
    have e0 : vs = [] := by cases kv; rfl
    subst e0
    have ez : es = #[] := by
      have := r.2.1.length
      simpa using this
    subst ez
    have all : ((zs.map PyData.str).any fun y => PyData.eqv y (.dict [])) = false := any_inS zs (.dict [])
    rw [all] at last
    cases r2 with
    | tuple h1 h2 h3 h4 =>
      refine SeqAt.in_tupleAt (fun _ => false) ⟨_, h1, h2, _, h3⟩ (fun y hy => ?_) (by rw [show (Array.any _ fun _ => false) = false from Array.any_eq_false.mpr (by simp)]; exact last)
      obtain ⟨dy, cs, ry, _, _⟩ := SeqAt.readsAll_mem _ _ _ (lay_strs' zs ok) h4 y (by simpa using hy)
      have hs := strs_read h4 y (by simpa using hy)
      obtain ⟨z, tk, rfl⟩ := hs
      exact eq_str_dict z tk ho hx hdt (by show X.A.units + 1 < cLine; omega)
theorem inSK (K : PySem.W.Frag) (hu : X.A.units + 65 < cLine) (hK : X.K = K := by rfl) : OpR X (compareOp .In) (rInS K) := by
  subst hK
  exact op_inS hu
end
def spCont (K : PySem.W.Frag) (C : Addr) : Sp := fun vs H Q _ => ∃ (x : Addr) (v : V) (d : PyData) (t1 t2 : PTab) (t3 : STab), vs = [.ref x, v] ∧ PrAt C H x t1 t2 t3 ∧ (∀ p ∈ t1, sgB p.1 = true) ∧ Da K H v d ∧ Q (.bl (inS (t1.map (·.1)) d)) H
def spHave (C : Addr) : Sp := fun vs H Q _ => ∃ (x t : Addr) (zs : List Str) (t1 t2 : PTab) (t3 : STab), vs = [.ref x, .ref t] ∧ PrAt C H x t1 t2 t3 ∧ (∀ p ∈ t1, sgB p.1 = true) ∧ H t = some (.tup (zs.map V.str)) ∧ zs.length ≤ 4000 ∧ (∀ z ∈ zs, z ∈ t1.map (·.1)) ∧ ∀ H', Same H H' → Q (.bl true) H'
section
variable {P : Program} {w : World} {K : PySem.W.Frag} {mg : Str → Option Value} {base : Heap}
theorem scContP : FnScope ["self", "value"] ["self", "value"] (defScope sContP) := ⟨rfl, rfl, rfl, by decide +kernel, rfl, by decide +kernel, by decide +kernel⟩
theorem ok_contP {f C : Addr} {fd : FuncData} (F : Fun K "__contains__" "Prices.__contains__" sContP f fd) (T : Pc K C) : FnOk P w K mg base CX0 1 f fd ["self", "value"] (spCont K C) := by
  refine F.ok scContP (fun vs H Q E h => ?_) (fun cdv A outer s H vs Q E hr h => ?_)
  · obtain ⟨x, v, d, t1, t2, t3, rfl, _⟩ := h
    rfl
  · obtain ⟨x, v, d, t1, t2, t3, rfl, ⟨dx, t, a, b, e, hx, ht, hT⟩, sg, hd, q⟩ := h
    have hu : A.units + 3 + 65 < cLine := by
      have h2 : A.units + 3 + 16 * 0 + 200 < cLine := hr.un
      omega
    refine ⟨_, pss_one (ps_ret (pe_cmpR (op_inS hu) (pv 1) (pe_fld (pv 0) rfl) (by rfl))), ?_⟩
    exact ⟨_, rfl, _, rfl, x, C, dx, _, _, rfl, hx, T.cl, T.n1, fld_signs t a b e, t, d, t1.map (·.1), rfl, SqT.of ht, fun z hz => by
      obtain ⟨p, hp, rfl⟩ := List.mem_map.mp hz
      exact sg_ok (sg p hp), hd, q⟩
end
end Mk

set_option Elab.async false
set_option linter.all false
set_option maxRecDepth 100000
set_option maxHeartbeats 4000000
namespace Mk
open PySem PySem.Spec L2 PyProof.Rows

abbrev sLimP : Stmt := inClass (top 20) 11
/-- the swaps among these signs -/
def within (t : STab) (zs : List Str) : STab := t.filter fun p => decide (p.1.1 ∈ zs) && (decide (p.1.2 ∈ zs) && decide (p.1.1 ≠ p.1.2))
section
variable {X : Cx}
theorem inSeqK (K : PySem.W.Frag) (hK : X.K = K := by rfl) : OpR X (compareOp .In) (rIn K false) := by
  subst hK
  exact op_in_seq
theorem fldK {o : Expr} {ta : TE} {f : Str} {pos : Pos} (K : PySem.W.Frag) (h : PE X o ta) (hb : attributeBase o f X.env (eval o X.env) = eval o X.env) (hK : X.K = K := by rfl) : PE X (.Attribute o f pos) (tFld K ta f) := by
  subst hK
  exact pe_fld h hb
end
def spLim (C : Addr) : Sp := fun vs H Q _ => ∃ (x t : Addr) (zs : List Str) (t1 t2 : PTab) (t3 : STab), vs = [.ref x, .ref t] ∧ PrAt C H x t1 t2 t3 ∧ H t = some (.tup (zs.map V.str)) ∧ AscSg zs ∧ zs.length ≤ 5 ∧ (∀ z ∈ zs, z ∈ t1.map (·.1)) ∧ Agree t1 t2 t3 ∧ (t3.map (·.1)).Nodup ∧ rightB t1 t2 t3 = true ∧
  ∀ H' y u1 u2 u3, Same H H' → H y = none → PrAt C H' y u1 u2 u3 → u1.Perm (put t1 zs) → u2.Perm (put t2 zs) → u3.Perm (within t3 zs) → Srt u1 u2 u3 → Q (.ref y) H'
theorem lim_agree {zs : List Str} {t1 t2 : PTab} {t3 : STab} (asc : AscSg zs) (hl : zs.length ≤ 5) (a : Agree t1 t2 t3) : Agree (put t1 zs) (put t2 zs) (within t3 zs) where
  sg := fun p hp => by
    obtain ⟨z, hz, rfl⟩ := List.mem_map.mp hp
    exact asc.2.1 z hz
  nd := by
    rw [put_keys]
    exact nodup_lt asc.2.2
  l1 := by
    unfold put
    rw [List.length_map]
    exact hl
  pm := by
    rw [put_keys, put_keys]
  l3 := Nat.le_trans (List.length_filter_le _ _) a.l3
  pr := fun p hp => by
    have h := (List.mem_filter.mp hp).2
    simp only [Bool.and_eq_true, decide_eq_true_eq] at h
    rw [put_keys]
    exact h
theorem okP_put {t : PTab} {zs : List Str} {m : Int} (nd : (t.map (·.1)).Nodup) (sub : ∀ z ∈ zs, z ∈ t.map (·.1)) (h : okP t m = true) : okP (put t zs) m = true := by
  unfold okP at *
  refine List.all_eq_true.mpr fun p hp => ?_
  obtain ⟨z, hz, rfl⟩ := List.mem_map.mp hp
  obtain ⟨r, hr, e⟩ := List.mem_map.mp (sub z hz)
  have := look_mem nd r hr
  rw [e] at this
  show nwB (look t z) 1 m = true
  rw [this]
  exact List.all_eq_true.mp h r hr
theorem lim_right {zs : List Str} {t1 t2 : PTab} {t3 : STab} (asc : AscSg zs) (sub : ∀ z ∈ zs, z ∈ t1.map (·.1)) (a : Agree t1 t2 t3) (h : rightB t1 t2 t3 = true) : rightB (put t1 zs) (put t2 zs) (within t3 zs) = true := by
  unfold rightB at *
  simp only [Bool.and_eq_true, Bool.not_eq_true'] at *
  refine ⟨okP_put a.nd sub h.1, ?_, okP_put (a.pm.nodup_iff.mpr a.nd) (fun z hz => a.pm.mem_iff.mpr (sub z hz)) h.2.2.1, ?_⟩
  · cases zs with
    | nil => exact absurd rfl asc.1
    | cons z l => rfl
  · unfold okS at *
    exact List.all_eq_true.mpr fun p hp => List.all_eq_true.mp h.2.2.2 p (List.mem_filter.mp hp).1
section
variable {P : Program} {w : World} {K : PySem.W.Frag} {mg : Str → Option Value} {base : Heap}
end
end Mk

set_option Elab.async false
set_option linter.all false
set_option maxRecDepth 100000
set_option maxHeartbeats 4000000
namespace Mk
open PySem PySem.Spec L2 PyProof.Rows

abbrev sSignsP : Stmt := inClass (top 20) 2
abbrev sLenP : Stmt := inClass (top 20) 14
def spSigns (C : Addr) : Sp := fun vs H Q _ => ∃ (x : Addr) (t1 t2 : PTab) (t3 : STab), vs = [.ref x] ∧ PrAt C H x t1 t2 t3 ∧ ∀ t, H t = some (.tup ((t1.map (·.1)).map V.str)) → Q (.ref t) H
def spLenP (C : Addr) : Sp := fun vs H Q _ => ∃ (x : Addr) (t1 t2 : PTab) (t3 : STab), vs = [.ref x] ∧ PrAt C H x t1 t2 t3 ∧ Q (.int (t1.length : Nat)) H
section
variable {P : Program} {w : World} {K : PySem.W.Frag} {mg : Str → Option Value} {base : Heap}
theorem scSignsP : FnScope ["self"] ["self"] (defScope sSignsP) := ⟨rfl, rfl, rfl, by decide +kernel, rfl, by decide +kernel, by decide +kernel⟩
theorem ok_signsP {f C : Addr} {fd : FuncData} (F : Fun K "signs" "Prices.signs" sSignsP f fd) (T : Pc K C) : FnOk P w K mg base CX0 1 f fd ["self"] (spSigns C) := by
  refine F.ok scSignsP (fun vs H Q E h => ?_) (fun cdv A outer s H vs Q E hr h => ?_)
  · obtain ⟨x, t1, t2, t3, rfl, _⟩ := h
    rfl
  · obtain ⟨x, t1, t2, t3, rfl, ⟨dx, t, a, b, d, hx, ht, hT⟩, q⟩ := h
    exact ⟨_, pss_one (ps_ret (pe_fld (pv 0) rfl)), _, rfl, x, C, dx, _, _, rfl, hx, T.cl, T.n1, fld_signs t a b d, q t ht⟩
theorem scLenP : FnScope ["self"] ["self"] (defScope sLenP) := ⟨rfl, rfl, rfl, by decide +kernel, rfl, by decide +kernel, by decide +kernel⟩
theorem ok_lenP {f C : Addr} {fd : FuncData} (F : Fun K "__len__" "Prices.__len__" sLenP f fd) (T : Pc K C) (B : Bn mg) : FnOk P w K mg base CX0 1 f fd ["self"] (spLenP C) := by
  refine F.ok scLenP (fun vs H Q E h => ?_) (fun cdv A outer s H vs Q E hr h => ?_)
  · obtain ⟨x, t1, t2, t3, rfl, _⟩ := h
    rfl
  · obtain ⟨x, t1, t2, t3, rfl, ⟨dx, t, a, b, d, hx, ht, hT⟩, q⟩ := h
    refine ⟨_, pss_one (ps_ret (pe_callB call_len_seq (by rfl) B.len PySem.boot_len (pa_cons (pe_fld (pv 0) rfl) pa_nil))), ?_⟩
    refine ⟨_, rfl, x, C, dx, _, _, rfl, hx, T.cl, T.n1, fld_signs t a b d, t, _, rfl, .inr (SqT.of ht), ?_⟩
    rw [List.length_map, List.length_map]
    exact q
end
end Mk

set_option Elab.async false
set_option linter.all false
set_option maxRecDepth 100000
set_option maxHeartbeats 1000000
namespace Mk
open PySem PySem.Spec L2 PyProof.Rows

abbrev sTimes : Stmt := inClass (top 20) 12
/-- an own exception, made with a text -/
structure ExK (K : PySem.W.Frag) (mg : Str → Option Value) (x : Str) (C : Addr) : Prop where
  gC : mg x = some (.ref C)
  kC : PySem.W.keepIn K (.ref C) = true
  q : PySem.W.excIn K C [.type "ValueError", .type "Exception", .type "BaseException", .type "object"] "ValueError.__new__" = true
  b : PySem.W.subIn K (.ref C) (.type "BaseException") = some true
  t : PySem.W.typeIn K (.ref C) = some (.type "type")
theorem agree_times {t1 t2 : PTab} {t3 : STab} {m : Int} (a : Agree t1 t2 t3) : Agree (timesP t1 m) (timesP t2 m) (timesP t3 m) where
  sg := fun p hp => by
    obtain ⟨q, hq, rfl⟩ := List.mem_map.mp hp
    exact a.sg q hq
  nd := by rw [timesP_keys]; exact a.nd
  l1 := by unfold timesP; rw [List.length_map]; exact a.l1
  pm := by rw [timesP_keys, timesP_keys]; exact a.pm
  l3 := by unfold timesP; rw [List.length_map]; exact a.l3
  pr := fun p hp => by
    obtain ⟨q, hq, rfl⟩ := List.mem_map.mp hp
    rw [timesP_keys]
    exact a.pr q hq
theorem ok_bounds {t : PTab} {m : Int} (hm : m ≤ 18) (h : okP t m = true) : ∀ p ∈ t, 0 ≤ p.2 ∧ p.2 ≤ 100 := fun p hp => by
  have := List.all_eq_true.mp h p hp
  unfold nwB at this
  simp only [Bool.and_eq_true, decide_eq_true_eq] at this
  omega
theorem okS_bounds {t : STab} {m : Int} (hm : m ≤ 18) (h : okS t m = true) : ∀ p ∈ t, 0 ≤ p.2 ∧ p.2 ≤ 100 := fun p hp => by
  have := List.all_eq_true.mp h p hp
  unfold nwB at this
  simp only [Bool.and_eq_true, decide_eq_true_eq] at this
  omega
def spTimes (C CI : Addr) : Sp := fun vs H Q E => ∃ (x : Addr) (m : Int) (t1 t2 : PTab) (t3 : STab), vs = [.ref x, .int m] ∧ PrAt C H x t1 t2 t3 ∧ 1 ≤ m ∧ m ≤ LG ∧ Agree t1 t2 t3 ∧ (t3.map (·.1)).Nodup ∧ rightB t1 t2 t3 = true ∧
  (rightB (timesP t1 m) (timesP t2 m) (timesP t3 m) = true → ∀ H' y u1 u2 u3, Same H H' → H y = none → PrAt C H' y u1 u2 u3 → u1.Perm (timesP t1 m) → u2.Perm (timesP t2 m) → u3.Perm (timesP t3 m) → Srt u1 u2 u3 → Q (.ref y) H') ∧
  (rightB (timesP t1 m) (timesP t2 m) (timesP t3 m) = false → ∀ H', Same H H' → E (.ref CI) none H')
section
variable {P : Program} {w : World} {K : PySem.W.Frag} {mg : Str → Option Value} {base : Heap}
theorem scTimes : FnScope ["self", "many", "put", "out", "swap"] ["self", "many"] (defScope sTimes) := ⟨rfl, rfl, rfl, by decide +kernel, rfl, by decide +kernel, by decide +kernel⟩
theorem ok_times {f fi C CI : Addr} {fd fdi : FuncData} (F : Fun K "times" "Prices.times" sTimes f fd) (T : Pc K C) (M : L2.Mk K C fi) (FI : Fun K "__init__" "Prices.__init__" sInit fi fdi) (I : FnOk P w K mg base CX0 6 fi fdi ["self", "put", "out", "swap"] (spInit C)) (mgC : mg "Prices" = some (.ref C))
    (lg : ∃ t, mg "LARGEST" = some (.int LG t)) (X0 : ExK K mg "InvalidOperation" CI)
    (A1 : Cd P w K mg base 3 "check_number" ["given", "least", "most"] spChkNum) (A2 : Cd P w K mg base 1 "_multiplied" ["table", "many"] spMult) (A3 : Cd P w K mg base 5 "_are_tables" ["put", "out", "swap"] spAreT) : FnOk P w K mg base (L2.CX P w) 8 f fd ["self", "many"] (spTimes C CI) := by
  obtain ⟨j, dj, G, gm, gk, gb⟩ := A1.ex
  obtain ⟨e, de, Ge, em, ek, eb⟩ := A2.ex
  obtain ⟨a, da, Ga, am, ak, ab⟩ := A3.ex
  obtain ⟨tl, hlg⟩ := lg
  refine F.okX scTimes (fun vs H Q E h => ?_) (fun cdv A outer s H vs Q E hr h => ?_)
  · obtain ⟨x, m, t1, t2, t3, rfl, _⟩ := h
    rfl
  · obtain ⟨x, m, t1, t2, t3, rfl, hx, h1, h2, ag, nd3, hright, qy, qn⟩ := h
    have r1 : Room 1 _ := hr.mono (by decide)
    refine ⟨_, pss_cons (ps_expr (pe_call G (hr.mono (by decide)) (by rfl) gm gk gb .nil pass0 (pa_cons (pv 1) (pa_cons pe_int (pa_cons (pe_glob (v := .int LG) (by rfl) hlg ⟨_, rfl⟩) pa_nil)))))
      (pss_cons (ps_set (i := 2) scTimes.nd rfl (.inl rfl) (pe_call Ge r1 (by rfl) em ek eb .nil pass0 (pa_cons (pe_fld (pv 0) rfl) (pa_cons (pv 1) pa_nil))))
      (pss_cons (ps_set (i := 3) scTimes.nd rfl (.inl rfl) (pe_call Ge r1 (by rfl) em ek eb .nil pass0 (pa_cons (pe_fld (pv 0) rfl) (pa_cons (pv 1) pa_nil))))
      (pss_cons (ps_set (i := 4) scTimes.nd rfl (.inl rfl) (pe_call Ge r1 (by rfl) em ek eb .nil pass0 (pa_cons (pe_fld (pv 0) rfl) (pa_cons (pv 1) pa_nil))))
      (pss_cons (ps_if (pt_not (pt_val (pe_call Ga (hr.mono (by decide)) (by rfl) am ak ab .nil pass0 (pa_cons (pv 2) (pa_cons (pv 3) (pa_cons (pv 4) pa_nil)))))) (pss_one (ps_raise rfl (takes_of rfl rfl rfl rfl) (pmk_own PySem.F.excBase_ValueError X0.q X0.gC X0.kC (raises_own X0.b X0.t) (by rfl)))) pss_nil)
      (pss_one (ps_ret (pe_makeK0 M I hr (by rfl) mgC (kbn_init FI) pass0 (pk_cons (pv 2) (pk_cons (pv 3) (pk_cons (pv 4) pk_nil)))))))))), ?_⟩
    obtain ⟨dx, t, p, o, d, hx0, ht, hT⟩ := id hx
    have b1 : ∀ p ∈ t1, 0 ≤ p.2 ∧ p.2 ≤ 100 := ok_bounds (m := 9) (by decide) (by unfold rightB at hright; simp only [Bool.and_eq_true] at hright; exact hright.1)
    have b2 : ∀ p ∈ t2, 0 ≤ p.2 ∧ p.2 ≤ 100 := ok_bounds (m := 9) (by decide) (by unfold rightB at hright; simp only [Bool.and_eq_true] at hright; exact hright.2.2.1)
    have b3 : ∀ p ∈ t3, 0 ≤ p.2 ∧ p.2 ≤ 100 := okS_bounds (m := 18) (by decide) (by unfold rightB at hright; simp only [Bool.and_eq_true] at hright; exact hright.2.2.2)
    have hl1 := ag.l1
    have hl2 := ag.l2
    have hl3 := ag.l3
    have nd2 : (t2.map (·.1)).Nodup := ag.pm.nodup_iff.mpr ag.nd
    have nm : nwB m 1 LG = true := by
      have h3 : -LG ≤ m := Int.le_trans (by decide +kernel : -LG ≤ 1) h1
      unfold nwB nuB
      simp only [Bool.and_eq_true, decide_eq_true_eq]
      exact ⟨⟨h3, h2⟩, h1, h2⟩
    refine ⟨_, rfl, m, 1, LG, rfl, nm, ?_⟩
    refine ⟨_, rfl, x, C, dx, _, _, rfl, hx0, T.cl, T.n2, fld_put t p o d, _, rfl, p, m, rfl, .inl ⟨t1, hT.p, ag.nd, by omega, b1, fun H1 D1 s1 f1 e1 => ?_⟩⟩
    refine ⟨_, rfl, x, C, dx, _, _, rfl, s1 _ _ hx0, T.cl, T.n3, fld_out t p o d, _, rfl, o, m, rfl, .inl ⟨t2, s1 _ _ hT.o, nd2, by omega, b2, fun H2 D2 s2 f2 e2 => ?_⟩⟩
    have s12 := Same.trans s1 s2
    refine ⟨_, rfl, x, C, dx, _, _, rfl, s12 _ _ hx0, T.cl, T.n4, fld_swap t p o d, _, rfl, d, m, rfl, .inr ⟨t3, s12 _ _ hT.s, nd3, by omega, b3, fun H3 D3 s3 f3 e3 => ?_⟩⟩
    have s13 := Same.trans s12 s3
    have hTT : Tabs H3 D1 D2 D3 (timesP t1 m) (timesP t2 m) (timesP t3 m) := ⟨s3 _ _ (s2 _ _ e1), s3 _ _ e2, e3⟩
    have ag' := agree_times (m := m) ag
    refine ⟨_, rfl, _, rfl, _, rfl, D1, D2, D3, _, _, _, rfl, hTT, ag', fun H4 s4 => ⟨_, rfl, ?_⟩⟩
    have s14 := Same.trans s13 s4
    cases c : rightB (timesP t1 m) (timesP t2 m) (timesP t3 m) with
    | false =>
      refine iteT ?_
      exact qn c _ s14
    | true =>
      refine iteF ⟨_, rfl, _, rfl, _, rfl, rfl, rfl, fun y dy hy hdy ne => ?_⟩
      have sN : Same H4 (upd (upd H4 dy (.own y)) y (.ins C dy [])) := fun b o e => by
        rw [upd_ne (ne_of_none e hy), upd_ne (ne_of_none e hdy)]
        exact e
      refine ⟨y, dy, D1, D2, D3, _, _, _, rfl, upd_same, (hTT.same s4).same sN, ag', by rw [timesP_keys]; exact nd3, c, fun H9 u1 u2 u3 b9 pr k1 k2 k3 sr9 => ⟨rfl, ?_⟩⟩
      refine qy c _ y u1 u2 u3 (fun b o e => ?_) (s14.free hy) pr k1 k2 k3 sr9
      have nb : b ≠ y := fun z => by
        have := s14 _ _ e
        rw [z, hy] at this
        cases this
      exact b9 _ _ nb (sN _ _ (s14 _ _ e))
end
end Mk

set_option Elab.async false
set_option linter.all false
set_option maxRecDepth 100000
set_option maxHeartbeats 1000000
/-! == of two tables, keys texts or pairs of texts -/
namespace Mk
open PySem PySem.Spec L2 PyProof.Rows

section
variable {κ : Type} [DecidableEq κ]
/-- the pair is in the dict, its value equal -/
def hasP (ls : List (κ × V)) (p : κ × V) : Bool := match valV ls p.1 with
  | some v => eqV p.2 v
  | none => false
def sameKV (ks ls : List (κ × V)) : Bool := (ks.length == ls.length) && ks.all (hasP ls)
theorem hits_any {P : Program} {w : World} {A : Around} {s : Shared} {ls : List (κ × V)} {vb : List (κ × Value)} (rb : KV ls vb) (fb : ∀ p ∈ ls, flatV p.2 = true) : ∀ {ks : List (κ × V)} {va : List (κ × Value)}, KV ks va → (∀ p ∈ ks, flatV p.2 = true) → PySem.W.KeqHitsP P w A s vb va (ks.all (hasP ls))
  | [], _, .nil, _ => .nil
  | p :: ks, (k, v) :: va, .cons ⟨h1, h2⟩ t, hf => by
    have ih := hits_any (A := A) (s := s) (P := P) (w := w) rb fb t fun q hq => hf q (List.mem_cons_of_mem _ hq)
    have e1 : p.1 = k := h1
    subst e1
    have rr := rb.val p.1
    rw [List.all_cons]
    cases hv : valV ls p.1 with
    | none =>
      rw [hv] at rr
      cases hw : valueAt vb p.1 with
      | some y => rw [hw] at rr; exact rr.elim
      | none =>
        have : hasP ls p = false := by unfold hasP; rw [hv]
        rw [this, Bool.false_and]
        exact .miss hw
    | some u =>
      rw [hv] at rr
      cases hw : valueAt vb p.1 with
      | none => rw [hw] at rr; exact rr.elim
      | some y =>
        rw [hw] at rr
        have fu : flatV u = true := by
          unfold valV at hv
          obtain ⟨q, hq, e⟩ := Option.map_eq_some_iff.mp hv
          rw [← e]
          exact fb q (List.mem_of_find?_eq_some hq)
        have : hasP ls p = eqV p.2 u := by unfold hasP; rw [hv]
        rw [this]
        exact .hit hw (fun E Q hq => (eqAt_V (A := A) (s := s) h2 rr (hf p List.mem_cons_self) fu) P w E Q hq) ih
end
section
variable {X : Cx}
def rEqDK : R2 := fun x y H Q => ∃ a b ks ls, x = .ref a ∧ y = .ref b ∧ H a = some (.dK ks) ∧ H b = some (.dK ls) ∧ (∀ p ∈ ks, flatV p.2 = true) ∧ (∀ p ∈ ls, flatV p.2 = true) ∧ Q (.bl (sameKV ks ls)) H
theorem op_eq_dK (hu : X.A.units < cLine) : OpR X (compareOp .Eq) rEqDK := by
  intro pins s σ H x y v u Q I rx ry h
  obtain ⟨a, b, ks, ls, rfl, rfl, ea, eb, fk, fl, q⟩ := h
  cases rx
  cases ry
  obtain ⟨_, ya, va, ra, da⟩ := I.hok a _ ea
  obtain ⟨_, yb, vb, rb, db⟩ := I.hok b _ eb
  refine PySem.W.rcP_dicts (knd := mixKind X.prog X.w) (r := ks.all (hasP ls)) ya yb da db hu (fun _ => hits_any rb fl ra fk) _ _ ?_
  have e1 : va.length = ks.length := (Paired.length ra).symm
  have e2 : vb.length = ls.length := (Paired.length rb).symm
  rw [e1, e2]
  exact ⟨.bl _, H, I, rfl, q⟩
theorem keys_of {H : Hp} : ∀ {ls : List (List Key × V)} {xb : List (List Key × Addr × Value)}, KT H ls xb → ls.map (·.1) = xb.map (·.1)
  | _, _, .nil => rfl
  | _, _, .cons h t => by rw [List.map_cons, List.map_cons, h.1, keys_of t]
/-- the dicts with pairs as keys -/
theorem pairsT {P : Program} {w : World} {A : Around} {E : Value → Shared → Prop} {s : Shared} {H : Hp} {nm : String} {a b : Addr} {ks ls : List (List Key × V)} {xa xb : List (List Key × Addr × Value)} (hu : A.units < cLine) (na : (a == sysModules) = false) (nb : (b == sysModules) = false)
    (ra : KT H ks xa) (rb : KT H ls xb) (da : s.heap.DictOfH (tupleKind (mixKind P w)) a xa) (db : s.heap.DictOfH (tupleKind (mixKind P w)) b xb) (fk : ∀ p ∈ ks, flatV p.2 = true) (fl : ∀ p ∈ ls, flatV p.2 = true) {Q : Bool → Shared → Prop} (q : Q (sameKV ks ls) s) :
    wpAny (model P w) A (Builtin.Dict.samePairs nm a b) Q E s := by
  obtain ⟨oa, es, ep, hoa, _, hda, hea, hia, hna⟩ := da
  obtain ⟨ob, fs, fp, hob, _, hdb, heb, hib, hnb⟩ := db
  have la : es.size = ks.length := (size_of_entries hea).trans (Paired.length ra).symm
  have lb : fs.size = ls.length := (size_of_entries heb).trans (Paired.length rb).symm
  unfold Builtin.Dict.samePairs Builtin.Dict.showsAll
  rw [if_neg (by rw [na]; exact Bool.false_ne_true), if_neg (by rw [nb]; exact Bool.false_ne_true)]
  refine wpAny_bind (wpAny_pure (wpAny_bind (wpAny_pure (wpAny_bind (wpAny_dictEntries hoa hda ?_)))))
  dsimp only
  refine wpAny_bind (wpAny_dictEntries hob hdb ?_)
  by_cases hz : es.size = fs.size
  case neg =>
    have f : sameKV ks ls = false := by
      unfold sameKV
      rw [← la, ← lb, beq_eq_false_iff_ne.mpr hz, Bool.false_and]
    rw [f] at q
    rw [if_pos (by simpa using hz)]
    exact wpAny_bind (wpAny_rule (wpAny_pure q))
  case pos =>
    have f : sameKV ks ls = ks.all (hasP ls) := by
      unfold sameKV
      rw [← la, ← lb, hz, beq_self_eq_true, Bool.true_and]
    rw [f] at q
    rw [if_neg (by rw [hz]; simp)]
    refine wpAny_bind (wpAny_dictEpoch hoa hda (wpAny_bind ?_))
    rw [Std.Legacy.Range.forIn_eq_forIn_range']
    simp only [Std.Legacy.Range.size, Nat.sub_zero, Nat.add_sub_cancel, Nat.div_one]
    refine wpAny_forIn_list _ (fun rest z s' => s' = s ∧ z = (none, ()) ∧ ∃ i, rest = List.range' i (es.size - i) ∧ i ≤ es.size ∧ (ks.drop i).all (hasP ls) = ks.all (hasP ls)) _ ?_ ?_ _ _ ⟨rfl, rfl, 0, by simp, Nat.zero_le _, by rw [List.drop_zero]⟩
    · rintro i0 rest z s' ⟨rfl, rfl, i, hr, hi, hp⟩
      have hlt : i < es.size := by
        rcases Nat.lt_or_ge i es.size with h | h
        · exact h
        · rw [Nat.sub_eq_zero_of_le h] at hr
          cases hr
      obtain ⟨m, hm⟩ : ∃ m, es.size - i = m + 1 := ⟨es.size - i - 1, by omega⟩
      rw [hm, List.range'_succ] at hr
      injection hr with h1 h2
      subst h1
      have hk : i0 < ks.length := by omega
      obtain ⟨x, hx, e1, e2, e3⟩ := paired_get ra (List.getElem?_eq_getElem hk)
      have een : es[i0]? = some (entryOfKey (tupleKind (mixKind P w)) x) := by rw [entry_at hea i0, hx]; rfl
      have cell : xa[i0]? = some x := hx
      have hix := hia x (List.mem_of_getElem? cell)
      rw [List.drop_eq_getElem_cons hk, List.all_cons] at hp
      refine wpAny_bind (wpAny_dictEntries hoa hda ?_)
      rw [een]
      dsimp only
      have hash : (entryOfKey (tupleKind (mixKind P w)) x).hash = (tupleKind (mixKind P w)).hash x.1 := rfl
      have kref : (entryOfKey (tupleKind (mixKind P w)) x).key = .ref x.2.1 := rfl
      have vref : (entryOfKey (tupleKind (mixKind P w)) x).val = x.2.2 := rfl
      rw [hash, kref, vref]
      refine wpAny_bind (wpAny_holding (wpAny_bind (wpAny_dictFind_heap (knd := tupleKind (mixKind P w)) hu hix hob hdb heb hib hnb (fun hno => ?_) fun j pr hj => ?_)))
      · have vn : valV ls ks[i0].1 = none := by
          cases e : valV ls ks[i0].1 with
          | none => rfl
          | some u =>
            unfold valV at e
            obtain ⟨r, hr, _⟩ := Option.map_eq_some_iff.mp e
            obtain ⟨j, hj⟩ := List.mem_iff_getElem?.mp (List.mem_of_find?_eq_some hr)
            obtain ⟨y, hy, g1, _⟩ := paired_get rb hj
            have g2 : r.1 = ks[i0].1 := by
              have := List.find?_some hr
              exact of_decide_eq_true this
            refine absurd ?_ (hno j y.2)
            rw [← e1, ← g2, g1]
            exact hy
        have hf : hasP ls ks[i0] = false := by unfold hasP; rw [vn]
        rw [hf, Bool.false_and] at hp
        rw [← hp] at q
        refine wpAny_pure ?_
        show wpAny _ _ (if (!false) = true then _ else _) _ _ _
        rw [if_pos (by decide)]
        exact wpAny_pure (wpAny_pure q)
      · obtain ⟨r, hr, g1, _, g3⟩ := DX.pget rb hj
        have vr : valV ls ks[i0].1 = some r.2 := by
          have nd : (ls.map (·.1)).Nodup := by
            have e : ls.map (·.1) = xb.map (·.1) := by
              exact keys_of rb
            rw [e]
            exact hnb
          have := val_nodup nd r (List.mem_of_getElem? hr)
          rw [e1, ← this, g1]
        have hf : hasP ls ks[i0] = eqV ks[i0].2 r.2 := by unfold hasP; rw [vr]
        refine wpAny_bind (wpAny_dictEntries hob hdb ?_)
        rw [entry_at heb j, hj]
        refine wpAny_holding ((eqAt_V (A := A) (s := s') e3 g3 (fk _ (List.getElem_mem hk)) (fl _ (List.mem_of_getElem? hr))) P w _ _ ?_)
        rw [← hf]
        cases c : hasP ls ks[i0] with
        | false =>
          rw [c, Bool.false_and] at hp
          rw [← hp] at q
          show wpAny _ _ (if (!false) = true then _ else _) _ _ _
          rw [if_pos (by decide)]
          exact wpAny_pure (wpAny_pure q)
        | true =>
          rw [c, Bool.true_and] at hp
          show wpAny _ _ (if (!true) = true then _ else _) _ _ _
          rw [if_neg (by decide)]
          refine wpAny_bind (wpAny_dictEpoch hoa hda ?_)
          rw [if_neg (by simp)]
          exact wpAny_pure ⟨rfl, rfl, i0 + 1, by rw [h2]; congr 1; omega, hlt, hp⟩
    · rintro z s' ⟨rfl, rfl, i, hr, hi, hp⟩
      have hin : i = es.size := by
        rcases Nat.lt_or_ge i es.size with h | h
        · obtain ⟨m, hm⟩ : ∃ m, es.size - i = m + 1 := ⟨es.size - i - 1, by omega⟩
          rw [hm, List.range'_succ] at hr
          cases hr
        · omega
      rw [hin, la, List.drop_length] at hp
      rw [← hp] at q
      exact wpAny_pure q
def rEqDT : R2 := fun x y H Q => ∃ a b ks ls, x = .ref a ∧ y = .ref b ∧ H a = some (.dT ks) ∧ H b = some (.dT ls) ∧ (∀ p ∈ ks, flatV p.2 = true) ∧ (∀ p ∈ ls, flatV p.2 = true) ∧ Q (.bl (sameKV ks ls)) H
theorem op_eq_dT (hu : X.A.units + 1 < cLine) : OpR X (compareOp .Eq) rEqDT := by
  intro pins s σ H x y v u Q I rx ry h
  obtain ⟨a, b, ks, ls, rfl, rfl, ea, eb, fk, fl, q⟩ := h
  cases rx
  cases ry
  obtain ⟨_, na, xa, ra, da⟩ := dt_of I.hok ea
  obtain ⟨_, nb, xb, rb, db⟩ := dt_of I.hok eb
  show wpAny _ _ (richCompare .Eq (.ref a) (.ref b)) _ _ _
  refine wpAny_richCompare_same_room (op := .Eq) da.typeIs db.typeIs PySem.F.slot_dict_eq (wpAny_call_entry PySem.F.slot_dict_eq da.typeIs PySem.F.entry_dict_eq ?_ (PySem.F.args_dict_eq_2 _ _)) (by omega)
  show wpAny (model X.prog X.w) _ (Builtin.Dict.dictSlotArgs "__eq__" ⟨[.ref a, .ref b], []⟩ >>= _) _ _ s
  unfold Builtin.Dict.dictSlotArgs
  refine wpAny_bind (wpAny_bind (wpAny_notOrdered_dict da.typeIs ?_))
  show wpAny (model X.prog X.w) _ (pure (Value.ref a, Value.ref b)) _ _ s
  refine wpAny_pure (wpAny_bind (wpAny_isInstance (T := "dict") db.typeIs PySem.F.sub_dict_dict ?_))
  simp only [Bool.not_true, Bool.false_eq_true, ite_false]
  refine wpAny_bind (wpAny_pure (wpAny_bind (wpAny_pure (wpAny_bind (pairsT (by show X.A.units + 1 < cLine; exact hu) na nb ra rb da db fk fl ?_)))))
  have e : (sameKV ks ls == true) = sameKV ks ls := by cases sameKV ks ls <;> rfl
  rw [e]
  have last : EP X pins σ Q (Value.bool (sameKV ks ls)) s := ⟨.bl (sameKV ks ls), H, I, rfl, q⟩
  refine wpAny_pure ⟨_, rfl, ?_, last⟩
  intro z
  cases z
end
/-! ### tables of ints -/
theorem flat_P (t : PTab) : ∀ p ∈ kvsP t, flatV p.2 = true := fun p hp => by
  obtain ⟨q, _, rfl⟩ := List.mem_map.mp hp
  rfl
theorem flat_S (t : STab) : ∀ p ∈ kvsS t, flatV p.2 = true := fun p hp => by
  obtain ⟨q, _, rfl⟩ := List.mem_map.mp hp
  rfl
theorem same_P {t u : PTab} (p : u.Perm t) (nd : (t.map (·.1)).Nodup) : sameKV (kvsP t) (kvsP u) = true := by
  unfold sameKV
  rw [kvsP_len, kvsP_len, p.length_eq, beq_self_eq_true, Bool.true_and]
  refine List.all_eq_true.mpr fun q hq => ?_
  obtain ⟨r, hr, rfl⟩ := List.mem_map.mp hq
  have m : r.1 ∈ u.map (·.1) := List.mem_map.mpr ⟨r, p.mem_iff.mpr hr, rfl⟩
  have nu : (u.map (·.1)).Nodup := (p.map (·.1)).nodup_iff.mpr nd
  unfold hasP
  rw [valP m, look_mem nu r (p.mem_iff.mpr hr)]
  show (r.2 == r.2) = true
  exact beq_self_eq_true _
theorem same_S {t u : STab} (p : u.Perm t) (nd : (t.map (·.1)).Nodup) : sameKV (kvsS t) (kvsS u) = true := by
  unfold sameKV
  rw [kvsS_len, kvsS_len, p.length_eq, beq_self_eq_true, Bool.true_and]
  refine List.all_eq_true.mpr fun q hq => ?_
  obtain ⟨r, hr, rfl⟩ := List.mem_map.mp hq
  have m : r.1 ∈ u.map (·.1) := List.mem_map.mpr ⟨r, p.mem_iff.mpr hr, rfl⟩
  have nu : (u.map (·.1)).Nodup := (p.map (·.1)).nodup_iff.mpr nd
  unfold hasP
  have e := valS m
  rw [look_mem nu r (p.mem_iff.mpr hr)] at e
  show (match valV (kvsS u) (keyOf r.1) with | some v => eqV (.int r.2) v | none => false) = true
  rw [e]
  show (r.2 == r.2) = true
  exact beq_self_eq_true _
/-- another value at one key -/
theorem diff_P {t u : PTab} {k : Str} {i j : Int} (ht : (k, i) ∈ t) (hu : (k, j) ∈ u) (nu : (u.map (·.1)).Nodup) (ne : i ≠ j) : sameKV (kvsP t) (kvsP u) = false := by
  unfold sameKV
  have : (kvsP t).all (hasP (kvsP u)) = false := by
    refine List.all_eq_false.mpr ⟨_, List.mem_map.mpr ⟨(k, i), ht, rfl⟩, ?_⟩
    unfold hasP
    rw [valP (List.mem_map.mpr ⟨(k, j), hu, rfl⟩), look_mem nu (k, j) hu]
    show ¬ (i == j) = true
    simp [ne]
  rw [this, Bool.and_false]
end Mk

set_option Elab.async false
set_option linter.all false
set_option maxRecDepth 100000
set_option maxHeartbeats 1000000
/-! d.values() and d.items() as values: list(..), sorted(..), min(.., default=..) of them -/
namespace Mk
open PySem PySem.Spec PyProof.Rows L2

theorem paired_ix {α β : Type} {F : α → β → Prop} : ∀ {xs : List α} {ys : List β}, xs.length = ys.length → (∀ (j : Nat) (x : α) (y : β), xs[j]? = some x → ys[j]? = some y → F x y) → Paired F xs ys
  | [], [], _, _ => .nil
  | [], _ :: _, h, _ => nomatch h
  | _ :: _, [], h, _ => nomatch h
  | x :: xs, y :: ys, h, f => .cons (f 0 x y rfl rfl) (paired_ix (by simpa using h) fun j a b h1 h2 => f (j + 1) a b (by simpa using h1) (by simpa using h2))
/-- the pairs in the dict at a, in order -/
def RawAt (h : Heap) (a : Addr) (ps : List (V × V)) : Prop := (a == sysModules) = false ∧ ps.length ≤ sizeLine ∧ ∃ (es : Array DictEntry) (ep : Nat), DT.Raw h a es ep ∧ Paired (fun (p : V × V) (en : DictEntry) => RelV p.1 en.key ∧ RelV p.2 en.val) ps es.toList
section
variable {P : Program} {w : World} {H : Hp} {h : Heap} {a : Addr}
def psK (kvs : List (Key × V)) : List (V × V) := kvs.map fun p => (kV p.1, p.2)
def psT (qs : List Addr) (kvs : List (List Key × V)) : List (V × V) := (qs.zip kvs).map fun z => (V.ref z.1, z.2.2)
theorem rawK {kvs : List (Key × V)} (ok : HOk P w H h) (e : H a = some (.dK kvs)) : RawAt h a (psK kvs) := by
  obtain ⟨z, lo, vs, rk, o, es, ep, ho, hx, hd, hk, hp, hn⟩ := ok a _ e
  have l1 : kvs.length = vs.length := Paired.length rk
  have l2 : es.toList.length = vs.length := hp.length
  refine ⟨lo, by unfold psK; rw [List.length_map]; exact z, es, ep, ⟨o, ho, hx, hd⟩, paired_ix (by unfold psK; rw [List.length_map]; omega) fun j x en h1 h2 => ?_⟩
  unfold psK at h1
  rw [List.getElem?_map] at h1
  obtain ⟨q, hq, rfl⟩ := Option.map_eq_some_iff.mp h1
  obtain ⟨v, hv, e1, e2⟩ := paired_get rk hq
  obtain ⟨k1, v1⟩ := hp.get? (i := j) (e := en) (k := v.1) (v := v.2) h2 hv
  refine ⟨?_, by rw [v1]; exact e2⟩
  show RelV (kV q.1) en.key
  rw [e1]
  exact relV_key (show keyIs v.1 en.key = true from k1)
theorem rawT {kvs : List (List Key × V)} (ok : HOk P w H h) (e : H a = some (.dT kvs)) : ∃ qs, IsKeys H kvs qs ∧ RawAt h a (psT qs kvs) := by
  obtain ⟨z, lo, xs, rk, o, es, ep, ho, hx, hd, he, hi, hn⟩ := dt_of ok e
  have l1 : kvs.length = xs.length := Paired.length rk
  have l2 : es.toList.length = xs.length := by rw [he, List.length_map]
  refine ⟨_, isKeys_of rk, lo, ?_, es, ep, ⟨o, ho, hx, hd⟩, paired_ix ?_ fun j x en h1 h2 => ?_⟩
  · unfold psT
    rw [List.length_map, List.length_zip, List.length_map]
    omega
  · unfold psT
    rw [List.length_map, List.length_zip, List.length_map]
    omega
  unfold psT at h1
  rw [List.getElem?_map] at h1
  obtain ⟨z, hz, rfl⟩ := Option.map_eq_some_iff.mp h1
  obtain ⟨z1, z2⟩ := List.getElem?_zip_eq_some.mp hz
  rw [List.getElem?_map] at z1
  obtain ⟨x, hx1, e1⟩ := Option.map_eq_some_iff.mp z1
  obtain ⟨x', hx2, _, _, e3⟩ := paired_get rk z2
  have : x' = x := Option.some.inj (hx2.symm.trans hx1)
  subst this
  rw [he, List.getElem?_map, hx1] at h2
  have e4 : entryOfKey (tupleKind (mixKind P w)) x' = en := Option.some.inj h2
  subst e4
  refine ⟨?_, e3⟩
  show RelV (V.ref z.1) (.ref x'.2.1)
  rw [← e1]
  rfl
end
/-- the view d.values() at p -/
def valuesO (p d : Addr) : HO := .ext fun h => h.IsValuesView p d
def IsDct (H : Hp) (a : Addr) : Prop := (∃ kvs, H a = some (.dK kvs)) ∨ ∃ kvs, H a = some (.dT kvs)
theorem IsDct.raw {P : Program} {w : World} {H : Hp} {h : Heap} {a : Addr} (ok : HOk P w H h) (d : IsDct H a) : (a == sysModules) = false ∧ ∃ (es : Array DictEntry) (ep : Nat), DT.Raw h a es ep := by
  rcases d with ⟨kvs, e⟩ | ⟨kvs, e⟩
  · obtain ⟨lo, _, es, ep, r, _⟩ := rawK ok e
    exact ⟨lo, es, ep, r⟩
  · obtain ⟨qs, _, lo, _, es, ep, r, _⟩ := rawT ok e
    exact ⟨lo, es, ep, r⟩
section
variable {X : Cx}
def rVals : V → List V → Hp → VK → Prop := fun x xs H Q => ∃ a, x = .ref a ∧ xs = [] ∧ IsDct H a ∧ ∀ p, H p = none → Q (.ref p) (upd H p (valuesO p a))
def rItms : V → List V → Hp → VK → Prop := fun x xs H Q => ∃ a, x = .ref a ∧ xs = [] ∧ IsDct H a ∧ ∀ p, H p = none → Q (.ref p) (upd H p (DX.itemsO p a))
theorem mt_vals : MtR X "dict.values" rVals := by
  intro pins s σ H x xs v us Q I rx rxs h
  obtain ⟨a, rfl, rfl, hd, q⟩ := h
  cases rx
  cases rxs
  obtain ⟨lo, es, ep, r⟩ := hd.raw I.hok
  obtain ⟨o, ho, hx, hdt⟩ := r
  refine call_meetsIn PySem.F.slot_dict_values ⟨o, ho, hx.1⟩ PySem.F.entry_dict_values (PySem.F.args_dict_values_1 _) (meets_dict_values_raw a lo) ⟨⟨es, ep, o, ho, hx, hdt⟩, ?_⟩
  have hf : H s.heap.objs.size = none := I.hok.fresh (Nat.le_refl _)
  have at_ : (s.heap.push { cls := .type "dict_values", data := .fields #[.ref a] }).get? s.heap.objs.size = some { cls := .type "dict_values", data := .fields #[.ref a] } := Heap.get?_push_size _ rfl
  exact ⟨.ref s.heap.objs.size, upd H s.heap.objs.size (valuesO s.heap.objs.size a), I.laid (t' := s.toks) (fun b u e => Heap.get?_push_of_some _ e) (Nat.le_refl _) ⟨⟨_, at_, rfl, rfl⟩, ⟨_, at_⟩, fun h1 h2 x k => let ⟨o, ho, r⟩ := x; ⟨o, k o ho, r⟩⟩, rfl, q _ hf⟩
theorem mt_itms : MtR X "dict.items" rItms := by
  intro pins s σ H x xs v us Q I rx rxs h
  obtain ⟨a, rfl, rfl, hd, q⟩ := h
  cases rx
  cases rxs
  obtain ⟨lo, es, ep, r⟩ := hd.raw I.hok
  refine DT.callItems (es := es) (ep := ep) lo r ?_
  have hf : H s.heap.objs.size = none := I.hok.fresh (Nat.le_refl _)
  exact ⟨.ref s.heap.objs.size, upd H s.heap.objs.size (DX.itemsO s.heap.objs.size a), I.laid (t' := s.toks) (fun b u e => Heap.get?_push_of_some _ e) (Nat.le_refl _) (DX.itemsO_ok (Heap.get?_push_size _ rfl)), rfl, q _ hf⟩
/-- list(d.values()) -/
theorem vals_list {pins : List (Addr × Obj)} {s : Shared} {σ : L2.St} {H : Hp} {p a : Addr} {ps : List (V × V)} {Q : VK} (hc : X.calm = true) (I : Inv X pins σ H s) (hp : H p = some (valuesO p a)) (hr : RawAt s.heap a ps) (q : ∀ l, H l = none → Q (.ref l) (upd H l (.lst (ps.map (·.2))))) :
    wpAny (model X.prog X.w) X.A (call (.type "list") [.ref p]) (EP X pins σ Q) X.xe s := by
  obtain ⟨lo, hz, es, ep, r, pr⟩ := hr
  obtain ⟨vw, _⟩ := I.hok p _ hp
  have vw' : s.heap.IsValuesView p a := vw
  have le : ps.length = es.size := by
    have := Paired.length pr
    simpa using this
  refine PySem.W.kdl_call (KdlSrc.rawValues (r := p) (d := a) (es := es) (ep := ep)) (I.ok.hd hc) ⟨vw', r⟩ (by rw [← le]; exact hz) fun h' tk acc c hk hS it => ?_
  refine ⟨.ref s.heap.objs.size, upd H s.heap.objs.size (.lst (ps.map (·.2))), I.laid hk (Nat.le_refl _) ⟨by rw [List.length_map]; exact hz, acc.toList, c, ?_, by rw [Array.toArray_toList]; exact hS⟩, rfl, q _ (I.hok.fresh (Nat.le_refl _))⟩
  have la : acc.toList.length = acc.size := by simp
  refine paired_ix (by rw [List.length_map, la, it.1]; exact le) fun j x w h1 h2 => ?_
  rw [List.getElem?_map] at h1
  obtain ⟨z, hz1, rfl⟩ := Option.map_eq_some_iff.mp h1
  obtain ⟨hi, hv⟩ := it.2 j w (by rw [← Array.getElem?_toList]; exact h2)
  obtain ⟨en, he, _, e2⟩ := paired_get pr hz1
  have : en = es[j] := by
    rw [Array.getElem?_toList, Array.getElem?_eq_getElem hi] at he
    exact (Option.some.inj he).symm
  subst this
  rw [hv]
  exact e2
def rLstVals : List V → Hp → VK → Prop := fun xs H Q => ∃ p a, xs = [.ref p] ∧ H p = some (valuesO p a) ∧ ((∃ kvs, H a = some (.dK kvs) ∧ ∀ l, H l = none → Q (.ref l) (upd H l (.lst (kvs.map (·.2))))) ∨ ∃ kvs, H a = some (.dT kvs) ∧ ∀ l, H l = none → Q (.ref l) (upd H l (.lst (kvs.map (·.2)))))
theorem call_listVals (hc : X.calm = true) : CallR X (.type "list") rLstVals := by
  intro pins s σ H xs us Q I r h
  obtain ⟨p, a, rfl, hp, h⟩ := h
  obtain ⟨u, rfl, rx⟩ := vals1 r
  obtain rfl : u = Value.ref p := rx
  rcases h with ⟨kvs, e, q⟩ | ⟨kvs, e, q⟩
  · refine vals_list hc I hp (rawK I.hok e) fun l hl => ?_
    have e2 : (psK kvs).map (·.2) = kvs.map (·.2) := by
      unfold psK
      rw [List.map_map]
      rfl
    rw [e2]
    exact q l hl
  · obtain ⟨qs, hq, hr⟩ := rawT I.hok e
    refine vals_list hc I hp hr fun l hl => ?_
    have e2 : (psT qs kvs).map (·.2) = kvs.map (·.2) := by
      unfold psT
      rw [List.map_map]
      have : ((fun x : V × V => x.2) ∘ fun z : Addr × List Key × V => (V.ref z.1, z.2.2)) = (fun p : List Key × V => p.2) ∘ (fun z : Addr × List Key × V => z.2) := rfl
      rw [this, ← List.map_map, List.map_snd_zip (by have := Paired.length hq; omega)]
    rw [e2]
    exact q l hl
end
/-! ### list(d.items()), sorted(d.items()) -/
section
variable {P : Program} {w : World} {A : Around} {E : Value → Shared → Prop} {s : Shared} {es : Array DictEntry} {ep : Nat} {r d : Addr}
theorem listI {Q : Value → Shared → Prop} (hh : A.handled = none) (hv : s.heap.IsItemsView r d) (hm : DT.Raw s.heap d es ep) (hn : es.size ≤ sizeLine)
    (hQ : ∀ (h' : Heap) (tk : Nat) (acc : Array Value) (c : Nat) (as : List Addr), (∀ b o, s.heap.get? b = some o → h'.get? b = some o) → h'.get? s.heap.objs.size = some { cls := .type "list", dict := none, data := .seq acc c, slots := #[] } → as.length = es.size → DT.Made es s.heap.objs.size h' as → acc.toList = as.map Value.ref →
      Q (.ref s.heap.objs.size) { s with heap := h', toks := tk }) : wpAny (model P w) A (call (.type "list") [.ref r]) Q E s := by
  refine callType_codes (Q₁ := fun obj s1 => obj = .ref s.heap.objs.size ∧ s1 = { s with heap := s.heap.push { cls := .type "list", data := .seq #[] } }) PySem.F.called_list (PySem.F.typeCall_list_1 _) PySem.F.entry_list_init (code_list_new _ ⟨rfl, rfl⟩) fun obj s1 h1 => ?_
  obtain ⟨rfl, rfl⟩ := h1
  have e0 : (s.heap.push { cls := .type "list", data := .seq #[] }).get? s.heap.objs.size = some { cls := .type "list", data := .seq #[] } := Heap.get?_push_size _ rfl
  have lr : r < s.heap.objs.size := let ⟨_, ho, _⟩ := hv; Heap.lt_size ho
  have ld : d < s.heap.objs.size := hm.lt
  refine ⟨⟨_, e0, rfl⟩, PySem.F.args_list_init_2 _ _, ?_⟩
  show wpAny (model P w) A.in1.in1 (do let old ← Builtin.List.listItems (.ref s.heap.objs.size); Builtin.List.listUpdate (.ref s.heap.objs.size) (fun _ => #[]); letGo old.toList.reverse; Builtin.List.listExtendWith (.ref s.heap.objs.size) (.ref r) .none) _ _ _
  refine wpAny_bind ?_
  unfold Builtin.List.listItems
  refine wpAny_bind (wpAny_seqItems e0 rfl (wpAny_pure ?_))
  show wpAny (model P w) A.in1.in1 (updateSeq s.heap.objs.size (fun _ => #[]) >>= fun _ => letGo (#[] : Array Value).toList.reverse >>= fun _ => Builtin.List.listExtendWith (.ref s.heap.objs.size) (.ref r) .none) _ _ _
  refine wpAny_bind (wpAny_updateSeq e0 rfl (wpAny_bind (wpAny_letGo ?_)))
  have e1 := Heap.get?_update_self (Obj.mapSeq (fun _ => (#[] : Array Value))) e0 rfl
  have oth : ∀ b o, b ≠ s.heap.objs.size → s.heap.get? b = some o → ((s.heap.push { cls := .type "list", data := .seq #[] }).update s.heap.objs.size (Obj.mapSeq (fun _ => (#[] : Array Value)))).get? b = some o := fun b o hb e => (Heap.get?_update_other _ _ (Ne.symm hb)).trans (Heap.get?_push_of_some _ e)
  refine DT.extI (A := A.in1) (es := es) (ep := ep) hh (let ⟨o, ho, x⟩ := hv; ⟨o, oth r o (Nat.ne_of_lt lr) ho, x⟩) (hm.at' fun o e => oth d o (Nat.ne_of_lt ld) e) s.heap.objs.size (Nat.ne_of_gt lr) (Nat.ne_of_lt ld) .none _ e1 (fun h' tk acc c as hk hS hl hG ha => ?_) hn
  refine ⟨rfl, hQ h' tk acc c as (fun b o e => ?_) hS hl (hG.low ?_) ha⟩
  · have nb := Nat.ne_of_lt (Heap.lt_size e)
    exact hk b o nb (oth b o nb e)
  · exact Nat.le_of_lt (Heap.lt_size e1)
end
section
variable {X : Cx} {pins : List (Addr × Obj)} {s : Shared} {σ : L2.St} {H : Hp}
/-- the tuples that were made are told -/
theorem made_told {H1 : Hp} {h' : Heap} {tk : Nat} {es : Array DictEntry} {lo : Addr} {as : List Addr} {ps : List (V × V)} (I : Inv X pins σ H s) (I1 : Inv X pins σ H1 { s with heap := h', toks := tk }) (lo0 : s.heap.objs.size ≤ lo) (hG : DT.Made es lo h' as) (hl : as.length = ps.length) (hn : ∀ a ∈ as, H1 a = none)
    (pr : Paired (fun (p : V × V) (en : DictEntry) => RelV p.1 en.key ∧ RelV p.2 en.val) ps es.toList) :
    ∃ H2, Inv X pins σ H2 { s with heap := h', toks := tk } ∧ (∀ b o, H1 b = some o → H2 b = some o) ∧ Paired (fun (t : Addr) (p : V × V) => H2 t = some (.tup [p.1, p.2])) as ps := by
  have nd : as.Nodup := List.Pairwise.imp (fun h => Nat.ne_of_lt h) hG.rise
  obtain ⟨H2, I2, g, q⟩ := DX.takeT (P := fun b vs => ∃ (j : Nat) (p : V × V), as[j]? = some b ∧ ps[j]? = some p ∧ vs = [p.1, p.2]) I as H1 I1 nd fun b hb => by
    obtain ⟨j, hj⟩ := List.mem_iff_getElem?.mp hb
    have hj2 : j < ps.length := by
      obtain ⟨h1, _⟩ := List.getElem?_eq_some_iff.mp hj
      omega
    obtain ⟨en, he, r1, r2⟩ := paired_get pr (List.getElem?_eq_getElem hj2)
    obtain ⟨en', he', hg⟩ := hG.pairs j b hj
    rw [Array.getElem?_toList] at he
    have : en' = en := Option.some.inj (he'.symm.trans he)
    subst this
    refine ⟨Nat.le_trans lo0 (Nat.le_of_lt (hG.above b hb)), hn b hb, [ps[j].1, ps[j].2], ⟨j, ps[j], hj, List.getElem?_eq_getElem hj2, rfl⟩, fun H3 => ⟨(by show 2 ≤ sizeLine; decide), [en'.key, en'.val], .cons r1 (.cons r2 .nil), ⟨_, hg, rfl, 0, rfl⟩⟩⟩
  refine ⟨H2, I2, g, paired_ix hl fun j t p h1 h2 => ?_⟩
  obtain ⟨vs, ⟨i, p', i1, i2, e⟩, hH⟩ := q t (List.mem_of_getElem? h1)
  have eij : i = j := (List.getElem?_inj (List.getElem?_eq_some_iff.mp i1).1 nd).mp (i1.trans h1.symm)
  subst eij
  have : p' = p := Option.some.inj (i2.symm.trans h2)
  subst this
  rw [hH, e]
theorem refs_vals : ∀ bs : List Addr, Vals (bs.map V.ref) (bs.map Value.ref)
  | [] => .nil
  | _ :: r => .cons rfl (refs_vals r)
/-- list(d.items()) -/
theorem itms_list {p a : Addr} {ps : List (V × V)} {Q : VK} (hc : X.calm = true) (I : Inv X pins σ H s) (hp : H p = some (DX.itemsO p a)) (hr : RawAt s.heap a ps)
    (q : ∀ (H' : Hp) (l : Addr) (ts : List Addr), Same H H' → H l = none → H' l = some (.lst (ts.map V.ref)) → Paired (fun (t : Addr) (p : V × V) => H' t = some (.tup [p.1, p.2])) ts ps → Q (.ref l) H') :
    wpAny (model X.prog X.w) X.A (call (.type "list") [.ref p]) (EP X pins σ Q) X.xe s := by
  obtain ⟨lo, hz, es, ep, r, pr⟩ := hr
  obtain ⟨vw, _⟩ := I.hok p _ hp
  have vw' : s.heap.IsItemsView p a := vw
  have le : ps.length = es.size := by
    have := Paired.length pr
    simpa using this
  refine listI (es := es) (ep := ep) (I.ok.hd hc) vw' r (by rw [← le]; exact hz) fun h' tk acc c as hk hS hl hG ha => ?_
  have I1 : Inv X pins σ (upd H s.heap.objs.size (.lst (as.map V.ref))) { s with heap := h', toks := tk } := I.laid hk (Nat.le_refl _) ⟨by rw [List.length_map]; omega, acc.toList, c, by rw [ha]; exact refs_vals as, by rw [Array.toArray_toList]; exact hS⟩
  have hn0 : H s.heap.objs.size = none := I.hok.fresh (Nat.le_refl _)
  obtain ⟨H2, I2, g, tp⟩ := made_told I I1 (Nat.le_refl _) hG (by omega) (fun b hb => by
    have := hG.above b hb
    rw [upd_ne (Nat.ne_of_gt this)]
    exact I.hok.fresh (Nat.le_of_lt this)) pr
  exact ⟨.ref s.heap.objs.size, H2, I2, rfl, q H2 _ as (fun b o e => g b o (by rw [upd_ne (ne_of_none e hn0)]; exact e)) hn0 (g _ _ upd_same) tp⟩
def rLstItms : List V → Hp → VK → Prop := fun xs H Q => ∃ p a, xs = [.ref p] ∧ H p = some (DX.itemsO p a) ∧ ((∃ kvs, H a = some (.dK kvs) ∧ ∀ (H' : Hp) (l : Addr) (ts : List Addr), Same H H' → H l = none → H' l = some (.lst (ts.map V.ref)) → Paired (fun (t : Addr) (p : V × V) => H' t = some (.tup [p.1, p.2])) ts (psK kvs) → Q (.ref l) H') ∨
  ∃ kvs, H a = some (.dT kvs) ∧ ∀ (H' : Hp) (l : Addr) (ts qs : List Addr), Same H H' → H l = none → IsKeys H kvs qs → H' l = some (.lst (ts.map V.ref)) → Paired (fun (t : Addr) (p : V × V) => H' t = some (.tup [p.1, p.2])) ts (psT qs kvs) → Q (.ref l) H')
theorem call_listItms (hc : X.calm = true) : CallR X (.type "list") rLstItms := by
  intro pins s σ H xs us Q I r h
  obtain ⟨p, a, rfl, hp, h⟩ := h
  obtain ⟨u, rfl, rx⟩ := vals1 r
  obtain rfl : u = Value.ref p := rx
  rcases h with ⟨kvs, e, q⟩ | ⟨kvs, e, q⟩
  · exact itms_list hc I hp (rawK I.hok e) q
  · obtain ⟨qs, hq, hr⟩ := rawT I.hok e
    exact itms_list hc I hp hr fun H' l ts a1 a2 a3 a4 => q H' l ts qs a1 a2 hq a3 a4
end
end Mk

set_option Elab.async false
set_option linter.all false
set_option maxRecDepth 100000
set_option maxHeartbeats 1000000
/-! min(d.values(), default=e) -/
namespace Mk
open PySem PySem.Spec PyProof.Rows L2

section
variable {X : Cx}
/-- the least of the values of a dict with pairs as keys, or what is told -/
def tMinDT (t : TA) (td : TE) : TE := fun σ H Q => t σ H fun vs H1 => td σ H1 fun y H2 => ∃ (p a : Addr) (d : Int) (kvs : List (List Key × V)) (is : List Int), vs = [.ref p] ∧ y = .int d ∧ H2 p = some (valuesO p a) ∧ H2 a = some (.dT kvs) ∧ kvs.map (·.2) = is.map V.int ∧
  ∀ m : Int, (is = [] → m = d) → (is ≠ [] → m ∈ is ∧ ∀ j ∈ is, m ≤ j) → Q (.int m) H2
theorem pe_minDT {e de : Expr} {t : TA} {td : TE} {p kp pos : Pos} (hc : X.calm = true) (hg : Gl X "min") (hm : X.mg "min" = none) (ha : PA X [e] t) (hd : PE X de td)
    (he : backTo pos (starEach [e] X.env) = (false, eval e X.env) :: backTo pos (starEach [] X.env) := by rfl) (hpl : (backTo pos (starEach [e] X.env)).any (·.1) = false := by rfl) :
    PE X (.Call (.Name "min" p) [e] [⟨some "default", de, kp⟩] pos) (tMinDT t td) := by
  refine ⟨fun pins s σ H Q I h => ?_⟩
  refine wpAny_Call_Name_kw (ld_blt I hg hm (u := .builtin "min") (by decide +kernel) ?_)
  refine PyProof.Rows.callWith_kw (thn (ha.run pos pins s σ H _ I h) fun us s1 ⟨vs, H1, I1, r1, q1⟩ => ?_) he hpl
  show wpAny _ _ (evalAll [do let v ← eval de X.env; standAt pos; pure v]) _ _ s1
  refine wpAny_evalAll_cons (wpAny_bind (thn (hd.run pins s1 σ H1 _ I1 q1) fun u s2 ⟨y, H2, I2, r2, q2⟩ => wpAny_bind (wpAny_standAt (wpAny_pure (wpAny_evalAll_nil ?_)))))
  show wpAny _ _ (call (.builtin "min") us [(Str.ofString "default", u)]) _ _ s2
  obtain ⟨v, a, d, kvs, is, rfl, rfl, hv, ha2, hi, q⟩ := q2
  rw [Vals.ref1 r1]
  obtain ⟨tk0, rfl⟩ := r2
  obtain ⟨qs, hq, lo, hz, es, ep, r, pr⟩ := rawT I2.hok ha2
  obtain ⟨vw, _⟩ := I2.hok v _ hv
  have vw' : s2.heap.IsValuesView v a := vw
  have lk : kvs.length = is.length := by
    have := congrArg List.length hi
    rwa [List.length_map, List.length_map] at this
  have le : is.length = es.size := by
    have h1 := Paired.length pr
    have h2 := Paired.length hq
    unfold psT at h1
    rw [List.length_map, List.length_zip, ← h2, Nat.min_self] at h1
    have h3 : es.toList.length = es.size := by simp
    omega
  have hval : ∀ (i : Nat) (x : Value), (∃ hi : i < es.size, x = es[i].val) → ∃ t, x = Value.int (is.getD i 0) t := fun i x ⟨hl, e⟩ => by
    have hk : i < kvs.length := by omega
    have hqi : i < qs.length := by have := Paired.length hq; omega
    have e1 : (psT qs kvs)[i]? = some (V.ref qs[i], kvs[i].2) := by
      have z1 : (qs.zip kvs)[i]? = some (qs[i], kvs[i]) := by
        rw [List.getElem?_zip_eq_some]
        exact ⟨List.getElem?_eq_getElem hqi, List.getElem?_eq_getElem hk⟩
      unfold psT
      rw [List.getElem?_map, z1]
      rfl
    obtain ⟨en, he, _, r2⟩ := paired_get pr e1
    rw [Array.getElem?_toList, Array.getElem?_eq_getElem hl] at he
    have : es[i] = en := Option.some.inj he
    rw [← this, ← e] at r2
    have e3 : kvs[i].2 = V.int (is.getD i 0) := by
      have h1 : (kvs.map (·.2))[i]? = some kvs[i].2 := by rw [List.getElem?_map, List.getElem?_eq_getElem hk]; rfl
      rw [hi, List.getElem?_map, List.getElem?_eq_getElem (by omega : i < is.length)] at h1
      rw [List.getD_eq_getElem?_getD, List.getElem?_eq_getElem (by omega : i < is.length)]
      exact (Option.some.inj h1).symm
    have r3 : RelV (V.int (is.getD i 0)) x := by rw [← e3]; exact r2
    exact r3
  have ne : a ≠ s2.heap.objs.size := Nat.ne_of_lt r.lt
  refine PySem.call_min_walkD (wpAny_pyIter_values_raw (v := v) (d := a) vw' r ⟨s2.heap.objs.size, _, _, _, es.size, _, _, s2.heap, fun i j => decide (is.getD i 0 < is.getD j 0), rfl, (Walks.rawValues (A := X.A.in1) (I.ok.hd hc) s2.heap.objs.size a ne es ep).toS, ⟨⟨_, Heap.get?_push_size _ rfl, rfl, rfl⟩, r.at' fun o e => Heap.get?_push_of_some _ e⟩, fun b hb => ?_, fun b o e hb => ?_, fun b o e => Heap.get?_push_of_some _ e, fun h0 s' mv => ?_, fun h0 => ⟨fun i j vi vj s' Q' E' _ h1 h2 h3 => CmpOf.ints_lt (fun i => is.getD i 0) hval i j vi vj s' Q' E' h1 h2 h3, fun x s' hx mv => ?_⟩⟩)
  · show b < (s2.heap.push _).objs.size
    rw [Heap.size_push]
    rcases List.mem_cons.mp hb with rfl | hb
    · exact Nat.lt_succ_self _
    · rw [List.mem_singleton.mp hb]
      exact Nat.lt_succ_of_lt r.lt
  · exact absurd (Heap.lt_size e) (by rw [List.mem_singleton.mp hb]; exact Nat.lt_irrefl _)
  · obtain ⟨h', tk, rfl, kp⟩ := PySem.W.moved_old rfl rfl mv
    have e0 : is = [] := List.length_eq_zero_iff.mp (by omega)
    exact ⟨.int d, H2, I2.kept kp, ⟨_, rfl⟩, q d (fun _ => rfl) fun z => absurd e0 z⟩
  · obtain ⟨h', tk, rfl, kp⟩ := PySem.W.moved_old rfl rfl mv
    obtain ⟨t1, rfl⟩ := hval _ x hx
    obtain ⟨b1, b2⟩ := argBest_lt (fun i => is.getD i 0) (es.size - 1)
    refine ⟨.int _, H2, I2.kept kp, ⟨t1, rfl⟩, q _ (fun z => ?_) fun _ => ⟨?_, fun j hj => ?_⟩⟩
    · rw [z] at le
      simp at le
      omega
    · have hb : argBest (fun i j => decide (is.getD i 0 < is.getD j 0)) (es.size - 1) < is.length := by omega
      rw [List.getD_eq_getElem?_getD, List.getElem?_eq_getElem hb]
      exact List.getElem_mem hb
    · obtain ⟨i, hi2, e⟩ := List.mem_iff_getElem.mp hj
      have e2 : is.getD i 0 = j := by
        rw [List.getD_eq_getElem?_getD, List.getElem?_eq_getElem hi2, ← e]
        rfl
      rw [← e2]
      exact b2 i (by omega)
end
end Mk

set_option Elab.async false
set_option linter.all false
set_option maxRecDepth 100000
set_option maxHeartbeats 1000000
namespace Mk
open PySem PySem.Spec L2 PyProof.Rows

abbrev sSmall : Stmt := inClass (top 20) 6
abbrev sEqP : Stmt := inClass (top 20) 15
abbrev sStrP : Stmt := inClass (top 20) 16
/-- all prices of a record -/
def allP (t1 t2 : PTab) (t3 : STab) : List Int := t1.map (·.2) ++ t2.map (·.2) ++ t3.map (·.2)
/-- the least one -/
def Least (m : Int) (is : List Int) : Prop := m ∈ is ∧ ∀ j ∈ is, m ≤ j
def spSmall (C : Addr) : Sp := fun vs H Q _ => ∃ (x : Addr) (t1 t2 : PTab) (t3 : STab), vs = [.ref x] ∧ PrAt C H x t1 t2 t3 ∧ t1 ≠ [] ∧ t2 ≠ [] ∧ (∀ p ∈ t1, p.2 ≤ 9) ∧ ∀ H' m, Same H H' → Least m (allP t1 t2 t3) → Q (.int m) H'
def spStrP (C : Addr) : Sp := fun vs H Q _ => ∃ (x : Addr) (t1 t2 : PTab) (t3 : STab), vs = [.ref x] ∧ PrAt C H x t1 t2 t3 ∧ t1.length ≤ 60 ∧ t3.length ≤ 60 ∧ ∀ z : Str, z = Str.empty ++ "prices of " ++ toString ((t1.length : Nat) : Int) ++ " signs, " ++ toString ((t3.length : Nat) : Int) ++ " swaps" → Q (.str z) H
def spEqP (K : PySem.W.Frag) (C : Addr) : Sp := fun vs H Q _ => ∃ (x : Addr) (y : V) (t1 t2 : PTab) (t3 : STab), vs = [.ref x, y] ∧ PrAt C H x t1 t2 t3 ∧
  ((∃ (z : Addr) (u1 u2 : PTab) (u3 : STab), y = .ref z ∧ PrAt C H z u1 u2 u3 ∧ Q (.bl (sameKV (kvsP t1) (kvsP u1) && (sameKV (kvsP t2) (kvsP u2) && sameKV (kvsS t3) (kvsS u3)))) H) ∨
  ((∃ t, TyX K H y t ∧ PySem.W.kitOne K t (.ref C) = some false) ∧ Q (.bl false) H))
/-- what isinstance of a value of the own class leans on -/
structure IsK (K : PySem.W.Frag) (C : Addr) : Prop where
  ha : PySem.W.findIn K (.ref C) "__class__" = some (some (.builtin "object.__class__"))
  hn : PySem.W.specialIn K (.builtin "object.__class__") "__get__" = some (some (.builtin "getset_descriptor.__get__"))
  htk : PySem.W.takesIn K (.builtin "object.__class__") = some true
  hm : PySem.W.mroIn K C (.type "object") = some true
section
variable {P : Program} {w : World} {K : PySem.W.Frag} {mg : Str → Option Value} {base : Heap}
theorem scSmall : FnScope ["self"] ["self"] (defScope sSmall) := ⟨rfl, rfl, rfl, by decide +kernel, rfl, by decide +kernel, by decide +kernel⟩
theorem mem_snd {α : Type} {t : List (α × Int)} {is : List Int} {f : List (α × Int) → List (Key × V)} (h : t.map (·.2) = is) : ∀ j, j ∈ is ↔ j ∈ t.map (·.2) := fun j => by rw [h]
theorem kvsP_snd (t : PTab) : (kvsP t).map (·.2) = (t.map (·.2)).map V.int := by
  unfold kvsP
  rw [List.map_map, List.map_map]
  rfl
theorem kvsS_snd (t : STab) : (kvsS t).map (·.2) = (t.map (·.2)).map V.int := by
  unfold kvsS
  rw [List.map_map, List.map_map]
  rfl
theorem ok_small {f C : Addr} {fd : FuncData} (F : Fun K "smallest" "Prices.smallest" sSmall f fd) (T : Pc K C) (B : Bn mg) (PP : Pn mg) : FnOk P w K mg base CX0 2 f fd ["self"] (spSmall C) := by
  obtain ⟨tk, hms⟩ := PP.ms
  refine F.ok scSmall (fun vs H Q E h => ?_) (fun cdv A outer s H vs Q E hr h => ?_)
  · obtain ⟨x, t1, t2, t3, rfl, _⟩ := h
    rfl
  · obtain ⟨x, t1, t2, t3, rfl, ⟨dx, t, a, b, d, hx, ht, hT⟩, n1, n2, h9, q⟩ := h
    refine ⟨_, pss_one (ps_ret (pe_callB (cr_min rfl) (by rfl) B.min (by decide +kernel) (pa_cons (pe_lst (pa_cons (pe_minVals rfl (by rfl) B.min (pe_fld (pv 0) rfl)) (pa_cons (pe_minVals rfl (by rfl) B.min (pe_fld (pv 0) rfl))
      (pa_cons (pe_minDT rfl (by rfl) B.min (pa_cons (pe_bm0 PySem.F.plainAttrs_dict PySem.F.slot_dict_values PySem.F.type_dict_values mt_vals (pe_fld (pv 0) rfl)) pa_nil) (pe_glob (v := .int 18) (by rfl) hms ⟨_, rfl⟩)) pa_nil)))) pa_nil))), ?_⟩
    refine ⟨_, rfl, x, C, dx, _, _, rfl, hx, T.cl, T.n2, fld_put t a b d, a, _, t1.map (·.2), rfl, hT.p, kvsP_snd t1, by simpa using n1, fun m1 i1 l1 => ?_⟩
    refine ⟨_, rfl, x, C, dx, _, _, rfl, hx, T.cl, T.n3, fld_out t a b d, b, _, t2.map (·.2), rfl, hT.o, kvsP_snd t2, by simpa using n2, fun m2 i2 l2 => ?_⟩
    refine ⟨_, rfl, x, C, dx, _, _, rfl, hx, T.cl, T.n4, fld_swap t a b d, .inr (.inr (.inl ⟨rfl, .inr ⟨_, hT.s⟩⟩)), d, rfl, rfl, .inr ⟨_, hT.s⟩, fun p hp => ?_⟩
    have s1 : Same H (upd H p (valuesO p d)) := Same.new hp
    refine ⟨p, d, 18, _, t3.map (·.2), rfl, rfl, upd_same, s1 _ _ hT.s, kvsS_snd t3, fun m3 e3 l3 => ?_⟩
    refine ⟨by rw [sizeLine_eq]; simp, fun l hl => ?_⟩
    refine ⟨l, [m1, m2, m3], rfl, SqL.of upd_same, by simp, fun m im lm => ?_⟩
    refine q _ m (Same.trans s1 (Same.new hl)) ⟨?_, fun j hj => ?_⟩
    · unfold allP
      rw [List.mem_append, List.mem_append]
      rcases List.mem_cons.mp im with rfl | im
      · exact .inl (.inl i1)
      rcases List.mem_cons.mp im with rfl | im
      · exact .inl (.inr i2)
      have em := List.mem_singleton.mp im
      subst em
      by_cases h3 : t3.map (·.2) = []
      · have := e3 h3
        subst this
        obtain ⟨p, hp, rfl⟩ := List.mem_map.mp i1
        have h1 := lm p.2 (by simp)
        have h2 := h9 p hp
        omega
      · exact .inr (l3 h3).1
    · unfold allP at hj
      rw [List.mem_append, List.mem_append] at hj
      rcases hj with (hj | hj) | hj
      · exact Int.le_trans (lm m1 (by simp)) (l1 j hj)
      · exact Int.le_trans (lm m2 (by simp)) (l2 j hj)
      · exact Int.le_trans (lm m3 (by simp)) ((l3 (fun z => by rw [z] at hj; cases hj)).2 j hj)
theorem scStrP : FnScope ["self"] ["self"] (defScope sStrP) := ⟨rfl, rfl, rfl, by decide +kernel, rfl, by decide +kernel, by decide +kernel⟩
theorem small_log {n : Nat} (h : n ≤ 60) : ((n : Int)).natAbs.log2 < 1920 := by
  have e : ((n : Int)).natAbs = n := by omega
  rw [e]
  by_cases z : n = 0
  · subst z
    decide
  · have := (Nat.log2_lt (k := 6) z).mpr (by omega)
    omega
theorem lenapp {a b : Str} {m n : Nat} (ha : a.length ≤ m) (hb : b.length ≤ n) : (a ++ b).length ≤ m + n := by
  rw [PySem.Str.length_append]
  omega
theorem small_txt : ∀ {n : Nat}, n ≤ 60 → (toString ((n : Nat) : Int) : Str).length ≤ 2 := by
  intro n h
  have : ∀ n : Fin 61, (toString ((n.val : Nat) : Int) : Str).length ≤ 2 := by decide +kernel
  exact this ⟨n, by omega⟩
theorem ok_strP {f C : Addr} {fd : FuncData} (F : Fun K "__str__" "Prices.__str__" sStrP f fd) (T : Pc K C) (B : Bn mg) : FnOk P w K mg base CX0 1 f fd ["self"] (spStrP C) := by
  refine F.ok scStrP (fun vs H Q E h => ?_) (fun cdv A outer s H vs Q E hr h => ?_)
  · obtain ⟨x, t1, t2, t3, rfl, _⟩ := h
    rfl
  · obtain ⟨x, t1, t2, t3, rfl, ⟨dx, t, a, b, d, hx, ht, hT⟩, z1, z3, q⟩ := h
    refine ⟨_, pss_one (ps_ret (pe_joined (.cons pe_str (.cons (pe_fmt (pe_callB call_len_seq (by rfl) B.len PySem.boot_len (pa_cons (pe_fld (pv 0) rfl) pa_nil))) (.cons pe_str (.cons (pe_fmt (pe_callB call_len_dT (by rfl) B.len PySem.boot_len (pa_cons (pe_fld (pv 0) rfl) pa_nil))) (.cons pe_str .nil))))))), ?_⟩
    have l0 : (Str.empty ++ Str.ofString "prices of ").length ≤ 20 := by decide +kernel
    have l1 : (Str.ofString (toString (((List.map V.str (List.map (fun x => x.1) t1)).length : Nat) : Int))).length ≤ 2 := small_txt (by rw [List.length_map, List.length_map]; exact z1)
    have l2 : (Str.ofString " signs, ").length ≤ 20 := by decide +kernel
    have l3 : (Str.ofString (toString (((kvsS t3).length : Nat) : Int))).length ≤ 2 := small_txt (by rw [kvsS, List.length_map]; exact z3)
    have l4 : (Str.ofString " swaps").length ≤ 20 := by decide +kernel
    have nar : ∀ {n m : Nat}, n ≤ m → m ≤ 1000 → n ≤ sizeLine := fun h1 h2 => by rw [sizeLine_eq]; omega
    refine ⟨_, rfl, by decide +kernel, ?_⟩
    refine ⟨_, rfl, x, C, dx, _, _, rfl, hx, T.cl, T.n1, fld_signs t a b d, t, _, rfl, .inr (SqT.of ht), .inr ⟨_, rfl, small_log (by rw [List.length_map, List.length_map]; exact z1), _, rfl, ?_, _, rfl, ?_, ?_⟩⟩
    · exact nar (lenapp l0 l1) (by decide)
    · exact nar (lenapp (lenapp l0 l1) l2) (by decide)
    refine ⟨_, rfl, x, C, dx, _, _, rfl, hx, T.cl, T.n4, fld_swap t a b d, d, _, rfl, hT.s, .inr ⟨_, rfl, small_log (by rw [kvsS, List.length_map]; exact z3), _, rfl, ?_, _, rfl, ?_, ?_⟩⟩
    · exact nar (lenapp (lenapp (lenapp l0 l1) l2) l3) (by decide)
    · exact nar (lenapp (lenapp (lenapp (lenapp l0 l1) l2) l3) l4) (by decide)
    · refine q _ ?_
      rw [List.length_map, List.length_map, kvsS, List.length_map]
theorem scEqP : FnScope ["self", "other"] ["self", "other"] (defScope sEqP) := ⟨rfl, rfl, rfl, by decide +kernel, rfl, by decide +kernel, by decide +kernel⟩
theorem ok_eqP {f C : Addr} {fd : FuncData} (F : Fun K "__eq__" "Prices.__eq__" sEqP f fd) (T : Pc K C) (O : IsK K C) (mgC : mg "Prices" = some (.ref C)) (hi : mg "isinstance" = none) : FnOk P w K mg base CX0 2 f fd ["self", "other"] (spEqP K C) := by
  refine F.ok scEqP (fun vs H Q E h => ?_) (fun cdv A outer s H vs Q E hr h => ?_)
  · obtain ⟨x, y, t1, t2, t3, rfl, _⟩ := h
    rfl
  · obtain ⟨x, y, t1, t2, t3, rfl, ⟨dx, t, a, b, d, hx, ht, hT⟩, h⟩ := h
    refine ⟨_, pss_one (ps_ret (pe_and (pe_callB call_isi (by rfl) hi (by decide +kernel) (pa_cons (pv 1) (pa_cons (pe_glob (v := .ref C) (by rfl) mgC rfl) pa_nil))) (pe_and (pe_cmpR (op_eq_dK hr.units0) (pe_fld (pv 0) rfl) (pe_fld (pv 1) rfl) (nomark _))
      (pe_and (pe_cmpR (op_eq_dK hr.units0) (pe_fld (pv 0) rfl) (pe_fld (pv 1) rfl) (nomark _)) (pe_one (pe_cmpR (op_eq_dT hr.in1.units0) (pe_fld (pv 0) rfl) (pe_fld (pv 1) rfl) (nomark _))))))), ?_⟩
    rcases h with ⟨z, u1, u2, u3, rfl, ⟨dz, tz, az, bz, cz, hz, hzt, hTz⟩, q⟩ | ⟨⟨t0, ty, no⟩, q⟩
    · refine ⟨_, rfl, .ref z, .ref C, .ref C, .ref C, true, rfl, .own C, .base (.ins hz T.cl O.ha O.hn O.htk O.hm), if_pos (beq_self_eq_true _), true, rfl, iteT ?_⟩
      refine ⟨_, rfl, x, C, dx, _, _, rfl, hx, T.cl, T.n2, fld_put t a b d, _, rfl, z, C, dz, _, _, rfl, hz, T.cl, T.n2, fld_put tz az bz cz, a, az, _, _, rfl, rfl, hT.p, hTz.p, flat_P _, flat_P _, _, rfl, ?_⟩
      cases e1 : sameKV (kvsP t1) (kvsP u1) with
      | false =>
        rw [e1] at q
        exact iteF q
      | true =>
      refine iteT ?_
      refine ⟨_, rfl, x, C, dx, _, _, rfl, hx, T.cl, T.n3, fld_out t a b d, _, rfl, z, C, dz, _, _, rfl, hz, T.cl, T.n3, fld_out tz az bz cz, b, bz, _, _, rfl, rfl, hT.o, hTz.o, flat_P _, flat_P _, _, rfl, ?_⟩
      cases e2 : sameKV (kvsP t2) (kvsP u2) with
      | false =>
        rw [e1, e2] at q
        exact iteF q
      | true =>
      refine iteT ?_
      refine ⟨_, rfl, x, C, dx, _, _, rfl, hx, T.cl, T.n4, fld_swap t a b d, _, rfl, z, C, dz, _, _, rfl, hz, T.cl, T.n4, fld_swap tz az bz cz, d, cz, _, _, rfl, rfl, hT.s, hTz.s, flat_S _, flat_S _, ?_⟩
      rw [e1, e2, Bool.true_and, Bool.true_and] at q
      exact q
    · exact ⟨_, rfl, y, .ref C, t0, .ref C, false, rfl, .own C, ty, no, false, rfl, iteF q⟩
end
end Mk

set_option Elab.async false
set_option linter.all false
set_option maxRecDepth 100000
set_option maxHeartbeats 1000000
/-! sorted(d.items()) of a table -/
namespace Mk
open PySem PySem.Spec PyProof.Rows L2

/-- how keys are ordered, and written as data -/
structure KOrd (α : Type) [DecidableEq α] (enc : α → PyData) (le : α → α → Bool) : Prop where
  eq : ∀ a b, PyData.eqv (enc a) (enc b) = decide (a = b)
  lt : ∀ a b, (!PySem.W.dataLt (enc b) (enc a)) = le a b
  al : ∀ a b, PySem.W.alike (enc a) (enc b) = true
  dp : ∀ a, (enc a).depth ≤ 2
  tot : ∀ a b, (le a b || le b a) = true
  tr : ∀ a b c, le a b = true → le b c = true → le a c = true
  an : ∀ a b, le a b = true → le b a = true → a = b
abbrev encV {α : Type} (enc : α → PyData) (p : α × Int) : PyData := .tuple [enc p.1, .int p.2]
def leV {α : Type} [DecidableEq α] (le : α → α → Bool) (p q : α × Int) : Bool := if p.1 = q.1 then decide (p.2 ≤ q.2) else le p.1 q.1
section
variable {α : Type} [DecidableEq α] {enc : α → PyData} {le : α → α → Bool}
theorem encV_le (O : KOrd α enc le) : PySem.W.dataLe false (encV enc) = leV le := by
  funext p q
  show (!PySem.W.dataLt (encV enc q) (encV enc p)) = leV le p q
  unfold encV leV
  rw [PySem.W.dataLt_pair (O.al _ _) (by simp [PySem.W.alike]), PySem.W.dataLt_int, O.eq]
  by_cases e : p.1 = q.1
  · rw [if_pos e, if_pos (by rw [e, decide_eq_true rfl])]
    rw [Bool.eq_iff_iff]
    simp
    intro h
    have h2 : (q.2 == p.2) = true := h
    have h3 : q.2 = p.2 := by simpa using h2
    omega
  · rw [if_neg e, if_neg (by rw [decide_eq_false (fun z => e z.symm)]; decide)]
    exact O.lt _ _
theorem leV_tot (O : KOrd α enc le) (p q : α × Int) : (leV le p q || leV le q p) = true := by
  unfold leV
  by_cases e : p.1 = q.1
  · rw [if_pos e, if_pos e.symm, Bool.or_eq_true, decide_eq_true_eq, decide_eq_true_eq]
    omega
  · rw [if_neg e, if_neg fun z => e z.symm]
    exact O.tot _ _
theorem leV_tr (O : KOrd α enc le) (p q r : α × Int) (h1 : leV le p q = true) (h2 : leV le q r = true) : leV le p r = true := by
  unfold leV at *
  by_cases e1 : p.1 = q.1
  · rw [if_pos e1, decide_eq_true_eq] at h1
    by_cases e2 : q.1 = r.1
    · rw [if_pos e2, decide_eq_true_eq] at h2
      rw [if_pos (e1.trans e2), decide_eq_true_eq]
      omega
    · rw [if_neg e2] at h2
      rw [if_neg (by rw [e1]; exact e2), e1]
      exact h2
  · rw [if_neg e1] at h1
    by_cases e2 : q.1 = r.1
    · rw [if_neg (by rw [← e2]; exact e1), ← e2]
      exact h1
    · rw [if_neg e2] at h2
      have h3 := O.tr _ _ _ h1 h2
      by_cases e3 : p.1 = r.1
      · exact absurd (O.an _ _ h1 (by rw [e3]; exact h2)) e1
      · rw [if_neg e3]
        exact h3
theorem sortV_up (O : KOrd α enc le) (t : List (α × Int)) : ((t.mergeSort (leV le)).map (·.1)).Pairwise (fun a b => le a b = true) := by
  rw [List.pairwise_map]
  refine List.Pairwise.imp ?_ (List.pairwise_mergeSort (fun a b c => leV_tr O a b c) (leV_tot O) t)
  intro p q h
  unfold leV at h
  by_cases e : p.1 = q.1
  · rw [e]
    have := O.tot q.1 q.1
    simpa using this
  · rwa [if_neg e] at h
end
theorem ordK : KOrd Str PyData.str byCs where
  eq := fun a b => by
    show (a == b) = decide (a = b)
    by_cases h : a = b
    · rw [decide_eq_true h, h, beq_self_eq_true]
    · rw [decide_eq_false h, beq_eq_false_iff_ne.mpr h]
  lt := fun a b => by
    rw [PySem.W.dataLt_str]
    unfold byCs
    rw [Bool.eq_iff_iff]
    simp
  al := fun a b => by simp [PySem.W.alike]
  dp := fun a => by simp [PyData.depth]
  tot := byCs_total
  tr := byCs_trans
  an := byCs_anti
theorem ordT : KOrd (Str × Str) enc2 le2 where
  eq := fun a b => by
    by_cases h : a = b
    · rw [decide_eq_true h, h]
      simp [enc2, PyData.eqv, PyData.eqvAll]
    · rw [decide_eq_false h]
      have : ¬ (a.1 = b.1 ∧ a.2 = b.2) := fun z => h (Prod.ext z.1 z.2)
      simp [enc2, PyData.eqv, PyData.eqvAll]
      intro e1 e2
      exact this ⟨e1, e2⟩
  lt := fun a b => congrFun (congrFun enc2_le a) b
  al := fun a b => by simp [PySem.W.alike, PySem.W.alikeAll]
  dp := fun a => by simp [enc2, PyData.depth, PyData.depthAll]
  tot := le2_total
  tr := le2_trans
  an := le2_anti
theorem each_ix {β : Type} {R : Value → β → Prop} : ∀ {as : List Addr} {t : List β}, as.length = t.length → (∀ (j : Nat) (b : Addr) (y : β), as[j]? = some b → t[j]? = some y → R (.ref b) y) → PySem.W.EachIs R (as.map Value.ref) t
  | [], [], _, _ => .nil
  | [], _ :: _, h, _ => nomatch h
  | _ :: _, [], h, _ => nomatch h
  | b :: as, y :: t, h, f => .cons (f 0 b y rfl rfl) (each_ix (by simpa using h) fun j c z h1 h2 => f (j + 1) c z (by simpa using h1) (by simpa using h2))
theorem each_refs {β : Type} {F : Addr → β → Prop} : ∀ {out : List Value} {ys : List β}, PySem.W.EachIs (fun v y => ∃ b : Addr, v = .ref b ∧ F b y) out ys → ∃ ts : List Addr, out = ts.map Value.ref ∧ Paired F ts ys
  | _, _, .nil => ⟨[], rfl, .nil⟩
  | _, _, .cons ⟨b, e, h⟩ r => by
    obtain ⟨ts, e2, h2⟩ := each_refs r
    exact ⟨b :: ts, by rw [e, e2]; rfl, .cons h h2⟩
section
variable {X : Cx}
/-- sorted of a view of items, by what the made pairs are as data -/
theorem itms_sorted {α : Type} [DecidableEq α] {enc : α → PyData} {le : α → α → Bool} (O : KOrd α enc le) {pins : List (Addr × Obj)} {s : Shared} {σ : L2.St} {H : Hp} {p a : Addr} {ps : List (V × V)} {t : List (α × Int)} {Q : VK} (hc : X.calm = true) (hu : X.A.units + 60 < cLine) (I : Inv X pins σ H s) (hp : H p = some (DX.itemsO p a)) (hr : RawAt s.heap a ps)
    (hl : ps.length = t.length) (h100 : t.length ≤ 100) (tell : ∀ (j : Nat) (x : V × V) (y : α × Int), ps[j]? = some x → t[j]? = some y → x.2 = .int y.2 ∧ ∀ (u : Value), RelV x.1 u → ∀ h : Heap, (∀ b o, s.heap.get? b = some o → h.get? b = some o) → Reads h u (enc y.1) [])
    (q : ∀ (H' : Hp) (l : Addr) (ts : List Addr) (u : List (α × Int)), Same H H' → H l = none → H' l = some (.lst (ts.map V.ref)) → u.Perm t → (u.map (·.1)).Pairwise (fun a b => le a b = true) → Paired (fun (b : Addr) (y : α × Int) => ∃ x : V × V, H' b = some (.tup [x.1, x.2]) ∧ ∃ j : Nat, ps[j]? = some x ∧ t[j]? = some y) ts u → Q (.ref l) H') :
    wpAny (model X.prog X.w) X.A (call (.builtin "sorted") [.ref p]) (EP X pins σ Q) X.xe s := by
  obtain ⟨lo, hz, es, ep, r, pr⟩ := hr
  obtain ⟨vw, _⟩ := I.hok p _ hp
  have vw' : s.heap.IsItemsView p a := vw
  have le0 : ps.length = es.size := by
    have := Paired.length pr
    simpa using this
  have lim : 100 ≤ sizeLine := by decide
  refine DT.sortedI (es := es) (ep := ep) (I.ok.hd hc) vw' r (by omega) fun h' tk as hk hlt hla hG => ?_
  have nd : as.Nodup := List.Pairwise.imp (fun h => Nat.ne_of_lt h) hG.rise
  have at0 : (h'.push { cls := .type "list", data := .seq (as.map Value.ref).toArray }).get? h'.objs.size = some (seqObj "list" (as.map Value.ref).toArray 0) := Heap.get?_push_size _ rfl
  have kb : ∀ b o, h'.get? b = some o → (h'.push { cls := .type "list", data := .seq (as.map Value.ref).toArray }).get? b = some o := fun b o e => Heap.get?_push_of_some _ e
  generalize h'.push { cls := .type "list", data := .seq (as.map Value.ref).toArray } = h2 at at0 kb ⊢
  -- what a made pair is
  have made : ∀ (j : Nat) (b : Addr), as[j]? = some b → ∃ (x : V × V) (y : α × Int) (k v : Value), ps[j]? = some x ∧ t[j]? = some y ∧ RelV x.1 k ∧ RelV x.2 v ∧ h'.get? b = some { cls := .type "tuple", data := .seq #[k, v] } := fun j b hj => by
    obtain ⟨h1, _⟩ := List.getElem?_eq_some_iff.mp hj
    have j1 : j < ps.length := by omega
    have j2 : j < t.length := by omega
    obtain ⟨en, he, r1, r2⟩ := paired_get pr (List.getElem?_eq_getElem j1)
    obtain ⟨en', he', hg⟩ := hG.pairs j b hj
    rw [Array.getElem?_toList] at he
    have : en' = en := Option.some.inj (he'.symm.trans he)
    subst this
    exact ⟨_, _, _, _, List.getElem?_eq_getElem j1, List.getElem?_eq_getElem j2, r1, r2, hg⟩
  let R : Value → α × Int → Prop := fun v y => ∃ b : Addr, v = .ref b ∧ ∃ j : Nat, as[j]? = some b ∧ t[j]? = some y
  have ev : PySem.W.EachIs R (as.map Value.ref) t := by
    exact each_ix (by omega) fun j b y h1 h2 => ⟨b, rfl, j, h1, h2⟩
  have rd : ∀ v y, R v y → ∃ bs, Reads h2 v (encV enc y) bs ∧ h'.objs.size ∉ bs := by
    rintro v y ⟨b, rfl, j, hj, hy⟩
    obtain ⟨x, y', k, u, hx, hy', r1, r2, hg⟩ := made j b hj
    have : y' = y := Option.some.inj (hy'.symm.trans hy)
    subst this
    obtain ⟨t1, t2⟩ := tell j x y' hx hy
    rw [t1] at r2
    obtain ⟨tk2, rfl⟩ := r2
    have r3 := t2 k r1 h2 fun b o e => kb b o (hk b o e)
    exact ⟨_, .tuple (kb _ _ hg) rfl rfl (.cons r3 (.cons (.int _ _) .nil)), fun z => nomatch z⟩
  refine wpAny_mono (PySem.W.list_sort_data (A := X.A.in1) (s := { s with heap := h2, toks := tk }) (enc := encV enc) (Q := fun v s' => EP X pins σ Q (.ref h'.objs.size) s') at0 ev (each_mono2 rd ev) (PySem.W.AllAlike.of fun y z => by simp [encV, PySem.W.alike, PySem.W.alikeAll, O.al]) (PySem.W.Sortable.tuples fun k => ⟨_, _, rfl⟩) (by omega) (fun k _ => ?_) fun out lo2 eo => ?_) (fun _ _ z => z) fun _ _ z => z
  · show X.A.units + 1 + 1 + (encV enc k).depth < cLine
    have d1 := O.dp k.1
    have : (encV enc k).depth ≤ 3 := by
      simp only [encV, PyData.depth, PyData.depthAll]
      omega
    omega
  rw [encV_le O] at eo
  obtain ⟨ts, rfl, tp⟩ := each_refs eo
  have lts : ts.length = t.length := by rw [← lo2, List.length_map]
  obtain ⟨c, hcc⟩ := sortedHeap_at (vs := as.map Value.ref) (out := (ts.map Value.ref).toArray) at0
  have kF : ∀ b o, b ≠ h'.objs.size → h2.get? b = some o → (sortedHeap h2 h'.objs.size (as.map Value.ref) (ts.map Value.ref).toArray).get? b = some o := fun b o hb e => (sortedHeap_old hb (Heap.lt_size e)).trans e
  have kH : ∀ b o, h'.get? b = some o → (sortedHeap h2 h'.objs.size (as.map Value.ref) (ts.map Value.ref).toArray).get? b = some o := fun b o e => kF b o (Nat.ne_of_lt (Heap.lt_size e)) (kb b o e)
  generalize sortedHeap h2 h'.objs.size (as.map Value.ref) (ts.map Value.ref).toArray = h3 at hcc kH ⊢
  have I0 : Inv X pins σ H { s with heap := h3, toks := tk } := I.kept (t' := tk) fun b o e => kH b o (hk b o e)
  have hn0 : H h'.objs.size = none := I.hok.fresh (Nat.le_of_lt hlt)
  have I1 : Inv X pins σ (upd H h'.objs.size (.lst (ts.map V.ref))) { s with heap := h3, toks := tk } := I0.take (h' := h3) (t' := tk) (fun b ob _ e => e) (I.fpOk (Nat.le_of_lt hlt) hn0) ⟨by rw [List.length_map]; omega, _, c, refs_vals ts, hcc⟩
  have hG3 : DT.Made es s.heap.objs.size h3 as := ⟨hG.rise, hG.above, fun j b h => let ⟨e, he, hg⟩ := hG.pairs j b h; ⟨e, he, kH _ _ hg⟩⟩
  obtain ⟨H2, I2, g, mt⟩ := made_told I I1 (Nat.le_refl _) hG3 (by omega) (fun b hb => by
    have l1 : b < h'.objs.size := hG.there hb
    rw [upd_ne (Nat.ne_of_lt l1)]
    exact I.hok.fresh (Nat.le_of_lt (hG.above b hb))) pr
  refine ⟨.ref h'.objs.size, H2, I2, rfl, q H2 _ ts _ (fun b o e => g b o (by rw [upd_ne (ne_of_none e hn0)]; exact e)) hn0 (g _ _ upd_same) (List.mergeSort_perm _ _) (sortV_up O t) ?_⟩
  refine Paired.mapP tp fun b y ⟨j, h1, h2⟩ => ?_
  obtain ⟨h4, _⟩ := List.getElem?_eq_some_iff.mp h1
  have j1 : j < ps.length := by omega
  obtain ⟨x, hx, e⟩ := paired_get mt h1
  exact ⟨x, e, j, hx, h2⟩
def rSortK : List V → Hp → VK → Prop := fun vs H Q => ∃ (p a : Addr) (t : PTab), vs = [.ref p] ∧ H p = some (DX.itemsO p a) ∧ H a = some (.dK (kvsP t)) ∧ t.length ≤ 100 ∧
  ∀ (H' : Hp) (l : Addr) (ts : List Addr) (u : PTab), Same H H' → H l = none → H' l = some (.lst (ts.map V.ref)) → u.Perm t → (u.map (·.1)).Pairwise (fun a b => byCs a b = true) → Paired (fun (b : Addr) (y : Str × Int) => H' b = some (.tup [.str y.1, .int y.2])) ts u → Q (.ref l) H'
theorem call_sortK (hc : X.calm = true) (hu : X.A.units + 60 < cLine) : CallR X (.builtin "sorted") rSortK := by
  intro pins s σ H xs us Q I r h
  obtain ⟨p, a, t, rfl, hp, ha, hl, q⟩ := h
  obtain ⟨u, rfl, rx⟩ := vals1 r
  obtain rfl : u = Value.ref p := rx
  have at_ : ∀ (j : Nat) (x : V × V) (y : Str × Int), (psK (kvsP t))[j]? = some x → t[j]? = some y → x = (.str y.1, .int y.2) := fun j x y h1 h2 => by
    unfold psK kvsP at h1
    rw [List.map_map, List.getElem?_map, h2] at h1
    exact (Option.some.inj h1).symm
  refine itms_sorted ordK hc hu I hp (rawK I.hok ha) (t := t) (by unfold psK kvsP; rw [List.length_map, List.length_map]) hl (fun j x y h1 h2 => ?_) fun H' l ts u a1 a2 a3 a4 a5 a6 => q H' l ts u a1 a2 a3 a4 a5 (Paired.mapP a6 fun b y ⟨x, e, j, h1, h2⟩ => ?_)
  · rw [at_ j x y h1 h2]
    refine ⟨rfl, fun u r h _ => ?_⟩
    obtain ⟨tk, rfl⟩ := r
    exact .str _ _
  · rw [e, at_ j x y h1 h2]
def rSortT : List V → Hp → VK → Prop := fun vs H Q => ∃ (p a : Addr) (t : STab), vs = [.ref p] ∧ H p = some (DX.itemsO p a) ∧ H a = some (.dT (kvsS t)) ∧ t.length ≤ 100 ∧
  ∀ (H' : Hp) (l : Addr) (ts : List Addr) (u : STab), Same H H' → H l = none → H' l = some (.lst (ts.map V.ref)) → u.Perm t → (u.map (·.1)).Pairwise (fun a b => le2 a b = true) → Paired (fun (b : Addr) (y : (Str × Str) × Int) => ∃ k : Addr, H' b = some (.tup [.ref k, .int y.2]) ∧ H' k = some (.tup [.str y.1.1, .str y.1.2])) ts u → Q (.ref l) H'
theorem zip_at {qs : List Addr} {kvs : List (List Key × V)} {j : Nat} {x : V × V} (h : (psT qs kvs)[j]? = some x) : ∃ q p, qs[j]? = some q ∧ kvs[j]? = some p ∧ x = (V.ref q, p.2) := by
  unfold psT at h
  rw [List.getElem?_map] at h
  obtain ⟨z, hz, rfl⟩ := Option.map_eq_some_iff.mp h
  obtain ⟨z1, z2⟩ := List.getElem?_zip_eq_some.mp hz
  exact ⟨z.1, z.2, z1, z2, rfl⟩
theorem keys_at {H : Hp} {kvs : List (List Key × V)} {qs : List Addr} (h : IsKeys H kvs qs) {j : Nat} {q : Addr} {p : List Key × V} (h1 : qs[j]? = some q) (h2 : kvs[j]? = some p) : H q = some (.tup (p.1.map kV)) := by
  obtain ⟨q', e1, e2⟩ := paired_get h h2
  have : q' = q := Option.some.inj (e1.symm.trans h1)
  rwa [this] at e2
theorem call_sortT (hc : X.calm = true) (hu : X.A.units + 60 < cLine) : CallR X (.builtin "sorted") rSortT := by
  intro pins s σ H xs us Q I r h
  obtain ⟨p, a, t, rfl, hp, ha, hl, q⟩ := h
  obtain ⟨u, rfl, rx⟩ := vals1 r
  obtain rfl : u = Value.ref p := rx
  obtain ⟨qs, hq, hr⟩ := rawT I.hok ha
  have at_ : ∀ (j : Nat) (x : V × V) (y : (Str × Str) × Int), (psT qs (kvsS t))[j]? = some x → t[j]? = some y → ∃ k : Addr, x = (.ref k, .int y.2) ∧ H k = some (.tup [.str y.1.1, .str y.1.2]) := fun j x y h1 h2 => by
    obtain ⟨k, pr, e1, e2, e3⟩ := zip_at h1
    have e4 := keys_at hq e1 e2
    unfold kvsS at e2
    rw [List.getElem?_map, h2] at e2
    have e5 := (Option.some.inj e2).symm
    rw [e5] at e3 e4
    exact ⟨k, e3, e4⟩
  have lk : (psT qs (kvsS t)).length = t.length := by
    have := Paired.length hq
    unfold psT
    rw [List.length_map, List.length_zip, ← this, Nat.min_self, kvsS_len]
  refine itms_sorted ordT hc hu I hp hr (t := t) lk hl (fun j x y h1 h2 => ?_) fun H' l ts u a1 a2 a3 a4 a5 a6 => q H' l ts u a1 a2 a3 a4 a5 (Paired.mapP a6 fun b y ⟨x, e, j, h1, h2⟩ => ?_)
  · obtain ⟨k, rfl, hk⟩ := at_ j x y h1 h2
    refine ⟨rfl, fun u r h kp => ?_⟩
    obtain rfl := r
    obtain ⟨its, rv, ⟨ob, e1, e2, n, e3⟩, _⟩ := I.tuple (SqT.of hk)
    cases rv with
    | cons r1 t1 =>
      obtain ⟨k1, rfl⟩ := r1
      cases t1 with
      | cons r2 t2 =>
        obtain ⟨k2, rfl⟩ := r2
        cases t2
        exact .tuple (kp _ _ e1) e2 e3 (.cons (.str _ _) (.cons (.str _ _) .nil))
  · obtain ⟨k, rfl, hk⟩ := at_ j x y h1 h2
    exact ⟨k, e, a1 _ _ hk⟩
end
end Mk

set_option Elab.async false
set_option linter.all false
set_option maxRecDepth 100000
set_option maxHeartbeats 1000000
/-! dict(l) of a list of pairs whose first items are tuples, each there once -/
namespace Mk
open PySem PySem.Spec PyProof.Rows L2

abbrev PrsT (K : PySem.W.Frag) (H : Hp) : List Addr → List (List Key × V) → Prop := Paired fun p kv => ∃ b, H b = some (.tup (kv.1.map kV)) ∧ SqT K H p [.ref b, kv.2]
section
variable {X : Cx}
theorem pairsT_of {pins : List (Addr × Obj)} {σ : L2.St} {H : Hp} {s : Shared} (I : Inv X pins σ H s) : ∀ {ps : List Addr} {kvs : List (List Key × V)}, PrsT X.K H ps kvs →
    ∃ xs : List (List Key × Addr × Value), KT H kvs xs ∧ xs.length = ps.length ∧ ∀ (j : Nat) (q : List Key × Addr × Value), xs[j]? = some q → ∃ p, ps[j]? = some p ∧ IsTup s.heap p #[.ref q.2.1, q.2.2]
  | _, _, .nil => ⟨[], .nil, rfl, fun j q e => by simp at e⟩
  | _, _, .cons (a := p) (b := kv) h t => by
    obtain ⟨xs, r, hl, hp⟩ := pairsT_of I t
    obtain ⟨b, hb, hq⟩ := h
    obtain ⟨its, rv, ht, _⟩ := I.tuple hq
    obtain ⟨u, y, ei, ru, ry⟩ := vals2 rv
    subst ei
    obtain rfl : u = Value.ref b := ru
    refine ⟨(kv.1, b, y) :: xs, .cons ⟨rfl, hb, ry⟩ r, by rw [List.length_cons, List.length_cons, hl], fun j q e => ?_⟩
    cases j with
    | zero =>
      have e' : (kv.1, b, y) = q := Option.some.inj e
      subst e'
      exact ⟨p, rfl, ht⟩
    | succ j =>
      obtain ⟨p', e1, e2⟩ := hp j q (by simpa using e)
      exact ⟨p', by simpa using e1, e2⟩
theorem KT.keys {H : Hp} {kvs : List (List Key × V)} {xs : List (List Key × Addr × Value)} (r : KT H kvs xs) : xs.map (·.1) = kvs.map (·.1) := by
  induction r with
  | nil => rfl
  | cons h t ih => rw [List.map_cons, List.map_cons, ih, h.1]
theorem call_dictPT (hcalm : X.calm = true) (hu : X.A.units + 8 < cLine) : CallR X (.type "dict") (fun xs H Q => ∃ (a : Addr) (ps : List Addr) (kvs : List (List Key × V)), xs = [.ref a] ∧ SqL X.K H a (ps.map V.ref) ∧ PrsT X.K H ps kvs ∧ (kvs.map (·.1)).Nodup ∧
    ∀ p, H p = none → Q (.ref p) (upd H p (.dT kvs))) := by
  intro pins s σ H xs us Q I r q
  obtain ⟨a, ps, kvs, ex, hq, hp, nd, q⟩ := q
  subst ex
  obtain ⟨u, eu, rx⟩ := vals1 r
  subst eu
  cases rx
  obtain ⟨its, rv, pl, hz⟩ := I.list hq
  have ei := refs_at rv
  subst ei
  rw [List.length_map] at hz
  obtain ⟨prs, rel, hl, hpr⟩ := pairsT_of I hp
  obtain ⟨o, n, ho, hc, hd, hdat⟩ := pl
  have hk2 : ∀ x ∈ prs, (tupleKind (mixKind X.prog X.w)).is s.heap x.1 x.2.1 := by
    have all : ∀ {l : List (List Key × V)} {m : List (List Key × Addr × Value)}, KT H l m → ∀ x ∈ m, (tupleKind (mixKind X.prog X.w)).is s.heap x.1 x.2.1 := by
      intro l m q
      induction q with
      | nil => intro x hx; exact nomatch hx
      | @cons p q ps qs hq t ih =>
        intro x hx
        rcases List.mem_cons.mp hx with e | hx
        · subst e
          exact key_of I.hok (by rw [← hq.1]; exact hq.2.1)
        · exact ih x hx
    exact all rel
  have er : storedAllH [] prs = prs := storedAllH_nil_of_nodup prs (by rw [KT.keys rel]; exact nd)
  refine PySem.call_dict_pairsH (knd := tupleKind (mixKind X.prog X.w)) (ps := prs) (PySem.PairArg.list a (ps.map Value.ref).toArray (fun j => ps.getD j 0) (prs.map fun q => (Value.ref q.2.1, q.2.2))) (I.ok.hd hcalm) (show (tupleKind (mixKind X.prog X.w)).room X.A.in1.in1 from ?_) ⟨⟨o, n, ho, hc, hd, hdat⟩, ?_, ?_⟩ ⟨by simp, ?_⟩ ?_ (by rw [List.length_map, hl]; exact hz) fun h' tk hd' k => ?_
  · show X.A.units + 1 + 1 < cLine
    omega
  · simp [hl]
  · intro j k v e
    rw [List.getElem?_map] at e
    obtain ⟨q, eq, e⟩ := Option.map_eq_some_iff.mp e
    cases e
    obtain ⟨p, e1, e2⟩ := hpr j q eq
    refine ⟨?_, .inl ?_⟩
    · simp [e1]
    · simp [e1]
      exact e2
  · intro i key v e
    have e : (prs.map fun q => (Value.ref q.2.1, q.2.2))[i]? = some (key, v) := e
    rw [List.getElem?_map] at e
    obtain ⟨q, eq, e⟩ := Option.map_eq_some_iff.mp e
    cases e
    exact ⟨q.1, q.2.1, eq, rfl⟩
  · intro h' hk x hx
    obtain ⟨o', its, m, h1, h2, h3, h4⟩ := hk2 x hx
    exact ⟨o', its, m, hk _ _ (Nat.ne_of_lt (Heap.lt_size h1)) (fun z => nomatch z) h1, h2, h3, h4⟩
  · rw [er] at hd'
    have hm : (s.heap.objs.size == sysModules) = false := beq_eq_false_iff_ne.mpr (Nat.ne_of_gt I.big)
    have hlen : kvs.length ≤ sizeLine := by
      rw [Paired.length rel, hl]
      exact hz
    have nS : H s.heap.objs.size = none := I.hok.fresh (Nat.le_refl _)
    have rel2 : KT (upd H s.heap.objs.size (.dT kvs)) kvs prs := rel.keeps fun b ys e => by
      rw [upd_ne (ne_of_none e nS)]
      exact e
    obtain ⟨o', es, ep, h1, h2, h3, h4, _, h5⟩ := hd'
    exact ⟨.ref s.heap.objs.size, upd H s.heap.objs.size (.dT kvs), I.laid (t' := tk) (fun b o e => k b o (fun z => nomatch z) e) (Nat.le_refl _) (show ObjOk X.prog X.w _ _ _ (.dT kvs) from ⟨hlen, hm, prs, rel2, o', es, ep, h1, h2, h3, h4, h5⟩), rfl, q _ nS⟩
end
end Mk

set_option Elab.async false
set_option linter.all false
set_option maxRecDepth 100000
set_option maxHeartbeats 1000000
namespace Mk
open PySem PySem.Spec L2 PyProof.Rows

abbrev sLSigns : Stmt := top 38
/-- the signs of a text -/
def sgs (z : Str) : List Str := (cs z).map fun c => ⟨#[c]⟩
section
variable {X : Cx}
theorem sign_vals {z : Str} {acc : Array Value} (h : ItemsOf (SignAt z) acc z.cps.size) : Vals ((sgs z).map V.str) acc.toList := by
  refine paired_ix (by simp [sgs, h.1]) fun j x y e1 e2 => ?_
  obtain ⟨c, u, hc, rfl⟩ := h.2 j y (by simpa using e2)
  have e3 : (sgs z)[j]? = some ⟨#[c]⟩ := by
    have : (cs z)[j]? = some c := by rw [← hc]; simp [cs]
    unfold sgs
    rw [List.getElem?_map, this]
    rfl
  rw [List.getElem?_map, e3] at e1
  cases e1
  exact ⟨u, rfl⟩
theorem call_listS (hc : X.calm = true) : CallR X (.type "list") (fun xs H Q => ∃ z : Str, xs = [.str z] ∧ z.length ≤ sizeLine ∧ ∀ l, H l = none → Q (.ref l) (upd H l (.lst ((sgs z).map V.str)))) := by
  intro pins s σ H xs us Q I r h
  obtain ⟨z, rfl, hl, q⟩ := h
  obtain ⟨u, rfl, rx⟩ := vals1 r
  obtain ⟨t, rfl⟩ := rx
  refine call_list_str (hn := hl) (I.ok.hd hc) z t fun h' tk acc' c' kp e it => ?_
  have rv := sign_vals it
  refine ⟨.ref s.heap.objs.size, _, I.laid (t' := tk) kp (Nat.le_refl _) (show ObjOk X.prog X.w _ h' _ (.lst ((sgs z).map V.str)) from ⟨?_, acc'.toList, c', rv, by simpa using e⟩), rfl, q _ (I.hok.fresh (Nat.le_refl _))⟩
  rw [List.length_map, sgs, List.length_map]
  exact hl
end
theorem strs_perm {ys : List V} {zs : List Str} (p : ys.Perm (zs.map V.str)) : ∃ ws : List Str, ys = ws.map V.str ∧ ws.Perm zs := by
  let f : V → Str := fun v => match v with | .str s => s | _ => ""
  have e : ∀ l : List Str, (l.map V.str).map f = l := fun l => by
    rw [List.map_map]
    exact (List.map_congr_left fun _ _ => rfl).trans (List.map_id l)
  refine ⟨ys.map f, ?_, ?_⟩
  · rw [List.map_map]
    refine ((List.map_congr_left fun v hv => ?_).trans (List.map_id ys)).symm
    obtain ⟨z, _, rfl⟩ := List.mem_map.mp (p.mem_iff.mp hv)
    rfl
  · have := p.map f
    rwa [e] at this
theorem cut_strs (ws : List Str) (j : Nat) : cutV (ws.map V.str) none (some (j : Int)) = (ws.take (min j ws.length)).map V.str := by
  unfold cutV
  rw [HT.sIx_none, HT.sIx_nat, List.length_map, List.drop_zero, Nat.sub_zero, List.map_take]
def spShufS : Sp := fun vs H Q _ => ∃ (p : Addr) (z : Str) (n : Nat), vs = [.ref p, .str z] ∧ z.length < 100000 ∧ Pot H p n ∧ n + z.length < PB ∧
  ∀ H' D ys, But p H H' → H D = none → H' D = some (.lst ys) → ys.Perm ((sgs z).map V.str) → Pot H' p (n + z.length) → Q (.ref D) H'
/-- signs, ascending -/
structure SgL (zs : List Str) : Prop where
  ne : zs ≠ []
  le : zs.length ≤ 5
  sg : ∀ z ∈ zs, sgB z = true
  nd : zs.Nodup
  up : sortedS zs = true
def spLSigns : Sp := fun vs H Q _ => ∃ (p : Addr) (n : Nat), vs = [.ref p] ∧ Pot H p n ∧ n + 6 < PB ∧
  ∀ H' S zs, But p H H' → H S = none → H' S = some (.lst (zs.map V.str)) → SgL zs → Pot H' p (n + 6) → Q (.ref S) H'
theorem But.nul {p b : Addr} {H H' : Hp} {n : Nat} (B : But p H H') (P : Pot H' p n) (h : H' b = none) : H b = none := by
  cases e : H b with
  | none => rfl
  | some o =>
    have := B b o (P.ne h).symm e
    rw [h] at this
    cases this
section
variable {P : Program} {w : World} {K : PySem.W.Frag} {mg : Str → Option Value} {base : Heap}
theorem ok_shufS {f : Addr} {fd : FuncData} (F : Fun K "_law_shuffled" "_law_shuffled" sShuf f fd) (B : Bn mg) (D : Cd P w K mg base 1 "_law_dip" ["_law_pot", "_law_total"] spDip) : FnOk P w K mg base CX0 2 f fd ["_law_pot", "_law_items"] spShufS := by
  obtain ⟨d, dd, G, gm, gk, gb⟩ := D.ex
  refine F.ok scShuf (fun vs H Q E h => ?_) (fun cdv A outer s H vs Q E hr h => ?_)
  · obtain ⟨p, z, n, rfl, _⟩ := h
    rfl
  · obtain ⟨p, z, n, rfl, hz, hp, hn, q⟩ := h
    refine ⟨_, pss_cons (ps_set (i := 2) scShuf.nd rfl (.inr rfl) (pe_callTy (call_listS rfl) (by rfl) B.list (by decide +kernel) (pa_cons (pv 1) pa_nil)))
      (pss_one (ps_ret (pe_lc (own := [("_law_turn", 3)]) (g := gName 3) (tt := tYes) rfl scShuf.nd (pi_range1 (by rfl) B.range (pa_cons (pe_callB call_len_str (by rfl) B.len PySem.boot_len (pa_cons (pv 1) pa_nil)) pa_nil)) (blkOk_by (N := ["_law_pot", "_law_items", "_law_left", "_law_turn"]) (sc := defScope sShuf) (by decide +kernel))
        (fun _ _ _ _ _ => pg_name (i := 3) scShuf.nd rfl (Or.inl rfl)) (fun _ _ _ _ _ => pts_nil)
        (fun _ _ _ _ _ => atK K (pe_bm PySem.F.plainAttrs_list PySem.F.slot_list_pop PySem.F.type_list_pop mt_popAt (pv 2) (pa_cons (pe_call G hr (by rfl) gm gk gb .nil pass0 (pa_cons (pv 0) (pa_cons (pe_callB (call_lenK K) (by rfl) B.len PySem.boot_len (pa_cons (pv 2) pa_nil)) pa_nil))) pa_nil)))))), ?_⟩
    have hzs : z.length ≤ sizeLine := Nat.le_trans (Nat.le_of_lt hz) (by decide)
    have hxl : ((sgs z).map V.str).length = z.length := by
      rw [List.length_map, sgs, List.length_map]
      rfl
    refine ⟨_, rfl, z, rfl, hzs, fun l hl0 => ?_⟩
    have hpl : p ≠ l := hp.ne hl0
    refine ⟨_, rfl, z, rfl, hzs, _, rfl, by omega, by omega, fun D hD => ?_⟩
    generalize hxs : (sgs z).map V.str = xs at q hD hxl ⊢
    have hDl : D ≠ l := (ne_of_none (upd_same : upd H l (.lst xs) l = some (.lst xs)) hD).symm
    have hD0 : H D = none := by rw [upd_ne hDl] at hD; exact hD
    refine lc_range (lo := 0) (n := z.length) (fun i H1 => ∃ ys left, But p H H1 ∧ H1 l = some (.lst left) ∧ H1 D = some (.lst ys) ∧ ys.length = i ∧ (ys ++ left).Perm xs ∧ Pot H1 p (n + i)) ?_ ?_ ?_
    · refine ⟨[], xs, (But.up (But.up But.refl hl0) hD0), ?_, upd_same, rfl, .refl _, (hp.up hpl).up (hp.ne hD0)⟩
      rw [upd_ne hDl.symm]
      exact upd_same
    · rintro i H1 hi ⟨ys, left, hB, h1, h2, hy, hperm, hP⟩
      have hlen : left.length = z.length - i := by
        have := hperm.length_eq
        rw [List.length_append] at this
        omega
      refine ⟨rfl, _, rfl, .inl ⟨rfl, _, SqL.of h1⟩, _, rfl, _, rfl, l, left, rfl, .inl (SqL.of h1), p, n + i, _, rfl, hP, by omega, by omega, by omega, fun H2 k hb hf hP2 hk0 hk1 => ?_⟩
      have hkn : k.toNat < left.length := by omega
      have hlp : l ≠ p := hpl.symm
      have h1' := hb _ _ hlp h1
      have h2' := hb _ _ (hp.ne hD0).symm h2
      refine ⟨l, left, k, k.toNat, left[k.toNat], rfl, rfl, h1', by omega, by omega, seq_at hk0 hk1, List.getElem?_eq_getElem hkn, ys, ?_, ?_, ys ++ [left[k.toNat]], left.eraseIdx k.toNat, ?_, ?_, upd_same, ?_, ?_, ?_⟩
      · rw [upd_ne hDl]
        exact h2'
      · exact Nat.lt_of_lt_of_le (by omega : ys.length < 100000) (by decide)
      · exact But.up (But.up (hB.trans hb) hl0) hD0
      · rw [upd_ne hDl.symm]
        exact upd_same
      · rw [List.length_append, hy]
        rfl
      · rw [List.append_assoc]
        exact (List.Perm.append_left ys (perm_erase hkn)).trans hperm
      · exact (hP2.up hpl).up (hp.ne hD0)
    · rintro H1 ⟨ys, left, hB, h1, h2, hy, hperm, hP⟩
      have : left = [] := by
        have := hperm.length_eq
        rw [List.length_append] at this
        exact List.length_eq_zero_iff.mp (by omega)
      subst this
      rw [List.append_nil] at hperm
      exact q _ _ _ hB hD0 h2 hperm hP
theorem scLSigns : FnScope ["_law_pot"] ["_law_pot"] (defScope sLSigns) := ⟨rfl, rfl, rfl, by decide +kernel, rfl, by decide +kernel, by decide +kernel⟩
theorem five_sg : (∀ z ∈ sgs "abcde", sgB z = true) ∧ (sgs "abcde").Nodup ∧ (sgs "abcde").length = 5 := by
  refine ⟨by decide +kernel, by decide +kernel, by decide +kernel⟩
theorem ok_lsigns {f : Addr} {fd : FuncData} (F : Fun K "_law_signs" "_law_signs" sLSigns f fd) (O : On mg) (D : Cd P w K mg base 1 "_law_dip" ["_law_pot", "_law_total"] spDip) (S : Cd P w K mg base 2 "_law_shuffled" ["_law_pot", "_law_items"] spShufS) : FnOk P w K mg base CX0 3 f fd ["_law_pot"] spLSigns := by
  obtain ⟨d, dd, G, gm, gk, gb⟩ := D.ex
  obtain ⟨a, da, Gs, sm, sk, sb⟩ := S.ex
  refine F.ok scLSigns (fun vs H Q E h => ?_) (fun cdv A outer s H vs Q E hr h => ?_)
  · obtain ⟨p, n, rfl, _⟩ := h
    rfl
  · obtain ⟨p, n, rfl, hp, hn, q⟩ := h
    refine ⟨_, pss_one (ps_ret (pe_callB cr_sortedS (by rfl) O.sorted (by decide +kernel) (pa_cons (pe_slice sl_list (pe_call Gs hr (by rfl) sm sk sb .nil pass0 (pa_cons (pv 0) (pa_cons pe_str pa_nil))) po_none (po_some (pe_op op_add pe_int (pe_call G (hr.mono (by decide)) (by rfl) gm gk gb .nil pass0 (pa_cons (pv 0) (pa_cons pe_int pa_nil)))))) pa_nil))), ?_⟩
    obtain ⟨f1, f2, f3⟩ := five_sg
    have l5 : ("abcde" : Str).length = 5 := by decide +kernel
    refine ⟨_, rfl, p, "abcde", n, rfl, by decide +kernel, hp, by omega, fun H1 L ys b1 L0 hL perm P1 => ?_⟩
    obtain ⟨ws, rfl, pw⟩ := strs_perm perm
    rw [l5] at P1
    refine ⟨_, rfl, p, n + 5, 5, rfl, P1, by omega, by decide, by decide, fun H2 k b2 fr2 P2 k0 k1 => ?_⟩
    have hL2 := b2 _ _ (hp.ne L0).symm hL
    obtain ⟨j, rfl⟩ : ∃ j : Nat, k = (j : Int) := ⟨k.toNat, by omega⟩
    refine ⟨_, _, rfl, rfl, _, rfl, L, _, rfl, SqL.of hL2, fun c hc => ?_⟩
    have e1 : (1 : Int) + (j : Int) = ((j + 1 : Nat) : Int) := by omega
    have pc := P2.ne hc
    have lw := pw.length_eq
    rw [e1, cut_strs]
    refine ⟨c, ws.take (min (j + 1) ws.length), rfl, SqL.of upd_same, ?_, fun zs S pz so hS => ?_⟩
    · rw [List.length_take]
      omega
    have P3 := P2.up (o := .lst ((ws.take (min (j + 1) ws.length)).map V.str)) pc
    have b3 : But p H (upd H2 c (.lst ((ws.take (min (j + 1) ws.length)).map V.str))) := But.same (b1.trans b2) (Same.new hc)
    have S0 : H S = none := b3.nul P3 hS
    refine q _ S zs (b3.same (Same.new hS)) S0 upd_same ?_ (P3.up (P3.ne hS))
    have lz := pz.length_eq
    rw [List.length_take] at lz
    have sub : ∀ z ∈ zs, z ∈ sgs "abcde" := fun z hz => pw.mem_iff.mp (List.mem_of_mem_take (pz.mem_iff.mp hz))
    refine ⟨fun e => ?_, by omega, fun z hz => f1 z (sub z hz), ?_, so⟩
    · rw [e] at lz
      simp at lz
      omega
    · exact pz.nodup_iff.mpr ((pw.nodup_iff.mpr f2).sublist (List.take_sublist _ _))
end
end Mk

set_option Elab.async false
set_option linter.all false
set_option maxRecDepth 100000
set_option maxHeartbeats 1000000
namespace Mk
open PySem PySem.Spec L2 PyProof.Rows

abbrev sLTables : Stmt := top 39
structure Dn (mg : Str → Option Value) : Prop where
  dict : mg "dict" = none
theorem not_in_append {t : List (Str × Int)} {p : Str × Int} {r : List (Str × Int)} (h : ((t ++ p :: r).map (·.1)).Nodup) : p.1 ∉ t.map (·.1) := fun m => by
  rw [List.map_append, List.map_cons] at h
  exact (List.nodup_append.mp h).2.2 _ m _ List.mem_cons_self rfl
theorem merge_P : ∀ (b a : PTab), ((a ++ b).map (·.1)).Nodup → mergeK (kvsP a) (kvsP b) = kvsP (a ++ b)
  | [], a, _ => by rw [List.append_nil]; rfl
  | p :: b, a, h => by
    show mergeK (L2.putK (kvsP a) (Sum.inr p.1) (V.int p.2)) (kvsP b) = _
    rw [putP_new (not_in_append h)]
    have e : a ++ [(p.1, p.2)] ++ b = a ++ p :: b := by simp
    have := merge_P b (a ++ [(p.1, p.2)]) (by rw [e]; exact h)
    rw [this, e]
theorem merge_P0 {t : PTab} (h : (t.map (·.1)).Nodup) : mergeK [] (kvsP t) = kvsP t := merge_P t [] h
/-- pairs of a sign and a number, told by tuples -/
abbrev Tups (H : Hp) (ts : List Addr) (tab : PTab) : Prop := Paired (fun (t : Addr) (q : Str × Int) => H t = some (.tup [.str q.1, .int q.2])) ts tab
theorem tups_sq {K : PySem.W.Frag} {H : Hp} : ∀ {ts : List Addr} {tab : PTab}, Tups H ts tab → Paired (fun (p : Addr) (kv : Key × V) => SqT K H p [kV kv.1, kv.2]) ts (kvsP tab)
  | _, _, .nil => .nil
  | _, _, .cons h t => .cons (SqT.of h) (tups_sq t)
theorem Paired.snocP {α β : Type} {F : α → β → Prop} {a : α} {b : β} (h : F a b) : ∀ {l : List α} {m : List β}, Paired F l m → Paired F (l ++ [a]) (m ++ [b])
  | _, _, .nil => .cons h .nil
  | _, _, .cons x t => .cons x (Paired.snocP h t)
theorem Paired.appendP {α β : Type} {F : α → β → Prop} : ∀ {l l2 : List α} {m m2 : List β}, Paired F l m → Paired F l2 m2 → Paired F (l ++ l2) (m ++ m2)
  | _, _, _, _, .nil, h => h
  | _, _, _, _, .cons x t, h => .cons x (Paired.appendP t h)
theorem Paired.permL {α β : Type} {F : α → β → Prop} {ps qs : List α} (p : ps.Perm qs) : ∀ {ks : List β}, Paired F qs ks → ∃ ls, ls.Perm ks ∧ Paired F ps ls := by
  induction p with
  | nil =>
    intro ks h
    cases h
    exact ⟨[], .refl _, .nil⟩
  | cons x _ ih =>
    intro ks h
    cases h with
    | cons a t =>
      obtain ⟨ls, p, q⟩ := ih t
      exact ⟨_ :: ls, p.cons _, .cons a q⟩
  | swap x y l =>
    intro ks h
    cases h with
    | cons a t =>
      cases t with
      | cons b t => exact ⟨_, List.Perm.swap _ _ _, .cons b (.cons a t)⟩
  | trans _ _ i1 i2 =>
    intro ks h
    obtain ⟨l1, p1, q1⟩ := i2 h
    obtain ⟨l2, p2, q2⟩ := i1 q1
    exact ⟨l2, p2.trans p1, q2⟩
theorem Paired.subL {α β : Type} {F : α → β → Prop} {ps qs : List α} (p : List.Sublist ps qs) : ∀ {ks : List β}, Paired F qs ks → ∃ ls : List β, List.Sublist ls ks ∧ Paired F ps ls := by
  induction p with
  | slnil =>
    intro ks h
    cases h
    exact ⟨[], .slnil, .nil⟩
  | cons x _ ih =>
    intro ks h
    cases h with
    | cons a t =>
      obtain ⟨ls, p, q⟩ := ih t
      exact ⟨ls, p.cons _, q⟩
  | cons_cons x _ ih =>
    intro ks h
    cases h with
    | cons a t =>
      obtain ⟨ls, p, q⟩ := ih t
      exact ⟨_ :: ls, p.cons_cons _, .cons a q⟩
/-- addresses of a permuted list of addresses -/
theorem refs_perm {ys : List V} {qs : List Addr} (p : ys.Perm (qs.map V.ref)) : ∃ ps : List Addr, ys = ps.map V.ref ∧ ps.Perm qs := by
  let f : V → Addr := fun v => match v with | .ref s => s | _ => 0
  have e : ∀ l : List Addr, (l.map V.ref).map f = l := fun l => by
    rw [List.map_map]
    exact (List.map_congr_left fun _ _ => rfl).trans (List.map_id l)
  refine ⟨ys.map f, ?_, ?_⟩
  · rw [List.map_map]
    refine ((List.map_congr_left fun v hv => ?_).trans (List.map_id ys)).symm
    obtain ⟨z, _, rfl⟩ := List.mem_map.mp (p.mem_iff.mp hv)
    rfl
  · have := p.map f
    rwa [e] at this
theorem But.new {p l : Addr} {o : HO} {H H1 : Hp} (B : But p H H1) (hl : H1 l = none) : But p H (upd H1 l o) := B.same (Same.new hl)
/-- signs with prices that are dealt out, in the list at D -/
structure Dealt (p : Addr) (H H1 : Hp) (D : Addr) (ws : List Str) (m : Int) (n : Nat) : Prop where
  but : But p H H1
  pot : Pot H1 p n
  ex : ∃ (ts : List Addr) (tab : PTab), H1 D = some (.lst (ts.map V.ref)) ∧ Tups H1 ts tab ∧ tab.map (·.1) = ws ∧ ∀ q ∈ tab, 1 ≤ q.2 ∧ q.2 ≤ m
theorem Tups.keep {H H' : Hp} (k : ∀ b xs, H b = some (.tup xs) → H' b = some (.tup xs)) {ts : List Addr} {tab : PTab} (h : Tups H ts tab) : Tups H' ts tab := L2.Paired.mapP h fun _ _ e => k _ _ e
theorem Dealt.next {p : Addr} {H H1 H2 : Hp} {D t : Addr} {ws : List Str} {z : Str} {m i : Int} {n : Nat} (W : Dealt p H H1 D ws m n) (D0 : H D = none) (b2 : But p H1 H2) (P2 : Pot H2 p (n + 1)) (h1 : 1 ≤ i) (h2 : i ≤ m) (ht : H2 t = none) (nD : D ≠ p) :
    ∃ acc, (upd H2 t (.tup [.str z, .int i])) D = some (.lst acc) ∧ acc.length = ws.length ∧ Dealt p H (upd (upd H2 t (.tup [.str z, .int i])) D (.lst (acc ++ [.ref t]))) D (ws ++ [z]) m (n + 1) := by
  obtain ⟨ts, tab, e1, e2, e3, e4⟩ := W.ex
  have e1' := b2 _ _ nD e1
  have Dt : D ≠ t := ne_of_none e1' ht
  refine ⟨ts.map V.ref, by rw [upd_ne Dt]; exact e1', ?_, ?_, ?_, ts ++ [t], tab ++ [(z, i)], ?_, ?_, ?_, ?_⟩
  · have : ts.length = tab.length := Paired.length e2
    rw [List.length_map, this, ← e3, List.length_map]
  · exact But.up ((W.but.trans b2).new ht) D0
  · exact (P2.up (P2.ne ht)).up nD.symm
  · rw [upd_same, List.map_append]
    rfl
  · refine Paired.snocP ?_ (Tups.keep (fun b xs e => ?_) e2)
    · show (upd (upd H2 t _) D _) t = _
      rw [upd_ne Dt.symm, upd_same]
    · have e' : H2 b = some (.tup xs) := b2 _ _ (fun z => by
        obtain ⟨_, _, _, ep, _⟩ := W.pot
        rw [z, ep] at e
        cases e) e
      have nb : b ≠ D := fun z => by
        rw [z, e1'] at e'
        cases e'
      rw [upd_ne nb, upd_ne (ne_of_none e' ht)]
      exact e'
  · rw [List.map_append, e3]
    rfl
  · intro q hq
    rcases List.mem_append.mp hq with hq | hq
    · exact e4 q hq
    · rw [List.mem_singleton.mp hq]
      exact ⟨h1, h2⟩
theorem pot_same {H H' : Hp} {p : Addr} {n : Nat} (h : Same H H') (P : Pot H p n) : Pot H' p n := by
  obtain ⟨u, m, c, e, r⟩ := P
  exact ⟨u, m, c, h _ _ e, r⟩
theorem rows_told {K : PySem.W.Frag} {H : Hp} : ∀ {ts : List Addr} {rows : List (Addr × Int)} {ms : List (Str × Str)}, Paired (fun (t : Addr) (r : Addr × Int) => H t = some (.tup [.ref r.1, .int r.2])) ts rows → Pairs H (rows.map (·.1)) ms →
    ∃ t3 : STab, t3.map (·.1) = ms ∧ t3.map (·.2) = rows.map (·.2) ∧ PrsT K H ts (kvsS t3)
  | _, [], _, .nil, h => by
    cases h
    exact ⟨[], rfl, rfl, .nil⟩
  | _, r :: rows, _, .cons a t, h => by
    rw [List.map_cons] at h
    cases h with
    | @cons _ k _ ms b h =>
      obtain ⟨t3, e1, e2, pr⟩ := rows_told (K := K) t h
      exact ⟨(k, r.2) :: t3, by rw [List.map_cons, e1], by rw [List.map_cons, e2, List.map_cons], .cons ⟨r.1, b, SqT.of a⟩ pr⟩
theorem kvsS_nd {t : STab} (h : (t.map (·.1)).Nodup) : ((kvsS t).map (·.1)).Nodup := by
  have e : (kvsS t).map (·.1) = (t.map (·.1)).map keyOf := by
    unfold kvsS
    rw [List.map_map, List.map_map]
    rfl
  rw [e]
  exact List.Pairwise.map _ (fun a b n z => n (key_inj z)) h
theorem nw_in {i m : Int} (h1 : 1 ≤ i) (h2 : i ≤ m) (h3 : m ≤ LG) : nwB i 1 m = true := by
  unfold nwB nuB
  have g : (-LG) ≤ 1 := by decide
  simp only [Bool.and_eq_true, decide_eq_true_eq]
  exact ⟨⟨Int.le_trans g h1, Int.le_trans h2 h3⟩, h1, h2⟩
/-- the list of pairs that grows at l -/
structure GrowL (H H1 : Hp) (l : Addr) (ks : List (Str × Str)) : Prop where
  but : But l H H1
  out : ∃ qs : List Addr, H1 l = some (.lst (qs.map V.ref)) ∧ Pairs H1 qs ks
/-- what is right about tables -/
structure RtT (t1 t2 : PTab) (t3 : STab) : Prop where
  ag : Agree t1 t2 t3
  nd : (t3.map (·.1)).Nodup
  rt : rightB t1 t2 t3 = true
def spLTables : Sp := fun vs H Q _ => ∃ (p S : Addr) (n : Nat) (zs : List Str), vs = [.ref p, .ref S] ∧ Pot H p n ∧ n + 100 < PB ∧ H S = some (.lst (zs.map V.str)) ∧ SgL zs ∧
  ∀ H' L a b c t1 t2 t3, But p H H' → H' L = some (.lst [.ref a, .ref b, .ref c]) → Tabs H' a b c t1 t2 t3 → RtT t1 t2 t3 → Pot H' p (n + 100) → Q (.ref L) H'
theorem pick1 {v : V} (h : v ∈ [V.int 2, V.int 9, V.int 9]) : ∃ m : Int, v = .int m ∧ 1 ≤ m ∧ m ≤ 9 := by
  simp only [List.mem_cons, List.not_mem_nil, or_false] at h
  rcases h with rfl | rfl | rfl
  · exact ⟨_, rfl, by decide, by decide⟩
  · exact ⟨_, rfl, by decide, by decide⟩
  · exact ⟨_, rfl, by decide, by decide⟩
theorem pick2 {v : V} (h : v ∈ [V.int 1, V.int 2, V.int 6, V.int 18]) : ∃ m : Int, v = .int m ∧ 1 ≤ m ∧ m ≤ 18 := by
  simp only [List.mem_cons, List.not_mem_nil, or_false] at h
  rcases h with rfl | rfl | rfl | rfl
  · exact ⟨_, rfl, by decide, by decide⟩
  · exact ⟨_, rfl, by decide, by decide⟩
  · exact ⟨_, rfl, by decide, by decide⟩
  · exact ⟨_, rfl, by decide, by decide⟩
theorem pick3 {v : V} (h : v ∈ [V.int 1, V.int 2, V.int 4, V.int 9]) : ∃ m : Int, v = .int m ∧ 1 ≤ m ∧ m ≤ 18 := by
  simp only [List.mem_cons, List.not_mem_nil, or_false] at h
  rcases h with rfl | rfl | rfl | rfl
  · exact ⟨_, rfl, by decide, by decide⟩
  · exact ⟨_, rfl, by decide, by decide⟩
  · exact ⟨_, rfl, by decide, by decide⟩
  · exact ⟨_, rfl, by decide, by decide⟩
section
variable {P : Program} {w : World} {K : PySem.W.Frag} {mg : Str → Option Value} {base : Heap}
abbrev nTab : List Str := ["_law_pot", "_law_signs_here", "_law_most", "_law_far", "_law_share", "_law_puts", "_law_outs", "_law_pairs", "_law_one", "_law_sign", "_law_other", "_law_pair"]
theorem scLTables : FnScope nTab ["_law_pot", "_law_signs_here"] (defScope sLTables) := ⟨rfl, rfl, rfl, by decide +kernel, rfl, by decide +kernel, by decide +kernel⟩
theorem ok_ltables {f : Addr} {fd : FuncData} (F : Fun K "_law_tables" "_law_tables" sLTables f fd) (B : Bn mg) (Dd : Dn mg) (D : Cd P w K mg base 1 "_law_dip" ["_law_pot", "_law_total"] spDip) (C : Cd P w K mg base 2 "_law_choose" ["_law_pot", "_law_items"] spChoose) (S : Cd P w K mg base 2 "_law_shuffled" ["_law_pot", "_law_items"] spShuf) : FnOk P w K mg base CX0 3 f fd ["_law_pot", "_law_signs_here"] spLTables := by
  obtain ⟨d, dd, G, gm, gk, gb⟩ := D.ex
  obtain ⟨a, da, Gs, sm, sk, sb⟩ := S.ex
  obtain ⟨c, dc, Gc, cm, ck, cb⟩ := C.ex
  refine F.ok scLTables (fun vs H Q E h => ?_) (fun cdv A outer s H vs Q E hr h => ?_)
  · obtain ⟨p, S, n, zs, rfl, _⟩ := h
    rfl
  · obtain ⟨p, S, n, zs, rfl, hp, hn, hS, sg, q⟩ := h
    have r1 : Room 1 _ := hr.mono (by decide)
    have hu : A.units + 3 + 8 < cLine := by
      have h2 : A.units + 3 + 16 * 2 + 200 < cLine := hr.un
      omega
    refine ⟨_, pss_cons (ps_asg (pe_tup (pa_cons (pe_call Gc hr (by rfl) cm ck cb .nil pass0 (pa_cons (pv 0) (pa_cons (pe_lst (pa_cons pe_int (pa_cons pe_int (pa_cons pe_int pa_nil)))) pa_nil)))
        (pa_cons (pe_call Gc hr (by rfl) cm ck cb .nil pass0 (pa_cons (pv 0) (pa_cons (pe_lst (pa_cons pe_int (pa_cons pe_int (pa_cons pe_int (pa_cons pe_int pa_nil))))) pa_nil)))
        (pa_cons (pe_call Gc hr (by rfl) cm ck cb .nil pass0 (pa_cons (pv 0) (pa_cons (pe_lst (pa_cons pe_int (pa_cons pe_int (pa_cons pe_int (pa_cons pe_int pa_nil))))) pa_nil))) pa_nil))))
        (pg_tup rfl (pgs_cons (pg_name (i := 2) scLTables.nd rfl (.inr rfl)) (pgs_cons (pg_name (i := 3) scLTables.nd rfl (.inr rfl)) (pgs_cons (pg_name (i := 4) scLTables.nd rfl (.inr rfl)) pgs_nil)))))
      (pss_cons (ps_set (i := 5) scLTables.nd rfl (.inl rfl) (pe_callTy (call_dictP rfl) (by rfl) Dd.dict (by decide +kernel) (pa_cons (pe_lc (own := [("_law_sign", 9)]) (g := gName 9) (tt := tYes) rfl scLTables.nd (pi_list (pe_call Gs hr (by rfl) sm sk sb .nil pass0 (pa_cons (pv 0) (pa_cons (pv 1) pa_nil)))) (blkOk_by (N := nTab) (sc := defScope sLTables) (by decide +kernel))
          (fun _ _ _ _ _ => pg_name (i := 9) scLTables.nd rfl (Or.inl rfl)) (fun _ _ _ _ _ => pts_nil)
          (fun _ _ _ _ _ => pe_tup (pa_cons (pv 9) (pa_cons (pe_op op_add pe_int (pe_call G r1 (by rfl) gm gk gb .nil pass0 (pa_cons (pv 0) (pa_cons (pv 2) pa_nil)))) pa_nil)))) pa_nil)))
      (pss_cons (ps_set (i := 6) scLTables.nd rfl (.inl rfl) (pe_callTy (call_dictP rfl) (by rfl) Dd.dict (by decide +kernel) (pa_cons (pe_lc (own := [("_law_sign", 9)]) (g := gName 9) (tt := tYes) rfl scLTables.nd (pi_list (pe_call Gs hr (by rfl) sm sk sb .nil pass0 (pa_cons (pv 0) (pa_cons (pv 1) pa_nil)))) (blkOk_by (N := nTab) (sc := defScope sLTables) (by decide +kernel))
          (fun _ _ _ _ _ => pg_name (i := 9) scLTables.nd rfl (Or.inl rfl)) (fun _ _ _ _ _ => pts_nil)
          (fun _ _ _ _ _ => pe_tup (pa_cons (pv 9) (pa_cons (pe_op op_add pe_int (pe_call G r1 (by rfl) gm gk gb .nil pass0 (pa_cons (pv 0) (pa_cons pe_int pa_nil)))) pa_nil)))) pa_nil)))
      (pss_cons (ps_set (i := 7) scLTables.nd rfl (.inl rfl) (pe_lst pa_nil))
      (pss_cons (ps_for PassesOwn.never rfl (pi_list (pv 1)) (pg_name (i := 8) scLTables.nd rfl (.inr rfl))
        (pss_one (ps_expr (pe_bm PySem.F.plainAttrs_list PySem.F.slot_list_extend PySem.F.type_list_extend mt_extend (pv 7) (pa_cons (pe_lc (own := [("_law_other", 10)]) (g := gName 10) rfl scLTables.nd (pi_list (pv 1)) (blkOk_by (N := nTab) (sc := defScope sLTables) (by decide +kernel))
          (fun _ _ _ _ _ => pg_name (i := 10) scLTables.nd rfl (Or.inl rfl)) (fun _ _ _ _ _ => pts_one (pt_cmpR op_ne (pv 8) (pv 10) (nomark _)))
          (fun _ _ _ _ _ => pe_tup (pa_cons (pv 8) (pa_cons (pv 10) pa_nil)))) pa_nil)))))
      (pss_cons (ps_setLc (i := 7) (own := [("_law_pair", 11)]) (g := gName 11) rfl scLTables.nd rfl rfl rfl (pi_list (pe_call Gs hr (by rfl) sm sk sb .nil pass0 (pa_cons (pv 0) (pa_cons (pv 7) pa_nil)))) (blkOk_by (N := nTab) (sc := defScope sLTables) (by decide +kernel))
          (fun _ _ _ _ _ => pg_name (i := 11) scLTables.nd rfl (Or.inl rfl)) (fun _ _ _ _ _ => pts_one (pt_cmpR op_eq (pe_call G r1 (by rfl) gm gk gb .nil pass0 (pa_cons (pv 0) (pa_cons (pv 4) pa_nil))) pe_int (nomark _)))
          (fun _ _ _ _ _ => pv 11))
      (pss_one (ps_ret (pe_lst (pa_cons (pv 5) (pa_cons (pv 6) (pa_cons (pe_callTy (call_dictPT rfl hu) (by rfl) Dd.dict (by decide +kernel) (pa_cons (pe_lc (own := [("_law_pair", 11)]) (g := gName 11) (tt := tYes) rfl scLTables.nd (pi_list (pv 7)) (blkOk_by (N := nTab) (sc := defScope sLTables) (by decide +kernel))
          (fun _ _ _ _ _ => pg_name (i := 11) scLTables.nd rfl (Or.inl rfl)) (fun _ _ _ _ _ => pts_nil)
          (fun _ _ _ _ _ => pe_tup (pa_cons (pv 11) (pa_cons (pe_op op_add pe_int (pe_call G r1 (by rfl) gm gk gb .nil pass0 (pa_cons (pv 0) (pa_cons (pv 3) pa_nil)))) pa_nil)))) pa_nil)) pa_nil))))))))))), ?_⟩
    have pS : S ≠ p := fun e => by
      obtain ⟨_, _, _, ep, _⟩ := hp
      rw [e, ep] at hS
      obtain ⟨z, r, _, k, _⟩ := List.map_eq_cons_iff.mp (by injection Option.some.inj hS with z; exact z.symm)
      cases k
    have nar : ∀ {n m : Nat}, n ≤ m → m ≤ 1000 → n ≤ sizeLine := fun h1 h2 => by rw [sizeLine_eq]; omega
    have lt1 : ∀ {n : Nat}, n ≤ 100 → n < sizeLine := fun h1 => by rw [sizeLine_eq]; omega
    refine ⟨_, rfl, nar (m := 3) (by decide) (by decide), fun l1 hl1 => ⟨p, n, hp.up (hp.ne hl1), by omega, .inl ⟨l1, _, rfl, (hp.ne hl1).symm, upd_same, by decide, by decide, fun H1 v1 N1 m1 => ?_⟩⟩⟩
    refine ⟨_, rfl, nar (m := 4) (by decide) (by decide), fun l2 hl2 => ⟨p, n + 1, N1.pot.up (N1.pot.ne hl2), by omega, .inl ⟨l2, _, rfl, (N1.pot.ne hl2).symm, upd_same, by decide, by decide, fun H2 v2 N2 m2 => ?_⟩⟩⟩
    refine ⟨_, rfl, nar (m := 4) (by decide) (by decide), fun l3 hl3 => ⟨p, n + 2, N2.pot.up (N2.pot.ne hl3), by omega, .inl ⟨l3, _, rfl, (N2.pot.ne hl3).symm, upd_same, by decide, by decide, fun H3 v3 N3 m3 => ?_⟩⟩⟩
    obtain ⟨mo, rfl, mo1, mo9⟩ := pick1 m1
    obtain ⟨fa, rfl, fa1, fa9⟩ := pick2 m2
    obtain ⟨sh, rfl, sh1, sh9⟩ := pick3 m3
    have b3 : But p H H3 := ((((((But.refl.new hl1).trans N1.but).new hl2).trans N2.but).new hl3).trans N3.but)
    have P3 := N3.pot
    clear N1 N2 N3 hl1 hl2 hl3 m1 m2 m3
    refine ⟨(show 3 ≤ sizeLine from nar (m := 3) (by decide) (by decide)), fun t ht => ⟨t, _, rfl, SqT.of upd_same, rfl, _, _, rfl, _, _, rfl, _, _, rfl, rfl, ?_⟩⟩
    have b4 := b3.new (o := .tup [.int mo, .int fa, .int sh]) ht
    have P4 := P3.up (o := .tup [.int mo, .int fa, .int sh]) (P3.ne ht)
    generalize upd H3 t (.tup [.int mo, .int fa, .int sh]) = H4 at b4 P4 ⊢
    clear b3 P3 ht
    have hl5 := sg.le
    have lz : (zs.map V.str).length = zs.length := List.length_map _
    have ndz := sg.nd
    -- the put prices
    refine ⟨_, rfl, _, rfl, p, S, n + 3, _, rfl, pS, b4 _ _ pS hS, by omega, P4, by omega, fun H5 L1 ys b5 L10 hL1 pe1 P5 => ?_⟩
    obtain ⟨ws, rfl, pw⟩ := strs_perm pe1
    rw [lz] at P5
    have lw := pw.length_eq
    have b5' := b4.trans b5
    refine ⟨L1, rfl, ⟨_, SqL.of hL1⟩, fun D hD => lc_it (walk_list (K := K) (a := L1) (xs := ws.map V.str)) (fun i H6 => H6 L1 = some (.lst (ws.map V.str)) ∧ Dealt p H H6 D (ws.take i) mo (n + 3 + zs.length + i)) ?_ (fun i H6 _ h6 => SqL.of h6.1) ?_ ?_⟩
    · exact ⟨(Same.new hD) _ _ hL1, b5'.new hD, P5.up (P5.ne hD), [], [], upd_same, .nil, rfl, fun _ h => nomatch h⟩
    · rintro i x H6 H7 hi ⟨e6, W6⟩ ⟨rfl, hx⟩
      rw [List.length_map] at hi
      have ex : x = V.str ws[i] := by
        rw [List.getElem?_map, List.getElem?_eq_getElem hi] at hx
        exact (Option.some.inj hx).symm
      subst ex
      refine ⟨rfl, _, rfl, _, rfl, _, rfl, p, _, mo, rfl, W6.pot, by omega, by omega, by omega, fun H8 k b8 f8 P8 k0 k1 => ⟨_, _, rfl, rfl, (show 2 ≤ sizeLine from nar (m := 2) (by decide) (by decide)), fun t ht => ?_⟩⟩
      have D0 : H D = none := b5'.nul P5 hD
      obtain ⟨acc, a1, a2, W9⟩ := W6.next (z := ws[i]) (i := 1 + k) D0 b8 P8 (by omega) (by omega) ht (P5.ne hD).symm
      refine ⟨acc, a1, lt1 (by rw [a2, List.length_take]; omega), ?_, ?_⟩
      · have L8 := b8 _ _ (P4.ne L10).symm e6
        rw [upd_ne (ne_of_none hL1 hD), upd_ne (ne_of_none L8 ht)]
        exact L8
      · have et : ws.take (i + 1) = ws.take i ++ [ws[i]] := by rw [List.take_add_one, List.getElem?_eq_getElem hi]; rfl
        rw [et]
        exact W9
    · rintro H6 ⟨e6, W6⟩
      rw [List.length_map] at W6
      rw [List.take_length] at W6
      obtain ⟨ts1, tab1, w1, w2, w3, w4⟩ := W6.ex
      have nd1 : (tab1.map (·.1)).Nodup := by rw [w3]; exact pw.nodup_iff.mpr ndz
      refine ⟨D, ts1, kvsP tab1, rfl, SqL.of w1, tups_sq w2, fun d1 hd1 => ?_⟩
      rw [merge_P0 nd1]
      have b6 := W6.but.new (o := .dK (kvsP tab1)) hd1
      have np1 : d1 ≠ p := (W6.pot.ne hd1).symm
      have P6 : Pot (upd H6 d1 (.dK (kvsP tab1))) p (n + 20) := (W6.pot.up np1.symm).mono (by omega)
      have x1 : (upd H6 d1 (.dK (kvsP tab1))) d1 = some (.dK (kvsP tab1)) := upd_same
      have k1 : tab1.map (·.1) = ws := w3
      generalize upd H6 d1 (.dK (kvsP tab1)) = H7 at b6 P6 x1 ⊢
      clear W6 e6 w1 w2 w3 hd1 hD hL1 L10 P5 b5' b5 b4 P4 pe1 lw
      -- the out prices
      refine ⟨_, rfl, _, rfl, p, S, n + 20, _, rfl, pS, b6 _ _ pS hS, by omega, P6, by omega, fun H5 L2 ys b5 L20 hL2 pe2 P5 => ?_⟩
      obtain ⟨ws2, rfl, pw2⟩ := strs_perm pe2
      rw [lz] at P5
      have lw := pw2.length_eq
      have b5' := b6.trans b5
      have x15 := b5 _ _ np1 x1
      refine ⟨L2, rfl, ⟨_, SqL.of hL2⟩, fun D hD => lc_it (walk_list (K := K) (a := L2) (xs := ws2.map V.str)) (fun i H6 => (H6 L2 = some (.lst (ws2.map V.str)) ∧ H6 d1 = some (.dK (kvsP tab1))) ∧ Dealt p H H6 D (ws2.take i) 9 (n + 20 + zs.length + i)) ?_ (fun i H6 _ h6 => SqL.of h6.1.1) ?_ ?_⟩
      · exact ⟨⟨(Same.new hD) _ _ hL2, (Same.new hD) _ _ x15⟩, b5'.new hD, P5.up (P5.ne hD), [], [], upd_same, .nil, rfl, fun _ h => nomatch h⟩
      · rintro i x H6 H7 hi ⟨e6, W6⟩ ⟨rfl, hx⟩
        rw [List.length_map] at hi
        have ex : x = V.str ws2[i] := by
          rw [List.getElem?_map, List.getElem?_eq_getElem hi] at hx
          exact (Option.some.inj hx).symm
        subst ex
        refine ⟨rfl, _, rfl, _, rfl, p, _, 9, rfl, W6.pot, by omega, by omega, by omega, fun H8 k b8 f8 P8 k0 k1 => ⟨_, _, rfl, rfl, (show 2 ≤ sizeLine from nar (m := 2) (by decide) (by decide)), fun t ht => ?_⟩⟩
        have D0 : H D = none := b5'.nul P5 hD
        obtain ⟨acc, a1, a2, W9⟩ := W6.next (z := ws2[i]) (i := 1 + k) D0 b8 P8 (by omega) (by omega) ht (P5.ne hD).symm
        refine ⟨acc, a1, lt1 (by rw [a2, List.length_take]; omega), ⟨?_, ?_⟩, ?_⟩
        · have L8 := b8 _ _ (P6.ne L20).symm e6.1
          rw [upd_ne (ne_of_none hL2 hD), upd_ne (ne_of_none L8 ht)]
          exact L8
        · have L8 := b8 _ _ np1 e6.2
          rw [upd_ne (ne_of_none x15 hD), upd_ne (ne_of_none L8 ht)]
          exact L8
        · have et : ws2.take (i + 1) = ws2.take i ++ [ws2[i]] := by rw [List.take_add_one, List.getElem?_eq_getElem hi]; rfl
          rw [et]
          exact W9
      · rintro H6 ⟨e6, W6⟩
        rw [List.length_map] at W6
        rw [List.take_length] at W6
        obtain ⟨ts2, tab2, w1, w2, w3, w42⟩ := W6.ex
        have nd2 : (tab2.map (·.1)).Nodup := by rw [w3]; exact pw2.nodup_iff.mpr ndz
        refine ⟨D, ts2, kvsP tab2, rfl, SqL.of w1, tups_sq w2, fun d2 hd2 => ?_⟩
        rw [merge_P0 nd2]
        have b6' := W6.but.new (o := .dK (kvsP tab2)) hd2
        have np2 : d2 ≠ p := (W6.pot.ne hd2).symm
        have P6' : Pot (upd H6 d2 (.dK (kvsP tab2))) p (n + 40) := (W6.pot.up np2.symm).mono (by omega)
        have x2 : (upd H6 d2 (.dK (kvsP tab2))) d2 = some (.dK (kvsP tab2)) := upd_same
        have x1' : (upd H6 d2 (.dK (kvsP tab2))) d1 = some (.dK (kvsP tab1)) := (Same.new hd2) _ _ e6.2
        have k2 : tab2.map (·.1) = ws2 := w3
        generalize upd H6 d2 (.dK (kvsP tab2)) = H7 at b6' P6' x2 x1' ⊢
        clear W6 e6 w1 w2 w3 hd2 hD hL2 L20 P5 b5' b5 b6 P6 pe2 lw x15 x1
        -- the pairs
        refine ⟨Nat.zero_le _, fun l hl => ?_⟩
        have bl := b6'.new (o := .lst []) hl
        have npl : l ≠ p := (P6'.ne hl).symm
        have Pl := P6'.up (o := .lst []) npl.symm
        have y1 := (Same.new (o := .lst []) hl) _ _ x1'
        have y2 := (Same.new (o := .lst []) hl) _ _ x2
        have yl : (upd H7 l (.lst [])) l = some (.lst []) := upd_same
        generalize upd H7 l (.lst []) = H8 at bl Pl y1 y2 yl ⊢
        have hS8 := bl _ _ pS hS
        have Sl : S ≠ l := ne_of_none ((b6' _ _ pS hS)) hl
        have d1l : d1 ≠ l := ne_of_none x1' hl
        have d2l : d2 ≠ l := ne_of_none x2 hl
        refine ⟨_, rfl, S, rfl, ⟨_, SqL.of hS8⟩, for_it (walk_list (K := K) (a := S) (xs := zs.map V.str)) (fun i σ H9 => (∃ o1 o2 o3 o4, σ = [some (.ref p), some (.ref S), some (.int mo), some (.int fa), some (.int sh), some (.ref d1), some (.ref d2), some (.ref l), o1, o2, o3, o4]) ∧ GrowL H8 H9 l ((zs.take i).flatMap (prs zs))) ?_ (fun i σ H9 _ h9 => SqL.of (h9.2.but _ _ Sl hS8)) ?_ ?_⟩
        · exact ⟨⟨_, _, _, _, rfl⟩, But.refl, [], yl, .nil⟩
        · rintro i x σ H9 H10 hi ⟨⟨o1, o2, o3, o4, rfl⟩, G9⟩ ⟨rfl, hx⟩
          rw [List.length_map] at hi
          have ex : x = V.str zs[i] := by
            rw [List.getElem?_map, List.getElem?_eq_getElem hi] at hx
            exact (Option.some.inj hx).symm
          subst ex
          obtain ⟨qs, g1, g2⟩ := G9.out
          have hS9 := G9.but _ _ Sl hS8
          refine ⟨_, rfl, .inl ⟨rfl, _, SqL.of g1⟩, _, rfl, S, rfl, ⟨_, SqL.of hS9⟩, fun D hD => lc_it (walk_list (K := K) (a := S) (xs := zs.map V.str)) (fun j H11 => Grow H10 H11 D (prs (zs.take j) zs[i])) ?_ (fun j H11 _ h11 => SqL.of (h11.same _ _ hS9)) ?_ ?_⟩
          · have e0 : prs (zs.take 0) zs[i] = [] := by simp [prs]
            rw [e0]
            exact ⟨Same.new hD, [], upd_same, .nil⟩
          · rintro j y H11 H12 hj G3 ⟨rfl, hy⟩
            rw [List.length_map] at hj
            have ey : y = V.str zs[j] := by
              rw [List.getElem?_map, List.getElem?_eq_getElem hj] at hy
              exact (Option.some.inj hy).symm
            subst ey
            have nextK : prs (zs.take (j + 1)) zs[i] = prs (zs.take j) zs[i] ++ (if zs[i] ≠ zs[j] then [(zs[i], zs[j])] else []) := by
              unfold prs
              rw [List.take_add_one, List.getElem?_eq_getElem hj, List.filter_append, List.map_append]
              congr 1
              by_cases c : zs[i] = zs[j] <;> simp [c]
            refine ⟨rfl, _, rfl, _, rfl, rfl, _, rfl, ?_⟩
            by_cases c : zs[i] = zs[j]
            · rw [decide_eq_true (by rw [c] : V.str zs[i] = V.str zs[j])]
              refine iteF ?_
              rw [nextK, if_neg (fun h => h c), List.append_nil]
              exact G3
            · rw [decide_eq_false (fun h => c (by injection h) : ¬ V.str zs[i] = V.str zs[j])]
              obtain ⟨os, hL, hP⟩ := G3.out
              have hk : os.length ≤ 5 := by
                have e : os.length = _ := Paired.length hP
                have a2 := prs_len (zs.take j) zs[i]
                rw [List.length_take] at a2
                omega
              refine iteT ⟨_, rfl, _, rfl, (show 2 ≤ sizeLine from nar (m := 2) (by decide) (by decide)), fun n hn => ⟨os.map V.ref, (Same.new hn) _ _ hL, lt1 (by rw [List.length_map]; omega), ?_⟩⟩
              have neD : D ≠ n := ne_of_none hL hn
              refine ⟨fun b o e => ?_, os ++ [n], ?_, ?_⟩
              · rw [upd_ne (ne_of_none e hD), upd_ne (ne_of_none (G3.same _ _ e) hn)]
                exact G3.same _ _ e
              · rw [upd_same, List.map_append]
                rfl
              · rw [nextK, if_pos c]
                refine Pairs.snoc (k := (zs[i], zs[j])) ?_ (Pairs.keep (fun q xs e => ?_) hP)
                · rw [upd_ne neD.symm]
                  exact upd_same
                · rw [upd_ne (fun z => by rw [z, hL] at e; cases e), upd_ne (ne_of_none e hn)]
                  exact e
          · rintro H11 G3
            rw [List.length_map, List.take_length] at G3
            obtain ⟨os, hL, hP⟩ := G3.out
            have g1' := G3.same _ _ g1
            have nD : D ≠ l := (ne_of_none g1 hD).symm
            have lq : qs.length ≤ 25 := by
              have e : qs.length = _ := Paired.length g2
              have a1 := flat_len (prs zs) 5 (fun a => Nat.le_trans (prs_len zs a) hl5) (zs.take i)
              rw [List.length_take] at a1
              have : min i zs.length * 5 ≤ 5 * 5 := Nat.mul_le_mul_right 5 (by omega)
              omega
            have lo : os.length ≤ 5 := by
              have e : os.length = _ := Paired.length hP
              have := prs_len zs zs[i]
              omega
            refine ⟨l, D, _, _, rfl, rfl, g1', hL, nar (m := 100) (by rw [List.length_map, List.length_map]; omega) (by decide), ⟨_, _, _, _, rfl⟩, fun b o nb e => ?_, qs ++ os, ?_, ?_⟩
            · rw [upd_ne nb]
              exact G3.same _ _ (G9.but _ _ nb e)
            · rw [upd_same, List.map_append]
            · rw [List.take_add_one, List.getElem?_eq_getElem hi, List.flatMap_append]
              have kp : ∀ q xs, H11 q = some (.tup xs) → (upd H11 l (.lst (qs.map V.ref ++ os.map V.ref))) q = some (.tup xs) := fun q xs e => by
                rw [upd_ne (fun z => by rw [z, g1'] at e; cases e)]
                exact e
              have c1 := Pairs.keep kp (Pairs.keep (fun q xs e => G3.same _ _ e) g2)
              have c2 := Pairs.keep kp hP
              have e5 : List.flatMap (prs zs) (some zs[i]).toList = prs zs zs[i] := by simp
              rw [e5]
              exact Paired.appendP c1 c2
        · rintro σ H9 ⟨⟨o1, o2, o3, o4, rfl⟩, G9⟩
          rw [List.length_map, List.take_length] at G9
          obtain ⟨qs, g1, g2⟩ := G9.out
          have z1 := G9.but _ _ d1l y1
          have z2 := G9.but _ _ d2l y2
          have npl' : p ≠ l := npl.symm
          have P9 : Pot H9 p (n + 40) := by
            obtain ⟨u, m, c, e, r⟩ := Pl
            exact ⟨u, m, c, G9.but _ _ npl' e, r⟩
          have l0 : H l = none := b6'.nul P6' hl
          have b9 : But p H H9 := fun b o nb e => G9.but _ _ (ne_of_none e l0) (bl _ _ nb e)
          have lq : qs.length ≤ 20 := by
            have e : qs.length = _ := Paired.length g2
            have := len_pairs hl5
            rw [e]
            exact this
          clear G9 hS8 Sl d1l d2l bl Pl y1 y2 yl hl b6' P6' x2 x1'
          refine ⟨_, rfl, _, rfl, p, l, n + 40, _, rfl, npl, g1, by rw [List.length_map]; omega, P9, by rw [List.length_map]; omega, fun H10 L3 ys b10 L30 hL3 pe3 P10 => ?_⟩
          obtain ⟨ps, rfl, pq⟩ := refs_perm pe3
          have lp := pq.length_eq
          have P10 : Pot H10 p (n + 60) := P10.mono (by rw [List.length_map]; omega)
          have v1 := b10 _ _ np1 z1
          have v2 := b10 _ _ np2 z2
          have g2' : Pairs H10 qs (pairsOf zs) := Pairs.keep (fun q xs e => b10 _ _ (fun z => by
            obtain ⟨_, _, _, ep, _⟩ := P9
            rw [z, ep] at e
            cases e) e) g2
          have b10' := b9.trans b10
          have nL3 : L3 ≠ p := (P9.ne L30).symm
          clear z1 z2 g1 g2 P9 b9 b10 L30 pe3
          refine ⟨L3, rfl, ⟨_, SqL.of hL3⟩, fun D hD => lc_it (walk_list (K := K) (a := L3) (xs := ps.map V.ref)) (fun i H11 => But p H10 H11 ∧ Pot H11 p (n + 60 + i) ∧ ∃ os : List Addr, H11 D = some (.lst (os.map V.ref)) ∧ List.Sublist os (ps.take i)) ?_ (fun i H11 _ h11 => SqL.of (h11.1 _ _ nL3 hL3)) ?_ ?_⟩
          · exact ⟨But.of_same (Same.new hD), P10.up (P10.ne hD), [], upd_same, List.nil_sublist _⟩
          · rintro i x H11 H12 hi ⟨B11, P11, os, e11, s11⟩ ⟨rfl, hx⟩
            rw [List.length_map] at hi
            have ex : x = V.ref ps[i] := by
              rw [List.getElem?_map, List.getElem?_eq_getElem hi] at hx
              exact (Option.some.inj hx).symm
            subst ex
            have nDp : D ≠ p := (P10.ne hD).symm
            have et : ps.take (i + 1) = ps.take i ++ [ps[i]] := by rw [List.take_add_one, List.getElem?_eq_getElem hi]; rfl
            refine ⟨rfl, _, rfl, _, rfl, p, _, sh, rfl, P11, by omega, by omega, by omega, fun H12 k b12 f12 P12 k0 k1 => ?_⟩
            refine ⟨rfl, _, rfl, ?_⟩
            have eD := b12 _ _ nDp e11
            by_cases c : k = 0
            · rw [decide_eq_true (by rw [c] : V.int k = V.int 0)]
              refine iteT ⟨_, rfl, _, eD, lt1 (by have := s11.length_le; rw [List.length_take] at this; rw [List.length_map]; omega), ?_, P12.up nDp.symm, os ++ [ps[i]], ?_, ?_⟩
              · exact But.up (B11.trans b12) hD
              · rw [upd_same, List.map_append]
                rfl
              · rw [et]
                exact s11.append (List.Sublist.refl _)
            · rw [decide_eq_false (fun h => c (by injection h) : ¬ V.int k = V.int 0)]
              refine iteF ⟨B11.trans b12, P12, os, eD, ?_⟩
              rw [et]
              exact s11.trans (List.sublist_append_left _ _)
          · rintro H11 ⟨B11, P11, os, e11, s11⟩
            rw [List.length_map] at P11 s11
            rw [List.take_length] at s11
            have v1' := B11 _ _ np1 v1
            have v2' := B11 _ _ np2 v2
            have tk : ∀ {H' : Hp}, But p H10 H' → ∀ q xs, H10 q = some (.tup xs) → H' q = some (.tup xs) := fun B q xs e => B _ _ (fun z => by
              obtain ⟨_, _, _, ep, _⟩ := P10
              rw [z, ep] at e
              cases e) e
            have g3 := Pairs.keep (tk B11) g2'
            have b11' := b10'.trans B11
            have lo : os.length ≤ 20 := by
              have := s11.length_le
              omega
            have nDp : D ≠ p := (P10.ne hD).symm
            obtain ⟨ls, pl, gl⟩ := Paired.permL pq g3
            obtain ⟨ms, sm', gm'⟩ := Paired.subL s11 gl
            have P11 : Pot H11 p (n + 80) := P11.mono (by omega)
            clear v1 v2 g2' b10' hL3 B11 P10 tk hD g3 gl s11
            refine ⟨_, rfl, _, rfl, _, rfl, D, rfl, ⟨_, SqL.of e11⟩, fun D2 hD2 => lc_it (walk_list (K := K) (a := D) (xs := os.map V.ref)) (fun i H12 => But p H11 H12 ∧ Pot H12 p (n + 80 + i) ∧ ∃ (ts : List Addr) (rows : List (Addr × Int)), H12 D2 = some (.lst (ts.map V.ref)) ∧ Paired (fun (t : Addr) (r : Addr × Int) => H12 t = some (.tup [.ref r.1, .int r.2])) ts rows ∧ rows.map (·.1) = os.take i ∧ ∀ r ∈ rows, 1 ≤ r.2 ∧ r.2 ≤ fa) ?_ (fun i H12 _ h12 => SqL.of (h12.1 _ _ nDp e11)) ?_ ?_⟩
            · exact ⟨But.of_same (Same.new hD2), P11.up (P11.ne hD2), [], [], upd_same, .nil, rfl, fun _ h => nomatch h⟩
            · rintro i x H12 H13 hi ⟨B12, P12, ts, rows, c1, c2, c3, c4⟩ ⟨rfl, hx⟩
              rw [List.length_map] at hi
              have ex : x = V.ref os[i] := by
                rw [List.getElem?_map, List.getElem?_eq_getElem hi] at hx
                exact (Option.some.inj hx).symm
              subst ex
              have nD2 : D2 ≠ p := (P11.ne hD2).symm
              refine ⟨rfl, _, rfl, _, rfl, _, rfl, p, _, fa, rfl, P12, by omega, by omega, by omega, fun H13 k b13 f13 P13 k0 k1 => ⟨_, _, rfl, rfl, (show 2 ≤ sizeLine from nar (m := 2) (by decide) (by decide)), fun t ht => ?_⟩⟩
              have c1' := b13 _ _ nD2 c1
              have nt : D2 ≠ t := ne_of_none c1' ht
              have ltr : ts.length = i := by
                have e : ts.length = rows.length := Paired.length c2
                have e2 := congrArg List.length c3
                rw [List.length_map, List.length_take] at e2
                omega
              refine ⟨ts.map V.ref, (Same.new ht) _ _ c1', lt1 (by rw [List.length_map]; omega), But.up ((B12.trans b13).new ht) hD2, (P13.up (P13.ne ht)).up nD2.symm, ts ++ [t], rows ++ [(os[i], 1 + k)], ?_, ?_, ?_, ?_⟩
              · rw [upd_same, List.map_append]
                rfl
              · refine Paired.snocP ?_ (_root_.L2.Paired.mapP c2 fun b r e => ?_)
                · show (upd (upd H13 t _) D2 _) t = _
                  rw [upd_ne nt.symm, upd_same]
                · have e' := b13 _ _ (fun z => by
                    obtain ⟨_, _, _, ep, _⟩ := P12
                    rw [z, ep] at e
                    cases e) e
                  rw [upd_ne (fun z => by rw [z, c1'] at e'; cases e'), upd_ne (ne_of_none e' ht)]
                  exact e'
              · have et : os.take (i + 1) = os.take i ++ [os[i]] := by rw [List.take_add_one, List.getElem?_eq_getElem hi]; rfl
                rw [et, List.map_append, c3]
                rfl
              · intro r hr
                rcases List.mem_append.mp hr with hr | hr
                · exact c4 r hr
                · rw [List.mem_singleton.mp hr]
                  exact ⟨(by omega : (1 : Int) ≤ 1 + k), (by omega : 1 + k ≤ fa)⟩
            · rintro H12 ⟨B12, P12, ts, rows, c1, c2, c3, c4⟩
              rw [List.length_map] at c3 P12
              rw [List.take_length] at c3
              have gm2 : Pairs H12 (rows.map (·.1)) ms := by
                rw [c3]
                exact Pairs.keep (fun q xs e => B12 _ _ (fun z => by
                  obtain ⟨_, _, _, ep, _⟩ := P11
                  rw [z, ep] at e
                  cases e) e) gm'
              obtain ⟨t3, e1, e2, pr⟩ := rows_told (K := K) c2 gm2
              have ndm : ms.Nodup := (pl.nodup_iff.mpr (nodup_pairs ndz)).sublist sm'
              have nd3 : (t3.map (·.1)).Nodup := by rw [e1]; exact ndm
              refine ⟨D2, ts, kvsS t3, rfl, SqL.of c1, pr, kvsS_nd nd3, fun d3 hd3 => ?_⟩
              refine ⟨(show 3 ≤ sizeLine from nar (m := 3) (by decide) (by decide)), fun L hL => ?_⟩
              have s5 : Same H12 (upd (upd H12 d3 (.dT (kvsS t3))) L (.lst [.ref d1, .ref d2, .ref d3])) := Same.trans (Same.new hd3) (Same.new hL)
              have P13 := pot_same s5 P12
              refine q _ L d1 d2 d3 tab1 tab2 t3 ((b11'.trans B12).same s5) upd_same ⟨s5 _ _ (B12 _ _ np1 v1'), s5 _ _ (B12 _ _ np2 v2'), (Same.new hL) _ _ upd_same⟩ ?_ (P13.mono (by omega))
              have lt3 : t3.length = os.length := by
                have := congrArg List.length e1
                have g := congrArg List.length c3
                have h := Paired.length gm2
                rw [List.length_map] at this g h
                omega
              have mem1 : ∀ z, z ∈ tab1.map (·.1) ↔ z ∈ zs := fun z => by rw [k1]; exact pw.mem_iff
              refine ⟨⟨fun p hp => sg.sg _ ((mem1 _).mp (List.mem_map.mpr ⟨p, hp, rfl⟩)), nd1, ?_, ?_, by omega, fun p hp => ?_⟩, nd3, ?_⟩
              · have := congrArg List.length k1
                have h := pw.length_eq
                rw [List.length_map] at this
                omega
              · rw [k1, k2]
                exact pw2.trans pw.symm
              · have h := mem_pairs.mp (pl.mem_iff.mp (sm'.subset (by rw [← e1]; exact List.mem_map.mpr ⟨p, hp, rfl⟩)))
                exact ⟨(mem1 _).mpr h.1, (mem1 _).mpr h.2.1, h.2.2⟩
              · unfold rightB
                simp only [Bool.and_eq_true]
                refine ⟨?_, ?_, ?_, ?_⟩
                · exact List.all_eq_true.mpr fun p hp => nw_in (w4 p hp).1 (Int.le_trans (w4 p hp).2 mo9) (by decide)
                · cases tab1 with
                  | nil =>
                    have : ws = [] := k1.symm
                    rw [this] at pw
                    exact absurd (List.Perm.nil_eq pw).symm sg.ne
                  | cons _ _ => rfl
                · exact List.all_eq_true.mpr fun p hp => nw_in (w42 p hp).1 (w42 p hp).2 (by decide)
                · refine List.all_eq_true.mpr fun p hp => ?_
                  have : p.2 ∈ rows.map (·.2) := by rw [← e2]; exact List.mem_map.mpr ⟨p, hp, rfl⟩
                  obtain ⟨r, hr, er⟩ := List.mem_map.mp this
                  rw [← er]
                  exact nw_in (c4 r hr).1 (Int.le_trans (c4 r hr).2 fa9) (by decide)
end
end Mk

set_option Elab.async false
set_option linter.all false
set_option maxRecDepth 100000
set_option maxHeartbeats 1000000
namespace Mk
open PySem PySem.Spec L2 PyProof.Rows

abbrev sMade : Stmt := top 40
abbrev sCopied : Stmt := top 0
/-- the record at L has these tables -/
structure Rec (H : Hp) (L a b c : Addr) (t1 t2 : PTab) (t3 : STab) : Prop where
  l : H L = some (.lst [.ref a, .ref b, .ref c])
  t : Tabs H a b c t1 t2 t3
theorem Rec.same {H H' : Hp} {L a b c : Addr} {t1 t2 : PTab} {t3 : STab} (r : Rec H L a b c t1 t2 t3) (s : Same H H') : Rec H' L a b c t1 t2 t3 := ⟨s _ _ r.l, r.t.same s⟩
def spMade (C : Addr) : Sp := fun vs H Q _ => ∃ (L a b c : Addr) (t1 t2 : PTab) (t3 : STab), vs = [.ref L] ∧ Rec H L a b c t1 t2 t3 ∧ RtT t1 t2 t3 ∧
  ∀ H' y u1 u2 u3, Same H H' → H y = none → PrAt C H' y u1 u2 u3 → u1.Perm t1 → u2.Perm t2 → u3.Perm t3 → Srt u1 u2 u3 → Q (.ref y) H'
def spCopied : Sp := fun vs H Q _ => ∃ (L a b c : Addr) (t1 t2 : PTab) (t3 : STab), vs = [.ref L] ∧ Rec H L a b c t1 t2 t3 ∧ (t1.map (·.1)).Nodup ∧ (t2.map (·.1)).Nodup ∧ (t3.map (·.1)).Nodup ∧
  ∀ H' M d e g, Same H H' → H M = none → Rec H' M d e g t1 t2 t3 → H d = none → H e = none → H g = none → d ≠ e → Q (.ref M) H'
theorem Paired.unmapR {α β γ : Type} {F : α → γ → Prop} {g : β → γ} : ∀ {l : List α} {m : List β}, Paired F l (m.map g) → Paired (fun a b => F a (g b)) l m
  | _, [], h => by cases h; exact .nil
  | _, _ :: _, h => by
    rw [List.map_cons] at h
    cases h with
    | cons a t => exact .cons a (Paired.unmapR t)
theorem Paired.memR {α β : Type} {F : α → β → Prop} : ∀ {l : List α} {m : List β}, Paired F l m → ∀ y ∈ m, ∃ x ∈ l, F x y
  | _, _, .nil, _, h => nomatch h
  | _, _, .cons a t, y, h => by
    rcases List.mem_cons.mp h with rfl | h
    · exact ⟨_, List.mem_cons_self, a⟩
    · obtain ⟨x, hx, f⟩ := Paired.memR t y h
      exact ⟨x, List.mem_cons_of_mem _ hx, f⟩
theorem paired3 {α β : Type} {F : α → β → Prop} {a b c : α} : ∀ {m : List β}, Paired F [a, b, c] m → ∃ d e g, m = [d, e, g] ∧ F a d ∧ F b e ∧ F c g
  | _, .cons x (.cons y (.cons z .nil)) => ⟨_, _, _, rfl, x, y, z⟩
theorem itms_T {K : PySem.W.Frag} {H : Hp} : ∀ {kvs : List (List Key × V)} {qs ts : List Addr}, IsKeys H kvs qs → Paired (fun (t : Addr) (p : V × V) => H t = some (.tup [p.1, p.2])) ts (psT qs kvs) → PrsT K H ts kvs
  | _, _, _, .nil, h => by
    cases h
    exact .nil
  | _, _, _, .cons (b := q) k r, h => by
    unfold psT at h
    rw [List.zip_cons_cons, List.map_cons] at h
    cases h with
    | cons a t => exact .cons ⟨q, k, SqT.of a⟩ (itms_T r t)
section
variable {X : Cx}
theorem atK0 {e : Expr} {T : String} {r : V → List V → Hp → VK → Prop} {to : TE} (K : PySem.W.Frag) (h : PE X e (tBM0 X.K T r to)) (hK : X.K = K := by rfl) : PE X e (tBM0 K T r to) := hK ▸ h
theorem call_dict2 (K : PySem.W.Frag) (hc : X.calm = true) (hu : X.A.units + 8 < cLine) (hK : X.K = K := by rfl) : CallR X (.type "dict") (fun xs H Q =>
    (∃ (a : Addr) (ps : List Addr) (kvs : List (Key × V)), xs = [.ref a] ∧ SqL K H a (ps.map V.ref) ∧ Paired (fun p kv => SqT K H p [kV kv.1, kv.2]) ps kvs ∧ ∀ p, H p = none → Q (.ref p) (upd H p (.dK (mergeK [] kvs)))) ∨
    (∃ (a : Addr) (ps : List Addr) (kvs : List (List Key × V)), xs = [.ref a] ∧ SqL K H a (ps.map V.ref) ∧ PrsT K H ps kvs ∧ (kvs.map (·.1)).Nodup ∧ ∀ p, H p = none → Q (.ref p) (upd H p (.dT kvs)))) := by
  subst hK
  exact CallR.or (call_dictP hc) (call_dictPT hc hu)
end
/-- a dict that stands for a table -/
def IsTb (o : HO) : Prop := (∃ t : PTab, o = .dK (kvsP t) ∧ (t.map (·.1)).Nodup) ∨ ∃ t : STab, o = .dT (kvsS t) ∧ (t.map (·.1)).Nodup
section
variable {P : Program} {w : World} {K : PySem.W.Frag} {mg : Str → Option Value} {base : Heap}
theorem scMade : FnScope ["_law_tables_here"] ["_law_tables_here"] (defScope sMade) := ⟨rfl, rfl, rfl, by decide +kernel, rfl, by decide +kernel, by decide +kernel⟩
theorem ok_made {f fi C : Addr} {fd fdi : FuncData} (F : Fun K "_law_made" "_law_made" sMade f fd) (M : L2.Mk K C fi) (FI : Fun K "__init__" "Prices.__init__" sInit fi fdi) (I : FnOk P w K mg base CX0 6 fi fdi ["self", "put", "out", "swap"] (spInit C)) (mgC : mg "Prices" = some (.ref C)) : FnOk P w K mg base CX0 8 f fd ["_law_tables_here"] (spMade C) := by
  refine F.ok scMade (fun vs H Q E h => ?_) (fun cdv A outer s H vs Q E hr h => ?_)
  · obtain ⟨L, a, b, c, t1, t2, t3, rfl, _⟩ := h
    rfl
  · obtain ⟨L, a, b, c, t1, t2, t3, rfl, r, rt, q⟩ := h
    refine ⟨_, pss_one (ps_ret (pe_makeK0 M I hr (by rfl) mgC (kbn_init FI) pass0 (pk_cons (pe_ix ix_list (pv 0) pe_int (fun _ _ => rfl)) (pk_cons (pe_ix ix_list (pv 0) pe_int (fun _ _ => rfl)) (pk_cons (pe_ix ix_list (pv 0) pe_int (fun _ _ => rfl)) pk_nil))))), ?_⟩
    refine ⟨_, rfl, L, _, _, _, rfl, rfl, SqL.of r.l, atI_nat (j := 0) rfl, _, rfl, L, _, _, _, rfl, rfl, SqL.of r.l, atI_nat (j := 1) rfl, _, rfl, L, _, _, _, rfl, rfl, SqL.of r.l, atI_nat (j := 2) rfl, rfl, rfl, fun y dy hy hdy ne => ?_⟩
    have sN : Same H (upd (upd H dy (.own y)) y (.ins C dy [])) := fun b o e => by
      rw [upd_ne (ne_of_none e hy), upd_ne (ne_of_none e hdy)]
      exact e
    refine ⟨y, dy, a, b, c, _, _, _, rfl, upd_same, r.t.same sN, rt.ag, rt.nd, rt.rt, fun H9 u1 u2 u3 b9 pr k1 k2 k3 sr9 => ⟨rfl, ?_⟩⟩
    refine q _ y u1 u2 u3 (fun b o e => ?_) hy pr k1 k2 k3 sr9
    exact b9 _ _ (ne_of_none e hy) (sN _ _ e)
end
end Mk

set_option Elab.async false
set_option linter.all false
set_option maxRecDepth 100000
set_option maxHeartbeats 1000000
namespace Mk
open PySem PySem.Spec L2 PyProof.Rows

section
variable {α : Type} [DecidableEq α]
theorem setT_perm {t u : List (α × Int)} (p : u.Perm t) (k : α) (i : Int) : (setT u k i).Perm (setT t k i) := by
  have m : k ∈ u.map (·.1) ↔ k ∈ t.map (·.1) := (p.map (·.1)).mem_iff
  by_cases h : k ∈ t.map (·.1)
  · unfold setT
    rw [if_pos h, if_pos (m.mpr h)]
    exact p.map _
  · rw [setT_out h, setT_out (fun z => h (m.mp z))]
    exact p.append_right _
theorem delT_perm {t u : List (α × Int)} (p : u.Perm t) (k : α) : (delT u k).Perm (delT t k) := p.filter _
theorem look_perm {t u : List (α × Int)} (p : u.Perm t) (nd : (t.map (·.1)).Nodup) {k : α} (h : k ∈ t.map (·.1)) : look u k = look t k := by
  obtain ⟨q, hq, rfl⟩ := List.mem_map.mp h
  rw [look_mem nd q hq, look_mem ((p.map (·.1)).nodup_iff.mpr nd) q (p.mem_iff.mpr hq)]
theorem put_same {t u : List (α × Int)} (p : u.Perm t) (nd : (t.map (·.1)).Nodup) {zs : List α} (h : ∀ z ∈ zs, z ∈ t.map (·.1)) : put u zs = put t zs :=
  List.map_congr_left fun z hz => by rw [look_perm p nd (h z hz)]
end
theorem okP_perm {t u : PTab} (p : u.Perm t) {m : Int} (h : okP t m = true) : okP u m = true := List.all_eq_true.mpr fun q hq => List.all_eq_true.mp h q (p.mem_iff.mp hq)
theorem okS_perm {t u : STab} (p : u.Perm t) {m : Int} (h : okS t m = true) : okS u m = true := List.all_eq_true.mpr fun q hq => List.all_eq_true.mp h q (p.mem_iff.mp hq)
theorem Agree.perm {t1 t2 u1 u2 : PTab} {t3 u3 : STab} (a : Agree t1 t2 t3) (p1 : u1.Perm t1) (p2 : u2.Perm t2) (p3 : u3.Perm t3) : Agree u1 u2 u3 where
  sg := fun p hp => a.sg p (p1.mem_iff.mp hp)
  nd := (p1.map (·.1)).nodup_iff.mpr a.nd
  l1 := by rw [p1.length_eq]; exact a.l1
  pm := ((p2.map (·.1)).trans a.pm).trans (p1.map (·.1)).symm
  l3 := by rw [p3.length_eq]; exact a.l3
  pr := fun p hp => by
    have h := a.pr p (p3.mem_iff.mp hp)
    exact ⟨(p1.map (·.1)).mem_iff.mpr h.1, (p1.map (·.1)).mem_iff.mpr h.2.1, h.2.2⟩
theorem right_perm {t1 t2 u1 u2 : PTab} {t3 u3 : STab} (h : rightB t1 t2 t3 = true) (p1 : u1.Perm t1) (p2 : u2.Perm t2) (p3 : u3.Perm t3) : rightB u1 u2 u3 = true := by
  unfold rightB at h ⊢
  simp only [Bool.and_eq_true] at h ⊢
  refine ⟨okP_perm p1 h.1, ?_, okP_perm p2 h.2.2.1, okS_perm p3 h.2.2.2⟩
  have h2 := h.2.1
  cases u1 with
  | nil =>
    have := List.Perm.nil_eq p1
    rw [← this] at h2
    exact h2
  | cons _ _ => rfl
theorem RtT.perm {t1 t2 u1 u2 : PTab} {t3 u3 : STab} (r : RtT t1 t2 t3) (p1 : u1.Perm t1) (p2 : u2.Perm t2) (p3 : u3.Perm t3) : RtT u1 u2 u3 :=
  ⟨r.ag.perm p1 p2 p3, (p3.map (·.1)).nodup_iff.mpr r.nd, right_perm r.rt p1 p2 p3⟩
section
variable {t1 t2 : PTab} {t3 : STab}
theorem RtT.set1 (r : RtT t1 t2 t3) {k : Str} {i : Int} (h : k ∈ t1.map (·.1)) (hi : nwB i 1 9 = true) : RtT (setT t1 k i) t2 t3 := ⟨r.ag.set1 h, r.nd, right_1 r.rt hi⟩
theorem RtT.set2 (r : RtT t1 t2 t3) {k : Str} {i : Int} (h : k ∈ t1.map (·.1)) (hi : nwB i 1 9 = true) : RtT t1 (setT t2 k i) t3 := ⟨r.ag.set2 h, r.nd, right_2 r.rt hi⟩
theorem RtT.del3 (r : RtT t1 t2 t3) (k : Str × Str) : RtT t1 t2 (delT t3 k) := ⟨r.ag.del3, delT_nd r.nd, right_3 r.rt fun h => okS_del h⟩
theorem nodup_len {α : Type} [DecidableEq α] : ∀ {ks ls : List α}, ks.Nodup → (∀ k ∈ ks, k ∈ ls) → ks.length ≤ ls.length
  | [], _, _, _ => Nat.zero_le _
  | k :: ks, ls, nd, h => by
    have hk := h k List.mem_cons_self
    obtain ⟨n1, n2⟩ := List.nodup_cons.mp nd
    have ih := nodup_len (ls := ls.erase k) n2 fun x hx => (List.mem_erase_of_ne (fun e : x = k => n1 (by rw [← e]; exact hx))).mpr (h x (List.mem_cons_of_mem _ hx))
    rw [List.length_erase_of_mem hk] at ih
    have := List.length_pos_of_mem hk
    rw [List.length_cons]
    omega
/-- pairs of at most five signs are at most twenty -/
theorem few_pairs {zs : List Str} {ks : List (Str × Str)} (nd : ks.Nodup) (ndz : zs.Nodup) (hl : zs.length ≤ 5) (h : ∀ k ∈ ks, k.1 ∈ zs ∧ k.2 ∈ zs ∧ k.1 ≠ k.2) : ks.length ≤ 20 :=
  Nat.le_trans (nodup_len nd fun k hk => mem_pairs.mpr (h k hk)) (len_pairs hl)
theorem RtT.set3 (r : RtT t1 t2 t3) {x y : Str} {i : Int} (hx : x ∈ t1.map (·.1)) (hy : y ∈ t1.map (·.1)) (hxy : x ≠ y) (hi : nwB i 1 18 = true) : (setT t3 (x, y) i).length ≤ 20 ∧ RtT t1 t2 (setT t3 (x, y) i) := by
  have nd := setT_nd (k := (x, y)) (i := i) r.nd
  have l20 : (setT t3 (x, y) i).length ≤ 20 := by
    have := few_pairs (zs := t1.map (·.1)) nd r.ag.nd (by rw [List.length_map]; exact r.ag.l1) fun k hk => by
      obtain ⟨q, hq, rfl⟩ := List.mem_map.mp hk
      rcases setT_mem hq with h | rfl
      · exact r.ag.pr q h
      · exact ⟨hx, hy, hxy⟩
    rwa [List.length_map] at this
  exact ⟨l20, r.ag.set3 hx hy hxy l20, nd, right_3 r.rt fun h => okS_set h hi⟩
end
/-- the prices at x tell these tables -/
def Told (C : Addr) (H : Hp) (x : Addr) (t1 t2 : PTab) (t3 : STab) : Prop := ∃ u1 u2 u3, PrAt C H x u1 u2 u3 ∧ u1.Perm t1 ∧ u2.Perm t2 ∧ u3.Perm t3 ∧ Srt u1 u2 u3
theorem Told.same {C : Addr} {H H' : Hp} {x : Addr} {t1 t2 : PTab} {t3 : STab} (h : Told C H x t1 t2 t3) (s : Same H H') : Told C H' x t1 t2 t3 := by
  obtain ⟨u1, u2, u3, a, r⟩ := h
  exact ⟨u1, u2, u3, a.same s, r⟩
def Good (C : Addr) (H : Hp) (x L : Addr) : Prop := ∃ a b c t1 t2 t3, Told C H x t1 t2 t3 ∧ Rec H L a b c t1 t2 t3 ∧ RtT t1 t2 t3
theorem Good.same {C : Addr} {H H' : Hp} {x L : Addr} (h : Good C H x L) (s : Same H H') : Good C H' x L := by
  obtain ⟨a, b, c, t1, t2, t3, t, r, q⟩ := h
  exact ⟨a, b, c, t1, t2, t3, t.same s, r.same s, q⟩
section
variable {C p x L a b c : Addr} {H H' : Hp} {n : Nat} {t1 t2 : PTab} {t3 : STab}
theorem Pot.not {o : HO} (P : Pot H p n) (e : H b = some o) (h : ∀ i j k : Int, o ≠ .lst [.int i, .int j, .int k]) : b ≠ p := fun z => by
  obtain ⟨u, m, k, ep, _⟩ := P
  rw [z, ep] at e
  exact h _ _ _ (Option.some.inj e).symm
theorem But.at_ {o : HO} (B : But p H H') (P : Pot H p n) (e : H b = some o) (h : ∀ i j k : Int, o ≠ .lst [.int i, .int j, .int k]) : H' b = some o := B _ _ (P.not e h) e
theorem Tabs.but (h : Tabs H a b c t1 t2 t3) (B : But p H H') (P : Pot H p n) : Tabs H' a b c t1 t2 t3 := ⟨B.at_ P h.p (fun _ _ _ z => nomatch z), B.at_ P h.o (fun _ _ _ z => nomatch z), B.at_ P h.s (fun _ _ _ z => nomatch z)⟩
theorem Rec.but (h : Rec H L a b c t1 t2 t3) (B : But p H H') (P : Pot H p n) : Rec H' L a b c t1 t2 t3 := ⟨B.at_ P h.l (fun _ _ _ z => by cases z), h.t.but B P⟩
theorem strs_not {zs : List Str} : ∀ i j k : Int, (HO.lst (zs.map V.str)) ≠ .lst [.int i, .int j, .int k] := fun i j k z => by
  injection z with z
  obtain ⟨y, r, _, e, _⟩ := List.map_eq_cons_iff.mp z
  cases e
theorem Told.but (h : Told C H x t1 t2 t3) (B : But p H H') (P : Pot H p n) : Told C H' x t1 t2 t3 := by
  obtain ⟨u1, u2, u3, ⟨dx, t, a, b, c, h1, h2, h3⟩, r⟩ := h
  exact ⟨u1, u2, u3, ⟨dx, t, a, b, c, B.at_ P h1 (fun _ _ _ z => nomatch z), B.at_ P h2 (fun _ _ _ z => nomatch z), h3.but B P⟩, r⟩
theorem Good.but (h : Good C H x L) (B : But p H H') (P : Pot H p n) : Good C H' x L := by
  obtain ⟨a, b, c, t1, t2, t3, t, r, q⟩ := h
  exact ⟨a, b, c, t1, t2, t3, t.but B P, r.but B P, q⟩
end
/-- a deed of the law: from prices and their record to other ones -/
def spDeedL (C : Addr) : Sp := fun vs H Q _ => ∃ (p x L : Addr) (n : Nat), vs = [.ref p, .ref x, .ref L] ∧ Pot H p n ∧ n + 200 < PB ∧ Good C H x L ∧
  ∀ H' M y L', But p H H' → H' M = some (.lst [.ref y, .ref L']) → Good C H' y L' → Pot H' p (n + 200) → Q (.ref M) H'
/-- a method of the class -/
structure Md (P : Program) (w : World) (K : PySem.W.Frag) (mg : Str → Option Value) (base : Heap) (C : Addr) (CX : CXT) (k : Nat) (m : Str) (ps : List Str) (sp : Sp) : Prop where
  ex : ∃ (g : Addr) (fd : FuncData), Meth K C m g ∧ FnOk P w K mg base CX k g fd ps sp ∧ Binds K fd ps []
theorem fld_no {m : Str} (n1 : ¬ m = "_signs") (n2 : ¬ m = "_put") (n3 : ¬ m = "_out") (n4 : ¬ m = "_swap") (t a b c : Addr) : List.lookup m (fldP t a b c) = none := by
  unfold fldP
  rw [look_no n1, look_no n2, look_no n3, look_no n4]
  rfl
end Mk

set_option Elab.async false
set_option linter.all false
set_option maxRecDepth 100000
set_option maxHeartbeats 1000000
/-! data that repr can show, and how long their texts are -/
namespace Mk
open PySem PySem.Spec L2 PyProof.Rows

structure Shw (d : PyData) (n k : Nat) : Prop where
  s : d.showable = true
  h : d.hasDict = false
  dp : d.depth ≤ k
  l : d.shown.length ≤ n
theorem Shw.mono {d : PyData} {n k n' k' : Nat} (h : Shw d n k) (hn : n ≤ n') (hk : k ≤ k') : Shw d n' k' := ⟨h.s, h.h, Nat.le_trans h.dp hk, Nat.le_trans h.l hn⟩
theorem shown_all : ∀ xs : List PyData, PyData.shownAll xs = xs.map PyData.shown
  | [] => by simp only [PyData.shownAll, List.map_nil]
  | x :: xs => by simp only [PyData.shownAll, List.map_cons, shown_all xs]
theorem showable_all : ∀ {xs : List PyData}, (∀ x ∈ xs, x.showable = true) → PyData.showableAll xs = true
  | [], _ => by simp only [PyData.showableAll]
  | x :: xs, h => by
    simp only [PyData.showableAll, h x List.mem_cons_self, showable_all fun y hy => h y (List.mem_cons_of_mem _ hy), Bool.and_self]
theorem hasDict_all : ∀ {xs : List PyData}, (∀ x ∈ xs, x.hasDict = false) → PyData.hasDictAll xs = false
  | [], _ => by simp only [PyData.hasDictAll]
  | x :: xs, h => by
    simp only [PyData.hasDictAll, h x List.mem_cons_self, hasDict_all fun y hy => h y (List.mem_cons_of_mem _ hy), Bool.or_self]
theorem depth_all {k : Nat} : ∀ {xs : List PyData}, (∀ x ∈ xs, x.depth ≤ k) → PyData.depthAll xs ≤ k
  | [], _ => by simp only [PyData.depthAll]; exact Nat.zero_le _
  | x :: xs, h => by
    have h1 := h x List.mem_cons_self
    have h2 := depth_all fun y hy => h y (List.mem_cons_of_mem _ hy)
    simp only [PyData.depthAll]
    omega
theorem piled_le {n : Nat} : ∀ {ts : List Str}, (∀ t ∈ ts, t.length ≤ n) → piled ts ≤ ts.length * (n + 2)
  | [], _ => Nat.zero_le _
  | t :: ts, h => by
    have h1 := h t List.mem_cons_self
    have h2 := piled_le fun y hy => h y (List.mem_cons_of_mem _ hy)
    rw [piled_cons, List.length_cons, Nat.succ_mul]
    omega
theorem joined_le (ts : List Str) : (Str.join ", " ts).length ≤ piled ts := by
  by_cases h : ts = []
  · rw [h]
    decide
  · have := join_length_add ts h
    omega
section
variable {xs : List PyData} {n k : Nat}
theorem shw_list (h : ∀ x ∈ xs, Shw x n k) : Shw (.list xs) (xs.length * (n + 2) + 2) (k + 1) := by
  refine ⟨?_, ?_, ?_, ?_⟩
  · simp only [PyData.showable]
    exact showable_all fun x hx => (h x hx).s
  · simp only [PyData.hasDict]
    exact hasDict_all fun x hx => (h x hx).h
  · have := depth_all fun x hx => (h x hx).dp
    simp only [PyData.depth]
    omega
  · have e : (PyData.list xs).shown = listText (xs.map PyData.shown) := by simp only [PyData.shown, shown_all]
    rw [e, listText_eq_join, strLen_append, strLen_append]
    have h1 := joined_le (xs.map PyData.shown)
    have h2 := piled_le (n := n) (ts := xs.map PyData.shown) fun t ht => by
      obtain ⟨x, hx, rfl⟩ := List.mem_map.mp ht
      exact (h x hx).l
    rw [List.length_map] at h2
    have e1 : ((("[" : String) : Str)).length = 1 := rfl
    have e2 : ((("]" : String) : Str)).length = 1 := rfl
    rw [e1, e2]
    omega
theorem shw_tuple (h : ∀ x ∈ xs, Shw x n k) : Shw (.tuple xs) (xs.length * (n + 2) + 3) (k + 1) := by
  refine ⟨?_, ?_, ?_, ?_⟩
  · simp only [PyData.showable]
    exact showable_all fun x hx => (h x hx).s
  · simp only [PyData.hasDict]
    exact hasDict_all fun x hx => (h x hx).h
  · have := depth_all fun x hx => (h x hx).dp
    simp only [PyData.depth]
    omega
  · have e : (PyData.tuple xs).shown = tupleText (xs.map PyData.shown) := by simp only [PyData.shown, shown_all]
    rw [e]
    unfold tupleText
    rw [strLen_append, strLen_append]
    have h1 := joined_le (xs.map PyData.shown)
    have h2 := piled_le (n := n) (ts := xs.map PyData.shown) fun t ht => by
      obtain ⟨x, hx, rfl⟩ := List.mem_map.mp ht
      exact (h x hx).l
    rw [List.length_map] at h2
    have e1 : ((("(" : String) : Str)).length = 1 := rfl
    have e3 : (((if (xs.map PyData.shown).length == 1 then ",)" else ")" : String) : Str)).length ≤ 2 := by split <;> decide
    rw [e1]
    omega
end
theorem shw_str {z : Str} {n : Nat} (h : (reprText z).length ≤ n) : Shw (.str z) n 0 := ⟨by simp only [PyData.showable], by simp only [PyData.hasDict], by simp only [PyData.depth]; exact Nat.le_refl _, by simp only [PyData.shown]; exact h⟩
theorem shw_bool (b : Bool) : Shw (.bool b) 5 0 := by
  cases b
  · exact ⟨rfl, rfl, Nat.le_refl _, by decide⟩
  · exact ⟨rfl, rfl, Nat.le_refl _, by decide⟩
theorem shw_int {i : Int} (h0 : 0 ≤ i) (h1 : i ≤ 60) : Shw (.int i) 2 0 := by
  obtain ⟨n, rfl⟩ : ∃ n : Nat, i = (n : Int) := ⟨i.toNat, by omega⟩
  refine ⟨?_, by simp only [PyData.hasDict], by simp only [PyData.depth]; exact Nat.le_refl _, ?_⟩
  · simp only [PyData.showable]
    exact decide_eq_true (small_log (by omega))
  · simp only [PyData.shown]
    exact small_txt (by omega)
/-- a sign is one of five -/
theorem sign_in {z : Str} (h : sgB z = true) : z ∈ sgs "abcde" := by
  unfold sgB at h
  simp only [Bool.and_eq_true, decide_eq_true_eq] at h
  have hw := isW_of h.2
  have hl : (cs z).length = 1 := h.1
  obtain ⟨c, hc⟩ := List.length_eq_one_iff.mp hl
  have h2 := hw c (by rw [hc]; exact List.mem_singleton.mpr rfl)
  have ez : z = ⟨#[c]⟩ := cs_inj (by rw [hc])
  have e : sgs "abcde" = [⟨#[97]⟩, ⟨#[98]⟩, ⟨#[99]⟩, ⟨#[100]⟩, ⟨#[101]⟩] := by decide +kernel
  rw [ez, e]
  rcases (by omega : c = 97 ∨ c = 98 ∨ c = 99 ∨ c = 100 ∨ c = 101) with rfl | rfl | rfl | rfl | rfl <;> simp
theorem shw_sign {z : Str} (h : sgB z = true) : Shw (.str z) 3 0 := by
  have : ∀ z ∈ sgs "abcde", (reprText z).length ≤ 3 := by decide +kernel
  exact shw_str (this z (sign_in h))
/-- a row of a table, as data -/
def rowP (q : Str × Int) : PyData := .tuple [.str q.1, .int q.2]
def rowS (q : (Str × Str) × Int) : PyData := .tuple [.tuple [.str q.1.1, .str q.1.2], .int q.2]
theorem shw_rowP {q : Str × Int} (h : sgB q.1 = true) (h0 : 0 ≤ q.2) (h1 : q.2 ≤ 60) : Shw (rowP q) 13 1 := shw_tuple (n := 3) (k := 0) (xs := [.str q.1, .int q.2]) fun x hx => by
  simp only [List.mem_cons, List.not_mem_nil, or_false] at hx
  rcases hx with rfl | rfl
  · exact shw_sign h
  · exact (shw_int h0 h1).mono (by decide) (Nat.le_refl _)
theorem shw_rowS {q : (Str × Str) × Int} (h : sgB q.1.1 = true) (h' : sgB q.1.2 = true) (h0 : 0 ≤ q.2) (h1 : q.2 ≤ 60) : Shw (rowS q) 33 2 := shw_tuple (n := 13) (k := 1) (xs := [.tuple [.str q.1.1, .str q.1.2], .int q.2]) fun x hx => by
  simp only [List.mem_cons, List.not_mem_nil, or_false] at hx
  rcases hx with rfl | rfl
  · exact shw_tuple (n := 3) (k := 0) (xs := [.str q.1.1, .str q.1.2]) fun x hx => by
      simp only [List.mem_cons, List.not_mem_nil, or_false] at hx
      rcases hx with rfl | rfl
      · exact shw_sign h
      · exact shw_sign h'
  · exact (shw_int h0 h1).mono (by decide) (by decide)
/-- all tables, as data -/
def tabD (t1 t2 : PTab) (t3 : STab) : PyData := .list [.tuple ((t1.map (·.1)).map PyData.str), .list (t1.map rowP), .list (t2.map rowP), .list (t3.map rowS)]
theorem shw_tab {t1 t2 : PTab} {t3 : STab} (r : RtT t1 t2 t3) : Shw (tabD t1 t2 t3) 2818 4 := by
  have hrt := r.rt
  unfold rightB at hrt
  simp only [Bool.and_eq_true] at hrt
  have b1 : ∀ p ∈ t1, 0 ≤ p.2 ∧ p.2 ≤ 60 := fun p hp => by
    have h := List.all_eq_true.mp hrt.1 p hp
    unfold nwB at h
    simp only [Bool.and_eq_true, decide_eq_true_eq] at h
    omega
  have b2 : ∀ p ∈ t2, 0 ≤ p.2 ∧ p.2 ≤ 60 := fun p hp => by
    have h := List.all_eq_true.mp hrt.2.2.1 p hp
    unfold nwB at h
    simp only [Bool.and_eq_true, decide_eq_true_eq] at h
    omega
  have b3 : ∀ p ∈ t3, 0 ≤ p.2 ∧ p.2 ≤ 60 := fun p hp => by
    have h := List.all_eq_true.mp hrt.2.2.2 p hp
    unfold nwB at h
    simp only [Bool.and_eq_true, decide_eq_true_eq] at h
    omega
  have sgk : ∀ z ∈ t1.map (·.1), sgB z = true := fun z hz => by
    obtain ⟨q, hq, rfl⟩ := List.mem_map.mp hz
    exact r.ag.sg q hq
  have l1 := r.ag.l1
  have l2 := r.ag.l2
  have l3 := r.ag.l3
  have w1 : Shw (.tuple ((t1.map (·.1)).map PyData.str)) 28 1 := by
    have := shw_tuple (n := 3) (k := 0) (xs := (t1.map (·.1)).map PyData.str) fun x hx => by
      obtain ⟨z, hz, rfl⟩ := List.mem_map.mp hx
      exact shw_sign (sgk z hz)
    refine this.mono ?_ (Nat.le_refl _)
    rw [List.length_map, List.length_map]
    omega
  have w2 : ∀ {t : PTab}, t.length ≤ 5 → (∀ p ∈ t, sgB p.1 = true) → (∀ p ∈ t, 0 ≤ p.2 ∧ p.2 ≤ 60) → Shw (.list (t.map rowP)) 77 2 := fun {t} hl hs hb => by
    have := shw_list (n := 13) (k := 1) (xs := t.map rowP) fun x hx => by
      obtain ⟨q, hq, rfl⟩ := List.mem_map.mp hx
      exact shw_rowP (hs q hq) (hb q hq).1 (hb q hq).2
    refine this.mono ?_ (Nat.le_refl _)
    rw [List.length_map]
    omega
  have w3 : Shw (.list (t3.map rowS)) 702 3 := by
    have := shw_list (n := 33) (k := 2) (xs := t3.map rowS) fun x hx => by
      obtain ⟨q, hq, rfl⟩ := List.mem_map.mp hx
      have h := r.ag.pr q hq
      exact shw_rowS (sgk _ h.1) (sgk _ h.2.1) (b3 q hq).1 (b3 q hq).2
    refine this.mono ?_ (Nat.le_refl _)
    rw [List.length_map]
    omega
  refine (shw_list (n := 702) (k := 3) fun x hx => ?_).mono (by show 4 * (702 + 2) + 2 ≤ 2818; decide) (Nat.le_refl _)
  simp only [List.mem_cons, List.not_mem_nil, or_false] at hx
  rcases hx with rfl | rfl | rfl | rfl
  · exact w1.mono (by decide) (by decide)
  · exact (w2 l1 r.ag.sg b1).mono (by decide) (by decide)
  · exact (w2 l2 r.ag.sg2 b2).mono (by decide) (by decide)
  · exact w3
end Mk

set_option Elab.async false
set_option linter.all false
set_option maxRecDepth 100000
set_option maxHeartbeats 4000000
namespace Mk
open PySem PySem.Spec PyProof.Rows L2

section
variable {prog : Program} {w : World} {A : Around} {E : Value → Shared → Prop} {s : Shared}
theorem places_back (n : Nat) : Builtin.Slice.slicePlaces ((n : Int) - 1) (-1) (-1) = n := by
  unfold Builtin.Slice.slicePlaces
  rw [if_neg (by decide)]
  by_cases h : (n : Int) - 1 > -1
  · rw [if_pos h]
    have e : ((n : Int) - 1 - -1 - 1) / (- -1) + 1 = (n : Int) := by
      rw [show (- -1 : Int) = 1 by decide, Int.ediv_one]
      omega
    rw [e]
    omega
  · rw [if_neg h]
    show 0 = n
    omega
theorem applied_back {sl : Addr} {vl vu vs : Value} {n : Nat} {Q : Int × Int × Nat → Shared → Prop} (hs : s.heap.IsSliceOf sl vl vu vs) (pl : IsPart vl none) (pu : IsPart vu none) (ps : IsPart vs (some (-1)))
    (h : Q ((n : Int) - 1, -1, n) s) : wpAny (model prog w) A (Builtin.Slice.sliceApplied (.ref sl) (pure (n : Int))) Q E s := by
  obtain ⟨os, hos, hcs, hds⟩ := id hs
  unfold Builtin.Slice.sliceApplied Builtin.Slice.sliceFields
  refine wpAny_bind (wpAny_bind (wpAny_field hos hds (x := vl) rfl (wpAny_bind (wpAny_field hos hds (x := vu) rfl (wpAny_bind (wpAny_field hos hds (x := vs) rfl (wpAny_pure ?_)))))))
  refine wpAny_bind (HT.slicePart_ ps ?_)
  show wpAny _ _ (if ((-1 : Int) == 0) = true then _ else _) _ _ s
  rw [if_neg (by decide)]
  refine wpAny_bind (HT.slicePart_ pl (wpAny_bind (HT.slicePart_ pu (wpAny_bind (wpAny_pure ?_)))))
  show wpAny _ _ (pure ((n : Int) - 1, (-1 : Int), Builtin.Slice.slicePlaces ((n : Int) - 1) (-1) (-1))) _ _ s
  rw [places_back]
  exact wpAny_pure h
theorem pick_back (xs : Array Value) : ((List.range xs.size).filterMap fun (m : Nat) => xs[((xs.size : Int) - 1 + (m : Int) * -1).toNat]?).toArray = xs.toList.reverse.toArray := by
  have e : (List.range xs.size).filterMap (fun (m : Nat) => xs[((xs.size : Int) - 1 + (m : Int) * -1).toNat]?) = ((List.range xs.size).map fun m => xs.size - 1 - m).filterMap (xs[·]?) := by
    rw [List.filterMap_map]
    have g : ∀ l : List Nat, (∀ m ∈ l, m < xs.size) → l.filterMap (fun (m : Nat) => xs[((xs.size : Int) - 1 + (m : Int) * -1).toNat]?) = l.filterMap ((xs[·]?) ∘ fun m => xs.size - 1 - m) := by
      intro l
      induction l with
      | nil => exact fun _ => rfl
      | cons m t ih =>
        intro h
        have := h m List.mem_cons_self
        have q : ((xs.size : Int) - 1 + (m : Int) * -1).toNat = xs.size - 1 - m := by omega
        rw [List.filterMap_cons, List.filterMap_cons, ih fun x hx => h x (List.mem_cons_of_mem _ hx), q]
        rfl
    exact g _ fun m hm => List.mem_range.mp hm
  rw [e, PySem.W.krv_range, List.filterMap_reverse, PySem.W.krv_all]
theorem getItem_tuple_back {t sl : Addr} {items : Array Value} {vl vu vs : Value} {Q : Value → Shared → Prop} (ht : IsTup s.heap t items) (hs : s.heap.IsSliceOf sl vl vu vs) (pl : IsPart vl none) (pu : IsPart vu none) (ps : IsPart vs (some (-1)))
    (h : Q (.ref s.heap.objs.size) { s with heap := s.heap.push { cls := .type "tuple", data := .seq items.toList.reverse.toArray } }) (hsz : items.size ≤ sizeLine) : wpAny (model prog w) A (getItem (.ref t) (.ref sl)) Q E s := by
  have ok : sizeOk (.seq items.toList.reverse.toArray) := by
    show items.toList.reverse.toArray.size ≤ sizeLine
    rw [List.size_toArray, List.length_reverse, Array.length_toList]
    exact hsz
  obtain ⟨os, hos, hcs, hds⟩ := id hs
  have tS : s.TypeIs (.ref sl) "slice" := ⟨os, hos, hcs⟩
  unfold getItem
  try with_reducible refine wpAny_holding ?_
  first | refine wpAny_bind (wpAny_pure ?_) | skip
  refine wpAny_bind (wpAny_sequenceKey ht.typeIs (by decide) ?_)
  refine wpAny_bind (wpAny_callSpecial?_slot (name := Str.ofString "__getitem__") ht.typeIs slot_tuple_getitem (wpAny_call_entry slot_tuple_getitem ht.typeIs entry_tuple_getitem ?_ (args_tuple_getitem _ _)))
  show wpAny _ _ (Builtin.Tuple.tupleItemsOf (.ref t) >>= _) _ _ s
  refine wpAny_bind (tupleItemsOf_ ht (wpAny_bind (wpAny_typeOf tS ?_)))
  rw [if_pos (by decide)]
  refine wpAny_bind (applied_back hs pl pu ps ?_)
  have no : ¬ (((items.size : Int) - 1 == 0 && (-1 : Int) == 1 && items.size == items.size) = true) := by
    simp
  show wpAny _ _ (if ((items.size : Int) - 1 == 0 && (-1 : Int) == 1 && items.size == items.size) = true then _ else _) _ _ s
  rw [if_neg no, pick_back]
  first
    | exact wpAny_bind (m := Builtin.Tuple.tupleExact _) (wpAny_newObj_type (wpAny_pure ⟨_, rfl, wpAny_pure h⟩) ok)
    | exact wpAny_bind (m := Builtin.Tuple.tupleExact _) (wpAny_newObj_type (wpAny_bind (wpAny_pure (wpAny_pure ⟨_, rfl, wpAny_pure h⟩))) ok)
    | exact wpAny_bind (wpAny_bind (m := Builtin.Tuple.tupleExact _) (wpAny_newObj_type (wpAny_pure (wpAny_pure ⟨_, rfl, wpAny_pure h⟩)) ok))
    | exact wpAny_bind (wpAny_bind (m := Builtin.Tuple.tupleExact _) (wpAny_newObj_type (wpAny_pure ⟨_, rfl, wpAny_pure h⟩) ok))
end
/-- t[::-1], a tuple -/
def tRevT (K : PySem.W.Frag) (te : TE) : TE := fun σ H Q => te σ H fun x H1 => ∃ a xs, x = .ref a ∧ SqT K H1 a xs ∧ ∀ p, H1 p = none → Q (.ref p) (upd H1 p (.tup xs.reverse))
section
variable {X : Cx}
theorem pe_revT {e : Expr} {te : TE} {k : Nat} {p1 p2 p3 pos : Pos} (he : PE X e te) : PE X (.Subscript e (.Slice none none (some (.UnaryOp .USub (.Constant (.int 1) k p1) p2)) p3) pos) (tRevT X.K te) := by
  refine ⟨fun pins s σ H Q I h => Subscript_ (thn (he.run pins s σ H _ I h) fun v s1 ⟨x, H1, I1, r1, a, xs, ex, hx, q⟩ => ?_)⟩
  subst ex
  obtain rfl : v = Value.ref a := r1
  have st : PO X (some (.UnaryOp .USub (.Constant (.int 1) k p1) p2)) (tPart (tUn (rU fun i => .int (-i)) (tC (.int 1)))) := po_some (pe_un un_neg pe_int)
  refine wpAny_Slice (thn (po_none.run pins s1 σ H1 (fun o H2 => o = none ∧ H2 = H1) I1 ⟨rfl, rfl⟩) fun vl s2 ⟨l, H2, I2, pl, el, e2⟩ => ?_)
  subst el e2
  refine thn (po_none.run pins s2 σ H2 (fun o H3 => o = none ∧ H3 = H2) I2 ⟨rfl, rfl⟩) fun vu s3 ⟨u, H3, I3, pu, eu, e3⟩ => ?_
  subst eu e3
  refine thn (st.run pins s3 σ H3 (fun o H4 => o = some (-1) ∧ H4 = H3) I3 ⟨1, rfl, -1, rfl, rfl, rfl⟩) fun vs s4 ⟨o, H4, I4, ps, eo, e4⟩ => ?_
  subst eo e4
  have I5 : Inv X pins σ H4 { s4 with heap := s4.heap.push { cls := .type "slice", data := .fields #[vl, vu, vs] } } := I4.kept (t' := s4.toks) fun b ob q => Heap.get?_push_of_some _ q
  obtain ⟨its, r, ht, hz⟩ := I5.tuple hx
  have ln := r.length
  have hT : IsTup (s4.heap.push { cls := .type "slice", data := .fields #[vl, vu, vs] }) a its.toArray := by
    obtain ⟨o, e1, e2, n, e3⟩ := ht
    exact ⟨o, e1, e2, n, e3⟩
  show wpAny (model X.prog X.w) X.A (subscriptTail e (.Slice none none (some (.UnaryOp .USub (.Constant (.int 1) k p1) p2)) p3) (.ref a) (.ref s4.heap.objs.size)) (EP X pins σ Q) X.xe { s4 with heap := s4.heap.push { cls := .type "slice", data := .fields #[vl, vu, vs] } }
  refine tail_any (ops := [.ref a, .ref s4.heap.objs.size]) hT.typeIs (slot_tuple_getitem.lookup) ?_ (by with_unfolding_all rfl)
  refine getItem_tuple_back hT (Heap.IsSliceOf.new _ vl vu vs) pl pu ps ?_ (by rw [List.size_toArray]; omega)
  refine ⟨.ref _, _, I5.laid (t' := s4.toks) (o := .tup xs.reverse) (fun b ob q => Heap.get?_push_of_some _ q) (Nat.le_refl _) ?_, rfl, q _ (I5.hok.fresh (Nat.le_refl _))⟩
  exact ⟨by rw [List.length_reverse]; exact hz, _, r.reverse, _, Heap.get?_push_size _ rfl, rfl, _, rfl⟩
end
end Mk

set_option Elab.async false
set_option linter.all false
set_option maxRecDepth 100000
set_option maxHeartbeats 1000000
namespace Mk
open PySem PySem.Spec L2 PyProof.Rows

abbrev sLTold : Stmt := top 44
abbrev nTold : List Str := ["_law_prices", "_law_tables_here", "_law_puts", "_law_outs", "_law_swaps", "_law_told", "_law_due", "_law_text", "_law_sign"]
def spLTold (C : Addr) : Sp := fun vs H Q _ => ∃ (x L : Addr), vs = [.ref x, .ref L] ∧ Good C H x L ∧ ∀ H', Same H H' → Q (.bl true) H'
section
variable {X : Cx}
theorem op_in_d (hu : X.A.units + 1 < cLine) : OpR X (compareOp .In) (fun x y H Q => ∃ a o, y = .ref a ∧ DGet H a x o ∧ Q (.bl o.isSome) H) := by
  intro pins s σ H x y v u Q I rx ry h
  obtain ⟨a, o, rfl, g, q⟩ := h
  obtain rfl : u = Value.ref a := ry
  exact d_in hu I g rx fun s' I' => ⟨.bl o.isSome, H, I', rfl, q⟩
end
theorem rows_K {K : PySem.W.Frag} {H : Hp} : ∀ {ts : List Addr} {u : PTab}, Paired (fun (b : Addr) (y : Str × Int) => H b = some (.tup [.str y.1, .int y.2])) ts u → DpAll K H (ts.map V.ref) (u.map rowP)
  | _, _, .nil => .nil
  | _, _, .cons a t => .cons (.tup (SqT.of a) (.cons (.str _) (.cons (.int _) .nil))) (rows_K t)
theorem rows_S {K : PySem.W.Frag} {H : Hp} : ∀ {ts : List Addr} {u : STab}, Paired (fun (b : Addr) (y : (Str × Str) × Int) => ∃ k : Addr, H b = some (.tup [.ref k, .int y.2]) ∧ H k = some (.tup [.str y.1.1, .str y.1.2])) ts u → DpAll K H (ts.map V.ref) (u.map rowS)
  | _, _, .nil => .nil
  | _, _, .cons ⟨_, a, b⟩ t => .cons (.tup (SqT.of a) (.cons (.tup (SqT.of b) (.cons (.str _) (.cons (.str _) .nil))) (.cons (.int _) .nil))) (rows_S t)
theorem itms_K {H : Hp} {ts : List Addr} {u : PTab} (h : Paired (fun (t : Addr) (p : V × V) => H t = some (.tup [p.1, p.2])) ts (psK (kvsP u))) : Paired (fun (b : Addr) (y : Str × Int) => H b = some (.tup [.str y.1, .int y.2])) ts u := by
  have e : psK (kvsP u) = u.map fun q => (V.str q.1, V.int q.2) := by
    unfold psK kvsP
    rw [List.map_map]
    rfl
  rw [e] at h
  exact Paired.unmapR (F := fun (t : Addr) (p : V × V) => H t = some (.tup [p.1, p.2])) (g := fun (q : Str × Int) => (V.str q.1, V.int q.2)) h
theorem itms_S {H : Hp} : ∀ {u : STab} {qs ts : List Addr}, IsKeys H (kvsS u) qs → Paired (fun (t : Addr) (p : V × V) => H t = some (.tup [p.1, p.2])) ts (psT qs (kvsS u)) → Paired (fun (b : Addr) (y : (Str × Str) × Int) => ∃ k : Addr, H b = some (.tup [.ref k, .int y.2]) ∧ H k = some (.tup [.str y.1.1, .str y.1.2])) ts u
  | [], _, _, .nil, h => by
    cases h
    exact .nil
  | _ :: _, _, _, .cons (b := q) k r, h => by
    unfold psT kvsS at h
    rw [List.map_cons, List.zip_cons_cons, List.map_cons] at h
    cases h with
    | cons a t => exact .cons ⟨q, a, k⟩ (itms_S r t)
theorem seqT_same {K : PySem.W.Frag} {H H' : Hp} {a : Addr} {xs : List V} (s : Same H H') (h : SqT K H a xs) : SqT K H' a xs :=
  h.elim (fun r => .inl (r.elim (fun e => .inl (s _ _ e)) fun ⟨o, e⟩ => .inr ⟨o, s _ _ e⟩)) .inr
mutual
theorem dp_same {K : PySem.W.Frag} {H H' : Hp} (s : Same H H') : ∀ {d : PyData} {v : V}, Dp K H v d → Dp K H' v d
  | .none, _, .non => .non
  | .bool _, _, .bl b => .bl b
  | .int _, _, .int i => .int i
  | .str _, _, .str z => .str z
  | .list _, _, .lst h t => .lst (s.seq h) (dpAll_same s t)
  | .tuple _, _, .tup h t => .tup (seqT_same s h) (dpAll_same s t)
theorem dpAll_same {K : PySem.W.Frag} {H H' : Hp} (s : Same H H') : ∀ {ds : List PyData} {vs : List V}, DpAll K H vs ds → DpAll K H' vs ds
  | [], _, .nil => .nil
  | _ :: _, _, .cons h t => .cons (dp_same s h) (dpAll_same s t)
end
theorem da_same {K : PySem.W.Frag} {H H' : Hp} {v : V} {d : PyData} (s : Same H H') : Da K H v d → Da K H' v d
  | .of h e => .of (dp_same s h) e
  | .dic e => .dic (s _ _ e)
theorem txt_shown : ∀ (n : Fin 6) (m : Fin 21), (reprText (("prices of " : Str) ++ toString ((n.val : Nat) : Int) ++ " signs, " ++ toString ((m.val : Nat) : Int) ++ " swaps")).length ≤ 60 := by decide +kernel
def six : List Str := ["a", "b", "c", "d", "e", "f"]
theorem dpAll_bs {K : PySem.W.Frag} {H : Hp} : ∀ bs : List Bool, DpAll K H (bs.map V.bl) (bs.map PyData.bool)
  | [] => .nil
  | b :: bs => .cons (.bl b) (dpAll_bs bs)
/-- the values that are asked for -/
def datas : List PyData := [.str "a", .str "b", .str "c", .str "d", .str "e", .str "f", .str "", .str "ab", .none, .int 0, .tuple [.str "a"], .list [.str "a"], .dict []]
/-- the names that the telling leans on -/
structure Rn (mg : Str → Option Value) : Prop where
  repr : mg "repr" = none
end Mk

set_option Elab.async false
set_option linter.all false
namespace Mk

/-! ### closed costs -/
section
variable {α : Type} {P : List α} {d d' c c' : α → α → Int}
structure IsCl (P : List α) (d c : α → α → Int) : Prop where
  zero : ∀ x ∈ P, c x x = 0
  tri : ∀ x ∈ P, ∀ y ∈ P, ∀ z ∈ P, c x y ≤ c x z + c z y
  le : ∀ x ∈ P, ∀ y ∈ P, c x y ≤ d x y
  max : ∀ F : α → Int, (∀ z ∈ P, ∀ y ∈ P, F y ≤ F z + d z y) → ∀ z ∈ P, ∀ y ∈ P, F y ≤ F z + c z y
theorem IsCl.below (h : IsCl P d c) (h' : IsCl P d c') {x y : α} (hx : x ∈ P) (hy : y ∈ P) : c x y ≤ c' x y := by
  have h2 := h'.max (fun y => c x y) (fun z hz y hy => by
    have h1 := h.tri x hx y hy z hz
    have h2 := h.le z hz y hy
    show c x y ≤ c x z + d z y
    omega) x hx y hy
  have h1 := h.zero x hx
  have h3 : c x y ≤ c x x + c' x y := h2
  omega
theorem IsCl.uniq (h : IsCl P d c) (h' : IsCl P d c') {x y : α} (hx : x ∈ P) (hy : y ∈ P) : c x y = c' x y := by
  have h1 := h.below h' hx hy
  have h2 := h'.below h hx hy
  omega
theorem IsCl.between (h : IsCl P d c) (a : ∀ x ∈ P, ∀ y ∈ P, c x y ≤ d' x y) (b : ∀ x ∈ P, ∀ y ∈ P, d' x y ≤ d x y) : IsCl P d' c :=
  ⟨h.zero, h.tri, a, fun F hF => h.max F fun z hz y hy => by
    have := hF z hz y hy
    have := b z hz y hy
    omega⟩
theorem IsCl.self (h : IsCl P d c) : IsCl P c c := h.between (fun _ _ _ _ => Int.le_refl _) h.le
theorem IsCl.congr (h : IsCl P d c) (e : ∀ x ∈ P, ∀ y ∈ P, c' x y = c x y) (f : ∀ x ∈ P, ∀ y ∈ P, d' x y = d x y) : IsCl P d' c' where
  zero := fun x hx => by rw [e x hx x hx]; exact h.zero x hx
  tri := fun x hx y hy z hz => by rw [e x hx y hy, e x hx z hz, e z hz y hy]; exact h.tri x hx y hy z hz
  le := fun x hx y hy => by rw [e x hx y hy, f x hx y hy]; exact h.le x hx y hy
  max := fun F hF z hz y hy => by
    rw [e z hz y hy]
    exact h.max F (fun z hz y hy => by rw [← f z hz y hy]; exact hF z hz y hy) z hz y hy
theorem IsCl.twice (h : IsCl P d c) : IsCl P (fun x y => d x y * 2) (fun x y => c x y * 2) where
  zero := fun x hx => by have := h.zero x hx; omega
  tri := fun x hx y hy z hz => by have := h.tri x hx y hy z hz; omega
  le := fun x hx y hy => by have := h.le x hx y hy; omega
  max := fun F hF z hz y hy => by
    have k := h.max (fun y => (F y - F z + 1) / 2) (fun u hu v hv => by
      have := hF u hu v hv
      show (F v - F z + 1) / 2 ≤ (F u - F z + 1) / 2 + d u v
      omega) z hz y hy
    have k2 : (F y - F z + 1) / 2 ≤ (F z - F z + 1) / 2 + c z y := k
    omega
theorem IsCl.ge [DecidableEq α] (h : IsCl P d c) {m : Int} (m0 : 0 ≤ m) (d0 : ∀ x ∈ P, ∀ y ∈ P, 0 ≤ d x y) (dm : ∀ x ∈ P, ∀ y ∈ P, x ≠ y → m ≤ d x y) {x y : α} (hx : x ∈ P) (hy : y ∈ P) (ne : x ≠ y) : m ≤ c x y := by
  have k := h.max (fun y => if y = x then 0 else m) (fun z hz y hy => by
    show (if y = x then 0 else m) ≤ (if z = x then 0 else m) + d z y
    have a := d0 z hz y hy
    by_cases e : y = x
    · rw [if_pos e]
      split <;> omega
    · rw [if_neg e]
      by_cases f : z = x
      · rw [if_pos f, f]
        have := dm x hx y hy (fun g => e g.symm)
        omega
      · rw [if_neg f]
        omega) x hx y hy
  have k2 : (if y = x then 0 else m) ≤ (if x = x then 0 else m) + c x y := k
  rw [if_neg (fun g => ne g.symm), if_pos rfl] at k2
  omega
end
/-! ### look and setT -/
section
variable {κ : Type} [DecidableEq κ]
theorem look_none {t : List (κ × Int)} {k : κ} (h : k ∉ t.map (·.1)) : t.find? (fun p => decide (p.1 = k)) = none := by
  rw [List.find?_eq_none]
  intro p hp e
  exact h (List.mem_map.mpr ⟨p, hp, of_decide_eq_true e⟩)
theorem look_setT (t : List (κ × Int)) (k k' : κ) (i : Int) : look (setT t k i) k' = if k' = k then i else look t k' := by
  by_cases h : k ∈ t.map (·.1)
  · unfold setT
    rw [if_pos h]
    induction t with
    | nil => cases h
    | cons a t ih =>
      unfold look at ih ⊢
      rw [List.map_cons]
      by_cases e : a.1 = k
      · rw [if_pos e]
        by_cases e2 : k' = k
        · subst e2
          rw [List.find?_cons_of_pos (by simpa using e), if_pos rfl]
          rfl
        · have n1 : ¬ decide (a.1 = k') = true := fun z => e2 ((of_decide_eq_true z).symm.trans e)
          rw [List.find?_cons_of_neg (by exact n1), List.find?_cons_of_neg (by exact n1), if_neg e2]
          by_cases m : k ∈ t.map (·.1)
          · rw [ih m, if_neg e2]
          · congr 2
            have : (t.map fun p => if p.1 = k then (p.1, i) else p) = t := by
              conv => rhs; rw [← List.map_id t]
              refine List.map_congr_left fun p hp => ?_
              rw [if_neg fun z => m (List.mem_map.mpr ⟨p, hp, z⟩)]
              rfl
            rw [this]
      · rw [if_neg e]
        have m : k ∈ t.map (·.1) := by
          rw [List.map_cons] at h
          rcases List.mem_cons.mp h with h | h
          · exact absurd h.symm e
          · exact h
        by_cases e3 : a.1 = k'
        · rw [List.find?_cons_of_pos (by simpa using e3), List.find?_cons_of_pos (by simpa using e3), if_neg (fun z => e (e3.trans z))]
        · rw [List.find?_cons_of_neg (by simpa using e3), List.find?_cons_of_neg (by simpa using e3)]
          exact ih m
  · unfold setT
    rw [if_neg h]
    unfold look
    rw [List.find?_append]
    by_cases e : k' = k
    · subst e
      rw [look_none h, if_pos rfl]
      simp
    · rw [if_neg e]
      cases t.find? (fun p => decide (p.1 = k')) with
      | some p => rfl
      | none =>
        have : ¬ k = k' := fun z => e z.symm
        simp [this]
theorem keys_setT (t : List (κ × Int)) (k k' : κ) (i : Int) : k' ∈ (setT t k i).map (·.1) ↔ k' ∈ t.map (·.1) ∨ k' = k := by
  by_cases h : k ∈ t.map (·.1)
  · rw [setT_in h]
    constructor
    · exact .inl
    · rintro (m | rfl)
      · exact m
      · exact h
  · rw [setT_out h, List.map_append, List.mem_append]
    simp
end
/-! ### the rounds of the program -/
section
variable {α : Type} [DecidableEq α]
abbrev Mt (α : Type) := List ((α × α) × Int)
def relx (D : Mt α) (v x y : α) : Mt α := setT D (x, y) (min (look D (x, y)) (look D (x, v) + look D (v, y)))
def fw3 (P : List α) (v x : α) (D : Mt α) : Mt α := P.foldl (fun D y => relx D v x y) D
def fw2 (P : List α) (v : α) (D : Mt α) : Mt α := P.foldl (fun D x => fw3 P v x D) D
def fw (P : List α) (D : Mt α) : Mt α := P.foldl (fun D v => fw2 P v D) D
def nw (D : Mt α) (v x y : α) : Int := min (look D (x, y)) (look D (x, v) + look D (v, y))
structure Mid (P : List α) (v : α) (D E : Mt α) : Prop where
  mid : ∀ a ∈ P, ∀ b ∈ P, look E (a, b) = look D (a, b) ∨ look E (a, b) = nw D v a b
  to : ∀ a ∈ P, look E (a, v) = look D (a, v)
  of : ∀ b ∈ P, look E (v, b) = look D (v, b)
theorem Mid.step {P : List α} {v x y : α} {D E : Mt α} (h : Mid P v D E) (hv : v ∈ P) (hx : x ∈ P) (hy : y ∈ P) (z : look D (v, v) = 0) : Mid P v D (relx E v x y) ∧ look (relx E v x y) (x, y) = nw D v x y ∧
    ∀ a b, look E (a, b) = nw D v a b → look (relx E v x y) (a, b) = nw D v a b := by
  have key : min (look E (x, y)) (look E (x, v) + look E (v, y)) = nw D v x y := by
    rw [h.to x hx, h.of y hy]
    rcases h.mid x hx y hy with e | e
    · rw [e]; rfl
    · rw [e]; unfold nw; omega
  have at_ : ∀ q, look (relx E v x y) q = if q = (x, y) then nw D v x y else look E q := fun q => by
    unfold relx
    rw [look_setT, key]
  refine ⟨⟨fun a ha b hb => ?_, fun a ha => ?_, fun b hb => ?_⟩, ?_, fun a b e => ?_⟩
  · rw [at_]
    by_cases q : (a, b) = (x, y)
    · cases q
      rw [if_pos rfl]
      exact .inr rfl
    · rw [if_neg q]
      exact h.mid a ha b hb
  · rw [at_]
    by_cases q : (a, v) = (x, y)
    · cases q
      rw [if_pos rfl]
      unfold nw
      omega
    · rw [if_neg q]
      exact h.to a ha
  · rw [at_]
    by_cases q : (v, b) = (x, y)
    · cases q
      rw [if_pos rfl]
      unfold nw
      omega
    · rw [if_neg q]
      exact h.of b hb
  · rw [at_, if_pos rfl]
  · rw [at_]
    by_cases q : (a, b) = (x, y)
    · cases q
      rw [if_pos rfl]
    · rw [if_neg q]
      exact e
theorem fw3_mid {P : List α} {v x : α} {D : Mt α} (hv : v ∈ P) (hx : x ∈ P) (z : look D (v, v) = 0) : ∀ (ys : List α) (E : Mt α), (∀ y ∈ ys, y ∈ P) → Mid P v D E →
    Mid P v D (ys.foldl (fun D y => relx D v x y) E) ∧ (∀ y ∈ ys, look (ys.foldl (fun D y => relx D v x y) E) (x, y) = nw D v x y) ∧ ∀ a b, look E (a, b) = nw D v a b → look (ys.foldl (fun D y => relx D v x y) E) (a, b) = nw D v a b
  | [], E, _, h => ⟨h, fun _ m => (nomatch m), fun _ _ e => e⟩
  | y :: ys, E, hs, h => by
    obtain ⟨s1, s2, s3⟩ := h.step hv hx (hs y List.mem_cons_self) z
    obtain ⟨r1, r2, r3⟩ := fw3_mid hv hx z ys _ (fun y hy => hs y (List.mem_cons_of_mem _ hy)) s1
    rw [List.foldl_cons]
    refine ⟨r1, fun u hu => ?_, fun a b e => r3 a b (s3 a b e)⟩
    rcases List.mem_cons.mp hu with rfl | hu
    · exact r3 _ _ s2
    · exact r2 u hu
theorem fw2_mid {P : List α} {v : α} {D : Mt α} (hv : v ∈ P) (z : look D (v, v) = 0) : ∀ (xs : List α) (E : Mt α), (∀ x ∈ xs, x ∈ P) → Mid P v D E →
    Mid P v D (xs.foldl (fun D x => fw3 P v x D) E) ∧ (∀ x ∈ xs, ∀ y ∈ P, look (xs.foldl (fun D x => fw3 P v x D) E) (x, y) = nw D v x y) ∧ ∀ a b, look E (a, b) = nw D v a b → look (xs.foldl (fun D x => fw3 P v x D) E) (a, b) = nw D v a b
  | [], E, _, h => ⟨h, fun _ m => (nomatch m), fun _ _ e => e⟩
  | x :: xs, E, hs, h => by
    obtain ⟨s1, s2, s3⟩ := fw3_mid hv (hs x List.mem_cons_self) z P E (fun _ h => h) h
    obtain ⟨r1, r2, r3⟩ := fw2_mid hv z xs _ (fun y hy => hs y (List.mem_cons_of_mem _ hy)) s1
    rw [List.foldl_cons]
    refine ⟨r1, fun u hu y hy => ?_, fun a b e => r3 a b (s3 a b e)⟩
    rcases List.mem_cons.mp hu with rfl | hu
    · exact r3 _ _ (s2 y hy)
    · exact r2 u hu y hy
theorem fw2_look {P : List α} {v x y : α} {D : Mt α} (hv : v ∈ P) (z : look D (v, v) = 0) (hx : x ∈ P) (hy : y ∈ P) : look (fw2 P v D) (x, y) = nw D v x y :=
  (fw2_mid hv z P D (fun _ h => h) ⟨fun _ _ _ _ => .inl rfl, fun _ _ => rfl, fun _ _ => rfl⟩).2.1 x hx y hy
structure Part (P S : List α) (d : α → α → Int) (D : Mt α) : Prop where
  zero : ∀ x ∈ P, look D (x, x) = 0
  ge : ∀ x ∈ P, ∀ y ∈ P, 0 ≤ look D (x, y)
  tri : ∀ x ∈ P, ∀ y ∈ P, ∀ z ∈ S, look D (x, y) ≤ look D (x, z) + look D (z, y)
  le : ∀ x ∈ P, ∀ y ∈ P, look D (x, y) ≤ d x y
  max : ∀ F : α → Int, (∀ z ∈ P, ∀ y ∈ P, F y ≤ F z + d z y) → ∀ z ∈ P, ∀ y ∈ P, F y ≤ F z + look D (z, y)
theorem Part.step {P S : List α} {v : α} {d : α → α → Int} {D : Mt α} (h : Part P S d D) (hv : v ∈ P) (hS : ∀ z ∈ S, z ∈ P) : Part P (v :: S) d (fw2 P v D) := by
  have at_ : ∀ {x y}, x ∈ P → y ∈ P → look (fw2 P v D) (x, y) = min (look D (x, y)) (look D (x, v) + look D (v, y)) := fun hx hy => fw2_look hv (h.zero v hv) hx hy
  refine ⟨fun x hx => ?_, fun x hx y hy => ?_, fun x hx y hy z hz => ?_, fun x hx y hy => ?_, fun F hF z hz y hy => ?_⟩
  · rw [at_ hx hx, h.zero x hx]
    have := h.ge x hx v hv
    have := h.ge v hv x hx
    omega
  · rw [at_ hx hy]
    have := h.ge x hx v hv
    have := h.ge v hv y hy
    have := h.ge x hx y hy
    omega
  · have v0 := h.zero v hv
    rcases List.mem_cons.mp hz with rfl | hz
    · rw [at_ hx hy, at_ hx hv, at_ hv hy]
      omega
    · have zp := hS z hz
      have t1 := h.tri x hx y hy z hz
      have t2 := h.tri x hx v hv z hz
      have t3 := h.tri v hv y hy z hz
      have t4 := h.tri v hv v hv z hz
      rw [at_ hx hy, at_ hx zp, at_ zp hy]
      omega
  · rw [at_ hx hy]
    have := h.le x hx y hy
    omega
  · rw [at_ hz hy]
    have a := h.max F hF z hz y hy
    have b := h.max F hF z hz v hv
    have c := h.max F hF v hv y hy
    omega
theorem fw_part {P : List α} {d : α → α → Int} : ∀ (vs S : List α) (D : Mt α), (∀ v ∈ vs, v ∈ P) → (∀ z ∈ S, z ∈ P) → Part P S d D → Part P (vs.reverse ++ S) d (vs.foldl (fun D v => fw2 P v D) D)
  | [], _, _, _, _, h => h
  | v :: vs, S, D, hv, hS, h => by
    have := fw_part vs (v :: S) _ (fun u hu => hv u (List.mem_cons_of_mem _ hu)) (fun z hz => by
      rcases List.mem_cons.mp hz with rfl | hz
      · exact hv _ List.mem_cons_self
      · exact hS z hz) (h.step (hv v List.mem_cons_self) hS)
    rw [List.foldl_cons, List.reverse_cons, List.append_assoc]
    exact this
theorem fw_cl {P : List α} {d : α → α → Int} {D : Mt α} (e : ∀ x ∈ P, ∀ y ∈ P, look D (x, y) = d x y) (z : ∀ x ∈ P, d x x = 0) (g : ∀ x ∈ P, ∀ y ∈ P, 0 ≤ d x y) : IsCl P d (fun x y => look (fw P D) (x, y)) := by
  have p0 : Part P [] d D := ⟨fun x hx => by rw [e x hx x hx]; exact z x hx, fun x hx y hy => by rw [e x hx y hy]; exact g x hx y hy, fun _ _ _ _ _ m => (nomatch m), fun x hx y hy => by rw [e x hx y hy]; exact Int.le_refl _, fun F hF z hz y hy => by rw [e z hz y hy]; exact hF z hz y hy⟩
  have p := fw_part P [] D (fun _ h => h) (fun _ m => (nomatch m)) p0
  exact ⟨p.zero, fun x hx y hy z hz => p.tri x hx y hy z (List.mem_append_left _ (List.mem_reverse.mpr hz)), p.le, p.max⟩
end
end Mk

set_option Elab.async false
set_option linter.all false
set_option maxRecDepth 100000
set_option maxHeartbeats 1000000
/-! the program's direct prices, as plain lists -/
namespace Mk
open PySem L2
section
variable {α : Type} [DecidableEq α]
theorem len_setT (t : List (α × Int)) (k : α) (i : Int) : (setT t k i).length ≤ t.length + 1 := by
  unfold setT
  split
  · rw [List.length_map]; omega
  · rw [List.length_append]; simp
def dget (t : List (α × Int)) (k : α) (d : Int) : Int := if k ∈ t.map (·.1) then look t k else d
end
theorem foldl_take {α β : Type} (f : β → α → β) (a : β) (l : List α) {i : Nat} (h : i < l.length) : (l.take (i + 1)).foldl f a = f ((l.take i).foldl f a) l[i] := by
  rw [List.take_add_one, List.getElem?_eq_getElem h, List.foldl_append]
  rfl
def dirS (t1 t2 : PTab) (t3 : STab) (one : Str) (D : STab) (other : Str) : STab := setT D (one, other) (dget t3 (one, other) (look t2 one + look t1 other))
def dirA (t1 t2 : PTab) (D : STab) (one : Str) : STab := setT (setT D (("" : Str), one) (look t1 one)) (one, ("" : Str)) (look t2 one)
def dirI (t1 t2 : PTab) (t3 : STab) (one : Str) (ys : List Str) (D : STab) : STab := ys.foldl (dirS t1 t2 t3 one) D
def dirO (t1 t2 : PTab) (t3 : STab) (ks : List Str) (D : STab) (one : Str) : STab := setT (dirI t1 t2 t3 one ks (dirA t1 t2 D one)) (one, one) 0
def dir0 : STab := [(("", ""), 0)]
def dirL (t1 t2 : PTab) (t3 : STab) (ks xs : List Str) : STab := xs.foldl (dirO t1 t2 t3 ks) dir0
def dir (t1 t2 : PTab) (t3 : STab) : STab := dirL t1 t2 t3 (t1.map (·.1)) (t1.map (·.1))
theorem dirI_len (t1 t2 : PTab) (t3 : STab) (one : Str) : ∀ (ys : List Str) (D : STab), (dirI t1 t2 t3 one ys D).length ≤ D.length + ys.length
  | [], D => by show D.length ≤ D.length + 0; omega
  | y :: ys, D => by
    have a := dirI_len t1 t2 t3 one ys (dirS t1 t2 t3 one D y)
    have b := len_setT D (one, y) (dget t3 (one, y) (look t2 one + look t1 y))
    show (dirI t1 t2 t3 one ys (dirS t1 t2 t3 one D y)).length ≤ _
    rw [List.length_cons]
    unfold dirS at a ⊢
    omega
theorem dirO_len (t1 t2 : PTab) (t3 : STab) (ks : List Str) (D : STab) (one : Str) : (dirO t1 t2 t3 ks D one).length ≤ D.length + ks.length + 3 := by
  unfold dirO
  have a := len_setT (dirI t1 t2 t3 one ks (dirA t1 t2 D one)) (one, one) 0
  have b := dirI_len t1 t2 t3 one ks (dirA t1 t2 D one)
  unfold dirA at a b ⊢
  have c := len_setT (setT D (("" : Str), one) (look t1 one)) (one, ("" : Str)) (look t2 one)
  have d := len_setT D (("" : Str), one) (look t1 one)
  omega
theorem dirL_len (t1 t2 : PTab) (t3 : STab) (ks : List Str) : ∀ (xs : List Str) (D : STab), (xs.foldl (dirO t1 t2 t3 ks) D).length ≤ D.length + xs.length * (ks.length + 3)
  | [], D => by show D.length ≤ _; omega
  | x :: xs, D => by
    have a := dirL_len t1 t2 t3 ks xs (dirO t1 t2 t3 ks D x)
    have b := dirO_len t1 t2 t3 ks D x
    rw [List.foldl_cons, List.length_cons, Nat.add_mul]
    omega
/-! what stands in it -/
/-- the direct price of a way -/
def dd (t1 t2 : PTab) (t3 : STab) (x y : Str) : Int :=
  if x = y then 0 else if x = "" then look t1 y else if y = "" then look t2 x else dget t3 (x, y) (look t2 x + look t1 y)
theorem dirI_look (t1 t2 : PTab) (t3 : STab) (one : Str) : ∀ (ys : List Str) (D : STab) (q : Str × Str), look (dirI t1 t2 t3 one ys D) q = if q.1 = one ∧ q.2 ∈ ys then dget t3 q (look t2 q.1 + look t1 q.2) else look D q
  | [], D, q => by
    show look D q = _
    rw [if_neg (by rintro ⟨_, h⟩; cases h)]
  | y :: ys, D, q => by
    show look (dirI t1 t2 t3 one ys (dirS t1 t2 t3 one D y)) q = _
    rw [dirI_look t1 t2 t3 one ys]
    unfold dirS
    rw [look_setT]
    by_cases h1 : q.1 = one ∧ q.2 ∈ ys
    · rw [if_pos h1, if_pos ⟨h1.1, List.mem_cons_of_mem _ h1.2⟩]
    · rw [if_neg h1]
      by_cases h2 : q = (one, y)
      · subst h2
        rw [if_pos rfl, if_pos ⟨rfl, List.mem_cons_self⟩]
      · rw [if_neg h2, if_neg]
        rintro ⟨e, m⟩
        rcases List.mem_cons.mp m with m | m
        · exact h2 (by rw [← e, ← m])
        · exact h1 ⟨e, m⟩
theorem dirI_keys (t1 t2 : PTab) (t3 : STab) (one : Str) : ∀ (ys : List Str) (D : STab) (q : Str × Str), q ∈ (dirI t1 t2 t3 one ys D).map (·.1) ↔ (q.1 = one ∧ q.2 ∈ ys) ∨ q ∈ D.map (·.1)
  | [], D, q => by
    show q ∈ D.map (·.1) ↔ _
    simp
  | y :: ys, D, q => by
    show q ∈ (dirI t1 t2 t3 one ys (dirS t1 t2 t3 one D y)).map (·.1) ↔ _
    rw [dirI_keys t1 t2 t3 one ys]
    unfold dirS
    rw [keys_setT, List.mem_cons]
    obtain ⟨a, b⟩ := q
    show (a = one ∧ b ∈ ys) ∨ (a, b) ∈ D.map (·.1) ∨ (a, b) = (one, y) ↔ (a = one ∧ (b = y ∨ b ∈ ys)) ∨ (a, b) ∈ D.map (·.1)
    rw [Prod.mk.injEq]
    constructor
    · rintro (⟨e, m⟩ | m | ⟨e, m⟩)
      · exact .inl ⟨e, .inr m⟩
      · exact .inr m
      · exact .inl ⟨e, .inl m⟩
    · rintro (⟨e, m | m⟩ | m)
      · exact .inr (.inr ⟨e, m⟩)
      · exact .inl ⟨e, m⟩
      · exact .inr (.inl m)
theorem dirO_look (t1 t2 : PTab) (t3 : STab) (ks : List Str) (D : STab) (one : Str) (n1 : one ≠ "") (n0 : ("" : Str) ∉ ks) (q : Str × Str) : look (dirO t1 t2 t3 ks D one) q =
    if q = (one, one) then 0 else if q.1 = one ∧ q.2 ∈ ks then dget t3 q (look t2 q.1 + look t1 q.2) else if q = (one, ("" : Str)) then look t2 one else if q = (("" : Str), one) then look t1 one else look D q := by
  unfold dirO dirA
  rw [look_setT, dirI_look, look_setT, look_setT]
theorem dirO_keys (t1 t2 : PTab) (t3 : STab) (ks : List Str) (D : STab) (one : Str) (q : Str × Str) : q ∈ (dirO t1 t2 t3 ks D one).map (·.1) ↔ q = (one, one) ∨ (q.1 = one ∧ q.2 ∈ ks) ∨ q = (one, ("" : Str)) ∨ q = (("" : Str), one) ∨ q ∈ D.map (·.1) := by
  unfold dirO dirA
  rw [keys_setT, dirI_keys, keys_setT, keys_setT]
  constructor
  · rintro ((h | (h | h) | h) | h)
    · exact .inr (.inl h)
    · exact .inr (.inr (.inr (.inr h)))
    · exact .inr (.inr (.inr (.inl h)))
    · exact .inr (.inr (.inl h))
    · exact .inl h
  · rintro (h | h | h | h | h)
    · exact .inr h
    · exact .inl (.inl h)
    · exact .inl (.inr (.inr h))
    · exact .inl (.inr (.inl (.inr h)))
    · exact .inl (.inr (.inl (.inl h)))
/-- where the walk has been -/
structure DirAt (t1 t2 : PTab) (t3 : STab) (ks xs : List Str) (D : STab) : Prop where
  keys : ∀ x y : Str, (x, y) ∈ D.map (·.1) ↔ (x = "" ∧ y = "") ∨ (x = "" ∧ y ∈ xs) ∨ (x ∈ xs ∧ (y = "" ∨ y ∈ ks))
  val : ∀ x y : Str, (x, y) ∈ D.map (·.1) → look D (x, y) = dd t1 t2 t3 x y
theorem DirAt.next {t1 t2 : PTab} {t3 : STab} {ks xs : List Str} {D : STab} (n0 : ("" : Str) ∉ ks) (h : DirAt t1 t2 t3 ks xs D) {one : Str} (m : one ∈ ks) : DirAt t1 t2 t3 ks (xs ++ [one]) (dirO t1 t2 t3 ks D one) := by
  have n1 : one ≠ "" := fun e => n0 (e ▸ m)
  refine ⟨fun x y => ?_, fun x y hq => ?_⟩
  · rw [dirO_keys, h.keys]
    simp only [Prod.mk.injEq, List.mem_append, List.mem_singleton]
    constructor
    · rintro (⟨rfl, rfl⟩ | ⟨rfl, b⟩ | ⟨rfl, rfl⟩ | ⟨rfl, rfl⟩ | a | ⟨a, b⟩ | ⟨a, b⟩)
      · exact .inr (.inr ⟨.inr rfl, .inr m⟩)
      · exact .inr (.inr ⟨.inr rfl, .inr b⟩)
      · exact .inr (.inr ⟨.inr rfl, .inl rfl⟩)
      · exact .inr (.inl ⟨rfl, .inr rfl⟩)
      · exact .inl a
      · exact .inr (.inl ⟨a, .inl b⟩)
      · exact .inr (.inr ⟨.inl a, b⟩)
    · rintro (a | ⟨a, b | b⟩ | ⟨a | a, b⟩)
      · exact .inr (.inr (.inr (.inr (.inl a))))
      · exact .inr (.inr (.inr (.inr (.inr (.inl ⟨a, b⟩)))))
      · exact .inr (.inr (.inr (.inl ⟨a, b⟩)))
      · exact .inr (.inr (.inr (.inr (.inr (.inr ⟨a, b⟩)))))
      · rcases b with b | b
        · exact .inr (.inr (.inl ⟨a, b⟩))
        · exact .inr (.inl ⟨a, b⟩)
  · rw [dirO_look t1 t2 t3 ks D one n1 n0]
    unfold dd
    by_cases c1 : (x, y) = (one, one)
    · rw [if_pos c1, if_pos (by cases c1; rfl)]
    · rw [if_neg c1]
      by_cases c2 : x = one ∧ y ∈ ks
      · have xy : x ≠ y := fun e => c1 (by rw [← e, c2.1])
        have y0 : y ≠ "" := fun e => n0 (e ▸ c2.2)
        rw [if_pos c2, if_neg xy, if_neg (by rw [c2.1]; exact n1), if_neg y0]
      · rw [if_neg c2]
        by_cases c3 : (x, y) = (one, ("" : Str))
        · cases c3
          rw [if_pos rfl, if_neg n1, if_neg n1, if_pos rfl]
        · rw [if_neg c3]
          by_cases c4 : (x, y) = (("" : Str), one)
          · cases c4
            rw [if_pos rfl, if_neg n1.symm, if_pos rfl]
          · rw [if_neg c4]
            rw [dirO_keys] at hq
            have hq' : (x, y) ∈ D.map (·.1) := by
              rcases hq with a | a | a | a | a
              · exact absurd a c1
              · exact absurd a c2
              · exact absurd a c3
              · exact absurd a c4
              · exact a
            rw [h.val x y hq']
            rfl
theorem dirL_at {t1 t2 : PTab} {t3 : STab} {ks : List Str} (n0 : ("" : Str) ∉ ks) : ∀ (xs ys : List Str) (D : STab), (∀ x ∈ xs, x ∈ ks) → DirAt t1 t2 t3 ks ys D → DirAt t1 t2 t3 ks (ys ++ xs) (xs.foldl (dirO t1 t2 t3 ks) D)
  | [], ys, D, _, h => by rw [List.append_nil]; exact h
  | x :: xs, ys, D, s, h => by
    have := dirL_at n0 xs (ys ++ [x]) _ (fun u hu => s u (List.mem_cons_of_mem _ hu)) (h.next n0 (s x List.mem_cons_self))
    rw [List.append_assoc] at this
    exact this
theorem dir_at {t1 t2 : PTab} {t3 : STab} (n0 : ("" : Str) ∉ t1.map (·.1)) : DirAt t1 t2 t3 (t1.map (·.1)) (t1.map (·.1)) (dir t1 t2 t3) := by
  refine dirL_at n0 _ [] dir0 (fun _ h => h) ⟨fun x y => ?_, fun x y h => ?_⟩
  · unfold dir0
    simp
  · unfold dir0 at h
    simp only [List.map_cons, List.map_nil, List.mem_singleton, Prod.mk.injEq] at h
    obtain ⟨rfl, rfl⟩ := h
    unfold dd
    rw [if_pos rfl]
    rfl
/-- the places of a way -/
abbrev plc (t1 : PTab) : List Str := "" :: t1.map (·.1)
theorem dir_keys {t1 t2 : PTab} {t3 : STab} (n0 : ("" : Str) ∉ t1.map (·.1)) {x y : Str} : (x, y) ∈ (dir t1 t2 t3).map (·.1) ↔ x ∈ plc t1 ∧ y ∈ plc t1 := by
  rw [(dir_at n0).keys, List.mem_cons, List.mem_cons]
  constructor
  · rintro (⟨a, b⟩ | ⟨a, b⟩ | ⟨a, b⟩)
    · exact ⟨.inl a, .inl b⟩
    · exact ⟨.inl a, .inr b⟩
    · exact ⟨.inr a, b⟩
  · rintro ⟨a | a, b | b⟩
    · exact .inl ⟨a, b⟩
    · exact .inr (.inl ⟨a, b⟩)
    · exact .inr (.inr ⟨a, .inl b⟩)
    · exact .inr (.inr ⟨a, .inr b⟩)
theorem dir_val {t1 t2 : PTab} {t3 : STab} (n0 : ("" : Str) ∉ t1.map (·.1)) {x y : Str} (hx : x ∈ plc t1) (hy : y ∈ plc t1) : look (dir t1 t2 t3) (x, y) = dd t1 t2 t3 x y := (dir_at n0).val x y ((dir_keys n0).mpr ⟨hx, hy⟩)
/-! the least costs -/
def lc (t1 t2 : PTab) (t3 : STab) : STab := fw (plc t1) (dir t1 t2 t3)
theorem relx_keys {D : STab} {v x y : Str} (h : (x, y) ∈ D.map (·.1)) : (relx D v x y).map (·.1) = D.map (·.1) := setT_in h
theorem fw3_keys {v x : Str} : ∀ (ys : List Str) (D : STab), (∀ y ∈ ys, (x, y) ∈ D.map (·.1)) → (ys.foldl (fun D y => relx D v x y) D).map (·.1) = D.map (·.1)
  | [], D, _ => rfl
  | y :: ys, D, h => by
    have e := relx_keys (v := v) (h y List.mem_cons_self)
    rw [List.foldl_cons, fw3_keys ys _ (fun u hu => by rw [e]; exact h u (List.mem_cons_of_mem _ hu)), e]
theorem fw2_keys {P : List Str} {v : Str} : ∀ (xs : List Str) (D : STab), (∀ x ∈ xs, ∀ y ∈ P, (x, y) ∈ D.map (·.1)) → (xs.foldl (fun D x => fw3 P v x D) D).map (·.1) = D.map (·.1)
  | [], D, _ => rfl
  | x :: xs, D, h => by
    have e : (fw3 P v x D).map (·.1) = D.map (·.1) := fw3_keys P D (h x List.mem_cons_self)
    rw [List.foldl_cons, fw2_keys xs _ (fun u hu y hy => by rw [e]; exact h u (List.mem_cons_of_mem _ hu) y hy), e]
theorem fw_keys {P : List Str} : ∀ (vs : List Str) (D : STab), (∀ x ∈ P, ∀ y ∈ P, (x, y) ∈ D.map (·.1)) → (vs.foldl (fun D v => fw2 P v D) D).map (·.1) = D.map (·.1)
  | [], D, _ => rfl
  | v :: vs, D, h => by
    have e : (fw2 P v D).map (·.1) = D.map (·.1) := fw2_keys (P := P) P D h
    rw [List.foldl_cons, fw_keys vs _ (fun x hx y hy => by rw [e]; exact h x hx y hy), e]
theorem lc_keys {t1 t2 : PTab} {t3 : STab} (n0 : ("" : Str) ∉ t1.map (·.1)) : (lc t1 t2 t3).map (·.1) = (dir t1 t2 t3).map (·.1) := fw_keys _ _ fun x hx y hy => (dir_keys n0).mpr ⟨hx, hy⟩
/-- what a way costs -/
def cc (t1 t2 : PTab) (t3 : STab) (x y : Str) : Int := look (lc t1 t2 t3) (x, y)
theorem cc_cl {t1 t2 : PTab} {t3 : STab} (n0 : ("" : Str) ∉ t1.map (·.1)) (g : ∀ x ∈ plc t1, ∀ y ∈ plc t1, 0 ≤ dd t1 t2 t3 x y) : IsCl (plc t1) (dd t1 t2 t3) (cc t1 t2 t3) :=
  fw_cl (fun x hx y hy => dir_val n0 hx hy) (fun x _ => by unfold dd; rw [if_pos rfl]) g
end Mk

set_option Elab.async false
set_option linter.all false
set_option maxRecDepth 100000
set_option maxHeartbeats 4000000
/-! a dict display whose keys are tuples -/
namespace Mk
open PySem PySem.Spec PyProof.Rows L2

abbrev Row3 := List Key × Addr × V
def allT (acc : List (List Key × V)) (ks : List Row3) : List (List Key × V) := ks.foldl (fun a k => L2.putK a k.1 k.2.2) acc
def tDispT (trs : List (TE × TE)) : TE := fun σ H Q => ∀ p, H p = none → tPairs trs σ (upd H p (.dT [])) fun ps H2 => H2 p = some (.dT []) ∧ ∃ ks : List Row3, ps = ks.map (fun k => (V.ref k.2.1, k.2.2)) ∧
  (∀ k ∈ ks, H2 k.2.1 = some (.tup (k.1.map kV))) ∧ ks.length ≤ 15 ∧ Q (.ref p) (upd H2 p (.dT (allT [] ks)))
theorem allT_len : ∀ (ks : List Row3) (acc : List (List Key × V)), (allT acc ks).length ≤ acc.length + ks.length
  | [], acc => by show acc.length ≤ acc.length + 0; omega
  | k :: ks, acc => by
    have a := allT_len ks (L2.putK acc k.1 k.2.2)
    have b := length_putK acc k.1 k.2.2
    show (allT (L2.putK acc k.1 k.2.2) ks).length ≤ _
    rw [List.length_cons]
    omega
theorem kt_all {H : Hp} : ∀ {ks : List Row3} {ws : List (Value × Value)} {acc : List (List Key × V)} {xs : List (List Key × Addr × Value)}, KT H acc xs → VV (ks.map fun k => (V.ref k.2.1, k.2.2)) ws → (∀ k ∈ ks, H k.2.1 = some (.tup (k.1.map kV))) →
    ∃ ps : List (List Key × Addr × Value), KT H (allT acc ks) (storedAllH xs ps) ∧ ps.length = ks.length ∧ ws = ps.map (fun p => (Value.ref p.2.1, p.2.2)) ∧ ∀ p ∈ ps, H p.2.1 = some (.tup (p.1.map kV))
  | [], ws, acc, xs, r, v, _ => by
    cases v
    exact ⟨[], r, rfl, rfl, fun _ m => (nomatch m)⟩
  | k :: ks, ws, acc, xs, r, v, h => by
    rw [List.map_cons] at v
    cases v with
    | @cons _ q _ ws hq t =>
      obtain ⟨a1, a2⟩ := hq
      have a1 : q.1 = Value.ref k.2.1 := a1
      obtain ⟨ps, e1, e2, e3, e4⟩ := kt_all (r.put k.1 (h k List.mem_cons_self) a2) t fun k' hk' => h k' (List.mem_cons_of_mem _ hk')
      refine ⟨(k.1, k.2.1, q.2) :: ps, e1, by rw [List.length_cons, e2, List.length_cons], ?_, fun p hp => ?_⟩
      · rw [List.map_cons, ← e3, ← a1]
      · rcases List.mem_cons.mp hp with rfl | hp
        · exact h k List.mem_cons_self
        · exact e4 p hp
theorem carries_all {P : Program} {w : World} {h : Heap} : ∀ {ps : List (List Key × Addr × Value)}, (∀ p ∈ ps, (tupleKind (mixKind P w)).is h p.1 p.2.1) → CarriesH (tupleKind (mixKind P w)) h (ps.map fun p => (Value.ref p.2.1, p.2.2)) ps
  | [], _ => True.intro
  | p :: ps, a => ⟨rfl, rfl, a p List.mem_cons_self, carries_all fun q hq => a q (List.mem_cons_of_mem _ hq)⟩
theorem pe_dispT {X : Cx} {pos : Pos} {keys : List (Option Expr)} {values : List Expr} {trs : List (TE × TE)} (hu : X.A.units + 1 < cLine) (h : PPs X pos keys values trs) (hall : keys.all (·.isSome) = true) (hl : keys.length = values.length) (h0 : keys ≠ [])
    (h15 : keys.length ≤ 15) : PE X (.Dict keys values pos) (tDispT trs) := by
  refine ⟨fun pins s σ H Q I q => ?_⟩
  have nn := I.hok.fresh (Nat.le_refl s.heap.objs.size)
  have I1 := I.laid (a := s.heap.objs.size) (o := .dT []) (t' := s.toks) (fun _ _ z => Heap.get?_push_of_some _ z) (Nat.le_refl _) (dt_empty s.heap I.big)
  have ln := pairTrees_length keys values X.env pos hall hl
  have ne : pairTrees keys values X.env pos ≠ [] := fun e => by
    rw [e] at ln
    exact h0 (List.length_eq_zero_iff.mp ln.symm)
  rw [arm_eval_Dict, zip_pairTrees keys values X.env pos hall hl, dictDisplay_pairs _ ne (by omega)]
  refine wpAny_bind (wpAny_standAt (wpAny_bind ?_))
  refine wpAny_subDictH (knd := tupleKind (mixKind X.prog X.w)) (show (tupleKind (mixKind X.prog X.w)).room X.A from Nat.lt_of_succ_lt hu) (by omega) ?_
  refine thn (h.run pins _ σ _ _ I1 (q _ nn)) fun ws s2 z => ?_
  obtain ⟨ps, H2, I2, rel, e, ks, rfl, hk, lk, q2⟩ := z
  obtain ⟨lo, hs, xs, rk, dd⟩ := dt_of I2.hok e
  cases rk
  obtain ⟨rs, k1, k2, rfl, k4⟩ := kt_all (H := H2) (acc := []) (xs := []) .nil rel hk
  refine ⟨rs, carries_all fun p hp => key_of I2.hok (k4 p hp), dd, fun h' tk dd' ext => wpAny_pure ⟨.ref s.heap.objs.size, _, ?_, rfl, q2⟩⟩
  have k1' := k1.keeps (H' := upd H2 s.heap.objs.size (.dT (allT [] ks))) fun c ys ec => by
    have n : c ≠ s.heap.objs.size := fun z => by
      rw [z, e] at ec
      cases ec
    rw [upd_ne n]
    exact ec
  have lz : (allT [] ks).length ≤ sizeLine := by
    have := allT_len ks []
    rw [List.length_nil] at this
    rw [sizeLine_eq]
    omega
  have ⟨o, es, ep, ho, h2, h3, h4, _, h5⟩ := dd'
  exact d_write I2 (by rw [e]; exact True.intro) ext ⟨o, ho⟩ ⟨lz, hs, _, k1', o, es, ep, ho, h2, h3, h4, h5⟩
end Mk

set_option Elab.async false
set_option linter.all false
set_option maxRecDepth 100000
set_option maxHeartbeats 1000000
/-! _direct_costs -/
namespace Mk
open PySem PySem.Spec L2 PyProof.Rows

abbrev sDirC : Stmt := top 32
/-- all but the dict at c stands, and at c the ways of D have their costs -/
structure Wy (H0 H1 : Hp) (c : Addr) (D : STab) : Prop where
  same : ∀ b o, b ≠ c → H0 b = some o → H1 b = some o
  out : H1 c = some (.dT (kvsS D))
theorem Wy.new {H0 H1 : Hp} {c t : Addr} {D : STab} {o : HO} (W : Wy H0 H1 c D) (ht : H1 t = none) : Wy H0 (upd H1 t o) c D := by
  refine ⟨fun b u n e => ?_, ?_⟩
  · have := W.same b u n e
    rw [upd_ne (ne_of_none this ht)]
    exact this
  · rw [upd_ne (ne_of_none W.out ht)]
    exact W.out
theorem Wy.get {H0 H1 : Hp} {c t : Addr} {D : STab} {x y : Str} (W : Wy H0 H1 c D) (ht : H1 t = none) (hk : (x, y) ∈ D.map (·.1)) : DGet (upd H1 t (.tup [.str x, .str y])) c (.ref t) (some (V.int (look D (x, y)))) :=
  .inr ⟨kvsS D, keyOf (x, y), t, .inl (W.new ht).out, rfl, upd_same, (valS hk).symm⟩
theorem Wy.put {H0 H1 : Hp} {c t : Addr} {D : STab} {x y : Str} {i : Int} (W : Wy H0 H1 c D) (ht : H1 t = none) (hl : D.length < 1000) : ∃ H4, DPut (upd H1 t (.tup [.str x, .str y])) c (.ref t) (.int i) H4 ∧ Wy H0 H4 c (setT D (x, y) i) := by
  have W2 := W.new (o := .tup [.str x, .str y]) ht
  refine ⟨_, .inr ⟨kvsS D, keyOf (x, y), t, W2.out, rfl, upd_same, ?_, rfl⟩, fun b u n e => ?_, ?_⟩
  · rw [kvsS_len]
    exact Nat.lt_of_lt_of_le hl (by decide)
  · rw [upd_ne n]
    exact W2.same b u n e
  · rw [upd_same, putS_set]
theorem getP {H : Hp} {d : Addr} {t : PTab} {k : Str} (h : Rd H d (.dK (kvsP t))) (hk : k ∈ t.map (·.1)) : DGet H d (.str k) (some (V.int (look t k))) := .inl ⟨kvsP t, Sum.inr k, h, rfl, (valP hk).symm⟩
theorem dget_S (t : STab) (k : Str × Str) (z : Int) : (valV (kvsS t) (keyOf k)).getD (V.int z) = V.int (dget t k z) := by
  unfold dget
  by_cases m : k ∈ t.map (·.1)
  · rw [valS m, if_pos m]
    rfl
  · rw [noS m, if_neg m]
    rfl
def spDir : Sp := fun vs H Q _ => ∃ (p o s : Addr) (t1 t2 : PTab) (t3 : STab), vs = [.ref p, .ref o, .ref s] ∧ p ≠ o ∧ Tabs H p o s t1 t2 t3 ∧ (∀ k ∈ t1.map (·.1), k ∈ t2.map (·.1)) ∧ t1.length ≤ 5 ∧
  ∀ H' c, Same H H' → H c = none → H' c = some (.dT (kvsS (dir t1 t2 t3))) → Q (.ref c) H'
abbrev nDir : List Str := ["put", "out", "swap", "costs", "one", "other"]
section
variable {P : Program} {w : World} {K : PySem.W.Frag} {mg : Str → Option Value} {base : Heap}
theorem scDirC : FnScope nDir ["put", "out", "swap"] (defScope sDirC) := ⟨rfl, rfl, rfl, by decide +kernel, rfl, by decide +kernel, by decide +kernel⟩
theorem ok_dir {f : Addr} {fd : FuncData} (F : Fun K "_direct_costs" "_direct_costs" sDirC f fd) : FnOk P w K mg base CX0 1 f fd ["put", "out", "swap"] spDir := by
  refine F.ok scDirC (fun vs H Q E h => ?_) (fun cdv A outer s H vs Q E hr h => ?_)
  · obtain ⟨p, o, s, t1, t2, t3, rfl, _⟩ := h
    rfl
  · have hu := hu_of hr
    obtain ⟨p, o, s, t1, t2, t3, rfl, po, hT, sub, hl, q⟩ := h
    refine ⟨_, pss_cons (ps_set (i := 3) scDirC.nd rfl (.inl rfl) (pe_dispT hu (pps_cons (pe_tup (pa_cons pe_str (pa_cons pe_str pa_nil))) pe_int pps_nil) rfl rfl (by decide) (by decide)))
      (pss_cons (ps_lock (ps_for PassesOwn.never rfl (pi_keys (pv 0)) (pg_name (i := 4) scDirC.nd rfl (.inl rfl))
        (pss_cons (ps_dput hu (pv 3) (pe_tup (pa_cons pe_str (pa_cons (pv 4) pa_nil))) (pe_dget hu (pv 0) (pv 4) (fun _ _ => rfl)) rfl)
        (pss_cons (ps_dput hu (pv 3) (pe_tup (pa_cons (pv 4) (pa_cons pe_str pa_nil))) (pe_dget hu (pv 1) (pv 4) (fun _ _ => rfl)) rfl)
        (pss_cons (ps_for PassesOwn.never rfl (pi_keys (pv 0)) (pg_name (i := 5) scDirC.nd rfl (.inl rfl))
          (pss_one (ps_dput hu (pv 3) (pe_tup (pa_cons (pv 4) (pa_cons (pv 5) pa_nil))) (pe_dget2 hu (pv 2) (pe_tup (pa_cons (pv 4) (pa_cons (pv 5) pa_nil))) (pe_op op_add (pe_dget hu (pv 1) (pv 4) (fun _ _ => rfl)) (pe_dget hu (pv 0) (pv 5) (fun _ _ => rfl))) ⟨rfl, rfl, rfl, rfl⟩) rfl)))
        (pss_one (ps_dput hu (pv 3) (pe_tup (pa_cons (pv 4) (pa_cons (pv 4) pa_nil))) pe_int rfl)))))))
      (pss_one (ps_ret (pv 3)))), ?_⟩
    have n2 : 2 ≤ sizeLine := by decide
    refine fun c hc => ⟨n2, fun t ht => ⟨?_, [([Sum.inr "", Sum.inr ""], t, V.int 0)], rfl, ?_, (by show 1 ≤ 15; decide), ?_⟩⟩
    · rw [upd_ne (ne_of_none upd_same ht)]
      exact upd_same
    · intro k hk
      rw [List.mem_singleton.mp hk]
      exact upd_same
    have hH0 : ∀ b u, H b = some u → (upd (upd (upd H c (.dT [])) t (.tup [.str "", .str ""])) c (.dT (allT [] [([Sum.inr "", Sum.inr ""], t, V.int 0)]))) b = some u := fun b u e => by
      have h1 := ne_of_none e hc
      have h2 : (upd H c (.dT [])) b = some u := by rw [upd_ne h1]; exact e
      rw [upd_ne h1, upd_ne (ne_of_none h2 ht)]
      exact h2
    have hc0 : (upd (upd (upd H c (.dT [])) t (.tup [.str "", .str ""])) c (.dT (allT [] [([Sum.inr "", Sum.inr ""], t, V.int 0)]))) c = some (.dT (kvsS dir0)) := upd_same
    generalize upd (upd (upd H c (.dT [])) t (.tup [.str "", .str ""])) c (.dT (allT [] [([Sum.inr "", Sum.inr ""], t, V.int 0)])) = H0 at hH0 hc0 ⊢
    have pc : p ≠ c := ne_of_none hT.p hc
    have oc : o ≠ c := ne_of_none hT.o hc
    have sc : s ≠ c := ne_of_none hT.s hc
    refine ⟨p, _, hH0 _ _ hT.p, trivial, fun od => ⟨_, rfl, p, od, rfl, .inl ⟨kvsP t1, upd_same, ?_⟩⟩⟩
    have hL : ∀ b u, b ≠ p → H0 b = some u → (upd H0 p (.frz od (.dK (kvsP t1)))) b = some u := fun b u n e => by
      rw [upd_ne n]
      exact e
    have ep : (upd H0 p (.frz od (.dK (kvsP t1)))) p = some (.frz od (.dK (kvsP t1))) := upd_same
    have eo := hL o _ po.symm (hH0 _ _ hT.o)
    have es := hL s _ (fun e => by
      have h1 := hT.s
      rw [e, hT.p] at h1
      cases h1) (hH0 _ _ hT.s)
    have ec := hL c _ pc.symm hc0
    generalize hHL : upd H0 p (.frz od (.dK (kvsP t1))) = HL at hL ep eo es ec ⊢
    have lk : (t1.map (·.1)).length ≤ 5 := by rw [List.length_map]; exact hl
    refine for_it (walk_keys (d := p) (o := od) (kvs := kvsP t1)) (fun i σ H1 => (∃ u v, σ = [some (.ref p), some (.ref o), some (.ref s), some (.ref c), u, v]) ∧ Wy HL H1 c (dirL t1 t2 t3 (t1.map (·.1)) ((t1.map (·.1)).take i))) ?_ (fun i σ H1 _ h1 => h1.2.same _ _ pc ep) ?_ ?_
    · exact ⟨⟨_, _, rfl⟩, fun b u _ e => e, ec⟩
    · rintro i x σ H1 H2 hi ⟨⟨u, v, rfl⟩, W⟩ ⟨rfl, k, vv, hx, rfl⟩
      have hi2 : i < t1.length := by rwa [kvsP_len] at hi
      rw [kvsP_at hi2] at hx
      cases hx
      have mk : t1[i].1 ∈ t1.map (·.1) := List.mem_map.mpr ⟨_, List.getElem_mem hi2, rfl⟩
      have hi3 : i < (t1.map (·.1)).length := by rwa [List.length_map]
      have eone : (t1.map (·.1))[i] = t1[i].1 := List.getElem_map _
      have nx : dirL t1 t2 t3 (t1.map (·.1)) ((t1.map (·.1)).take (i + 1)) = dirO t1 t2 t3 (t1.map (·.1)) (dirL t1 t2 t3 (t1.map (·.1)) ((t1.map (·.1)).take i)) t1[i].1 := by
        rw [← eone]
        exact foldl_take _ _ _ hi3
      have lD : (dirL t1 t2 t3 (t1.map (·.1)) ((t1.map (·.1)).take i)).length ≤ 41 := by
        have a := dirL_len t1 t2 t3 (t1.map (·.1)) ((t1.map (·.1)).take i) dir0
        have b : ((t1.map (·.1)).take i).length ≤ 5 := by rw [List.length_take]; omega
        have c : ((t1.map (·.1)).take i).length * ((t1.map (·.1)).length + 3) ≤ 5 * 8 := Nat.mul_le_mul b (by omega)
        have d : dir0.length = 1 := rfl
        exact Nat.le_trans a (by omega)
      rw [nx]
      generalize dirL t1 t2 t3 (t1.map (·.1)) ((t1.map (·.1)).take i) = D at W lD ⊢
      generalize t1[i].1 = one at mk ⊢
      clear nx eone hi hi2 hi3
      have fp : ∀ {H1 : Hp} {D : STab}, Wy HL H1 c D → Rd H1 p (.dK (kvsP t1)) := fun W => .inr ⟨od, W.same _ _ pc ep⟩
      have fo : ∀ {H1 : Hp} {D : STab}, Wy HL H1 c D → Rd H1 o (.dK (kvsP t2)) := fun W => .inl (W.same _ _ oc eo)
      refine ⟨_, rfl, _, rfl, p, _, rfl, getP (fp W) mk, _, rfl, _, rfl, n2, fun a1 ha1 => ?_⟩
      obtain ⟨H3, d3, W3⟩ := W.put (x := "") (y := one) (i := look t1 one) ha1 (by omega)
      refine ⟨c, H3, rfl, d3, ?_⟩
      refine ⟨_, rfl, _, rfl, o, _, rfl, getP (fo W3) (sub _ mk), _, rfl, _, rfl, n2, fun a2 ha2 => ?_⟩
      have l3 := len_setT D (("" : Str), one) (look t1 one)
      obtain ⟨H4, d4, W4⟩ := W3.put (x := one) (y := "") (i := look t2 one) ha2 (by omega)
      refine ⟨c, H4, rfl, d4, ?_⟩
      have l4 := len_setT (setT D (("" : Str), one) (look t1 one)) (one, ("" : Str)) (look t2 one)
      have e4 : setT (setT D (("" : Str), one) (look t1 one)) (one, ("" : Str)) (look t2 one) = dirA t1 t2 D one := rfl
      rw [e4] at l4 W4
      refine ⟨_, rfl, p, od, rfl, .inl ⟨kvsP t1, W4.same _ _ pc ep, ?_⟩⟩
      refine for_it (walk_keys (d := p) (o := od) (kvs := kvsP t1)) (fun j σ H1 => (∃ v, σ = [some (.ref p), some (.ref o), some (.ref s), some (.ref c), some (.str one), v]) ∧ Wy HL H1 c (dirI t1 t2 t3 one ((t1.map (·.1)).take j) (dirA t1 t2 D one))) ?_ (fun i σ H1 _ h1 => h1.2.same _ _ pc ep) ?_ ?_
      · exact ⟨⟨_, rfl⟩, W4⟩
      · rintro j x σ H5 H6 hj ⟨⟨v, rfl⟩, W5⟩ ⟨rfl, k, vv, hx, rfl⟩
        have hj2 : j < t1.length := by rwa [kvsP_len] at hj
        rw [kvsP_at hj2] at hx
        cases hx
        have mo : t1[j].1 ∈ t1.map (·.1) := List.mem_map.mpr ⟨_, List.getElem_mem hj2, rfl⟩
        have hj3 : j < (t1.map (·.1)).length := by rwa [List.length_map]
        have nx : dirI t1 t2 t3 one ((t1.map (·.1)).take (j + 1)) (dirA t1 t2 D one) = dirS t1 t2 t3 one (dirI t1 t2 t3 one ((t1.map (·.1)).take j) (dirA t1 t2 D one)) t1[j].1 := by
          have e : (t1.map (·.1))[j] = t1[j].1 := List.getElem_map _
          rw [← e]
          exact foldl_take _ _ _ hj3
        have l5 := dirI_len t1 t2 t3 one ((t1.map (·.1)).take j) (dirA t1 t2 D one)
        rw [List.length_take] at l5
        rw [nx]
        generalize dirI t1 t2 t3 one ((t1.map (·.1)).take j) (dirA t1 t2 D one) = D5 at W5 l5 ⊢
        generalize t1[j].1 = other at mo ⊢
        have hs5 := W5.same _ _ sc es
        refine ⟨_, rfl, s, rfl, .inr ⟨_, .inl hs5⟩, _, rfl, _, rfl, n2, fun a3 ha3 => ?_⟩
        have W6 := W5.new (o := .tup [.str one, .str other]) ha3
        refine ⟨_, rfl, _, rfl, o, _, rfl, getP (fo W6) (sub _ mk), _, rfl, _, rfl, p, _, rfl, getP (fp W6) mo, _, _, rfl, rfl, _, .inr ⟨kvsS t3, keyOf (one, other), a3, .inl (W6.same _ _ sc es), rfl, upd_same, rfl⟩, ?_⟩
        rw [dget_S]
        refine ⟨_, rfl, _, rfl, _, rfl, n2, fun a4 ha4 => ?_⟩
        obtain ⟨H7, d7, W7⟩ := W6.put (x := one) (y := other) (i := dget t3 (one, other) (look t2 one + look t1 other)) ha4 (by omega)
        exact ⟨c, H7, rfl, d7, ⟨_, rfl⟩, W7⟩
      · rintro σ H5 ⟨⟨v, rfl⟩, W5⟩
        rw [kvsP_len, ← List.length_map (f := fun x : Str × Int => x.1), List.take_length] at W5
        have l5 := dirI_len t1 t2 t3 one (t1.map (·.1)) (dirA t1 t2 D one)
        refine ⟨_, rfl, _, rfl, _, rfl, n2, fun a3 ha3 => ?_⟩
        obtain ⟨H7, d7, W7⟩ := W5.put (x := one) (y := one) (i := 0) ha3 (by omega)
        exact ⟨c, H7, rfl, d7, ⟨_, _, rfl⟩, W7⟩
    · rintro σ H1 ⟨⟨u, v, rfl⟩, W⟩
      rw [kvsP_len, ← List.length_map (f := fun x : Str × Int => x.1), List.take_length] at W
      refine ⟨W.same _ _ pc ep, _, rfl, q _ c (fun b u e => ?_) hc ?_⟩
      · by_cases hb : b = p
        · subst hb
          rw [hT.p] at e
          cases e
          exact upd_same
        · rw [upd_ne hb]
          exact W.same _ _ (ne_of_none e hc) (hL b u hb (hH0 b u e))
      · rw [upd_ne pc.symm]
        exact W.out
end
end Mk

set_option Elab.async false
set_option linter.all false
set_option maxRecDepth 100000
set_option maxHeartbeats 1000000
/-! the law's words behind one change -/
namespace Mk
open PySem PySem.Spec L2 PyProof.Rows

abbrev sBeh : Stmt := top 41
abbrev nBeh : List Str := ["_law_tables_here", "_law_word", "_law_puts", "_law_outs", "_law_swaps", "_law_found", "_law_at", "_law_sign"]
def pre (z : Str) (k : Int) : Str := cutS z none (some k)
def post (z : Str) (k : Int) : Str := cutS z (some k) none
abbrev sgAt (z : Str) (i : Nat) : Str := ⟨#[(cs z).getD i 0]⟩
def bhS (t3 : STab) (w : Str) (i : Nat) (s : Str) : PTab := if (sgAt w i, s) ∈ t3.map (·.1) then [(pre w i ++ s ++ post w ((i : Int) + 1), look t3 (sgAt w i, s))] else []
def bhA (t1 t2 : PTab) (t3 : STab) (w : Str) (i : Nat) : PTab := (pre w i ++ post w ((i : Int) + 1), look t2 (sgAt w i)) :: (t1.map (·.1)).flatMap (bhS t3 w i)
def bhB (t1 : PTab) (w : Str) (i : Nat) : PTab := (t1.map (·.1)).map fun s => (pre w i ++ s ++ post w i, look t1 s)
def nPut (w : Str) : Nat := if w.length < 2 then w.length + 1 else 0
def bh (t1 t2 : PTab) (t3 : STab) (w : Str) : PTab := (List.range w.length).flatMap (bhA t1 t2 t3 w) ++ (List.range (nPut w)).flatMap (bhB t1 w)
/-- all but the list at l stands; it holds the words and prices of tab -/
structure Gw (H0 H1 : Hp) (l : Addr) (tab : PTab) : Prop where
  same : ∀ b o, b ≠ l → H0 b = some o → H1 b = some o
  out : ∃ ts : List Addr, H1 l = some (.lst (ts.map V.ref)) ∧ Tups H1 ts tab
def spBeh : Sp := fun vs H Q _ => ∃ (L a b c : Addr) (t1 t2 : PTab) (t3 : STab) (z : Str), vs = [.ref L, .str z] ∧ Rec H L a b c t1 t2 t3 ∧ (∀ k ∈ t1.map (·.1), k ∈ t2.map (·.1)) ∧ t1.length ≤ 5 ∧ (∀ k ∈ t1.map (·.1), k.length ≤ 1) ∧ z.length ≤ 2 ∧ (∀ i, i < z.length → sgAt z i ∈ t1.map (·.1)) ∧
  ∀ H' l ts, Same H H' → H l = none → H' l = some (.lst (ts.map V.ref)) → Tups H' ts (bh t1 t2 t3 z) → Q (.ref l) H'
theorem Gw.new {H0 H1 : Hp} {l t : Addr} {tab : PTab} {o : HO} (W : Gw H0 H1 l tab) (ht : H1 t = none) : Gw H0 (upd H1 t o) l tab := by
  obtain ⟨ts, e1, e2⟩ := W.out
  refine ⟨fun b u n e => ?_, ts, ?_, Tups.keep (fun b xs e => ?_) e2⟩
  · have := W.same b u n e
    rw [upd_ne (ne_of_none this ht)]
    exact this
  · rw [upd_ne (ne_of_none e1 ht)]
    exact e1
  · rw [upd_ne (ne_of_none e ht)]
    exact e
theorem Gw.push {H0 H1 : Hp} {l t : Addr} {tab : PTab} {z : Str} {i : Int} (W : Gw H0 H1 l tab) (ht : H1 t = some (.tup [.str z, .int i])) (hl : H0 t = none ∨ t ≠ l) : ∃ acc, H1 l = some (.lst acc) ∧ acc.length = tab.length ∧ Gw H0 (upd H1 l (.lst (acc ++ [.ref t]))) l (tab ++ [(z, i)]) := by
  obtain ⟨ts, e1, e2⟩ := W.out
  have nt : t ≠ l := fun e => by
    rw [e, e1] at ht
    cases ht
  refine ⟨_, e1, ?_, fun b u n e => ?_, ts ++ [t], ?_, Paired.snocP ?_ (Tups.keep (fun b xs e => ?_) e2)⟩
  · rw [List.length_map]
    exact Paired.length e2
  · rw [upd_ne n]
    exact W.same b u n e
  · rw [upd_same, List.map_append]
    rfl
  · show (upd H1 l _) t = _
    rw [upd_ne nt]
    exact ht
  · rw [upd_ne (fun z => by rw [z, e1] at e; cases e)]
    exact e
theorem cut_len (z : Str) (lo hi : Option Int) : (cutS z lo hi).length ≤ z.length := by
  show (((z.cps.toList.drop _).take _).toArray).size ≤ z.cps.size
  rw [List.size_toArray, List.length_take, List.length_drop, Array.length_toList]
  omega
theorem pre_len (z : Str) (k : Int) : (pre z k).length ≤ z.length := cut_len _ _ _
theorem post_len (z : Str) (k : Int) : (post z k).length ≤ z.length := cut_len _ _ _
theorem app_len (x y : Str) : (x ++ y).length = x.length + y.length := by
  rw [len_cs, cs_append, List.length_append, ← len_cs, ← len_cs]
theorem bhS_len (t3 : STab) (w : Str) (i : Nat) (s : Str) : (bhS t3 w i s).length ≤ 1 := by
  unfold bhS
  split <;> simp
section
variable {P : Program} {w : World} {K : PySem.W.Frag} {mg : Str → Option Value} {base : Heap}
theorem scBeh : FnScope nBeh ["_law_tables_here", "_law_word"] (defScope sBeh) := ⟨rfl, rfl, rfl, by decide +kernel, rfl, by decide +kernel, by decide +kernel⟩
theorem ok_beh {f : Addr} {fd : FuncData} (F : Fun K "_law_behind" "_law_behind" sBeh f fd) (B : Bn mg) : FnOk P w K mg base CX0 1 f fd ["_law_tables_here", "_law_word"] spBeh := by
  refine F.ok scBeh (fun vs H Q E h => ?_) (fun cdv A outer s H vs Q E hr h => ?_)
  · obtain ⟨L, a, b, c, t1, t2, t3, z, rfl, _⟩ := h
    rfl
  · have hu := hu_of hr
    obtain ⟨L, a, b, c, t1, t2, t3, z, rfl, r, sub, hl, k1, hz, hat, q⟩ := h
    refine ⟨_, pss_cons (ps_asg (pv 0) (pg_lst rfl (pgs_cons (pg_name (i := 2) scBeh.nd rfl (.inr rfl)) (pgs_cons (pg_name (i := 3) scBeh.nd rfl (.inl rfl)) (pgs_cons (pg_name (i := 4) scBeh.nd rfl (.inl rfl)) pgs_nil)))))
      (pss_cons (ps_set (i := 5) scBeh.nd rfl (.inl rfl) (pe_lst pa_nil))
      (pss_cons (ps_for PassesOwn.never rfl (pi_range1 (by rfl) B.range (pa_cons (pe_callB call_len_str (by rfl) B.len PySem.boot_len (pa_cons (pv 1) pa_nil)) pa_nil)) (pg_name (i := 6) scBeh.nd rfl (.inr rfl))
        (pss_cons (ps_expr (pe_bm PySem.F.plainAttrs_list PySem.F.slot_list_append PySem.F.type_list_append mt_append (pv 5) (pa_cons (pe_tup (pa_cons (pe_op op_add_str (pe_slice sl_str (pv 1) po_none (po_some (pv 6))) (pe_slice sl_str (pv 1) (po_some (pe_op op_add (pv 6) pe_int)) po_none)) (pa_cons (pe_dget hu (pv 3) (pe_ix ix_str (pv 1) (pv 6) (fun _ _ => rfl)) (fun _ _ => rfl)) pa_nil))) pa_nil)))
        (pss_one (ps_lock (ps_for PassesOwn.never rfl (pi_keys (pv 2)) (pg_name (i := 7) scBeh.nd rfl (.inl rfl))
          (pss_one (ps_if (pt_cmp (pc_din hu (pe_tup (pa_cons (pe_ix ix_str (pv 1) (pv 6) (fun _ _ => rfl)) (pa_cons (pv 7) pa_nil))) (pv 4)))
            (pss_one (ps_expr (pe_bm PySem.F.plainAttrs_list PySem.F.slot_list_append PySem.F.type_list_append mt_append (pv 5) (pa_cons (pe_tup (pa_cons (pe_op op_add_str (pe_op op_add_str (pe_slice sl_str (pv 1) po_none (po_some (pv 6))) (pv 7)) (pe_slice sl_str (pv 1) (po_some (pe_op op_add (pv 6) pe_int)) po_none)) (pa_cons (pe_dget hu (pv 4) (pe_tup (pa_cons (pe_ix ix_str (pv 1) (pv 6) (fun _ _ => rfl)) (pa_cons (pv 7) pa_nil))) (fun _ _ => rfl)) pa_nil))) pa_nil)))) pss_nil)))))))
      (pss_cons (ps_for PassesOwn.never rfl (pi_range1 (by rfl) B.range (pa_cons (pe_op op_mul (pe_op op_add (pe_callB call_len_str (by rfl) B.len PySem.boot_len (pa_cons (pv 1) pa_nil)) pe_int) (pe_callTy call_int1 (by rfl) B.int (by decide +kernel) (pa_cons (pe_cmpR op_lt (pe_callB call_len_str (by rfl) B.len PySem.boot_len (pa_cons (pv 1) pa_nil)) pe_int (nomark _)) pa_nil))) pa_nil)) (pg_name (i := 6) scBeh.nd rfl (.inr rfl))
        (pss_one (ps_expr (pe_bm PySem.F.plainAttrs_list PySem.F.slot_list_extend PySem.F.type_list_extend mt_extend (pv 5) (pa_cons (pe_lock (pe_lc (own := [("_law_sign", 7)]) (g := gName 7) (tt := tYes) rfl scBeh.nd (pi_keys (pv 2)) (blkOk_by (N := nBeh) (sc := defScope sBeh) (by decide +kernel))
          (fun _ _ _ _ _ => pg_name (i := 7) scBeh.nd rfl (Or.inl rfl)) (fun _ _ _ _ _ => pts_nil)
          (fun _ _ _ _ _ => pe_tup (pa_cons (pe_op op_add_str (pe_op op_add_str (pe_slice sl_str (pv 1) po_none (po_some (pv 6))) (pv 7)) (pe_slice sl_str (pv 1) (po_some (pv 6)) po_none)) (pa_cons (pe_dget hu (pv 2) (pv 7) (fun _ _ => rfl)) pa_nil))))) pa_nil)))))
      (pss_one (ps_ret (pv 5)))))), ?_⟩
    have nar : ∀ {n : Nat}, n ≤ 1000 → n ≤ sizeLine := fun h1 => by rw [sizeLine_eq]; omega
    have lt1 : ∀ {n : Nat}, n ≤ 1000 → n < sizeLine := fun h1 => by rw [sizeLine_eq]; omega
    have n2 : 2 ≤ sizeLine := by decide
    have zl : z.length ≤ sizeLine := nar (by omega)
    refine ⟨_, rfl, L, _, rfl, SqL.of r.l, rfl, _, _, rfl, _, _, rfl, _, _, rfl, rfl, ?_⟩
    refine ⟨nar (by decide), fun l hl0 => ?_⟩
    have s0 : Same H (upd H l (.lst [])) := Same.new hl0
    have al : a ≠ l := ne_of_none r.t.p hl0
    have bl : b ≠ l := ne_of_none r.t.o hl0
    have cl : c ≠ l := ne_of_none r.t.s hl0
    have ea := s0 _ _ r.t.p
    have eb := s0 _ _ r.t.o
    have ec := s0 _ _ r.t.s
    have el : (upd H l (.lst [])) l = some (.lst []) := upd_same
    have ab : a ≠ c := ne_of r.t.p r.t.s (fun z => nomatch z)
    generalize upd H l (.lst []) = H0 at s0 ea eb ec el ⊢
    refine ⟨_, rfl, z, rfl, zl, _, rfl, by omega, by omega, ?_⟩
    have fst : ∀ i : Nat, (List.range (i + 1)).flatMap (bhA t1 t2 t3 z) = (List.range i).flatMap (bhA t1 t2 t3 z) ++ bhA t1 t2 t3 z i := fun i => by
      rw [List.range_succ, List.flatMap_append]
      simp
    have lenS : ∀ (i : Nat) (ks : List Str), (ks.flatMap (bhS t3 z i)).length ≤ ks.length * 1 := fun i ks => flat_len (bhS t3 z i) 1 (fun s => bhS_len t3 z i s) ks
    have lenA : ∀ i : Nat, (bhA t1 t2 t3 z i).length ≤ 6 := fun i => by
      unfold bhA
      rw [List.length_cons]
      have := lenS i (t1.map (·.1))
      rw [List.length_map] at this
      omega
    have lenF : ∀ n : Nat, ((List.range n).flatMap (bhA t1 t2 t3 z)).length ≤ n * 6 := fun n => by
      have := flat_len (bhA t1 t2 t3 z) 6 lenA (List.range n)
      rwa [List.length_range] at this
    refine for_range (lo := 0) (n := Int.toNat _) (fun i σ H1 => (∃ o1 o2, σ = [some (.ref L), some (.str z), some (.ref a), some (.ref b), some (.ref c), some (.ref l), o1, o2]) ∧ Gw H0 H1 l ((List.range i).flatMap (bhA t1 t2 t3 z))) ?_ ?_ ?_
    · exact ⟨⟨_, _, rfl⟩, fun b u _ e => e, [], el, .nil⟩
    · rintro i σ H1 hi ⟨⟨o1, o2, rfl⟩, W⟩
      have hi : i < z.length := by simpa using hi
      rw [Int.zero_add, fst]
      have lF := lenF i
      generalize (List.range i).flatMap (bhA t1 t2 t3 z) = T at W lF ⊢
      have ic : (cs z)[i]? = some ((cs z).getD i 0) := by
        have h : i < (cs z).length := by rw [← len_cs]; exact hi
        rw [List.getElem?_eq_getElem h, List.getD_eq_getElem?_getD, List.getElem?_eq_getElem h]
        rfl
      have m2 := sub _ (hat i hi)
      obtain ⟨ts, g1, g2⟩ := W.out
      have p1 := pre_len z (i : Int)
      have p2 := post_len z ((i : Int) + 1)
      refine ⟨_, rfl, .inl ⟨rfl, _, SqL.of g1⟩, _, rfl, _, rfl, _, rfl, z, rfl, zl, ?_⟩
      refine ⟨_, rfl, _, rfl, _, _, rfl, rfl, _, rfl, z, rfl, zl, pre z (i : Int), post z ((i : Int) + 1), rfl, rfl, nar (by omega), ?_⟩
      refine ⟨_, rfl, _, rfl, _, rfl, z, (i : Int), _, rfl, rfl, zl, atI_nat ic, b, _, rfl, getP (.inl (W.same _ _ bl eb)) m2, n2, fun t ht => ?_⟩
      obtain ⟨acc, q1, q2, W2⟩ := (W.new (o := .tup [.str (pre z (i : Int) ++ post z ((i : Int) + 1)), .int (look t2 (sgAt z i))]) ht).push upd_same (.inr fun e => by
        rw [e, g1] at ht
        cases ht)
      refine ⟨l, acc, _, rfl, rfl, q1, lt1 (by rw [q2]; omega), ?_⟩
      have n1 : bhA t1 t2 t3 z i = [(pre z (i : Int) ++ post z ((i : Int) + 1), look t2 (sgAt z i))] ++ (t1.map (·.1)).flatMap (bhS t3 z i) := rfl
      rw [n1, ← List.append_assoc]
      have lT2 : (T ++ [(pre z (i : Int) ++ post z ((i : Int) + 1), look t2 (sgAt z i))]).length ≤ 20 := by
        rw [List.length_append, List.length_singleton]
        omega
      generalize T ++ [(pre z (i : Int) ++ post z ((i : Int) + 1), look t2 (sgAt z i))] = T2 at W2 lT2 ⊢
      generalize upd (upd H1 t (.tup [.str (pre z (i : Int) ++ post z ((i : Int) + 1)), .int (look t2 (sgAt z i))])) l (.lst (acc ++ [.ref t])) = H2 at W2 ⊢
      clear W g1 g2 q1 q2 ht lF n1
      have ea2 := W2.same _ _ al ea
      refine ⟨a, _, ea2, trivial, fun od => ⟨_, rfl, a, od, rfl, .inl ⟨kvsP t1, upd_same, ?_⟩⟩⟩
      have hL : ∀ b u, b ≠ a → H2 b = some u → (upd H2 a (.frz od (.dK (kvsP t1)))) b = some u := fun b u n e => by
        rw [upd_ne n]
        exact e
      have ep : (upd H2 a (.frz od (.dK (kvsP t1)))) a = some (.frz od (.dK (kvsP t1))) := upd_same
      obtain ⟨ts2, g1, g2⟩ := W2.out
      have W3 : Gw (upd H2 a (.frz od (.dK (kvsP t1)))) (upd H2 a (.frz od (.dK (kvsP t1)))) l T2 := ⟨fun b u _ e => e, ts2, hL _ _ al.symm g1, Tups.keep (fun b xs e => hL b _ (fun z => by rw [z, ea2] at e; cases e) e) g2⟩
      have ec2 := hL c _ ab.symm (W2.same _ _ cl ec)
      refine for_it (walk_keys (d := a) (o := od) (kvs := kvsP t1)) (fun j σ H3 => (∃ o2, σ = [some (.ref L), some (.str z), some (.ref a), some (.ref b), some (.ref c), some (.ref l), some (.int i), o2]) ∧ Gw (upd H2 a (.frz od (.dK (kvsP t1)))) H3 l (T2 ++ ((t1.map (·.1)).take j).flatMap (bhS t3 z i))) ?_ (fun j σ H3 _ h3 => h3.2.same _ _ al ep) ?_ ?_
      · refine ⟨⟨_, rfl⟩, ?_⟩
        rw [List.take_zero, List.flatMap_nil, List.append_nil]
        exact W3
      · rintro j x σ H3 H4 hj ⟨⟨o3, rfl⟩, W4⟩ ⟨rfl, k, vv, hx, rfl⟩
        have hj2 : j < t1.length := by rwa [kvsP_len] at hj
        rw [kvsP_at hj2] at hx
        cases hx
        rw [show kV (Sum.inr t1[j].1 : Key) = V.str t1[j].1 from rfl]
        have hj3 : j < (t1.map (·.1)).length := by rwa [List.length_map]
        have nx : T2 ++ ((t1.map (·.1)).take (j + 1)).flatMap (bhS t3 z i) = (T2 ++ ((t1.map (·.1)).take j).flatMap (bhS t3 z i)) ++ bhS t3 z i t1[j].1 := by
          have e : (t1.map (·.1))[j] = t1[j].1 := List.getElem_map _
          rw [List.take_add_one, List.getElem?_eq_getElem hj3, List.flatMap_append, e, List.append_assoc]
          simp
        have lT3 : (T2 ++ ((t1.map (·.1)).take j).flatMap (bhS t3 z i)).length ≤ 30 := by
          have := lenS i ((t1.map (·.1)).take j)
          rw [List.length_take, List.length_map] at this
          rw [List.length_append]
          omega
        rw [nx]
        generalize T2 ++ ((t1.map (·.1)).take j).flatMap (bhS t3 z i) = T3 at W4 lT3 ⊢
        have ks := k1 t1[j].1 (List.mem_map.mpr ⟨_, List.getElem_mem hj2, rfl⟩)
        generalize t1[j].1 = sg at ks ⊢
        clear nx hj hj2 hj3
        refine ⟨_, rfl, _, rfl, z, (i : Int), _, rfl, rfl, zl, atI_nat ic, _, rfl, n2, fun u hu0 => ?_⟩
        have W5 := W4.new (o := .tup [.str (sgAt z i), .str sg]) hu0
        have ec5 := W5.same _ _ cl ec2
        refine ⟨_, rfl, c, _, rfl, .inr ⟨kvsS t3, keyOf (sgAt z i, sg), u, .inl ec5, rfl, upd_same, rfl⟩, _, rfl, ?_⟩
        unfold bhS
        by_cases m : (sgAt z i, sg) ∈ t3.map (·.1)
        · rw [valS m, if_pos m]
          refine iteT ?_
          obtain ⟨ts5, g5, _⟩ := W5.out
          refine ⟨_, rfl, .inl ⟨rfl, _, SqL.of g5⟩, _, rfl, _, rfl, _, rfl, z, rfl, zl, _, rfl, pre z (i : Int), sg, rfl, rfl, nar (by omega), ?_⟩
          refine ⟨_, rfl, _, rfl, _, _, rfl, rfl, _, rfl, z, rfl, zl, pre z (i : Int) ++ sg, post z ((i : Int) + 1), rfl, rfl, nar (by rw [app_len]; omega), ?_⟩
          refine ⟨_, rfl, _, rfl, _, rfl, z, (i : Int), _, rfl, rfl, zl, atI_nat ic, _, rfl, n2, fun u2 hu2 => ?_⟩
          have W6 := W5.new (o := .tup [.str (sgAt z i), .str sg]) hu2
          refine ⟨c, _, rfl, .inr ⟨kvsS t3, keyOf (sgAt z i, sg), u2, .inl (W6.same _ _ cl ec2), rfl, upd_same, (valS m).symm⟩, n2, fun u3 hu3 => ?_⟩
          obtain ⟨ts6, g6, _⟩ := W6.out
          obtain ⟨acc, q1, q2, W7⟩ := (W6.new (o := .tup [.str (pre z (i : Int) ++ sg ++ post z ((i : Int) + 1)), .int (look t3 (sgAt z i, sg))]) hu3).push upd_same (.inr fun e => by
            rw [e, g6] at hu3
            cases hu3)
          exact ⟨l, acc, _, rfl, rfl, q1, lt1 (by rw [q2]; omega), ⟨_, rfl⟩, W7⟩
        · rw [noS m, if_neg m, List.append_nil]
          exact iteF ⟨⟨_, rfl⟩, W5⟩
      · rintro σ H3 ⟨⟨o3, rfl⟩, W4⟩
        rw [kvsP_len, ← List.length_map (f := fun x : Str × Int => x.1), List.take_length] at W4
        obtain ⟨ts4, g4, h4⟩ := W4.out
        refine ⟨W4.same _ _ al ep, ⟨_, _, rfl⟩, fun b0 u0 n0 e0 => ?_, ts4, ?_, Tups.keep (fun b0 xs e0 => ?_) h4⟩
        · by_cases hb : b0 = a
          · subst hb
            have := W2.same _ _ al e0
            rw [ea] at e0
            cases e0
            exact upd_same
          · rw [upd_ne hb]
            exact W4.same _ _ n0 (hL _ _ hb (W2.same _ _ n0 e0))
        · rw [upd_ne al.symm]
          exact g4
        · rw [upd_ne (fun z => by rw [z, W4.same _ _ al ep] at e0; cases e0)]
          exact e0
    · rintro σ H1 ⟨⟨o1, o2, rfl⟩, W⟩
      have eN : ((z.length : Nat) : Int).toNat = z.length := by omega
      rw [eN] at W
      have lF := lenF z.length
      refine ⟨_, rfl, z, rfl, zl, _, _, rfl, rfl, _, rfl, z, rfl, zl, _, _, rfl, rfl, .inr ⟨_, rfl, _, _, rfl, rfl, .inl ⟨by omega, by omega⟩, _, rfl, ?_⟩⟩
      have eP : (((z.length : Nat) : Int) + 1) * (if decide (((z.length : Nat) : Int) < 2) = true then 1 else 0) = (nPut z : Nat) := by
        unfold nPut
        by_cases h : z.length < 2
        · rw [if_pos h, if_pos (decide_eq_true (by omega))]
          omega
        · rw [if_neg h, if_neg (by rw [decide_eq_true_iff]; omega)]
          omega
      have lP : nPut z ≤ 3 := by
        unfold nPut
        split <;> omega
      rw [eP]
      refine ⟨by omega, by omega, ?_⟩
      have eN2 : ((nPut z : Nat) : Int).toNat = nPut z := by omega
      have q : ∀ H' l ts, Same H H' → H l = none → H' l = some (.lst (ts.map V.ref)) → Tups H' ts ((List.range z.length).flatMap (bhA t1 t2 t3 z) ++ (List.range (nPut z)).flatMap (bhB t1 z)) → Q (.ref l) H' := q
      generalize (List.range z.length).flatMap (bhA t1 t2 t3 z) = T at W lF q
      rw [eN2]
      refine for_range (lo := 0) (n := nPut z) (fun i σ H1 => (∃ o1 o2, σ = [some (.ref L), some (.str z), some (.ref a), some (.ref b), some (.ref c), some (.ref l), o1, o2]) ∧ Gw H0 H1 l (T ++ (List.range i).flatMap (bhB t1 z))) ?_ ?_ ?_
      · refine ⟨⟨_, _, rfl⟩, ?_⟩
        rw [List.range_zero, List.flatMap_nil, List.append_nil]
        exact W
      · rintro i σ H2 hi ⟨⟨o3, o4, rfl⟩, W2⟩
        rw [Int.zero_add]
        have nx : T ++ (List.range (i + 1)).flatMap (bhB t1 z) = (T ++ (List.range i).flatMap (bhB t1 z)) ++ bhB t1 z i := by
          rw [List.range_succ, List.flatMap_append, List.append_assoc]
          simp
        have lB : ∀ i, (bhB t1 z i).length ≤ 5 := fun i => by
          unfold bhB
          rw [List.length_map, List.length_map]
          exact hl
        have lT2 : (T ++ (List.range i).flatMap (bhB t1 z)).length ≤ 30 := by
          have := flat_len (bhB t1 z) 5 lB (List.range i)
          rw [List.length_range] at this
          rw [List.length_append]
          omega
        rw [nx]
        generalize T ++ (List.range i).flatMap (bhB t1 z) = T2 at W2 lT2 ⊢
        obtain ⟨ts, g1, g2⟩ := W2.out
        have p1 := pre_len z (i : Int)
        have p2 := post_len z (i : Int)
        have ea2 := W2.same _ _ al ea
        refine ⟨_, rfl, .inl ⟨rfl, _, SqL.of g1⟩, a, _, ea2, trivial, fun od => ⟨_, rfl, a, od, rfl, .inl ⟨kvsP t1, upd_same, fun D hD => ?_⟩⟩⟩
        have hL : ∀ b u, b ≠ a → H2 b = some u → (upd H2 a (.frz od (.dK (kvsP t1)))) b = some u := fun b u n e => by
          rw [upd_ne n]
          exact e
        have ep : (upd H2 a (.frz od (.dK (kvsP t1)))) a = some (.frz od (.dK (kvsP t1))) := upd_same
        have Da : D ≠ a := (ne_of_none ep hD).symm
        have D0 : H2 D = none := by rwa [upd_ne Da] at hD
        generalize upd H2 a (.frz od (.dK (kvsP t1))) = HL at hL ep hD ⊢
        refine lc_it (walk_keys (d := a) (o := od) (kvs := kvsP t1)) (fun j H3 => Gw HL H3 D (((t1.map (·.1)).take j).map fun s => (pre z (i : Int) ++ s ++ post z (i : Int), look t1 s))) ?_ (fun j H3 _ h3 => h3.same _ _ Da.symm ep) ?_ ?_
        · refine ⟨fun b0 u n e => ?_, [], upd_same, ?_⟩
          · rw [upd_ne n]
            exact e
          · rw [List.take_zero]
            exact .nil
        · rintro j x H3 H4 hj W3 ⟨rfl, k, vv, hx, rfl⟩
          have hj2 : j < t1.length := by rwa [kvsP_len] at hj
          rw [kvsP_at hj2] at hx
          cases hx
          rw [show kV (Sum.inr t1[j].1 : Key) = V.str t1[j].1 from rfl]
          have mk : t1[j].1 ∈ t1.map (·.1) := List.mem_map.mpr ⟨_, List.getElem_mem hj2, rfl⟩
          have hj3 : j < (t1.map (·.1)).length := by rwa [List.length_map]
          have nx2 : ((t1.map (·.1)).take (j + 1)).map (fun s => (pre z (i : Int) ++ s ++ post z (i : Int), look t1 s)) = ((t1.map (·.1)).take j).map (fun s => (pre z (i : Int) ++ s ++ post z (i : Int), look t1 s)) ++ [(pre z (i : Int) ++ t1[j].1 ++ post z (i : Int), look t1 t1[j].1)] := by
            have e : (t1.map (·.1))[j] = t1[j].1 := List.getElem_map _
            rw [List.take_add_one, List.getElem?_eq_getElem hj3, List.map_append, e]
            rfl
          rw [nx2]
          have ks := k1 _ mk
          have l3 : (((t1.map (·.1)).take j).map fun s => (pre z (i : Int) ++ s ++ post z (i : Int), look t1 s)).length ≤ 5 := by
            rw [List.length_map, List.length_take, List.length_map]
            omega
          generalize ((t1.map (·.1)).take j).map (fun s => (pre z (i : Int) ++ s ++ post z (i : Int), look t1 s)) = T3 at W3 l3 ⊢
          refine ⟨rfl, _, rfl, _, rfl, _, rfl, z, rfl, zl, _, rfl, pre z (i : Int), t1[j].1, rfl, rfl, nar (by omega), ?_⟩
          refine ⟨_, rfl, _, rfl, _, rfl, z, rfl, zl, pre z (i : Int) ++ t1[j].1, post z (i : Int), rfl, rfl, nar (by rw [app_len]; omega), ?_⟩
          refine ⟨_, rfl, _, rfl, a, _, rfl, getP (.inr ⟨od, W3.same _ _ Da.symm ep⟩) mk, n2, fun u hu0 => ?_⟩
          obtain ⟨ts6, g6, _⟩ := W3.out
          obtain ⟨acc, q1, q2, W4⟩ := (W3.new (o := .tup [.str (pre z (i : Int) ++ t1[j].1 ++ post z (i : Int)), .int (look t1 t1[j].1)]) hu0).push upd_same (.inr fun e => by
            rw [e, g6] at hu0
            cases hu0)
          exact ⟨acc, q1, lt1 (by rw [q2]; omega), W4⟩
        · rintro H3 W3
          rw [kvsP_len, ← List.length_map (f := fun x : Str × Int => x.1), List.take_length] at W3
          have W3 : Gw HL H3 D (bhB t1 z i) := W3
          obtain ⟨ts3, e3, h3⟩ := W3.out
          have el3 := W3.same l _ (fun e => by rw [e, D0] at g1; cases g1) (hL _ _ al.symm g1)
          have lD : l ≠ D := fun e => by rw [e, D0] at g1; cases g1
          have q5 : (upd H3 a (.dK (kvsP t1))) l = some (.lst (ts.map V.ref)) := by rw [upd_ne al.symm]; exact el3
          have q6 : (upd H3 a (.dK (kvsP t1))) D = some (.lst (ts3.map V.ref)) := by rw [upd_ne Da]; exact e3
          have lts : ts.length = T2.length := Paired.length g2
          have lts3 : ts3.length = (bhB t1 z i).length := Paired.length h3
          have := lB i
          refine ⟨W3.same _ _ Da.symm ep, l, D, _, _, rfl, rfl, q5, q6, nar (by rw [List.length_map, List.length_map]; omega), ⟨_, _, rfl⟩, fun b0 u0 n0 e0 => ?_, ts ++ ts3, ?_, ?_⟩
          · rw [upd_ne n0]
            by_cases hb : b0 = a
            · subst hb
              rw [ea] at e0
              cases e0
              exact upd_same
            · rw [upd_ne hb]
              have e2 := W2.same _ _ n0 e0
              exact W3.same _ _ (fun e => by rw [e, D0] at e2; cases e2) (hL _ _ hb e2)
          · rw [upd_same, List.map_append]
          · have keep : ∀ b0 xs, H3 b0 = some (.tup xs) → (upd (upd H3 a (.dK (kvsP t1))) l (.lst (ts.map V.ref ++ ts3.map V.ref))) b0 = some (.tup xs) := fun b0 xs e => by
              have n1 : b0 ≠ l := fun z => by rw [z, el3] at e; cases e
              have n2 : b0 ≠ a := fun z => by rw [z, W3.same _ _ Da.symm ep] at e; cases e
              rw [upd_ne n1, upd_ne n2]
              exact e
            refine Paired.appendP (Tups.keep keep (Tups.keep (fun b0 xs e => ?_) g2)) (Tups.keep keep h3)
            have n1 : b0 ≠ a := fun z => by rw [z, ea2] at e; cases e
            exact W3.same _ _ (fun z => by rw [z, D0] at e; cases e) (hL _ _ n1 e)
      · rintro σ H2 ⟨⟨o3, o4, rfl⟩, W2⟩
        obtain ⟨ts, g1, g2⟩ := W2.out
        refine ⟨_, rfl, q _ l ts (fun b0 u0 e0 => W2.same _ _ (ne_of_none e0 hl0) (s0 _ _ e0)) hl0 g1 g2⟩
end
end Mk

set_option Elab.async false
set_option linter.all false
/-! least costs by rounds -/
namespace Mk
section
variable {α : Type} [DecidableEq α]
abbrev Tab (α : Type) := List (α × Int)
abbrev Stps (α : Type) := List (α × Tab α)
def better (f : Tab α) (z : α) (e : α × Int) : Prop := e.1 ∉ f.map (·.1) ∨ look f z + e.2 < look f e.1
instance (f : Tab α) (z : α) (e : α × Int) : Decidable (better f z e) := by unfold better; infer_instance
def rlxB (s : Tab α × Bool) (z : α) (e : α × Int) : Tab α × Bool := if better s.1 z e then (setT s.1 e.1 (look s.1 z + e.2), true) else s
def rowB (s : Tab α × Bool) (st : α × Tab α) : Tab α × Bool := if st.1 ∈ s.1.map (·.1) then st.2.foldl (fun s e => rlxB s st.1 e) s else s
def rndB (steps : Stps α) (f : Tab α) : Tab α × Bool := steps.foldl rowB (f, false)
def rounds (steps : Stps α) : Nat → Tab α → Tab α
  | 0, f => f
  | n + 1, f => if (rndB steps f).2 = true then rounds steps n (rndB steps f).1 else (rndB steps f).1
/-! walks -/
def Edge (steps : Stps α) (z y : α) (p : Int) : Prop := ∃ es, (z, es) ∈ steps ∧ (y, p) ∈ es
inductive Wkl (steps : Stps α) (w : α) : List α → α → Int → Prop
  | nil : Wkl steps w [] w 0
  | snoc {l : List α} {z y : α} {c p : Int} : Wkl steps w l z c → Edge steps z y p → Wkl steps w (z :: l) y (c + p)
theorem Wkl.cut {steps : Stps α} {w : α} (hp : ∀ z y p, Edge steps z y p → 0 ≤ p) : ∀ {l : List α} {x : α} {c : Int}, Wkl steps w l x c → ∀ y ∈ l, ∃ l' c', Wkl steps w l' y c' ∧ c' ≤ c ∧ (y :: l').Sublist l
  | _, _, _, .snoc (l := l) (z := z) (c := c) (p := p) h e, y, m => by
    have p0 := hp _ _ _ e
    rcases List.mem_cons.mp m with rfl | m
    · exact ⟨l, c, h, by omega, List.Sublist.refl _⟩
    · obtain ⟨l', c', a, b, s⟩ := Wkl.cut hp h y m
      exact ⟨l', c', a, by omega, s.cons _⟩
theorem Wkl.short {steps : Stps α} {w : α} (hp : ∀ z y p, Edge steps z y p → 0 ≤ p) : ∀ {l : List α} {x : α} {c : Int}, Wkl steps w l x c → ∃ l' c', Wkl steps w l' x c' ∧ c' ≤ c ∧ (x :: l').Nodup
  | _, _, _, .nil => ⟨[], 0, .nil, Int.le_refl _, by simp⟩
  | _, y, _, .snoc (z := z) (c := c) (p := p) h e => by
    have p0 := hp _ _ _ e
    obtain ⟨l', c', a, b, n⟩ := Wkl.short hp h
    by_cases m : y ∈ z :: l'
    · rcases List.mem_cons.mp m with rfl | m
      · exact ⟨l', c', a, by omega, n⟩
      · obtain ⟨l2, c2, a2, b2, s⟩ := a.cut hp y m
        exact ⟨l2, c2, a2, by omega, (List.nodup_cons.mp n).2.sublist s⟩
    · exact ⟨z :: l', c' + p, a.snoc e, by omega, List.nodup_cons.mpr ⟨m, n⟩⟩
theorem Wkl.from {steps : Stps α} {w : α} : ∀ {l : List α} {x : α} {c : Int}, Wkl steps w l x c → ∀ y ∈ l, y ∈ steps.map (·.1)
  | _, _, _, .snoc h e, y, m => by
    rcases List.mem_cons.mp m with rfl | m
    · obtain ⟨es, h1, _⟩ := e
      exact List.mem_map.mpr ⟨_, h1, rfl⟩
    · exact Wkl.from h y m
theorem Wkl.few {steps : Stps α} {w : α} (hp : ∀ z y p, Edge steps z y p → 0 ≤ p) {l : List α} {x : α} {c : Int} (h : Wkl steps w l x c) : ∃ l' c', Wkl steps w l' x c' ∧ c' ≤ c ∧ l'.length ≤ steps.length := by
  obtain ⟨l', c', a, b, n⟩ := h.short hp
  refine ⟨l', c', a, b, ?_⟩
  have := (List.nodup_cons.mp n).2.length_le_of_subset (l₂ := steps.map (·.1)) fun y hy => a.from y hy
  rwa [List.length_map] at this
/-! what a round does -/
/-- g is at least as good as f -/
def Bet (f g : Tab α) : Prop := ∀ k ∈ f.map (·.1), k ∈ g.map (·.1) ∧ look g k ≤ look f k
theorem Bet.refl (f : Tab α) : Bet f f := fun _ h => ⟨h, Int.le_refl _⟩
theorem Bet.trans {f g h : Tab α} (a : Bet f g) (b : Bet g h) : Bet f h := fun k hk => by
  obtain ⟨a1, a2⟩ := a k hk
  obtain ⟨b1, b2⟩ := b k a1
  exact ⟨b1, Int.le_trans b2 a2⟩
theorem rlx_bet (s : Tab α × Bool) (z : α) (e : α × Int) : Bet s.1 (rlxB s z e).1 := by
  unfold rlxB
  by_cases c : better s.1 z e
  · rw [if_pos c]
    intro k hk
    refine ⟨(keys_setT _ _ _ _).mpr (.inl hk), ?_⟩
    show look (setT s.1 e.1 (look s.1 z + e.2)) k ≤ look s.1 k
    rw [look_setT]
    by_cases q : k = e.1
    · rw [if_pos q]
      rcases c with c | c
      · rw [q] at hk
        exact absurd hk c
      · rw [q]
        omega
    · rw [if_neg q]
      exact Int.le_refl _
  · rw [if_neg c]
    exact Bet.refl _
theorem rlx_done (s : Tab α × Bool) (z : α) (e : α × Int) : e.1 ∈ (rlxB s z e).1.map (·.1) ∧ look (rlxB s z e).1 e.1 ≤ look s.1 z + e.2 := by
  unfold rlxB
  by_cases c : better s.1 z e
  · rw [if_pos c]
    refine ⟨(keys_setT _ _ _ _).mpr (.inr rfl), ?_⟩
    show look (setT s.1 e.1 (look s.1 z + e.2)) e.1 ≤ _
    rw [look_setT, if_pos rfl]
    exact Int.le_refl _
  · rw [if_neg c]
    unfold better at c
    by_cases m : e.1 ∈ s.1.map (·.1)
    · refine ⟨m, ?_⟩
      by_cases l : look s.1 z + e.2 < look s.1 e.1
      · exact absurd (.inr l) c
      · omega
    · exact absurd (.inl m) c
theorem rlx_flag (s : Tab α × Bool) (z : α) (e : α × Int) : (rlxB s z e).2 = false → s.2 = false ∧ (rlxB s z e).1 = s.1 := by
  unfold rlxB
  by_cases c : better s.1 z e
  · rw [if_pos c]
    intro h
    cases h
  · rw [if_neg c]
    exact fun h => ⟨h, rfl⟩
theorem fold_bet (z : α) : ∀ (es : Tab α) (s : Tab α × Bool), Bet s.1 (es.foldl (fun s e => rlxB s z e) s).1
  | [], s => Bet.refl _
  | e :: es, s => (rlx_bet s z e).trans (fold_bet z es _)
theorem fold_done (z : α) : ∀ (es : Tab α) (s : Tab α × Bool), z ∈ s.1.map (·.1) → ∀ e ∈ es, e.1 ∈ (es.foldl (fun s e => rlxB s z e) s).1.map (·.1) ∧ look (es.foldl (fun s e => rlxB s z e) s).1 e.1 ≤ look s.1 z + e.2
  | e0 :: es, s, hz, e, m => by
    rw [List.foldl_cons]
    rcases List.mem_cons.mp m with rfl | m
    · obtain ⟨a, b⟩ := rlx_done s z e
      obtain ⟨c, d⟩ := fold_bet z es (rlxB s z e) e.1 a
      exact ⟨c, Int.le_trans d b⟩
    · obtain ⟨a, b⟩ := rlx_bet s z e0 z hz
      obtain ⟨c, d⟩ := fold_done z es (rlxB s z e0) a e m
      exact ⟨c, by omega⟩
theorem fold_flag (z : α) : ∀ (es : Tab α) (s : Tab α × Bool), (es.foldl (fun s e => rlxB s z e) s).2 = false → s.2 = false ∧ (es.foldl (fun s e => rlxB s z e) s).1 = s.1
  | [], s, h => ⟨h, rfl⟩
  | e :: es, s, h => by
    rw [List.foldl_cons] at h ⊢
    obtain ⟨a, b⟩ := fold_flag z es _ h
    obtain ⟨c, d⟩ := rlx_flag s z e a
    exact ⟨c, b.trans d⟩
theorem row_bet (s : Tab α × Bool) (st : α × Tab α) : Bet s.1 (rowB s st).1 := by
  unfold rowB
  split
  · exact fold_bet _ _ _
  · exact Bet.refl _
theorem row_flag (s : Tab α × Bool) (st : α × Tab α) : (rowB s st).2 = false → s.2 = false ∧ (rowB s st).1 = s.1 := by
  unfold rowB
  split
  · exact fold_flag _ _ _
  · exact fun h => ⟨h, rfl⟩
theorem rows_bet : ∀ (steps : Stps α) (s : Tab α × Bool), Bet s.1 (steps.foldl rowB s).1
  | [], s => Bet.refl _
  | st :: steps, s => (row_bet s st).trans (rows_bet steps _)
theorem rows_flag : ∀ (steps : Stps α) (s : Tab α × Bool), (steps.foldl rowB s).2 = false → s.2 = false ∧ (steps.foldl rowB s).1 = s.1
  | [], s, h => ⟨h, rfl⟩
  | st :: steps, s, h => by
    rw [List.foldl_cons] at h ⊢
    obtain ⟨a, b⟩ := rows_flag steps _ h
    obtain ⟨c, d⟩ := row_flag s st a
    exact ⟨c, b.trans d⟩
theorem rows_done : ∀ (steps : Stps α) (s : Tab α × Bool) (z y : α) (p : Int), Edge steps z y p → z ∈ s.1.map (·.1) → y ∈ (steps.foldl rowB s).1.map (·.1) ∧ look (steps.foldl rowB s).1 y ≤ look s.1 z + p
  | [], _, _, _, _, ⟨_, h, _⟩, _ => nomatch h
  | st :: steps, s, z, y, p, ⟨es, h, he⟩, hz => by
    rw [List.foldl_cons]
    rcases List.mem_cons.mp h with rfl | h
    · have e : rowB s (z, es) = es.foldl (fun s e => rlxB s z e) s := by
        unfold rowB
        rw [if_pos hz]
      rw [e]
      obtain ⟨a, b⟩ := fold_done z es s hz (y, p) he
      obtain ⟨c, d⟩ := rows_bet steps (es.foldl (fun s e => rlxB s z e) s) y a
      exact ⟨c, Int.le_trans d b⟩
    · obtain ⟨a, b⟩ := row_bet s st z hz
      obtain ⟨c, d⟩ := rows_done steps (rowB s st) z y p ⟨es, h, he⟩ a
      exact ⟨c, by omega⟩
/-- no edge leads to anything better -/
def Shut (steps : Stps α) (f : Tab α) : Prop := ∀ z y p, Edge steps z y p → z ∈ f.map (·.1) → y ∈ f.map (·.1) ∧ look f y ≤ look f z + p
theorem shut_of {steps : Stps α} {f : Tab α} (h : (rndB steps f).2 = false) : Shut steps (rndB steps f).1 := by
  obtain ⟨_, b⟩ := rows_flag steps (f, false) h
  have b : (rndB steps f).1 = f := b
  intro z y p e hz
  rw [b] at hz ⊢
  have := rows_done steps (f, false) z y p e hz
  have b' : (steps.foldl rowB (f, false)).1 = f := b
  rw [b'] at this
  exact this
/-- all walks of at most k edges are reckoned -/
def Upto (steps : Stps α) (w : α) (k : Nat) (f : Tab α) : Prop := ∀ l x c, Wkl steps w l x c → l.length ≤ k → x ∈ f.map (·.1) ∧ look f x ≤ c
theorem upto_next {steps : Stps α} {w : α} {k : Nat} {f : Tab α} (h : Upto steps w k f) (hw : w ∈ f.map (·.1)) (h0 : look f w ≤ 0) : Upto steps w (k + 1) (rndB steps f).1 := by
  intro l x c W hl
  cases W with
  | nil =>
    obtain ⟨a, b⟩ := rows_bet steps (f, false) w hw
    exact ⟨a, Int.le_trans b h0⟩
  | @snoc l z _ c p W e =>
    obtain ⟨a, b⟩ := h l z c W (by simpa using hl)
    obtain ⟨c1, d⟩ := rows_done steps (f, false) z x p e a
    refine ⟨c1, ?_⟩
    have d : look (rndB steps f).1 x ≤ look f z + p := d
    omega
/-- what is found is the cost of a walk -/
def Real (steps : Stps α) (w : α) (f : Tab α) : Prop := ∀ k ∈ f.map (·.1), ∃ l, Wkl steps w l k (look f k)
theorem rlx_real {steps : Stps α} {w : α} {s : Tab α × Bool} {z : α} {e : α × Int} (h : Real steps w s.1) (hz : z ∈ s.1.map (·.1)) (he : Edge steps z e.1 e.2) : Real steps w (rlxB s z e).1 := by
  unfold rlxB
  by_cases c : better s.1 z e
  · rw [if_pos c]
    intro k hk
    show ∃ l, Wkl steps w l k (look (setT s.1 e.1 (look s.1 z + e.2)) k)
    rw [look_setT]
    by_cases q : k = e.1
    · rw [if_pos q, q]
      obtain ⟨l, W⟩ := h z hz
      exact ⟨z :: l, W.snoc he⟩
    · rw [if_neg q]
      exact h k (((keys_setT _ _ _ _).mp hk).resolve_right q)
  · rw [if_neg c]
    exact h
theorem fold_real {steps : Stps α} {w z : α} : ∀ (es : Tab α) (s : Tab α × Bool), (∀ e ∈ es, Edge steps z e.1 e.2) → Real steps w s.1 → z ∈ s.1.map (·.1) → Real steps w (es.foldl (fun s e => rlxB s z e) s).1
  | [], s, _, h, _ => h
  | e :: es, s, he, h, hz => by
    rw [List.foldl_cons]
    exact fold_real es _ (fun e' h' => he e' (List.mem_cons_of_mem _ h')) (rlx_real h hz (he e List.mem_cons_self)) (rlx_bet s z e z hz).1
theorem rows_real {steps : Stps α} {w : α} : ∀ (sts : Stps α) (s : Tab α × Bool), (∀ st ∈ sts, st ∈ steps) → Real steps w s.1 → Real steps w (sts.foldl rowB s).1
  | [], s, _, h => h
  | st :: sts, s, hs, h => by
    rw [List.foldl_cons]
    refine rows_real sts _ (fun x hx => hs x (List.mem_cons_of_mem _ hx)) ?_
    unfold rowB
    by_cases c : st.1 ∈ s.1.map (·.1)
    · rw [if_pos c]
      exact fold_real st.2 s (fun e he => ⟨st.2, hs st List.mem_cons_self, he⟩) h c
    · rw [if_neg c]
      exact h
structure Fit (steps : Stps α) (w : α) (f : Tab α) : Prop where
  real : Real steps w f
  start : w ∈ f.map (·.1) ∧ look f w ≤ 0
theorem Fit.next {steps : Stps α} {w : α} {f : Tab α} (h : Fit steps w f) : Fit steps w (rndB steps f).1 := by
  refine ⟨rows_real steps (f, false) (fun _ h => h) h.real, ?_⟩
  obtain ⟨a, b⟩ := rows_bet steps (f, false) w h.start.1
  exact ⟨a, Int.le_trans b h.start.2⟩
theorem rounds_fit {steps : Stps α} {w : α} : ∀ (n : Nat) (f : Tab α), Fit steps w f → Fit steps w (rounds steps n f)
  | 0, _, h => h
  | n + 1, f, h => by
    unfold rounds
    split
    · exact rounds_fit n _ h.next
    · exact h.next
theorem rounds_end {steps : Stps α} {w : α} : ∀ (n k : Nat) (f : Tab α), Fit steps w f → Upto steps w k f → Shut steps (rounds steps n f) ∨ Upto steps w (k + n) (rounds steps n f)
  | 0, k, f, _, h => .inr h
  | n + 1, k, f, g, h => by
    unfold rounds
    by_cases c : (rndB steps f).2 = true
    · rw [if_pos c]
      have := rounds_end n (k + 1) _ g.next (upto_next h g.start.1 g.start.2)
      rwa [show k + 1 + n = k + (n + 1) by omega] at this
    · rw [if_neg c]
      exact .inl (shut_of (by simpa using c))
theorem rounds_shut {steps : Stps α} {w : α} (hp : ∀ z y p, Edge steps z y p → 0 ≤ p) : Fit steps w (rounds steps steps.length [(w, 0)]) ∧ Shut steps (rounds steps steps.length [(w, 0)]) := by
  have l0 : look [(w, (0 : Int))] w = 0 := by simp [look]
  have f0 : Fit steps w [(w, 0)] := by
    refine ⟨fun k hk => ?_, by simp, by rw [l0]; exact Int.le_refl _⟩
    have : k = w := by simpa using hk
    subst this
    rw [l0]
    exact ⟨[], .nil⟩
  have u0 : Upto steps w 0 [(w, 0)] := fun l x c W hl => by
    cases W with
    | nil => exact ⟨by simp, by rw [l0]; exact Int.le_refl _⟩
    | snoc _ _ => simp at hl
  have F := rounds_fit steps.length _ f0
  refine ⟨F, ?_⟩
  rcases rounds_end steps.length 0 _ f0 u0 with h | h
  · exact h
  · intro z y p e hz
    obtain ⟨l, W⟩ := F.real z hz
    obtain ⟨l', c', W', hc, hl⟩ := (W.snoc e).few hp
    obtain ⟨a, b⟩ := h l' y c' W' (by omega)
    exact ⟨a, Int.le_trans b hc⟩
end
end Mk

set_option Elab.async false
set_option linter.all false
set_option maxRecDepth 100000
set_option maxHeartbeats 1000000
/-! the law's least costs by rounds -/
namespace Mk
open PySem PySem.Spec L2 PyProof.Rows

abbrev sLq : Stmt := top 42
abbrev nLq : List Str := ["_law_steps", "_law_word", "_law_found", "_law_turn", "_law_is_new", "_law_one", "_law_other", "_law_price"]
def kvsR (l : List (Str × Addr)) : List (Key × V) := l.map fun p => (Sum.inr p.1, V.ref p.2)
/-- a list of words and prices -/
def RowAt (H : Hp) (a : Addr) (tab : PTab) : Prop := ∃ ts : List Addr, H a = some (.lst (ts.map V.ref)) ∧ Tups H ts tab
/-- the steps that the dict at S tells -/
structure Stp (H : Hp) (S : Addr) (l : List (Str × Addr)) (steps : Stps Str) : Prop where
  at_ : H S = some (.dK (kvsR l))
  rows : Paired (fun (p : Str × Addr) (q : Str × PTab) => p.1 = q.1 ∧ RowAt H p.2 q.2) l steps
  nd : (steps.map (·.1)).Nodup
theorem RowAt.keep {H H' : Hp} {a : Addr} {tab : PTab} (h : RowAt H a tab) (k1 : ∀ b xs, H b = some (.lst xs) → H' b = some (.lst xs)) (k2 : ∀ b xs, H b = some (.tup xs) → H' b = some (.tup xs)) : RowAt H' a tab := by
  obtain ⟨ts, e1, e2⟩ := h
  exact ⟨ts, k1 _ _ e1, Tups.keep k2 e2⟩
theorem stp_keys {F : (Str × Addr) → (Str × PTab) → Prop} (hF : ∀ p q, F p q → p.1 = q.1) : ∀ {l : List (Str × Addr)} {steps : Stps Str}, Paired F l steps → l.map (·.1) = steps.map (·.1)
  | _, _, .nil => rfl
  | _, _, .cons h t => by
    rw [List.map_cons, List.map_cons, hF _ _ h, stp_keys hF t]
theorem valR : ∀ {l : List (Str × Addr)}, (l.map (·.1)).Nodup → ∀ {i : Nat} (h : i < l.length), valV (kvsR l) (Sum.inr l[i].1) = some (V.ref l[i].2)
  | [], _, _, h => absurd h (Nat.not_lt_zero _)
  | p :: l, nd, 0, _ => valV_pos rfl
  | p :: l, nd, i + 1, h => by
    rw [List.map_cons, List.nodup_cons] at nd
    have h2 : i < l.length := by simpa using h
    have ne : ¬ (Sum.inr p.1 : Key) = Sum.inr l[i].1 := fun e => nd.1 (by
      rw [Sum.inr.inj e]
      exact List.mem_map.mpr ⟨_, List.getElem_mem h2, rfl⟩)
    have := valR nd.2 h2
    exact (valV_neg ne).trans this
theorem look_app (t : PTab) (k : Str) : (valV (kvsP t) (Sum.inr k)).isSome = decide (k ∈ t.map (·.1)) := by
  by_cases m : k ∈ t.map (·.1)
  · rw [valP m, decide_eq_true m]
    rfl
  · rw [noP m, decide_eq_false m]
    rfl
def spLq : Sp := fun vs H Q _ => ∃ (S : Addr) (l : List (Str × Addr)) (steps : Stps Str) (z : Str) (U : List Str), vs = [.ref S, .str z] ∧ Stp H S l steps ∧ z ∈ U ∧ (∀ st ∈ steps, ∀ e ∈ st.2, e.1 ∈ U) ∧ U.length ≤ 1000 ∧ steps.length ≤ 1000 ∧
  ∀ H' F, Same H H' → H F = none → H' F = some (.dK (kvsP (rounds steps steps.length [(z, 0)]))) → Q (.ref F) H'
/-- the walk's table: its words are among U -/
structure Okt (U : List Str) (f : PTab) : Prop where
  nd : (f.map (·.1)).Nodup
  sub : ∀ k ∈ f.map (·.1), k ∈ U
theorem Okt.len {U : List Str} {f : PTab} (h : Okt U f) : f.length ≤ U.length := by
  have := h.nd.length_le_of_subset (l₂ := U) h.sub
  rwa [List.length_map] at this
theorem Okt.set {U : List Str} {f : PTab} {k : Str} {i : Int} (h : Okt U f) (hk : k ∈ U) : Okt U (setT f k i) := ⟨setT_nd h.nd, fun x hx => ((keys_setT _ _ _ _).mp hx).elim (h.sub x) fun e => e ▸ hk⟩
/-- all but the dict at F stands; it has these costs -/
structure Fw (H0 H1 : Hp) (F : Addr) (U : List Str) (f : PTab) : Prop where
  same : ∀ b o, b ≠ F → H0 b = some o → H1 b = some o
  out : H1 F = some (.dK (kvsP f))
  ok : Okt U f
theorem Fw.set {H0 H1 : Hp} {F : Addr} {U : List Str} {f : PTab} {k : Str} {i : Int} (W : Fw H0 H1 F U f) (hk : k ∈ U) : Fw H0 (upd H1 F (.dK (kvsP (setT f k i)))) F U (setT f k i) := ⟨fun b u n e => by
    rw [upd_ne n]
    exact W.same b u n e, upd_same, W.ok.set hk⟩
section
variable {P : Program} {w : World} {K : PySem.W.Frag} {mg : Str → Option Value} {base : Heap}
theorem scLq : FnScope nLq ["_law_steps", "_law_word"] (defScope sLq) := ⟨rfl, rfl, rfl, by decide +kernel, rfl, by decide +kernel, by decide +kernel⟩
theorem ok_lq {f : Addr} {fd : FuncData} (Fd : Fun K "_law_costs" "_law_costs" sLq f fd) (B : Bn mg) : FnOk P w K mg base CX0 1 f fd ["_law_steps", "_law_word"] spLq := by
  refine Fd.ok scLq (fun vs H Q E h => ?_) (fun cdv A outer s H vs Q E hr h => ?_)
  · obtain ⟨S, l, steps, z, U, rfl, _⟩ := h
    rfl
  · have hu := hu_of hr
    obtain ⟨S, l, steps, z, U, rfl, hS, zU, eU, lU, lst, q⟩ := h
    refine ⟨_, pss_cons (ps_set (i := 2) scLq.nd rfl (.inl rfl) (pe_disp (pps_cons (pv 1) pe_int pps_nil) rfl rfl (fun z => by cases z) (by decide)))
      (pss_cons (ps_for PassesOwn.never rfl (pi_range1 (by rfl) B.range (pa_cons (pe_callB call_lenD (by rfl) B.len PySem.boot_len (pa_cons (pv 0) pa_nil)) pa_nil)) (pg_name (i := 3) scLq.nd rfl (.inl rfl))
        (pss_cons (ps_set (i := 4) scLq.nd rfl (.inl rfl) pe_bl)
        (pss_cons (ps_lock (ps_for PassesOwn.never rfl (pi_keys (pv 0)) (pg_name (i := 5) scLq.nd rfl (.inl rfl))
          (pss_one (ps_if (pt_cmp (pc_din hu (pv 5) (pv 2)))
            (pss_one (ps_for PassesOwn.never rfl (pi_list (pe_dget hu (pv 0) (pv 5) (fun _ _ => rfl))) (pg_tup rfl (pgs_cons (pg_name (i := 6) scLq.nd rfl (.inl rfl)) (pgs_cons (pg_name (i := 7) scLq.nd rfl (.inl rfl)) pgs_nil)))
              (pss_one (ps_if (PW.pt (pw_or (pt_cmp (pc_dnotin hu (pv 6) (pv 2))) (pw_or1 (pt_cmpR op_lt (pe_op op_add (pe_dget hu (pv 2) (pv 5) (fun _ _ => rfl)) (pv 7)) (pe_dget hu (pv 2) (pv 6) (fun _ _ => rfl)) (nomark _)))))
                (pss_cons (ps_dput hu (pv 2) (pv 6) (pe_op op_add (pe_dget hu (pv 2) (pv 5) (fun _ _ => rfl)) (pv 7)) rfl)
                (pss_one (ps_set (i := 4) scLq.nd rfl (.inl rfl) pe_bl))) pss_nil)))) pss_nil))))
        (pss_one (ps_if (pt_not (pt_val (pv 4))) (pss_one (ps_ret (pv 2))) pss_nil)))))
      (pss_one (ps_ret (pv 2)))), ?_⟩
    have lt1 : ∀ {n : Nat}, n ≤ 1000 → n < sizeLine := fun h1 => by rw [sizeLine_eq]; omega
    have ls : l.length = steps.length := Paired.length hS.rows
    have lk : (kvsR l).length = steps.length := by
      unfold kvsR
      rw [List.length_map, ls]
    have kk : l.map (·.1) = steps.map (·.1) := stp_keys (fun p q h => h.1) hS.rows
    have ndl : (l.map (·.1)).Nodup := by rw [kk]; exact hS.nd
    refine fun F hF => ⟨_, rfl, upd_same, [(Sum.inr z, V.int 0)], rfl, (by show 1 ≤ 15; decide), ?_⟩
    have h0 : ∀ b u, H b = some u → (upd (upd H F (.dK [])) F (.dK (mergeK [] [(Sum.inr z, V.int 0)]))) b = some u := fun b u e => by
      rw [upd_ne (ne_of_none e hF), upd_ne (ne_of_none e hF)]
      exact e
    have hf0 : (upd (upd H F (.dK [])) F (.dK (mergeK [] [(Sum.inr z, V.int 0)]))) F = some (.dK (kvsP [(z, 0)])) := upd_same
    have SF : S ≠ F := ne_of_none hS.at_ hF
    have eS := h0 _ _ hS.at_
    have hr0 : ∀ p ∈ List.zip l steps, p.1.1 = p.2.1 ∧ RowAt H p.1.2 p.2.2 := by
      have : ∀ {l : List (Str × Addr)} {m : Stps Str}, Paired (fun (p : Str × Addr) (q : Str × PTab) => p.1 = q.1 ∧ RowAt H p.2 q.2) l m → ∀ p ∈ List.zip l m, p.1.1 = p.2.1 ∧ RowAt H p.1.2 p.2.2 := by
        intro l m h
        induction h with
        | nil => intro p hp; cases hp
        | cons a _ ih =>
          intro p hp
          rw [List.zip_cons_cons] at hp
          rcases List.mem_cons.mp hp with rfl | hp
          · exact a
          · exact ih p hp
      exact this hS.rows
    have row : ∀ {j : Nat} (h1 : j < l.length) (h2 : j < steps.length), l[j].1 = steps[j].1 ∧ RowAt H l[j].2 steps[j].2 := fun {j} h1 h2 => by
      have h3 : j < (List.zip l steps).length := by rw [List.length_zip]; omega
      have := hr0 _ (List.getElem_mem h3)
      rwa [List.getElem_zip] at this
    generalize upd (upd H F (.dK [])) F (.dK (mergeK [] [(Sum.inr z, V.int 0)])) = H0 at h0 hf0 eS ⊢
    refine ⟨_, rfl, S, _, rfl, eS, _, rfl, by rw [lk]; omega, by rw [lk]; omega, ?_⟩
    have eN : (((kvsR l).length : Nat) : Int).toNat = steps.length := by rw [lk]; omega
    rw [eN]
    generalize hR : rounds steps steps.length [(z, 0)] = R at q
    refine for_range (lo := 0) (n := steps.length) (fun i σ H1 => (∃ o3 o4 o5 o6 o7, σ = [some (.ref S), some (.str z), some (.ref F), o3, o4, o5, o6, o7]) ∧ ∃ f, rounds steps (steps.length - i) f = R ∧ Fw H0 H1 F U f) ?_ ?_ ?_
    · exact ⟨⟨_, _, _, _, _, rfl⟩, [(z, 0)], hR, ⟨fun b u _ e => e, hf0, ⟨by simp, fun k hk => by
        have : k = z := by simpa using hk
        exact this ▸ zU⟩⟩⟩
    · rintro i σ H1 hi ⟨⟨o3, o4, o5, o6, o7, rfl⟩, f, hf, W⟩
      rw [Int.zero_add]
      have e1 : steps.length - i = (steps.length - (i + 1)) + 1 := by omega
      rw [e1] at hf
      unfold rounds at hf
      have eS1 := W.same _ _ SF eS
      refine ⟨S, _, eS1, trivial, fun od => ⟨_, rfl, S, od, rfl, .inl ⟨kvsR l, upd_same, ?_⟩⟩⟩
      have hL : ∀ b u, b ≠ S → H1 b = some u → (upd H1 S (.frz od (.dK (kvsR l)))) b = some u := fun b u n e => by
        rw [upd_ne n]
        exact e
      have ep : (upd H1 S (.frz od (.dK (kvsR l)))) S = some (.frz od (.dK (kvsR l))) := upd_same
      have WL : Fw (upd H1 S (.frz od (.dK (kvsR l)))) (upd H1 S (.frz od (.dK (kvsR l)))) F U f := ⟨fun b u _ e => e, hL _ _ SF.symm W.out, W.ok⟩
      have toL : ∀ b u, b ≠ F → b ≠ S → H b = some u → (upd H1 S (.frz od (.dK (kvsR l)))) b = some u := fun b u n1 n2 e => hL _ _ n2 (W.same _ _ n1 (h0 _ _ e))
      generalize hHL : upd H1 S (.frz od (.dK (kvsR l))) = HL at ep WL toL hL ⊢
      have rowL : ∀ {a : Addr} {tab : PTab}, RowAt H a tab → RowAt HL a tab := fun h => h.keep (fun b xs e => toL b _ (ne_of_none e hF) (fun z => by rw [z, hS.at_] at e; cases e) e) (fun b xs e => toL b _ (ne_of_none e hF) (fun z => by rw [z, hS.at_] at e; cases e) e)
      have aF : ∀ {a : Addr} {tab : PTab}, RowAt H a tab → a ≠ F := fun h => by
        obtain ⟨ts, e, _⟩ := h
        exact ne_of_none e hF
      refine for_it (walk_keys (d := S) (o := od) (kvs := kvsR l)) (fun j σ H2 => (∃ o5 o6 o7, σ = [some (.ref S), some (.str z), some (.ref F), some (.int i), some (.bl ((steps.take j).foldl rowB (f, false)).2), o5, o6, o7]) ∧ Fw HL H2 F U ((steps.take j).foldl rowB (f, false)).1) ?_ (fun j σ H2 _ h2 => h2.2.same _ _ SF ep) ?_ ?_
      · exact ⟨⟨_, _, _, rfl⟩, WL⟩
      · rintro j x σ H2 H3 hj ⟨⟨p5, p6, p7, rfl⟩, W2⟩ ⟨rfl, k, vv, hx, rfl⟩
        have hj1 : j < l.length := by omega
        have hj2 : j < steps.length := by omega
        have ek : (kvsR l)[j]? = some (Sum.inr l[j].1, V.ref l[j].2) := by
          unfold kvsR
          rw [List.getElem?_map, List.getElem?_eq_getElem hj1]
          rfl
        rw [ek] at hx
        cases hx
        have nx : (steps.take (j + 1)).foldl rowB (f, false) = rowB ((steps.take j).foldl rowB (f, false)) steps[j] := foldl_take _ _ _ hj2
        rw [nx]
        have gv := valR ndl hj1
        obtain ⟨r1, r2⟩ := row hj1 hj2
        have r3 := rowL r2
        have naF := aF r2
        have me : ∀ e ∈ steps[j].2, e.1 ∈ U := eU _ (List.getElem_mem hj2)
        have hm : steps[j] = (steps[j].1, steps[j].2) := rfl
        rw [show kV (Sum.inr l[j].1 : Key) = V.str l[j].1 from rfl]
        rw [r1] at gv ⊢
        generalize steps[j] = st at r1 r2 r3 me hm gv ⊢
        generalize l[j].2 = a at gv r2 r3 naF
        obtain ⟨one, es⟩ := st
        generalize (steps.take j).foldl rowB (f, false) = s at W2 ⊢
        obtain ⟨g, b⟩ := s
        clear nx r1 r2 hm
        have W2 : Fw HL H3 F U g := W2
        refine ⟨_, rfl, _, rfl, F, _, rfl, .inl ⟨kvsP g, Sum.inr one, .inl W2.out, rfl, rfl⟩, _, rfl, ?_⟩
        rw [look_app]
        unfold rowB
        by_cases m : one ∈ g.map (·.1)
        · rw [decide_eq_true m, if_pos m]
          refine iteT ?_
          obtain ⟨ts, t1, t2⟩ := r3
          have lts : ts.length = es.length := Paired.length t2
          refine ⟨_, rfl, _, rfl, S, _, rfl, .inl ⟨kvsR l, Sum.inr one, .inr ⟨od, W2.same _ _ SF ep⟩, rfl, gv.symm⟩, a, rfl, ⟨_, SqL.of (W2.same _ _ naF t1)⟩, for_it (walk_list (K := K) (a := a) (xs := ts.map V.ref)) (fun k σ H4 => (∃ o6 o7, σ = [some (.ref S), some (.str z), some (.ref F), some (.int i), some (.bl ((es.take k).foldl (fun s e => rlxB s one e) (g, b)).2), some (.str one), o6, o7]) ∧ Fw HL H4 F U ((es.take k).foldl (fun s e => rlxB s one e) (g, b)).1) ?_ (fun k σ H4 _ h4 => SqL.of (h4.2.same _ _ naF t1)) ?_ ?_⟩
          · exact ⟨⟨_, _, rfl⟩, W2⟩
          · rintro k x σ H4 H5 hk ⟨⟨u6, u7, rfl⟩, W4⟩ ⟨rfl, hx⟩
            have hk1 : k < ts.length := by rwa [List.length_map] at hk
            have hk2 : k < es.length := by omega
            have ex : x = V.ref ts[k] := by
              rw [List.getElem?_map, List.getElem?_eq_getElem hk1] at hx
              exact (Option.some.inj hx).symm
            subst ex
            obtain ⟨e0, he0, et⟩ := paired_get t2 (List.getElem?_eq_getElem hk1)
            have ee : e0 = es[k] := Option.some.inj (he0.symm.trans (List.getElem?_eq_getElem hk2))
            subst ee
            have nx : (es.take (k + 1)).foldl (fun s e => rlxB s one e) (g, b) = rlxB ((es.take k).foldl (fun s e => rlxB s one e) (g, b)) one es[k] := foldl_take _ _ _ hk2
            rw [nx]
            have mb : one ∈ ((es.take k).foldl (fun s e => rlxB s one e) (g, b)).1.map (·.1) := (fold_bet one (es.take k) (g, b) one m).1
            have mU := me _ (List.getElem_mem hk2)
            have tF : ts[k] ≠ F := fun e => by
              have := WL.out
              rw [e, this] at et
              cases et
            generalize (es.take k).foldl (fun s e => rlxB s one e) (g, b) = s at W4 mb ⊢
            obtain ⟨g4, b4⟩ := s
            generalize es[k] = e at et mU ⊢
            obtain ⟨other, price⟩ := e
            have W4 : Fw HL H5 F U g4 := W4
            have mb : one ∈ g4.map (·.1) := mb
            have lg : g4.length ≤ 1000 := Nat.le_trans W4.ok.len lU
            have gOne : DGet H5 F (.str one) (some (V.int (look g4 one))) := getP (.inl W4.out) mb
            have put : DPut H5 F (.str other) (.int (look g4 one + price)) (upd H5 F (.dK (kvsP (setT g4 other (look g4 one + price))))) := .inl ⟨kvsP g4, Sum.inr other, W4.out, rfl, by rw [kvsP_len]; exact lt1 lg, by rw [putP_set]⟩
            refine ⟨ts[k], _, rfl, SqT.of (W4.same _ _ tF et), rfl, _, _, rfl, _, _, rfl, rfl, ?_⟩
            refine ⟨_, rfl, _, rfl, F, _, rfl, .inl ⟨kvsP g4, Sum.inr other, .inl W4.out, rfl, rfl⟩, _, rfl, ?_⟩
            rw [look_app]
            unfold rlxB
            by_cases mo : other ∈ g4.map (·.1)
            · rw [decide_eq_true mo]
              refine iteF ?_
              refine ⟨_, rfl, _, rfl, F, _, rfl, gOne, _, rfl, _, _, rfl, rfl, _, rfl, _, rfl, F, _, rfl, getP (.inl W4.out) mo, _, _, rfl, rfl, _, rfl, ?_⟩
              by_cases c : look g4 one + price < look g4 other
              · rw [decide_eq_true c, if_pos (show better (g4, b4).1 one (other, price) from .inr c)]
                refine iteT ?_
                exact ⟨_, rfl, _, rfl, F, _, rfl, gOne, _, rfl, _, _, rfl, rfl, _, rfl, _, rfl, F, _, rfl, put, ⟨_, _, rfl⟩, W4.set mU⟩
              · rw [decide_eq_false c, if_neg (show ¬ better (g4, b4).1 one (other, price) from fun z => z.elim (fun y => y mo) c)]
                exact iteF ⟨⟨_, _, rfl⟩, W4⟩
            · rw [decide_eq_false mo, if_pos (show better (g4, b4).1 one (other, price) from .inl mo)]
              refine iteT ?_
              exact ⟨_, rfl, _, rfl, F, _, rfl, gOne, _, rfl, _, _, rfl, rfl, _, rfl, _, rfl, F, _, rfl, put, ⟨_, _, rfl⟩, W4.set mU⟩
          · rintro σ H4 ⟨⟨u6, u7, rfl⟩, W4⟩
            rw [List.length_map, lts, List.take_length] at W4
            rw [List.length_map, lts, List.take_length]
            exact ⟨⟨_, _, _, rfl⟩, W4⟩
        · rw [decide_eq_false m, if_neg m]
          exact iteF ⟨⟨_, _, _, rfl⟩, W2⟩
      · rintro σ H2 ⟨⟨p5, p6, p7, rfl⟩, W2⟩
        rw [lk, List.take_length] at W2
        rw [lk, List.take_length]
        have er : steps.foldl rowB (f, false) = rndB steps f := rfl
        rw [er] at W2 ⊢
        have W3 : Fw H0 (upd H2 S (.dK (kvsR l))) F U (rndB steps f).1 := by
          refine ⟨fun b0 u0 n0 e0 => ?_, by rw [upd_ne SF.symm]; exact W2.out, W2.ok⟩
          by_cases hb : b0 = S
          · subst hb
            rw [eS] at e0
            cases e0
            exact upd_same
          · rw [upd_ne hb]
            exact W2.same _ _ n0 (hL _ _ hb (W.same _ _ n0 e0))
        refine ⟨W2.same _ _ SF ep, _, rfl, _, rfl, ?_⟩
        by_cases c : (rndB steps f).2 = true
        · rw [if_pos c] at hf
          rw [c]
          exact iteF ⟨⟨_, _, _, _, _, rfl⟩, _, hf, W3⟩
        · rw [if_neg c] at hf
          rw [Bool.eq_false_iff.mpr c]
          refine iteT ⟨_, rfl, q _ F (fun b0 u0 e0 => W3.same _ _ (ne_of_none e0 hF) (h0 _ _ e0)) hF ?_⟩
          rw [← hf]
          exact W3.out
    · rintro σ H1 ⟨⟨o3, o4, o5, o6, o7, rfl⟩, f, hf, W⟩
      rw [Nat.sub_self] at hf
      refine ⟨_, rfl, q _ F (fun b0 u0 e0 => W.same _ _ (ne_of_none e0 hF) (h0 _ _ e0)) hF ?_⟩
      rw [← hf]
      exact W.out
end
end Mk

set_option Elab.async false
set_option linter.all false
set_option maxRecDepth 100000
set_option maxHeartbeats 1000000
/-! closed tables -/
namespace Mk
open PySem L2

theorem IsCl.perm {α : Type} {P P' : List α} {d c : α → α → Int} (h : IsCl P d c) (e : ∀ x, x ∈ P' → x ∈ P) (e' : ∀ x, x ∈ P → x ∈ P') : IsCl P' d c :=
  ⟨fun x hx => h.zero x (e x hx), fun x hx y hy z hz => h.tri x (e x hx) y (e y hy) z (e z hz), fun x hx y hy => h.le x (e x hx) y (e y hy),
    fun F hF z hz y hy => h.max F (fun z hz y hy => hF z (e' z hz) y (e' y hy)) z (e z hz) y (e y hy)⟩
section
variable {κ : Type} [DecidableEq κ]
theorem look_out {t : List (κ × Int)} {k : κ} (h : k ∉ t.map (·.1)) : look t k = 0 := by
  unfold look
  rw [look_none h]
  rfl
theorem look_is {t : List (κ × Int)} {k : κ} (h : k ∈ t.map (·.1)) : ∃ p ∈ t, p.1 = k ∧ look t k = p.2 := by
  obtain ⟨q, hq, e⟩ := List.mem_map.mp h
  cases f : t.find? (fun p => decide (p.1 = k)) with
  | none =>
    have := List.find?_eq_none.mp f q hq
    exact absurd e (by simpa using this)
  | some p =>
    refine ⟨p, List.mem_of_find?_eq_some f, by simpa using List.find?_some f, ?_⟩
    unfold look
    rw [f]
    rfl
theorem look_prm {t u : List (κ × Int)} (p : t.Perm u) (nd : (t.map (·.1)).Nodup) (k : κ) : look t k = look u k := by
  have nu : (u.map (·.1)).Nodup := (p.map (·.1)).nodup_iff.mp nd
  by_cases h : k ∈ t.map (·.1)
  · obtain ⟨q, hq, rfl, e⟩ := look_is h
    rw [e, look_mem nu q (p.mem_iff.mp hq)]
  · rw [look_out h, look_out (fun m => h ((p.map (·.1)).mem_iff.mpr m))]
theorem look_b {t : List (κ × Int)} {a b : Int} (h : ∀ p ∈ t, a ≤ p.2 ∧ p.2 ≤ b) {k : κ} (hk : k ∈ t.map (·.1)) : a ≤ look t k ∧ look t k ≤ b := by
  obtain ⟨p, hp, _, e⟩ := look_is hk
  rw [e]
  exact h p hp
theorem look_times (t : List (κ × Int)) (m : Int) (k : κ) : look (timesP t m) k = look t k * m := by
  by_cases h : k ∈ t.map (·.1)
  · unfold look timesP
    rw [List.find?_map]
    have : (fun p : κ × Int => decide (p.1 = k)) ∘ (fun p : κ × Int => (p.1, p.2 * m)) = fun p => decide (p.1 = k) := rfl
    rw [this]
    cases t.find? (fun p => decide (p.1 = k)) with
    | none => show (0 : Int) = 0 * m; omega
    | some p => rfl
  · rw [look_out h, look_out (by rw [timesP_keys]; exact h)]
    omega
end
def tabP (ks : List Str) (f : Str → Int) : PTab := ks.map fun z => (z, f z)
def tabS (ks : List (Str × Str)) (c : Str → Str → Int) : STab := ks.map fun k => (k, c k.1 k.2)
theorem tabP_keys (ks : List Str) (f : Str → Int) : (tabP ks f).map (·.1) = ks := by
  unfold tabP
  rw [List.map_map]
  exact List.map_id _
theorem tabS_keys (ks : List (Str × Str)) (c : Str → Str → Int) : (tabS ks c).map (·.1) = ks := by
  unfold tabS
  rw [List.map_map]
  exact List.map_id _
theorem tabP_look {ks : List Str} {f : Str → Int} {k : Str} (h : k ∈ ks) : look (tabP ks f) k = f k := by
  obtain ⟨p, hp, e, e2⟩ := look_is (t := tabP ks f) (by rw [tabP_keys]; exact h)
  obtain ⟨z, _, rfl⟩ := List.mem_map.mp hp
  rw [e2, ← e]
theorem tabS_look {ks : List (Str × Str)} {c : Str → Str → Int} {k : Str × Str} (h : k ∈ ks) : look (tabS ks c) k = c k.1 k.2 := by
  obtain ⟨p, hp, e, e2⟩ := look_is (t := tabS ks c) (by rw [tabS_keys]; exact h)
  obtain ⟨z, _, rfl⟩ := List.mem_map.mp hp
  rw [e2, ← e]
/-- r are the closed tables of t -/
structure CtW (t1 t2 : PTab) (t3 : STab) (r1 r2 : PTab) (r3 : STab) (c : Str → Str → Int) : Prop where
  cl : IsCl (plc t1) (dd t1 t2 t3) c
  p1 : r1.Perm (tabP (t1.map (·.1)) (c ""))
  p2 : r2.Perm (tabP (t1.map (·.1)) fun z => c z "")
  p3 : r3.Perm (tabS (pairsOf (t1.map (·.1))) c)
def Ct (t1 t2 : PTab) (t3 : STab) (r1 r2 : PTab) (r3 : STab) : Prop := ∃ c, CtW t1 t2 t3 r1 r2 r3 c
theorem ab1 {t : PTab} {m : Int} (h : okP t m = true) : ∀ p ∈ t, 1 ≤ p.2 ∧ p.2 ≤ m := fun p hp => by
  have := List.all_eq_true.mp h p hp
  unfold nwB at this
  simp only [Bool.and_eq_true, decide_eq_true_eq] at this
  exact this.2
theorem ab3 {t : STab} {m : Int} (h : okS t m = true) : ∀ p ∈ t, 1 ≤ p.2 ∧ p.2 ≤ m := fun p hp => by
  have := List.all_eq_true.mp h p hp
  unfold nwB at this
  simp only [Bool.and_eq_true, decide_eq_true_eq] at this
  exact this.2
structure Bds (t1 t2 : PTab) (t3 : STab) : Prop where
  b1 : ∀ p ∈ t1, 1 ≤ p.2 ∧ p.2 ≤ 9
  b2 : ∀ p ∈ t2, 1 ≤ p.2 ∧ p.2 ≤ 9
  b3 : ∀ p ∈ t3, 1 ≤ p.2 ∧ p.2 ≤ 18
  ne : t1 ≠ []
theorem RtT.bds {t1 t2 : PTab} {t3 : STab} (R : RtT t1 t2 t3) : Bds t1 t2 t3 := by
  have h := R.rt
  unfold rightB at h
  simp only [Bool.and_eq_true] at h
  exact ⟨ab1 h.1, ab1 h.2.2.1, ab3 h.2.2.2, by simpa using h.2.1⟩
section
variable {t1 t2 : PTab} {t3 : STab}
theorem pl_em {x : Str} (h : x ∈ plc t1) (n : x ≠ "") : x ∈ t1.map (·.1) := (List.mem_cons.mp h).resolve_left n
theorem em_not {t1 t2 : PTab} {t3 : STab} (a : Agree t1 t2 t3) : ("" : Str) ∉ t1.map (·.1) := fun m => by
  obtain ⟨p, hp, e⟩ := List.mem_map.mp m
  have := a.sg p hp
  rw [e] at this
  exact absurd this (by decide +kernel)
theorem dd_ne (a : Agree t1 t2 t3) {m : Int} (m0 : 0 ≤ m) (h1 : ∀ p ∈ t1, m ≤ p.2 ∧ p.2 ≤ 9) (h2 : ∀ p ∈ t2, m ≤ p.2 ∧ p.2 ≤ 9) (h3 : ∀ p ∈ t3, m ≤ p.2 ∧ p.2 ≤ 18) {x y : Str} (hx : x ∈ plc t1) (hy : y ∈ plc t1) (ne : x ≠ y) : m ≤ dd t1 t2 t3 x y := by
  unfold dd
  rw [if_neg ne]
  by_cases c1 : x = ""
  · rw [if_pos c1]
    exact (look_b h1 (pl_em hy fun e => ne (c1.trans e.symm))).1
  · rw [if_neg c1]
    have x2 : x ∈ t2.map (·.1) := a.pm.mem_iff.mpr (pl_em hx c1)
    by_cases c2 : y = ""
    · rw [if_pos c2]
      exact (look_b h2 x2).1
    · rw [if_neg c2]
      unfold dget
      by_cases c3 : (x, y) ∈ t3.map (·.1)
      · rw [if_pos c3]
        exact (look_b h3 c3).1
      · rw [if_neg c3]
        have a1 := (look_b h2 x2).1
        have a2 := (look_b h1 (pl_em hy c2)).1
        omega
theorem dd_self (x : Str) : dd t1 t2 t3 x x = 0 := by
  unfold dd
  rw [if_pos rfl]
theorem dd_ge (a : Agree t1 t2 t3) (b : Bds t1 t2 t3) {x y : Str} (hx : x ∈ plc t1) (hy : y ∈ plc t1) : 0 ≤ dd t1 t2 t3 x y := by
  by_cases c : x = y
  · rw [c, dd_self]
    exact Int.le_refl _
  · exact Int.le_trans (by decide) (dd_ne a (m := 1) (by decide) b.b1 b.b2 b.b3 hx hy c)
theorem cl_of (R : RtT t1 t2 t3) : IsCl (plc t1) (dd t1 t2 t3) (cc t1 t2 t3) := cc_cl (em_not R.ag) fun x hx y hy => dd_ge R.ag R.bds hx hy
theorem cl_least {c : Str → Str → Int} (a : Agree t1 t2 t3) (h : IsCl (plc t1) (dd t1 t2 t3) c) {m : Int} (m0 : 0 ≤ m) (h1 : ∀ p ∈ t1, m ≤ p.2 ∧ p.2 ≤ 9) (h2 : ∀ p ∈ t2, m ≤ p.2 ∧ p.2 ≤ 9) (h3 : ∀ p ∈ t3, m ≤ p.2 ∧ p.2 ≤ 18) {x y : Str} (hx : x ∈ plc t1) (hy : y ∈ plc t1) (ne : x ≠ y) : m ≤ c x y :=
  h.ge m0 (fun x hx y hy => by
    by_cases c : x = y
    · rw [c, dd_self]
      exact Int.le_refl _
    · exact Int.le_trans m0 (dd_ne a m0 h1 h2 h3 hx hy c)) (fun x hx y hy ne => dd_ne a m0 h1 h2 h3 hx hy ne) hx hy ne
theorem em_in : ("" : Str) ∈ plc t1 := List.mem_cons_self
theorem cl_put {c : Str → Str → Int} (a : Agree t1 t2 t3) (h : IsCl (plc t1) (dd t1 t2 t3) c) {s : Str} (hs : s ∈ t1.map (·.1)) : c "" s ≤ look t1 s := by
  have := h.le "" em_in s (List.mem_cons_of_mem _ hs)
  have n : s ≠ "" := fun e => em_not a (e ▸ hs)
  unfold dd at this
  rwa [if_neg n.symm, if_pos rfl] at this
theorem cl_out {c : Str → Str → Int} (a : Agree t1 t2 t3) (h : IsCl (plc t1) (dd t1 t2 t3) c) {s : Str} (hs : s ∈ t1.map (·.1)) : c s "" ≤ look t2 s := by
  have := h.le s (List.mem_cons_of_mem _ hs) "" em_in
  have n : s ≠ "" := fun e => em_not a (e ▸ hs)
  unfold dd at this
  rwa [if_neg n, if_neg n, if_pos rfl] at this
theorem CtW.keys1 {r1 r2 : PTab} {r3 : STab} {c : Str → Str → Int} (w : CtW t1 t2 t3 r1 r2 r3 c) : (r1.map (·.1)).Perm (t1.map (·.1)) := by
  have := w.p1.map (·.1)
  rwa [tabP_keys] at this
theorem CtW.keys2 {r1 r2 : PTab} {r3 : STab} {c : Str → Str → Int} (w : CtW t1 t2 t3 r1 r2 r3 c) : (r2.map (·.1)).Perm (t1.map (·.1)) := by
  have := w.p2.map (·.1)
  rwa [tabP_keys] at this
theorem CtW.keys3 {r1 r2 : PTab} {r3 : STab} {c : Str → Str → Int} (w : CtW t1 t2 t3 r1 r2 r3 c) : (r3.map (·.1)).Perm (pairsOf (t1.map (·.1))) := by
  have := w.p3.map (·.1)
  rwa [tabS_keys] at this
theorem CtW.rt {r1 r2 : PTab} {r3 : STab} {c : Str → Str → Int} (R : RtT t1 t2 t3) (w : CtW t1 t2 t3 r1 r2 r3 c) : RtT r1 r2 r3 := by
  have a := R.ag
  have b := R.bds
  have lo : ∀ {x y : Str}, x ∈ plc t1 → y ∈ plc t1 → x ≠ y → 1 ≤ c x y := fun hx hy ne => cl_least a w.cl (by decide) b.b1 b.b2 b.b3 hx hy ne
  have nz : ∀ {z : Str}, z ∈ t1.map (·.1) → z ≠ "" := fun hz e => em_not a (e ▸ hz)
  have up1 : ∀ {z : Str}, z ∈ t1.map (·.1) → c "" z ≤ 9 := fun hz => Int.le_trans (cl_put a w.cl hz) (look_b b.b1 hz).2
  have up2 : ∀ {z : Str}, z ∈ t1.map (·.1) → c z "" ≤ 9 := fun hz => Int.le_trans (cl_out a w.cl hz) (look_b b.b2 (a.pm.mem_iff.mpr hz)).2
  have pl : ∀ {z : Str}, z ∈ t1.map (·.1) → z ∈ plc t1 := fun hz => List.mem_cons_of_mem _ hz
  refine ⟨⟨fun p hp => ?_, w.keys1.nodup_iff.mpr a.nd, ?_, w.keys2.trans w.keys1.symm, ?_, fun p hp => ?_⟩, ?_, ?_⟩
  · have m := w.keys1.mem_iff.mp (List.mem_map.mpr ⟨p, hp, rfl⟩)
    obtain ⟨q, hq, e⟩ := List.mem_map.mp m
    have := a.sg q hq
    rwa [e] at this
  · have := w.keys1.length_eq
    rw [List.length_map, List.length_map] at this
    have := a.l1
    omega
  · have e := w.keys3.length_eq
    rw [List.length_map] at e
    have l := len_pairs (zs := t1.map (·.1)) (by rw [List.length_map]; exact a.l1)
    omega
  · have m := mem_pairs.mp (w.keys3.mem_iff.mp (List.mem_map.mpr ⟨p, hp, rfl⟩))
    exact ⟨w.keys1.mem_iff.mpr m.1, w.keys1.mem_iff.mpr m.2.1, m.2.2⟩
  · exact w.keys3.nodup_iff.mpr (nodup_pairs a.nd)
  · have e1 : okP r1 9 = true := List.all_eq_true.mpr fun p hp => by
      obtain ⟨z, hz, rfl⟩ := List.mem_map.mp (w.p1.mem_iff.mp hp)
      exact nw_in (lo em_in (pl hz) (nz hz).symm) (up1 hz) (by decide)
    have e2 : okP r2 9 = true := List.all_eq_true.mpr fun p hp => by
      obtain ⟨z, hz, rfl⟩ := List.mem_map.mp (w.p2.mem_iff.mp hp)
      exact nw_in (lo (pl hz) em_in (nz hz)) (up2 hz) (by decide)
    have e3 : okS r3 18 = true := List.all_eq_true.mpr fun p hp => by
      obtain ⟨k, hk, rfl⟩ := List.mem_map.mp (w.p3.mem_iff.mp hp)
      obtain ⟨h1, h2, h3⟩ := mem_pairs.mp hk
      have t := w.cl.tri k.1 (pl h1) k.2 (pl h2) "" em_in
      have u1 := up1 h2
      have u2 := up2 h1
      exact nw_in (lo (pl h1) (pl h2) h3) (by show c k.1 k.2 ≤ 18; omega) (by decide)
    have e4 : r1.isEmpty = false := by
      cases r1 with
      | nil =>
        have := w.keys1.length_eq
        rw [List.length_map, List.length_map] at this
        exact absurd (List.length_eq_zero_iff.mp this.symm) b.ne
      | cons _ _ => rfl
    unfold rightB
    rw [e1, e2, e3, e4]
    rfl
theorem CtW.uniq {r1 r2 s1 s2 : PTab} {r3 s3 : STab} {c c' : Str → Str → Int} (w : CtW t1 t2 t3 r1 r2 r3 c) (w' : CtW t1 t2 t3 s1 s2 s3 c') : r1.Perm s1 ∧ r2.Perm s2 ∧ r3.Perm s3 := by
  have e : ∀ {x y : Str}, x ∈ plc t1 → y ∈ plc t1 → c x y = c' x y := fun hx hy => w.cl.uniq w'.cl hx hy
  have pl : ∀ {z : Str}, z ∈ t1.map (·.1) → z ∈ plc t1 := fun hz => List.mem_cons_of_mem _ hz
  have q1 : tabP (t1.map (·.1)) (c "") = tabP (t1.map (·.1)) (c' "") := List.map_congr_left fun z hz => by rw [e em_in (pl hz)]
  have q2 : tabP (t1.map (·.1)) (fun z => c z "") = tabP (t1.map (·.1)) (fun z => c' z "") := List.map_congr_left fun z hz => by
    show (z, c z "") = (z, c' z "")
    rw [e (pl hz) em_in]
  have q3 : tabS (pairsOf (t1.map (·.1))) c = tabS (pairsOf (t1.map (·.1))) c' := List.map_congr_left fun k hk => by
    obtain ⟨h1, h2, _⟩ := mem_pairs.mp hk
    rw [e (pl h1) (pl h2)]
  have p1 := w.p1
  have p2 := w.p2
  have p3 := w.p3
  rw [q1] at p1
  rw [q2] at p2
  rw [q3] at p3
  exact ⟨p1.trans w'.p1.symm, p2.trans w'.p2.symm, p3.trans w'.p3.symm⟩
/-- what the closed tables cost -/
theorem CtW.dd {r1 r2 : PTab} {r3 : STab} {c : Str → Str → Int} (R : RtT t1 t2 t3) (w : CtW t1 t2 t3 r1 r2 r3 c) {x y : Str} (hx : x ∈ plc t1) (hy : y ∈ plc t1) : Mk.dd r1 r2 r3 x y = c x y := by
  have Rr := w.rt R
  unfold Mk.dd
  by_cases c0 : x = y
  · rw [if_pos c0, c0, w.cl.zero y hy]
  · rw [if_neg c0]
    by_cases c1 : x = ""
    · rw [if_pos c1, c1, look_prm w.p1 Rr.ag.nd, tabP_look (pl_em hy fun e => c0 (c1.trans e.symm))]
    · rw [if_neg c1]
      have hx' := pl_em hx c1
      by_cases c2 : y = ""
      · rw [if_pos c2, c2, look_prm w.p2 (Rr.ag.pm.nodup_iff.mpr Rr.ag.nd), tabP_look hx']
      · rw [if_neg c2]
        have m : (x, y) ∈ pairsOf (t1.map (·.1)) := mem_pairs.mpr ⟨hx', pl_em hy c2, c0⟩
        unfold dget
        rw [if_pos (w.keys3.mem_iff.mpr m), look_prm w.p3 Rr.nd, tabS_look m]
theorem plc_iff {r1 : PTab} (p : (r1.map (·.1)).Perm (t1.map (·.1))) (x : Str) : x ∈ plc r1 ↔ x ∈ plc t1 := by
  rw [List.mem_cons, List.mem_cons, p.mem_iff]
theorem perm_pairs {zs ws : List Str} (nz : zs.Nodup) (p : zs.Perm ws) : (pairsOf zs).Perm (pairsOf ws) := by
  have nw := p.nodup_iff.mp nz
  refine (List.perm_ext_iff_of_nodup (nodup_pairs nz) (nodup_pairs nw)).mpr fun k => ?_
  rw [mem_pairs, mem_pairs, p.mem_iff, p.mem_iff]
/-- tables with the same signs whose costs lie between have the same closed tables -/
theorem CtW.between {u1 u2 r1 r2 : PTab} {u3 r3 : STab} {c : Str → Str → Int} (w : CtW t1 t2 t3 r1 r2 r3 c) (nd : (t1.map (·.1)).Nodup) (p : (u1.map (·.1)).Perm (t1.map (·.1))) (lo : ∀ x ∈ plc t1, ∀ y ∈ plc t1, c x y ≤ Mk.dd u1 u2 u3 x y) (hi : ∀ x ∈ plc t1, ∀ y ∈ plc t1, Mk.dd u1 u2 u3 x y ≤ Mk.dd t1 t2 t3 x y) : CtW u1 u2 u3 r1 r2 r3 c where
  cl := (w.cl.between lo hi).perm (fun x hx => (plc_iff p x).mp hx) (fun x hx => (plc_iff p x).mpr hx)
  p1 := w.p1.trans (p.symm.map _)
  p2 := w.p2.trans (p.symm.map _)
  p3 := w.p3.trans ((perm_pairs nd p.symm).map _)
theorem CtW.self {r1 r2 : PTab} {r3 : STab} {c : Str → Str → Int} (R : RtT t1 t2 t3) (w : CtW t1 t2 t3 r1 r2 r3 c) : CtW r1 r2 r3 r1 r2 r3 c :=
  w.between R.ag.nd w.keys1 (fun x hx y hy => by rw [w.dd R hx hy]; exact Int.le_refl _) (fun x hx y hy => by rw [w.dd R hx hy]; exact w.cl.le x hx y hy)
/-- tables in another order -/
theorem dd_perm {u1 u2 : PTab} {u3 : STab} (a : Agree t1 t2 t3) (n3 : (t3.map (·.1)).Nodup) (p1 : u1.Perm t1) (p2 : u2.Perm t2) (p3 : u3.Perm t3) (x y : Str) : Mk.dd u1 u2 u3 x y = Mk.dd t1 t2 t3 x y := by
  have nd2 : (t2.map (·.1)).Nodup := a.pm.nodup_iff.mpr a.nd
  have e1 : ∀ k, look u1 k = look t1 k := fun k => (look_prm p1.symm a.nd k).symm
  have e2 : ∀ k, look u2 k = look t2 k := fun k => (look_prm p2.symm nd2 k).symm
  have e3 : ∀ k, look u3 k = look t3 k := fun k => (look_prm p3.symm n3 k).symm
  have e4 : ∀ k, k ∈ u3.map (·.1) ↔ k ∈ t3.map (·.1) := fun k => (p3.map (·.1)).mem_iff
  have e5 : dget u3 (x, y) (look u2 x + look u1 y) = dget t3 (x, y) (look t2 x + look t1 y) := by
    unfold dget
    by_cases m : (x, y) ∈ t3.map (·.1)
    · rw [if_pos m, if_pos ((e4 _).mpr m), e3]
    · rw [if_neg m, if_neg (fun z => m ((e4 _).mp z)), e1, e2]
  unfold Mk.dd
  rw [e5, e1, e2]
theorem CtW.order {u1 u2 r1 r2 : PTab} {u3 r3 : STab} {c : Str → Str → Int} (R : RtT t1 t2 t3) (w : CtW t1 t2 t3 r1 r2 r3 c) (p1 : u1.Perm t1) (p2 : u2.Perm t2) (p3 : u3.Perm t3) : CtW u1 u2 u3 r1 r2 r3 c :=
  w.between R.ag.nd (p1.map (·.1)) (fun x hx y hy => by rw [dd_perm R.ag R.nd p1 p2 p3]; exact w.cl.le x hx y hy) (fun x hx y hy => by rw [dd_perm R.ag R.nd p1 p2 p3]; exact Int.le_refl _)
theorem CtW.perm {s1 s2 r1 r2 : PTab} {s3 r3 : STab} {c : Str → Str → Int} (w : CtW t1 t2 t3 r1 r2 r3 c) (p1 : s1.Perm r1) (p2 : s2.Perm r2) (p3 : s3.Perm r3) : CtW t1 t2 t3 s1 s2 s3 c := ⟨w.cl, p1.trans w.p1, p2.trans w.p2, p3.trans w.p3⟩
theorem ct_of (R : RtT t1 t2 t3) : CtW t1 t2 t3 (tabP (t1.map (·.1)) (cc t1 t2 t3 "")) (tabP (t1.map (·.1)) fun z => cc t1 t2 t3 z "") (tabS (pairsOf (t1.map (·.1))) (cc t1 t2 t3)) (cc t1 t2 t3) := ⟨cl_of R, .refl _, .refl _, .refl _⟩
end
end Mk

set_option Elab.async false
set_option linter.all false
set_option maxRecDepth 100000
set_option maxHeartbeats 1000000
/-! the law's least costs are the closed ones -/
namespace Mk
open PySem L2

abbrev w1 (k : Nat) : Str := ⟨#[k]⟩
abbrev w2 (k m : Nat) : Str := ⟨#[k, m]⟩
theorem w1_app (k m : Nat) : w1 k ++ w1 m = w2 k m := rfl
theorem pre10 (k : Nat) : pre (w1 k) ((0 : Nat) : Int) = "" := rfl
theorem post11 (k : Nat) : post (w1 k) (((0 : Nat) : Int) + 1) = "" := rfl
theorem pre20 (k m : Nat) : pre (w2 k m) ((0 : Nat) : Int) = "" := rfl
theorem pre21 (k m : Nat) : pre (w2 k m) ((1 : Nat) : Int) = w1 k := rfl
theorem post21 (k m : Nat) : post (w2 k m) (((0 : Nat) : Int) + 1) = w1 m := rfl
theorem post22 (k m : Nat) : post (w2 k m) (((1 : Nat) : Int) + 1) = "" := rfl
theorem pre00 : pre "" ((0 : Nat) : Int) = "" := rfl
theorem post00 : post "" ((0 : Nat) : Int) = "" := rfl
theorem post10 (k : Nat) : post (w1 k) ((0 : Nat) : Int) = w1 k := rfl
theorem pre11 (k : Nat) : pre (w1 k) ((1 : Nat) : Int) = w1 k := rfl
theorem post1e (k : Nat) : post (w1 k) ((1 : Nat) : Int) = "" := rfl
theorem em_app (s : Str) : ("" : Str) ++ s = s := cs_inj (by rw [cs_append]; rfl)
theorem app_em (s : Str) : s ++ ("" : Str) = s := cs_inj (by rw [cs_append]; exact List.append_nil _)
/-- the words of at most two signs -/
def wordsOf (zs : List Str) : List Str := "" :: zs.flatMap fun a => a :: zs.map (a ++ ·)
def stepsOf (t1 t2 : PTab) (t3 : STab) (zs : List Str) : Stps Str := (wordsOf zs).map fun z => (z, bh t1 t2 t3 z)
/-- one change between words of at most two signs -/
inductive Ed (t1 t2 : PTab) (t3 : STab) (ks : List Str) : Str → Str → Int → Prop
  | put0 {m : Nat} : w1 m ∈ ks → Ed t1 t2 t3 ks "" (w1 m) (look t1 (w1 m))
  | out1 {k : Nat} : w1 k ∈ ks → Ed t1 t2 t3 ks (w1 k) "" (look t2 (w1 k))
  | swap1 {k m : Nat} : w1 k ∈ ks → w1 m ∈ ks → (w1 k, w1 m) ∈ t3.map (·.1) → Ed t1 t2 t3 ks (w1 k) (w1 m) (look t3 (w1 k, w1 m))
  | putA {k m : Nat} : w1 k ∈ ks → w1 m ∈ ks → Ed t1 t2 t3 ks (w1 k) (w2 m k) (look t1 (w1 m))
  | putB {k m : Nat} : w1 k ∈ ks → w1 m ∈ ks → Ed t1 t2 t3 ks (w1 k) (w2 k m) (look t1 (w1 m))
  | outA {k m : Nat} : w1 k ∈ ks → w1 m ∈ ks → Ed t1 t2 t3 ks (w2 k m) (w1 m) (look t2 (w1 k))
  | outB {k m : Nat} : w1 k ∈ ks → w1 m ∈ ks → Ed t1 t2 t3 ks (w2 k m) (w1 k) (look t2 (w1 m))
  | swapA {k m j : Nat} : w1 k ∈ ks → w1 m ∈ ks → w1 j ∈ ks → (w1 k, w1 j) ∈ t3.map (·.1) → Ed t1 t2 t3 ks (w2 k m) (w2 j m) (look t3 (w1 k, w1 j))
  | swapB {k m j : Nat} : w1 k ∈ ks → w1 m ∈ ks → w1 j ∈ ks → (w1 m, w1 j) ∈ t3.map (·.1) → Ed t1 t2 t3 ks (w2 k m) (w2 k j) (look t3 (w1 m, w1 j))
section
variable {t1 t2 : PTab} {t3 : STab} {zs : List Str}
theorem one_sign {ks : List Str} (h : ∀ z ∈ ks, sgB z = true) {z : Str} (hz : z ∈ ks) : ∃ k, z = w1 k := by
  have := h z hz
  unfold sgB at this
  simp only [Bool.and_eq_true, decide_eq_true_eq] at this
  exact len_one this.1
theorem in_words {z : Str} (h : z ∈ wordsOf zs) : z = "" ∨ z ∈ zs ∨ ∃ a ∈ zs, ∃ b ∈ zs, z = a ++ b := by
  unfold wordsOf at h
  rcases List.mem_cons.mp h with h | h
  · exact .inl h
  · obtain ⟨a, ha, h⟩ := List.mem_flatMap.mp h
    rcases List.mem_cons.mp h with h | h
    · exact .inr (.inl (h ▸ ha))
    · obtain ⟨b, hb, e⟩ := List.mem_map.mp h
      exact .inr (.inr ⟨a, ha, b, hb, e.symm⟩)
theorem mem_bhA {w : Str} {i : Nat} {e : Str × Int} : e ∈ bhA t1 t2 t3 w i ↔ e = (pre w i ++ post w ((i : Int) + 1), look t2 (sgAt w i)) ∨ ∃ s ∈ t1.map (·.1), (sgAt w i, s) ∈ t3.map (·.1) ∧ e = (pre w i ++ s ++ post w ((i : Int) + 1), look t3 (sgAt w i, s)) := by
  unfold bhA
  rw [List.mem_cons, List.mem_flatMap]
  constructor
  · rintro (h | ⟨s, hs, h⟩)
    · exact .inl h
    · unfold bhS at h
      by_cases c : (sgAt w i, s) ∈ t3.map (·.1)
      · rw [if_pos c] at h
        exact .inr ⟨s, hs, c, List.mem_singleton.mp h⟩
      · rw [if_neg c] at h
        cases h
  · rintro (h | ⟨s, hs, c, h⟩)
    · exact .inl h
    · refine .inr ⟨s, hs, ?_⟩
      unfold bhS
      rw [if_pos c, h]
      exact List.mem_singleton.mpr rfl
theorem mem_bhB {w : Str} {i : Nat} {e : Str × Int} : e ∈ bhB t1 w i ↔ ∃ s ∈ t1.map (·.1), e = (pre w i ++ s ++ post w i, look t1 s) := by
  unfold bhB
  rw [List.mem_map]
  constructor
  · rintro ⟨s, hs, h⟩
    exact ⟨s, hs, h.symm⟩
  · rintro ⟨s, hs, h⟩
    exact ⟨s, hs, h.symm⟩
theorem bh0 {e : Str × Int} : e ∈ bh t1 t2 t3 "" ↔ ∃ s ∈ t1.map (·.1), e = (s, look t1 s) := by
  have h : bh t1 t2 t3 "" = bhB t1 "" 0 := List.append_nil _
  rw [h, mem_bhB]
  refine exists_congr fun s => and_congr_right fun _ => ?_
  rw [pre00, post00, em_app, app_em]
theorem bh1 {k : Nat} {e : Str × Int} : e ∈ bh t1 t2 t3 (w1 k) ↔ e = (("" : Str), look t2 (w1 k)) ∨ (∃ s ∈ t1.map (·.1), (w1 k, s) ∈ t3.map (·.1) ∧ e = (s, look t3 (w1 k, s))) ∨ (∃ s ∈ t1.map (·.1), e = (s ++ w1 k, look t1 s)) ∨ ∃ s ∈ t1.map (·.1), e = (w1 k ++ s, look t1 s) := by
  have h : bh t1 t2 t3 (w1 k) = bhA t1 t2 t3 (w1 k) 0 ++ [] ++ (bhB t1 (w1 k) 0 ++ (bhB t1 (w1 k) 1 ++ [])) := rfl
  have c : sgAt (w1 k) 0 = w1 k := rfl
  rw [h, List.append_nil, List.append_nil, List.mem_append, List.mem_append, mem_bhA, mem_bhB, mem_bhB, pre10, post11, post10, pre11, post1e, c]
  simp only [em_app, app_em, or_assoc]
theorem bh2 {k m : Nat} {e : Str × Int} : e ∈ bh t1 t2 t3 (w2 k m) ↔ e = (w1 m, look t2 (w1 k)) ∨ (∃ s ∈ t1.map (·.1), (w1 k, s) ∈ t3.map (·.1) ∧ e = (s ++ w1 m, look t3 (w1 k, s))) ∨ e = (w1 k, look t2 (w1 m)) ∨ ∃ s ∈ t1.map (·.1), (w1 m, s) ∈ t3.map (·.1) ∧ e = (w1 k ++ s, look t3 (w1 m, s)) := by
  have h : bh t1 t2 t3 (w2 k m) = bhA t1 t2 t3 (w2 k m) 0 ++ (bhA t1 t2 t3 (w2 k m) 1 ++ []) ++ [] := rfl
  have c0 : sgAt (w2 k m) 0 = w1 k := rfl
  have c1 : sgAt (w2 k m) 1 = w1 m := rfl
  rw [h, List.append_nil, List.append_nil, List.mem_append, mem_bhA, mem_bhA, pre20, post21, pre21, post22, c0, c1]
  simp only [em_app, app_em, or_assoc]
theorem ed_of (sg : ∀ z ∈ t1.map (·.1), sgB z = true) (p : ∀ z, z ∈ zs ↔ z ∈ t1.map (·.1)) {z y : Str} {q : Int} (e : Edge (stepsOf t1 t2 t3 zs) z y q) : Ed t1 t2 t3 (t1.map (·.1)) z y q := by
  obtain ⟨es, h1, h2⟩ := e
  unfold stepsOf at h1
  obtain ⟨z', hz, e⟩ := List.mem_map.mp h1
  cases e
  rcases in_words hz with rfl | hz | ⟨a, ha, b, hb, rfl⟩
  · obtain ⟨s, hs, e⟩ := bh0.mp h2
    cases e
    obtain ⟨m, rfl⟩ := one_sign sg hs
    exact .put0 hs
  · have hk := (p z).mp hz
    obtain ⟨k, rfl⟩ := one_sign sg hk
    rcases bh1.mp h2 with e | ⟨s, hs, c, e⟩ | ⟨s, hs, e⟩ | ⟨s, hs, e⟩
    · cases e
      exact .out1 hk
    · cases e
      obtain ⟨m, rfl⟩ := one_sign sg hs
      exact .swap1 hk hs c
    · cases e
      obtain ⟨m, rfl⟩ := one_sign sg hs
      exact .putA hk hs
    · cases e
      obtain ⟨m, rfl⟩ := one_sign sg hs
      exact .putB hk hs
  · have hk := (p a).mp ha
    have hm := (p b).mp hb
    obtain ⟨k, rfl⟩ := one_sign sg hk
    obtain ⟨m, rfl⟩ := one_sign sg hm
    rcases bh2.mp h2 with e | ⟨s, hs, c, e⟩ | e | ⟨s, hs, c, e⟩
    · cases e
      exact .outA hk hm
    · cases e
      obtain ⟨j, rfl⟩ := one_sign sg hs
      exact .swapA hk hm hs c
    · cases e
      exact .outB hk hm
    · cases e
      obtain ⟨j, rfl⟩ := one_sign sg hs
      exact .swapB hk hm hs c
theorem to_edge {z y : Str} {q : Int} (hz : z ∈ wordsOf zs) (h : (y, q) ∈ bh t1 t2 t3 z) : Edge (stepsOf t1 t2 t3 zs) z y q := ⟨_, List.mem_map.mpr ⟨z, hz, rfl⟩, h⟩
/-- a number that no walk goes below -/
def pot (c : Str → Str → Int) (x z : Str) : Int := match z.cps.toList with
  | [] => c x ""
  | [k] => c x (w1 k)
  | [k, m] => min (c x (w1 k) + c "" (w1 m)) (c "" (w1 k) + c x (w1 m))
  | _ => 0
theorem pot0 (c : Str → Str → Int) (x : Str) : pot c x "" = c x "" := rfl
theorem pot1 (c : Str → Str → Int) (x : Str) (k : Nat) : pot c x (w1 k) = c x (w1 k) := rfl
theorem pot2 (c : Str → Str → Int) (x : Str) (k m : Nat) : pot c x (w2 k m) = min (c x (w1 k) + c "" (w1 m)) (c "" (w1 k) + c x (w1 m)) := rfl
theorem cl_swap {c : Str → Str → Int} (a : Agree t1 t2 t3) (h : IsCl (plc t1) (dd t1 t2 t3) c) {x y : Str} (m : (x, y) ∈ t3.map (·.1)) : c x y ≤ look t3 (x, y) := by
  obtain ⟨q, hq, e⟩ := List.mem_map.mp m
  have := a.pr q hq
  rw [e] at this
  obtain ⟨h1, h2, h3⟩ := this
  have h1 : x ∈ t1.map (·.1) := h1
  have h2 : y ∈ t1.map (·.1) := h2
  have n1 : x ≠ "" := fun e => em_not a (e ▸ h1)
  have n2 : y ≠ "" := fun e => em_not a (e ▸ h2)
  have l := h.le x (List.mem_cons_of_mem _ h1) y (List.mem_cons_of_mem _ h2)
  unfold dd dget at l
  rwa [if_neg h3, if_neg n1, if_neg n2, if_pos m] at l
theorem pot_ed {c : Str → Str → Int} (R : RtT t1 t2 t3) (h : IsCl (plc t1) (dd t1 t2 t3) c) {x : Str} (hx : x ∈ plc t1) {z y : Str} {q : Int} (e : Ed t1 t2 t3 (t1.map (·.1)) z y q) : pot c x y ≤ pot c x z + q := by
  have a := R.ag
  have pl : ∀ {z : Str}, z ∈ t1.map (·.1) → z ∈ plc t1 := fun hz => List.mem_cons_of_mem _ hz
  have tri : ∀ {u v w : Str}, u ∈ plc t1 → v ∈ plc t1 → w ∈ plc t1 → c u v ≤ c u w + c w v := fun hu hv hw => h.tri _ hu _ hv _ hw
  have e0 : ("" : Str) ∈ plc t1 := em_in
  cases e with
  | put0 hm =>
    rw [pot0, pot1]
    have := tri hx (pl hm) e0
    have := cl_put a h hm
    omega
  | out1 hk =>
    rw [pot0, pot1]
    have := tri hx e0 (pl hk)
    have := cl_out a h hk
    omega
  | swap1 hk hm s =>
    rw [pot1, pot1]
    have := tri hx (pl hm) (pl hk)
    have := cl_swap a h s
    omega
  | putA hk hm =>
    rw [pot2, pot1]
    have := cl_put a h hm
    omega
  | putB hk hm =>
    rw [pot2, pot1]
    have := cl_put a h hm
    omega
  | @outA k m hk hm =>
    rw [pot2, pot1]
    have t1 := tri hx (pl hm) (pl hk)
    have t2 := tri (pl hk) (pl hm) e0
    have := cl_out a h hk
    have n1 : 0 ≤ c (w1 k) "" := Int.le_trans (by decide) (cl_least a h (m := 1) (by decide) R.bds.b1 R.bds.b2 R.bds.b3 (pl hk) e0 (fun e => em_not a (e ▸ hk)))
    have n2 : 0 ≤ c "" (w1 k) := Int.le_trans (by decide) (cl_least a h (m := 1) (by decide) R.bds.b1 R.bds.b2 R.bds.b3 e0 (pl hk) (fun e => em_not a (e ▸ hk)))
    omega
  | @outB k m hk hm =>
    rw [pot2, pot1]
    have t1 := tri hx (pl hk) (pl hm)
    have t2 := tri (pl hm) (pl hk) e0
    have := cl_out a h hm
    have n1 : 0 ≤ c (w1 m) "" := Int.le_trans (by decide) (cl_least a h (m := 1) (by decide) R.bds.b1 R.bds.b2 R.bds.b3 (pl hm) e0 (fun e => em_not a (e ▸ hm)))
    have n2 : 0 ≤ c "" (w1 m) := Int.le_trans (by decide) (cl_least a h (m := 1) (by decide) R.bds.b1 R.bds.b2 R.bds.b3 e0 (pl hm) (fun e => em_not a (e ▸ hm)))
    omega
  | swapA hk hm hj s =>
    rw [pot2, pot2]
    have t1 := tri hx (pl hj) (pl hk)
    have t2 := tri e0 (pl hj) (pl hk)
    have := cl_swap a h s
    omega
  | swapB hk hm hj s =>
    rw [pot2, pot2]
    have t1 := tri hx (pl hj) (pl hm)
    have t2 := tri e0 (pl hj) (pl hm)
    have := cl_swap a h s
    omega
theorem ed_ge (R : RtT t1 t2 t3) {z y : Str} {q : Int} (e : Ed t1 t2 t3 (t1.map (·.1)) z y q) : 0 ≤ q := by
  have b := R.bds
  have l1 : ∀ {s : Str}, s ∈ t1.map (·.1) → 0 ≤ look t1 s := fun h => Int.le_trans (by decide) (look_b b.b1 h).1
  have l2 : ∀ {s : Str}, s ∈ t1.map (·.1) → 0 ≤ look t2 s := fun h => Int.le_trans (by decide) (look_b b.b2 (R.ag.pm.mem_iff.mpr h)).1
  have l3 : ∀ {s : Str × Str}, s ∈ t3.map (·.1) → 0 ≤ look t3 s := fun h => Int.le_trans (by decide) (look_b b.b3 h).1
  cases e with
  | put0 h => exact l1 h
  | out1 h => exact l2 h
  | swap1 _ _ h => exact l3 h
  | putA _ h => exact l1 h
  | putB _ h => exact l1 h
  | outA h _ => exact l2 h
  | outB _ h => exact l2 h
  | swapA _ _ _ h => exact l3 h
  | swapB _ _ _ h => exact l3 h
theorem pot_walk {c : Str → Str → Int} (R : RtT t1 t2 t3) (h : IsCl (plc t1) (dd t1 t2 t3) c) (p : ∀ z, z ∈ zs ↔ z ∈ t1.map (·.1)) (sg : ∀ z ∈ t1.map (·.1), sgB z = true) {x : Str} (hx : x ∈ plc t1) (px : pot c x x = c x x) : ∀ {l : List Str} {y : Str} {q : Int}, Wkl (stepsOf t1 t2 t3 zs) x l y q → pot c x y ≤ q
  | _, _, _, .nil => by rw [px, h.zero x hx]; exact Int.le_refl _
  | _, _, _, .snoc w e => by
    have a := pot_walk R h p sg hx px w
    have b := pot_ed R h hx (ed_of sg p e)
    omega
/-- what is found is the closed cost -/
theorem found_cl {c : Str → Str → Int} (R : RtT t1 t2 t3) (h : IsCl (plc t1) (dd t1 t2 t3) c) (p : ∀ z, z ∈ zs ↔ z ∈ t1.map (·.1)) {x y : Str} (hx : x ∈ plc t1) (hy : y ∈ plc t1) :
    y ∈ (rounds (stepsOf t1 t2 t3 zs) (stepsOf t1 t2 t3 zs).length [(x, 0)]).map (·.1) ∧ look (rounds (stepsOf t1 t2 t3 zs) (stepsOf t1 t2 t3 zs).length [(x, 0)]) y = c x y := by
  have a := R.ag
  have sg : ∀ z ∈ t1.map (·.1), sgB z = true := fun z hz => by
    obtain ⟨q, hq, e⟩ := List.mem_map.mp hz
    rw [← e]
    exact a.sg q hq
  have hp : ∀ z y p', Edge (stepsOf t1 t2 t3 zs) z y p' → 0 ≤ p' := fun z y p' e => ed_ge R (ed_of sg p e)
  obtain ⟨F, S⟩ := rounds_shut (w := x) hp
  generalize rounds (stepsOf t1 t2 t3 zs) (stepsOf t1 t2 t3 zs).length [(x, 0)] = f at F S ⊢
  have w0 : ("" : Str) ∈ wordsOf zs := List.mem_cons_self
  have ws : ∀ {s : Str}, s ∈ t1.map (·.1) → s ∈ wordsOf zs := fun {s} hs => List.mem_cons_of_mem _ (List.mem_flatMap.mpr ⟨s, (p s).mpr hs, List.mem_cons_self⟩)
  have eput : ∀ {s : Str}, s ∈ t1.map (·.1) → Edge (stepsOf t1 t2 t3 zs) "" s (look t1 s) := fun {s} hs => to_edge w0 (bh0.mpr ⟨s, hs, rfl⟩)
  have eout : ∀ {s : Str}, s ∈ t1.map (·.1) → Edge (stepsOf t1 t2 t3 zs) s "" (look t2 s) := fun {s} hs => by
    obtain ⟨k, rfl⟩ := one_sign sg hs
    exact to_edge (ws hs) (bh1.mpr (.inl rfl))
  have eswap : ∀ {s t : Str}, s ∈ t1.map (·.1) → t ∈ t1.map (·.1) → (s, t) ∈ t3.map (·.1) → Edge (stepsOf t1 t2 t3 zs) s t (look t3 (s, t)) := fun {s t} hs ht m => by
    obtain ⟨k, rfl⟩ := one_sign sg hs
    exact to_edge (ws hs) (bh1.mpr (.inr (.inl ⟨t, ht, m, rfl⟩)))
  have all0 : ("" : Str) ∈ f.map (·.1) := by
    by_cases e : x = ""
    · rw [← e]
      exact F.start.1
    · exact (S _ _ _ (eout (pl_em hx e)) F.start.1).1
  have all : ∀ z ∈ plc t1, z ∈ f.map (·.1) := fun z hz => by
    by_cases e : z = ""
    · rw [e]
      exact all0
    · exact (S _ _ _ (eput (pl_em hz e)) all0).1
  refine ⟨all y hy, ?_⟩
  have px : pot c x x = c x x := by
    by_cases e : x = ""
    · rw [e]
      rfl
    · obtain ⟨k, rfl⟩ := one_sign sg (pl_em hx e)
      rfl
  have py : pot c x y = c x y := by
    by_cases e : y = ""
    · rw [e]
      rfl
    · obtain ⟨k, rfl⟩ := one_sign sg (pl_em hy e)
      rfl
  obtain ⟨l, W⟩ := F.real y (all y hy)
  have lo := pot_walk R h p sg hx px W
  rw [py] at lo
  obtain ⟨l2, W2⟩ := F.real x F.start.1
  have x0 := pot_walk R h p sg hx px W2
  rw [px, h.zero x hx] at x0
  have hi := h.max (fun z => look f z) (fun z hz y hy => by
    show look f y ≤ look f z + dd t1 t2 t3 z y
    unfold dd
    by_cases e0 : z = y
    · rw [if_pos e0, e0]
      omega
    · rw [if_neg e0]
      by_cases e1 : z = ""
      · rw [if_pos e1, e1]
        exact (S _ _ _ (eput (pl_em hy fun e => e0 (e1.trans e.symm))) all0).2
      · rw [if_neg e1]
        have hz' := pl_em hz e1
        by_cases e2 : y = ""
        · rw [if_pos e2, e2]
          exact (S _ _ _ (eout hz') (all z hz)).2
        · rw [if_neg e2]
          have hy' := pl_em hy e2
          unfold dget
          by_cases m : (z, y) ∈ t3.map (·.1)
          · rw [if_pos m]
            exact (S _ _ _ (eswap hz' hy' m) (all z hz)).2
          · rw [if_neg m]
            have a1 := (S _ _ _ (eout hz') (all z hz)).2
            have a2 := (S _ _ _ (eput hy') all0).2
            omega) x hx y hy
  have hi : look f y ≤ look f x + c x y := hi
  have := F.start.2
  omega
end
end Mk

set_option Elab.async false
set_option linter.all false
set_option maxRecDepth 100000
set_option maxHeartbeats 1000000
/-! the words of at most two signs -/
namespace Mk
open PySem L2
/-- words behind the empty one -/
def wl (zs ks : List Str) : List Str := "" :: ks.flatMap fun a => a :: zs.map (a ++ ·)
theorem wl_take (zs ks : List Str) {i : Nat} (h : i < ks.length) : wl zs (ks.take (i + 1)) = wl zs (ks.take i) ++ [ks[i]] ++ zs.map (ks[i] ++ ·) := by
  unfold wl
  rw [List.take_add_one, List.getElem?_eq_getElem h, List.flatMap_append]
  simp
theorem wl_len (zs ks : List Str) : (wl zs ks).length = 1 + ks.length * (1 + zs.length) := by
  unfold wl
  rw [List.length_cons]
  have : (ks.flatMap fun a => a :: zs.map (a ++ ·)).length = ks.length * (1 + zs.length) := by
    induction ks with
    | nil => simp
    | cons k ks ih =>
      rw [List.flatMap_cons, List.length_append, ih, List.length_cons, List.length_cons, List.length_map, Nat.add_mul]
      omega
  omega
section
variable {zs : List Str}
theorem words_len (sg : ∀ z ∈ zs, sgB z = true) {z : Str} (h : z ∈ wordsOf zs) : z.length ≤ 2 := by
  rcases in_words h with rfl | h | ⟨a, ha, b, hb, rfl⟩
  · decide
  · obtain ⟨k, rfl⟩ := one_sign sg h
    show 1 ≤ 2
    decide
  · obtain ⟨k, rfl⟩ := one_sign sg ha
    obtain ⟨m, rfl⟩ := one_sign sg hb
    show 2 ≤ 2
    decide
theorem words_at (sg : ∀ z ∈ zs, sgB z = true) {z : Str} (h : z ∈ wordsOf zs) {i : Nat} (hi : i < z.length) : sgAt z i ∈ zs := by
  rcases in_words h with rfl | h | ⟨a, ha, b, hb, rfl⟩
  · exact absurd hi (Nat.not_lt_zero _)
  · obtain ⟨k, rfl⟩ := one_sign sg h
    have hi : i < 1 := hi
    obtain rfl : i = 0 := by omega
    exact h
  · obtain ⟨k, rfl⟩ := one_sign sg ha
    obtain ⟨m, rfl⟩ := one_sign sg hb
    have hi : i < 2 := hi
    rcases (show i = 0 ∨ i = 1 by omega) with rfl | rfl
    · exact ha
    · exact hb
theorem words_nd (sg : ∀ z ∈ zs, sgB z = true) (nd : zs.Nodup) : (wordsOf zs).Nodup := by
  unfold wordsOf
  rw [List.nodup_cons]
  constructor
  · intro m
    obtain ⟨a, ha, m⟩ := List.mem_flatMap.mp m
    obtain ⟨k, rfl⟩ := one_sign sg ha
    rcases List.mem_cons.mp m with m | m
    · exact absurd (congrArg Str.length m) (by show ¬ (0 : Nat) = 1; decide)
    · obtain ⟨b, hb, e⟩ := List.mem_map.mp m
      obtain ⟨j, rfl⟩ := one_sign sg hb
      exact absurd (congrArg Str.length e) (by show ¬ (2 : Nat) = 0; decide)
  · unfold List.Nodup
    rw [List.pairwise_flatMap]
    refine ⟨fun a ha => ?_, List.Pairwise.imp_of_mem (fun {a b} ha hb ne => ?_) nd⟩
    · obtain ⟨k, rfl⟩ := one_sign sg ha
      rw [List.pairwise_cons]
      refine ⟨fun y hy e => ?_, ?_⟩
      · obtain ⟨b, hb, e2⟩ := List.mem_map.mp hy
        obtain ⟨j, rfl⟩ := one_sign sg hb
        rw [← e] at e2
        exact absurd (congrArg Str.length e2) (by show ¬ (2 : Nat) = 1; decide)
      · rw [List.pairwise_map]
        refine List.Pairwise.imp (fun {x y} n e => n ?_) nd
        have := congrArg cs e
        rw [cs_append, cs_append] at this
        exact cs_inj (List.append_cancel_left this)
    · obtain ⟨k, rfl⟩ := one_sign sg ha
      obtain ⟨j, rfl⟩ := one_sign sg hb
      have hd : ∀ {k : Nat} {x : Str}, x ∈ (w1 k :: zs.map (w1 k ++ ·)) → (cs x).head? = some k := fun {k x} h => by
        rcases List.mem_cons.mp h with rfl | h
        · rfl
        · obtain ⟨b, _, rfl⟩ := List.mem_map.mp h
          rw [cs_append]
          rfl
      intro x hx y hy e
      have h1 := hd hx
      have h2 := hd hy
      rw [e, h2] at h1
      cases h1
      exact ne rfl
theorem ed_in {t1 t2 : PTab} {t3 : STab} (p : ∀ z, z ∈ zs ↔ z ∈ t1.map (·.1)) {z y : Str} {q : Int} (e : Ed t1 t2 t3 (t1.map (·.1)) z y q) : y ∈ wordsOf zs := by
  have s1 : ∀ {k : Nat}, w1 k ∈ t1.map (·.1) → w1 k ∈ wordsOf zs := fun h => List.mem_cons_of_mem _ (List.mem_flatMap.mpr ⟨_, (p _).mpr h, List.mem_cons_self⟩)
  have s2 : ∀ {k m : Nat}, w1 k ∈ t1.map (·.1) → w1 m ∈ t1.map (·.1) → w2 k m ∈ wordsOf zs := fun {k m} h h' => List.mem_cons_of_mem _ (List.mem_flatMap.mpr ⟨_, (p _).mpr h, List.mem_cons_of_mem _ (List.mem_map.mpr ⟨w1 m, (p _).mpr h', rfl⟩)⟩)
  cases e with
  | put0 h => exact s1 h
  | out1 h => exact List.mem_cons_self
  | swap1 _ h _ => exact s1 h
  | putA h h' => exact s2 h' h
  | putB h h' => exact s2 h h'
  | outA _ h => exact s1 h
  | outB h _ => exact s1 h
  | swapA _ h h' _ => exact s2 h' h
  | swapB h _ h' _ => exact s2 h h'
end
theorem steps_keys (t1 t2 : PTab) (t3 : STab) (zs : List Str) : (stepsOf t1 t2 t3 zs).map (·.1) = wordsOf zs := by
  unfold stepsOf
  rw [List.map_map]
  exact List.map_id _
theorem steps_len (t1 t2 : PTab) (t3 : STab) (zs : List Str) : (stepsOf t1 t2 t3 zs).length = (wordsOf zs).length := by
  unfold stepsOf
  rw [List.length_map]
theorem rows_of {H : Hp} {t1 t2 : PTab} {t3 : STab} : ∀ {l : List (Str × Addr)}, (∀ p ∈ l, RowAt H p.2 (bh t1 t2 t3 p.1)) → Paired (fun (p : Str × Addr) (q : Str × PTab) => p.1 = q.1 ∧ RowAt H p.2 q.2) l ((l.map (·.1)).map fun z => (z, bh t1 t2 t3 z))
  | [], _ => .nil
  | p :: l, h => .cons ⟨rfl, h p List.mem_cons_self⟩ (rows_of fun q hq => h q (List.mem_cons_of_mem _ hq))
end Mk

set_option Elab.async false
set_option linter.all false
set_option maxRecDepth 100000
set_option maxHeartbeats 1000000
/-! _least_costs and costs_by_ends -/
namespace Mk
open PySem PySem.Spec L2 PyProof.Rows

abbrev sLeast : Stmt := top 31
abbrev sByEnds : Stmt := top 22
def spLc : Sp := fun vs H Q _ => ∃ (p o s : Addr) (t1 t2 : PTab) (t3 : STab), vs = [.ref p, .ref o, .ref s] ∧ p ≠ o ∧ Tabs H p o s t1 t2 t3 ∧ (∀ k ∈ t1.map (·.1), k ∈ t2.map (·.1)) ∧ t1.length ≤ 5 ∧ ("" : Str) ∉ t1.map (·.1) ∧
  ∀ H' c, Same H H' → H c = none → H' c = some (.dT (kvsS (lc t1 t2 t3))) → Q (.ref c) H'
abbrev nLc : List Str := ["put", "out", "swap", "costs", "places", "via", "one", "other", "way"]
/-- the walk's dict, with the keys that it had -/
structure Wk3 (H0 H1 : Hp) (c : Addr) (D0 D : STab) : Prop where
  wy : Wy H0 H1 c D
  keys : D.map (·.1) = D0.map (·.1)
theorem min_if (i j : Int) : (if j < i then j else i) = min i j := by
  split <;> omega
section
variable {P : Program} {w : World} {K : PySem.W.Frag} {mg : Str → Option Value} {base : Heap}
theorem scLeast : FnScope nLc ["put", "out", "swap"] (defScope sLeast) := ⟨rfl, rfl, rfl, by decide +kernel, rfl, by decide +kernel, by decide +kernel⟩
theorem ok_least {f : Addr} {fd : FuncData} (F : Fun K "_least_costs" "_least_costs" sLeast f fd) (B : Bn mg) (J : Cd P w K mg base 1 "_direct_costs" ["put", "out", "swap"] spDir) : FnOk P w K mg base CX0 2 f fd ["put", "out", "swap"] spLc := by
  obtain ⟨j, dj, G, gm, gk, gb⟩ := J.ex
  refine F.ok scLeast (fun vs H Q E h => ?_) (fun cdv A outer s H vs Q E hr h => ?_)
  · obtain ⟨p, o, s, t1, t2, t3, rfl, _⟩ := h
    rfl
  · have hu := hu_of hr
    obtain ⟨p, o, s, t1, t2, t3, rfl, po, hT, sub, hl, n0, q⟩ := h
    refine ⟨_, pss_cons (ps_set (i := 3) scLeast.nd rfl (.inl rfl) (pe_call G hr (by rfl) gm gk gb .nil pass0 (pa_cons (pv 0) (pa_cons (pv 1) (pa_cons (pv 2) pa_nil)))))
      (pss_cons (ps_set (i := 4) scLeast.nd rfl (.inl rfl) (pe_op op_cat (pe_lst (pa_cons pe_str pa_nil)) (pe_callTy (call_list_dK rfl) (by rfl) B.list (by decide +kernel) (pa_cons (pv 0) pa_nil))))
      (pss_cons (ps_for PassesOwn.never rfl (pi_list (pv 4)) (pg_name (i := 5) scLeast.nd rfl (.inl rfl))
        (pss_one (ps_for PassesOwn.never rfl (pi_list (pv 4)) (pg_name (i := 6) scLeast.nd rfl (.inl rfl))
          (pss_one (ps_for PassesOwn.never rfl (pi_list (pv 4)) (pg_name (i := 7) scLeast.nd rfl (.inl rfl))
            (pss_cons (ps_set (i := 8) scLeast.nd rfl (.inl rfl) (pe_op op_add (pe_dget hu (pv 3) (pe_tup (pa_cons (pv 6) (pa_cons (pv 5) pa_nil))) (fun _ _ => rfl)) (pe_dget hu (pv 3) (pe_tup (pa_cons (pv 5) (pa_cons (pv 7) pa_nil))) (fun _ _ => rfl))))
            (pss_one (ps_dput hu (pv 3) (pe_tup (pa_cons (pv 6) (pa_cons (pv 7) pa_nil))) (pe_callB (call_min2 rfl) (by rfl) B.min (by decide +kernel) (pa_cons (pe_dget hu (pv 3) (pe_tup (pa_cons (pv 6) (pa_cons (pv 7) pa_nil))) (fun _ _ => rfl)) (pa_cons (pv 8) pa_nil))) rfl))))))))
      (pss_one (ps_ret (pv 3))))), ?_⟩
    have n2 : 2 ≤ sizeLine := by decide
    refine ⟨_, rfl, _, rfl, _, rfl, p, o, s, t1, t2, t3, rfl, po, hT, sub, hl, fun H1 c s1 hc ec => ?_⟩
    refine ⟨by show 1 ≤ sizeLine; decide, fun l1 hl1 => ?_⟩
    have s2 := Same.trans s1 (Same.new (o := .lst [V.str ""]) hl1)
    refine ⟨_, rfl, p, _, rfl, s2 _ _ hT.p, fun l2 hl2 => ?_⟩
    have el1 : (upd (upd H1 l1 (.lst [V.str ""])) l2 (.lst ((kvsP t1).map fun kv => kV kv.1))) l1 = some (.lst [V.str ""]) := by
      rw [upd_ne (ne_of_none upd_same hl2)]
      exact upd_same
    have el2 : (kvsP t1).map (fun kv => kV kv.1) = (t1.map (·.1)).map V.str := by
      unfold kvsP
      rw [List.map_map, List.map_map]
      rfl
    refine ⟨l1, l2, _, _, rfl, rfl, el1, upd_same, ?_, fun L hL => ?_⟩
    · rw [List.length_map, kvsP_len, sizeLine_eq]
      show 1 + t1.length ≤ _
      omega
    have ec2 := (Same.new (o := .lst ((kvsP t1).map fun kv => kV kv.1)) hl2) _ _ ((Same.new (o := .lst [V.str ""]) hl1) _ _ ec)
    have s3 := Same.trans (Same.trans s2 (Same.new (o := .lst ((kvsP t1).map fun kv => kV kv.1)) hl2)) (Same.new (o := .lst ([V.str ""] ++ (kvsP t1).map fun kv => kV kv.1)) hL)
    have ec3 := (Same.new (o := .lst ([V.str ""] ++ (kvsP t1).map fun kv => kV kv.1)) hL) _ _ ec2
    have eL : (upd (upd (upd H1 l1 (.lst [V.str ""])) l2 (.lst ((kvsP t1).map fun kv => kV kv.1))) L (.lst ([V.str ""] ++ (kvsP t1).map fun kv => kV kv.1))) L = some (.lst ((plc t1).map V.str)) := by
      rw [upd_same, el2]
      rfl
    have Lc : L ≠ c := (ne_of_none ec2 hL).symm
    generalize upd (upd (upd H1 l1 (.lst [V.str ""])) l2 (.lst ((kvsP t1).map fun kv => kV kv.1))) L (.lst ([V.str ""] ++ (kvsP t1).map fun kv => kV kv.1)) = HL at s3 ec3 eL ⊢
    clear ec2 el1 el2 s2 hL hl1 hl2
    have hk : ∀ x ∈ plc t1, ∀ y ∈ plc t1, (x, y) ∈ (dir t1 t2 t3).map (·.1) := fun x hx y hy => (dir_keys n0).mpr ⟨hx, hy⟩
    have hq : ∀ H', Wy HL H' c (lc t1 t2 t3) → Q (.ref c) H' := fun H' W => q H' c (fun b u e => W.same _ _ (ne_of_none e hc) (s3 _ _ e)) hc W.out
    have hq2 : ∀ H', Wy HL H' c (fw (plc t1) (dir t1 t2 t3)) → Q (.ref c) H' := hq
    have hlen : (dir t1 t2 t3).length ≤ 41 := by
      have a := dirL_len t1 t2 t3 (t1.map (·.1)) (t1.map (·.1)) dir0
      have b : (t1.map (·.1)).length ≤ 5 := by rw [List.length_map]; exact hl
      have c : (t1.map (·.1)).length * ((t1.map (·.1)).length + 3) ≤ 5 * 8 := Nat.mul_le_mul b (by omega)
      have d : dir0.length = 1 := rfl
      exact Nat.le_trans a (by omega)
    generalize dir t1 t2 t3 = D0 at hk hq2 hlen ec3
    generalize plc t1 = Z at hk hq2 eL
    clear hq ec
    have at_ : ∀ {i : Nat} {x : V} (hi : i < (Z.map V.str).length), (Z.map V.str)[i]? = some x → ∃ h : i < Z.length, x = V.str Z[i] := fun {i x} hi hx => by
      have h : i < Z.length := by rwa [List.length_map] at hi
      rw [List.getElem?_map, List.getElem?_eq_getElem h] at hx
      exact ⟨h, (Option.some.inj hx).symm⟩
    have kl : ∀ {D : STab}, D.map (·.1) = D0.map (·.1) → D.length < 1000 := fun {D} e => by
      have : D.length = D0.length := by
        have := congrArg List.length e
        rwa [List.length_map, List.length_map] at this
      omega
    refine ⟨_, rfl, L, rfl, ⟨_, SqL.of eL⟩, for_it (walk_list (K := K) (a := L) (xs := Z.map V.str)) (fun i σ H2 => (∃ a b d e, σ = [some (.ref p), some (.ref o), some (.ref s), some (.ref c), some (.ref L), a, b, d, e]) ∧ Wk3 HL H2 c D0 ((Z.take i).foldl (fun D v => fw2 Z v D) D0)) ?_ (fun i σ H2 _ h2 => SqL.of (h2.2.wy.same _ _ Lc eL)) ?_ ?_⟩
    · exact ⟨⟨_, _, _, _, rfl⟩, ⟨fun b u _ e => e, ec3⟩, rfl⟩
    · rintro i x σ H2 H3 hi ⟨⟨a, b, d, e, rfl⟩, W⟩ ⟨rfl, hx⟩
      obtain ⟨hi2, rfl⟩ := at_ hi hx
      have nx : (Z.take (i + 1)).foldl (fun D v => fw2 Z v D) D0 = fw2 Z Z[i] ((Z.take i).foldl (fun D v => fw2 Z v D) D0) := foldl_take _ _ _ hi2
      rw [nx]
      generalize (Z.take i).foldl (fun D v => fw2 Z v D) D0 = D1 at W ⊢
      have mv : Z[i] ∈ Z := List.getElem_mem hi2
      generalize Z[i] = via at mv ⊢
      clear nx hi hi2 hx
      refine ⟨_, rfl, L, rfl, ⟨_, SqL.of (W.wy.same _ _ Lc eL)⟩, for_it (walk_list (K := K) (a := L) (xs := Z.map V.str)) (fun i σ H2 => (∃ b d e, σ = [some (.ref p), some (.ref o), some (.ref s), some (.ref c), some (.ref L), some (.str via), b, d, e]) ∧ Wk3 HL H2 c D0 ((Z.take i).foldl (fun D x => fw3 Z via x D) D1)) ?_ (fun i σ H2 _ h2 => SqL.of (h2.2.wy.same _ _ Lc eL)) ?_ ?_⟩
      · exact ⟨⟨_, _, _, rfl⟩, W⟩
      · rintro i x σ H2 H3 hi ⟨⟨b, d, e, rfl⟩, W⟩ ⟨rfl, hx⟩
        obtain ⟨hi2, rfl⟩ := at_ hi hx
        have nx : (Z.take (i + 1)).foldl (fun D x => fw3 Z via x D) D1 = fw3 Z via Z[i] ((Z.take i).foldl (fun D x => fw3 Z via x D) D1) := foldl_take _ _ _ hi2
        rw [nx]
        generalize (Z.take i).foldl (fun D x => fw3 Z via x D) D1 = D2 at W ⊢
        have mx : Z[i] ∈ Z := List.getElem_mem hi2
        generalize Z[i] = one at mx ⊢
        clear nx hi hi2 hx
        refine ⟨_, rfl, L, rfl, ⟨_, SqL.of (W.wy.same _ _ Lc eL)⟩, for_it (walk_list (K := K) (a := L) (xs := Z.map V.str)) (fun i σ H2 => (∃ d e, σ = [some (.ref p), some (.ref o), some (.ref s), some (.ref c), some (.ref L), some (.str via), some (.str one), d, e]) ∧ Wk3 HL H2 c D0 ((Z.take i).foldl (fun D y => relx D via one y) D2)) ?_ (fun i σ H2 _ h2 => SqL.of (h2.2.wy.same _ _ Lc eL)) ?_ ?_⟩
        · exact ⟨⟨_, _, rfl⟩, W⟩
        · rintro i x σ H2 H3 hi ⟨⟨d, e, rfl⟩, W⟩ ⟨rfl, hx⟩
          obtain ⟨hi2, rfl⟩ := at_ hi hx
          have nx : (Z.take (i + 1)).foldl (fun D y => relx D via one y) D2 = relx ((Z.take i).foldl (fun D y => relx D via one y) D2) via one Z[i] := foldl_take _ _ _ hi2
          rw [nx]
          generalize (Z.take i).foldl (fun D y => relx D via one y) D2 = D3 at W ⊢
          have my : Z[i] ∈ Z := List.getElem_mem hi2
          generalize Z[i] = other at my ⊢
          clear nx hi hi2 hx
          have k1 : (one, via) ∈ D3.map (·.1) := by rw [W.keys]; exact hk _ mx _ mv
          have k2 : (via, other) ∈ D3.map (·.1) := by rw [W.keys]; exact hk _ mv _ my
          have k3 : (one, other) ∈ D3.map (·.1) := by rw [W.keys]; exact hk _ mx _ my
          refine ⟨_, rfl, _, rfl, _, rfl, n2, fun a1 h1 => ⟨c, _, rfl, W.wy.get h1 k1, ?_⟩⟩
          have W1 := W.wy.new (o := .tup [.str one, .str via]) h1
          refine ⟨_, rfl, _, rfl, _, rfl, n2, fun a2 h2 => ⟨c, _, rfl, W1.get h2 k2, _, _, rfl, rfl, ?_⟩⟩
          have W2 := W1.new (o := .tup [.str via, .str other]) h2
          refine ⟨_, rfl, _, rfl, _, rfl, n2, fun a3 h3 => ⟨c, _, rfl, W2.get h3 k3, _, rfl, _, _, rfl, ?_⟩⟩
          have W3 := W2.new (o := .tup [.str one, .str other]) h3
          refine ⟨_, rfl, _, rfl, _, rfl, n2, fun a4 h4 => ?_⟩
          obtain ⟨H7, d7, W7⟩ := W3.put (x := one) (y := other) (i := min (look D3 (one, other)) (look D3 (one, via) + look D3 (via, other))) h4 (kl W.keys)
          rw [min_if]
          exact ⟨c, H7, rfl, d7, ⟨_, _, rfl⟩, W7, (relx_keys k3).trans W.keys⟩
        · rintro σ H2 ⟨⟨d, e, rfl⟩, W⟩
          rw [List.length_map, List.take_length] at W
          exact ⟨⟨_, _, _, rfl⟩, W⟩
      · rintro σ H2 ⟨⟨b, d, e, rfl⟩, W⟩
        rw [List.length_map, List.take_length] at W
        exact ⟨⟨_, _, _, _, rfl⟩, W⟩
    · rintro σ H2 ⟨⟨a, b, d, e, rfl⟩, W⟩
      rw [List.length_map, List.take_length] at W
      exact ⟨_, rfl, hq2 _ W.wy⟩
/-! costs_by_ends -/
def spBy (C : Addr) : Sp := fun vs H Q _ => ∃ (x : Addr) (t1 t2 : PTab) (t3 : STab), vs = [.ref x] ∧ PrAt C H x t1 t2 t3 ∧ RtT t1 t2 t3 ∧ Srt t1 t2 t3 ∧
  ∀ H' c, Same H H' → H c = none → H' c = some (.dT (kvsS (lc t1 t2 t3))) → Q (.ref c) H'
theorem scByEnds : FnScope ["prices"] ["prices"] (defScope sByEnds) := ⟨rfl, rfl, rfl, by decide +kernel, rfl, by decide +kernel, by decide +kernel⟩
theorem em_no {t1 t2 : PTab} {t3 : STab} (a : Agree t1 t2 t3) : ("" : Str) ∉ t1.map (·.1) := fun m => by
  obtain ⟨p, hp, e⟩ := List.mem_map.mp m
  have := a.sg p hp
  rw [e] at this
  exact absurd this (by decide +kernel)
theorem ok_by {f C : Addr} {fd : FuncData} (F : Fun K "costs_by_ends" "costs_by_ends" sByEnds f fd) (T : Pc K C) (J : Cd P w K mg base 2 "_least_costs" ["put", "out", "swap"] spLc) (P1 : Pd P w K mg base C 2 "put" (spTabP C fun t _ => t)) (P2 : Pd P w K mg base C 2 "out" (spTabP C fun _ t => t)) (P3 : Pd P w K mg base C 2 "swap" (spTabS C)) : FnOk P w K mg base CX0 4 f fd ["prices"] (spBy C) := by
  obtain ⟨j, dj, G, gm, gk, gb⟩ := J.ex
  obtain ⟨pa, ga, da, oa, Fa, ba⟩ := P1.ex
  obtain ⟨pb, gb2, db, ob, Fb, bb⟩ := P2.ex
  obtain ⟨pc, gc, dc, oc, Fc, bc⟩ := P3.ex
  refine F.ok scByEnds (fun vs H Q E h => ?_) (fun cdv A outer s H vs Q E hr h => ?_)
  · obtain ⟨x, t1, t2, t3, rfl, _⟩ := h
    rfl
  · obtain ⟨x, t1, t2, t3, rfl, hx, R, sr, q⟩ := h
    refine ⟨_, pss_one (ps_ret (pe_call G (hr.mono (by decide)) (by rfl) gm gk gb .nil pass0 (pa_cons (pe_prop (pv 0) T.cl oa Fa hr ba .nil pass0 rfl) (pa_cons (pe_prop (pv 0) T.cl ob Fb hr bb .nil pass0 rfl) (pa_cons (pe_prop (pv 0) T.cl oc Fc hr bc .nil pass0 rfl) pa_nil))))), ?_⟩
    have ag := R.ag
    have hl1 := ag.l1
    have hl2 := ag.l2
    have hl3 := ag.l3
    have nd2 : (t2.map (·.1)).Nodup := ag.pm.nodup_iff.mpr ag.nd
    obtain ⟨dx, t, a, b, d, hx0, ht, hT⟩ := id hx
    refine ⟨_, rfl, x, dx, _, rfl, hx0, x, t1, t2, t3, rfl, hx, ag.nd, (by show t1.length ≤ 60; omega), sr, fun H1 D1 s1 f1 e1 => ?_⟩
    refine ⟨_, rfl, x, dx, _, rfl, s1 _ _ hx0, x, t1, t2, t3, rfl, hx.same s1, nd2, (by show t2.length ≤ 60; omega), sr, fun H2 D2 s2 f2 e2 => ?_⟩
    have s12 := Same.trans s1 s2
    refine ⟨_, rfl, x, dx, _, rfl, s12 _ _ hx0, x, t1, t2, t3, rfl, hx.same s12, R.nd, by omega, sr, fun H3 D3 s3 f3 e3 => ?_⟩
    have g1 : H2 D1 = some (.dK (kvsP t1)) := s2 _ _ e1
    refine ⟨D1, D2, D3, t1, t2, t3, rfl, ne_of_none e1 f2, ⟨s3 _ _ g1, s3 _ _ e2, e3⟩, fun k hk => ag.pm.mem_iff.mpr hk, ag.l1, em_no ag, fun H4 c s4 hc ec => ?_⟩
    have s14 := Same.trans (Same.trans s12 s3) s4
    exact q _ c s14 ((Same.trans s12 s3).free hc) ec
end
end Mk

set_option Elab.async false
set_option linter.all false
set_option maxRecDepth 100000
set_option maxHeartbeats 1000000
/-! closed, is_closed, is_at_most -/
namespace Mk
open PySem PySem.Spec L2 PyProof.Rows

abbrev sClosed : Stmt := inClass (top 20) 7
abbrev sIsClosed : Stmt := inClass (top 20) 8
abbrev sIsAtMost : Stmt := inClass (top 20) 9
abbrev sChkPr : Stmt := top 21
def spClosed (C : Addr) : Sp := fun vs H Q _ => ∃ (x : Addr) (t1 t2 : PTab) (t3 : STab), vs = [.ref x] ∧ PrAt C H x t1 t2 t3 ∧ RtT t1 t2 t3 ∧ Srt t1 t2 t3 ∧
  ∀ H' y r1 r2 r3 c, Same H H' → H y = none → PrAt C H' y r1 r2 r3 → CtW t1 t2 t3 r1 r2 r3 c → Srt r1 r2 r3 → Q (.ref y) H'
theorem lc_in {t1 t2 : PTab} {t3 : STab} (a : Agree t1 t2 t3) {x y : Str} (hx : x ∈ plc t1) (hy : y ∈ plc t1) : (x, y) ∈ (lc t1 t2 t3).map (·.1) := by
  rw [lc_keys (em_not a)]
  exact (dir_keys (em_not a)).mpr ⟨hx, hy⟩
theorem tabP_take (ks : List Str) (f : Str → Int) {i : Nat} (h : i < ks.length) : tabP (ks.take (i + 1)) f = tabP (ks.take i) f ++ [(ks[i], f ks[i])] := by
  unfold tabP
  rw [List.take_add_one, List.getElem?_eq_getElem h, List.map_append]
  rfl
theorem tabS_take (ks : List (Str × Str)) (c : Str → Str → Int) {i : Nat} (h : i < ks.length) : tabS (ks.take (i + 1)) c = tabS (ks.take i) c ++ [(ks[i], c ks[i].1 ks[i].2)] := by
  unfold tabS
  rw [List.take_add_one, List.getElem?_eq_getElem h, List.map_append]
  rfl
section
variable {P : Program} {w : World} {K : PySem.W.Frag} {mg : Str → Option Value} {base : Heap}
theorem scClosed : FnScope ["self", "costs", "sign", "pair"] ["self"] (defScope sClosed) := ⟨rfl, rfl, rfl, by decide +kernel, rfl, by decide +kernel, by decide +kernel⟩
theorem ok_closed {f fi C : Addr} {fd fdi : FuncData} (F : Fun K "closed" "Prices.closed" sClosed f fd) (T : Pc K C) (M : L2.Mk K C fi) (FI : Fun K "__init__" "Prices.__init__" sInit fi fdi) (I : FnOk P w K mg base CX0 6 fi fdi ["self", "put", "out", "swap"] (spInit C)) (mgC : mg "Prices" = some (.ref C))
    (A1 : Cd P w K mg base 4 "costs_by_ends" ["prices"] (spBy C)) (A2 : Cd P w K mg base 1 "_pairs" ["signs"] spPairs) : FnOk P w K mg base CX0 8 f fd ["self"] (spClosed C) := by
  obtain ⟨j, dj, G, gm, gk, gb⟩ := A1.ex
  obtain ⟨e, de, Ge, em, ek, eb⟩ := A2.ex
  refine F.ok scClosed (fun vs H Q E h => ?_) (fun cdv A outer s H vs Q E hr h => ?_)
  · obtain ⟨x, t1, t2, t3, rfl, _⟩ := h
    rfl
  · obtain ⟨x, t1, t2, t3, rfl, hx, R, sr, q⟩ := h
    have hu := hu_of hr
    have h20 : A.units + 3 + 20 < cLine := by
      have h2 : A.units + 3 + 16 * 7 + 200 < cLine := hr.un
      omega
    refine ⟨_, pss_cons (ps_set (i := 1) scClosed.nd rfl (.inr rfl) (pe_call G (hr.mono (by decide)) (by rfl) gm gk gb .nil pass0 (pa_cons (pv 0) pa_nil)))
      (pss_one (ps_ret (pe_makeK0 M I hr (by rfl) mgC (kbn_init FI) pass0
        (pk_cons (pe_dcG putP_ok (own := [("sign", 2)]) (g := gName 2) (tt := tYes) rfl scClosed.nd h20 (pi_tup (pe_fld (pv 0) rfl)) (blkOk_by (N := ["self", "costs", "sign", "pair"]) (sc := defScope sClosed) (by decide +kernel)) (fun _ _ _ _ _ => pg_name (i := 2) scClosed.nd rfl (Or.inl rfl)) (fun _ _ _ _ _ => pts_nil) (fun _ _ _ _ _ => pv 2) (fun _ _ _ _ _ => pe_dget hu (pv 1) (pe_tup (pa_cons pe_str (pa_cons (pv 2) pa_nil))) (fun _ _ => rfl)))
        (pk_cons (pe_dcG putP_ok (own := [("sign", 2)]) (g := gName 2) (tt := tYes) rfl scClosed.nd h20 (pi_tup (pe_fld (pv 0) rfl)) (blkOk_by (N := ["self", "costs", "sign", "pair"]) (sc := defScope sClosed) (by decide +kernel)) (fun _ _ _ _ _ => pg_name (i := 2) scClosed.nd rfl (Or.inl rfl)) (fun _ _ _ _ _ => pts_nil) (fun _ _ _ _ _ => pv 2) (fun _ _ _ _ _ => pe_dget hu (pv 1) (pe_tup (pa_cons (pv 2) (pa_cons pe_str pa_nil))) (fun _ _ => rfl)))
        (pk_cons (pe_dcG putT_ok (own := [("pair", 3)]) (g := gName 3) (tt := tYes) rfl scClosed.nd h20 (pi_list (pe_call Ge (hr.mono (by decide)) (by rfl) em ek eb .nil pass0 (pa_cons (pe_fld (pv 0) rfl) pa_nil))) (blkOk_by (N := ["self", "costs", "sign", "pair"]) (sc := defScope sClosed) (by decide +kernel)) (fun _ _ _ _ _ => pg_name (i := 3) scClosed.nd rfl (Or.inl rfl)) (fun _ _ _ _ _ => pts_nil) (fun _ _ _ _ _ => pv 3) (fun _ _ _ _ _ => pe_dget hu (pv 1) (pv 3) (fun _ _ => rfl)))
        pk_nil)))))), ?_⟩
    obtain ⟨dx, t, a, b, d, hx0, ht, hT⟩ := id hx
    have ag := R.ag
    refine ⟨_, rfl, x, t1, t2, t3, rfl, hx, R, sr, fun H1 ca s1 fa ea => ?_⟩
    have pl : ∀ {z : Str}, z ∈ t1.map (·.1) → z ∈ plc t1 := fun hz => List.mem_cons_of_mem _ hz
    have W := ct_of R
    have hin : ∀ {x y : Str}, x ∈ plc t1 → y ∈ plc t1 → (x, y) ∈ (lc t1 t2 t3).map (·.1) := fun hx hy => lc_in ag hx hy
    have hcc : ∀ x y, look (lc t1 t2 t3) (x, y) = cc t1 t2 t3 x y := fun _ _ => rfl
    generalize cc t1 t2 t3 = c at W hcc
    generalize lc t1 t2 t3 = Dl at ea hin hcc
    generalize ezs : t1.map (·.1) = zs at ht pl W
    have ndz : zs.Nodup := by rw [← ezs]; exact ag.nd
    have hl : zs.length ≤ 5 := by rw [← ezs, List.length_map]; exact ag.l1
    have n2 : 2 ≤ sizeLine := by decide
    have gW : ∀ {H' : Hp} {tt : Addr} {x y : Str}, H' ca = some (.dT (kvsS Dl)) → H' tt = none → x ∈ plc t1 → y ∈ plc t1 → DGet (upd H' tt (.tup [.str x, .str y])) ca (.ref tt) (some (V.int (c x y))) := fun {H' tt x y} e ht hx hy => by
      have := Wy.get (H0 := H') (H1 := H') ⟨fun b u _ e => e, e⟩ ht (hin hx hy)
      rwa [hcc] at this
    have ht1 := s1 _ _ ht
    have hx1 := s1 _ _ hx0
    refine ⟨_, rfl, x, C, dx, _, _, rfl, hx1, T.cl, T.n1, fld_signs t a b d, t, rfl, ⟨_, SqT.of ht1⟩, fun D1 hD1 => wk_any (walk_tup (K := K) (a := t) (xs := zs.map V.str)) (fun i H' => Same H1 H' ∧ H' D1 = some (.dK (kvsP (tabP (zs.take i) (c ""))))) ⟨Same.new hD1, upd_same⟩ (fun i H' _ h => SqT.of (h.1 _ _ ht1)) ?_ ?_⟩
    · rintro i z H' H'' hi ⟨hS, hL⟩ ⟨rfl, hz⟩
      rw [List.length_map] at hi
      have ez : z = V.str zs[i] := by
        rw [List.getElem?_map, List.getElem?_eq_getElem hi] at hz
        exact (Option.some.inj hz).symm
      subst ez
      have nin : zs[i] ∉ (tabP (zs.take i) (c "")).map (·.1) := by
        rw [tabP_keys]
        exact not_before ndz hi
      refine ⟨rfl, _, rfl, _, rfl, _, rfl, n2, fun tt htt => ⟨ca, _, rfl, gW (hS _ _ ea) htt em_in (pl (List.getElem_mem hi)), _, Sum.inr zs[i], rfl, (Same.new htt) _ _ hL, ?_, fun b0 o0 e0 => ?_, ?_⟩⟩
      · rw [kvsP_len]
        unfold tabP
        rw [List.length_map, List.length_take]
        exact Nat.lt_of_lt_of_le (by omega : min i zs.length < 4000) (by decide)
      · rw [upd_ne (ne_of_none e0 hD1)]
        exact (Same.new htt) _ _ (hS _ _ e0)
      · rw [upd_same, putP_new nin, tabP_take zs (c "") hi]
    rintro H3 ⟨hS3, hL3⟩
    rw [List.length_map, List.take_length] at hL3
    have ht3 := hS3 _ _ ht1
    have hx3 := hS3 _ _ hx1
    refine ⟨_, rfl, x, C, dx, _, _, rfl, hx3, T.cl, T.n1, fld_signs t a b d, t, rfl, ⟨_, SqT.of ht3⟩, fun D2 hD2 => wk_any (walk_tup (K := K) (a := t) (xs := zs.map V.str)) (fun i H' => Same H3 H' ∧ H' D2 = some (.dK (kvsP (tabP (zs.take i) fun z => c z "")))) ⟨Same.new hD2, upd_same⟩ (fun i H' _ h => SqT.of (h.1 _ _ ht3)) ?_ ?_⟩
    · rintro i z H' H'' hi ⟨hS, hL⟩ ⟨rfl, hz⟩
      rw [List.length_map] at hi
      have ez : z = V.str zs[i] := by
        rw [List.getElem?_map, List.getElem?_eq_getElem hi] at hz
        exact (Option.some.inj hz).symm
      subst ez
      have nin : zs[i] ∉ (tabP (zs.take i) fun z => c z "").map (·.1) := by
        rw [tabP_keys]
        exact not_before ndz hi
      refine ⟨rfl, _, rfl, _, rfl, _, rfl, n2, fun tt htt => ⟨ca, _, rfl, gW (hS _ _ (hS3 _ _ ea)) htt (pl (List.getElem_mem hi)) em_in, _, Sum.inr zs[i], rfl, (Same.new htt) _ _ hL, ?_, fun b0 o0 e0 => ?_, ?_⟩⟩
      · rw [kvsP_len]
        unfold tabP
        rw [List.length_map, List.length_take]
        exact Nat.lt_of_lt_of_le (by omega : min i zs.length < 4000) (by decide)
      · rw [upd_ne (ne_of_none e0 hD2)]
        exact (Same.new htt) _ _ (hS _ _ e0)
      · rw [upd_same, putP_new nin, tabP_take zs (fun z => c z "") hi]
    rintro H4 ⟨hS4, hL4⟩
    rw [List.length_map, List.take_length] at hL4
    have s13 := Same.trans hS3 hS4
    refine ⟨_, rfl, x, C, dx, _, _, rfl, hS4 _ _ hx3, T.cl, T.n1, fld_signs t a b d, t, zs, rfl, hS4 _ _ ht3, hl, fun H5 p qs s5 hp hP hq => ?_⟩
    have s15 := Same.trans s13 s5
    have ndp := nodup_pairs ndz
    have lp := len_pairs hl
    have mp : ∀ k ∈ pairsOf zs, k.1 ∈ plc t1 ∧ k.2 ∈ plc t1 := fun k hk => ⟨pl (mem_pairs.mp hk).1, pl (mem_pairs.mp hk).2.1⟩
    have ev : tabS (pairsOf zs) c = tabS (pairsOf zs) c := rfl
    have Wp3 := W.p3
    have Wq : ∀ ks, pairsOf zs = ks → tabS (pairsOf zs) c = tabS ks c := fun ks e => by rw [e]
    generalize hks : pairsOf zs = ks at hq ndp lp mp
    have lq : qs.length = ks.length := Paired.length hq
    refine ⟨p, rfl, ⟨_, SqL.of hP⟩, fun D3 hD3 => wk_any (walk_list (K := K) (a := p) (xs := qs.map V.ref)) (fun n H6 => Same H5 H6 ∧ H6 D3 = some (.dT (kvsS (tabS (ks.take n) c)))) ⟨Same.new hD3, upd_same⟩ (fun n H6 _ h6 => SqL.of (h6.1 _ _ hP)) ?_ ?_⟩
    · rintro n z H6 H7 hn ⟨s6, hE⟩ ⟨rfl, hz⟩
      rw [List.length_map] at hn
      have hn2 : n < ks.length := by omega
      have ez : z = V.ref qs[n] := by
        rw [List.getElem?_map, List.getElem?_eq_getElem hn] at hz
        exact (Option.some.inj hz).symm
      subst ez
      obtain ⟨k, hk, eq⟩ := paired_get hq (List.getElem?_eq_getElem hn)
      have ek : k = ks[n] := Option.some.inj (hk.symm.trans (List.getElem?_eq_getElem hn2))
      subst ek
      obtain ⟨m1, m2⟩ := mp _ (List.getElem_mem hn2)
      have nin : ks[n] ∉ (tabS (ks.take n) c).map (·.1) := by
        rw [tabS_keys]
        exact not_before ndp hn2
      have gv : valV (kvsS Dl) (keyOf ks[n]) = some (V.int (c ks[n].1 ks[n].2)) := by
        have := valS (hin m1 m2)
        rwa [hcc] at this
      refine ⟨rfl, _, rfl, _, rfl, _, rfl, ca, _, rfl, .inr ⟨kvsS Dl, keyOf ks[n], qs[n], .inl (s6 _ _ (s15 _ _ ea)), rfl, s6 _ _ eq, gv.symm⟩, _, keyOf ks[n], qs[n], rfl, s6 _ _ eq, hE, ?_, fun b0 o0 e0 => ?_, ?_⟩
      · rw [kvsS_len]
        unfold tabS
        rw [List.length_map, List.length_take]
        exact Nat.lt_of_lt_of_le (by omega : min n ks.length < 4000) (by decide)
      · rw [upd_ne (ne_of_none e0 hD3)]
        exact s6 _ _ e0
      · rw [upd_same, putS_new nin, tabS_take ks c hn2]
    rintro H6 ⟨s6, hE⟩
    rw [List.length_map, lq, List.take_length] at hE
    refine ⟨rfl, rfl, fun y dy hy hdy ne => ?_⟩
    have s16 : Same H H6 := Same.trans (Same.trans s1 s15) s6
    have sN : Same H6 (upd (upd H6 dy (.own y)) y (.ins C dy [])) := fun b o e => by
      rw [upd_ne (ne_of_none e hy), upd_ne (ne_of_none e hdy)]
      exact e
    have w1 := s6 _ _ (s5 _ _ (hS4 _ _ hL3))
    have w2 := s6 _ _ (s5 _ _ hL4)
    subst ezs
    subst hks
    have Rr := W.rt R
    refine ⟨y, dy, D1, D2, D3, _, _, _, rfl, upd_same, ⟨sN _ _ w1, sN _ _ w2, sN _ _ hE⟩, Rr.ag, Rr.nd, Rr.rt, fun H9 u1 u2 u3 b9 pr k1 k2 k3 sr9 => ⟨rfl, ?_⟩⟩
    refine q _ y u1 u2 u3 c (fun b o e => ?_) (s16.free hy) pr (W.perm k1 k2 k3) sr9
    have nb : b ≠ y := fun z => by
      have := s16 _ _ e
      rw [z, hy] at this
      cases this
    exact b9 _ _ nb (sN _ _ (s16 _ _ e))
end
end Mk

set_option Elab.async false
set_option linter.all false
set_option maxRecDepth 100000
set_option maxHeartbeats 2000000
/-! the law's closed tables -/
namespace Mk
open PySem PySem.Spec L2 PyProof.Rows

abbrev sLcl : Stmt := top 43
abbrev nLcl : List Str := ["_law_tables_here", "_law_signs_here", "_law_words", "_law_one", "_law_steps", "_law_costs_here", "_law_swaps", "_law_puts", "_law_other", "_law_word", "_law_sign"]
theorem merge_nd : ∀ (b a : List (Key × V)), ((a ++ b).map (·.1)).Nodup → mergeK a b = a ++ b
  | [], a, _ => by rw [List.append_nil]; rfl
  | p :: b, a, h => by
    show mergeK (L2.putK a p.1 p.2) b = _
    have n : p.1 ∉ a.map (·.1) := fun m => by
      rw [List.map_append, List.map_cons] at h
      exact (List.nodup_append.mp h).2.2 _ m _ List.mem_cons_self rfl
    have e0 : L2.putK a p.1 p.2 = a ++ [p] := by
      unfold L2.putK
      rw [if_neg]
      intro c
      obtain ⟨q, hq, e⟩ := List.any_eq_true.mp c
      exact n (List.mem_map.mpr ⟨q, hq, of_decide_eq_true e⟩)
    have e : a ++ [p] ++ b = a ++ p :: b := by simp
    rw [e0, merge_nd b (a ++ [p]) (by rw [e]; exact h), e]
theorem kvsR_nd {l : List (Str × Addr)} (h : (l.map (·.1)).Nodup) : ((kvsR l).map (·.1)).Nodup := by
  have e : (kvsR l).map (·.1) = (l.map (·.1)).map Sum.inr := by
    unfold kvsR
    rw [List.map_map, List.map_map]
    rfl
  rw [e]
  exact List.Pairwise.map _ (fun a b n z => n (Sum.inr.inj z)) h
theorem merge_R {l : List (Str × Addr)} (h : (l.map (·.1)).Nodup) : mergeK [] (kvsR l) = kvsR l := merge_nd _ [] (by simpa using kvsR_nd h)
/-- pairs of a word and an object, told by tuples -/
abbrev Tupr (H : Hp) (ts : List Addr) (l : List (Str × Addr)) : Prop := Paired (fun (t : Addr) (q : Str × Addr) => H t = some (.tup [.str q.1, .ref q.2])) ts l
theorem tupr_sq {K : PySem.W.Frag} {H : Hp} : ∀ {ts : List Addr} {l : List (Str × Addr)}, Tupr H ts l → Paired (fun (p : Addr) (kv : Key × V) => SqT K H p [kV kv.1, kv.2]) ts (kvsR l)
  | _, _, .nil => .nil
  | _, _, .cons h t => .cons (SqT.of h) (tupr_sq t)
theorem Tupr.keep {H H' : Hp} (k : ∀ b xs, H b = some (.tup xs) → H' b = some (.tup xs)) {ts : List Addr} {l : List (Str × Addr)} (h : Tupr H ts l) : Tupr H' ts l := L2.Paired.mapP h fun _ _ e => k _ _ e
/-- a list at D of words with objects, of which G tells -/
structure Lst (G : Hp → Addr → Str → Prop) (H0 H1 : Hp) (D : Addr) (zs : List Str) : Prop where
  same : Same H0 H1
  ex : ∃ (ts : List Addr) (l : List (Str × Addr)), H1 D = some (.lst (ts.map V.ref)) ∧ Tupr H1 ts l ∧ l.map (·.1) = zs ∧ ∀ p ∈ l, p.2 ≠ D ∧ G H1 p.2 p.1
theorem Lst.start {G : Hp → Addr → Str → Prop} {H0 : Hp} {D : Addr} (hD : H0 D = none) : Lst G H0 (upd H0 D (.lst [])) D [] := ⟨Same.new hD, [], [], upd_same, .nil, rfl, fun _ h => (nomatch h)⟩
theorem Lst.push {G : Hp → Addr → Str → Prop} (kG : ∀ {H H' : Hp} {D a : Addr} {z : Str}, (∀ b o, b ≠ D → H b = some o → H' b = some o) → (∃ xs, H D = some (.lst xs)) → a ≠ D → G H a z → G H' a z) {H0 H1 H2 : Hp} {D a t : Addr} {zs : List Str} {z : Str} (W : Lst G H0 H1 D zs) (hD : H0 D = none) (s : Same H1 H2) (ha : H1 a = none) (g : G H2 a z) (ht : H2 t = none) :
    ∃ acc, (upd H2 t (.tup [.str z, .ref a])) D = some (.lst acc) ∧ acc.length = zs.length ∧ Lst G H0 (upd (upd H2 t (.tup [.str z, .ref a])) D (.lst (acc ++ [.ref t]))) D (zs ++ [z]) := by
  obtain ⟨ts, l, e1, e2, e3, e4⟩ := W.ex
  have e1' := s _ _ e1
  have Dt : D ≠ t := ne_of_none e1' ht
  have aD : a ≠ D := fun e => by rw [e, e1] at ha; cases ha
  have lt : ts.length = l.length := Paired.length e2
  have keep : ∀ b o, b ≠ D → H2 b = some o → (upd (upd H2 t (.tup [.str z, .ref a])) D (.lst (ts.map V.ref ++ [.ref t]))) b = some o := fun b o n e => by
    rw [upd_ne n, upd_ne (ne_of_none e ht)]
    exact e
  refine ⟨ts.map V.ref, by rw [upd_ne Dt]; exact e1', ?_, fun b o e => keep b o (ne_of_none e hD) (s _ _ (W.same _ _ e)), ts ++ [t], l ++ [(z, a)], by rw [upd_same, List.map_append]; rfl, Paired.snocP ?_ (Tupr.keep (fun b xs e => ?_) e2), by rw [List.map_append, e3]; rfl, fun p hp => ?_⟩
  · rw [List.length_map, lt, ← e3, List.length_map]
  · show (upd (upd H2 t _) D _) t = _
    rw [upd_ne Dt.symm, upd_same]
  · exact keep b _ (fun z => by rw [z, e1] at e; cases e) (s _ _ e)
  · rcases List.mem_append.mp hp with hp | hp
    · obtain ⟨n, g⟩ := e4 p hp
      exact ⟨n, kG keep ⟨_, e1'⟩ n (kG (D := D) (fun b o _ e => s b o e) ⟨_, e1⟩ n g)⟩
    · rw [List.mem_singleton.mp hp]
      exact ⟨aD, kG keep ⟨_, e1'⟩ aD g⟩
theorem valR_mem {l : List (Str × Addr)} (nd : (l.map (·.1)).Nodup) {x : Str} (hx : x ∈ l.map (·.1)) : ∃ p ∈ l, p.1 = x ∧ valV (kvsR l) (Sum.inr x) = some (V.ref p.2) := by
  obtain ⟨p, hp, rfl⟩ := List.mem_map.mp hx
  obtain ⟨i, hi, rfl⟩ := List.mem_iff_getElem.mp hp
  exact ⟨_, List.getElem_mem hi, rfl, valR nd hi⟩
/-- the dict of costs, by the word that they begin with -/
structure CAt (R : Str → PTab) (H : Hp) (C : Addr) (l : List (Str × Addr)) : Prop where
  at_ : H C = some (.dK (kvsR l))
  rows : ∀ p ∈ l, H p.2 = some (.dK (kvsP (R p.1)))
theorem CAt.keep {R : Str → PTab} {H H' : Hp} {C : Addr} {l : List (Str × Addr)} (h : CAt R H C l) (k : ∀ b kvs, H b = some (.dK kvs) → H' b = some (.dK kvs)) : CAt R H' C l := ⟨k _ _ h.at_, fun p hp => k _ _ (h.rows p hp)⟩
theorem CAt.get {R : Str → PTab} {H : Hp} {C : Addr} {l : List (Str × Addr)} (h : CAt R H C l) (nd : (l.map (·.1)).Nodup) {x y : Str} (hx : x ∈ l.map (·.1)) (hy : y ∈ (R x).map (·.1)) : ∃ a, DGet H C (.str x) (some (V.ref a)) ∧ DGet H a (.str y) (some (V.int (look (R x) y))) := by
  obtain ⟨p, hp, rfl, e⟩ := valR_mem nd hx
  exact ⟨p.2, .inl ⟨kvsR l, Sum.inr p.1, .inl h.at_, rfl, e.symm⟩, getP (.inl (h.rows p hp)) hy⟩
abbrev RowsS (H : Hp) (ts : List Addr) (tab : STab) : Prop := Paired (fun (t : Addr) (q : (Str × Str) × Int) => ∃ k : Addr, H t = some (.tup [.ref k, .int q.2]) ∧ H k = some (.tup [.str q.1.1, .str q.1.2])) ts tab
theorem RowsS.keep {H H' : Hp} (k : ∀ b xs, H b = some (.tup xs) → H' b = some (.tup xs)) {ts : List Addr} {tab : STab} (h : RowsS H ts tab) : RowsS H' ts tab := L2.Paired.mapP h fun _ _ e => by
  obtain ⟨q, e1, e2⟩ := e
  exact ⟨q, k _ _ e1, k _ _ e2⟩
theorem rows_prs {K : PySem.W.Frag} {H : Hp} : ∀ {ts : List Addr} {tab : STab}, RowsS H ts tab → PrsT K H ts (kvsS tab)
  | _, _, .nil => .nil
  | _, _, .cons h t => by
    obtain ⟨q, e1, e2⟩ := h
    exact .cons ⟨q, e2, SqT.of e1⟩ (rows_prs t)
/-- all but the list at l stands; it holds the pairs and costs of tab -/
structure Sww (H0 H1 : Hp) (l : Addr) (tab : STab) : Prop where
  same : ∀ b o, b ≠ l → H0 b = some o → H1 b = some o
  out : ∃ ts : List Addr, H1 l = some (.lst (ts.map V.ref)) ∧ RowsS H1 ts tab
theorem Sww.push {H0 H1 : Hp} {D k t : Addr} {tab : STab} {x y : Str} {i : Int} (W : Sww H0 H1 D tab) (hD : H0 D = none) (hk : H1 k = none) (ht : (upd H1 k (.tup [.str x, .str y])) t = none) :
    ∃ acc, (upd (upd H1 k (.tup [.str x, .str y])) t (.tup [.ref k, .int i])) D = some (.lst acc) ∧ acc.length = tab.length ∧ Sww H0 (upd (upd (upd H1 k (.tup [.str x, .str y])) t (.tup [.ref k, .int i])) D (.lst (acc ++ [.ref t]))) D (tab ++ [((x, y), i)]) := by
  obtain ⟨ts, e1, e2⟩ := W.out
  have Dk : D ≠ k := ne_of_none e1 hk
  have e1' : (upd H1 k (.tup [.str x, .str y])) D = some (.lst (ts.map V.ref)) := by rw [upd_ne Dk]; exact e1
  have Dt : D ≠ t := ne_of_none e1' ht
  have kt : k ≠ t := ne_of_none upd_same ht
  have e1'' : (upd (upd H1 k (.tup [.str x, .str y])) t (.tup [.ref k, .int i])) D = some (.lst (ts.map V.ref)) := by rw [upd_ne Dt]; exact e1'
  have keep : ∀ b o, b ≠ D → H1 b = some o → (upd (upd (upd H1 k (.tup [.str x, .str y])) t (.tup [.ref k, .int i])) D (.lst (ts.map V.ref ++ [.ref t]))) b = some o := fun b o n e => by
    have a1 : (upd H1 k (.tup [.str x, .str y])) b = some o := by rw [upd_ne (ne_of_none e hk)]; exact e
    rw [upd_ne n, upd_ne (ne_of_none a1 ht)]
    exact a1
  refine ⟨_, e1'', by rw [List.length_map]; exact Paired.length e2, fun b u n e => keep b u n (W.same b u n e), ts ++ [t], by rw [upd_same, List.map_append]; rfl, Paired.snocP ⟨k, ?_, ?_⟩ (RowsS.keep (fun b xs e => keep b _ (fun z => by rw [z, e1] at e; cases e) e) e2)⟩
  · rw [upd_ne Dt.symm]
    exact upd_same
  · rw [upd_ne Dk.symm, upd_ne kt]
    exact upd_same
theorem prs_take (zs : List Str) (x : Str) {j : Nat} (h : j < zs.length) : prs (zs.take (j + 1)) x = prs (zs.take j) x ++ (if x = zs[j] then [] else [(x, zs[j])]) := by
  unfold prs
  rw [List.take_add_one, List.getElem?_eq_getElem h, List.filter_append, List.map_append]
  congr 1
  by_cases c : x = zs[j] <;> simp [c]
theorem tabS_app (a b : List (Str × Str)) (c : Str → Str → Int) : tabS (a ++ b) c = tabS a c ++ tabS b c := List.map_append
theorem tabS_pairs (zs : List Str) (c : Str → Str → Int) : tabS (pairsOf zs) c = zs.flatMap fun a => tabS (prs zs a) c := by
  unfold tabS pairsOf
  rw [List.map_flatMap]
def spLcl : Sp := fun vs H Q _ => ∃ (L a b c : Addr) (t1 t2 : PTab) (t3 : STab), vs = [.ref L] ∧ Rec H L a b c t1 t2 t3 ∧ RtT t1 t2 t3 ∧
  ∀ H' M d e g r1 r2 r3 cf, Same H H' → H M = none → Rec H' M d e g r1 r2 r3 → CtW t1 t2 t3 r1 r2 r3 cf → H d = none → H e = none → H g = none → Q (.ref M) H'
theorem nulH {H H' : Hp} (k : ∀ b u, H b = some u → H' b = some u) {x : Addr} (h : H' x = none) : H x = none := by
  cases e : H x with
  | none => rfl
  | some u =>
    have := k _ _ e
    rw [h] at this
    cases this
section
variable {P : Program} {w : World} {K : PySem.W.Frag} {mg : Str → Option Value} {base : Heap}
theorem scLcl : FnScope nLcl ["_law_tables_here"] (defScope sLcl) := ⟨rfl, rfl, rfl, by decide +kernel, rfl, by decide +kernel, by decide +kernel⟩
theorem ok_lcl {f : Addr} {fd : FuncData} (F : Fun K "_law_closed" "_law_closed" sLcl f fd) (O : On mg) (Dd : Dn mg) (A1 : Cd P w K mg base 1 "_law_behind" ["_law_tables_here", "_law_word"] spBeh) (A2 : Cd P w K mg base 1 "_law_costs" ["_law_steps", "_law_word"] spLq) : FnOk P w K mg base CX0 2 f fd ["_law_tables_here"] spLcl := by
  obtain ⟨b1, d1, Gb, bm, bk, bb⟩ := A1.ex
  obtain ⟨q1, d2, Gq, qm, qk, qb⟩ := A2.ex
  refine F.ok scLcl (fun vs H Q E h => ?_) (fun cdv A outer s H vs Q E hr h => ?_)
  · obtain ⟨L, a, b, c, t1, t2, t3, rfl, _⟩ := h
    rfl
  · have hu := hu_of hr
    have hu8 : A.units + 3 + 8 < cLine := by
      have h2 : A.units + 3 + 16 * 1 + 200 < cLine := hr.un
      omega
    obtain ⟨L, a, b, c, t1, t2, t3, rfl, r, R, q⟩ := h
    refine ⟨_, pss_cons (ps_par (i := 1) (j := 2) rfl scLcl.nd rfl rfl (by decide) rfl rfl (pa_cons (pe_callB (call_sortedD rfl) (by rfl) O.sorted (by decide +kernel) (pa_cons (pe_ix ix_list (pv 0) pe_int (fun _ _ => rfl)) pa_nil)) (pa_cons (pe_lst (pa_cons pe_str pa_nil)) pa_nil)) (by rfl))
      (pss_cons (ps_for PassesOwn.never rfl (pi_list (pv 1)) (pg_name (i := 3) scLcl.nd rfl (.inr rfl))
        (pss_one (ps_set (i := 2) scLcl.nd rfl (.inl rfl) (pe_op op_cat (pe_op op_cat (pv 2) (pe_lst (pa_cons (pv 3) pa_nil))) (pe_lc (own := [("_law_other", 8)]) (g := gName 8) (tt := tYes) rfl scLcl.nd (pi_list (pv 1)) (blkOk_by (N := nLcl) (sc := defScope sLcl) (by decide +kernel))
          (fun _ _ _ _ _ => pg_name (i := 8) scLcl.nd rfl (Or.inl rfl)) (fun _ _ _ _ _ => pts_nil) (fun _ _ _ _ _ => pe_op op_add_str (pv 3) (pv 8)))))))
      (pss_cons (ps_set (i := 4) scLcl.nd rfl (.inr rfl) (pe_callTy (call_dictP rfl) (by rfl) Dd.dict (by decide +kernel) (pa_cons (pe_lc (own := [("_law_word", 9)]) (g := gName 9) (tt := tYes) rfl scLcl.nd (pi_list (pv 2)) (blkOk_by (N := nLcl) (sc := defScope sLcl) (by decide +kernel))
          (fun _ _ _ _ _ => pg_name (i := 9) scLcl.nd rfl (Or.inl rfl)) (fun _ _ _ _ _ => pts_nil) (fun _ _ _ _ _ => pe_tup (pa_cons (pv 9) (pa_cons (pe_call Gb hr (by rfl) bm bk bb .nil pass0 (pa_cons (pv 0) (pa_cons (pv 9) pa_nil))) pa_nil)))) pa_nil)))
      (pss_cons (ps_set (i := 5) scLcl.nd rfl (.inr rfl) (pe_callTy (call_dictP rfl) (by rfl) Dd.dict (by decide +kernel) (pa_cons (pe_lc (own := [("_law_word", 9)]) (g := gName 9) (tt := tYes) rfl scLcl.nd (pi_list (pe_op op_cat (pe_lst (pa_cons pe_str pa_nil)) (pv 1))) (blkOk_by (N := nLcl) (sc := defScope sLcl) (by decide +kernel))
          (fun _ _ _ _ _ => pg_name (i := 9) scLcl.nd rfl (Or.inl rfl)) (fun _ _ _ _ _ => pts_nil) (fun _ _ _ _ _ => pe_tup (pa_cons (pv 9) (pa_cons (pe_call Gq hr (by rfl) qm qk qb .nil pass0 (pa_cons (pv 4) (pa_cons (pv 9) pa_nil))) pa_nil)))) pa_nil)))
      (pss_cons (ps_set (i := 6) scLcl.nd rfl (.inl rfl) (pe_lst pa_nil))
      (pss_cons (ps_for PassesOwn.never rfl (pi_list (pv 1)) (pg_name (i := 3) scLcl.nd rfl (.inr rfl))
        (pss_one (ps_expr (pe_bm PySem.F.plainAttrs_list PySem.F.slot_list_extend PySem.F.type_list_extend mt_extend (pv 6) (pa_cons (pe_lc (own := [("_law_other", 8)]) (g := gName 8) rfl scLcl.nd (pi_list (pv 1)) (blkOk_by (N := nLcl) (sc := defScope sLcl) (by decide +kernel))
          (fun _ _ _ _ _ => pg_name (i := 8) scLcl.nd rfl (Or.inl rfl)) (fun _ _ _ _ _ => pts_one (pt_cmpR op_ne (pv 3) (pv 8) (nomark _))) (fun _ _ _ _ _ => pe_tup (pa_cons (pe_tup (pa_cons (pv 3) (pa_cons (pv 8) pa_nil))) (pa_cons (pe_dget hu (pe_dget hu (pv 5) (pv 3) (fun _ _ => rfl)) (pv 8) (fun _ _ => rfl)) pa_nil)))) pa_nil)))))
      (pss_cons (ps_set (i := 7) scLcl.nd rfl (.inl rfl) (pe_callTy (call_dictP rfl) (by rfl) Dd.dict (by decide +kernel) (pa_cons (pe_lc (own := [("_law_sign", 10)]) (g := gName 10) (tt := tYes) rfl scLcl.nd (pi_list (pv 1)) (blkOk_by (N := nLcl) (sc := defScope sLcl) (by decide +kernel))
          (fun _ _ _ _ _ => pg_name (i := 10) scLcl.nd rfl (Or.inl rfl)) (fun _ _ _ _ _ => pts_nil) (fun _ _ _ _ _ => pe_tup (pa_cons (pv 10) (pa_cons (pe_dget hu (pe_dget hu (pv 5) pe_str (fun _ _ => rfl)) (pv 10) (fun _ _ => rfl)) pa_nil)))) pa_nil)))
      (pss_one (ps_ret (pe_lst (pa_cons (pv 7) (pa_cons (pe_callTy (call_dictP rfl) (by rfl) Dd.dict (by decide +kernel) (pa_cons (pe_lc (own := [("_law_sign", 10)]) (g := gName 10) (tt := tYes) rfl scLcl.nd (pi_list (pv 1)) (blkOk_by (N := nLcl) (sc := defScope sLcl) (by decide +kernel))
          (fun _ _ _ _ _ => pg_name (i := 10) scLcl.nd rfl (Or.inl rfl)) (fun _ _ _ _ _ => pts_nil) (fun _ _ _ _ _ => pe_tup (pa_cons (pv 10) (pa_cons (pe_dget hu (pe_dget hu (pv 5) (pv 10) (fun _ _ => rfl)) pe_str (fun _ _ => rfl)) pa_nil)))) pa_nil)) (pa_cons (pe_callTy (call_dictPT rfl hu8) (by rfl) Dd.dict (by decide +kernel) (pa_cons (pv 6) pa_nil)) pa_nil)))))))))))), ?_⟩
    have nar : ∀ {n : Nat}, n ≤ 1000 → n ≤ sizeLine := fun h1 => by rw [sizeLine_eq]; omega
    have lt1 : ∀ {n : Nat}, n ≤ 1000 → n < sizeLine := fun h1 => by rw [sizeLine_eq]; omega
    have n1 : 1 ≤ sizeLine := by decide
    have n2 : 2 ≤ sizeLine := by decide
    have ag := R.ag
    have hl1 := ag.l1
    refine ⟨_, rfl, L, _, _, _, rfl, rfl, SqL.of r.l, atI_nat (j := 0) rfl, a, kvsP t1, t1.map (·.1), rfl, .inl r.t.p, kvsP_keys t1, by rw [List.length_map]; omega, fun zs Sg pz so hSg => ?_⟩
    refine ⟨n1, fun W0 hW0 => ⟨_, _, rfl, ?_⟩⟩
    have sA : Same H (upd (upd H Sg (.lst (zs.map V.str))) W0 (.lst [V.str ""])) := Same.trans (Same.new hSg) (Same.new hW0)
    have eSg : (upd (upd H Sg (.lst (zs.map V.str))) W0 (.lst [V.str ""])) Sg = some (.lst (zs.map V.str)) := by
      rw [upd_ne (ne_of_none upd_same hW0)]
      exact upd_same
    have eW : (upd (upd H Sg (.lst (zs.map V.str))) W0 (.lst [V.str ""])) W0 = some (.lst ((wl zs (zs.take 0)).map V.str)) := upd_same
    generalize upd (upd H Sg (.lst (zs.map V.str))) W0 (.lst [V.str ""]) = H0 at sA eSg eW ⊢
    have lz : zs.length ≤ 5 := by
      have := pz.length_eq
      rw [List.length_map] at this
      omega
    have ndz : zs.Nodup := pz.nodup_iff.mpr ag.nd
    have pk : ∀ z, z ∈ zs ↔ z ∈ t1.map (·.1) := fun z => pz.mem_iff
    have sg : ∀ z ∈ t1.map (·.1), sgB z = true := fun z hz => by
      obtain ⟨p, hp, e⟩ := List.mem_map.mp hz
      rw [← e]
      exact ag.sg p hp
    have sgz : ∀ z ∈ zs, sgB z = true := fun z hz => sg z ((pk z).mp hz)
    have at_ : ∀ {ws : List Str} {i : Nat} {x : V} (hi : i < (ws.map V.str).length), (ws.map V.str)[i]? = some x → ∃ h : i < ws.length, x = V.str ws[i] := fun {ws i x} hi hx => by
      have h : i < ws.length := by rwa [List.length_map] at hi
      rw [List.getElem?_map, List.getElem?_eq_getElem h] at hx
      exact ⟨h, (Option.some.inj hx).symm⟩
    have lw : ∀ i, (wl zs (zs.take i)).length ≤ 31 := fun i => by
      rw [wl_len, List.length_take]
      have : min i zs.length * (1 + zs.length) ≤ 5 * 6 := Nat.mul_le_mul (by omega) (by omega)
      omega
    refine ⟨_, rfl, Sg, rfl, ⟨_, SqL.of eSg⟩, for_it (walk_list (K := K) (a := Sg) (xs := zs.map V.str)) (fun i σ H1 => ∃ W1, (∃ o3, σ = [some (.ref L), some (.ref Sg), some (.ref W1), o3, none, none, none, none, none, none, none]) ∧ Same H0 H1 ∧ H1 W1 = some (.lst ((wl zs (zs.take i)).map V.str))) ?_ (fun i σ H1 _ h1 => by obtain ⟨_, _, s, _⟩ := h1; exact SqL.of (s _ _ eSg)) ?_ ?_⟩
    · exact ⟨W0, ⟨_, rfl⟩, fun _ _ e => e, eW⟩
    · rintro i x σ H1 H2 hi ⟨W1, ⟨o3, rfl⟩, s1, e1⟩ ⟨rfl, hx⟩
      obtain ⟨hi2, rfl⟩ := at_ hi hx
      have nx := wl_take zs zs hi2
      have l1 := lw i
      have sOne := sgz _ (List.getElem_mem hi2)
      rw [nx]
      generalize wl zs (zs.take i) = ws at e1 l1 ⊢
      generalize zs[i] = one at sOne ⊢
      clear nx hi hi2 hx
      have lOne : one.length ≤ 1 := by
        obtain ⟨k, rfl⟩ := len_one (z := one) (by
          unfold sgB at sOne
          simp only [Bool.and_eq_true, decide_eq_true_eq] at sOne
          exact sOne.1)
        exact Nat.le_refl 1
      refine ⟨_, rfl, _, rfl, n1, fun l1' hl1' => ⟨W1, l1', _, _, rfl, rfl, (Same.new hl1') _ _ e1, upd_same, nar (by rw [List.length_map]; show _ + 1 ≤ _; omega), fun W2 hW2 => ?_⟩⟩
      have s2 : Same H0 (upd (upd H2 l1' (.lst [V.str one])) W2 (.lst (ws.map V.str ++ [V.str one]))) := Same.trans (Same.trans s1 (Same.new hl1')) (Same.new hW2)
      have e2 : (upd (upd H2 l1' (.lst [V.str one])) W2 (.lst (ws.map V.str ++ [V.str one]))) W2 = some (.lst (ws.map V.str ++ [V.str one])) := upd_same
      generalize upd (upd H2 l1' (.lst [V.str one])) W2 (.lst (ws.map V.str ++ [V.str one])) = H3 at s2 e2 ⊢
      refine ⟨_, rfl, Sg, rfl, ⟨_, SqL.of (s2 _ _ eSg)⟩, fun D hD => lc_it (walk_list (K := K) (a := Sg) (xs := zs.map V.str)) (fun j H4 => Same H3 H4 ∧ H4 D = some (.lst (((zs.take j).map (one ++ ·)).map V.str))) ?_ (fun j H4 _ h4 => SqL.of (h4.1 _ _ (s2 _ _ eSg))) ?_ ?_⟩
      · exact ⟨Same.new hD, upd_same⟩
      · rintro j y H4 H5 hj ⟨s4, e4⟩ ⟨rfl, hy⟩
        obtain ⟨hj2, rfl⟩ := at_ hj hy
        have sOth := sgz _ (List.getElem_mem hj2)
        have lOth : zs[j].length ≤ 1 := by
          obtain ⟨k, ek⟩ := len_one (z := zs[j]) (by
            unfold sgB at sOth
            simp only [Bool.and_eq_true, decide_eq_true_eq] at sOth
            exact sOth.1)
          rw [ek]
          exact Nat.le_refl 1
        refine ⟨rfl, _, rfl, _, rfl, one, zs[j], rfl, rfl, nar (by omega), _, e4, lt1 (by rw [List.length_map, List.length_map, List.length_take]; omega), fun b0 o0 e0 => ?_, ?_⟩
        · rw [upd_ne (ne_of_none e0 hD)]
          exact s4 _ _ e0
        · rw [upd_same, List.take_add_one, List.getElem?_eq_getElem hj2, List.map_append, List.map_append]
          rfl
      · rintro H4 ⟨s4, e4⟩
        rw [List.length_map, List.take_length] at e4
        refine ⟨W2, D, _, _, rfl, rfl, s4 _ _ e2, e4, nar (by rw [List.length_append, List.length_map, List.length_map, List.length_map]; show _ + 1 + _ ≤ _; omega), fun W3 hW3 => ⟨W3, ⟨_, rfl⟩, Same.trans (Same.trans s2 s4) (Same.new hW3), ?_⟩⟩
        rw [upd_same, List.map_append, List.map_append]
        rfl
    · rintro σ H1 ⟨W1, ⟨o3, rfl⟩, s1, e1⟩
      rw [List.length_map, List.take_length] at e1
      have e1 : H1 W1 = some (.lst ((wordsOf zs).map V.str)) := e1
      have lws : (wordsOf zs).length ≤ 31 := by
        have := lw zs.length
        rwa [List.take_length] at this
      have sB := Same.trans sA s1
      have eSg1 := s1 _ _ eSg
      clear eSg eW s1 lw so
      -- the steps
      have wle := @words_len zs sgz
      have wat := @words_at zs sgz
      have wnd := words_nd sgz ndz
      have wtake : ∀ {i : Nat} (h : i < (wordsOf zs).length), (wordsOf zs).take (i + 1) = (wordsOf zs).take i ++ [(wordsOf zs)[i]] := fun {i} h => by
        rw [List.take_add_one, List.getElem?_eq_getElem h]
        rfl
      have kG1 : ∀ {H H' : Hp} {D a : Addr} {z : Str}, (∀ b o, b ≠ D → H b = some o → H' b = some o) → (∃ xs, H D = some (.lst xs)) → a ≠ D → RowAt H a (bh t1 t2 t3 z) → RowAt H' a (bh t1 t2 t3 z) := fun {H H' D a z} k hD n g => by
        obtain ⟨xs, hD⟩ := hD
        obtain ⟨ts, g1, g2⟩ := g
        exact ⟨ts, k _ _ n g1, Tups.keep (fun b ys e => k b _ (fun z => by rw [z, hD] at e; cases e) e) g2⟩
      refine ⟨_, rfl, W1, rfl, ⟨_, SqL.of e1⟩, fun D hD => lc_it (walk_list (K := K) (a := W1) (xs := (wordsOf zs).map V.str)) (fun j H4 => Lst (fun H a z => RowAt H a (bh t1 t2 t3 z)) H1 H4 D ((wordsOf zs).take j)) ?_ (fun j H4 _ h4 => SqL.of (h4.same _ _ e1)) ?_ ?_⟩
      · exact Lst.start hD
      · rintro j y H4 H5 hj W ⟨rfl, hy⟩
        obtain ⟨hj2, rfl⟩ := at_ hj hy
        have mz := List.getElem_mem hj2
        rw [wtake hj2]
        refine ⟨rfl, _, rfl, _, rfl, _, rfl, L, a, b, c, t1, t2, t3, (wordsOf zs)[j], rfl, (r.same sB).same W.same, fun k hk => ag.pm.mem_iff.mpr hk, hl1, ?_, wle mz, fun i hi => (pk _).mp (wat mz hi), fun H6 aw tsw s6 f6 e6 tw => ?_⟩
        · intro k hk
          obtain ⟨n, rfl⟩ := one_sign sg hk
          exact Nat.le_refl 1
        · refine ⟨n2, fun tt htt => ?_⟩
          obtain ⟨acc, q1, q2, W7⟩ := Lst.push (G := fun H a z => RowAt H a (bh t1 t2 t3 z)) kG1 W hD s6 f6 (show RowAt H6 aw (bh t1 t2 t3 (wordsOf zs)[j]) from ⟨tsw, e6, tw⟩) htt
          exact ⟨acc, q1, lt1 (by rw [q2, List.length_take]; omega), W7⟩
      · rintro H4 W
        rw [List.length_map, List.take_length] at W
        obtain ⟨ts, l, g1, g2, g3, g4⟩ := W.ex
        refine ⟨D, ts, kvsR l, rfl, SqL.of g1, tupr_sq g2, fun S hS => ?_⟩
        have ndl : (l.map (·.1)).Nodup := by rw [g3]; exact wnd
        rw [merge_R ndl]
        have sS : Same H4 (upd H4 S (.dK (kvsR l))) := Same.new hS
        have rw4 := rows_of fun p hp => (g4 p hp).2.keep (fun b xs e => sS b _ e) (fun b xs e => sS b _ e)
        rw [g3] at rw4
        have hStp : Stp (upd H4 S (.dK (kvsR l))) S l (stepsOf t1 t2 t3 zs) := ⟨upd_same, rw4, by rw [steps_keys]; exact wnd⟩
        have sC := Same.trans (Same.trans sB W.same) sS
        have eSg2 := sS _ _ (W.same _ _ eSg1)
        generalize upd H4 S (.dK (kvsR l)) = H5 at sC eSg2 hStp ⊢
        clear W g1 g2 g3 g4 rw4 sS hS sB eSg1 hD e1 kG1
        -- the costs
        have fnd := fun {x y : Str} (hx : x ∈ plc t1) (hy : y ∈ plc t1) => found_cl R (cl_of R) pk hx hy
        have sts : ∀ st ∈ stepsOf t1 t2 t3 zs, ∀ e ∈ st.2, e.1 ∈ wordsOf zs := fun st hst e he => ed_in pk (ed_of sg pk (z := st.1) (y := e.1) (q := e.2) ⟨st.2, hst, he⟩)
        have lsts : (stepsOf t1 t2 t3 zs).length ≤ 1000 := by rw [steps_len]; omega
        generalize hRr : (fun z : Str => rounds (stepsOf t1 t2 t3 zs) (stepsOf t1 t2 t3 zs).length [(z, 0)]) = Rr
        have eRr : ∀ z, rounds (stepsOf t1 t2 t3 zs) (stepsOf t1 t2 t3 zs).length [(z, 0)] = Rr z := fun z => by rw [← hRr]
        have fnd2 : ∀ {x y : Str}, x ∈ plc t1 → y ∈ plc t1 → y ∈ (Rr x).map (·.1) ∧ look (Rr x) y = cc t1 t2 t3 x y := fun {x y} hx hy => by
          rw [← eRr]
          exact fnd hx hy
        clear fnd hRr
        have kG2 : ∀ {H H' : Hp} {D a : Addr} {z : Str}, (∀ b o, b ≠ D → H b = some o → H' b = some o) → (∃ xs, H D = some (.lst xs)) → a ≠ D → H a = some (.dK (kvsP (Rr z))) → H' a = some (.dK (kvsP (Rr z))) := fun k _ n g => k _ _ n g
        refine ⟨n1, fun l1' hl1' => ⟨_, rfl, l1', Sg, _, _, rfl, rfl, upd_same, (Same.new hl1') _ _ eSg2, nar (by rw [List.length_map]; show 1 + _ ≤ _; omega), fun X hX => ?_⟩⟩
        have sX : Same H5 (upd (upd H5 l1' (.lst [V.str ""])) X (.lst ([V.str ""] ++ zs.map V.str))) := Same.trans (Same.new hl1') (Same.new hX)
        have eX : (upd (upd H5 l1' (.lst [V.str ""])) X (.lst ([V.str ""] ++ zs.map V.str))) X = some (.lst ((("" : Str) :: zs).map V.str)) := upd_same
        generalize upd (upd H5 l1' (.lst [V.str ""])) X (.lst ([V.str ""] ++ zs.map V.str)) = H6 at sX eX ⊢
        have hStp6 : Stp H6 S l (stepsOf t1 t2 t3 zs) := ⟨sX _ _ hStp.at_, L2.Paired.mapP hStp.rows fun p q h => ⟨h.1, h.2.keep (fun b xs e => sX b _ e) (fun b xs e => sX b _ e)⟩, hStp.nd⟩
        have ndp : (("" : Str) :: zs).Nodup := List.nodup_cons.mpr ⟨fun m => em_not ag ((pk _).mp m), ndz⟩
        have ptake : ∀ {i : Nat} (h : i < (("" : Str) :: zs).length), (("" : Str) :: zs).take (i + 1) = (("" : Str) :: zs).take i ++ [(("" : Str) :: zs)[i]] := fun {i} h => by
          rw [List.take_add_one, List.getElem?_eq_getElem h]
          rfl
        have inw : ∀ {z : Str}, z ∈ (("" : Str) :: zs) → z ∈ wordsOf zs := fun {z} h => by
          rcases List.mem_cons.mp h with rfl | h
          · exact List.mem_cons_self
          · exact List.mem_cons_of_mem _ (List.mem_flatMap.mpr ⟨z, h, List.mem_cons_self⟩)
        have kStp : ∀ {H' : Hp}, Same H6 H' → Stp H' S l (stepsOf t1 t2 t3 zs) := fun s => ⟨s _ _ hStp6.at_, L2.Paired.mapP hStp6.rows fun p q h => ⟨h.1, h.2.keep (fun b xs e => s b _ e) (fun b xs e => s b _ e)⟩, hStp6.nd⟩
        refine ⟨X, rfl, ⟨_, SqL.of eX⟩, fun D hD => lc_it (walk_list (K := K) (a := X) (xs := (("" : Str) :: zs).map V.str)) (fun j H7 => Lst (fun H a z => H a = some (.dK (kvsP (Rr z)))) H6 H7 D ((("" : Str) :: zs).take j)) ?_ (fun j H7 _ h7 => SqL.of (h7.same _ _ eX)) ?_ ?_⟩
        · exact Lst.start hD
        · rintro j y H7 H8 hj W ⟨rfl, hy⟩
          obtain ⟨hj2, rfl⟩ := at_ hj hy
          have mz := List.getElem_mem hj2
          rw [ptake hj2]
          refine ⟨rfl, _, rfl, _, rfl, _, rfl, S, l, stepsOf t1 t2 t3 zs, (("" : Str) :: zs)[j], wordsOf zs, rfl, kStp W.same, inw mz, sts, (by omega), lsts, fun H9 aw s9 f9 e9 => ⟨n2, fun tt htt => ?_⟩⟩
          rw [eRr] at e9
          obtain ⟨acc, q1, q2, W7⟩ := Lst.push (G := fun H a z => H a = some (.dK (kvsP (Rr z)))) kG2 W hD s9 f9 e9 htt
          exact ⟨acc, q1, lt1 (by rw [q2, List.length_take, List.length_cons]; omega), W7⟩
        · rintro H7 W
          rw [List.length_map, List.take_length] at W
          obtain ⟨ts, l2, g1, g2, g3, g4⟩ := W.ex
          refine ⟨D, ts, kvsR l2, rfl, SqL.of g1, tupr_sq g2, fun C hC => ?_⟩
          have ndl2 : (l2.map (·.1)).Nodup := by rw [g3]; exact ndp
          rw [merge_R ndl2]
          have sC2 : Same H7 (upd H7 C (.dK (kvsR l2))) := Same.new hC
          have hC7 : CAt Rr (upd H7 C (.dK (kvsR l2))) C l2 := ⟨upd_same, fun p hp => sC2 _ _ (g4 p hp).2⟩
          have sD := Same.trans (Same.trans (Same.trans sC sX) W.same) sC2
          have eSg3 := sC2 _ _ (W.same _ _ (sX _ _ eSg2))
          generalize upd H7 C (.dK (kvsR l2)) = H8 at sD eSg3 hC7 ⊢
          clear W g1 g2 g4 hC sC2 sC sX eX hStp6 kStp hStp hD hX hl1' eSg2 kG2
          have pl : ∀ {z : Str}, z ∈ zs → z ∈ plc t1 := fun hz => List.mem_cons_of_mem _ ((pk _).mp hz)
          have inl : ∀ {z : Str}, z ∈ zs → z ∈ l2.map (·.1) := fun hz => by rw [g3]; exact List.mem_cons_of_mem _ hz
          have inl0 : ("" : Str) ∈ l2.map (·.1) := by rw [g3]; exact List.mem_cons_self
          have c0 : ∀ z ∈ zs, look (Rr "") z = cc t1 t2 t3 "" z := fun z hz => (fnd2 em_in (pl hz)).2
          have c1 : ∀ z ∈ zs, look (Rr z) "" = cc t1 t2 t3 z "" := fun z hz => (fnd2 (pl hz) em_in).2
          have c2 : ∀ x ∈ zs, ∀ y ∈ zs, look (Rr x) y = cc t1 t2 t3 x y := fun x hx y hy => (fnd2 (pl hx) (pl hy)).2
          have k0 : ∀ z ∈ zs, z ∈ (Rr "").map (·.1) := fun z hz => (fnd2 em_in (pl hz)).1
          have k1 : ∀ z ∈ zs, ("" : Str) ∈ (Rr z).map (·.1) := fun z hz => (fnd2 (pl hz) em_in).1
          have k2 : ∀ x ∈ zs, ∀ y ∈ zs, y ∈ (Rr x).map (·.1) := fun x hx y hy => (fnd2 (pl hx) (pl hy)).1
          have Wc := ct_of R
          generalize cc t1 t2 t3 = cf at c0 c1 c2 Wc
          have swt : ∀ {i : Nat} (h : i < zs.length), ((zs.take (i + 1)).flatMap fun a => tabS (prs zs a) cf) = ((zs.take i).flatMap fun a => tabS (prs zs a) cf) ++ tabS (prs zs zs[i]) cf := fun {i} h => by
            rw [List.take_add_one, List.getElem?_eq_getElem h, List.flatMap_append]
            simp
          have lpr : ∀ x, (tabS (prs zs x) cf).length ≤ 5 := fun x => by
            unfold tabS
            rw [List.length_map]
            exact Nat.le_trans (prs_len zs x) lz
          refine ⟨Nat.zero_le _, fun Sw hSw => ?_⟩
          have s9 : Same H8 (upd H8 Sw (.lst [])) := Same.new hSw
          have eSg9 := s9 _ _ eSg3
          have hC9 := hC7.keep fun b _ e => s9 b _ e
          have SgS : Sg ≠ Sw := ne_of_none eSg3 hSw
          have eSw : (upd H8 Sw (.lst [])) Sw = some (.lst []) := upd_same
          have sE := Same.trans sD s9
          have nSw : ∀ b u, H b = some u → b ≠ Sw := fun b u e => ne_of_none (sD _ _ e) hSw
          generalize upd H8 Sw (.lst []) = H9 at s9 eSg9 hC9 eSw sE ⊢
          have kC : ∀ {H' : Hp} {tab : STab}, Sww H9 H' Sw tab → CAt Rr H' C l2 := fun W => hC9.keep fun b kvs e => W.same b _ (fun z => by rw [z, eSw] at e; cases e) e
          refine ⟨_, rfl, Sg, rfl, ⟨_, SqL.of eSg9⟩, for_it (walk_list (K := K) (a := Sg) (xs := zs.map V.str)) (fun i σ H10 => (∃ o3, σ = [some (.ref L), some (.ref Sg), some (.ref W1), o3, some (.ref S), some (.ref C), some (.ref Sw), none, none, none, none]) ∧ Sww H9 H10 Sw ((zs.take i).flatMap fun a => tabS (prs zs a) cf)) ?_ (fun i σ H10 _ h => SqL.of (h.2.same _ _ SgS eSg9)) ?_ ?_⟩
          · exact ⟨⟨_, rfl⟩, fun b u _ e => e, [], eSw, .nil⟩
          · rintro i x σ H10 H11 hi ⟨⟨o3, rfl⟩, W⟩ ⟨rfl, hx⟩
            obtain ⟨hi2, rfl⟩ := at_ hi hx
            have nx := swt hi2
            have lT : ((zs.take i).flatMap fun a => tabS (prs zs a) cf).length ≤ 30 := by
              have := flat_len (fun a => tabS (prs zs a) cf) 5 lpr (zs.take i)
              rw [List.length_take] at this
              have : min i zs.length * 5 ≤ 5 * 5 := Nat.mul_le_mul_right 5 (by omega)
              omega
            rw [nx]
            have mo := List.getElem_mem hi2
            generalize ((zs.take i).flatMap fun a => tabS (prs zs a) cf) = T at W lT ⊢
            generalize zs[i] = one at mo ⊢
            clear nx hi hi2 hx
            obtain ⟨ts, g1, g2⟩ := W.out
            have eSgW := W.same _ _ SgS eSg9
            have hCW := kC W
            refine ⟨_, rfl, .inl ⟨rfl, _, SqL.of g1⟩, _, rfl, Sg, rfl, ⟨_, SqL.of eSgW⟩, fun D hD => lc_it (walk_list (K := K) (a := Sg) (xs := zs.map V.str)) (fun j H12 => Sww H11 H12 D (tabS (prs (zs.take j) one) cf)) ?_ (fun j H12 _ h => SqL.of (h.same _ _ (ne_of_none eSgW hD) eSgW)) ?_ ?_⟩
            · exact ⟨fun b u n e => by rw [upd_ne n]; exact e, [], upd_same, .nil⟩
            · rintro j y H12 H13 hj W12 ⟨rfl, hy⟩
              obtain ⟨hj2, rfl⟩ := at_ hj hy
              have moth := List.getElem_mem hj2
              have lJ : (tabS (prs (zs.take j) one) cf).length ≤ 5 := by
                unfold tabS
                rw [List.length_map]
                have := prs_len (zs.take j) one
                rw [List.length_take] at this
                omega
              rw [prs_take zs one hj2, tabS_app]
              refine ⟨rfl, _, rfl, _, rfl, rfl, _, rfl, ?_⟩
              by_cases c : one = zs[j]
              · rw [decide_eq_true (by rw [c] : V.str one = V.str zs[j]), if_pos c]
                refine iteF ?_
                have : tabS (prs (zs.take j) one) cf ++ tabS [] cf = tabS (prs (zs.take j) one) cf := List.append_nil _
                rw [this]
                exact W12
              · rw [decide_eq_false (fun h => c (by injection h) : ¬ V.str one = V.str zs[j]), if_neg c]
                have hC12 := hCW.keep fun b kvs e => W12.same b _ (ne_of_none e hD) e
                refine iteT ⟨_, rfl, _, rfl, n2, fun k hk => ?_⟩
                obtain ⟨ac, D1, D2⟩ := (hC12.keep fun b kvs e => (Same.new (o := .tup [.str one, .str zs[j]]) hk) b _ e).get ndl2 (inl mo) (k2 one mo _ moth)
                rw [c2 one mo _ moth] at D2
                refine ⟨_, rfl, _, rfl, C, _, rfl, D1, _, rfl, ac, _, rfl, D2, n2, fun t ht => ?_⟩
                obtain ⟨acc, q1, q2, W13⟩ := W12.push (x := one) (y := zs[j]) (i := cf one zs[j]) hD hk ht
                exact ⟨acc, q1, lt1 (by rw [q2]; omega), W13⟩
            · rintro H12 W12
              rw [List.length_map, List.take_length] at W12
              obtain ⟨ts3, e3, h3⟩ := W12.out
              have SwD : Sw ≠ D := ne_of_none g1 hD
              have g1' := W12.same _ _ SwD g1
              have lts : ts.length = T.length := Paired.length g2
              have lts3 : ts3.length = (tabS (prs zs one) cf).length := Paired.length h3
              have := lpr one
              have keep : ∀ b xs, H12 b = some (.tup xs) → (upd H12 Sw (.lst (ts.map V.ref ++ ts3.map V.ref))) b = some (.tup xs) := fun b xs e => by
                rw [upd_ne (fun z => by rw [z, g1'] at e; cases e)]
                exact e
              refine ⟨Sw, D, _, _, rfl, rfl, g1', e3, nar (by rw [List.length_map, List.length_map]; omega), ⟨_, rfl⟩, fun b u n e => ?_, ts ++ ts3, by rw [upd_same, List.map_append], Paired.appendP (RowsS.keep keep (RowsS.keep (fun b xs e => W12.same b _ (ne_of_none e hD) e) g2)) (RowsS.keep keep h3)⟩
              rw [upd_ne n]
              have e2 := W.same _ _ n e
              exact W12.same _ _ (ne_of_none e2 hD) e2
          · rintro σ H10 ⟨⟨o3, rfl⟩, W⟩
            rw [List.length_map, List.take_length, ← tabS_pairs] at W
            have eSgW := W.same _ _ SgS eSg9
            have hCW := kC W
            have sF : ∀ b u, H b = some u → H10 b = some u := fun b u e => W.same b u (nSw b u e) (sE b u e)
            obtain ⟨ts, g1, g2⟩ := W.out
            clear W kC hC9 hC7 s9 eSw sE hSw eSg9 eSg3
            have ptk : ∀ (fu : Str → Int) {i : Nat} (h : i < zs.length), tabP (zs.take (i + 1)) fu = tabP (zs.take i) fu ++ [(zs[i], fu zs[i])] := fun fu {i} h => tabP_take zs fu h
            have lP : ∀ (fu : Str → Int) (i : Nat), (tabP (zs.take i) fu).length ≤ 5 := fun fu i => by
              unfold tabP
              rw [List.length_map, List.length_take]
              omega
            have tnd : ∀ fu : Str → Int, ((tabP zs fu).map (·.1)).Nodup := fun fu => by rw [tabP_keys]; exact ndz
            refine ⟨_, rfl, Sg, rfl, ⟨_, SqL.of eSgW⟩, fun D hD => lc_it (walk_list (K := K) (a := Sg) (xs := zs.map V.str)) (fun j H12 => Gw H10 H12 D (tabP (zs.take j) (cf ""))) ?_ (fun j H12 _ h => SqL.of (h.same _ _ (ne_of_none eSgW hD) eSgW)) ?_ ?_⟩
            · exact ⟨fun b u n e => by rw [upd_ne n]; exact e, [], upd_same, .nil⟩
            · rintro j y H12 H13 hj W12 ⟨rfl, hy⟩
              obtain ⟨hj2, rfl⟩ := at_ hj hy
              have mz := List.getElem_mem hj2
              rw [ptk (cf "") hj2]
              have hC12 := hCW.keep fun b kvs e => W12.same b _ (ne_of_none e hD) e
              obtain ⟨ac, D1, D2⟩ := hC12.get ndl2 inl0 (k0 _ mz)
              rw [c0 _ mz] at D2
              refine ⟨rfl, _, rfl, _, rfl, C, _, rfl, D1, _, rfl, ac, _, rfl, D2, n2, fun t ht => ?_⟩
              obtain ⟨ts6, g6, _⟩ := W12.out
              obtain ⟨acc, q1, q2, W13⟩ := (W12.new (o := .tup [.str zs[j], .int (cf "" zs[j])]) ht).push upd_same (.inr fun e => by
                rw [e, g6] at ht
                cases ht)
              exact ⟨acc, q1, lt1 (by rw [q2]; have := lP (cf "") j; omega), W13⟩
            · rintro H12 W12
              rw [List.length_map, List.take_length] at W12
              obtain ⟨tsP, p1, p2⟩ := W12.out
              refine ⟨D, tsP, kvsP (tabP zs (cf "")), rfl, SqL.of p1, tups_sq p2, fun dP hdP => ?_⟩
              rw [merge_P0 (tnd _)]
              have sG : ∀ b u, H10 b = some u → (upd H12 dP (.dK (kvsP (tabP zs (cf ""))))) b = some u := fun b u e => (Same.new hdP) _ _ (W12.same b u (ne_of_none e hD) e)
              have eP : (upd H12 dP (.dK (kvsP (tabP zs (cf ""))))) dP = some (.dK (kvsP (tabP zs (cf "")))) := upd_same
              generalize upd H12 dP (.dK (kvsP (tabP zs (cf "")))) = H13 at sG eP ⊢
              have fP : H dP = none := nulH (fun b u e => W12.same b u (ne_of_none (sF _ _ e) hD) (sF _ _ e)) hdP
              clear W12 p1 p2 hdP hD
              have eSgP := sG _ _ eSgW
              have hCP := hCW.keep fun b kvs e => sG b _ e
              refine ⟨_, rfl, _, rfl, Sg, rfl, ⟨_, SqL.of eSgP⟩, fun D hD => lc_it (walk_list (K := K) (a := Sg) (xs := zs.map V.str)) (fun j H14 => Gw H13 H14 D (tabP (zs.take j) fun z => cf z "")) ?_ (fun j H14 _ h => SqL.of (h.same _ _ (ne_of_none eSgP hD) eSgP)) ?_ ?_⟩
              · exact ⟨fun b u n e => by rw [upd_ne n]; exact e, [], upd_same, .nil⟩
              · rintro j y H14 H15 hj W14 ⟨rfl, hy⟩
                obtain ⟨hj2, rfl⟩ := at_ hj hy
                have mz := List.getElem_mem hj2
                rw [ptk (fun z => cf z "") hj2]
                have hC14 := hCP.keep fun b kvs e => W14.same b _ (ne_of_none e hD) e
                obtain ⟨ac, D1, D2⟩ := hC14.get ndl2 (inl mz) (k1 _ mz)
                rw [c1 _ mz] at D2
                refine ⟨rfl, _, rfl, _, rfl, _, rfl, C, _, rfl, D1, ac, _, rfl, D2, n2, fun t ht => ?_⟩
                obtain ⟨ts6, g6, _⟩ := W14.out
                obtain ⟨acc, q1, q2, W15⟩ := (W14.new (o := .tup [.str zs[j], .int (cf zs[j] "")]) ht).push upd_same (.inr fun e => by
                  rw [e, g6] at ht
                  cases ht)
                exact ⟨acc, q1, lt1 (by rw [q2]; have := lP (fun z => cf z "") j; omega), W15⟩
              · rintro H14 W14
                rw [List.length_map, List.take_length] at W14
                obtain ⟨tsO, o1, o2⟩ := W14.out
                refine ⟨D, tsO, kvsP (tabP zs fun z => cf z ""), rfl, SqL.of o1, tups_sq o2, fun dO hdO => ?_⟩
                rw [merge_P0 (tnd _)]
                have sI : ∀ b u, H13 b = some u → (upd H14 dO (.dK (kvsP (tabP zs fun z => cf z "")))) b = some u := fun b u e => (Same.new hdO) _ _ (W14.same b u (ne_of_none e hD) e)
                have eO : (upd H14 dO (.dK (kvsP (tabP zs fun z => cf z "")))) dO = some (.dK (kvsP (tabP zs fun z => cf z ""))) := upd_same
                generalize upd H14 dO (.dK (kvsP (tabP zs fun z => cf z ""))) = H15 at sI eO ⊢
                have fO : H dO = none := nulH (fun b u e => W14.same b u (ne_of_none (sG _ _ (sF _ _ e)) hD) (sG _ _ (sF _ _ e))) hdO
                have eP15 := sI _ _ eP
                have sJ : ∀ b u, H10 b = some u → H15 b = some u := fun b u e => sI b u (sG b u e)
                have ndS : ((tabS (pairsOf zs) cf).map (·.1)).Nodup := by rw [tabS_keys]; exact nodup_pairs ndz
                refine ⟨_, rfl, Sw, ts, kvsS (tabS (pairsOf zs) cf), rfl, SqL.of (sJ _ _ g1), rows_prs (RowsS.keep (fun b xs e => sJ b _ e) g2), kvsS_nd ndS, fun dS hdS => ?_⟩
                refine ⟨(by show 3 ≤ sizeLine; decide), fun M hM => ?_⟩
                have sK : ∀ b u, H15 b = some u → (upd (upd H15 dS (.dT (kvsS (tabS (pairsOf zs) cf)))) M (.lst [.ref dP, .ref dO, .ref dS])) b = some u := fun b u e => (Same.new hM) _ _ ((Same.new hdS) _ _ e)
                have Mf : H M = none := by
                  cases e : H M with
                  | none => rfl
                  | some u =>
                    have := (Same.new (o := .dT (kvsS (tabS (pairsOf zs) cf))) hdS) _ _ (sJ _ _ (sF _ _ e))
                    rw [hM] at this
                    cases this
                refine q _ M dP dO dS (tabP zs (cf "")) (tabP zs fun z => cf z "") (tabS (pairsOf zs) cf) cf (fun b u e => sK _ _ (sJ _ _ (sF _ _ e))) Mf ⟨upd_same, sK _ _ eP15, sK _ _ eO, (Same.new hM) _ _ upd_same⟩ ⟨Wc.cl, pz.map _, pz.map _, (perm_pairs ndz pz).map _⟩ fP fO (nulH (H := H) (H' := H15) (x := dS) (fun b u e => sJ _ _ (sF _ _ e)) hdS)
end
end Mk

set_option Elab.async false
set_option linter.all false
set_option maxRecDepth 100000
set_option maxHeartbeats 2000000
/-! what is told, by the law -/
namespace Mk
open PySem PySem.Spec L2 PyProof.Rows

abbrev nTq : List Str := ["_law_prices", "_law_tables_here", "_law_told", "_law_table"]
theorem call_sort2 {X : Cx} (hc : X.calm = true) (hu : X.A.units + 60 < cLine) : CallR X (.builtin "sorted") (fun xs H Q => rSortK xs H Q ∨ rSortT xs H Q) := CallR.or (call_sortK hc hu) (call_sortT hc hu)
theorem by_wayA (Cn : Addr → Hp → Prop) {X : Addr → Hp → Prop} {G : Prop} (h1 : (∀ d H, Cn d H → X d H) → G) (h2 : ∀ d H, Cn d H → X d H) : G := h1 h2
/-- the rows of a table of either kind, in the list at l -/
def RowsAt (H : Hp) (l : Addr) : PTab ⊕ STab → Prop
  | .inl u => RowAt H l u
  | .inr u => ∃ ts : List Addr, H l = some (.lst (ts.map V.ref)) ∧ RowsS H ts u
def rowsD : PTab ⊕ STab → PyData
  | .inl u => .list (u.map rowP)
  | .inr u => .list (u.map rowS)
theorem RowsAt.keep {H H' : Hp} {l : Addr} {u : PTab ⊕ STab} (h : RowsAt H l u) (kl : ∀ xs, H l = some (.lst xs) → H' l = some (.lst xs)) (k : ∀ b xs, H b = some (.tup xs) → H' b = some (.tup xs)) : RowsAt H' l u := by
  cases u with
  | inl u =>
    obtain ⟨ts, a, b⟩ := h
    exact ⟨ts, kl _ a, Tups.keep k b⟩
  | inr u =>
    obtain ⟨ts, a, b⟩ := h
    exact ⟨ts, kl _ a, RowsS.keep k b⟩
theorem RowsAt.lst {H : Hp} {l : Addr} {u : PTab ⊕ STab} (h : RowsAt H l u) : ∃ xs, H l = some (.lst xs) := by
  cases u with
  | inl u =>
    obtain ⟨ts, a, b⟩ := h
    exact ⟨_, a⟩
  | inr u =>
    obtain ⟨ts, a, b⟩ := h
    exact ⟨_, a⟩
theorem rowsAt_dp {K : PySem.W.Frag} {H : Hp} {l : Addr} {u : PTab ⊕ STab} (h : RowsAt H l u) : Dp K H (.ref l) (rowsD u) := by
  cases u with
  | inl u =>
    obtain ⟨ts, a, b⟩ := h
    exact .lst (SqL.of a) (rows_K b)
  | inr u =>
    obtain ⟨ts, a, b⟩ := h
    exact .lst (SqL.of a) (rows_S b)
theorem rowsAt_dpAll {K : PySem.W.Frag} {H : Hp} : ∀ {ls : List Addr} {us : List (PTab ⊕ STab)}, Paired (fun u l => RowsAt H l u) us ls → DpAll K H (ls.map V.ref) (us.map rowsD)
  | _, _, .nil => .nil
  | _, _, .cons h t => .cons (rowsAt_dp h) (rowsAt_dpAll t)
/-- the three tables -/
abbrev us3 (u1 u2 : PTab) (u3 : STab) : List (PTab ⊕ STab) := [.inl u1, .inl u2, .inr u3]
def tabD3 (u1 u2 : PTab) (u3 : STab) : PyData := .list ((us3 u1 u2 u3).map rowsD)
structure Smal (t1 t2 : PTab) (t3 : STab) : Prop where
  ag : Agree t1 t2 t3
  nd : (t3.map (·.1)).Nodup
  b1 : ∀ p ∈ t1, 0 ≤ p.2 ∧ p.2 ≤ 60
  b2 : ∀ p ∈ t2, 0 ≤ p.2 ∧ p.2 ≤ 60
  b3 : ∀ p ∈ t3, 0 ≤ p.2 ∧ p.2 ≤ 60
theorem RtT.smal {t1 t2 : PTab} {t3 : STab} (R : RtT t1 t2 t3) : Smal t1 t2 t3 := ⟨R.ag, R.nd, fun p hp => by have := R.bds.b1 p hp; omega, fun p hp => by have := R.bds.b2 p hp; omega, fun p hp => by have := R.bds.b3 p hp; omega⟩
theorem shw_tab3 {t1 t2 : PTab} {t3 : STab} (r : Smal t1 t2 t3) : Shw (tabD3 t1 t2 t3) 2818 4 := by
  have sgk : ∀ z ∈ t1.map (·.1), sgB z = true := fun z hz => by
    obtain ⟨q, hq, rfl⟩ := List.mem_map.mp hz
    exact r.ag.sg q hq
  have l1 := r.ag.l1
  have l2 := r.ag.l2
  have l3 := r.ag.l3
  have w2 : ∀ {t : PTab}, t.length ≤ 5 → (∀ p ∈ t, sgB p.1 = true) → (∀ p ∈ t, 0 ≤ p.2 ∧ p.2 ≤ 60) → Shw (.list (t.map rowP)) 77 2 := fun {t} hl hs hb => by
    have := shw_list (n := 13) (k := 1) (xs := t.map rowP) fun x hx => by
      obtain ⟨q, hq, rfl⟩ := List.mem_map.mp hx
      exact shw_rowP (hs q hq) (hb q hq).1 (hb q hq).2
    refine this.mono ?_ (Nat.le_refl _)
    rw [List.length_map]
    omega
  have w3 : Shw (.list (t3.map rowS)) 702 3 := by
    have := shw_list (n := 33) (k := 2) (xs := t3.map rowS) fun x hx => by
      obtain ⟨q, hq, rfl⟩ := List.mem_map.mp hx
      have h := r.ag.pr q hq
      exact shw_rowS (sgk _ h.1) (sgk _ h.2.1) (r.b3 q hq).1 (r.b3 q hq).2
    refine this.mono ?_ (Nat.le_refl _)
    rw [List.length_map]
    omega
  refine (shw_list (n := 702) (k := 3) fun x hx => ?_).mono (by show 3 * (702 + 2) + 2 ≤ 2818; decide) (Nat.le_refl _)
  simp only [us3, List.map_cons, List.map_nil, rowsD, List.mem_cons, List.not_mem_nil, or_false] at hx
  rcases hx with rfl | rfl | rfl
  · exact (w2 l1 r.ag.sg r.b1).mono (by decide) (by decide)
  · exact (w2 l2 r.ag.sg2 r.b2).mono (by decide) (by decide)
  · exact w3
def spTq (C : Addr) : Sp := fun vs H Q _ => ∃ (x L a b c : Addr) (t1 t2 : PTab) (t3 : STab) (u1 u2 : PTab) (u3 : STab), vs = [.ref x, .ref L] ∧ PrAt C H x u1 u2 u3 ∧ Srt u1 u2 u3 ∧ RtT u1 u2 u3 ∧ Rec H L a b c t1 t2 t3 ∧ u1.Perm t1 ∧ u2.Perm t2 ∧ u3.Perm t3 ∧ ∀ H', Same H H' → Q (.bl true) H'
section
variable {P : Program} {w : World} {K : PySem.W.Frag} {mg : Str → Option Value} {base : Heap}
theorem scTq : FnScope nTq ["_law_prices", "_law_tables_here"] (defScope sLTold) := ⟨rfl, rfl, rfl, by decide +kernel, rfl, by decide +kernel, by decide +kernel⟩
theorem ok_tq {f C : Addr} {fd : FuncData} (F : Fun K "_law_is_told" "_law_is_told" sLTold f fd) (T : Pc K C) (O : On mg) (Rp : Rn mg) (P1 : Pd P w K mg base C 2 "put" (spTabP C fun t _ => t)) (P2 : Pd P w K mg base C 2 "out" (spTabP C fun _ t => t)) (P3 : Pd P w K mg base C 2 "swap" (spTabS C)) : FnG P w K mg base CX0 4 f fd ["_law_prices", "_law_tables_here"] (spTq C) := by
  obtain ⟨p1, g1, e1, O1, G1, b1⟩ := P1.ex
  obtain ⟨p2, g2, e2, O2, G2, b2⟩ := P2.ex
  obtain ⟨p3, g3, e3, O3, G3, b3⟩ := P3.ex
  refine Fun_okG F scTq (fun vs H Q E h => ?_) (fun cdv A outer s H vs Q E hr gd h => ?_)
  · obtain ⟨x, L, a, b, c, t1, t2, t3, u1, u2, u3, rfl, _⟩ := h
    rfl
  · obtain ⟨x, L, a, b, c, t1, t2, t3, u1, u2, u3, rfl, px, sru, Ru, r, pu1, pu2, pu3, q⟩ := h
    have h100 : A.units + 3 + 100 < cLine := by
      have h2 : A.units + 3 + 16 * 3 + 200 < cLine := hr.un
      omega
    have h60 : A.units + 3 + 60 < cLine := by omega
    refine ⟨_, pss_cons (ps_set (i := 2) scTq.nd rfl (.inl rfl) (pe_lst (pa_cons (pe_callB (call_sortK rfl h60) (by rfl) O.sorted (by decide +kernel) (pa_cons (pe_bm0 PySem.F.plainAttrs_dict PySem.F.slot_dict_items PySem.F.type_dict_items mt_itms (pe_prop (pv 0) T.cl O1 G1 hr b1 .nil pass0 rfl)) pa_nil))
        (pa_cons (pe_callB (call_sortK rfl h60) (by rfl) O.sorted (by decide +kernel) (pa_cons (pe_bm0 PySem.F.plainAttrs_dict PySem.F.slot_dict_items PySem.F.type_dict_items mt_itms (pe_prop (pv 0) T.cl O2 G2 hr b2 .nil pass0 rfl)) pa_nil))
        (pa_cons (pe_callB (call_sortT rfl h60) (by rfl) O.sorted (by decide +kernel) (pa_cons (pe_bm0 PySem.F.plainAttrs_dict PySem.F.slot_dict_items PySem.F.type_dict_items mt_itms (pe_prop (pv 0) T.cl O3 G3 hr b3 .nil pass0 rfl)) pa_nil)) pa_nil)))))
      (pss_one (ps_ret (pe_cmpR op_eq (pe_callB (call_reprD gd h100) (by rfl) Rp.repr (by decide +kernel) (pa_cons (pv 2) pa_nil)) (pe_callB (call_reprD gd h100) (by rfl) Rp.repr (by decide +kernel) (pa_cons (pe_lc (own := [("_law_table", 3)]) (g := gName 3) (tt := tYes) rfl scTq.nd (pi_list (pv 1)) (blkOk_by (N := nTq) (sc := defScope sLTold) (by decide +kernel))
          (fun _ _ _ _ _ => pg_name (i := 3) scTq.nd rfl (Or.inl rfl)) (fun _ _ _ _ _ => pts_nil)
          (fun _ _ _ _ _ => pe_callB (call_sort2 rfl h60) (by rfl) O.sorted (by decide +kernel) (pa_cons (atK0 K (pe_bm0 PySem.F.plainAttrs_dict PySem.F.slot_dict_items PySem.F.type_dict_items mt_itms (pv 3))) pa_nil))) pa_nil)) (nomark _)))), ?_⟩
    have nar : ∀ {n : Nat}, n ≤ 1000 → n ≤ sizeLine := fun h1 => by rw [sizeLine_eq]; omega
    have lt1 : ∀ {n : Nat}, n ≤ 1000 → n < sizeLine := fun h1 => by rw [sizeLine_eq]; omega
    obtain ⟨dx, tx, ax, bx, cx, hx0, _, _⟩ := id px
    have ag := Ru.ag
    have nd1 := ag.nd
    have nd2 : (u2.map (·.1)).Nodup := ag.pm.nodup_iff.mpr nd1
    have l1 := ag.l1
    have l2 := ag.l2
    have l3 := ag.l3
    have k1 : t1.length ≤ 100 := by rw [← pu1.length_eq]; omega
    have k2 : t2.length ≤ 100 := by rw [← pu2.length_eq]; omega
    have k3 : t3.length ≤ 100 := by rw [← pu3.length_eq]; omega
    refine ⟨_, rfl, x, dx, _, rfl, hx0, x, u1, u2, u3, rfl, px, nd1, (by show u1.length ≤ 60; omega), sru, fun H1 D1 s1 f1 e1 => ⟨.inr (.inr (.inl ⟨rfl, .inl ⟨_, e1⟩⟩)), D1, rfl, rfl, .inl ⟨_, e1⟩, fun v1 hv1 => ⟨v1, D1, u1, rfl, upd_same, (Same.new hv1) _ _ e1, (by omega), fun H2 m1 ts1 w1 s2 m10 hm1 pw1 sw1 pr1 => ?_⟩⟩⟩
    obtain rfl : w1 = u1 := tab_one (fun _ _ => byCs_anti _ _) nd1 pw1 sru.a sw1
    have r1 : RowsAt H2 m1 (.inl w1) := ⟨ts1, hm1, pr1⟩
    have sA := Same.trans s1 (Same.trans (Same.new hv1) s2)
    clear s1 f1 e1 hv1 s2 hm1 pr1 m10
    refine ⟨_, rfl, x, dx, _, rfl, sA _ _ hx0, x, w1, u2, u3, rfl, px.same sA, nd2, (by show u2.length ≤ 60; omega), sru, fun H3 D2 s3 f2 e2 => ⟨.inr (.inr (.inl ⟨rfl, .inl ⟨_, e2⟩⟩)), D2, rfl, rfl, .inl ⟨_, e2⟩, fun v2 hv2 => ⟨v2, D2, u2, rfl, upd_same, (Same.new hv2) _ _ e2, (by omega), fun H4 m2 ts2 w2 s4 m20 hm2 pw2 sw2 pr2 => ?_⟩⟩⟩
    obtain rfl : w2 = u2 := tab_one (fun _ _ => byCs_anti _ _) nd2 pw2 sru.b sw2
    have r2 : RowsAt H4 m2 (.inl w2) := ⟨ts2, hm2, pr2⟩
    have sB := Same.trans s3 (Same.trans (Same.new hv2) s4)
    have r1 := r1.keep (fun xs e => sB _ _ e) (fun b xs e => sB _ _ e)
    have sA := Same.trans sA sB
    clear s3 f2 e2 hv2 s4 hm2 pr2 m20 sB
    refine ⟨_, rfl, x, dx, _, rfl, sA _ _ hx0, x, w1, w2, u3, rfl, px.same sA, Ru.nd, (by omega), sru, fun H5 D3 s5 f3 e3 => ⟨.inr (.inr (.inl ⟨rfl, .inr ⟨_, e3⟩⟩)), D3, rfl, rfl, .inr ⟨_, e3⟩, fun v3 hv3 => ⟨v3, D3, u3, rfl, upd_same, (Same.new hv3) _ _ e3, (by omega), fun H6 m3 ts3 w3 s6 m30 hm3 pw3 sw3 pr3 => ?_⟩⟩⟩
    obtain rfl : w3 = u3 := tab_one le2_anti Ru.nd pw3 sru.c sw3
    have r3 : RowsAt H6 m3 (.inr w3) := ⟨ts3, hm3, pr3⟩
    have sB := Same.trans s5 (Same.trans (Same.new hv3) s6)
    have r1 := r1.keep (fun xs e => sB _ _ e) (fun b xs e => sB _ _ e)
    have r2 := r2.keep (fun xs e => sB _ _ e) (fun b xs e => sB _ _ e)
    have sA := Same.trans sA sB
    clear s5 f3 e3 hv3 s6 hm3 pr3 m30 sB
    refine ⟨(by show 3 ≤ sizeLine; decide), fun lt hlt => ?_⟩
    have sB := Same.new (o := .lst [.ref m1, .ref m2, .ref m3]) hlt
    have d1 : Dp K (upd H6 lt (.lst [.ref m1, .ref m2, .ref m3])) (.ref lt) (tabD3 w1 w2 w3) :=
      .lst (SqL.of upd_same) (.cons (rowsAt_dp (r1.keep (fun xs e => sB _ _ e) (fun b xs e => sB _ _ e))) (.cons (rowsAt_dp (r2.keep (fun xs e => sB _ _ e) (fun b xs e => sB _ _ e))) (.cons (rowsAt_dp (r3.keep (fun xs e => sB _ _ e) (fun b xs e => sB _ _ e))) .nil)))
    have sA := Same.trans sA sB
    generalize upd H6 lt (.lst [.ref m1, .ref m2, .ref m3]) = H7 at sA d1 ⊢
    clear r1 r2 r3 sB hlt
    have sw := shw_tab3 Ru.smal
    have swl : (tabD3 w1 w2 w3).shown.length ≤ sizeLine := Nat.le_trans sw.l (by rw [sizeLine_eq]; decide)
    refine ⟨_, rfl, lt, tabD3 w1 w2 w3, rfl, d1, sw.s, sw.h, Nat.le_trans sw.dp (by decide), swl, ?_⟩
    have r7 := r.same sA
    refine ⟨_, rfl, L, rfl, ⟨_, SqL.of r7.l⟩, fun D hD => lc_it (walk_list (K := K) (a := L) (xs := [V.ref a, .ref b, .ref c])) (fun i H8 => Same H7 H8 ∧ ∃ ls : List Addr, H8 D = some (.lst (ls.map V.ref)) ∧ Paired (fun u l => l ≠ D ∧ RowsAt H8 l u) ((us3 w1 w2 w3).take i) ls) ?_ (fun i H8 _ h8 => SqL.of (h8.1 _ _ r7.l)) ?_ ?_⟩
    · exact ⟨Same.new hD, [], upd_same, .nil⟩
    · rintro i y H0 H8 hi ⟨s8, ls, d1', d2⟩ ⟨rfl, hy⟩
      have hi3 : i < 3 := hi
      obtain ⟨ad, us, hye, hrow, hsrc⟩ : ∃ (ad : Addr) (us : PTab ⊕ STab), y = V.ref ad ∧ (us3 w1 w2 w3).take (i + 1) = (us3 w1 w2 w3).take i ++ [us] ∧ ((∃ t u : PTab, us = .inl u ∧ H7 ad = some (.dK (kvsP t)) ∧ t.length ≤ 100 ∧ ∀ v : PTab, v.Perm t → (v.map (·.1)).Pairwise (fun a b => byCs a b = true) → v = u) ∨ ∃ t u : STab, us = .inr u ∧ H7 ad = some (.dT (kvsS t)) ∧ t.length ≤ 100 ∧ ∀ v : STab, v.Perm t → (v.map (·.1)).Pairwise (fun a b => le2 a b = true) → v = u) := by
        rcases (by omega : i = 0 ∨ i = 1 ∨ i = 2) with rfl | rfl | rfl
        · exact ⟨a, _, (Option.some.inj hy).symm, rfl, .inl ⟨t1, w1, rfl, r7.t.p, k1, fun v hv sv => tab_one (fun _ _ => byCs_anti _ _) nd1 (hv.trans pu1.symm) sru.a sv⟩⟩
        · exact ⟨b, _, (Option.some.inj hy).symm, rfl, .inl ⟨t2, w2, rfl, r7.t.o, k2, fun v hv sv => tab_one (fun _ _ => byCs_anti _ _) nd2 (hv.trans pu2.symm) sru.b sv⟩⟩
        · exact ⟨c, _, (Option.some.inj hy).symm, rfl, .inr ⟨t3, w3, rfl, r7.t.s, k3, fun v hv sv => tab_one le2_anti Ru.nd (hv.trans pu3.symm) sru.c sv⟩⟩
      subst hye
      have ld : ls.length ≤ 3 := by
        have e : ((us3 w1 w2 w3).take i).length = ls.length := Paired.length d2
        rw [List.length_take] at e
        have : (us3 w1 w2 w3).length = 3 := rfl
        omega
      rw [hrow]
      clear hrow
      refine ⟨rfl, ?_⟩
      revert hsrc
      apply by_wayA (fun d H9 => Same H8 H9 ∧ H8 d = none ∧ RowsAt H9 d us)
      · intro hX hsrc
        rcases hsrc with ⟨t, u, eu, h2, lt, hp⟩ | ⟨t, u, eu, h2, lt, hp⟩
        · have h3 := s8 _ _ h2
          refine ⟨_, rfl, .inr (.inr (.inl ⟨rfl, .inl ⟨_, h3⟩⟩)), ad, rfl, rfl, .inl ⟨_, h3⟩, fun v hv => .inl ⟨v, ad, t, rfl, upd_same, (Same.new hv) _ _ h3, lt, fun H9 l ts u' s9 l0 hl pu su pr' => ?_⟩⟩
          obtain rfl := hp u' pu su
          exact hX l H9 ⟨Same.trans (Same.new hv) s9, (Same.new hv).free l0, by rw [eu]; exact ⟨ts, hl, pr'⟩⟩
        · have h3 := s8 _ _ h2
          refine ⟨_, rfl, .inr (.inr (.inl ⟨rfl, .inr ⟨_, h3⟩⟩)), ad, rfl, rfl, .inr ⟨_, h3⟩, fun v hv => .inr ⟨v, ad, t, rfl, upd_same, (Same.new hv) _ _ h3, lt, fun H9 l ts u' s9 l0 hl pu su pr' => ?_⟩⟩
          obtain rfl := hp u' pu su
          exact hX l H9 ⟨Same.trans (Same.new hv) s9, (Same.new hv).free l0, by rw [eu]; exact ⟨ts, hl, pr'⟩⟩
      · rintro d H9 ⟨s9, f9, g9⟩
        have e9 := s9 _ _ d1'
        have nd : d ≠ D := fun e => by rw [e, d1'] at f9; cases f9
        have keep : ∀ b xs, H9 b = some (.tup xs) → (upd H9 D (.lst (ls.map V.ref ++ [.ref d]))) b = some (.tup xs) := fun b xs e => by
          rw [upd_ne (fun z => by rw [z, e9] at e; cases e)]
          exact e
        have keepL : ∀ {l : Addr}, l ≠ D → ∀ xs, H9 l = some (.lst xs) → (upd H9 D (.lst (ls.map V.ref ++ [.ref d]))) l = some (.lst xs) := fun n xs e => by
          rw [upd_ne n]
          exact e
        refine ⟨_, e9, lt1 (by rw [List.length_map]; omega), fun b0 o0 e0 => ?_, ls ++ [d], by rw [upd_same, List.map_append]; rfl, Paired.snocP ⟨nd, g9.keep (keepL nd) keep⟩ (L2.Paired.mapP d2 fun u l h => ⟨h.1, (h.2.keep (fun xs e => s9 _ _ e) (fun b xs e => s9 _ _ e)).keep (keepL h.1) keep⟩)⟩
        rw [upd_ne (ne_of_none e0 hD)]
        exact s9 _ _ (s8 _ _ e0)
    · rintro H8 ⟨s8, ls, d1', d2⟩
      have d2 : Paired (fun u l => l ≠ D ∧ RowsAt H8 l u) (us3 w1 w2 w3) ls := d2
      have dd2 : Dp K H8 (.ref D) (tabD3 w1 w2 w3) := .lst (SqL.of d1') (rowsAt_dpAll (L2.Paired.mapP d2 fun _ _ h => h.2))
      refine ⟨D, tabD3 w1 w2 w3, rfl, dd2, sw.s, sw.h, Nat.le_trans sw.dp (by decide), swl, rfl, ?_⟩
      rw [decide_eq_true rfl]
      exact q _ (Same.trans sA s8)
end
end Mk

set_option Elab.async false
set_option linter.all false
set_option maxRecDepth 100000
set_option maxHeartbeats 2000000
/-! the kinds of changes, by the law -/
namespace Mk
open PySem PySem.Spec L2 PyProof.Rows

abbrev sKd : Stmt := top 45
abbrev nKd : List Str := ["_law_tables_here", "_law_found", "_law_sign", "_law_pair"]
abbrev Kind := List Str × Int
abbrev KnRow (H : Hp) (t : Addr) (q : Kind) : Prop := ∃ k : Addr, H t = some (.tup [.ref k, .int q.2]) ∧ H k = some (.tup (q.1.map V.str))
def KnAt (H : Hp) (l : Addr) (ks : List Kind) : Prop := ∃ ts : List Addr, H l = some (.lst (ts.map V.ref)) ∧ Paired (KnRow H) ts ks
/-- a kind of change with what it costs by these tables -/
def Kn (r1 r2 : PTab) (r3 : STab) (q : Kind) : Prop := (∃ s ∈ r1.map (·.1), q = ([("put" : Str), s], look r1 s)) ∨ (∃ s ∈ r2.map (·.1), q = ([("out" : Str), s], look r2 s)) ∨ ∃ p ∈ r3.map (·.1), q = ([("swap" : Str), p.1, p.2], look r3 p)
theorem KnAt.keep {H H' : Hp} {l : Addr} {ks : List Kind} (h : KnAt H l ks) (kl : ∀ xs, H l = some (.lst xs) → H' l = some (.lst xs)) (k : ∀ b xs, H b = some (.tup xs) → H' b = some (.tup xs)) : KnAt H' l ks := by
  obtain ⟨ts, a, b⟩ := h
  exact ⟨ts, kl _ a, L2.Paired.mapP b fun _ _ ⟨q, e1, e2⟩ => ⟨q, k _ _ e1, k _ _ e2⟩⟩
theorem KnAt.start {H : Hp} {D : Addr} (hD : H D = none) : KnAt (upd H D (.lst [])) D [] := ⟨[], upd_same, .nil⟩
theorem KnAt.push {H : Hp} {D k t : Addr} {ks : List Kind} {xs : List Str} {i : Int} (W : KnAt H D ks) (hk : H k = none) (ht : (upd H k (.tup (xs.map V.str))) t = none) :
    ∃ acc, (upd (upd H k (.tup (xs.map V.str))) t (.tup [.ref k, .int i])) D = some (.lst acc) ∧ acc.length = ks.length ∧ KnAt (upd (upd (upd H k (.tup (xs.map V.str))) t (.tup [.ref k, .int i])) D (.lst (acc ++ [.ref t]))) D (ks ++ [(xs, i)]) := by
  obtain ⟨ts, e1, e2⟩ := W
  have Dk : D ≠ k := ne_of_none e1 hk
  have e1' : (upd H k (.tup (xs.map V.str))) D = some (.lst (ts.map V.ref)) := by rw [upd_ne Dk]; exact e1
  have Dt : D ≠ t := ne_of_none e1' ht
  have kt : k ≠ t := ne_of_none upd_same ht
  have keep : ∀ b o, b ≠ D → H b = some o → (upd (upd (upd H k (.tup (xs.map V.str))) t (.tup [.ref k, .int i])) D (.lst (ts.map V.ref ++ [.ref t]))) b = some o := fun b o n e => by
    have a1 : (upd H k (.tup (xs.map V.str))) b = some o := by rw [upd_ne (ne_of_none e hk)]; exact e
    rw [upd_ne n, upd_ne (ne_of_none a1 ht)]
    exact a1
  refine ⟨_, by rw [upd_ne Dt]; exact e1', by rw [List.length_map]; exact Paired.length e2, ts ++ [t], by rw [upd_same, List.map_append]; rfl, Paired.snocP ⟨k, ?_, ?_⟩ (L2.Paired.mapP e2 fun _ _ ⟨q, z1, z2⟩ => ⟨q, keep _ _ (fun z => by rw [z, e1] at z1; cases z1) z1, keep _ _ (fun z => by rw [z, e1] at z2; cases z2) z2⟩)⟩
  · rw [upd_ne Dt.symm]
    exact upd_same
  · rw [upd_ne Dk.symm, upd_ne kt]
    exact upd_same
def spKd : Sp := fun vs H Q _ => ∃ (L a b c : Addr) (r1 r2 : PTab) (r3 : STab), vs = [.ref L] ∧ Rec H L a b c r1 r2 r3 ∧ RtT r1 r2 r3 ∧
  ∀ H' l ks, Same H H' → H l = none → KnAt H' l ks → ks.length ≤ 30 → (∀ q ∈ ks, Kn r1 r2 r3 q) → Q (.ref l) H'
theorem ix_tupK {X : Cx} (K : PySem.W.Frag) (hK : X.K = K := by rfl) : IxR X (rIxT K) := by
  subst hK
  exact ix_tup
section
variable {P : Program} {w : World} {K : PySem.W.Frag} {mg : Str → Option Value} {base : Heap}
theorem scKd : FnScope nKd ["_law_tables_here"] (defScope sKd) := ⟨rfl, rfl, rfl, by decide +kernel, rfl, by decide +kernel, by decide +kernel⟩
theorem ok_kd {f : Addr} {fd : FuncData} (F : Fun K "_law_kinds" "_law_kinds" sKd f fd) (O : On mg) : FnOk P w K mg base CX0 1 f fd ["_law_tables_here"] spKd := by
  refine F.ok scKd (fun vs H Q E h => ?_) (fun cdv A outer s H vs Q E hr h => ?_)
  · obtain ⟨L, a, b, c, r1, r2, r3, rfl, _⟩ := h
    rfl
  · have hu := hu_of hr
    have h60 : A.units + 3 + 60 < cLine := by
      have h2 : A.units + 3 + 16 * 0 + 200 < cLine := hr.un
      omega
    obtain ⟨L, a, b, c, r1, r2, r3, rfl, r, R, q⟩ := h
    refine ⟨_, pss_cons (ps_setLc (i := 1) (own := [("_law_sign", 2)]) (g := gName 2) (tt := tYes) rfl scKd.nd rfl rfl rfl (pi_list (pe_callB (call_sortedD rfl) (by rfl) O.sorted (by decide +kernel) (pa_cons (pe_ix ix_list (pv 0) pe_int (fun _ _ => rfl)) pa_nil))) (blkOk_by (N := nKd) (sc := defScope sKd) (by decide +kernel))
          (fun _ _ _ _ _ => pg_name (i := 2) scKd.nd rfl (Or.inl rfl)) (fun _ _ _ _ _ => pts_nil)
          (fun _ _ _ _ _ => pe_tup (pa_cons (pe_tup (pa_cons pe_str (pa_cons (pv 2) pa_nil))) (pa_cons (pe_dget hu (pe_ix (ix_listK K) (pv 0) pe_int (fun _ _ => rfl)) (pv 2) (fun _ _ => rfl)) pa_nil))))
      (pss_cons (ps_set (i := 1) scKd.nd rfl (.inl rfl) (pe_op op_cat (pv 1) (pe_lc (own := [("_law_sign", 2)]) (g := gName 2) (tt := tYes) rfl scKd.nd (pi_list (pe_callB (call_sortedD rfl) (by rfl) O.sorted (by decide +kernel) (pa_cons (pe_ix ix_list (pv 0) pe_int (fun _ _ => rfl)) pa_nil))) (blkOk_by (N := nKd) (sc := defScope sKd) (by decide +kernel))
          (fun _ _ _ _ _ => pg_name (i := 2) scKd.nd rfl (Or.inl rfl)) (fun _ _ _ _ _ => pts_nil)
          (fun _ _ _ _ _ => pe_tup (pa_cons (pe_tup (pa_cons pe_str (pa_cons (pv 2) pa_nil))) (pa_cons (pe_dget hu (pe_ix (ix_listK K) (pv 0) pe_int (fun _ _ => rfl)) (pv 2) (fun _ _ => rfl)) pa_nil))))))
      (pss_one (ps_ret (pe_op op_cat (pv 1) (pe_lc (own := [("_law_pair", 3)]) (g := gName 3) (tt := tYes) rfl scKd.nd (pi_list (pe_callB (cr_sortT2 rfl h60) (by rfl) O.sorted (by decide +kernel) (pa_cons (pe_ix ix_list (pv 0) pe_int (fun _ _ => rfl)) pa_nil))) (blkOk_by (N := nKd) (sc := defScope sKd) (by decide +kernel))
          (fun _ _ _ _ _ => pg_name (i := 3) scKd.nd rfl (Or.inl rfl)) (fun _ _ _ _ _ => pts_nil)
          (fun _ _ _ _ _ => pe_tup (pa_cons (pe_tup (pa_cons pe_str (pa_cons (pe_ix (ix_tupK K) (pv 3) pe_int (fun _ _ => rfl)) (pa_cons (pe_ix (ix_tupK K) (pv 3) pe_int (fun _ _ => rfl)) pa_nil)))) (pa_cons (pe_dget hu (pe_ix (ix_listK K) (pv 0) pe_int (fun _ _ => rfl)) (pv 3) (fun _ _ => rfl)) pa_nil)))))))), ?_⟩
    have nar : ∀ {n : Nat}, n ≤ 1000 → n ≤ sizeLine := fun h1 => by rw [sizeLine_eq]; omega
    have lt1 : ∀ {n : Nat}, n ≤ 1000 → n < sizeLine := fun h1 => by rw [sizeLine_eq]; omega
    have n2 : 2 ≤ sizeLine := by decide
    have n4 : 4 ≤ sizeLine := by decide
    have n3 : 3 ≤ sizeLine := by decide
    have ag := R.ag
    have l1 := ag.l1
    have l2 := ag.l2
    have l3 := ag.l3
    have at_ : ∀ {ws : List Str} {i : Nat} {x : V} (hi : i < (ws.map V.str).length), (ws.map V.str)[i]? = some x → ∃ h : i < ws.length, x = V.str ws[i] := fun {ws i x} hi hx => by
      have h : i < ws.length := by rwa [List.length_map] at hi
      rw [List.getElem?_map, List.getElem?_eq_getElem h] at hx
      exact ⟨h, (Option.some.inj hx).symm⟩
    have mtk : ∀ {α : Type} {ws : List α} (f : α → Kind) {i : Nat} (h : i < ws.length), (ws.take (i + 1)).map f = (ws.take i).map f ++ [f ws[i]] := fun {α ws} f {i} h => by
      rw [List.take_add_one, List.getElem?_eq_getElem h, List.map_append]
      rfl
    -- put
    refine ⟨_, rfl, L, _, _, _, rfl, rfl, SqL.of r.l, atI_nat (j := 0) rfl, a, kvsP r1, r1.map (·.1), rfl, .inl r.t.p, kvsP_keys r1, by rw [List.length_map]; omega, fun zs p pz so hp => ?_⟩
    have sA : Same H (upd H p (.lst (zs.map V.str))) := Same.new hp
    have ep : (upd H p (.lst (zs.map V.str))) p = some (.lst (zs.map V.str)) := upd_same
    generalize upd H p (.lst (zs.map V.str)) = H1 at sA ep ⊢
    have lz : zs.length ≤ 5 := by
      have := pz.length_eq
      rw [List.length_map] at this
      omega
    have keepD : ∀ {H0 H' : Hp} {D k t : Addr} {o1 o2 o3 : HO} (hD : H0 D = none) (s : Same H0 H') (hk : H' k = none) (ht : (upd H' k o1) t = none), Same H0 (upd (upd (upd H' k o1) t o2) D o3) := fun {H0 H' D k t o1 o2 o3} hD s hk ht b u e => by
      have a0 := s _ _ e
      have a1 : (upd H' k o1) b = some u := by rw [upd_ne (ne_of_none a0 hk)]; exact a0
      rw [upd_ne (ne_of_none e hD), upd_ne (ne_of_none a1 ht)]
      exact a1
    refine ⟨p, rfl, ⟨_, SqL.of ep⟩, fun D hD => lc_it (walk_list (K := K) (a := p) (xs := zs.map V.str)) (fun j H2 => Same H1 H2 ∧ KnAt H2 D ((zs.take j).map fun s => ([("put" : Str), s], look r1 s))) ?_ (fun j H2 _ h2 => SqL.of (h2.1 _ _ ep)) ?_ ?_⟩
    · exact ⟨Same.new hD, KnAt.start hD⟩
    · rintro j y H2 H3 hj ⟨s2, W⟩ ⟨rfl, hy⟩
      obtain ⟨hj2, rfl⟩ := at_ hj hy
      have mz := pz.mem_iff.mp (List.getElem_mem hj2)
      rw [mtk _ hj2]
      have r3 := r.same (Same.trans sA s2)
      refine ⟨rfl, _, rfl, n2, fun k hk => ⟨_, rfl, L, _, _, _, rfl, rfl, SqL.of ((Same.new hk) _ _ r3.l), atI_nat (j := 0) rfl, _, rfl, a, _, rfl, getP (.inl ((Same.new hk) _ _ r3.t.p)) mz, n2, fun t ht => ?_⟩⟩
      obtain ⟨acc, q1, q2, W3⟩ := W.push (xs := [("put" : Str), zs[j]]) (i := look r1 zs[j]) hk ht
      exact ⟨acc, q1, lt1 (by rw [q2, List.length_map, List.length_take]; omega), keepD hD s2 hk ht, W3⟩
    rintro H2 ⟨s2, W⟩
    rw [List.length_map, List.take_length] at W
    have sA := Same.trans sA s2
    have hk0 : ∀ x ∈ zs.map (fun s => ([("put" : Str), s], look r1 s)), Kn r1 r2 r3 x := fun x hx => by
      obtain ⟨s, hs, rfl⟩ := List.mem_map.mp hx
      exact .inl ⟨s, pz.mem_iff.mp hs, rfl⟩
    have lk0 : (zs.map (fun s => ([("put" : Str), s], look r1 s))).length ≤ 5 := by rw [List.length_map]; exact lz
    generalize zs.map (fun s => ([("put" : Str), s], look r1 s)) = k0 at W hk0 lk0
    have Df : H D = none := by
      cases e : H D with
      | none => rfl
      | some u =>
        have := (show Same H H1 by assumption) _ _ e
        rw [hD] at this
        cases this
    clear s2 so ep hp pz lz hD
    -- out
    have rB := r.same sA
    refine ⟨_, rfl, _, rfl, L, _, _, _, rfl, rfl, SqL.of rB.l, atI_nat (j := 1) rfl, b, kvsP r2, r2.map (·.1), rfl, .inl rB.t.o, kvsP_keys r2, by rw [List.length_map]; have := ag.l2; omega, fun ws p pw so hp => ?_⟩
    have sB : Same H2 (upd H2 p (.lst (ws.map V.str))) := Same.new hp
    have ep : (upd H2 p (.lst (ws.map V.str))) p = some (.lst (ws.map V.str)) := upd_same
    generalize upd H2 p (.lst (ws.map V.str)) = H3 at sB ep ⊢
    have lw : ws.length ≤ 5 := by
      have := pw.length_eq
      rw [List.length_map] at this
      have := ag.l2
      omega
    have W := W.keep (fun xs e => sB _ _ e) (fun b xs e => sB _ _ e)
    have sA := Same.trans sA sB
    refine ⟨p, rfl, ⟨_, SqL.of ep⟩, fun D2 hD2 => lc_it (walk_list (K := K) (a := p) (xs := ws.map V.str)) (fun j H4 => Same H3 H4 ∧ KnAt H4 D2 ((ws.take j).map fun s => ([("out" : Str), s], look r2 s))) ?_ (fun j H4 _ h4 => SqL.of (h4.1 _ _ ep)) ?_ ?_⟩
    · exact ⟨Same.new hD2, KnAt.start hD2⟩
    · rintro j y H4 H5 hj ⟨s4, W4⟩ ⟨rfl, hy⟩
      obtain ⟨hj2, rfl⟩ := at_ hj hy
      have mz := pw.mem_iff.mp (List.getElem_mem hj2)
      rw [mtk _ hj2]
      have r5 := r.same (Same.trans sA s4)
      refine ⟨rfl, _, rfl, n2, fun k hk => ⟨_, rfl, L, _, _, _, rfl, rfl, SqL.of ((Same.new hk) _ _ r5.l), atI_nat (j := 1) rfl, _, rfl, b, _, rfl, getP (.inl ((Same.new hk) _ _ r5.t.o)) mz, n2, fun t ht => ?_⟩⟩
      obtain ⟨acc, q1, q2, W5⟩ := W4.push (xs := [("out" : Str), ws[j]]) (i := look r2 ws[j]) hk ht
      exact ⟨acc, q1, lt1 (by rw [q2, List.length_map, List.length_take]; omega), keepD hD2 s4 hk ht, W5⟩
    rintro H4 ⟨s4, W4⟩
    rw [List.length_map, List.take_length] at W4
    have W := W.keep (fun xs e => s4 _ _ e) (fun b xs e => s4 _ _ e)
    have sA := Same.trans sA s4
    have hk1 : ∀ x ∈ ws.map (fun s => ([("out" : Str), s], look r2 s)), Kn r1 r2 r3 x := fun x hx => by
      obtain ⟨s, hs, rfl⟩ := List.mem_map.mp hx
      exact .inr (.inl ⟨s, pw.mem_iff.mp hs, rfl⟩)
    have lk1 : (ws.map (fun s => ([("out" : Str), s], look r2 s))).length ≤ 5 := by rw [List.length_map]; exact lw
    generalize ws.map (fun s => ([("out" : Str), s], look r2 s)) = k1 at W4 hk1 lk1
    clear s4 so ep hp pw lw hD2 sB rB
    obtain ⟨ta, a1, a2⟩ := W
    obtain ⟨tb, b1, b2⟩ := W4
    have la : ta.length = k0.length := Paired.length a2
    have lb : tb.length = k1.length := Paired.length b2
    refine ⟨D, D2, _, _, rfl, rfl, a1, b1, nar (by rw [List.length_map, List.length_map]; omega), fun E2 hE2 => ?_⟩
    have sB := Same.new (o := .lst (ta.map V.ref ++ tb.map V.ref)) hE2
    have WE : KnAt (upd H4 E2 (.lst (ta.map V.ref ++ tb.map V.ref))) E2 (k0 ++ k1) := ⟨ta ++ tb, by rw [upd_same, List.map_append], L2.Paired.mapP (Paired.appendP a2 b2) fun _ _ ⟨q, z1, z2⟩ => ⟨q, sB _ _ z1, sB _ _ z2⟩⟩
    have sA := Same.trans sA sB
    generalize upd H4 E2 (.lst (ta.map V.ref ++ tb.map V.ref)) = H5 at sA WE ⊢
    clear a1 a2 b1 b2 hE2 sB
    -- swap
    have rB := r.same sA
    have hks : (kvsS r3).map (·.1) = (r3.map (·.1)).map keyOf := by
      unfold kvsS
      rw [List.map_map, List.map_map]
      rfl
    refine ⟨_, rfl, _, rfl, L, _, _, _, rfl, rfl, SqL.of rB.l, atI_nat (j := 2) rfl, c, kvsS r3, r3.map (·.1), rfl, .inl rB.t.s, hks, by rw [List.length_map]; omega, fun p qs hp hq => ?_⟩
    have pp := List.mergeSort_perm (r3.map (·.1)) le2
    generalize (r3.map (·.1)).mergeSort le2 = ks at hq pp
    have lq : qs.length = ks.length := Paired.length hq
    have lks : ks.length ≤ 20 := by
      have := pp.length_eq
      rw [List.length_map] at this
      omega
    have sB : Same H5 (upd H5 p (.lst (qs.map V.ref))) := Same.new hp
    have ep : (upd H5 p (.lst (qs.map V.ref))) p = some (.lst (qs.map V.ref)) := upd_same
    have WE := WE.keep (fun xs e => sB _ _ e) (fun b xs e => sB _ _ e)
    have sA := Same.trans sA sB
    have hq := Pairs.keep (fun q xs e => sB q _ e) hq
    generalize upd H5 p (.lst (qs.map V.ref)) = H6 at sA ep WE hq ⊢
    refine ⟨p, rfl, ⟨_, SqL.of ep⟩, fun D3 hD3 => lc_it (walk_list (K := K) (a := p) (xs := qs.map V.ref)) (fun j H7 => Same H6 H7 ∧ KnAt H7 D3 ((ks.take j).map fun x => ([("swap" : Str), x.1, x.2], look r3 x))) ?_ (fun j H7 _ h7 => SqL.of (h7.1 _ _ ep)) ?_ ?_⟩
    · exact ⟨Same.new hD3, KnAt.start hD3⟩
    · rintro j y H7 H8 hj ⟨s7, W7⟩ ⟨rfl, hy⟩
      have hj1 : j < qs.length := by rwa [List.length_map] at hj
      have hj2 : j < ks.length := by omega
      have ey : y = V.ref qs[j] := by
        rw [List.getElem?_map, List.getElem?_eq_getElem hj1] at hy
        exact (Option.some.inj hy).symm
      subst ey
      obtain ⟨k0', hk0', eq⟩ := paired_get hq (List.getElem?_eq_getElem hj1)
      have ek : k0' = ks[j] := Option.some.inj (hk0'.symm.trans (List.getElem?_eq_getElem hj2))
      subst ek
      have mz := pp.mem_iff.mp (List.getElem_mem hj2)
      rw [mtk _ hj2]
      have r8 := r.same (Same.trans sA s7)
      have eq8 := s7 _ _ eq
      refine ⟨rfl, _, rfl, qs[j], _, 0, _, rfl, rfl, SqT.of eq8, rfl, _, rfl, qs[j], _, 1, _, rfl, rfl, SqT.of eq8, rfl, n3, fun k hk => ⟨_, rfl, L, _, _, _, rfl, rfl, SqL.of ((Same.new hk) _ _ r8.l), atI_nat (j := 2) rfl, _, rfl, c, _, rfl, .inr ⟨kvsS r3, keyOf ks[j], qs[j], .inl ((Same.new hk) _ _ r8.t.s), rfl, (Same.new hk) _ _ eq8, (valS mz).symm⟩, n2, fun t ht => ?_⟩⟩
      obtain ⟨acc, q1, q2, W9⟩ := W7.push (xs := [("swap" : Str), ks[j].1, ks[j].2]) (i := look r3 ks[j]) hk ht
      exact ⟨acc, q1, lt1 (by rw [q2, List.length_map, List.length_take]; omega), keepD hD3 s7 hk ht, W9⟩
    rintro H7 ⟨s7, W7⟩
    rw [List.length_map, lq, List.take_length] at W7
    have WE := WE.keep (fun xs e => s7 _ _ e) (fun b xs e => s7 _ _ e)
    have hk2 : ∀ x ∈ ks.map (fun x => ([("swap" : Str), x.1, x.2], look r3 x)), Kn r1 r2 r3 x := fun x hx => by
      obtain ⟨s, hs, rfl⟩ := List.mem_map.mp hx
      exact .inr (.inr ⟨s, pp.mem_iff.mp hs, rfl⟩)
    have lk2 : (ks.map (fun x => ([("swap" : Str), x.1, x.2], look r3 x))).length ≤ 20 := by rw [List.length_map]; exact lks
    generalize ks.map (fun x => ([("swap" : Str), x.1, x.2], look r3 x)) = k2 at W7 hk2 lk2
    obtain ⟨ta', a1, a2⟩ := WE
    obtain ⟨tb', b1, b2⟩ := W7
    have la' : ta'.length = (k0 ++ k1).length := Paired.length a2
    have lb' : tb'.length = k2.length := Paired.length b2
    rw [List.length_append] at la'
    refine ⟨E2, D3, _, _, rfl, rfl, a1, b1, nar (by rw [List.length_map, List.length_map]; omega), fun M hM => ?_⟩
    have sF := Same.trans sA s7
    have sG := Same.new (o := .lst (ta'.map V.ref ++ tb'.map V.ref)) hM
    refine q _ M (k0 ++ k1 ++ k2) (Same.trans sF sG) (sF.free hM) ⟨ta' ++ tb', by rw [upd_same, List.map_append], L2.Paired.mapP (Paired.appendP a2 b2) fun _ _ ⟨q, z1, z2⟩ => ⟨q, sG _ _ z1, sG _ _ z2⟩⟩ (by rw [List.length_append, List.length_append]; omega) fun x hx => ?_
    rcases List.mem_append.mp hx with hx | hx
    · rcases List.mem_append.mp hx with hx | hx
      · exact hk0 x hx
      · exact hk1 x hx
    · exact hk2 x hx
end
end Mk

set_option Elab.async false
set_option linter.all false
set_option maxRecDepth 100000
set_option maxHeartbeats 1000000
namespace Mk
open PySem PySem.Spec L2 PyProof.Rows

theorem eqv_strs : ∀ xs ys : List Str, PyData.eqvAll (xs.map PyData.str) (ys.map PyData.str) = decide (xs = ys)
  | [], [] => rfl
  | [], _ :: _ => rfl
  | _ :: _, [] => rfl
  | x :: xs, y :: ys => by
    rw [List.map_cons, List.map_cons, PyData.eqvAll, eqv_strs xs ys]
    simp only [PyData.eqv]
    rw [Bool.eq_iff_iff]
    simp
theorem eqv_tups (xs ys : List Str) : PyData.eqv (.tuple (xs.map PyData.str)) (.tuple (ys.map PyData.str)) = decide (xs = ys) := by
  simp only [PyData.eqv]
  exact eqv_strs xs ys
theorem eqv_lsts (xs ys : List Str) : PyData.eqv (.list (xs.map PyData.str)) (.list (ys.map PyData.str)) = decide (xs = ys) := by
  simp only [PyData.eqv]
  exact eqv_strs xs ys
def sameT (t1 t2 : PTab) (t3 : STab) (u1 u2 : PTab) (u3 : STab) : Bool := sameKV (kvsP t1) (kvsP u1) && (sameKV (kvsP t2) (kvsP u2) && sameKV (kvsS t3) (kvsS u3))
def spIsClosed (C : Addr) : Sp := fun vs H Q _ => ∃ (x : Addr) (t1 t2 : PTab) (t3 : STab), vs = [.ref x] ∧ PrAt C H x t1 t2 t3 ∧ RtT t1 t2 t3 ∧ Srt t1 t2 t3 ∧
  ∀ H' r1 r2 r3 c, Same H H' → CtW t1 t2 t3 r1 r2 r3 c → Q (.bl (sameT t1 t2 t3 r1 r2 r3)) H'
def spChkPr (C : Addr) : Sp := fun vs H Q _ => ∃ (x : Addr) (t1 t2 : PTab) (t3 : STab), vs = [.ref x] ∧ PrAt C H x t1 t2 t3 ∧ Q .non H
/-- no closed price is greater -/
def AtM (t1 t2 : PTab) (t3 : STab) (u1 u2 : PTab) (u3 : STab) : Prop := t1.map (·.1) = u1.map (·.1) ∧ ∀ x ∈ plc t1, ∀ y ∈ plc t1, cc t1 t2 t3 x y ≤ cc u1 u2 u3 x y
def spAtMost (C : Addr) : Sp := fun vs H Q _ => ∃ (x y : Addr) (t1 t2 : PTab) (t3 : STab) (u1 u2 : PTab) (u3 : STab), vs = [.ref x, .ref y] ∧ PrAt C H x t1 t2 t3 ∧ RtT t1 t2 t3 ∧ Srt t1 t2 t3 ∧ PrAt C H y u1 u2 u3 ∧ RtT u1 u2 u3 ∧ Srt u1 u2 u3 ∧
  ∀ H' (b : Bool), Same H H' → (b = true ↔ AtM t1 t2 t3 u1 u2 u3) → Q (.bl b) H'
theorem lc_len {t1 t2 : PTab} {t3 : STab} (a : Agree t1 t2 t3) : (lc t1 t2 t3).length ≤ 41 := by
  have e := congrArg List.length (lc_keys (t1 := t1) (t2 := t2) (t3 := t3) (em_not a))
  rw [List.length_map, List.length_map] at e
  rw [e]
  have l := a.l1
  have x := dirL_len t1 t2 t3 (t1.map (·.1)) (t1.map (·.1)) dir0
  have b : (t1.map (·.1)).length ≤ 5 := by rw [List.length_map]; exact l
  have c : (t1.map (·.1)).length * ((t1.map (·.1)).length + 3) ≤ 5 * 8 := Nat.mul_le_mul b (by omega)
  have d : dir0.length = 1 := rfl
  exact Nat.le_trans x (by omega)
section
variable {P : Program} {w : World} {K : PySem.W.Frag} {mg : Str → Option Value} {base : Heap}
theorem scIsClosed : FnScope ["self"] ["self"] (defScope sIsClosed) := ⟨rfl, rfl, rfl, by decide +kernel, rfl, by decide +kernel, by decide +kernel⟩
theorem ok_isClosed {f C ge : Addr} {fd fe : FuncData} (F : Fun K "is_closed" "Prices.is_closed" sIsClosed f fd) (T : Pc K C) (Ck : Md P w K mg base C CX0 8 "closed" ["self"] (spClosed C)) (D : OwnD K C ge "__eq__") (Ge : FnOk P w K mg base CX0 2 ge fe ["self", "other"] (spEqP K C)) (be : Binds K fe ["self", "other"] []) : FnOk P w K mg base CX0 9 f fd ["self"] (spIsClosed C) := by
  obtain ⟨g, dg, Mg, Gg, bg⟩ := Ck.ex
  refine F.ok scIsClosed (fun vs H Q E h => ?_) (fun cdv A outer s H vs Q E hr h => ?_)
  · obtain ⟨x, t1, t2, t3, rfl, _⟩ := h
    rfl
  · obtain ⟨x, t1, t2, t3, rfl, hx, R, sr, q⟩ := h
    refine ⟨_, pss_one (ps_ret (pe_cmpR (op_eq_own (n := 2) ⟨ge, fe, D, Ge, be⟩ (hr.mono (by decide))) (pv 0) (pe_meth0 (pv 0) T.cl Mg Gg hr bg .nil pass0) (nomark _))), ?_⟩
    obtain ⟨dx, t, a, b, d, hx0, ht, hT⟩ := id hx
    refine ⟨_, rfl, _, rfl, x, dx, _, rfl, hx0, fld_no (by decide +kernel) (by decide +kernel) (by decide +kernel) (by decide +kernel) t a b d, ?_⟩
    refine ⟨x, t1, t2, t3, rfl, hx, R, sr, fun H1 y r1 r2 r3 c s1 fy hy W sy => ?_⟩
    obtain ⟨dy, ty, ay, by_, cy, hy0, hyt, hTy⟩ := id hy
    refine ⟨x, dx, _, rfl, s1 _ _ hx0, .ins hy0, ?_⟩
    exact ⟨x, .ref y, t1, t2, t3, rfl, hx.same s1, .inl ⟨y, r1, r2, r3, rfl, hy, _, rfl, q _ r1 r2 r3 c s1 W⟩⟩
theorem scChkPr : FnScope ["prices"] ["prices"] (defScope sChkPr) := ⟨rfl, rfl, rfl, by decide +kernel, rfl, by decide +kernel, by decide +kernel⟩
theorem ok_chkPr {f C : Addr} {fd : FuncData} (F : Fun K "check_prices" "check_prices" sChkPr f fd) (T : Pc K C) (O : IsK K C) (mgC : mg "Prices" = some (.ref C)) (hi : mg "isinstance" = none) : FnOk P w K mg base CX0 1 f fd ["prices"] (spChkPr C) := by
  refine F.ok scChkPr (fun vs H Q E h => ?_) (fun cdv A outer s H vs Q E hr h => ?_)
  · obtain ⟨x, t1, t2, t3, rfl, _⟩ := h
    rfl
  · obtain ⟨x, t1, t2, t3, rfl, ⟨dx, t, a, b, d, hx, ht, hT⟩, q⟩ := h
    refine ⟨_, pss_one (ps_if (pt_not (pt_val (pe_callB call_isi (by rfl) hi (by decide +kernel) (pa_cons (pv 0) (pa_cons (pe_glob (v := .ref C) (by rfl) mgC rfl) pa_nil))))) (pss_one ps_never) pss_nil), ?_⟩
    exact ⟨_, rfl, .ref x, .ref C, .ref C, .ref C, true, rfl, .own C, .base (.ins hx T.cl O.ha O.hn O.htk O.hm), if_pos (beq_self_eq_true _), true, rfl, iteF q⟩
abbrev nAtM : List Str := ["self", "other", "costs", "limits", "way"]
theorem scAtM : FnScope nAtM ["self", "other"] (defScope sIsAtMost) := ⟨rfl, rfl, rfl, by decide +kernel, rfl, by decide +kernel, by decide +kernel⟩
theorem ok_atMost {f C : Addr} {fd : FuncData} (F : Fun K "is_at_most" "Prices.is_at_most" sIsAtMost f fd) (T : Pc K C) (O : On mg) (A1 : Cd P w K mg base 1 "check_prices" ["prices"] (spChkPr C)) (A2 : Cd P w K mg base 4 "costs_by_ends" ["prices"] (spBy C)) : FnOk P w K mg base CX0 5 f fd ["self", "other"] (spAtMost C) := by
  obtain ⟨j, dj, G, gm, gk, gb⟩ := A1.ex
  obtain ⟨e, de, Ge, em, ek, eb⟩ := A2.ex
  refine F.ok scAtM (fun vs H Q E h => ?_) (fun cdv A outer s H vs Q E hr h => ?_)
  · obtain ⟨x, y, t1, t2, t3, u1, u2, u3, rfl, _⟩ := h
    rfl
  · obtain ⟨x, y, t1, t2, t3, u1, u2, u3, rfl, hx, R, sr, hy, Ru, su, q⟩ := h
    have hu := hu_of hr
    have hu2 : A.units + 3 + 64 < cLine := by
      have h2 : A.units + 3 + 16 * 4 + 200 < cLine := hr.un
      omega
    refine ⟨_, pss_cons (ps_expr (pe_call G (hr.mono (by decide)) (by rfl) gm gk gb .nil pass0 (pa_cons (pv 1) pa_nil)))
      (pss_cons (ps_if (pt_cmpR (op_neD hu2) (pe_fld (pv 0) rfl) (pe_fld (pv 1) rfl) (nomark _)) (pss_one (ps_ret pe_bl)) pss_nil)
      (pss_cons (ps_set (i := 2) scAtM.nd rfl (.inr rfl) (pe_call Ge hr (by rfl) em ek eb .nil pass0 (pa_cons (pv 0) pa_nil)))
      (pss_cons (ps_set (i := 3) scAtM.nd rfl (.inr rfl) (pe_call Ge hr (by rfl) em ek eb .nil pass0 (pa_cons (pv 1) pa_nil)))
      (pss_one (ps_ret (pe_callB (cr_all rfl) (by rfl) O.all (by decide +kernel) (pa_cons (pe_lock (pe_lc (own := [("way", 4)]) (g := gName 4) (tt := tYes) rfl scAtM.nd (pi_keys (pv 2)) (blkOk_by (N := nAtM) (sc := defScope sIsAtMost) (by decide +kernel))
          (fun _ _ _ _ _ => pg_name (i := 4) scAtM.nd rfl (Or.inl rfl)) (fun _ _ _ _ _ => pts_nil) (fun _ _ _ _ _ => pe_cmpR op_le (pe_dget hu (pv 2) (pv 4) (fun _ _ => rfl)) (pe_dget hu (pv 3) (pv 4) (fun _ _ => rfl)) (nomark _)))) pa_nil))))))), ?_⟩
    obtain ⟨dx, t, a, b, d, hx0, ht, hT⟩ := id hx
    obtain ⟨dy, ty, ay, by_, cy, hy0, hyt, hTy⟩ := id hy
    have zt : ∀ z ∈ t1.map (·.1), PyData.strOk z = true := fun z hz => by
      obtain ⟨r, hr1, e⟩ := List.mem_map.mp hz
      rw [← e]
      exact sg_ok (R.ag.sg r hr1)
    have zu : ∀ z ∈ u1.map (·.1), PyData.strOk z = true := fun z hz => by
      obtain ⟨r, hr1, e⟩ := List.mem_map.mp hz
      rw [← e]
      exact sg_ok (Ru.ag.sg r hr1)
    refine ⟨_, rfl, y, u1, u2, u3, rfl, hy, ?_⟩
    refine ⟨_, rfl, x, C, dx, _, _, rfl, hx0, T.cl, T.n1, fld_signs t a b d, _, rfl, y, C, dy, _, _, rfl, hy0, T.cl, T.n1, fld_signs ty ay by_ cy, ?_⟩
    refine ⟨.tuple ((t1.map (·.1)).map PyData.str), .tuple ((u1.map (·.1)).map PyData.str), .tup (SqT.of ht) (dpAll_str _), .tup (SqT.of hyt) (dpAll_str _), shaped_strs zt, shaped_strs zu, _, rfl, ?_⟩
    rw [eqv_tups]
    by_cases c : t1.map (·.1) = u1.map (·.1)
    · rw [decide_eq_true c]
      refine iteF ?_
      refine ⟨_, rfl, x, t1, t2, t3, rfl, hx, R, sr, fun H1 ca s1 fa ea => ?_⟩
      refine ⟨_, rfl, y, u1, u2, u3, rfl, hy.same s1, Ru, su, fun H2 cb s2 fb eb => ?_⟩
      have ea2 := s2 _ _ ea
      have nab : cb ≠ ca := (ne_of_none ea fb).symm
      refine ⟨ca, _, ea2, trivial, fun od => ⟨_, rfl, ca, od, rfl, .inr ⟨kvsS (lc t1 t2 t3), upd_same, fun D hD => ?_⟩⟩⟩
      obtain ⟨ne, h0, st⟩ := Bls.start hD
      have kin : ∀ k ∈ (lc t1 t2 t3).map (·.1), k ∈ (lc u1 u2 u3).map (·.1) := fun k hk => by
        obtain ⟨k1, k2⟩ := k
        rw [lc_keys (em_not R.ag), dir_keys (em_not R.ag)] at hk
        refine lc_in Ru.ag ?_ ?_
        · rw [plc, ← c]; exact hk.1
        · rw [plc, ← c]; exact hk.2
      refine wk_any (walk_keysT (d := ca) (o := od) (kvs := kvsS (lc t1 t2 t3))) (fun i H3 => Bls H2 H3 ca D (.frz od (.dT (kvsS (lc t1 t2 t3)))) (((lc t1 t2 t3).take i).map fun p => decide (look (lc t1 t2 t3) p.1 ≤ look (lc u1 u2 u3) p.1))) st (fun i H3 _ h3 => h3.at_) ?_ ?_
      · rintro i z H3 H4 hi h3 ⟨rfl, k, v, qa, hz, rfl, hq⟩
        have hi2 : i < (lc t1 t2 t3).length := by rwa [kvsS_len] at hi
        rw [kvsS_at hi2] at hz
        cases hz
        have mk1 : (lc t1 t2 t3)[i].1 ∈ (lc t1 t2 t3).map (·.1) := List.mem_map.mpr ⟨_, List.getElem_mem hi2, rfl⟩
        have mk2 := kin _ mk1
        have eb3 := h3.but _ _ nab eb
        refine ⟨rfl, _, rfl, _, rfl, ca, _, rfl, .inr ⟨kvsS (lc t1 t2 t3), keyOf (lc t1 t2 t3)[i].1, qa, .inr ⟨od, h3.at_⟩, rfl, hq, (valS mk1).symm⟩, _, rfl, _, rfl, cb, _, rfl, .inr ⟨kvsS (lc u1 u2 u3), keyOf (lc t1 t2 t3)[i].1, qa, .inl eb3, rfl, hq, (valS mk2).symm⟩, _, _, rfl, rfl, _, h3.out, ?_, ?_⟩
        · rw [List.length_map, List.length_map, List.length_take]
          have := lc_len R.ag
          exact Nat.lt_of_lt_of_le (by omega : min i (lc t1 t2 t3).length < 4000) (by decide)
        · have := h3.push ne h0 (decide (look (lc t1 t2 t3) (lc t1 t2 t3)[i].1 ≤ look (lc u1 u2 u3) (lc t1 t2 t3)[i].1))
          rw [List.take_add_one, List.getElem?_eq_getElem hi2, List.map_append]
          exact this
      · rintro H3 h3
        rw [kvsS_len, List.take_length] at h3
        refine ⟨h3.at_, D, _, rfl, SqL.of (by rw [upd_ne ne]; exact h3.out), ?_⟩
        refine q _ _ (fun b o e => h3.done ea2 _ _ (s2 _ _ (s1 _ _ e))) ?_
        rw [List.all_map, List.all_eq_true]
        refine ⟨fun hh => ⟨c, fun a ha b hb => ?_⟩, fun hh p hp => ?_⟩
        · obtain ⟨p, hp, e⟩ := List.mem_map.mp (lc_in R.ag ha hb)
          have := of_decide_eq_true (hh p hp)
          rw [e] at this
          exact this
        · have mp : p.1 ∈ (lc t1 t2 t3).map (·.1) := List.mem_map.mpr ⟨p, hp, rfl⟩
          obtain ⟨⟨p1, p2⟩, pv⟩ := p
          rw [lc_keys (em_not R.ag), dir_keys (em_not R.ag)] at mp
          exact decide_eq_true (hh.2 p1 mp.1 p2 mp.2)
    · rw [decide_eq_false c]
      exact iteT (q _ false (fun _ _ e => e) ⟨fun z => (nomatch z), fun z => absurd z.1 c⟩)
end
end Mk

set_option Elab.async false
set_option linter.all false
set_option maxRecDepth 100000
set_option maxHeartbeats 2000000
/-! whether tables are below others, by the law -/
namespace Mk
open PySem PySem.Spec L2 PyProof.Rows

abbrev sBl : Stmt := top 46
abbrev nBl : List Str := ["_law_one", "_law_other", "_law_at", "_law_key"]
def prD (k : Str × Str) : PyData := .tuple [.str k.1, .str k.2]
theorem lay_prs : ∀ ks : List (Str × Str), (∀ k ∈ ks, PyData.strOk k.1 = true ∧ PyData.strOk k.2 = true) → PyData.canLayAll0 (ks.map prD) = true
  | [], _ => by simp [PyData.canLayAll0]
  | k :: ks, h => by
    have a := h k List.mem_cons_self
    have b := lay_prs ks fun x hx => h x (List.mem_cons_of_mem _ hx)
    simp [PyData.canLayAll0, PyData.canLay0, prD, a.1, a.2, b]
theorem depth_prs : ∀ ks : List (Str × Str), PyData.depthAll (ks.map prD) ≤ 1
  | [] => by simp [PyData.depthAll]
  | k :: ks => by
    have b := depth_prs ks
    simp [PyData.depthAll, PyData.depth, prD]
    omega
theorem shaped_prs {ks : List (Str × Str)} (h : ∀ k ∈ ks, PyData.strOk k.1 = true ∧ PyData.strOk k.2 = true) : SeqAt.shaped (.list (ks.map prD)) = true := by
  have := depth_prs ks
  unfold SeqAt.shaped
  simp [PyData.canLay0, PyData.depth, lay_prs ks h]
  omega
theorem eqv_nil (xs : List PyData) : PyData.eqv (.list xs) (.list []) = xs.isEmpty := by
  cases xs <;> simp [PyData.eqv, PyData.eqvAll]
theorem dp_prs {K : PySem.W.Frag} {H : Hp} : ∀ {qs : List Addr} {ks : List (Str × Str)}, Pairs H qs ks → DpAll K H (qs.map V.ref) (ks.map prD)
  | _, _, .nil => .nil
  | _, _, .cons a t => .cons (.tup (SqT.of a) (.cons (.str _) (.cons (.str _) .nil))) (dp_prs t)
section
variable {α : Type} [DecidableEq α]
/-- the keys whose price is greater in t than in u -/
def over (t u : List (α × Int)) : List α := (t.filter fun p => decide (look u p.1 < p.2)).map (·.1)
theorem over_take (t u : List (α × Int)) {j : Nat} (h : j < t.length) : over (t.take (j + 1)) u = over (t.take j) u ++ (if look u t[j].1 < t[j].2 then [t[j].1] else []) := by
  unfold over
  rw [List.take_add_one, List.getElem?_eq_getElem h, List.filter_append, List.map_append]
  congr 1
  by_cases c : look u t[j].1 < t[j].2 <;> simp [c]
theorem over_len (t u : List (α × Int)) : (over t u).length ≤ t.length := by
  unfold over
  rw [List.length_map]
  exact List.length_filter_le _ _
theorem over_nil {t u : List (α × Int)} : (over t u).isEmpty = true ↔ ∀ p ∈ t, p.2 ≤ look u p.1 := by
  unfold over
  rw [List.isEmpty_iff, List.map_eq_nil_iff, List.filter_eq_nil_iff]
  refine forall_congr' fun p => forall_congr' fun _ => ?_
  rw [decide_eq_true_iff]
  omega
theorem over_mem {t u : List (α × Int)} {k : α} (h : k ∈ over t u) : k ∈ t.map (·.1) := by
  obtain ⟨p, hp, e⟩ := List.mem_map.mp h
  exact List.mem_map.mpr ⟨p, (List.mem_filter.mp hp).1, e⟩
end
/-- no price is greater -/
def Blw (r1 r2 : PTab) (r3 : STab) (s1 s2 : PTab) (s3 : STab) : Prop := (r1.map (·.1)).Perm (s1.map (·.1)) ∧ (∀ p ∈ r1, p.2 ≤ look s1 p.1) ∧ (∀ p ∈ r2, p.2 ≤ look s2 p.1) ∧ ∀ p ∈ r3, p.2 ≤ look s3 p.1
def spBl : Sp := fun vs H Q _ => ∃ (L a b c M d e g : Addr) (r1 r2 : PTab) (r3 : STab) (s1 s2 : PTab) (s3 : STab), vs = [.ref L, .ref M] ∧ Rec H L a b c r1 r2 r3 ∧ RtT r1 r2 r3 ∧ Rec H M d e g s1 s2 s3 ∧ RtT s1 s2 s3 ∧ ((r1.map (·.1)).Perm (s1.map (·.1)) → ∀ k ∈ r3.map (·.1), k ∈ s3.map (·.1)) ∧
  a ≠ d ∧ b ≠ e ∧ c ≠ g ∧ ∀ H' (z : Bool), Same H H' → (z = true ↔ Blw r1 r2 r3 s1 s2 s3) → Q (.bl z) H'
section
variable {P : Program} {w : World} {K : PySem.W.Frag} {mg : Str → Option Value} {base : Heap}
theorem scBl : FnScope nBl ["_law_one", "_law_other"] (defScope sBl) := ⟨rfl, rfl, rfl, by decide +kernel, rfl, by decide +kernel, by decide +kernel⟩
theorem ok_bl {f : Addr} {fd : FuncData} (F : Fun K "_law_is_below" "_law_is_below" sBl f fd) (B : Bn mg) (O : On mg) : FnOk P w K mg base CX0 1 f fd ["_law_one", "_law_other"] spBl := by
  refine F.ok scBl (fun vs H Q E h => ?_) (fun cdv A outer s H vs Q E hr h => ?_)
  · obtain ⟨L, a, b, c, M, d, e, g, r1, r2, r3, s1, s2, s3, rfl, _⟩ := h
    rfl
  · have hu := hu_of hr
    have h64 : A.units + 3 + 64 < cLine := by
      have h2 : A.units + 3 + 16 * 0 + 200 < cLine := hr.un
      omega
    obtain ⟨L, a, b, c, M, d, e, g, r1, r2, r3, s1, s2, s3, rfl, r, R, s, S, sub, ad, be, cg, q⟩ := h
    refine ⟨_, pss_cons (ps_if (pt_cmpR (op_neD h64) (pe_callB (call_sortedD rfl) (by rfl) O.sorted (by decide +kernel) (pa_cons (pe_ix ix_list (pv 0) pe_int (fun _ _ => rfl)) pa_nil)) (pe_callB (call_sortedD rfl) (by rfl) O.sorted (by decide +kernel) (pa_cons (pe_ix ix_list (pv 1) pe_int (fun _ _ => rfl)) pa_nil)) (nomark _)) (pss_one (ps_ret pe_bl)) pss_nil)
      (pss_cons (ps_for PassesOwn.never rfl (pi_range1 (by rfl) B.range (pa_cons pe_int pa_nil)) (pg_name (i := 2) scBl.nd rfl (.inr rfl))
        (pss_one (ps_if (pt_cmpR (op_neD h64) (pe_lock (pe_lc (own := [("_law_key", 3)]) (g := gName 3) rfl scBl.nd (pi_keys (pe_ix ix_list (pv 0) (pv 2) (fun _ _ => rfl))) (blkOk_by (N := nBl) (sc := defScope sBl) (by decide +kernel))
          (fun _ _ _ _ _ => pg_name (i := 3) scBl.nd rfl (Or.inl rfl)) (fun _ _ _ _ _ => pts_one (pt_cmpR op_gt (pe_dget hu (pe_ix (ix_listK K) (pv 0) (pv 2) (fun _ _ => rfl)) (pv 3) (fun _ _ => rfl)) (pe_dget hu (pe_ix (ix_listK K) (pv 1) (pv 2) (fun _ _ => rfl)) (pv 3) (fun _ _ => rfl)) (nomark _)))
          (fun _ _ _ _ _ => pv 3))) (pe_lst pa_nil) (nomark _)) (pss_one (ps_ret pe_bl)) pss_nil)))
      (pss_one (ps_ret pe_bl))), ?_⟩
    have lt1 : ∀ {n : Nat}, n ≤ 1000 → n < sizeLine := fun h1 => by rw [sizeLine_eq]; omega
    have sok : ∀ {t1 t2 : PTab} {t3 : STab}, RtT t1 t2 t3 → ∀ z ∈ t1.map (·.1), PyData.strOk z = true := fun R z hz => by
      obtain ⟨x, hx, e⟩ := List.mem_map.mp hz
      rw [← e]
      exact sg_ok (R.ag.sg x hx)
    have l1 := R.ag.l1
    have l2 := R.ag.l2
    have l3 := R.ag.l3
    have m1 := S.ag.l1
    refine ⟨_, rfl, L, _, _, _, rfl, rfl, SqL.of r.l, atI_nat (j := 0) rfl, a, kvsP r1, r1.map (·.1), rfl, .inl r.t.p, kvsP_keys r1, by rw [List.length_map]; omega, fun xs p1 pm1 sx h1 => ?_⟩
    have sA : Same H (upd H p1 (.lst (xs.map V.str))) := Same.new h1
    have e1 : (upd H p1 (.lst (xs.map V.str))) p1 = some (.lst (xs.map V.str)) := upd_same
    generalize upd H p1 (.lst (xs.map V.str)) = H1 at sA e1 ⊢
    have sB := s.same sA
    refine ⟨_, rfl, M, _, _, _, rfl, rfl, SqL.of sB.l, atI_nat (j := 0) rfl, d, kvsP s1, s1.map (·.1), rfl, .inl sB.t.p, kvsP_keys s1, by rw [List.length_map]; omega, fun ys p2 pm2 sy h2 => ?_⟩
    have sC : Same H1 (upd H1 p2 (.lst (ys.map V.str))) := Same.new h2
    have e2 : (upd H1 p2 (.lst (ys.map V.str))) p2 = some (.lst (ys.map V.str)) := upd_same
    have e1 := sC _ _ e1
    have sA := Same.trans sA sC
    generalize upd H1 p2 (.lst (ys.map V.str)) = H2 at sA e1 e2 ⊢
    clear sB sC h1 h2
    have zx : ∀ z ∈ xs, PyData.strOk z = true := fun z hz => sok R z (pm1.mem_iff.mp hz)
    have zy : ∀ z ∈ ys, PyData.strOk z = true := fun z hz => sok S z (pm2.mem_iff.mp hz)
    refine ⟨.list (xs.map PyData.str), .list (ys.map PyData.str), .lst (SqL.of e1) (dpAll_str xs), .lst (SqL.of e2) (dpAll_str ys), shaped_strsL zx, shaped_strsL zy, _, rfl, ?_⟩
    rw [eqv_lsts]
    by_cases c0 : xs = ys
    · rw [decide_eq_true c0]
      refine iteF ?_
      have pk : (r1.map (·.1)).Perm (s1.map (·.1)) := pm1.symm.trans (by rw [c0]; exact pm2)
      have sub3 := sub pk
      have pk2 : ∀ k ∈ r2.map (·.1), k ∈ s2.map (·.1) := fun k hk => S.ag.pm.mem_iff.mpr (pk.mem_iff.mp (R.ag.pm.mem_iff.mp hk))
      have nd2 : (r2.map (·.1)).Nodup := R.ag.pm.nodup_iff.mpr R.ag.nd
      let oks : Nat → Prop := fun j => match j with
        | 0 => ∀ p ∈ r1, p.2 ≤ look s1 p.1
        | 1 => ∀ p ∈ r2, p.2 ≤ look s2 p.1
        | _ => ∀ p ∈ r3, p.2 ≤ look s3 p.1
      have rA := r.same sA
      have sA' := s.same sA
      refine ⟨3, rfl, by decide, by decide, for_range (lo := 0) (n := 3) (fun i σ H3 => (∃ o2 o3, σ = [some (.ref L), some (.ref M), o2, o3]) ∧ Same H2 H3 ∧ ∀ j, j < i → oks j) ?_ ?_ ?_⟩
      · exact ⟨⟨_, _, rfl⟩, fun _ _ e => e, fun j hj => absurd hj (Nat.not_lt_zero _)⟩
      · rintro i σ H3 hi ⟨⟨o2, o3, rfl⟩, s3', hok⟩
        rw [Int.zero_add]
        have r3' := rA.same s3'
        have t3' := sA'.same s3'
        have sAll := Same.trans sA s3'
        have fin : ∀ {H' : Hp} {z : Bool}, Same H H' → (z = true ↔ oks i) → z = false → Q (.bl false) H' := fun {H' z} sm hz hf => q _ false sm ⟨fun h => (nomatch h), fun h => by
          have ho : oks i := by
            rcases (by omega : i = 0 ∨ i = 1 ∨ i = 2) with rfl | rfl | rfl
            · exact h.2.1
            · exact h.2.2.1
            · exact h.2.2.2
          rw [hf] at hz
          exact absurd (hz.mpr ho) (by decide)⟩
        have nxt : ∀ {z : Bool}, (z = true ↔ oks i) → z = true → ∀ j, j < i + 1 → oks j := fun {z} hz ht j hj => by
          rcases Nat.lt_succ_iff_lt_or_eq.mp hj with h | h
          · exact hok j h
          · rw [h]
            exact hz.mp ht
        obtain ⟨da, db, x1, x2, ne, hsrc⟩ : ∃ da db : Addr, ([V.ref a, .ref b, .ref c] : List V)[i]? = some (.ref da) ∧ ([V.ref d, .ref e, .ref g] : List V)[i]? = some (.ref db) ∧ da ≠ db ∧
            ((∃ t u : PTab, H3 da = some (.dK (kvsP t)) ∧ H3 db = some (.dK (kvsP u)) ∧ (t.map (·.1)).Nodup ∧ (∀ k ∈ t.map (·.1), k ∈ u.map (·.1)) ∧ t.length ≤ 20 ∧ (∀ k ∈ t.map (·.1), PyData.strOk k = true) ∧ (oks i ↔ ∀ p ∈ t, p.2 ≤ look u p.1)) ∨
              ∃ t u : STab, H3 da = some (.dT (kvsS t)) ∧ H3 db = some (.dT (kvsS u)) ∧ (t.map (·.1)).Nodup ∧ (∀ k ∈ t.map (·.1), k ∈ u.map (·.1)) ∧ t.length ≤ 20 ∧ (∀ k ∈ t.map (·.1), PyData.strOk k.1 = true ∧ PyData.strOk k.2 = true) ∧ (oks i ↔ ∀ p ∈ t, p.2 ≤ look u p.1)) := by
          rcases (by omega : i = 0 ∨ i = 1 ∨ i = 2) with rfl | rfl | rfl
          · exact ⟨a, d, rfl, rfl, ad, .inl ⟨r1, s1, r3'.t.p, t3'.t.p, R.ag.nd, fun k hk => pk.mem_iff.mp hk, by omega, sok R, Iff.rfl⟩⟩
          · exact ⟨b, e, rfl, rfl, be, .inl ⟨r2, s2, r3'.t.o, t3'.t.o, nd2, pk2, by omega, fun k hk => sok R k (R.ag.pm.mem_iff.mp hk), Iff.rfl⟩⟩
          · exact ⟨c, g, rfl, rfl, cg, .inr ⟨r3, s3, r3'.t.s, t3'.t.s, R.nd, sub3, l3, fun k hk => by
              obtain ⟨x, hx, e⟩ := List.mem_map.mp hk
              have := R.ag.pr x hx
              rw [e] at this
              exact ⟨sok R _ this.1, sok R _ this.2.1⟩, Iff.rfl⟩⟩
        have xa := atI_nat x1
        have xb := atI_nat x2
        have hL := r3'.l
        have hM := t3'.l
        generalize oks i = ok at fin nxt hsrc
        rcases hsrc with ⟨t, u, hda, hdb, ndt, stu, lt, hstr, hok2⟩ | ⟨t, u, hda, hdb, ndt, stu, lt, hstr, hok2⟩
        · refine ⟨da, _, hda, trivial, fun od => ⟨_, rfl, _, rfl, L, _, _, _, rfl, rfl, SqL.of ?_, xa, da, od, rfl, .inl ⟨kvsP t, upd_same, fun D hD => ?_⟩⟩⟩
          · rw [upd_ne (fun z => by rw [z, hda] at hL; cases hL)]
            exact hL
          have hH : ∀ b u, b ≠ da → H3 b = some u → (upd H3 da (.frz od (.dK (kvsP t)))) b = some u := fun b u n e => by
            rw [upd_ne n]
            exact e
          have eF : (upd H3 da (.frz od (.dK (kvsP t)))) da = some (.frz od (.dK (kvsP t))) := upd_same
          have hL4 := hH L _ (fun z => by rw [z, hda] at hL; cases hL) hL
          have hM4 := hH M _ (fun z => by rw [z, hda] at hM; cases hM) hM
          have hdb4 := hH db _ ne.symm hdb
          have Dda : D ≠ da := (ne_of_none eF hD).symm
          have D0 : H3 D = none := by rwa [upd_ne Dda] at hD
          generalize upd H3 da (.frz od (.dK (kvsP t))) = H4 at hH eF hL4 hM4 hdb4 hD ⊢
          refine lc_it (walk_keys (d := da) (o := od) (kvs := kvsP t)) (fun j H5 => (∀ b u, b ≠ D → H4 b = some u → H5 b = some u) ∧ H5 D = some (.lst ((over (t.take j) u).map V.str))) ?_ (fun j H5 _ h5 => h5.1 _ _ Dda.symm eF) ?_ ?_
          · exact ⟨fun b u n e => by rw [upd_ne n]; exact e, upd_same⟩
          · rintro j x H5 H6 hj ⟨s5, e5⟩ ⟨rfl, k, vv, hx, rfl⟩
            have hj2 : j < t.length := by rwa [kvsP_len] at hj
            rw [kvsP_at hj2] at hx
            cases hx
            rw [show kV (Sum.inr t[j].1 : Key) = V.str t[j].1 from rfl]
            have mk : t[j].1 ∈ t.map (·.1) := List.mem_map.mpr ⟨_, List.getElem_mem hj2, rfl⟩
            have ev : look t t[j].1 = t[j].2 := look_mem ndt _ (List.getElem_mem hj2)
            have g1 : DGet H6 da (.str t[j].1) (some (V.int (look t t[j].1))) := getP (.inr ⟨od, s5 _ _ Dda.symm eF⟩) mk
            have g2 : DGet H6 db (.str t[j].1) (some (V.int (look u t[j].1))) := getP (.inl (s5 _ _ (fun z => by rw [z, hD] at hdb4; cases hdb4) hdb4)) (stu _ mk)
            rw [ev] at g1
            have hL6 := s5 _ _ (fun z => by rw [z, hD] at hL4; cases hL4) hL4
            have hM6 := s5 _ _ (fun z => by rw [z, hD] at hM4; cases hM4) hM4
            refine ⟨rfl, _, rfl, _, rfl, L, _, _, _, rfl, rfl, SqL.of hL6, xa, _, rfl, da, _, rfl, g1, _, rfl, _, rfl, M, _, _, _, rfl, rfl, SqL.of hM6, xb, _, rfl, db, _, rfl, g2, _, _, rfl, rfl, _, rfl, ?_⟩
            rw [over_take t u hj2]
            by_cases c : look u t[j].1 < t[j].2
            · rw [decide_eq_true c, if_pos c]
              refine iteT ⟨_, rfl, _, e5, lt1 ?_, fun b0 u0 n0 e0 => ?_, ?_⟩
              · rw [List.length_map]
                have := over_len (t.take j) u
                rw [List.length_take] at this
                omega
              · rw [upd_ne n0]
                exact s5 _ _ n0 e0
              · rw [upd_same, List.map_append]
                rfl
            · rw [decide_eq_false c, if_neg c, List.append_nil]
              exact iteF ⟨s5, e5⟩
          · rintro H5 ⟨s5, e5⟩
            rw [kvsP_len, List.take_length] at e5
            have sm : Same H3 (upd H5 da (.dK (kvsP t))) := fun b0 u0 e0 => by
              by_cases hb : b0 = da
              · subst hb
                rw [hda] at e0
                cases e0
                exact upd_same
              · rw [upd_ne hb]
                exact s5 _ _ (fun z => by rw [z, D0] at e0; cases e0) (hH _ _ hb e0)
            have e6 : (upd H5 da (.dK (kvsP t))) D = some (.lst ((over t u).map V.str)) := by rw [upd_ne Dda]; exact e5
            refine ⟨s5 _ _ Dda.symm eF, Nat.zero_le _, fun l0 hl0 => ?_⟩
            have sm2 := Same.new (o := .lst []) hl0
            refine ⟨.list ((over t u).map PyData.str), .list [], .lst (SqL.of (sm2 _ _ e6)) (dpAll_str _), .lst (SqL.of upd_same) .nil, shaped_strsL fun z hz => hstr z (over_mem hz), (by decide +kernel), _, rfl, ?_⟩
            rw [eqv_nil]
            have hz : (over t u).isEmpty = true ↔ ok := over_nil.trans hok2.symm
            have eM : ((over t u).map PyData.str).isEmpty = (over t u).isEmpty := by cases over t u <;> rfl
            rw [eM]
            have smA := Same.trans (Same.trans sAll sm) sm2
            cases cz : (over t u).isEmpty with
            | true =>
              rw [cz] at hz
              exact iteF ⟨⟨_, _, rfl⟩, Same.trans (Same.trans s3' sm) sm2, nxt hz rfl⟩
            | false =>
              rw [cz] at hz
              exact iteT (fin smA hz rfl)
        · refine ⟨da, _, hda, trivial, fun od => ⟨_, rfl, _, rfl, L, _, _, _, rfl, rfl, SqL.of ?_, xa, da, od, rfl, .inr ⟨kvsS t, upd_same, fun D hD => ?_⟩⟩⟩
          · rw [upd_ne (fun z => by rw [z, hda] at hL; cases hL)]
            exact hL
          have hH : ∀ b u, b ≠ da → H3 b = some u → (upd H3 da (.frz od (.dT (kvsS t)))) b = some u := fun b u n e => by
            rw [upd_ne n]
            exact e
          have eF : (upd H3 da (.frz od (.dT (kvsS t)))) da = some (.frz od (.dT (kvsS t))) := upd_same
          have hL4 := hH L _ (fun z => by rw [z, hda] at hL; cases hL) hL
          have hM4 := hH M _ (fun z => by rw [z, hda] at hM; cases hM) hM
          have hdb4 := hH db _ ne.symm hdb
          have Dda : D ≠ da := (ne_of_none eF hD).symm
          have D0 : H3 D = none := by rwa [upd_ne Dda] at hD
          generalize upd H3 da (.frz od (.dT (kvsS t))) = H4 at hH eF hL4 hM4 hdb4 hD ⊢
          refine lc_it (walk_keysT (d := da) (o := od) (kvs := kvsS t)) (fun j H5 => (∀ b u, b ≠ D → H4 b = some u → H5 b = some u) ∧ ∃ qs : List Addr, H5 D = some (.lst (qs.map V.ref)) ∧ Pairs H5 qs (over (t.take j) u)) ?_ (fun j H5 _ h5 => h5.1 _ _ Dda.symm eF) ?_ ?_
          · exact ⟨fun b u n e => by rw [upd_ne n]; exact e, [], upd_same, .nil⟩
          · rintro j x H5 H6 hj ⟨s5, qs, e5, e5'⟩ ⟨rfl, k, vv, qa, hx, rfl, hq⟩
            have hj2 : j < t.length := by rwa [kvsS_len] at hj
            rw [kvsS_at hj2] at hx
            cases hx
            have mk : t[j].1 ∈ t.map (·.1) := List.mem_map.mpr ⟨_, List.getElem_mem hj2, rfl⟩
            have ev : look t t[j].1 = t[j].2 := look_mem ndt _ (List.getElem_mem hj2)
            have gv := valS mk
            rw [ev] at gv
            have g1 : DGet H6 da (.ref qa) (some (V.int t[j].2)) := .inr ⟨kvsS t, keyOf t[j].1, qa, .inr ⟨od, s5 _ _ Dda.symm eF⟩, rfl, hq, gv.symm⟩
            have g2 : DGet H6 db (.ref qa) (some (V.int (look u t[j].1))) := .inr ⟨kvsS u, keyOf t[j].1, qa, .inl (s5 _ _ (fun z => by rw [z, hD] at hdb4; cases hdb4) hdb4), rfl, hq, (valS (stu _ mk)).symm⟩
            have hL6 := s5 _ _ (fun z => by rw [z, hD] at hL4; cases hL4) hL4
            have hM6 := s5 _ _ (fun z => by rw [z, hD] at hM4; cases hM4) hM4
            refine ⟨rfl, _, rfl, _, rfl, L, _, _, _, rfl, rfl, SqL.of hL6, xa, _, rfl, da, _, rfl, g1, _, rfl, _, rfl, M, _, _, _, rfl, rfl, SqL.of hM6, xb, _, rfl, db, _, rfl, g2, _, _, rfl, rfl, _, rfl, ?_⟩
            rw [over_take t u hj2]
            have lq : qs.length = (over (t.take j) u).length := Paired.length e5'
            by_cases c : look u t[j].1 < t[j].2
            · rw [decide_eq_true c, if_pos c]
              have keep : ∀ b xs, H6 b = some (.tup xs) → (upd H6 D (.lst (qs.map V.ref ++ [.ref qa]))) b = some (.tup xs) := fun b xs e => by
                rw [upd_ne (fun z => by rw [z, e5] at e; cases e)]
                exact e
              refine iteT ⟨_, rfl, _, e5, lt1 ?_, fun b0 u0 n0 e0 => ?_, qs ++ [qa], ?_, Pairs.snoc (keep _ _ hq) (Pairs.keep keep e5')⟩
              · rw [List.length_map]
                have := over_len (t.take j) u
                rw [List.length_take] at this
                omega
              · rw [upd_ne n0]
                exact s5 _ _ n0 e0
              · rw [upd_same, List.map_append]
                rfl
            · rw [decide_eq_false c, if_neg c, List.append_nil]
              exact iteF ⟨s5, qs, e5, e5'⟩
          · rintro H5 ⟨s5, qs, e5, e5'⟩
            rw [kvsS_len, List.take_length] at e5'
            have sm : Same H3 (upd H5 da (.dT (kvsS t))) := fun b0 u0 e0 => by
              by_cases hb : b0 = da
              · subst hb
                rw [hda] at e0
                cases e0
                exact upd_same
              · rw [upd_ne hb]
                exact s5 _ _ (fun z => by rw [z, D0] at e0; cases e0) (hH _ _ hb e0)
            have e6 : (upd H5 da (.dT (kvsS t))) D = some (.lst (qs.map V.ref)) := by rw [upd_ne Dda]; exact e5
            have e6' : Pairs (upd H5 da (.dT (kvsS t))) qs (over t u) := Pairs.keep (fun b xs e => by
              rw [upd_ne (fun z => by rw [z, s5 _ _ Dda.symm eF] at e; cases e)]
              exact e) e5'
            refine ⟨s5 _ _ Dda.symm eF, Nat.zero_le _, fun l0 hl0 => ?_⟩
            have sm2 := Same.new (o := .lst []) hl0
            refine ⟨.list ((over t u).map prD), .list [], .lst (SqL.of (sm2 _ _ e6)) (dp_prs (Pairs.keep (fun b xs e => sm2 b _ e) e6')), .lst (SqL.of upd_same) .nil, shaped_prs fun z hz => hstr z (over_mem hz), (by decide +kernel), _, rfl, ?_⟩
            rw [eqv_nil]
            have hz : (over t u).isEmpty = true ↔ ok := over_nil.trans hok2.symm
            have eM : ((over t u).map prD).isEmpty = (over t u).isEmpty := by cases over t u <;> rfl
            rw [eM]
            have smA := Same.trans (Same.trans sAll sm) sm2
            cases cz : (over t u).isEmpty with
            | true =>
              rw [cz] at hz
              exact iteF ⟨⟨_, _, rfl⟩, Same.trans (Same.trans s3' sm) sm2, nxt hz rfl⟩
            | false =>
              rw [cz] at hz
              exact iteT (fin smA hz rfl)
      · rintro σ H3 ⟨⟨o2, o3, rfl⟩, s3', hok⟩
        exact q _ true (Same.trans sA s3') ⟨fun _ => ⟨pk, hok 0 (by decide), hok 1 (by decide), hok 2 (by decide)⟩, fun _ => rfl⟩
    · rw [decide_eq_false c0]
      exact iteT (q _ false sA ⟨fun h => (nomatch h), fun h => absurd (sorted_one ((pm1.trans h.1).trans pm2.symm) sx sy) c0⟩)
end
end Mk

set_option Elab.async false
set_option linter.all false
set_option maxRecDepth 100000
set_option maxHeartbeats 1000000
namespace Mk
open PySem PySem.Spec L2 PyProof.Rows

/-- a method that may let an exception out, the wish told by the slots -/
def tMethE (C : Addr) (m : Str) (sp : Sp) (W : L2.St → XK) (te : TE) (t : TA) : TE := fun σ H Q => te σ H fun x H1 => ∃ a dx fs, x = V.ref a ∧ H1 a = some (.ins C dx fs) ∧ fs.lookup m = none ∧ t σ H1 fun ys H2 => sp (V.ref a :: ys) H2 Q (W σ)
section
variable {X : Cx}
theorem pe_methE {CX : CXT} {k : Nat} {g C : Addr} {fd : FuncData} {ps : List Str} {sp : Sp} {W : L2.St → XK} {m : Str} {p1 p2 : Pos} {a o : Expr} {as : List Expr} {te : TE} {t : TA} {pl : Sem Bool} (ho : PE X o te) (c : Cls X.K C) (mm : Meth X.K C m g) (G : FnOk X.prog X.w X.K X.mg X.base CX k g fd ps sp) (rm : Room k X.A) (bd : Binds X.K fd ps []) (pw : ∀ σ, PassesAt CX X σ (W σ)) (ha : PA X (a :: as) t)
    (st : starEach (a :: as) X.env = (false, eval a X.env) :: starEach as X.env := by rfl) (bt : (backTo p2 (starEach as X.env)).any (·.1) = false := by rfl)
    (ev : eval (.Call (.Attribute o m p1) (a :: as) [] p2) X.env = (do
      let ov ← eval o X.env
      standAt p1.atName
      let (f, first) ← holding [ov] (getMethod ov m pl)
      callWith p2 f first (backTo p2 (starEach (a :: as) X.env)) (backToKw p2 (keywordEach [] X.env))) := by rfl) : PE X (.Call (.Attribute o m p1) (a :: as) [] p2) (tMethE C m sp W te t) := by
  constructor
  intro pins s σ H Q I h
  refine PySem.W.methodCall_KW (pl := pl) (thn (ho.run pins s σ H _ I h) fun u s1 z => ?_) ev
  obtain ⟨x, H1, I1, rx, b, dx, fs, ex, hb, hl, q⟩ := z
  subst ex
  obtain rfl : u = Value.ref b := rx
  refine getmeth_ok I1 hb c mm hl ?_
  refine PySem.W.callWith_K (first := [Value.ref b]) (h₀ := X.base) I.ok.mod.kin mm.kp (thn (ha.run p2 pins s1 σ H1 _ I1 q) fun us s2 z => ?_) st bt
  obtain ⟨vs, H2, I2, r, q2⟩ := z
  exact ⟨I2.kIn, run_fnS (us := Value.ref b :: us) (vs := V.ref b :: vs) G rm bd (pw σ) I2 (.cons rfl r) q2⟩
end
def spLTimes (C : Addr) : Sp := fun vs H Q _ => ∃ (p x L : Addr) (n : Nat), vs = [.ref p, .ref x, .ref L] ∧ Pot H p n ∧ n + 200 < PB ∧ Good C H x L ∧
  (∀ H' M y L', But p H H' → H' M = some (.lst [.ref y, .ref L']) → Good C H' y L' → Pot H' p (n + 200) → Q (.ref M) H') ∧
  (∀ H', But p H H' → Pot H' p (n + 200) → Q .non H')
/-- a dict whose values these are -/
def VD (H : Hp) (d : Addr) (vs : List V) : Prop := (∃ kvs, H d = some (.dK kvs) ∧ kvs.map (·.2) = vs) ∨ ∃ kvs, H d = some (.dT kvs) ∧ kvs.map (·.2) = vs
theorem VD.is {H : Hp} {d : Addr} {vs : List V} (h : VD H d vs) : IsDct H d := h.elim (fun ⟨k, e, _⟩ => .inl ⟨k, e⟩) fun ⟨k, e, _⟩ => .inr ⟨k, e⟩
theorem VD.same {H H' : Hp} {d : Addr} {vs : List V} (h : VD H d vs) (s : Same H H') : VD H' d vs := h.elim (fun ⟨k, e, r⟩ => .inl ⟨k, s _ _ e, r⟩) fun ⟨k, e, r⟩ => .inr ⟨k, s _ _ e, r⟩
theorem call_valsV {X : Cx} (hc : X.calm = true) : CallR X (.type "list") (fun xs H Q => ∃ (p d : Addr) (vs : List V), xs = [.ref p] ∧ H p = some (valuesO p d) ∧ VD H d vs ∧ ∀ l, H l = none → Q (.ref l) (upd H l (.lst vs))) := by
  intro pins s σ H xs us Q I r h
  obtain ⟨p, d, vs, e, hp, hd, q⟩ := h
  refine call_listVals hc pins s σ H xs us Q I r ⟨p, d, e, hp, ?_⟩
  rcases hd with ⟨k, e1, rfl⟩ | ⟨k, e1, rfl⟩
  · exact .inl ⟨k, e1, q⟩
  · exact .inr ⟨k, e1, q⟩
theorem at_last {xs : List V} {v : V} : atI (xs ++ [v]) (-1) = some v := by
  unfold atI ixN
  simp
  rw [if_pos (by omega)]
  have e : (-1 + ((xs.length : Int) + 1)).toNat = xs.length := by omega
  simp [e]
/-- the greatest of these, and nought -/
def Mx (g : Int) (is : List Int) : Prop := g ∈ 0 :: is ∧ ∀ y ∈ 0 :: is, y ≤ g
theorem Mx.le {g b : Int} {is : List Int} (h : Mx g is) (h0 : 0 ≤ b) : g ≤ b ↔ ∀ y ∈ is, y ≤ b := by
  constructor
  · intro hg y hy
    exact Int.le_trans (h.2 y (List.mem_cons_of_mem _ hy)) hg
  · intro hy
    rcases List.mem_cons.mp h.1 with e | e
    · rw [e]
      exact h0
    · exact hy g e
theorem ok_mx {α : Type} {ts : List (α × Int)} {g b : Int} (h1 : ∀ p ∈ ts, 1 ≤ p.2) (hb : b ≤ LG) (h0 : 0 ≤ b) (M : Mx g (ts.map (·.2))) : (ts.all fun p => nwB p.2 1 b) = decide (g ≤ b) := by
  rw [Bool.eq_iff_iff, List.all_eq_true, decide_eq_true_iff, M.le h0]
  constructor
  · intro h y hy
    obtain ⟨p, hp, rfl⟩ := List.mem_map.mp hy
    have := h p hp
    unfold nwB at this
    simp only [Bool.and_eq_true, decide_eq_true_eq] at this
    exact this.2.2
  · intro h p hp
    exact nw_in (h1 p hp) (h _ (List.mem_map.mpr ⟨p, hp, rfl⟩)) hb
theorem times_ge {α : Type} {t : List (α × Int)} {m : Int} (h : ∀ p ∈ t, 1 ≤ p.2) (hm : 1 ≤ m) : ∀ p ∈ timesP t m, 1 ≤ p.2 := fun p hp => by
  obtain ⟨q, hq, rfl⟩ := List.mem_map.mp hp
  have := Int.mul_le_mul (h q hq) hm (by decide) (Int.le_trans (by decide) (h q hq))
  simpa using this
theorem all_ge {α : Type} {t : List (α × Int)} {b : Int} (h : (t.all fun p => nwB p.2 1 b) = true) : ∀ p ∈ t, 1 ≤ p.2 := fun p hp => by
  have := List.all_eq_true.mp h p hp
  unfold nwB at this
  simp only [Bool.and_eq_true, decide_eq_true_eq] at this
  exact this.2.1
theorem pickM {v : V} (h : v ∈ [V.int 1, V.int 2, V.int 2, V.int 3, V.int 9, V.int (10 ^ Int.toNat 59)]) : ∃ m : Int, v = .int m ∧ 1 ≤ m ∧ m ≤ LG := by
  simp only [List.mem_cons, List.not_mem_nil, or_false] at h
  rcases h with rfl | rfl | rfl | rfl | rfl | rfl
  · exact ⟨_, rfl, by decide, by decide⟩
  · exact ⟨_, rfl, by decide, by decide⟩
  · exact ⟨_, rfl, by decide, by decide⟩
  · exact ⟨_, rfl, by decide, by decide⟩
  · exact ⟨_, rfl, by decide, by decide⟩
  · exact ⟨_, rfl, by decide +kernel, by decide +kernel⟩
/-- the result a dict row stands for: where from, the object, its numbers -/
abbrev Row := Addr × HO × List Int
/-- all but two lists is kept -/
def But2 (f g : Addr) (H H' : Hp) : Prop := ∀ b o, b ≠ f → b ≠ g → H b = some o → H' b = some o
theorem pe_weak {X : Cx} {e : Expr} {t t' : TE} (p : PE X e t) (w : ∀ σ H Q, t' σ H Q → t σ H Q) : PE X e t' := ⟨fun pins s σ H Q I h => p.run pins s σ H Q I (w σ H Q h)⟩
/-- three numbers of a list, held against bounds -/
def tLe3 (K : PySem.W.Frag) (i : Nat) (a b c : Int) : TE := fun σ H Q => ∃ (l : Addr) (x y z : Int), σ[i]? = some (some (V.ref l)) ∧ SqL K H l [.int x, .int y, .int z] ∧ Q (.bl (decide (x ≤ a) && (decide (y ≤ b) && decide (z ≤ c)))) H
/-- what the class InvalidOperation must be, to be caught -/
structure CatK (K : PySem.W.Frag) (CI : Addr) : Prop where
  q : PySem.W.exmOne K (.ref CI) (.ref CI) = some true
section
variable {P : Program} {w : World} {K : PySem.W.Frag} {mg : Str → Option Value} {base : Heap}
end
end Mk

set_option Elab.async false
set_option linter.all false
set_option maxRecDepth 100000
set_option maxHeartbeats 2000000
/-! twice the prices, by the law -/
namespace Mk
open PySem PySem.Spec L2 PyProof.Rows

abbrev sTw : Stmt := top 47
abbrev nTw : List Str := ["_law_prices", "_law_tables_here", "_law_closed_here", "_law_doubled", "_law_greatest", "_law_is_let", "_law_table", "_law_key"]
/-- the scope of the outer comprehension -/
def scTw1 : Scope := { kind := .function, names := [(".0", .local), ("_law_table", .cell), ("dict", .globalImplicit)], isGenerator := false, isCoroutine := false }
/-- three numbers of a list, held against bounds -/
def tLt3 (K : PySem.W.Frag) (i : Nat) (a b c : Int) : TE := fun σ H Q => ∃ (l : Addr) (x y z : Int), σ[i]? = some (some (V.ref l)) ∧ SqL K H l [.int x, .int y, .int z] ∧ Q (.bl (decide (x < a) && (decide (y < b) && decide (z < c)))) H
theorem cr_maxK {X : Cx} (K : PySem.W.Frag) (hc : X.calm = true) (hK : X.K = K := by rfl) : CallR X (.builtin "max") (rMax K) := by
  subst hK
  exact cr_max hc
abbrev PrsH (H : Hp) : List Addr → List (List Key × V) → Prop := Paired fun p kv => ∃ b, H b = some (.tup (kv.1.map kV)) ∧ H p = some (.tup [.ref b, kv.2])
theorem prsH_T {K : PySem.W.Frag} {H : Hp} {ts : List Addr} {kvs : List (List Key × V)} (h : PrsH H ts kvs) : PrsT K H ts kvs := _root_.L2.Paired.mapP h fun p kv z => by
  obtain ⟨b, z1, z2⟩ := z
  exact ⟨b, z1, SqT.of z2⟩
theorem mx_twice {α : Type} {t : List (α × Int)} {g b : Int} (h1 : ∀ p ∈ t, 1 ≤ p.2) (hb : b ≤ LG) (h0 : 0 ≤ b) (M : Mx g (t.map (·.2))) : ((timesP t 2).all fun p => nwB p.2 1 b) = decide (g * 2 ≤ b) := by
  refine ok_mx (fun p hp => ?_) hb h0 ⟨?_, fun y hy => ?_⟩
  · obtain ⟨q, hq, rfl⟩ := List.mem_map.mp hp
    have := h1 q hq
    show 1 ≤ q.2 * 2
    omega
  · rcases List.mem_cons.mp M.1 with e | m
    · rw [e]
      exact List.mem_cons_self
    · obtain ⟨q, hq, e⟩ := List.mem_map.mp m
      refine List.mem_cons_of_mem _ (List.mem_map.mpr ⟨(q.1, q.2 * 2), List.mem_map.mpr ⟨q, hq, rfl⟩, ?_⟩)
      show q.2 * 2 = g * 2
      rw [e]
  · rcases List.mem_cons.mp hy with e | m
    · have := M.2 0 List.mem_cons_self
      omega
    · obtain ⟨q, hq, e⟩ := List.mem_map.mp m
      obtain ⟨q', hq', rfl⟩ := List.mem_map.mp hq
      have := M.2 q'.2 (List.mem_cons_of_mem _ (List.mem_map.mpr ⟨q', hq', rfl⟩))
      have e : q'.2 * 2 = y := e
      omega
theorem dd_times (t1 t2 : PTab) (t3 : STab) (x y : Str) : dd (timesP t1 2) (timesP t2 2) (timesP t3 2) x y = dd t1 t2 t3 x y * 2 := by
  unfold dd dget
  rw [look_times, look_times, look_times]
  by_cases c : (x, y) ∈ t3.map (·.1)
  · have c' : (x, y) ∈ (timesP t3 2).map (·.1) := by rw [timesP_keys]; exact c
    rw [if_pos c, if_pos c']
    split
    · rfl
    · split
      · rfl
      · split
        · rfl
        · rfl
  · have c' : (x, y) ∉ (timesP t3 2).map (·.1) := by rw [timesP_keys]; exact c
    rw [if_neg c, if_neg c']
    split
    · rfl
    · split
      · rfl
      · split
        · rfl
        · omega
theorem tabP_times (ks : List Str) (fu : Str → Int) : timesP (tabP ks fu) 2 = tabP ks fun z => fu z * 2 := by
  unfold timesP tabP
  rw [List.map_map]
  rfl
theorem tabS_times (ks : List (Str × Str)) (c : Str → Str → Int) : timesP (tabS ks c) 2 = tabS ks fun x y => c x y * 2 := by
  unfold timesP tabS
  rw [List.map_map]
  rfl
theorem CtW.twice {t1 t2 r1 r2 : PTab} {t3 r3 : STab} {c : Str → Str → Int} (w : CtW t1 t2 t3 r1 r2 r3 c) : CtW (timesP t1 2) (timesP t2 2) (timesP t3 2) (timesP r1 2) (timesP r2 2) (timesP r3 2) fun x y => c x y * 2 where
  cl := by
    have e : plc (timesP t1 2) = plc t1 := by
      unfold plc
      rw [timesP_keys]
    rw [e]
    exact w.cl.twice.congr (fun _ _ _ _ => rfl) fun x _ y _ => dd_times t1 t2 t3 x y
  p1 := by
    rw [timesP_keys, ← tabP_times]
    exact w.p1.map _
  p2 := by
    rw [timesP_keys, ← tabP_times]
    exact w.p2.map _
  p3 := by
    rw [timesP_keys, ← tabS_times]
    exact w.p3.map _
def spTw (C : Addr) : Sp := fun vs H Q _ => ∃ (x L a b c M d e g : Addr) (t1 t2 : PTab) (t3 : STab) (u1 u2 : PTab) (u3 : STab) (r1 r2 : PTab) (r3 : STab) (cf : Str → Str → Int), vs = [.ref x, .ref L, .ref M] ∧ PrAt C H x u1 u2 u3 ∧ Srt u1 u2 u3 ∧ Rec H L a b c t1 t2 t3 ∧ RtT t1 t2 t3 ∧ u1.Perm t1 ∧ u2.Perm t2 ∧ u3.Perm t3 ∧
  Rec H M d e g r1 r2 r3 ∧ CtW t1 t2 t3 r1 r2 r3 cf ∧ ∀ H', Same H H' → Q (.bl true) H'
section
variable {P : Program} {w : World} {K : PySem.W.Frag} {mg : Str → Option Value} {base : Heap}
theorem scTw : FnScope nTw ["_law_prices", "_law_tables_here", "_law_closed_here"] (defScope sTw) := ⟨rfl, rfl, rfl, by decide +kernel, rfl, by decide +kernel, by decide +kernel⟩
theorem ok_tw {f C CI ft : Addr} {fd dt : FuncData} (F : Fun K "_law_twice_right" "_law_twice_right" sTw f fd) (T : Pc K C) (B : Bn mg) (Dd : Dn mg) (gI : mg "InvalidOperation" = some (.ref CI)) (cI : CatK K CI)
    (W : Md P w K mg base C (L2.CX P w) 8 "times" ["self", "many"] (spTimes C CI)) (Ck : Md P w K mg base C CX0 8 "closed" ["self"] (spClosed C)) (Gt : FnG P w K mg base CX0 4 ft dt ["_law_prices", "_law_tables_here"] (spTq C)) (tm : mg "_law_is_told" = some (.ref ft)) (tk : PySem.W.keepIn K (.ref ft) = true) (tb : Binds K dt ["_law_prices", "_law_tables_here"] []) : FnG P w K mg base CX0 9 f fd ["_law_prices", "_law_tables_here", "_law_closed_here"] (spTw C) := by
  obtain ⟨g, dg, Mg, Gg, bg⟩ := W.ex
  obtain ⟨g2, dg2, Mg2, Gg2, bg2⟩ := Ck.ex
  refine Fun_okG F scTw (fun vs H Q E h => ?_) (fun cdv A outer s H vs Q E hr gd h => ?_)
  · obtain ⟨x, L, a, b, c, M, d, e, g, t1, t2, t3, u1, u2, u3, r1, r2, r3, cf, rfl, _⟩ := h
    rfl
  · obtain ⟨x, L, a, b, c, M, d, e, g, t1, t2, t3, u1, u2, u3, r1, r2, r3, cf, rfl, px, sru, r, R, pu1, pu2, pu3, rM, Wc, q⟩ := h
    have hu := hu_of hr
    have hu8 : A.units + 3 + 8 < cLine := by
      have h2 : A.units + 3 + 16 * 8 + 200 < cLine := hr.un
      omega
    refine ⟨_, pss_cons (ps_setLc (i := 3) (own := [("_law_table", 6)]) (g := gName 6) (tt := tYes) rfl scTw.nd rfl rfl rfl (pi_list (pv 2)) (blkOk_by (N := nTw) (sc := defScope sTw) (by decide +kernel))
          (fun _ _ _ _ _ => pg_name (i := 6) scTw.nd rfl (Or.inr rfl)) (fun _ _ _ _ _ => pts_nil)
          (fun _ _ _ _ _ => pe_callTy (call_dict2 K rfl hu8) (by rfl) Dd.dict (by decide +kernel) (pa_cons (pe_lock (pe_lc (own := [("_law_key", 7)]) (g := gName 7) (tt := tYes) (wi := iKeys (tVar 6)) rfl scTw.nd (pi_keys (pv 6)) (blkOk_by (N := nTw) (sc := scTw1) (by decide +kernel))
            (fun _ _ _ _ _ => pg_name (i := 7) scTw.nd rfl (Or.inl rfl)) (fun _ _ _ _ _ => pts_nil)
            (fun _ _ _ _ _ => pe_tup (pa_cons (pv 7) (pa_cons (pe_op op_mul (pe_dget hu (pv 6) (pv 7) (fun _ _ => rfl)) pe_int) pa_nil))))) pa_nil)))
      (pss_cons (ps_setLc (i := 4) (own := [("_law_table", 6)]) (g := gName 6) (tt := tYes) rfl scTw.nd rfl rfl rfl (pi_list (pv 1)) (blkOk_by (N := nTw) (sc := defScope sTw) (by decide +kernel))
          (fun _ _ _ _ _ => pg_name (i := 6) scTw.nd rfl (Or.inl rfl)) (fun _ _ _ _ _ => pts_nil)
          (fun _ _ _ _ _ => pe_callB (cr_maxK K rfl) (by rfl) B.max (by decide +kernel) (pa_cons (pe_op op_cat (pe_lst (pa_cons pe_int pa_nil)) (pe_callTy (call_valsV rfl) (by rfl) B.list (by decide +kernel) (pa_cons (atK0 K (pe_bm0 PySem.F.plainAttrs_dict PySem.F.slot_dict_values PySem.F.type_dict_values mt_vals (pv 6))) pa_nil))) pa_nil)))
      (pss_cons (ps_set (i := 5) scTw.nd rfl (.inl rfl) (pe_weak (t' := tLt3 K 4 5 5 10) (pe_and (pe_cmpR op_lt (pe_ix ix_list (pv 4) pe_int (fun _ _ => rfl)) pe_int (nomark _)) (pe_and (pe_cmpR op_lt (pe_ix ix_list (pv 4) pe_int (fun _ _ => rfl)) pe_int (nomark _)) (pe_one (pe_cmpR op_lt (pe_ix ix_list (pv 4) pe_int (fun _ _ => rfl)) pe_int (nomark _)))))
          (fun σ H Q ⟨l, x, y, z, h1, h2, h3⟩ => by
            refine ⟨_, h1, l, _, _, _, rfl, rfl, h2, atI_nat (j := 0) rfl, _, _, rfl, rfl, _, rfl, ?_⟩
            cases c1 : decide (x < 5) with
            | false =>
              rw [c1] at h3
              exact iteF h3
            | true =>
              refine iteT ⟨_, h1, l, _, _, _, rfl, rfl, h2, atI_nat (j := 1) rfl, _, _, rfl, rfl, _, rfl, ?_⟩
              cases c2 : decide (y < 5) with
              | false =>
                rw [c1, c2] at h3
                exact iteF h3
              | true =>
                refine iteT ⟨_, h1, l, _, _, _, rfl, rfl, h2, atI_nat (j := 2) rfl, _, _, rfl, rfl, ?_⟩
                rw [c1, c2] at h3
                exact h3)))
      (pss_one (ps_try_only (Wout := fun _ _ _ _ => False) rfl rfl ⟨rfl, by decide, Or.inl gI⟩ takes0
          (fun W pn xe tk' _ => pss_one (ps_ret (pe_and (pe_callG Gt (hr.mono (by decide)) gd (by rfl) tm tk tb pass0 (pa_cons (pe_meth0 (pe_methE (pv 0) T.cl Mg Gg hr bg (fun σ => passAt tk' σ) (by exact (pa_cons pe_int pa_nil))) T.cl Mg2 Gg2 hr bg2 .nil pass0) (pa_cons (pv 3) pa_nil))) (pe_one (pv 5)))))
          (fun _ _ _ _ _ _ _ => pss_one (ps_ret (pe_not (pv 5)))))))), ?_⟩
    have nar : ∀ {n : Nat}, n ≤ 1000 → n ≤ sizeLine := fun h1 => by rw [sizeLine_eq]; omega
    have lt1 : ∀ {n : Nat}, n ≤ 1000 → n < sizeLine := fun h1 => by rw [sizeLine_eq]; omega
    have n2 : 2 ≤ sizeLine := by decide
    have Rr := Wc.rt R
    have br := Rr.bds
    have bt := R.bds
    have rd2 : (r2.map (·.1)).Nodup := Rr.ag.pm.nodup_iff.mpr Rr.ag.nd
    have l1 := Rr.ag.l1
    have l2 := Rr.ag.l2
    have k1 := R.ag.l1
    have k2 := R.ag.l2
    let rows : List HO := [.dK (kvsP (timesP r1 2)), .dK (kvsP (timesP r2 2)), .dT (kvsS (timesP r3 2))]
    refine ⟨_, rfl, M, rfl, ⟨_, SqL.of rM.l⟩, fun D0 hD0 => lc_it (walk_list (K := K) (a := M) (xs := [V.ref d, .ref e, .ref g])) (fun i H3 => Same H H3 ∧ ∃ ds : List Addr, H3 D0 = some (.lst (ds.map V.ref)) ∧ Paired (fun (o : HO) d => d ≠ D0 ∧ H3 d = some o) (rows.take i) ds) ?_ (fun i H3 _ h3 => SqL.of (h3.1 _ _ rM.l)) ?_ ?_⟩
    · exact ⟨Same.new hD0, [], upd_same, .nil⟩
    · rintro i y H0 H3 hi ⟨B3, fs, g1, g3⟩ ⟨rfl, hy⟩
      have hi3 : i < 3 := hi
      obtain ⟨ad, o', hye, hrow, hsrc⟩ : ∃ (ad : Addr) (o' : HO), y = V.ref ad ∧ rows.take (i + 1) = rows.take i ++ [o'] ∧
          ((∃ t : PTab, H ad = some (.dK (kvsP t)) ∧ (t.map (·.1)).Nodup ∧ (∀ p ∈ t, 0 ≤ p.2 ∧ p.2 ≤ 100) ∧ t.length ≤ 20 ∧ o' = .dK (kvsP (timesP t 2))) ∨
           ∃ t : STab, H ad = some (.dT (kvsS t)) ∧ (t.map (·.1)).Nodup ∧ (∀ p ∈ t, 0 ≤ p.2 ∧ p.2 ≤ 100) ∧ t.length ≤ 20 ∧ o' = .dT (kvsS (timesP t 2))) := by
        rcases (by omega : i = 0 ∨ i = 1 ∨ i = 2) with rfl | rfl | rfl
        · exact ⟨d, _, (Option.some.inj hy).symm, rfl, .inl ⟨r1, rM.t.p, Rr.ag.nd, fun p hp => by have := br.b1 p hp; omega, by omega, rfl⟩⟩
        · exact ⟨e, _, (Option.some.inj hy).symm, rfl, .inl ⟨r2, rM.t.o, rd2, fun p hp => by have := br.b2 p hp; omega, by omega, rfl⟩⟩
        · exact ⟨g, _, (Option.some.inj hy).symm, rfl, .inr ⟨r3, rM.t.s, Rr.nd, fun p hp => by have := br.b3 p hp; omega, Rr.ag.l3, rfl⟩⟩
      subst hye
      have lfs : fs.length ≤ 3 := by
        have e : (rows.take i).length = fs.length := Paired.length g3
        rw [List.length_take] at e
        omega
      rw [hrow]
      clear hrow
      refine ⟨rfl, ?_⟩
      revert hsrc
      apply by_wayA (fun d H6 => Same H3 H6 ∧ H3 d = none ∧ H6 d = some o')
      · intro hX hsrc
        rcases hsrc with ⟨t, h2, ndt, bdt, lt, eo⟩ | ⟨t, h2, ndt, bdt, lt, eo⟩
        · have h3 := B3 _ _ h2
          refine ⟨ad, _, h3, trivial, fun od => ⟨_, rfl, ad, od, rfl, .inl ⟨kvsP t, upd_same, fun D hD => ?_⟩⟩⟩
          have nDa : D ≠ ad := fun z => by rw [z, upd_same] at hD; cases hD
          have kp : ∀ b o, b ≠ ad → H3 b = some o → (upd H3 ad (.frz od (.dK (kvsP t)))) b = some o := fun b o nb e => by
            rw [upd_ne nb]
            exact e
          have eA : (upd H3 ad (.frz od (.dK (kvsP t)))) ad = some (.frz od (.dK (kvsP t))) := upd_same
          generalize upd H3 ad (.frz od (.dK (kvsP t))) = Hl at hD kp eA ⊢
          refine lc_it (walk_keys (d := ad) (o := od) (kvs := kvsP t)) (fun j H4 => Same Hl H4 ∧ ∃ ts : List Addr, H4 D = some (.lst (ts.map V.ref)) ∧ Tups H4 ts (timesP (t.take j) 2)) ?_ (fun j H4 _ h4 => h4.1 _ _ eA) ?_ ?_
          · exact ⟨Same.new hD, [], upd_same, .nil⟩
          · rintro j z H5 H4 hj ⟨s4, ts, k1, k2⟩ ⟨rfl, k, v, hk, rfl⟩
            rw [kvsP_len] at hj
            rw [kvsP_at hj] at hk
            cases hk
            have mk : t[j].1 ∈ t.map (·.1) := List.mem_map.mpr ⟨_, List.getElem_mem hj, rfl⟩
            have gv := valP mk
            rw [look_mem ndt _ (List.getElem_mem hj)] at gv
            have hb := bdt _ (List.getElem_mem hj)
            have lts : ts.length ≤ 20 := by
              have e : ts.length = _ := Paired.length k2
              unfold timesP at e
              rw [List.length_map, List.length_take] at e
              omega
            have et : timesP (t.take (j + 1)) 2 = timesP (t.take j) 2 ++ [(t[j].1, t[j].2 * 2)] := by
              unfold timesP
              rw [List.take_add_one, List.getElem?_eq_getElem hj, List.map_append]
              rfl
            refine ⟨rfl, _, rfl, _, rfl, _, rfl, ad, V.int t[j].2, rfl, .inl ⟨kvsP t, Sum.inr t[j].1, .inr ⟨od, s4 _ _ eA⟩, rfl, gv.symm⟩, _, _, rfl, rfl, cm100 hb.1 hb.2, n2, fun n hn => ?_⟩
            have nn : D ≠ n := ne_of_none k1 hn
            refine ⟨ts.map V.ref, (Same.new hn) _ _ k1, lt1 (by rw [List.length_map]; omega), fun b o e => ?_, ts ++ [n], ?_, ?_⟩
            · rw [upd_ne (ne_of_none e hD), upd_ne (ne_of_none (s4 _ _ e) hn)]
              exact s4 _ _ e
            · rw [upd_same, List.map_append]
              rfl
            · rw [et]
              refine Paired.snocP ?_ (Tups.keep (fun b xs e => ?_) k2)
              · show (upd (upd H4 n _) D _) n = _
                rw [upd_ne nn.symm, upd_same]
                rfl
              · rw [upd_ne (fun z => by rw [z, k1] at e; cases e), upd_ne (ne_of_none e hn)]
                exact e
          · rintro H4 ⟨s4, ts, k1, k2⟩
            rw [kvsP_len, List.take_length] at k2
            have e4 := s4 _ _ eA
            refine ⟨e4, ?_⟩
            have s8 : Same H3 (upd H4 ad (.dK (kvsP t))) := fun b o e => by
              by_cases hb : b = ad
              · rw [hb, h3] at e
                rw [hb, upd_same]
                exact e
              · rw [upd_ne hb]
                exact s4 _ _ (kp _ _ hb e)
            have k1' : (upd H4 ad (.dK (kvsP t))) D = some (.lst (ts.map V.ref)) := by
              rw [upd_ne nDa]
              exact k1
            have k2' : Tups (upd H4 ad (.dK (kvsP t))) ts (timesP t 2) := Tups.keep (fun b xs e => by
              rw [upd_ne (fun z => by rw [z, e4] at e; cases e)]
              exact e) k2
            generalize upd H4 ad (.dK (kvsP t)) = H5 at s8 k1' k2' ⊢
            refine .inl ⟨D, ts, kvsP (timesP t 2), rfl, SqL.of k1', tups_sq k2', fun d hd => ?_⟩
            rw [merge_P0 (by rw [timesP_keys]; exact ndt)]
            have s9 := Same.trans s8 (Same.new (o := .dK (kvsP (timesP t 2))) hd)
            have e9 : (upd H5 d (.dK (kvsP (timesP t 2)))) d = some (.dK (kvsP (timesP t 2))) := upd_same
            generalize upd H5 d (.dK (kvsP (timesP t 2))) = H6 at s9 e9 ⊢
            exact hX d H6 ⟨s9, s8.free hd, by rw [eo]; exact e9⟩
        · have h3 := B3 _ _ h2
          refine ⟨ad, _, h3, trivial, fun od => ⟨_, rfl, ad, od, rfl, .inr ⟨kvsS t, upd_same, fun D hD => ?_⟩⟩⟩
          have nDa : D ≠ ad := fun z => by rw [z, upd_same] at hD; cases hD
          have kp : ∀ b o, b ≠ ad → H3 b = some o → (upd H3 ad (.frz od (.dT (kvsS t)))) b = some o := fun b o nb e => by
            rw [upd_ne nb]
            exact e
          have eA : (upd H3 ad (.frz od (.dT (kvsS t)))) ad = some (.frz od (.dT (kvsS t))) := upd_same
          generalize upd H3 ad (.frz od (.dT (kvsS t))) = Hl at hD kp eA ⊢
          refine lc_it (walk_keysT (d := ad) (o := od) (kvs := kvsS t)) (fun j H4 => Same Hl H4 ∧ ∃ ts : List Addr, H4 D = some (.lst (ts.map V.ref)) ∧ PrsH H4 ts (kvsS (timesP (t.take j) 2))) ?_ (fun j H4 _ h4 => h4.1 _ _ eA) ?_ ?_
          · exact ⟨Same.new hD, [], upd_same, .nil⟩
          · rintro j z H5 H4 hj ⟨s4, ts, k1, k2⟩ ⟨rfl, k, v, qa, hk, rfl, hq⟩
            rw [kvsS_len] at hj
            rw [kvsS_at hj] at hk
            cases hk
            have mk : t[j].1 ∈ t.map (·.1) := List.mem_map.mpr ⟨_, List.getElem_mem hj, rfl⟩
            have gv := valS mk
            rw [look_mem ndt _ (List.getElem_mem hj)] at gv
            have hb := bdt _ (List.getElem_mem hj)
            have lts : ts.length ≤ 20 := by
              have e : ts.length = _ := Paired.length k2
              rw [kvsS_len] at e
              unfold timesP at e
              rw [List.length_map, List.length_take] at e
              omega
            have et : kvsS (timesP (t.take (j + 1)) 2) = kvsS (timesP (t.take j) 2) ++ [(keyOf t[j].1, V.int (t[j].2 * 2))] := by
              unfold kvsS timesP
              rw [List.take_add_one, List.getElem?_eq_getElem hj, List.map_append, List.map_append]
              rfl
            refine ⟨rfl, _, rfl, _, rfl, _, rfl, ad, V.int t[j].2, rfl, .inr ⟨kvsS t, keyOf t[j].1, qa, .inr ⟨od, s4 _ _ eA⟩, rfl, hq, gv.symm⟩, _, _, rfl, rfl, cm100 hb.1 hb.2, n2, fun n hn => ?_⟩
            have nn : D ≠ n := ne_of_none k1 hn
            refine ⟨ts.map V.ref, (Same.new hn) _ _ k1, lt1 (by rw [List.length_map]; omega), fun b o e => ?_, ts ++ [n], ?_, ?_⟩
            · rw [upd_ne (ne_of_none e hD), upd_ne (ne_of_none (s4 _ _ e) hn)]
              exact s4 _ _ e
            · rw [upd_same, List.map_append]
              rfl
            · have kq : ∀ q xs, H4 q = some (.tup xs) → (upd (upd H4 n (.tup [.ref qa, .int (t[j].2 * 2)])) D (.lst (ts.map V.ref ++ [V.ref n]))) q = some (.tup xs) := fun q xs e => by
                rw [upd_ne (fun z => by rw [z, k1] at e; cases e), upd_ne (ne_of_none e hn)]
                exact e
              rw [et]
              have en : (upd (upd H4 n (.tup [.ref qa, .int (t[j].2 * 2)])) D (.lst (ts.map V.ref ++ [V.ref n]))) n = some (.tup [.ref qa, .int (t[j].2 * 2)]) := by rw [upd_ne nn.symm, upd_same]
              refine Paired.snocP ⟨qa, kq _ _ hq, en⟩ (_root_.L2.Paired.mapP k2 fun p kv z => ?_)
              obtain ⟨b, z1, z2⟩ := z
              exact ⟨b, kq _ _ z1, kq _ _ z2⟩
          · rintro H4 ⟨s4, ts, k1, k2⟩
            rw [kvsS_len, List.take_length] at k2
            have e4 := s4 _ _ eA
            refine ⟨e4, ?_⟩
            have s8 : Same H3 (upd H4 ad (.dT (kvsS t))) := fun b o e => by
              by_cases hb : b = ad
              · rw [hb, h3] at e
                rw [hb, upd_same]
                exact e
              · rw [upd_ne hb]
                exact s4 _ _ (kp _ _ hb e)
            have kq : ∀ q o, q ≠ ad → H4 q = some o → (upd H4 ad (.dT (kvsS t))) q = some o := fun q o nq e => by
              rw [upd_ne nq]
              exact e
            have k1' : (upd H4 ad (.dT (kvsS t))) D = some (.lst (ts.map V.ref)) := kq _ _ nDa k1
            have k2' : PrsH (upd H4 ad (.dT (kvsS t))) ts (kvsS (timesP t 2)) := _root_.L2.Paired.mapP k2 fun p kv z => by
              obtain ⟨b, z1, z2⟩ := z
              exact ⟨b, kq _ _ (fun z => by rw [z, e4] at z1; cases z1) z1, kq _ _ (fun z => by rw [z, e4] at z2; cases z2) z2⟩
            generalize upd H4 ad (.dT (kvsS t)) = H5 at s8 k1' k2' ⊢
            refine .inr ⟨D, ts, kvsS (timesP t 2), rfl, SqL.of k1', prsH_T k2', kvsS_nd (by rw [timesP_keys]; exact ndt), fun d hd => ?_⟩
            have s9 := Same.trans s8 (Same.new (o := .dT (kvsS (timesP t 2))) hd)
            have e9 : (upd H5 d (.dT (kvsS (timesP t 2)))) d = some (.dT (kvsS (timesP t 2))) := upd_same
            generalize upd H5 d (.dT (kvsS (timesP t 2))) = H6 at s9 e9 ⊢
            exact hX d H6 ⟨s9, s8.free hd, by rw [eo]; exact e9⟩
      · rintro d H6 ⟨s6, d0, e6⟩
        have f6 := s6 _ _ g1
        have nd : d ≠ D0 := fun z => by rw [z, g1] at d0; cases d0
        refine ⟨_, f6, lt1 (by rw [List.length_map]; omega), fun b o e => ?_, fs ++ [d], by rw [upd_same, List.map_append]; rfl, Paired.snocP ⟨nd, by rw [upd_ne nd]; exact e6⟩ (_root_.L2.Paired.mapP g3 fun r d' z => ⟨z.1, ?_⟩)⟩
        · rw [upd_ne (ne_of_none e hD0)]
          exact s6 _ _ (B3 _ _ e)
        · rw [upd_ne z.1]
          exact s6 _ _ z.2
    rintro H1 ⟨s1, fs, g1, g3⟩
    have g3 : Paired (fun (o : HO) d => d ≠ D0 ∧ H1 d = some o) [.dK (kvsP (timesP r1 2)), .dK (kvsP (timesP r2 2)), .dT (kvsS (timesP r3 2))] fs := g3
    obtain ⟨d1, d2, d3, rfl, x1, x2, x3⟩ := paired3 g3
    have rDb : Rec H1 D0 d1 d2 d3 (timesP r1 2) (timesP r2 2) (timesP r3 2) := ⟨g1, x1.2, x2.2, x3.2⟩
    clear g3 g1 x1 x2 x3
    -- the greatest ones
    have r1' := r.same s1
    refine ⟨_, rfl, L, rfl, ⟨_, SqL.of r1'.l⟩, fun D4 hD4 => lc_it (walk_list (K := K) (a := L) (xs := [V.ref a, .ref b, .ref c])) (fun i H3 => Same H1 H3 ∧ ∃ gs : List Int, H3 D4 = some (.lst (gs.map V.int)) ∧ Paired (fun (is : List Int) gi => Mx gi is) (([t1.map (·.2), t2.map (·.2), t3.map (·.2)] : List (List Int)).take i) gs) ?_ (fun i H3 _ h3 => SqL.of (h3.1 _ _ r1'.l)) ?_ ?_⟩
    · exact ⟨Same.new hD4, [], upd_same, .nil⟩
    · rintro i y H0 H3 hi ⟨B3, gs, g1, g4⟩ ⟨rfl, hy⟩
      have hi3 : i < 3 := hi
      have r3' := r1'.same B3
      obtain ⟨ad, is, hye, hrow, hil, vd⟩ : ∃ (ad : Addr) (is : List Int), y = V.ref ad ∧ ([t1.map (·.2), t2.map (·.2), t3.map (·.2)] : List (List Int)).take (i + 1) = ([t1.map (·.2), t2.map (·.2), t3.map (·.2)] : List (List Int)).take i ++ [is] ∧ is.length ≤ 20 ∧ VD H3 ad (is.map V.int) := by
        rcases (by omega : i = 0 ∨ i = 1 ∨ i = 2) with rfl | rfl | rfl
        · exact ⟨a, _, (Option.some.inj hy).symm, rfl, by rw [List.length_map]; omega, .inl ⟨_, r3'.t.p, kvsP_snd _⟩⟩
        · exact ⟨b, _, (Option.some.inj hy).symm, rfl, by rw [List.length_map]; omega, .inl ⟨_, r3'.t.o, kvsP_snd _⟩⟩
        · exact ⟨c, _, (Option.some.inj hy).symm, rfl, by rw [List.length_map]; exact R.ag.l3, .inr ⟨_, r3'.t.s, kvsS_snd _⟩⟩
      subst hye
      have lgs : gs.length ≤ 3 := by
        have e : (([t1.map (·.2), t2.map (·.2), t3.map (·.2)] : List (List Int)).take i).length = gs.length := Paired.length g4
        rw [List.length_take] at e
        omega
      rw [hrow]
      clear hrow
      refine ⟨rfl, by decide, fun l0 hl0 => ?_⟩
      have s8 := Same.new (o := .lst [V.int 0]) hl0
      have hl8 : (upd H3 l0 (.lst [V.int 0])) l0 = some (.lst [V.int 0]) := upd_same
      have vd8 := vd.same s8
      refine ⟨_, rfl, .inr (.inr (.inl ⟨rfl, vd8.is⟩)), ad, rfl, rfl, vd8.is, fun vp hvp => ?_⟩
      have s9 := Same.trans s8 (Same.new (o := valuesO vp ad) hvp)
      refine ⟨vp, ad, _, rfl, upd_same, vd8.same (Same.new hvp), fun l hl => ?_⟩
      have sl := Same.new (o := .lst (is.map V.int)) hl
      have s10 := Same.trans s9 sl
      refine ⟨l0, l, _, _, rfl, rfl, sl _ _ ((Same.new hvp) _ _ hl8), upd_same, nar (by rw [List.length_map]; show 1 + is.length ≤ 1000; omega), fun Mx0 hM => ?_⟩
      have s11 := Same.trans s10 (Same.new (o := .lst ([V.int 0] ++ is.map V.int)) hM)
      refine ⟨Mx0, 0 :: is, rfl, SqL.of upd_same, Nat.succ_pos _, fun mx hm1 hm2 => ?_⟩
      have hg9 := s11 _ _ g1
      refine ⟨_, hg9, lt1 (by rw [List.length_map]; omega), fun b o e => ?_, gs ++ [mx], by rw [upd_same, List.map_append]; rfl, Paired.snocP ⟨hm1, hm2⟩ g4⟩
      rw [upd_ne (ne_of_none e hD4)]
      exact s11 _ _ (B3 _ _ e)
    rintro H2 ⟨s2, gs, g1, g4⟩
    have g4 : Paired (fun (is : List Int) gi => Mx gi is) [t1.map (·.2), t2.map (·.2), t3.map (·.2)] gs := g4
    obtain ⟨w1', w2', w3', rfl, y1, y2, y3⟩ := paired3 g4
    have eR : (decide (w1' < 5) && (decide (w2' < 5) && decide (w3' < 10))) = rightB (timesP t1 2) (timesP t2 2) (timesP t3 2) := by
      have k1 : okP (timesP t1 2) 9 = decide (w1' * 2 ≤ 9) := mx_twice (fun p hp => (bt.b1 p hp).1) (by decide) (by decide) y1
      have k2 : okP (timesP t2 2) 9 = decide (w2' * 2 ≤ 9) := mx_twice (fun p hp => (bt.b2 p hp).1) (by decide) (by decide) y2
      have k3 : okS (timesP t3 2) 18 = decide (w3' * 2 ≤ 18) := mx_twice (fun p hp => (bt.b3 p hp).1) (by decide) (by decide) y3
      have ke : (!(timesP t1 2).isEmpty) = true := by
        have := bt.ne
        cases t1 with
        | nil => exact absurd rfl this
        | cons _ _ => rfl
      have a1 : decide (w1' * 2 ≤ 9) = decide (w1' < 5) := by rw [Bool.eq_iff_iff, decide_eq_true_iff, decide_eq_true_iff]; omega
      have a2 : decide (w2' * 2 ≤ 9) = decide (w2' < 5) := by rw [Bool.eq_iff_iff, decide_eq_true_iff, decide_eq_true_iff]; omega
      have a3 : decide (w3' * 2 ≤ 18) = decide (w3' < 10) := by rw [Bool.eq_iff_iff, decide_eq_true_iff, decide_eq_true_iff]; omega
      unfold rightB
      rw [k1, k2, k3, ke, Bool.true_and, a1, a2, a3]
    refine ⟨D4, w1', w2', w3', rfl, SqL.of g1, ?_⟩
    rw [eR]
    have s12 := Same.trans s1 s2
    have rtu := R.perm pu1 pu2 pu3
    have px2 := px.same s12
    obtain ⟨dx, tx, ax, bx, cx, hx0, _, _⟩ := id px2
    have tp1 : (timesP u1 2).Perm (timesP t1 2) := pu1.map _
    have tp2 : (timesP u2 2).Perm (timesP t2 2) := pu2.map _
    have tp3 : (timesP u3 2).Perm (timesP t3 2) := pu3.map _
    refine ⟨_, rfl, x, dx, _, rfl, hx0, fld_no (by decide +kernel) (by decide +kernel) (by decide +kernel) (by decide +kernel) _ _ _ _, ?_⟩
    cases hR : rightB (timesP t1 2) (timesP t2 2) (timesP t3 2) with
    | true =>
      refine ⟨x, 2, u1, u2, u3, rfl, px2, by decide, by decide, rtu.ag, rtu.nd, rtu.rt, fun _ H4 y v1 v2 v3 s4 y0 pr q1 q2 q3 sr => ?_, fun hno => ?_⟩
      · have rtm : RtT (timesP t1 2) (timesP t2 2) (timesP t3 2) := ⟨agree_times R.ag, by rw [timesP_keys]; exact R.nd, hR⟩
        have rv := rtm.perm (q1.trans tp1) (q2.trans tp2) (q3.trans tp3)
        have Wv := (Wc.twice).order rtm (q1.trans tp1) (q2.trans tp2) (q3.trans tp3)
        obtain ⟨dy, ty, ay, by_, cy, hy0, _, _⟩ := id pr
        refine ⟨y, dy, _, rfl, hy0, fld_no (by decide +kernel) (by decide +kernel) (by decide +kernel) (by decide +kernel) _ _ _ _, ?_⟩
        refine ⟨y, v1, v2, v3, rfl, pr, rv, sr, fun H5 z z1 z2 z3 c' s5 z0 pz Wz sz => ?_⟩
        obtain ⟨p1, p2, p3⟩ := Wz.uniq Wv
        have s25 := Same.trans (Same.trans s2 s4) s5
        refine ⟨_, rfl, z, D0, d1, d2, d3, _, _, _, z1, z2, z3, rfl, pz, sz, Wz.rt rv, rDb.same s25, p1, p2, p3, fun H6 s6 => ⟨_, rfl, iteT ⟨_, rfl, ?_⟩⟩⟩
        exact q _ (Same.trans (Same.trans s1 s25) s6)
      · have := right_perm hR tp1 tp2 tp3
        rw [this] at hno
        cases hno
    | false =>
      refine ⟨x, 2, u1, u2, u3, rfl, px2, by decide, by decide, rtu.ag, rtu.nd, rtu.rt, fun hyes => ?_, fun _ H4 s4 => ⟨true, cI.q, fun _ ea hea => ?_, fun z => (nomatch z)⟩⟩
      · have := right_perm hyes tp1.symm tp2.symm tp3.symm
        rw [hR] at this
        cases this
      · exact ⟨_, rfl, _, rfl, q _ (Same.trans s12 s4)⟩
end
end Mk

set_option Elab.async false
set_option linter.all false
set_option maxRecDepth 100000
set_option maxHeartbeats 1000000
/-! what the law asks of closed tables -/
namespace Mk
open PySem L2
section
variable {t1 t2 r1 r2 : PTab} {t3 r3 : STab} {cf : Str → Str → Int}
theorem CtW.btw {w1 w2 : PTab} {w3 : STab} (W : CtW t1 t2 t3 r1 r2 r3 cf) (R : RtT t1 t2 t3) (p : (w1.map (·.1)).Perm (t1.map (·.1))) (h1 : ∀ y ∈ t1.map (·.1), cf "" y ≤ look w1 y ∧ look w1 y ≤ look t1 y) (h2 : ∀ x ∈ t1.map (·.1), cf x "" ≤ look w2 x ∧ look w2 x ≤ look t2 x)
    (h3 : ∀ x ∈ t1.map (·.1), ∀ y ∈ t1.map (·.1), x ≠ y → (x, y) ∈ w3.map (·.1) → cf x y ≤ look w3 (x, y) ∧ look w3 (x, y) ≤ Mk.dd t1 t2 t3 x y) (h4 : ∀ k, k ∉ w3.map (·.1) → k ∉ t3.map (·.1)) : CtW w1 w2 w3 r1 r2 r3 cf := by
  refine W.between R.ag.nd p (fun x hx y hy => ?_) (fun x hx y hy => ?_)
  · unfold Mk.dd
    by_cases c0 : x = y
    · rw [if_pos c0, c0, W.cl.zero y hy]
      exact Int.le_refl _
    · rw [if_neg c0]
      by_cases c1 : x = ""
      · rw [if_pos c1, c1]
        exact (h1 y (pl_em hy fun e => c0 (c1.trans e.symm))).1
      · rw [if_neg c1]
        have hx' := pl_em hx c1
        by_cases c2 : y = ""
        · rw [if_pos c2, c2]
          exact (h2 x hx').1
        · rw [if_neg c2]
          have hy' := pl_em hy c2
          unfold dget
          by_cases m : (x, y) ∈ w3.map (·.1)
          · rw [if_pos m]
            exact (h3 x hx' y hy' c0 m).1
          · rw [if_neg m]
            have a1 := (h2 x hx').1
            have a2 := (h1 y hy').1
            have a3 := W.cl.tri x hx y hy "" em_in
            omega
  · unfold Mk.dd
    by_cases c0 : x = y
    · rw [if_pos c0, if_pos c0]
      exact Int.le_refl _
    · rw [if_neg c0, if_neg c0]
      by_cases c1 : x = ""
      · rw [if_pos c1, if_pos c1]
        exact (h1 y (pl_em hy fun e => c0 (c1.trans e.symm))).2
      · rw [if_neg c1, if_neg c1]
        have hx' := pl_em hx c1
        by_cases c2 : y = ""
        · rw [if_pos c2, if_pos c2]
          exact (h2 x hx').2
        · rw [if_neg c2, if_neg c2]
          have hy' := pl_em hy c2
          by_cases m : (x, y) ∈ w3.map (·.1)
          · have a := (h3 x hx' y hy' c0 m).2
            unfold Mk.dd at a
            rw [if_neg c0, if_neg c1, if_neg c2] at a
            have e : dget w3 (x, y) (look w2 x + look w1 y) = look w3 (x, y) := by
              unfold dget
              rw [if_pos m]
            rw [e]
            exact a
          · unfold dget
            rw [if_neg m, if_neg (h4 _ m)]
            have a1 := (h2 x hx').2
            have a2 := (h1 y hy').2
            omega
theorem CtW.v1 (W : CtW t1 t2 t3 r1 r2 r3 cf) (R : RtT t1 t2 t3) {s : Str} (hs : s ∈ t1.map (·.1)) : look r1 s = cf "" s := by
  rw [look_prm W.p1 (W.rt R).ag.nd, tabP_look hs]
theorem CtW.v2 (W : CtW t1 t2 t3 r1 r2 r3 cf) (R : RtT t1 t2 t3) {s : Str} (hs : s ∈ t1.map (·.1)) : look r2 s = cf s "" := by
  rw [look_prm W.p2 ((W.rt R).ag.pm.nodup_iff.mpr (W.rt R).ag.nd), tabP_look hs]
theorem CtW.v3 (W : CtW t1 t2 t3 r1 r2 r3 cf) (R : RtT t1 t2 t3) {x y : Str} (hx : x ∈ t1.map (·.1)) (hy : y ∈ t1.map (·.1)) (ne : x ≠ y) : look r3 (x, y) = cf x y := by
  rw [look_prm W.p3 (W.rt R).nd, tabS_look (mem_pairs.mpr ⟨hx, hy, ne⟩)]
theorem kn_step (W : CtW t1 t2 t3 r1 r2 r3 cf) (R : RtT t1 t2 t3) {q : Kind} (h : Kn r1 r2 r3 q) : ∃ w1 w2 w3, Deed t1 t2 t3 q.1 (.int q.2) w1 w2 w3 ∧ RtT w1 w2 w3 ∧ CtW w1 w2 w3 r1 r2 r3 cf := by
  have Rr := W.rt R
  have br := Rr.bds
  have a := R.ag
  have o1 : ∀ y ∈ t1.map (·.1), cf "" y ≤ look t1 y ∧ look t1 y ≤ look t1 y := fun y hy => ⟨cl_put a W.cl hy, Int.le_refl _⟩
  have o2 : ∀ x ∈ t1.map (·.1), cf x "" ≤ look t2 x ∧ look t2 x ≤ look t2 x := fun x hx => ⟨cl_out a W.cl hx, Int.le_refl _⟩
  have o3 : ∀ x ∈ t1.map (·.1), ∀ y ∈ t1.map (·.1), x ≠ y → (x, y) ∈ t3.map (·.1) → cf x y ≤ look t3 (x, y) ∧ look t3 (x, y) ≤ dd t1 t2 t3 x y := fun x hx y hy ne m => by
    refine ⟨cl_swap a W.cl m, ?_⟩
    have n1 : x ≠ "" := fun e => em_not a (e ▸ hx)
    have n2 : y ≠ "" := fun e => em_not a (e ▸ hy)
    unfold Mk.dd dget
    rw [if_neg ne, if_neg n1, if_neg n2, if_pos m]
    exact Int.le_refl _
  rcases h with ⟨s, hs, rfl⟩ | ⟨s, hs, rfl⟩ | ⟨k, hk, rfl⟩
  · have hs' := W.keys1.mem_iff.mp hs
    have b := look_b br.b1 hs
    have n := nw_in b.1 b.2 (by decide : (9 : Int) ≤ LG)
    refine ⟨setT t1 s (look r1 s), t2, t3, .inl ⟨s, _, rfl, hs', rfl, n, rfl, rfl, rfl⟩, R.set1 hs' n, W.btw R (by rw [setT_in hs']) (fun y hy => ?_) o2 o3 (fun _ h => h)⟩
    rw [look_setT]
    by_cases e : y = s
    · rw [if_pos e, e, W.v1 R hs']
      exact ⟨Int.le_refl _, (o1 s hs').1⟩
    · rw [if_neg e]
      exact o1 y hy
  · have hs' := W.keys2.mem_iff.mp hs
    have b := look_b br.b2 hs
    have n := nw_in b.1 b.2 (by decide : (9 : Int) ≤ LG)
    refine ⟨t1, setT t2 s (look r2 s), t3, .inr (.inl ⟨s, _, rfl, hs', rfl, n, rfl, rfl, rfl⟩), R.set2 hs' n, W.btw R (.refl _) o1 (fun x hx => ?_) o3 (fun _ h => h)⟩
    rw [look_setT]
    by_cases e : x = s
    · rw [if_pos e, e, W.v2 R hs']
      exact ⟨Int.le_refl _, (o2 s hs').1⟩
    · rw [if_neg e]
      exact o2 x hx
  · obtain ⟨x, y⟩ := k
    obtain ⟨hx, hy, ne⟩ := mem_pairs.mp (W.keys3.mem_iff.mp hk)
    have b := look_b br.b3 hk
    have n := nw_in b.1 b.2 (by decide : (18 : Int) ≤ LG)
    have S := R.set3 hx hy ne n
    refine ⟨t1, t2, setT t3 (x, y) (look r3 (x, y)), .inr (.inr ⟨x, y, rfl, hx, hy, ne, rfl, rfl, .inr ⟨_, rfl, n, rfl, S.1⟩⟩), S.2, W.btw R (.refl _) o1 o2 (fun u hu v hv nuv m => ?_) (fun k h m => h ((keys_setT _ _ _ _).mpr (.inl m)))⟩
    rw [look_setT]
    by_cases e : (u, v) = (x, y)
    · rw [if_pos e]
      cases e
      rw [W.v3 R hx hy ne]
      exact ⟨Int.le_refl _, W.cl.le _ (List.mem_cons_of_mem _ hx) _ (List.mem_cons_of_mem _ hy)⟩
    · rw [if_neg e]
      exact o3 u hu v hv nuv (((keys_setT _ _ _ _).mp m).resolve_right e)
/-- the least price stays -/
theorem CtW.least (W : CtW t1 t2 t3 r1 r2 r3 cf) (R : RtT t1 t2 t3) {m n : Int} (h : Least m (allP t1 t2 t3)) (h' : Least n (allP r1 r2 r3)) : m = n := by
  have a := R.ag
  have bt := R.bds
  have mem : ∀ j, j ∈ allP t1 t2 t3 ↔ (∃ p ∈ t1, p.2 = j) ∨ (∃ p ∈ t2, p.2 = j) ∨ ∃ p ∈ t3, p.2 = j := fun j => by
    unfold allP
    rw [List.mem_append, List.mem_append, List.mem_map, List.mem_map, List.mem_map, or_assoc]
  have memr : ∀ j, j ∈ allP r1 r2 r3 ↔ (∃ p ∈ r1, p.2 = j) ∨ (∃ p ∈ r2, p.2 = j) ∨ ∃ p ∈ r3, p.2 = j := fun j => by
    unfold allP
    rw [List.mem_append, List.mem_append, List.mem_map, List.mem_map, List.mem_map, or_assoc]
  have m1 : ∀ p ∈ t1, m ≤ p.2 ∧ p.2 ≤ 9 := fun p hp => ⟨h.2 _ ((mem _).mpr (.inl ⟨p, hp, rfl⟩)), (bt.b1 p hp).2⟩
  have m2 : ∀ p ∈ t2, m ≤ p.2 ∧ p.2 ≤ 9 := fun p hp => ⟨h.2 _ ((mem _).mpr (.inr (.inl ⟨p, hp, rfl⟩))), (bt.b2 p hp).2⟩
  have m3 : ∀ p ∈ t3, m ≤ p.2 ∧ p.2 ≤ 18 := fun p hp => ⟨h.2 _ ((mem _).mpr (.inr (.inr ⟨p, hp, rfl⟩))), (bt.b3 p hp).2⟩
  have m0 : 0 ≤ m := by
    rcases (mem m).mp h.1 with ⟨p, hp, e⟩ | ⟨p, hp, e⟩ | ⟨p, hp, e⟩
    · have := (bt.b1 p hp).1
      omega
    · have := (bt.b2 p hp).1
      omega
    · have := (bt.b3 p hp).1
      omega
  have lo : ∀ {x y : Str}, x ∈ plc t1 → y ∈ plc t1 → x ≠ y → m ≤ cf x y := fun hx hy ne => cl_least a W.cl m0 m1 m2 m3 hx hy ne
  have pl : ∀ {z : Str}, z ∈ t1.map (·.1) → z ∈ plc t1 := fun hz => List.mem_cons_of_mem _ hz
  have nz : ∀ {z : Str}, z ∈ t1.map (·.1) → z ≠ "" := fun hz e => em_not a (e ▸ hz)
  have c1 : m ≤ n := by
    rcases (memr n).mp h'.1 with ⟨p, hp, rfl⟩ | ⟨p, hp, rfl⟩ | ⟨p, hp, rfl⟩
    · obtain ⟨z, hz, rfl⟩ := List.mem_map.mp (W.p1.mem_iff.mp hp)
      exact lo em_in (pl hz) (nz hz).symm
    · obtain ⟨z, hz, rfl⟩ := List.mem_map.mp (W.p2.mem_iff.mp hp)
      exact lo (pl hz) em_in (nz hz)
    · obtain ⟨k, hk, rfl⟩ := List.mem_map.mp (W.p3.mem_iff.mp hp)
      obtain ⟨k1, k2, k3⟩ := mem_pairs.mp hk
      exact lo (pl k1) (pl k2) k3
  have c2 : n ≤ m := by
    have nd2 : (t2.map (·.1)).Nodup := a.pm.nodup_iff.mpr a.nd
    rcases (mem m).mp h.1 with ⟨p, hp, rfl⟩ | ⟨p, hp, rfl⟩ | ⟨p, hp, rfl⟩
    · have hz : p.1 ∈ t1.map (·.1) := List.mem_map.mpr ⟨p, hp, rfl⟩
      have i : (p.1, cf "" p.1) ∈ r1 := W.p1.mem_iff.mpr (List.mem_map.mpr ⟨p.1, hz, rfl⟩)
      have a1 := h'.2 _ ((memr _).mpr (.inl ⟨_, i, rfl⟩))
      have a2 := cl_put a W.cl hz
      rw [look_mem a.nd p hp] at a2
      exact Int.le_trans a1 a2
    · have hz : p.1 ∈ t1.map (·.1) := a.pm.mem_iff.mp (List.mem_map.mpr ⟨p, hp, rfl⟩)
      have i : (p.1, cf p.1 "") ∈ r2 := W.p2.mem_iff.mpr (List.mem_map.mpr ⟨p.1, hz, rfl⟩)
      have a1 := h'.2 _ ((memr _).mpr (.inr (.inl ⟨_, i, rfl⟩)))
      have a2 := cl_out a W.cl hz
      rw [look_mem nd2 p hp] at a2
      exact Int.le_trans a1 a2
    · have hk := a.pr p hp
      have i : (p.1, cf p.1.1 p.1.2) ∈ r3 := W.p3.mem_iff.mpr (List.mem_map.mpr ⟨p.1, mem_pairs.mpr hk, rfl⟩)
      have a1 := h'.2 _ ((memr _).mpr (.inr (.inr ⟨_, i, rfl⟩)))
      have a2 := cl_swap a W.cl (x := p.1.1) (y := p.1.2) (List.mem_map.mpr ⟨p, hp, rfl⟩)
      have e : look t3 (p.1.1, p.1.2) = p.2 := look_mem R.nd p hp
      rw [e] at a2
      exact Int.le_trans a1 a2
  omega
end
theorem CtW.cc {t1 t2 r1 r2 : PTab} {t3 r3 : STab} {cf : Str → Str → Int} (W : CtW t1 t2 t3 r1 r2 r3 cf) (R : RtT t1 t2 t3) {x y : Str} (hx : x ∈ plc t1) (hy : y ∈ plc t1) : Mk.cc t1 t2 t3 x y = cf x y := (cl_of R).uniq W.cl hx hy
/-- closed costs that are no greater -/
theorem atm_blw {t1 t2 r1 r2 u1 u2 s1 s2 : PTab} {t3 r3 u3 s3 : STab} {cf cg : Str → Str → Int} (R : RtT t1 t2 t3) (S : RtT u1 u2 u3) (st : Srt t1 t2 t3) (su : Srt u1 u2 u3) (W : CtW t1 t2 t3 r1 r2 r3 cf) (V : CtW u1 u2 u3 s1 s2 s3 cg) : AtM t1 t2 t3 u1 u2 u3 ↔ Blw r1 r2 r3 s1 s2 s3 := by
  have keys : t1.map (·.1) = u1.map (·.1) ↔ (r1.map (·.1)).Perm (s1.map (·.1)) := by
    constructor
    · intro e
      exact (W.keys1.trans (by rw [e])).trans V.keys1.symm
    · intro p
      exact List.Perm.eq_of_pairwise (fun a b _ _ k1 k2 => byCs_anti a b k1 k2) st.a su.a ((W.keys1.symm.trans p).trans V.keys1)
  have pl : ∀ {t : PTab} {z : Str}, z ∈ t.map (·.1) → z ∈ plc t := fun hz => List.mem_cons_of_mem _ hz
  have nz : ∀ {z : Str}, z ∈ t1.map (·.1) → z ≠ "" := fun hz e => em_not R.ag (e ▸ hz)
  unfold AtM Blw
  rw [keys]
  refine and_congr_right fun p => ?_
  have eK := keys.mpr p
  have eP : plc u1 = plc t1 := by unfold plc; rw [eK]
  have iu : ∀ {z : Str}, z ∈ t1.map (·.1) → z ∈ u1.map (·.1) := fun h => by rw [← eK]; exact h
  have cw : ∀ {x y : Str}, x ∈ plc t1 → y ∈ plc t1 → Mk.cc t1 t2 t3 x y = cf x y := fun hx hy => W.cc R hx hy
  have cv : ∀ {x y : Str}, x ∈ plc t1 → y ∈ plc t1 → Mk.cc u1 u2 u3 x y = cg x y := fun hx hy => V.cc S (by rw [eP]; exact hx) (by rw [eP]; exact hy)
  constructor
  · intro h
    refine ⟨fun q hq => ?_, fun q hq => ?_, fun q hq => ?_⟩
    · obtain ⟨z, hz, rfl⟩ := List.mem_map.mp (W.p1.mem_iff.mp hq)
      have := h "" em_in z (pl hz)
      rw [cw em_in (pl hz), cv em_in (pl hz)] at this
      rw [V.v1 S (iu hz)]
      exact this
    · obtain ⟨z, hz, rfl⟩ := List.mem_map.mp (W.p2.mem_iff.mp hq)
      have := h z (pl hz) "" em_in
      rw [cw (pl hz) em_in, cv (pl hz) em_in] at this
      rw [V.v2 S (iu hz)]
      exact this
    · obtain ⟨k, hk, rfl⟩ := List.mem_map.mp (W.p3.mem_iff.mp hq)
      obtain ⟨k1, k2, k3⟩ := mem_pairs.mp hk
      have := h k.1 (pl k1) k.2 (pl k2)
      rw [cw (pl k1) (pl k2), cv (pl k1) (pl k2)] at this
      have e : look s3 (k.1, k.2) = cg k.1 k.2 := V.v3 S (iu k1) (iu k2) k3
      show cf k.1 k.2 ≤ look s3 k
      rw [show k = (k.1, k.2) from rfl, e]
      exact this
  · rintro ⟨h1, h2, h3⟩ x hx y hy
    rw [cw hx hy, cv hx hy]
    by_cases c0 : x = y
    · subst c0
      have a1 := W.cl.zero x hx
      have a2 := V.cl.zero x (by rw [eP]; exact hx)
      omega
    · by_cases c1 : x = ""
      · subst c1
        have hy' := pl_em hy fun e => c0 e.symm
        have := h1 (y, cf "" y) (W.p1.mem_iff.mpr (List.mem_map.mpr ⟨y, hy', rfl⟩))
        rw [V.v1 S (iu hy')] at this
        exact this
      · have hx' := pl_em hx c1
        by_cases c2 : y = ""
        · subst c2
          have := h2 (x, cf x "") (W.p2.mem_iff.mpr (List.mem_map.mpr ⟨x, hx', rfl⟩))
          rw [V.v2 S (iu hx')] at this
          exact this
        · have hy' := pl_em hy c2
          have := h3 ((x, y), cf x y) (W.p3.mem_iff.mpr (List.mem_map.mpr ⟨(x, y), mem_pairs.mpr ⟨hx', hy', c0⟩, rfl⟩))
          rw [V.v3 S (iu hx') (iu hy') c0] at this
          exact this
theorem sub_pairs {t1 t2 r1 r2 u1 u2 s1 s2 : PTab} {t3 r3 u3 s3 : STab} {cf cg : Str → Str → Int} (W : CtW t1 t2 t3 r1 r2 r3 cf) (V : CtW u1 u2 u3 s1 s2 s3 cg) (p : (r1.map (·.1)).Perm (s1.map (·.1))) : ∀ k ∈ r3.map (·.1), k ∈ s3.map (·.1) := fun k hk => by
  have h := mem_pairs.mp (W.keys3.mem_iff.mp hk)
  have i : ∀ {z : Str}, z ∈ t1.map (·.1) → z ∈ u1.map (·.1) := fun hz => V.keys1.mem_iff.mp (p.mem_iff.mp (W.keys1.mem_iff.mpr hz))
  exact V.keys3.mem_iff.mpr (mem_pairs.mpr ⟨i h.1, i h.2.1, h.2.2⟩)
/-- closed prices are no greater than themselves -/
theorem atm_self {u1 u2 v1 v2 r1 r2 : PTab} {u3 v3 r3 : STab} {cf cg : Str → Str → Int} (R : RtT u1 u2 u3) (S : RtT v1 v2 v3) (su : Srt u1 u2 u3) (sv : Srt v1 v2 v3) (W : CtW u1 u2 u3 r1 r2 r3 cf) (V : CtW v1 v2 v3 r1 r2 r3 cg) : AtM u1 u2 u3 v1 v2 v3 := by
  rw [atm_blw R S su sv W V]
  have Rr := W.rt R
  refine ⟨.refl _, fun p hp => ?_, fun p hp => ?_, fun p hp => ?_⟩
  · rw [look_mem Rr.ag.nd p hp]
    exact Int.le_refl _
  · rw [look_mem (Rr.ag.pm.nodup_iff.mpr Rr.ag.nd) p hp]
    exact Int.le_refl _
  · rw [look_mem Rr.nd p hp]
    exact Int.le_refl _
theorem same_T {t1 t2 u1 u2 : PTab} {t3 u3 : STab} (R : RtT t1 t2 t3) (p1 : u1.Perm t1) (p2 : u2.Perm t2) (p3 : u3.Perm t3) : sameT t1 t2 t3 u1 u2 u3 = true := by
  unfold sameT
  rw [same_P p1 R.ag.nd, same_P p2 (R.ag.pm.nodup_iff.mpr R.ag.nd), same_S p3 R.nd]
  rfl
/-- such equality hangs on the order of neither side -/
theorem hasP_val {κ : Type} [DecidableEq κ] {ls ms : List (κ × V)} (h : ∀ k, valV ls k = valV ms k) (p : κ × V) : hasP ls p = hasP ms p := by
  unfold hasP
  rw [h]
theorem sameKV_congr {κ : Type} [DecidableEq κ] {ks ks' ls ls' : List (κ × V)} (h : ks.Perm ks') (l : ls.length = ls'.length) (e : ∀ k, valV ls k = valV ls' k) : sameKV ks ls = sameKV ks' ls' := by
  unfold sameKV
  rw [h.length_eq, l]
  congr 1
  have e1 : ks.all (hasP ls) = ks.all (hasP ls') := by
    congr 1
    funext p
    exact hasP_val e p
  rw [e1, Bool.eq_iff_iff, List.all_eq_true, List.all_eq_true]
  exact ⟨fun a p hp => a p (h.mem_iff.mpr hp), fun a p hp => a p (h.mem_iff.mp hp)⟩
theorem val_permP {t u : PTab} (p : t.Perm u) (nd : (t.map (·.1)).Nodup) (k : Key) : valV (kvsP t) k = valV (kvsP u) k := by
  cases k with
  | inl i =>
    have no : ∀ t : PTab, valV (kvsP t) (Sum.inl i) = none := fun t => by
      induction t with
      | nil => rfl
      | cons a t ih => exact (valV_neg (fun z => by cases z)).trans ih
    rw [no, no]
  | inr x =>
    by_cases m : x ∈ t.map (·.1)
    · rw [valP m, valP ((p.map (·.1)).mem_iff.mp m), look_prm p nd]
    · rw [noP m, noP (fun z => m ((p.map (·.1)).mem_iff.mpr z))]
theorem val_permS {t u : STab} (p : t.Perm u) (nd : (t.map (·.1)).Nodup) (k : List Key) : valV (kvsS t) k = valV (kvsS u) k := by
  by_cases h : ∃ q : Str × Str, k = keyOf q
  · obtain ⟨q, rfl⟩ := h
    by_cases m : q ∈ t.map (·.1)
    · rw [valS m, valS ((p.map (·.1)).mem_iff.mp m), look_prm p nd]
    · rw [noS m, noS (fun z => m ((p.map (·.1)).mem_iff.mpr z))]
  · have no : ∀ t : STab, valV (kvsS t) k = none := fun t => by
      induction t with
      | nil => rfl
      | cons a t ih => exact (valV_neg (fun z => h ⟨a.1, z.symm⟩)).trans ih
    rw [no, no]
theorem sameT_congr {t1 t2 t1' t2' u1 u2 u1' u2' : PTab} {t3 t3' u3 u3' : STab} (R : RtT u1 u2 u3) (p1 : t1.Perm t1') (p2 : t2.Perm t2') (p3 : t3.Perm t3') (q1 : u1.Perm u1') (q2 : u2.Perm u2') (q3 : u3.Perm u3') : sameT t1 t2 t3 u1 u2 u3 = sameT t1' t2' t3' u1' u2' u3' := by
  have a1 : sameKV (kvsP t1) (kvsP u1) = sameKV (kvsP t1') (kvsP u1') := sameKV_congr (show (kvsP t1).Perm (kvsP t1') from p1.map _) (show (kvsP u1).length = (kvsP u1').length from (q1.map _).length_eq) (val_permP q1 R.ag.nd)
  have a2 : sameKV (kvsP t2) (kvsP u2) = sameKV (kvsP t2') (kvsP u2') := sameKV_congr (show (kvsP t2).Perm (kvsP t2') from p2.map _) (show (kvsP u2).length = (kvsP u2').length from (q2.map _).length_eq) (val_permP q2 (R.ag.pm.nodup_iff.mpr R.ag.nd))
  have a3 : sameKV (kvsS t3) (kvsS u3) = sameKV (kvsS t3') (kvsS u3') := sameKV_congr (show (kvsS t3).Perm (kvsS t3') from p3.map _) (show (kvsS u3).length = (kvsS u3').length from (q3.map _).length_eq) (val_permS q3 R.nd)
  unfold sameT
  rw [a1, a2, a3]
end Mk

set_option Elab.async false
set_option linter.all false
set_option maxRecDepth 100000
set_option maxHeartbeats 1000000
/-! == of two records of tables -/
namespace Mk
open PySem PySem.Spec L2 PyProof.Rows
section
variable {X : Cx} {pins : List (Addr × Obj)} {σ : L2.St} {H : Hp} {s : Shared}
theorem rc_dK {A : Around} {a b : Addr} {ks ls : List (Key × V)} (hu : A.units < cLine) (I : Inv X pins σ H s) (ea : H a = some (.dK ks)) (eb : H b = some (.dK ls)) (fk : ∀ p ∈ ks, flatV p.2 = true) (fl : ∀ p ∈ ls, flatV p.2 = true) (E : Value → Shared → Prop) (Q : Value → Shared → Prop) (q : Q (.bool (sameKV ks ls)) s) :
    wpAny (model X.prog X.w) A (richCompare .Eq (.ref a) (.ref b)) Q E s := by
  obtain ⟨_, ya, va, ra, da⟩ := I.hok a _ ea
  obtain ⟨_, yb, vb, rb, db⟩ := I.hok b _ eb
  refine PySem.W.rcP_dicts (knd := mixKind X.prog X.w) (r := ks.all (hasP ls)) ya yb da db hu (fun _ => hits_any rb fl ra fk) _ _ ?_
  have e1 : va.length = ks.length := (Paired.length ra).symm
  have e2 : vb.length = ls.length := (Paired.length rb).symm
  rw [e1, e2]
  exact q
theorem rc_dT {A : Around} {a b : Addr} {ks ls : List (List Key × V)} (hu : A.units + 1 < cLine) (I : Inv X pins σ H s) (ea : H a = some (.dT ks)) (eb : H b = some (.dT ls)) (fk : ∀ p ∈ ks, flatV p.2 = true) (fl : ∀ p ∈ ls, flatV p.2 = true) (E : Value → Shared → Prop) (Q : Value → Shared → Prop) (q : Q (.bool (sameKV ks ls)) s) :
    wpAny (model X.prog X.w) A (richCompare .Eq (.ref a) (.ref b)) Q E s := by
  obtain ⟨_, na, xa, ra, da⟩ := dt_of I.hok ea
  obtain ⟨_, nb, xb, rb, db⟩ := dt_of I.hok eb
  refine wpAny_richCompare_same_room (op := .Eq) da.typeIs db.typeIs PySem.F.slot_dict_eq (wpAny_call_entry PySem.F.slot_dict_eq da.typeIs PySem.F.entry_dict_eq ?_ (PySem.F.args_dict_eq_2 _ _)) (by omega)
  show wpAny (model X.prog X.w) _ (Builtin.Dict.dictSlotArgs "__eq__" ⟨[.ref a, .ref b], []⟩ >>= _) _ _ s
  unfold Builtin.Dict.dictSlotArgs
  refine wpAny_bind (wpAny_bind (wpAny_notOrdered_dict da.typeIs ?_))
  show wpAny (model X.prog X.w) _ (pure (Value.ref a, Value.ref b)) _ _ s
  refine wpAny_pure (wpAny_bind (wpAny_isInstance (T := "dict") db.typeIs PySem.F.sub_dict_dict ?_))
  simp only [Bool.not_true, Bool.false_eq_true, ite_false]
  refine wpAny_bind (wpAny_pure (wpAny_bind (wpAny_pure (wpAny_bind (pairsT (by show A.units + 1 < cLine; exact hu) na nb ra rb da db fk fl ?_)))))
  have e : (sameKV ks ls == true) = sameKV ks ls := by cases sameKV ks ls <;> rfl
  rw [e]
  refine wpAny_pure ⟨_, rfl, ?_, q⟩
  intro z
  cases z
def rEq3 : R2 := fun x y H Q => ∃ (L a b c M d e g : Addr) (t1 t2 : PTab) (t3 : STab) (u1 u2 : PTab) (u3 : STab), x = .ref L ∧ y = .ref M ∧ Rec H L a b c t1 t2 t3 ∧ Rec H M d e g u1 u2 u3 ∧ a ≠ d ∧ b ≠ e ∧ c ≠ g ∧ Q (.bl (sameT t1 t2 t3 u1 u2 u3)) H
theorem op_eq3 (hu : X.A.units + 8 < cLine) : OpR X (compareOp .Eq) rEq3 := by
  intro pins s σ H x y v u Q I rx ry h
  obtain ⟨L, a, b, c, M, d, e, g, t1, t2, t3, u1, u2, u3, rfl, rfl, r, m, ad, be, cg, q⟩ := h
  cases rx
  cases ry
  obtain ⟨lo, vs, n1, rv, hl⟩ := I.hok L _ r.l
  obtain ⟨lo2, us, n2, ru, hm⟩ := I.hok M _ m.l
  have hl' : s.heap.IsList L vs.toArray := PySem.IsL.isList hl
  have hm' : s.heap.IsList M us.toArray := PySem.IsL.isList hm
  have three : ∀ {x y z : Addr} {ws : List Value}, Vals [V.ref x, .ref y, .ref z] ws → ws = [Value.ref x, .ref y, .ref z] := fun {x y z ws} h => by
    cases h with
    | cons h1 t =>
      cases t with
      | cons h2 t =>
        cases t with
        | cons h3 t =>
          cases t
          cases h1
          cases h2
          cases h3
          rfl
  have ev := three rv
  have eu := three ru
  subst ev
  subst eu
  show wpAny _ _ (richCompare .Eq (.ref L) (.ref M)) _ _ _
  refine SeqAt.rcIn_lists (e := fun j => match j with | 0 => sameKV (kvsP t1) (kvsP u1) | 1 => sameKV (kvsP t2) (kvsP u2) | _ => sameKV (kvsS t3) (kvsS u3)) hl' hm' rfl (by omega) (fun j h1 h2 => ?_) ?_
  · have hj : j < 3 := h1
    have hu1 : X.A.in1.units + 1 < cLine := by show X.A.units + 1 + 1 < cLine; omega
    rcases (by omega : j = 0 ∨ j = 1 ∨ j = 2) with rfl | rfl | rfl
    · exact SeqAt.EqIn.of_refs ad fun E Q q => rc_dK (by omega) I r.t.p m.t.p (flat_P _) (flat_P _) E Q q
    · exact SeqAt.EqIn.of_refs be fun E Q q => rc_dK (by omega) I r.t.o m.t.o (flat_P _) (flat_P _) E Q q
    · exact SeqAt.EqIn.of_refs cg fun E Q q => rc_dT hu1 I r.t.s m.t.s (flat_S _) (flat_S _) E Q q
  · have e : (List.range [Value.ref a, .ref b, .ref c].toArray.size).all (fun j => match j with | 0 => sameKV (kvsP t1) (kvsP u1) | 1 => sameKV (kvsP t2) (kvsP u2) | _ => sameKV (kvsS t3) (kvsS u3)) = sameT t1 t2 t3 u1 u2 u3 := by
      show (sameKV (kvsP t1) (kvsP u1) && (sameKV (kvsP t2) (kvsP u2) && (sameKV (kvsS t3) (kvsS u3) && true))) = _
      unfold sameT
      rw [Bool.and_true]
    rw [e]
    exact ⟨.bl _, H, I, rfl, q⟩
end
end Mk

set_option Elab.async false
set_option linter.all false
set_option maxRecDepth 100000
set_option maxHeartbeats 2000000
/-! tables with the same keys and small prices -/
namespace Mk
open PySem PySem.Spec L2 PyProof.Rows

theorem ps_weak {X : Cx} {st : Stmt} {t t' : TS} (p : PS X st t) (w : ∀ D σ H, t' D σ H → t D σ H) : PS X st t' := ⟨fun pins s σ H D I h => p.run pins s σ H D I (w D σ H h)⟩
theorem PrsH.keep {H H' : Hp} {ts : List Addr} {kvs : List (List Key × V)} (k : ∀ q xs, H q = some (.tup xs) → H' q = some (.tup xs)) (h : PrsH H ts kvs) : PrsH H' ts kvs := _root_.L2.Paired.mapP h fun p kv z => by
  obtain ⟨b, z1, z2⟩ := z
  exact ⟨b, k _ _ z1, k _ _ z2⟩
/-- the same keys, prices of one to nine -/
def Lw {α : Type} (u t : List (α × Int)) : Prop := u.map (·.1) = t.map (·.1) ∧ ∀ q ∈ u, 1 ≤ q.2 ∧ q.2 ≤ 9
theorem Lw.one {α : Type} (t : List (α × Int)) : Lw (t.map fun p => (p.1, (1 : Int))) t := ⟨by rw [List.map_map]; rfl, fun q hq => by
  obtain ⟨p, hp, rfl⟩ := List.mem_map.mp hq
  exact ⟨(show (1 : Int) ≤ 1 by decide), (show (1 : Int) ≤ 9 by decide)⟩⟩
theorem Lw.nil {α : Type} (t : List (α × Int)) : Lw ([] : List (α × Int)) (t.take 0) := ⟨rfl, fun _ h => nomatch h⟩
theorem Lw.push {α : Type} {u t : List (α × Int)} {j : Nat} {i : Int} (h : Lw u (t.take j)) (hj : j < t.length) (a : 1 ≤ i) (b : i ≤ 9) : Lw (u ++ [(t[j].1, i)]) (t.take (j + 1)) := by
  refine ⟨?_, fun q hq => ?_⟩
  · rw [List.take_add_one, List.getElem?_eq_getElem hj, List.map_append, List.map_append, h.1]
    rfl
  · rcases List.mem_append.mp hq with m | m
    · exact h.2 q m
    · rw [List.mem_singleton.mp m]
      exact ⟨a, b⟩
theorem Lw.len {α : Type} {u t : List (α × Int)} (h : Lw u t) : u.length = t.length := by
  have := congrArg List.length h.1
  rwa [List.length_map, List.length_map] at this
theorem Lw.mem {α : Type} {u t : List (α × Int)} (h : Lw u t) {p : α × Int} (hp : p ∈ u) : ∃ q ∈ t, q.1 = p.1 := by
  have m : p.1 ∈ t.map (·.1) := by
    rw [← h.1]
    exact List.mem_map.mpr ⟨p, hp, rfl⟩
  exact List.mem_map.mp m
theorem rt_low {t1 t2 u1 u2 : PTab} {t3 u3 : STab} (R : RtT t1 t2 t3) (h1 : Lw u1 t1) (h2 : Lw u2 t2) (h3 : Lw u3 t3) : RtT u1 u2 u3 where
  ag := by
    have a := R.ag
    exact ⟨fun p hp => by
        obtain ⟨q, hq, e⟩ := h1.mem hp
        rw [← e]
        exact a.sg q hq, by rw [h1.1]; exact a.nd, by rw [h1.len]; exact a.l1, by rw [h1.1, h2.1]; exact a.pm, by rw [h3.len]; exact a.l3, fun p hp => by
        obtain ⟨q, hq, e⟩ := h3.mem hp
        rw [← e, h1.1]
        exact a.pr q hq⟩
  nd := by rw [h3.1]; exact R.nd
  rt := by
    unfold rightB okP okS
    have e1 : (u1.all fun p => nwB p.2 1 9) = true := List.all_eq_true.mpr fun p hp => nw_in (h1.2 p hp).1 (h1.2 p hp).2 (by decide)
    have e2 : (u2.all fun p => nwB p.2 1 9) = true := List.all_eq_true.mpr fun p hp => nw_in (h2.2 p hp).1 (h2.2 p hp).2 (by decide)
    have e3 : (u3.all fun p => nwB p.2 1 18) = true := List.all_eq_true.mpr fun p hp => nw_in (h3.2 p hp).1 (Int.le_trans (h3.2 p hp).2 (by decide)) (by decide)
    have e4 : u1.isEmpty = false := by
      have n := R.bds.ne
      have l := h1.len
      cases u1 with
      | nil =>
        cases t1 with
        | nil => exact absurd rfl n
        | cons _ _ => cases l
      | cons _ _ => rfl
    rw [e1, e2, e3, e4]
    rfl
/-- new tables with the same keys, by the pot in the first place and the tables in the second -/
def tMin : TE := fun σ H Q => ∃ (p L a b c : Addr) (n : Nat) (t1 t2 : PTab) (t3 : STab) (o2 o3 o4 o5 o6 o7 o8 o9 o10 o11 o12 : Option V), σ = [some (.ref p), some (.ref L), o2, o3, o4, o5, o6, o7, o8, o9, o10, o11, o12] ∧ Rec H L a b c t1 t2 t3 ∧ RtT t1 t2 t3 ∧ Pot H p n ∧ n + 100 < PB ∧
  ∀ H' M d e g u1 u2 u3, But p H H' → Rec H' M d e g u1 u2 u3 → RtT u1 u2 u3 → Pot H' p (n + 100) → Q (.ref M) H'
def rDict2 (K : PySem.W.Frag) (xs : List V) (H : Hp) (Q : VK) : Prop := (∃ a ps kvs, xs = [V.ref a] ∧ SqL K H a (List.map V.ref ps) ∧ Paired (fun p (kv : Key × V) => SqT K H p [kV kv.1, kv.2]) ps kvs ∧ ∀ (p : Addr), H p = none → Q (V.ref p) (upd H p (HO.dK (mergeK [] kvs)))) ∨
  ∃ a ps kvs, xs = [V.ref a] ∧ SqL K H a (List.map V.ref ps) ∧ PrsT K H ps kvs ∧ (List.map (fun x => x.1) kvs).Nodup ∧ ∀ (p : Addr), H p = none → Q (V.ref p) (upd H p (HO.dT kvs))
theorem min_of {v k : Int} (a : 1 ≤ v) (b : 0 ≤ k) : 1 ≤ (if v + k < 9 then v + k else (9 : Int)) ∧ (if v + k < 9 then v + k else (9 : Int)) ≤ 9 := by
  split <;> omega
theorem min_w (K : PySem.W.Frag) (D : Ends) (σ : L2.St) (H : Hp) (h : tAsg tMin (gName 8) D σ H) : tAsg (tLc (iList K (tVar 1)) (gName 11) tYes (tCB (rDict2 K) (tCons (tLockE (tLc (iKeys (tVar 11)) (gName 12) tYes (tTup (tCons (tVar 12) (tCons (tCB (fun xs H Q => ∃ i j, xs = [V.int i, V.int j] ∧ Q (V.int (if j < i then j else i)) H)
    (tCons (tC (V.int 9)) (tCons (tOp (rI0 fun i j => V.int (i + j)) (tDGet (tVar 11) (tVar 12)) (tCall spDip [] E0 (tCons (tVar 0) (tCons (tC (V.int 2)) tNil)))) tNil))) tNil))) [12])) tNil)) [11]) (gName 8) D σ H := by
  obtain ⟨p, L, a, b, c, n0, t1, t2, t3, o2, o3, o4, o5, o6, o7, o8, o9, o10, o11, o12, rfl, r, R, P, hn, q⟩ := h
  have nar : ∀ {n : Nat}, n ≤ 1000 → n ≤ sizeLine := fun h1 => by rw [sizeLine_eq]; omega
  have lt1 : ∀ {n : Nat}, n ≤ 1000 → n < sizeLine := fun h1 => by rw [sizeLine_eq]; omega
  have n2 : 2 ≤ sizeLine := by decide
  have bt := R.bds
  have nd2 : (t2.map (·.1)).Nodup := R.ag.pm.nodup_iff.mpr R.ag.nd
  have l1 := R.ag.l1
  have l2 := R.ag.l2
  have l3 := R.ag.l3
  have keep : ∀ {H' : Hp}, But p H H' → Rec H' L a b c t1 t2 t3 := fun {H'} B => ⟨B.at_ P r.l (fun i j k z => by injection z with z; cases z), B.at_ P r.t.p (fun _ _ _ z => nomatch z), B.at_ P r.t.o (fun _ _ _ z => nomatch z), B.at_ P r.t.s (fun _ _ _ z => nomatch z)⟩
  have pH : ∃ o, H p = some o := by
    obtain ⟨_, _, _, e, _⟩ := P
    exact ⟨_, e⟩
  refine ⟨_, rfl, L, rfl, ⟨_, SqL.of r.l⟩, fun D0 hD0 => ?_⟩
  have nD0 : D0 ≠ p := fun z => by
    obtain ⟨o, e⟩ := pH
    rw [z, e] at hD0
    cases hD0
  refine lc_it (walk_list (K := K) (a := L) (xs := [V.ref a, .ref b, .ref c])) (fun i H3 => But p H H3 ∧ Pot H3 p (n0 + 20 * i) ∧ ∃ (u1 u2 : PTab) (u3 : STab) (ds : List Addr), Lw u1 t1 ∧ Lw u2 t2 ∧ Lw u3 t3 ∧ H3 D0 = some (.lst (ds.map V.ref)) ∧ Paired (fun (o : HO) d => d ≠ D0 ∧ d ≠ p ∧ H3 d = some o) (([.dK (kvsP u1), .dK (kvsP u2), .dT (kvsS u3)] : List HO).take i) ds) ?_ (fun i H3 _ h3 => SqL.of (keep h3.1).l) ?_ ?_
  · exact ⟨But.refl.new hD0, P.up nD0.symm, _, _, _, [], Lw.one _, Lw.one _, Lw.one _, upd_same, .nil⟩
  · rintro i y H0 H3 hi ⟨B3, P3, u1, u2, u3, fs, w1, w2, w3, g1, g3⟩ ⟨rfl, hy⟩
    have hi3 : i < 3 := hi
    have r3 := keep B3
    obtain ⟨ad, hye, hsrc⟩ : ∃ (ad : Addr), y = V.ref ad ∧
        ((∃ t : PTab, H3 ad = some (.dK (kvsP t)) ∧ (t.map (·.1)).Nodup ∧ (∀ p ∈ t, 1 ≤ p.2 ∧ p.2 ≤ 100) ∧ t.length ≤ 20 ∧ ∀ u, Lw u t → ∃ v1 v2 v3, Lw v1 t1 ∧ Lw v2 t2 ∧ Lw v3 t3 ∧ ([.dK (kvsP v1), .dK (kvsP v2), .dT (kvsS v3)] : List HO).take (i + 1) = ([.dK (kvsP u1), .dK (kvsP u2), .dT (kvsS u3)] : List HO).take i ++ [.dK (kvsP u)]) ∨
         ∃ t : STab, H3 ad = some (.dT (kvsS t)) ∧ (t.map (·.1)).Nodup ∧ (∀ p ∈ t, 1 ≤ p.2 ∧ p.2 ≤ 100) ∧ t.length ≤ 20 ∧ ∀ u, Lw u t → ∃ v1 v2 v3, Lw v1 t1 ∧ Lw v2 t2 ∧ Lw v3 t3 ∧ ([.dK (kvsP v1), .dK (kvsP v2), .dT (kvsS v3)] : List HO).take (i + 1) = ([.dK (kvsP u1), .dK (kvsP u2), .dT (kvsS u3)] : List HO).take i ++ [.dT (kvsS u)]) := by
      rcases (by omega : i = 0 ∨ i = 1 ∨ i = 2) with rfl | rfl | rfl
      · exact ⟨a, (Option.some.inj hy).symm, .inl ⟨t1, r3.t.p, R.ag.nd, fun p hp => by have := bt.b1 p hp; omega, by omega, fun u hu => ⟨u, u2, u3, hu, w2, w3, rfl⟩⟩⟩
      · exact ⟨b, (Option.some.inj hy).symm, .inl ⟨t2, r3.t.o, nd2, fun p hp => by have := bt.b2 p hp; omega, by omega, fun u hu => ⟨u1, u, u3, w1, hu, w3, rfl⟩⟩⟩
      · exact ⟨c, (Option.some.inj hy).symm, .inr ⟨t3, r3.t.s, R.nd, fun p hp => by have := bt.b3 p hp; omega, l3, fun u hu => ⟨u1, u2, u, w1, w2, hu, rfl⟩⟩⟩
    subst hye
    have lfs : fs.length ≤ 3 := by
      have e : (([.dK (kvsP u1), .dK (kvsP u2), .dT (kvsS u3)] : List HO).take i).length = fs.length := Paired.length g3
      rw [List.length_take] at e
      omega
    refine ⟨rfl, ?_⟩
    revert hsrc
    apply by_wayA (fun d H6 => But p H3 H6 ∧ Pot H6 p (n0 + 20 * (i + 1)) ∧ H3 d = none ∧ ∃ (v1 v2 : PTab) (v3 : STab) (o : HO), Lw v1 t1 ∧ Lw v2 t2 ∧ Lw v3 t3 ∧ ([.dK (kvsP v1), .dK (kvsP v2), .dT (kvsS v3)] : List HO).take (i + 1) = ([.dK (kvsP u1), .dK (kvsP u2), .dT (kvsS u3)] : List HO).take i ++ [o] ∧ H6 d = some o)
    · intro hX hsrc
      rcases hsrc with ⟨t, h3, ndt, bdt, lt, fin⟩ | ⟨t, h3, ndt, bdt, lt, fin⟩
      · have nap : ad ≠ p := P3.not h3 (fun _ _ _ z => nomatch z)
        refine ⟨ad, _, h3, trivial, fun od => ⟨_, rfl, ad, od, rfl, .inl ⟨kvsP t, upd_same, fun D hD => ?_⟩⟩⟩
        have nDa : D ≠ ad := fun z => by rw [z, upd_same] at hD; cases hD
        have kp : ∀ b o, b ≠ ad → H3 b = some o → (upd H3 ad (.frz od (.dK (kvsP t)))) b = some o := fun b o nb e => by
          rw [upd_ne nb]
          exact e
        have eA : (upd H3 ad (.frz od (.dK (kvsP t)))) ad = some (.frz od (.dK (kvsP t))) := upd_same
        have Pl : Pot (upd H3 ad (.frz od (.dK (kvsP t)))) p (n0 + 20 * i) := P3.up nap.symm
        have fr : ∀ b, (upd H3 ad (.frz od (.dK (kvsP t)))) b = none → H3 b = none := fun b e => by
          rwa [upd_ne (fun z => by rw [z, upd_same] at e; cases e)] at e
        have D03 := fr _ hD
        generalize upd H3 ad (.frz od (.dK (kvsP t))) = Hl at hD kp eA Pl fr ⊢
        have nDp : D ≠ p := (Pl.ne hD).symm
        refine lc_it (walk_keys (d := ad) (o := od) (kvs := kvsP t)) (fun j H4 => But p Hl H4 ∧ Pot H4 p (n0 + 20 * i + j) ∧ ∃ (ts : List Addr) (u : PTab), H4 D = some (.lst (ts.map V.ref)) ∧ Tups H4 ts u ∧ Lw u (t.take j)) ?_ (fun j H4 _ h4 => h4.1 _ _ nap eA) ?_ ?_
        · exact ⟨But.refl.new hD, Pl.up nDp.symm, [], [], upd_same, .nil, Lw.nil t⟩
        · rintro j z H5 H4 hj ⟨s4, P4, ts, u, k1, k2, k3⟩ ⟨rfl, k, v, hk, rfl⟩
          rw [kvsP_len] at hj
          rw [kvsP_at hj] at hk
          cases hk
          have mk : t[j].1 ∈ t.map (·.1) := List.mem_map.mpr ⟨_, List.getElem_mem hj, rfl⟩
          have gv := valP mk
          rw [look_mem ndt _ (List.getElem_mem hj)] at gv
          have hb := bdt _ (List.getElem_mem hj)
          have lts : ts.length ≤ 20 := by
            have e : ts.length = _ := Paired.length k2
            have e2 := k3.len
            rw [List.length_take] at e2
            omega
          refine ⟨rfl, _, rfl, _, rfl, _, rfl, ad, V.int t[j].2, rfl, .inl ⟨kvsP t, Sum.inr t[j].1, .inr ⟨od, s4 _ _ nap eA⟩, rfl, gv.symm⟩, _, rfl, p, _, 2, rfl, P4, by omega, by decide, by decide, fun H7 k b7 fr7 P7 k0 k2' => ⟨_, _, rfl, rfl, 9, _, rfl, n2, fun n hn => ?_⟩⟩
          have s7 := s4.trans b7
          have k1 := b7 _ _ nDp k1
          have k2 := Tups.keep (fun b xs e => b7.at_ P4 e (fun _ _ _ z => nomatch z)) k2
          have nn : D ≠ n := ne_of_none k1 hn
          have np : p ≠ n := P7.ne hn
          have mm := min_of (v := t[j].2) (k := k) (by omega) k0
          refine ⟨ts.map V.ref, (Same.new hn) _ _ k1, lt1 (by rw [List.length_map]; omega), fun b o nb e => ?_, (P7.up np).up nDp.symm, ts ++ [n], _, ?_, ?_, k3.push hj mm.1 mm.2⟩
          · have e7 := s7 _ _ nb e
            rw [upd_ne (ne_of_none e hD), upd_ne (ne_of_none e7 hn)]
            exact e7
          · rw [upd_same, List.map_append]
            rfl
          · refine Paired.snocP ?_ (Tups.keep (fun b xs e => ?_) k2)
            · show (upd (upd H7 n _) D _) n = _
              rw [upd_ne nn.symm, upd_same]
              rfl
            · rw [upd_ne (fun z => by rw [z, k1] at e; cases e), upd_ne (ne_of_none e hn)]
              exact e
        · rintro H4 ⟨s4, P4, ts, u, k1, k2, k3⟩
          rw [kvsP_len] at P4
          rw [kvsP_len, List.take_length] at k3
          have e4 := s4 _ _ nap eA
          refine ⟨e4, ?_⟩
          have s8 : But p H3 (upd H4 ad (.dK (kvsP t))) := fun b o nb e => by
            by_cases hb : b = ad
            · rw [hb, h3] at e
              rw [hb, upd_same]
              exact e
            · rw [upd_ne hb]
              exact s4 _ _ nb (kp _ _ hb e)
          have P8 : Pot (upd H4 ad (.dK (kvsP t))) p (n0 + 20 * (i + 1)) := (P4.up nap.symm).mono (by omega)
          have k1' : (upd H4 ad (.dK (kvsP t))) D = some (.lst (ts.map V.ref)) := by
            rw [upd_ne nDa]
            exact k1
          have k2' : Tups (upd H4 ad (.dK (kvsP t))) ts u := Tups.keep (fun b xs e => by
            rw [upd_ne (fun z => by rw [z, e4] at e; cases e)]
            exact e) k2
          generalize upd H4 ad (.dK (kvsP t)) = H5 at s8 P8 k1' k2' ⊢
          refine .inl ⟨D, ts, kvsP u, rfl, SqL.of k1', tups_sq k2', fun d hd => ?_⟩
          rw [merge_P0 (by rw [k3.1]; exact ndt)]
          have d3 := s8.nul P8 hd
          obtain ⟨v1, v2, v3, f1, f2, f3, f4⟩ := fin u k3
          exact hX d _ ⟨s8.new hd, P8.up (P8.ne hd), d3, v1, v2, v3, _, f1, f2, f3, f4, upd_same⟩
      · have nap : ad ≠ p := P3.not h3 (fun _ _ _ z => nomatch z)
        refine ⟨ad, _, h3, trivial, fun od => ⟨_, rfl, ad, od, rfl, .inr ⟨kvsS t, upd_same, fun D hD => ?_⟩⟩⟩
        have nDa : D ≠ ad := fun z => by rw [z, upd_same] at hD; cases hD
        have kp : ∀ b o, b ≠ ad → H3 b = some o → (upd H3 ad (.frz od (.dT (kvsS t)))) b = some o := fun b o nb e => by
          rw [upd_ne nb]
          exact e
        have eA : (upd H3 ad (.frz od (.dT (kvsS t)))) ad = some (.frz od (.dT (kvsS t))) := upd_same
        have Pl : Pot (upd H3 ad (.frz od (.dT (kvsS t)))) p (n0 + 20 * i) := P3.up nap.symm
        generalize upd H3 ad (.frz od (.dT (kvsS t))) = Hl at hD kp eA Pl ⊢
        have nDp : D ≠ p := (Pl.ne hD).symm
        refine lc_it (walk_keysT (d := ad) (o := od) (kvs := kvsS t)) (fun j H4 => But p Hl H4 ∧ Pot H4 p (n0 + 20 * i + j) ∧ ∃ (ts : List Addr) (u : STab), H4 D = some (.lst (ts.map V.ref)) ∧ PrsH H4 ts (kvsS u) ∧ Lw u (t.take j)) ?_ (fun j H4 _ h4 => h4.1 _ _ nap eA) ?_ ?_
        · exact ⟨But.refl.new hD, Pl.up nDp.symm, [], [], upd_same, .nil, Lw.nil t⟩
        · rintro j z H5 H4 hj ⟨s4, P4, ts, u, k1, k2, k3⟩ ⟨rfl, k, v, qa, hk, rfl, hq⟩
          rw [kvsS_len] at hj
          rw [kvsS_at hj] at hk
          cases hk
          have mk : t[j].1 ∈ t.map (·.1) := List.mem_map.mpr ⟨_, List.getElem_mem hj, rfl⟩
          have gv := valS mk
          rw [look_mem ndt _ (List.getElem_mem hj)] at gv
          have hb := bdt _ (List.getElem_mem hj)
          have lts : ts.length ≤ 20 := by
            have e : ts.length = _ := Paired.length k2
            have e2 := k3.len
            rw [List.length_take] at e2
            rw [kvsS_len] at e
            omega
          refine ⟨rfl, _, rfl, _, rfl, _, rfl, ad, V.int t[j].2, rfl, .inr ⟨kvsS t, keyOf t[j].1, qa, .inr ⟨od, s4 _ _ nap eA⟩, rfl, hq, gv.symm⟩, _, rfl, p, _, 2, rfl, P4, by omega, by decide, by decide, fun H7 k b7 fr7 P7 k0 k2' => ⟨_, _, rfl, rfl, 9, _, rfl, n2, fun n hn => ?_⟩⟩
          have s7 := s4.trans b7
          have hq := b7.at_ P4 hq (fun _ _ _ z => nomatch z)
          have k1 := b7 _ _ nDp k1
          have k2 := PrsH.keep (fun b xs e => b7.at_ P4 e (fun _ _ _ z => nomatch z)) k2
          have nn : D ≠ n := ne_of_none k1 hn
          have np : p ≠ n := P7.ne hn
          have mm := min_of (v := t[j].2) (k := k) (by omega) k0
          have ek : ∀ i : Int, kvsS (u ++ [(t[j].1, i)]) = kvsS u ++ [(keyOf t[j].1, V.int i)] := fun i => by
            unfold kvsS
            rw [List.map_append]
            rfl
          refine ⟨ts.map V.ref, (Same.new hn) _ _ k1, lt1 (by rw [List.length_map]; omega), fun b o nb e => ?_, (P7.up np).up nDp.symm, ts ++ [n], _, ?_, ?_, k3.push hj mm.1 mm.2⟩
          · have e7 := s7 _ _ nb e
            rw [upd_ne (ne_of_none e hD), upd_ne (ne_of_none e7 hn)]
            exact e7
          · rw [upd_same, List.map_append]
            rfl
          · rw [ek]
            generalize (if t[j].2 + k < 9 then t[j].2 + k else (9 : Int)) = mv at mm ⊢
            have kq : ∀ q xs, H7 q = some (.tup xs) → (upd (upd H7 n (.tup [.ref qa, .int mv])) D (.lst (ts.map V.ref ++ [V.ref n]))) q = some (.tup xs) := fun q xs e => by
              rw [upd_ne (fun z => by rw [z, k1] at e; cases e), upd_ne (ne_of_none e hn)]
              exact e
            have en : (upd (upd H7 n (.tup [.ref qa, .int mv])) D (.lst (ts.map V.ref ++ [V.ref n]))) n = some (.tup [.ref qa, .int mv]) := by rw [upd_ne nn.symm, upd_same]
            exact Paired.snocP ⟨qa, kq _ _ hq, en⟩ (PrsH.keep kq k2)
        · rintro H4 ⟨s4, P4, ts, u, k1, k2, k3⟩
          rw [kvsS_len] at P4
          rw [kvsS_len, List.take_length] at k3
          have e4 := s4 _ _ nap eA
          refine ⟨e4, ?_⟩
          have s8 : But p H3 (upd H4 ad (.dT (kvsS t))) := fun b o nb e => by
            by_cases hb : b = ad
            · rw [hb, h3] at e
              rw [hb, upd_same]
              exact e
            · rw [upd_ne hb]
              exact s4 _ _ nb (kp _ _ hb e)
          have P8 : Pot (upd H4 ad (.dT (kvsS t))) p (n0 + 20 * (i + 1)) := (P4.up nap.symm).mono (by omega)
          have k1' : (upd H4 ad (.dT (kvsS t))) D = some (.lst (ts.map V.ref)) := by
            rw [upd_ne nDa]
            exact k1
          have k2' : PrsH (upd H4 ad (.dT (kvsS t))) ts (kvsS u) := PrsH.keep (fun b xs e => by
            rw [upd_ne (fun z => by rw [z, e4] at e; cases e)]
            exact e) k2
          generalize upd H4 ad (.dT (kvsS t)) = H5 at s8 P8 k1' k2' ⊢
          refine .inr ⟨D, ts, kvsS u, rfl, SqL.of k1', prsH_T k2', kvsS_nd (by rw [k3.1]; exact ndt), fun d hd => ?_⟩
          have d3 := s8.nul P8 hd
          obtain ⟨v1, v2, v3, f1, f2, f3, f4⟩ := fin u k3
          exact hX d _ ⟨s8.new hd, P8.up (P8.ne hd), d3, v1, v2, v3, _, f1, f2, f3, f4, upd_same⟩
    · rintro d H6 ⟨s6, P6, d0, v1, v2, v3, o, f1, f2, f3, f4, e6⟩
      have f6 := s6 _ _ nD0 g1
      have nd : d ≠ D0 := fun z => by rw [z, g1] at d0; cases d0
      have ndp : d ≠ p := (P3.ne d0).symm
      refine ⟨_, f6, lt1 (by rw [List.length_map]; omega), fun b o nb e => ?_, P6.up nD0.symm, v1, v2, v3, fs ++ [d], f1, f2, f3, by rw [upd_same, List.map_append]; rfl, ?_⟩
      · rw [upd_ne (ne_of_none e hD0)]
        exact s6 _ _ nb (B3 _ _ nb e)
      · rw [f4]
        exact Paired.snocP ⟨nd, ndp, by rw [upd_ne nd]; exact e6⟩ (_root_.L2.Paired.mapP g3 fun r d' z => ⟨z.1, z.2.1, by
          rw [upd_ne z.1]
          exact s6 _ _ z.2.1 z.2.2⟩)
  · rintro H1 ⟨s1, P1, u1, u2, u3, fs, w1, w2, w3, g1, g3⟩
    have g3 : Paired (fun (o : HO) d => d ≠ D0 ∧ d ≠ p ∧ H1 d = some o) [.dK (kvsP u1), .dK (kvsP u2), .dT (kvsS u3)] fs := g3
    obtain ⟨d1, d2, d3, rfl, x1, x2, x3⟩ := paired3 g3
    exact q _ _ _ _ _ _ _ _ s1 ⟨g1, x1.2.2, x2.2.2, x3.2.2⟩ (rt_low R w1 w2 w3) (P1.mono (by show n0 + 20 * 3 ≤ n0 + 100; omega))
end Mk

set_option Elab.async false
set_option linter.all false
set_option maxRecDepth 100000
set_option maxHeartbeats 2000000
/-! closed prices, held against the law's own -/
namespace Mk
open PySem PySem.Spec L2 PyProof.Rows

abbrev sRt : Stmt := top 48
abbrev nRt : List Str := ["_law_pot", "_law_tables_here", "_law_prices", "_law_due", "_law_closed_here", "_law_kind", "_law_price", "_law_signs_here", "_law_others", "_law_other", "_law_told", "_law_table", "_law_key"]
def scRt1 : Scope := { kind := .function, names := [(".0", .local), ("_law_table", .cell), ("dict", .globalImplicit), ("_law_pot", .cell)], isGenerator := false, isCoroutine := false }
def spRt : Sp := fun vs H Q _ => ∃ (p : Addr) (n : Nat), vs = [.ref p] ∧ Pot H p n ∧ n + 5000 < PB ∧ ∀ H', But p H H' → Q (.bl true) H'
section
variable {P : Program} {w : World} {K : PySem.W.Frag} {mg : Str → Option Value} {base : Heap}
theorem PrAt.but {C p x : Addr} {H H' : Hp} {n : Nat} {u1 u2 : PTab} {u3 : STab} (h : PrAt C H x u1 u2 u3) (B : But p H H') (P : Pot H p n) : PrAt C H' x u1 u2 u3 := by
  obtain ⟨dx, t, a, b, c, h1, h2, h3⟩ := h
  exact ⟨dx, t, a, b, c, B.at_ P h1 (fun _ _ _ z => nomatch z), B.at_ P h2 (fun _ _ _ z => nomatch z), h3.but B P⟩
theorem Paired.getP {α β : Type} {F : α → β → Prop} : ∀ {l : List α} {m : List β}, Paired F l m → ∀ {i : Nat} (h1 : i < l.length) (h2 : i < m.length), F l[i] m[i]
  | _, _, .nil, _, h, _ => absurd h (Nat.not_lt_zero _)
  | _, _, .cons a t, 0, _, _ => a
  | _, _, .cons a t, i + 1, h1, h2 => Paired.getP t (Nat.lt_of_succ_lt_succ h1) (Nat.lt_of_succ_lt_succ h2)
theorem ne_self (b : Bool) : (!decide (V.bl b = V.bl b)) = false := by simp
theorem ne_int (i : Int) : (!decide (V.int i = V.int i)) = false := by simp
theorem scRt : FnScope nRt ["_law_pot"] (defScope sRt) := ⟨rfl, rfl, rfl, by decide +kernel, rfl, by decide +kernel, by decide +kernel⟩
theorem ok_rt {f C : Addr} {fd : FuncData} (F : Fun K "_law_right" "_law_right" sRt f fd) (T : Pc K C) (B : Bn mg) (O : On mg) (Dd : Dn mg) (D : Cd P w K mg base 1 "_law_dip" ["_law_pot", "_law_total"] spDip) (Sg : Cd P w K mg base 3 "_law_signs" ["_law_pot"] spLSigns) (Tb : Cd P w K mg base 3 "_law_tables" ["_law_pot", "_law_signs_here"] spLTables)
    (Ma : Cd P w K mg base 8 "_law_made" ["_law_tables_here"] (spMade C)) (Lk : Cd P w K mg base 2 "_law_closed" ["_law_tables_here"] spLcl) (Kd : Cd P w K mg base 1 "_law_kinds" ["_law_tables_here"] spKd) (Bl : Cd P w K mg base 1 "_law_is_below" ["_law_one", "_law_other"] spBl)
    (Ck : Md P w K mg base C CX0 8 "closed" ["self"] (spClosed C)) (Ic : Md P w K mg base C CX0 9 "is_closed" ["self"] (spIsClosed C)) (Am : Md P w K mg base C CX0 5 "is_at_most" ["self", "other"] (spAtMost C)) (W : Md P w K mg base C CX0 8 "with_price" ["self", "change", "price"] (spWith C)) (P4 : Pd P w K mg base C 2 "smallest" (spSmall C))
    {ge : Addr} {de : FuncData} (DE : OwnD K C ge "__eq__") (GE : FnOk P w K mg base CX0 2 ge de ["self", "other"] (spEqP K C)) (bE : Binds K de ["self", "other"] []) (nE : NeD K C)
    {ft fw : Addr} {dt dw : FuncData} (Gt : FnG P w K mg base CX0 4 ft dt ["_law_prices", "_law_tables_here"] (spTq C)) (tm : mg "_law_is_told" = some (.ref ft)) (tk : PySem.W.keepIn K (.ref ft) = true) (tb : Binds K dt ["_law_prices", "_law_tables_here"] [])
    (Gw : FnG P w K mg base CX0 9 fw dw ["_law_prices", "_law_tables_here", "_law_closed_here"] (spTw C)) (wm : mg "_law_twice_right" = some (.ref fw)) (wk : PySem.W.keepIn K (.ref fw) = true) (wb : Binds K dw ["_law_prices", "_law_tables_here", "_law_closed_here"] []) : FnG P w K mg base CX0 11 f fd ["_law_pot"] spRt := by
  obtain ⟨d1, e1, G1, m1, k1, b1⟩ := D.ex
  obtain ⟨d2, e2, G2, m2, k2, b2⟩ := Sg.ex
  obtain ⟨d3, e3, G3, m3, k3, b3⟩ := Tb.ex
  obtain ⟨d4, e4, G4, m4, k4, b4⟩ := Ma.ex
  obtain ⟨d5, e5, G5, m5, k5, b5⟩ := Lk.ex
  obtain ⟨d6, e6, G6, m6, k6, b6⟩ := Kd.ex
  obtain ⟨d7, e7, G7, m7, k7, b7⟩ := Bl.ex
  obtain ⟨gc, dc, Mc, Gc, bc⟩ := Ck.ex
  obtain ⟨gi, di, Mi, Gi, bi⟩ := Ic.ex
  obtain ⟨ga, da, Mm, Ga, ba⟩ := Am.ex
  obtain ⟨gp, dp, Mp, Gp, bp⟩ := W.ex
  obtain ⟨p4, g4, f4, O4, G8, b8⟩ := P4.ex
  refine Fun_okG F scRt (fun vs H Q E h => ?_) (fun cdv A outer s H vs Q E hr gd h => ?_)
  · obtain ⟨p, n, rfl, _⟩ := h
    rfl
  · obtain ⟨p, n, rfl, hp, hn, q⟩ := h
    have r1 : Room 1 _ := hr.mono (by decide)
    have r2 : Room 2 _ := hr.mono (by decide)
    have r3 : Room 3 _ := hr.mono (by decide)
    have r4 : Room 4 _ := hr.mono (by decide)
    have r5 : Room 5 _ := hr.mono (by decide)
    have r8 : Room 8 _ := hr.mono (by decide)
    have r9 : Room 9 _ := hr.mono (by decide)
    have hu := hu_of hr
    have hu8 : A.units + 3 + 8 < cLine := by
      have h2 : A.units + 3 + 16 * 10 + 200 < cLine := hr.un
      omega
    refine ⟨_, pss_cons (ps_set (i := 1) scRt.nd rfl (.inl rfl) (pe_call G3 r3 (by rfl) m3 k3 b3 .nil pass0 (pa_cons (pv 0) (pa_cons (pe_call G2 r3 (by rfl) m2 k2 b2 .nil pass0 (pa_cons (pv 0) pa_nil)) pa_nil))))
      (pss_cons (ps_par (i := 2) (j := 3) rfl scRt.nd rfl rfl (by decide) rfl rfl (pa_cons (pe_call G4 r8 (by rfl) m4 k4 b4 .nil pass0 (pa_cons (pv 1) pa_nil)) (pa_cons (pe_call G5 r2 (by rfl) m5 k5 b5 .nil pass0 (pa_cons (pv 1) pa_nil)) pa_nil)) (by rfl))
      (pss_cons (ps_set (i := 4) scRt.nd rfl (.inl rfl) (pe_meth0 (pv 2) T.cl Mc Gc r8 bc .nil pass0))
      (pss_cons (ps_if (PW.pt (pw_or (pt_not (pt_val (pe_callG Gt r4 gd (by rfl) tm tk tb pass0 (pa_cons (pv 4) (pa_cons (pv 3) pa_nil))))) (pw_or (pt_not (pt_val (pe_callG Gt r4 gd (by rfl) tm tk tb pass0 (pa_cons (pv 2) (pa_cons (pv 1) pa_nil))))) (pw_or1 (pt_cmpR op_isnot_bl (pe_meth0 (pv 4) T.cl Mi Gi r9 bi .nil pass0) pe_bl (nomark _)))))) (pss_one (ps_ret pe_bl)) pss_nil)
      (pss_cons (ps_if (PW.pt (pw_or (pt_cmpR op_ne (pe_meth0 (pv 2) T.cl Mi Gi r9 bi .nil pass0) (pe_cmpR (op_eq3 hu8) (pv 1) (pv 3) (nomark _)) (nomark _)) (pw_or (pt_cmpR (op_ne_own (n := 2) ⟨ge, de, DE, GE, bE⟩ nE r3) (pe_meth0 (pv 4) T.cl Mc Gc r8 bc .nil pass0) (pv 4) (nomark _)) (pw_or1 (pt_cmpR op_ne (pe_prop (pv 4) T.cl O4 G8 r3 b8 .nil pass0 rfl) (pe_prop (pv 2) T.cl O4 G8 r3 b8 .nil pass0 rfl) (nomark _)))))) (pss_one (ps_ret pe_bl)) pss_nil)
      (pss_cons (ps_for PassesOwn.never rfl (pi_list (pe_call G6 r1 (by rfl) m6 k6 b6 .nil pass0 (pa_cons (pv 3) pa_nil))) (pg_tup rfl (pgs_cons (pg_name (i := 5) scRt.nd rfl (.inl rfl)) (pgs_cons (pg_name (i := 6) scRt.nd rfl (.inl rfl)) pgs_nil)))
        (pss_one (ps_if (pt_cmpR (op_ne_own (n := 2) ⟨ge, de, DE, GE, bE⟩ nE r3) (pe_meth0 (pe_meth (pv 2) T.cl Mp Gp r8 bp .nil pass0 (pa_cons (pv 5) (pa_cons (pv 6) pa_nil))) T.cl Mc Gc r8 bc .nil pass0) (pv 4) (nomark _)) (pss_one (ps_ret pe_bl)) pss_nil)))
      (pss_cons (ps_if (PW.pt (pw_or (pt_not (pt_val (pe_meth (pv 2) T.cl Mm Ga r5 ba .nil pass0 (pa_cons (pv 4) pa_nil)))) (pw_or (pt_not (pt_val (pe_meth (pv 4) T.cl Mm Ga r5 ba .nil pass0 (pa_cons (pv 2) pa_nil)))) (pw_or1 (pt_not (pt_val (pe_callG Gw r9 gd (by rfl) wm wk wb pass0 (pa_cons (pv 2) (pa_cons (pv 1) (pa_cons (pv 3) pa_nil)))))))))) (pss_one (ps_ret pe_bl)) pss_nil)
      (pss_cons (ps_set (i := 7) scRt.nd rfl (.inl rfl) (pe_callB (call_sortedD rfl) (by rfl) O.sorted (by decide +kernel) (pa_cons (pe_ix ix_list (pv 1) pe_int (fun _ _ => rfl)) pa_nil)))
      (pss_cons (ps_set (i := 8) scRt.nd rfl (.inl rfl) (pe_call G3 r3 (by rfl) m3 k3 b3 .nil pass0 (pa_cons (pv 0) (pa_cons (pe_ifExp (pt_cmpR op_gt (pe_call G1 r1 (by rfl) m1 k1 b1 .nil pass0 (pa_cons (pv 0) (pa_cons pe_int pa_nil))) pe_int (nomark _)) (pv 7) (pe_call G2 r3 (by rfl) m2 k2 b2 .nil pass0 (pa_cons (pv 0) pa_nil))) pa_nil))))
      (pss_cons (ps_if (pt_cmpR op_eq (pe_call G1 r1 (by rfl) m1 k1 b1 .nil pass0 (pa_cons (pv 0) (pa_cons pe_int pa_nil))) pe_int (nomark _)) (pss_one (ps_weak (t' := tAsg tMin (gName 8)) (ps_setLc (i := 8) (own := [("_law_table", 11)]) (g := gName 11) (tt := tYes) rfl scRt.nd rfl rfl rfl (pi_list (pv 1)) (blkOk_by (N := nRt) (sc := defScope sRt) (by decide +kernel))
          (fun _ _ _ _ _ => pg_name (i := 11) scRt.nd rfl (Or.inr rfl)) (fun _ _ _ _ _ => pts_nil)
          (fun _ _ _ _ _ => pe_callTy (call_dict2 K rfl hu8) (by rfl) Dd.dict (by decide +kernel) (pa_cons (pe_lock (pe_lc (own := [("_law_key", 12)]) (g := gName 12) (tt := tYes) (wi := iKeys (tVar 11)) rfl scRt.nd (pi_keys (pv 11)) (blkOk_by (N := nRt) (sc := scRt1) (by decide +kernel))
            (fun _ _ _ _ _ => pg_name (i := 12) scRt.nd rfl (Or.inl rfl)) (fun _ _ _ _ _ => pts_nil)
            (fun _ _ _ _ _ => pe_tup (pa_cons (pv 12) (pa_cons (pe_callB (call_min2 rfl) (by rfl) B.min (by decide +kernel) (pa_cons pe_int (pa_cons (pe_op op_add (pe_dget hu (pv 11) (pv 12) (fun _ _ => rfl)) (pe_call G1 r1 (by rfl) m1 k1 b1 .nil pass0 (pa_cons (pv 0) (pa_cons pe_int pa_nil)))) pa_nil))) pa_nil))))) pa_nil))) ?_)) pss_nil)
      (pss_cons (ps_par (i := 9) (j := 10) rfl scRt.nd rfl rfl (by decide) rfl rfl (pa_cons (pe_call G4 r8 (by rfl) m4 k4 b4 .nil pass0 (pa_cons (pv 8) pa_nil)) (pa_cons (pe_call G5 r2 (by rfl) m5 k5 b5 .nil pass0 (pa_cons (pv 8) pa_nil)) pa_nil)) (by rfl))
      (pss_cons (ps_if (PW.pt (pw_or (pt_cmpR op_ne (pe_meth (pv 2) T.cl Mm Ga r5 ba .nil pass0 (pa_cons (pv 9) pa_nil)) (pe_call G7 r1 (by rfl) m7 k7 b7 .nil pass0 (pa_cons (pv 3) (pa_cons (pv 10) pa_nil))) (nomark _)) (pw_or1 (pt_cmpR op_ne (pe_meth (pv 9) T.cl Mm Ga r5 ba .nil pass0 (pa_cons (pv 2) pa_nil)) (pe_call G7 r1 (by rfl) m7 k7 b7 .nil pass0 (pa_cons (pv 10) (pa_cons (pv 3) pa_nil))) (nomark _))))) (pss_one (ps_ret pe_bl)) pss_nil)
      (pss_one (ps_ret (pe_callG Gt r4 gd (by rfl) tm tk tb pass0 (pa_cons (pe_meth0 (pv 2) T.cl Mc Gc r8 bc .nil pass0) (pa_cons (pv 3) pa_nil)))))))))))))))), ?_⟩
    · exact fun D σ H1 h => min_w K D σ H1 h
    · have lt1 : ∀ {n : Nat}, n ≤ 1000 → n < sizeLine := fun h1 => by rw [sizeLine_eq]; omega
      have fc : ∀ t a b c : Addr, List.lookup ("closed" : Str) (fldP t a b c) = none := fld_no (by decide +kernel) (by decide +kernel) (by decide +kernel) (by decide +kernel)
      have fi : ∀ t a b c : Addr, List.lookup ("is_closed" : Str) (fldP t a b c) = none := fld_no (by decide +kernel) (by decide +kernel) (by decide +kernel) (by decide +kernel)
      have fa : ∀ t a b c : Addr, List.lookup ("is_at_most" : Str) (fldP t a b c) = none := fld_no (by decide +kernel) (by decide +kernel) (by decide +kernel) (by decide +kernel)
      have fp : ∀ t a b c : Addr, List.lookup ("with_price" : Str) (fldP t a b c) = none := fld_no (by decide +kernel) (by decide +kernel) (by decide +kernel) (by decide +kernel)
      refine ⟨_, rfl, _, rfl, p, n, rfl, hp, by omega, fun H1 S zs b1' S0 hS sg P1 => ?_⟩
      refine ⟨p, S, n + 6, zs, rfl, P1, by omega, hS, sg, fun H2 L a b c t1 t2 t3 b2' hL hT R P2 => ?_⟩
      have b12 := b1'.trans b2'
      have r : Rec H2 L a b c t1 t2 t3 := ⟨hL, hT⟩
      refine ⟨_, rfl, L, a, b, c, t1, t2, t3, rfl, r, R, fun H3 x u1 u2 u3 s3 x0 px pu1 pu2 pu3 sru => ?_⟩
      refine ⟨_, rfl, L, a, b, c, t1, t2, t3, rfl, r.same s3, R, fun H4 M d e g r1 r2 r3' cf s4 M0 rM W' d0 e0 g0 => ⟨_, _, rfl, ?_⟩⟩
      have ad : a ≠ d := ne_of_none (r.same s3).t.p d0
      have be : b ≠ e := ne_of_none (r.same s3).t.o e0
      have cg : c ≠ g := ne_of_none (r.same s3).t.s g0
      have s34 := Same.trans s3 s4
      have r := r.same s34
      have px := px.same s4
      have B4 : But p H H4 := b12.same s34
      have P4 := pot_same s34 P2
      have rtu := R.perm pu1 pu2 pu3
      have Wu : CtW u1 u2 u3 r1 r2 r3' cf := W'.order R pu1 pu2 pu3
      have Rr := W'.rt R
      clear P2 P1 b12 b1' b2' hL hT s34 s4 s3 x0 d0 e0 g0 M0 hS
      obtain ⟨dx, tx, ax, bx, cx, hx0, _, _⟩ := id px
      refine ⟨_, rfl, x, dx, _, rfl, hx0, fc _ _ _ _, x, u1, u2, u3, rfl, px, rtu, sru, fun H5 y v1 v2 v3 c2 s5 y0 py Wy sry => ?_⟩
      obtain ⟨q1, q2, q3⟩ := Wy.uniq Wu
      have Rv := Wy.rt rtu
      have Vy : CtW v1 v2 v3 r1 r2 r3' c2 := (Wy.self rtu).perm q1.symm q2.symm q3.symm
      have B5 := B4.same s5
      have P5 := pot_same s5 P4
      have r := r.same s5
      have px := px.same s5
      have rM := rM.same s5
      have hx0 := s5 _ _ hx0
      clear B4 P4 s5 y0
      obtain ⟨dy, ty, ay, by_, cy, hy0, _, _⟩ := id py
      -- told
      refine ⟨_, rfl, _, rfl, y, M, d, e, g, r1, r2, r3', v1, v2, v3, rfl, py, sry, Rv, rM, q1, q2, q3, fun H6 s6 => ⟨_, rfl, iteF ?_⟩⟩
      refine ⟨_, rfl, _, rfl, x, L, a, b, c, t1, t2, t3, u1, u2, u3, rfl, px.same s6, sru, rtu, r.same s6, pu1, pu2, pu3, fun H7 s7' => ⟨_, rfl, iteF ?_⟩⟩
      have s7 := Same.trans s6 s7'
      refine ⟨_, rfl, y, dy, _, rfl, s7 _ _ hy0, fi _ _ _ _, y, v1, v2, v3, rfl, py.same s7, Rv, sry, fun H8 z1 z2 z3 c3 s8' W3 => ?_⟩
      have e8 : sameT v1 v2 v3 z1 z2 z3 = true := by
        obtain ⟨p1, p2, p3⟩ := W3.uniq (Wy.self rtu)
        exact same_T Rv p1 p2 p3
      rw [e8]
      refine ⟨_, _, rfl, rfl, _, rfl, iteF ?_⟩
      have s8 := Same.trans s7 s8'
      -- closed or not
      refine ⟨_, rfl, x, dx, _, rfl, s8 _ _ hx0, fi _ _ _ _, x, u1, u2, u3, rfl, px.same s8, rtu, sru, fun H9 z1 z2 z3 c3 s9' W3 => ?_⟩
      have s9 := Same.trans s8 s9'
      have e9 : sameT u1 u2 u3 z1 z2 z3 = sameT t1 t2 t3 r1 r2 r3' := by
        obtain ⟨p1, p2, p3⟩ := W3.uniq Wu
        exact sameT_congr (W3.rt rtu) pu1 pu2 pu3 p1 p2 p3
      rw [e9]
      refine ⟨_, rfl, _, rfl, L, a, b, c, M, d, e, g, t1, t2, t3, r1, r2, r3', rfl, rfl, r.same s9, rM.same s9, ad, be, cg, rfl, ?_⟩
      rw [ne_self]
      refine ⟨_, rfl, iteF ?_⟩
      refine ⟨_, rfl, y, dy, _, rfl, s9 _ _ hy0, fc _ _ _ _, y, v1, v2, v3, rfl, py.same s9, Rv, sry, fun H10 z z1 z2 z3 c3 s10' z0 pz Wz sz => ?_⟩
      have s10 := Same.trans s9 s10'
      obtain ⟨dz, tz, az, bz, cz, hz0, _, _⟩ := id pz
      have e10 : (sameKV (kvsP z1) (kvsP v1) && (sameKV (kvsP z2) (kvsP v2) && sameKV (kvsS z3) (kvsS v3))) = true := by
        obtain ⟨p1, p2, p3⟩ := Wz.uniq (Wy.self rtu)
        exact same_T (Wz.rt Rv) p1.symm p2.symm p3.symm
      refine ⟨_, rfl, z, dz, _, rfl, hz0, .ins (s10 _ _ hy0), z, .ref y, z1, z2, z3, rfl, pz, .inl ⟨y, v1, v2, v3, rfl, py.same s10, _, rfl, ?_⟩⟩
      rw [e10]
      refine ⟨_, rfl, iteF ?_⟩
      have ne1 : v1 ≠ [] := Rv.bds.ne
      have ne2 : ∀ {t1 t2 : PTab} {t3 : STab}, RtT t1 t2 t3 → t2 ≠ [] := fun {t1 t2 t3} R z => by
        have h := R.ag.pm.length_eq
        rw [z, List.length_map, List.length_map] at h
        exact R.bds.ne (List.eq_nil_of_length_eq_zero h.symm)
      refine ⟨_, rfl, y, dy, _, rfl, s10 _ _ hy0, y, v1, v2, v3, rfl, py.same s10, ne1, ne2 Rv, fun p hp => (Rv.bds.b1 p hp).2, fun H11 m1' s11' lm1 => ?_⟩
      have s11 := Same.trans s10 s11'
      refine ⟨_, rfl, x, dx, _, rfl, s11 _ _ hx0, x, u1, u2, u3, rfl, px.same s11, rtu.bds.ne, ne2 rtu, fun p hp => (rtu.bds.b1 p hp).2, fun H12 m2' s12' lm2 => ⟨rfl, ?_⟩⟩
      have em := Wy.least rtu lm2 lm1
      subst em
      rw [ne_int]
      refine ⟨_, rfl, iteF ?_⟩
      have s12 := Same.trans s11 s12'
      have B12 := B5.same s12
      have P12 := pot_same s12 P5
      have r := r.same s12
      have px := px.same s12
      have py := py.same s12
      have rM := rM.same s12
      have hx0 := s12 _ _ hx0
      have hy0 := s12 _ _ hy0
      clear s6 s7 s7' s8 s8' s9 s9' s10 s10' s11 s11' s12 s12' e8 e9 e10 W3 Wz pz sz hz0 z0 lm1 lm2 B5 P5
      -- kinds
      refine ⟨_, rfl, M, d, e, g, r1, r2, r3', rfl, rM, Rr, fun H13 l ks s13 l0 hkn lks kn => ?_⟩
      obtain ⟨ts, el, pts⟩ := hkn
      have lts : ts.length = ks.length := Paired.length pts
      refine ⟨l, rfl, ⟨_, SqL.of el⟩, for_it (walk_list (K := K) (a := l) (xs := ts.map V.ref)) (fun i σ H14 => (∃ o5 o6, σ = [some (.ref p), some (.ref L), some (.ref x), some (.ref M), some (.ref y), o5, o6, none, none, none, none, none, none]) ∧ Same H13 H14) ⟨⟨_, _, rfl⟩, fun _ _ e => e⟩ (fun i σ H14 _ h => SqL.of (h.2 _ _ el)) ?_ ?_⟩
      · rintro i z σ H0 H14 hi ⟨⟨o5, o6, rfl⟩, s14⟩ ⟨rfl, hz⟩
        rw [List.length_map] at hi
        have ez : z = V.ref ts[i] := by
          rw [List.getElem?_map, List.getElem?_eq_getElem hi] at hz
          exact (Option.some.inj hz).symm
        subst ez
        obtain ⟨k, ek1, ek2⟩ := Paired.getP pts hi (by omega : i < ks.length)
        have hq := kn _ (List.getElem_mem (by omega : i < ks.length))
        obtain ⟨w1, w2, w3, deed, Rw, Ww⟩ := kn_step Wu rtu hq
        have sA := Same.trans s13 s14
        refine ⟨_, _, rfl, SqT.of (s14 _ _ ek1), rfl, _, _, rfl, _, _, rfl, rfl, ?_⟩
        refine ⟨_, rfl, x, dx, _, rfl, sA _ _ hx0, fp _ _ _ _, _, rfl, _, rfl, x, k, .int ks[i].2, ks[i].1, u1, u2, u3, w1, w2, w3, rfl, px.same sA, s14 _ _ ek2, rtu.ag, rtu.nd, rtu.rt, sru, deed, fun H15 y' a1 a2 a3 s15 y0' py' pa1 pa2 pa3 sra => ?_⟩
        obtain ⟨dy', ty', ay', by', cy', hy', _, _⟩ := id py'
        have Ra := Rw.perm pa1 pa2 pa3
        refine ⟨y', dy', _, rfl, hy', fc _ _ _ _, y', a1, a2, a3, rfl, py', Ra, sra, fun H16 z z1 z2 z3 c3 s16 z0 pz Wz sz => ?_⟩
        obtain ⟨dz, tz, az, bz, cz, hz0, _, _⟩ := id pz
        have sB := Same.trans s15 s16
        have sC := Same.trans sA sB
        have e10 : (sameKV (kvsP z1) (kvsP v1) && (sameKV (kvsP z2) (kvsP v2) && sameKV (kvsS z3) (kvsS v3))) = true := by
          obtain ⟨p1, p2, p3⟩ := Wz.uniq (Ww.order Rw pa1 pa2 pa3)
          exact same_T (Wz.rt Ra) (q1.trans p1.symm) (q2.trans p2.symm) (q3.trans p3.symm)
        refine ⟨_, rfl, z, dz, _, rfl, hz0, .ins (sC _ _ hy0), z, .ref y, z1, z2, z3, rfl, pz, .inl ⟨y, v1, v2, v3, rfl, py.same sC, _, rfl, ?_⟩⟩
        rw [e10]
        exact ⟨_, rfl, iteF ⟨⟨_, _, rfl⟩, Same.trans s14 sB⟩⟩
      rintro σ H14 ⟨⟨o5, o6, rfl⟩, s14⟩
      have sA := Same.trans s13 s14
      -- no greater
      refine ⟨_, rfl, x, dx, _, rfl, sA _ _ hx0, fa _ _ _ _, _, rfl, x, y, u1, u2, u3, v1, v2, v3, rfl, px.same sA, rtu, sru, py.same sA, Rv, sry, fun H15 z15 s15 h15 => ?_⟩
      rw [h15.mpr (atm_self rtu Rv sru sry Wu Vy)]
      refine ⟨_, rfl, iteF ?_⟩
      have sB := Same.trans sA s15
      refine ⟨_, rfl, y, dy, _, rfl, sB _ _ hy0, fa _ _ _ _, _, rfl, y, x, v1, v2, v3, u1, u2, u3, rfl, py.same sB, Rv, sry, px.same sB, rtu, sru, fun H16 z16 s16 h16 => ?_⟩
      rw [h16.mpr (atm_self Rv rtu sry sru Vy Wu)]
      refine ⟨_, rfl, iteF ?_⟩
      have sC := Same.trans sB s16
      refine ⟨_, rfl, _, rfl, _, rfl, x, L, a, b, c, M, d, e, g, t1, t2, t3, u1, u2, u3, r1, r2, r3', cf, rfl, px.same sC, sru, r.same sC, R, pu1, pu2, pu3, rM.same sC, W', fun H17 s17 => ⟨_, rfl, iteF ?_⟩⟩
      have sD := Same.trans sC s17
      have B17 := B12.same sD
      have P17 := pot_same sD P12
      have r := r.same sD
      have px := px.same sD
      have rM := rM.same sD
      have hx0 := sD _ _ hx0
      clear sA sB sC sD s13 s14 s15 s16 s17 el pts kn l0 py hy0 h15 h16 B12 P12
      -- others
      have hl1 := R.ag.l1
      refine ⟨_, rfl, L, _, _, _, rfl, rfl, SqL.of r.l, atI_nat (j := 0) rfl, a, kvsP t1, t1.map (·.1), rfl, .inl r.t.p, kvsP_keys t1, by rw [List.length_map]; omega, fun ys S' pys so hS' => ?_⟩
      have s18 := Same.new (o := .lst (ys.map V.str)) hS'
      have eS : (upd H17 S' (.lst (ys.map V.str))) S' = some (.lst (ys.map V.str)) := upd_same
      have sgy : SgL ys := ⟨fun z => by
          rw [z] at pys
          have h := pys.length_eq
          rw [List.length_map] at h
          exact R.bds.ne (List.eq_nil_of_length_eq_zero h.symm), by rw [pys.length_eq, List.length_map]; exact hl1, fun z hz => by
          obtain ⟨w, hw, e⟩ := List.mem_map.mp (pys.mem_iff.mp hz)
          rw [← e]
          exact R.ag.sg w hw, pys.nodup_iff.mpr R.ag.nd, so⟩
      have B18 := B17.same s18
      have P18 := pot_same s18 P17
      have r := r.same s18
      have px := px.same s18
      have rM := rM.same s18
      have hx0 := s18 _ _ hx0
      generalize upd H17 S' (.lst (ys.map V.str)) = H18 at eS B18 P18 r px rM hx0 ⊢
      clear s18 hS' B17 P17
      refine ⟨_, rfl, _, rfl, p, _, 4, rfl, P18, by omega, by decide, by decide, fun H19 k b19 fr19 P19 k0 k4 => ⟨_, _, rfl, rfl, _, rfl, ?_⟩⟩
      have eS := b19.at_ P18 eS strs_not
      have B19 := B18.trans b19
      have r := r.but b19 P18
      have px := px.but b19 P18
      have rM := rM.but b19 P18
      have hx0 := b19.at_ P18 hx0 (fun _ _ _ z => nomatch z)
      clear b19 B18 P18 fr19
      apply by_wayA (fun S2 H20 => But p H H20 ∧ Pot H20 p (n + 200) ∧ PrAt C H20 x u1 u2 u3 ∧ Rec H20 L a b c t1 t2 t3 ∧ Rec H20 M d e g r1 r2 r3' ∧ ∃ zs : List Str, H20 S2 = some (.lst (zs.map V.str)) ∧ SgL zs)
      · intro hX
        by_cases ck : (0 : Int) < k
        case neg =>
          rw [decide_eq_false ck]
          exact iteF ⟨_, rfl, p, _, rfl, P19, by omega, fun H20 S2 zs b20 S20 eS2 sg2 P20 => hX S2 H20 ⟨B19.trans b20, P20.mono (by omega), px.but b20 P19, r.but b20 P19, rM.but b20 P19, zs, eS2, sg2⟩⟩
        case pos =>
          rw [decide_eq_true ck]
          exact iteT ⟨_, rfl, hX S' H19 ⟨B19, P19.mono (by omega), px, r, rM, ys, eS, sgy⟩⟩
      clear eS B19 P19 r px rM hx0 so sgy pys
      rintro S2 H20 ⟨B20, P20, px, r, rM, zs2, eS2, sg2⟩
      refine ⟨p, S2, _, zs2, rfl, P20, by omega, eS2, sg2, fun H21 L2 a2 b2 c4 w1 w2 w3 b21 hL2 hT2 R2 P21 => ?_⟩
      have rr2 : Rec H21 L2 a2 b2 c4 w1 w2 w3 := ⟨hL2, hT2⟩
      refine ⟨_, rfl, p, _, 2, rfl, P21, by omega, by decide, by decide, fun H22 k' b22 fr22 P22 k0' k2' => ⟨rfl, _, rfl, ?_⟩⟩
      have b212 := b21.trans b22
      have B22 := B20.trans b212
      have px := px.but b212 P20
      have r := r.but b212 P20
      have rM := rM.but b212 P20
      have rr2 := rr2.but b22 P21
      apply by_wayA (fun Ld H23 => But p H H23 ∧ PrAt C H23 x u1 u2 u3 ∧ Rec H23 M d e g r1 r2 r3' ∧ ∃ (a b c : Addr) (w1 w2 : PTab) (w3 : STab), Rec H23 Ld a b c w1 w2 w3 ∧ RtT w1 w2 w3)
      · intro hX
        cases ck : decide (V.int k' = V.int 0) with
        | true => exact iteT ⟨p, L, a, b, c, _, t1, t2, t3, _, _, _, _, _, _, _, _, _, _, _, rfl, r, R, P22, by omega, fun H23 Ld d3 e3 g3 y1 y2 y3 b23 r23 R23 P23 => hX Ld H23 ⟨B22.trans b23, px.but b23 P22, rM.but b23 P22, d3, e3, g3, y1, y2, y3, r23, R23⟩⟩
        | false => exact iteF (hX L2 H22 ⟨B22, px, rM, a2, b2, c4, w1, w2, w3, rr2, R2⟩)
      clear eS2 B20 P20 r px rM b212 b21 b22 fr22 hL2 hT2 rr2 P21 P22 B22 R2
      rintro Ld H23 ⟨B23, px, rM, a2, b2, c4, w1, w2, w3, rd, Rd⟩
      refine ⟨_, rfl, Ld, a2, b2, c4, w1, w2, w3, rfl, rd, Rd, fun H24 x' y1 y2 y3 s24 x0' px' pp1 pp2 pp3 srx => ?_⟩
      refine ⟨_, rfl, Ld, a2, b2, c4, w1, w2, w3, rfl, rd.same s24, Rd, fun H25 M' d' e' g' z1 z2 z3 cg' s25 M0' rM' V' d0' e0' g0' => ⟨_, _, rfl, ?_⟩⟩
      have rM := rM.same s24
      have dd' : d ≠ d' := ne_of_none rM.t.p d0'
      have ee' : e ≠ e' := ne_of_none rM.t.o e0'
      have gg' : g ≠ g' := ne_of_none rM.t.s g0'
      have rM := rM.same s25
      have px' := px'.same s25
      have px := px.same (Same.trans s24 s25)
      have B25 := B23.same (Same.trans s24 s25)
      clear s24 s25 rd B23 d0' e0' g0' M0' x0'
      have Ry := Rd.perm pp1 pp2 pp3
      have Rz := V'.rt Rd
      have V := V'.order Rd pp1 pp2 pp3
      obtain ⟨dx, tx, ax, bx, cx, hx0, _, _⟩ := id px
      obtain ⟨dy, ty, ay, by_, cy, hy0, _, _⟩ := id px'
      refine ⟨_, rfl, x, dx, _, rfl, hx0, fa _ _ _ _, _, rfl, x, x', u1, u2, u3, y1, y2, y3, rfl, px, rtu, sru, px', Ry, srx, fun H26 k1 s26 h26 => ?_⟩
      refine ⟨_, rfl, _, rfl, M, d, e, g, M', d', e', g', r1, r2, r3', z1, z2, z3, rfl, rM.same s26, Rr, rM'.same s26, Rz, sub_pairs W' V', dd', ee', gg', fun H27 k2 s27' h27 => ⟨rfl, ?_⟩⟩
      have s27 := Same.trans s26 s27'
      have ek : k1 = k2 := by
        rw [Bool.eq_iff_iff, h26, h27]
        exact atm_blw rtu Ry sru srx Wu V
      subst ek
      rw [ne_self]
      refine ⟨_, rfl, iteF ?_⟩
      refine ⟨_, rfl, x', dy, _, rfl, s27 _ _ hy0, fa _ _ _ _, _, rfl, x', x, y1, y2, y3, u1, u2, u3, rfl, px'.same s27, Ry, srx, px.same s27, rtu, sru, fun H28 k1' s28' h28 => ?_⟩
      have s28 := Same.trans s27 s28'
      refine ⟨_, rfl, _, rfl, M', d', e', g', M, d, e, g, z1, z2, z3, r1, r2, r3', rfl, rM'.same s28, Rz, rM.same s28, Rr, sub_pairs V' W', dd'.symm, ee'.symm, gg'.symm, fun H29 k2 s29' h29 => ⟨rfl, ?_⟩⟩
      have s29 := Same.trans s28 s29'
      have ek : k1' = k2 := by
        rw [Bool.eq_iff_iff, h28, h29]
        exact atm_blw Ry rtu srx sru V Wu
      subst ek
      rw [ne_self]
      refine ⟨_, rfl, iteF ?_⟩
      refine ⟨_, rfl, x, dx, _, rfl, s29 _ _ hx0, fc _ _ _ _, x, u1, u2, u3, rfl, px.same s29, rtu, sru, fun H30 z m1 m2 m3 c3 s30 z0 pz Wz sz => ?_⟩
      obtain ⟨p1, p2, p3⟩ := Wz.uniq Wu
      have s30 := Same.trans s29 s30
      exact ⟨_, rfl, z, M, d, e, g, r1, r2, r3', m1, m2, m3, rfl, pz, sz, Wz.rt rtu, rM.same s30, p1, p2, p3, fun H31 s31 => q _ (B25.same (Same.trans s30 s31))⟩
end
end Mk

set_option Elab.async false
set_option linter.all false
set_option maxRecDepth 100000
set_option maxHeartbeats 2000000
/-! prices written out -/
namespace Mk
open PySem PySem.Spec L2 PyProof.Rows

abbrev slw1 : PTab := [("a", 9), ("b", 1)]
abbrev slw2 : PTab := [("a", 2), ("b", 9)]
abbrev slw3 : STab := [(("b", "a"), 1)]
abbrev slr1 : PTab := [("a", 2), ("b", 1)]
abbrev slr2 : PTab := [("a", 2), ("b", 3)]
abbrev slr3 : STab := [(("a", "b"), 3), (("b", "a"), 1)]
abbrev chn1 : PTab := [("a", 1), ("b", 9), ("c", 9), ("d", 9), ("e", 9)]
abbrev chn2 : PTab := [("a", 9), ("b", 9), ("c", 9), ("d", 9), ("e", 1)]
abbrev chn3 : STab := [(("a", "b"), 1), (("b", "c"), 1), (("c", "d"), 1), (("d", "e"), 1)]
theorem slw_1 : tabP (slw1.map (·.1)) (cc slw1 slw2 slw3 "") = slr1 := by decide +kernel
theorem slw_2 : tabP (slw1.map (·.1)) (fun z => cc slw1 slw2 slw3 z "") = slr2 := by decide +kernel
theorem slw_3 : tabS (pairsOf (slw1.map (·.1))) (cc slw1 slw2 slw3) = slr3 := by decide +kernel
theorem chn_1 : cc chn1 chn2 chn3 "" "e" = 5 := by decide +kernel
theorem chn_2 : cc chn1 chn2 chn3 "a" "" = 5 := by decide +kernel
theorem chn_3 : cc chn1 chn2 chn3 "e" "d" = 5 := by decide +kernel
theorem chn_4 : cc chn1 chn2 chn3 "a" "e" = 4 := by decide +kernel
theorem rt_slw : RtT slw1 slw2 slw3 := ⟨⟨by decide +kernel, by decide +kernel, by decide +kernel, .refl _, by decide +kernel, by decide +kernel⟩, by decide +kernel, by decide +kernel⟩
theorem rt_chn : RtT chn1 chn2 chn3 := ⟨⟨by decide +kernel, by decide +kernel, by decide +kernel, .refl _, by decide +kernel, by decide +kernel⟩, by decide +kernel, by decide +kernel⟩
theorem ct_slw : CtW slw1 slw2 slw3 slr1 slr2 slr3 (cc slw1 slw2 slw3) := by
  have h := ct_of rt_slw
  rw [slw_1, slw_2, slw_3] at h
  exact h
/-- a dict display with signs -/
def trP (t : PTab) : List (TE × TE) := t.map fun q => (tC (.str q.1), tC (.int q.2))
def tDS (t : PTab) : TE := fun _ H Q => ∀ H' d, Same H H' → H d = none → H' d = some (.dK (kvsP t)) → Q (.ref d) H'
theorem trP_run {σ : L2.St} {H : Hp} : ∀ (t : PTab) {R : List (V × V) → Hp → Prop}, R ((kvsP t).map fun kv => (kV kv.1, kv.2)) H → tPairs (trP t) σ H R
  | [], _, h => h
  | q :: t, R, h => trP_run t (R := fun ps H3 => R ((V.str q.1, V.int q.2) :: ps) H3) h
theorem tds_w {t : PTab} (nd : (t.map (·.1)).Nodup) (l : t.length ≤ 15) (σ : L2.St) (H : Hp) (Q : VK) (h : tDS t σ H Q) : tDisp (trP t) σ H Q := fun p hp => trP_run t ⟨upd_same, kvsP t, rfl, by rw [kvsP_len]; exact l, by
  rw [merge_P0 nd]
  refine h _ p (fun b o e => ?_) hp upd_same
  have n := ne_of_none e hp
  rw [upd_ne n, upd_ne n]
  exact e⟩
/-- a dict display with pairs of signs -/
def trS (t : STab) : List (TE × TE) := t.map fun q => (tTup (tCons (tC (.str q.1.1)) (tCons (tC (.str q.1.2)) tNil)), tC (.int q.2))
def tDST (t : STab) : TE := fun _ H Q => ∀ H' d, Same H H' → H d = none → H' d = some (.dT (kvsS t)) → Q (.ref d) H'
theorem trS_run {σ : L2.St} : ∀ (t : STab) {H : Hp} {R : List (V × V) → Hp → Prop}, (∀ H' (ks : List Row3), Same H H' → ks.map (fun k => (k.1, k.2.2)) = kvsS t → (∀ k ∈ ks, H' k.2.1 = some (.tup (k.1.map kV))) → R (ks.map fun k => (V.ref k.2.1, k.2.2)) H') → tPairs (trS t) σ H R
  | [], H, R, h => h H [] (fun _ _ e => e) rfl fun _ m => nomatch m
  | q :: t, H, R, h => ⟨(show 2 ≤ sizeLine by decide), fun p hp => trS_run t fun H' ks s ek hk => h H' ((keyOf q.1, p, V.int q.2) :: ks) (Same.trans (Same.new hp) s) (by rw [List.map_cons, ek]; rfl) fun k m => by
    rcases List.mem_cons.mp m with rfl | m
    · exact s _ _ upd_same
    · exact hk k m⟩
theorem allT_eq : ∀ (ks : List Row3) (t : STab) (u : STab), ks.map (fun k => (k.1, k.2.2)) = kvsS t → ((u ++ t).map (·.1)).Nodup → allT (kvsS u) ks = kvsS (u ++ t)
  | [], [], u, _, _ => by rw [List.append_nil]; rfl
  | [], _ :: _, _, h, _ => by cases h
  | _ :: _, [], _, h, _ => by cases h
  | k :: ks, q :: t, u, h, nd => by
    have h1 : (k.1, k.2.2) = (keyOf q.1, V.int q.2) := (List.cons.inj h).1
    have h2 : ks.map (fun k => (k.1, k.2.2)) = kvsS t := (List.cons.inj h).2
    injection h1 with e1 e2
    show allT (L2.putK (kvsS u) k.1 k.2.2) ks = _
    have nk : q.1 ∉ u.map (·.1) := fun m => by
      rw [List.map_append, List.map_cons] at nd
      exact (List.nodup_append.mp nd).2.2 _ m _ List.mem_cons_self rfl
    have e : u ++ [(q.1, q.2)] ++ t = u ++ q :: t := by simp
    rw [e1, e2, putS_new nk, allT_eq ks t _ h2 (by rw [e]; exact nd), e]
theorem tdst_w {t : STab} (nd : (t.map (·.1)).Nodup) (l : t.length ≤ 15) (σ : L2.St) (H : Hp) (Q : VK) (h : tDST t σ H Q) : tDispT (trS t) σ H Q := fun p hp => trS_run t fun H' ks s ek hk => ⟨s _ _ upd_same, ks, rfl, hk, by
  have := congrArg List.length ek
  rw [List.length_map, kvsS_len] at this
  omega, by
  rw [show allT [] ks = kvsS t from allT_eq ks t [] ek nd]
  refine h _ p (fun b o e => ?_) hp upd_same
  have n := ne_of_none e hp
  rw [upd_ne n]
  exact s _ _ (by rw [upd_ne n]; exact e)⟩
/-- prices by three such -/
def tPrc (C : Addr) (t1 t2 : PTab) (t3 : STab) : TE := fun _ H Q => ∀ H' y u1 u2 u3, Same H H' → H y = none → PrAt C H' y u1 u2 u3 → u1.Perm t1 → u2.Perm t2 → u3.Perm t3 → Srt u1 u2 u3 → Q (.ref y) H'
end Mk

set_option Elab.async false
set_option linter.all false
set_option maxRecDepth 100000
set_option maxHeartbeats 2000000
/-! the law -/
namespace Mk
open PySem PySem.Spec L2 PyProof.Rows

abbrev sLw3 : Stmt := top 49
abbrev nLw3 : List Str := ["_law_script", "_law_at", "_law_slow", "_law_chain", "_law_told"]
def spLaw (K : PySem.W.Frag) : Sp := fun vs H Q _ => ∃ (a : Addr) (ns : List Int), vs = [.ref a] ∧ SqL K H a (ns.map V.int) ∧ ns.length ≤ 63 ∧ ∀ H', Q (.bl true) H'
section
variable {P : Program} {w : World} {K : PySem.W.Frag} {mg : Str → Option Value} {base : Heap}
theorem scLw3 : FnScope nLw3 ["_law_script"] (defScope sLw3) := ⟨rfl, rfl, rfl, by decide +kernel, rfl, by decide +kernel, by decide +kernel⟩
theorem ok_law3 {f fi C fr ft : Addr} {fd fdi dr dt : FuncData} (F : Fun K "law" "law" sLw3 f fd) (T : Pc K C) (B : Bn mg) (M : L2.Mk K C fi) (FI : Fun K "__init__" "Prices.__init__" sInit fi fdi) (I : FnOk P w K mg base CX0 6 fi fdi ["self", "put", "out", "swap"] (spInit C)) (mgC : mg "Prices" = some (.ref C))
    (Fi : Cd P w K mg base 1 "_law_filled" ["_law_script", "_law_at"] (spFilled K)) (Gr : FnG P w K mg base CX0 11 fr dr ["_law_pot"] spRt) (rm : mg "_law_right" = some (.ref fr)) (rk : PySem.W.keepIn K (.ref fr) = true) (rb : Binds K dr ["_law_pot"] [])
    (Ck : Md P w K mg base C CX0 8 "closed" ["self"] (spClosed C)) (P1 : Pd P w K mg base C 2 "put" (spTabP C fun t _ => t)) (P2 : Pd P w K mg base C 2 "out" (spTabP C fun _ t => t)) (P3 : Pd P w K mg base C 2 "swap" (spTabS C))
    (Gt : FnG P w K mg base CX0 4 ft dt ["_law_prices", "_law_tables_here"] (spTq C)) (tm : mg "_law_is_told" = some (.ref ft)) (tk : PySem.W.keepIn K (.ref ft) = true) (tb : Binds K dt ["_law_prices", "_law_tables_here"] []) : FnG P w K mg base CX0 12 f fd ["_law_script"] (spLaw K) := by
  obtain ⟨a1, d1, G1, m1, k1, b1⟩ := Fi.ex
  obtain ⟨gc, dc, Mc, Gc, bc⟩ := Ck.ex
  obtain ⟨p1, g1, e1, O1, G2, c1⟩ := P1.ex
  obtain ⟨p2, g2, e2, O2, G3, c2⟩ := P2.ex
  obtain ⟨p3, g3, e3, O3, G4, c3⟩ := P3.ex
  refine Fun_okG F scLw3 (fun vs H Q E h => ?_) (fun cdv A outer s H vs Q E hr gd h => ?_)
  · obtain ⟨a, ns, rfl, _⟩ := h
    rfl
  · obtain ⟨a, ns, rfl, hS, hlen, q⟩ := h
    have r1 : Room 1 _ := hr.mono (by decide)
    have r3 : Room 3 _ := hr.mono (by decide)
    have r4 : Room 4 _ := hr.mono (by decide)
    have r7 : Room 7 _ := hr.mono (by decide)
    have r8 : Room 8 _ := hr.mono (by decide)
    have hu := hu_of hr
    have h64 : A.units + 3 + 64 < cLine := by
      have h2 : A.units + 3 + 16 * 11 + 200 < cLine := hr.un
      omega
    have mkP : ∀ {σ : L2.St} {H : Hp} {Q : VK} {t1 t2 : PTab} {t3 : STab}, RtT t1 t2 t3 → tPrc C t1 t2 t3 σ H Q → ∀ {H1 : Hp} {d1 d2 d3 : Addr}, Same H H1 → Tabs H1 d1 d2 d3 t1 t2 t3 → ∀ y dy, H1 y = none → H1 dy = none → dy ≠ y →
        spInit C [.ref y, .ref d1, .ref d2, .ref d3] (upd (upd H1 dy (.own y)) y (.ins C dy [])) (fun v H2 => v = .non ∧ Q (.ref y) H2) E0 := fun {σ H Q t1 t2 t3} R q H1 d1 d2 d3 sm tt y dy hy hdy ne => by
      have sN : Same H1 (upd (upd H1 dy (.own y)) y (.ins C dy [])) := fun b o e => by
        rw [upd_ne (ne_of_none e hy), upd_ne (ne_of_none e hdy)]
        exact e
      exact ⟨y, dy, d1, d2, d3, _, _, _, rfl, upd_same, tt.same sN, R.ag, R.nd, R.rt, fun H9 u1 u2 u3 b9 pr k1 k2 k3 sr9 => ⟨rfl, q _ y u1 u2 u3 (fun b o e => b9 _ _ (ne_of_none (sm _ _ e) hy) (sN _ _ (sm _ _ e))) (sm.free hy) pr k1 k2 k3 sr9⟩⟩
    refine ⟨_, pss_cons (ps_for PassesOwn.never rfl (pi_range1 (by rfl) B.range (pa_cons (pe_callB (call_max2 rfl) (by rfl) B.max (by decide +kernel) (pa_cons pe_int (pa_cons (pe_callB (call_min2 rfl) (by rfl) B.min (by decide +kernel) (pa_cons pe_int (pa_cons (pe_callB call_len_seq (by rfl) B.len PySem.boot_len (pa_cons (pv 0) pa_nil)) pa_nil))) pa_nil))) pa_nil)) (pg_name (i := 1) scLw3.nd rfl (.inl rfl))
        (pss_one (ps_if (pt_not (pt_val (pe_callG Gr (hr.mono (by decide)) gd (by rfl) rm rk rb pass0 (pa_cons (pe_call G1 r1 (by rfl) m1 k1 b1 .nil pass0 (pa_cons (pv 0) (pa_cons (pv 1) pa_nil))) pa_nil)))) (pss_one (ps_ret pe_bl)) pss_nil)))
      (pss_cons (ps_set (i := 2) scLw3.nd rfl (.inl rfl) (pe_weak (t' := tPrc C slw1 slw2 slw3) (pe_makeK0 M I r7 (by rfl) mgC (kbn_init FI) pass0 (pk_cons (pe_weak (t' := tDS slw1) (pe_disp (trs := trP slw1) (pps_cons pe_str pe_int (pps_cons pe_str pe_int pps_nil)) (by rfl) (by rfl) (fun z => by cases z) (by decide)) (tds_w (by decide +kernel) (by decide)))
          (pk_cons (pe_weak (t' := tDS slw2) (pe_disp (trs := trP slw2) (pps_cons pe_str pe_int (pps_cons pe_str pe_int pps_nil)) (by rfl) (by rfl) (fun z => by cases z) (by decide)) (tds_w (by decide +kernel) (by decide)))
          (pk_cons (pe_weak (t' := tDST slw3) (pe_dispT (trs := trS slw3) hu (pps_cons (pe_tup (pa_cons pe_str (pa_cons pe_str pa_nil))) pe_int pps_nil) (by rfl) (by rfl) (fun z => by cases z) (by decide)) (tdst_w (by decide +kernel) (by decide))) pk_nil)))) ?_))
      (pss_cons (ps_if (pt_not (pt_val (pe_callG Gt r4 gd (by rfl) tm tk tb pass0 (pa_cons (pe_meth0 (pv 2) T.cl Mc Gc r8 bc .nil pass0) (pa_cons (pe_lst (pa_cons (pe_weak (t' := tDS slr1) (pe_disp (trs := trP slr1) (pps_cons pe_str pe_int (pps_cons pe_str pe_int pps_nil)) (by rfl) (by rfl) (fun z => by cases z) (by decide)) (tds_w (by decide +kernel) (by decide)))
          (pa_cons (pe_weak (t' := tDS slr2) (pe_disp (trs := trP slr2) (pps_cons pe_str pe_int (pps_cons pe_str pe_int pps_nil)) (by rfl) (by rfl) (fun z => by cases z) (by decide)) (tds_w (by decide +kernel) (by decide)))
          (pa_cons (pe_weak (t' := tDST slr3) (pe_dispT (trs := trS slr3) hu (pps_cons (pe_tup (pa_cons pe_str (pa_cons pe_str pa_nil))) pe_int (pps_cons (pe_tup (pa_cons pe_str (pa_cons pe_str pa_nil))) pe_int pps_nil)) (by rfl) (by rfl) (fun z => by cases z) (by decide)) (tdst_w (by decide +kernel) (by decide))) pa_nil)))) pa_nil))))) (pss_one (ps_ret pe_bl)) pss_nil)
      (pss_cons (ps_set (i := 3) scLw3.nd rfl (.inl rfl) (pe_weak (t' := tPrc C chn1 chn2 chn3) (pe_makeK0 M I r7 (by rfl) mgC (kbn_init FI) pass0 (pk_cons (pe_weak (t' := tDS chn1) (pe_disp (trs := trP chn1) (pps_cons pe_str pe_int (pps_cons pe_str pe_int (pps_cons pe_str pe_int (pps_cons pe_str pe_int (pps_cons pe_str pe_int pps_nil))))) (by rfl) (by rfl) (fun z => by cases z) (by decide)) (tds_w (by decide +kernel) (by decide)))
          (pk_cons (pe_weak (t' := tDS chn2) (pe_disp (trs := trP chn2) (pps_cons pe_str pe_int (pps_cons pe_str pe_int (pps_cons pe_str pe_int (pps_cons pe_str pe_int (pps_cons pe_str pe_int pps_nil))))) (by rfl) (by rfl) (fun z => by cases z) (by decide)) (tds_w (by decide +kernel) (by decide)))
          (pk_cons (pe_weak (t' := tDST chn3) (pe_dispT (trs := trS chn3) hu (pps_cons (pe_tup (pa_cons pe_str (pa_cons pe_str pa_nil))) pe_int (pps_cons (pe_tup (pa_cons pe_str (pa_cons pe_str pa_nil))) pe_int (pps_cons (pe_tup (pa_cons pe_str (pa_cons pe_str pa_nil))) pe_int (pps_cons (pe_tup (pa_cons pe_str (pa_cons pe_str pa_nil))) pe_int pps_nil)))) (by rfl) (by rfl) (fun z => by cases z) (by decide)) (tdst_w (by decide +kernel) (by decide))) pk_nil)))) ?_))
      (pss_cons (ps_set (i := 4) scLw3.nd rfl (.inl rfl) (pe_meth0 (pv 3) T.cl Mc Gc r8 bc .nil pass0))
      (pss_one (ps_ret (pe_cmpR (op_eqD h64) (pe_lst (pa_cons (pe_dget hu (pe_prop (pv 4) T.cl O1 G2 r3 c1 .nil pass0 rfl) pe_str (fun _ _ => rfl)) (pa_cons (pe_dget hu (pe_prop (pv 4) T.cl O2 G3 r3 c2 .nil pass0 rfl) pe_str (fun _ _ => rfl))
          (pa_cons (pe_dget hu (pe_prop (pv 4) T.cl O3 G4 r3 c3 .nil pass0 rfl) (pe_tup (pa_cons pe_str (pa_cons pe_str pa_nil))) (fun _ _ => rfl)) (pa_cons (pe_dget hu (pe_prop (pv 4) T.cl O3 G4 r3 c3 .nil pass0 rfl) (pe_tup (pa_cons pe_str (pa_cons pe_str pa_nil))) (fun _ _ => rfl)) pa_nil)))))
          (pe_lst (pa_cons pe_int (pa_cons pe_int (pa_cons pe_int (pa_cons pe_int pa_nil))))) (nomark _)))))))), ?_⟩
    · intro σ H Q h
      refine fun H1 d1 s1 f1 e1 => fun H2 d2 s2 f2 e2 => fun H3 d3 s3 f3 e3 => ⟨rfl, rfl, fun y dy hy hdy ne => ?_⟩
      exact mkP rt_slw h (Same.trans s1 (Same.trans s2 s3)) ⟨s3 _ _ (s2 _ _ e1), s3 _ _ e2, e3⟩ y dy hy hdy ne
    · intro σ H Q h
      refine fun H1 d1 s1 f1 e1 => fun H2 d2 s2 f2 e2 => fun H3 d3 s3 f3 e3 => ⟨rfl, rfl, fun y dy hy hdy ne => ?_⟩
      exact mkP rt_chn h (Same.trans s1 (Same.trans s2 s3)) ⟨s3 _ _ (s2 _ _ e1), s3 _ _ e2, e3⟩ y dy hy hdy ne
    · have fc : ∀ t a b c : Addr, List.lookup ("closed" : Str) (fldP t a b c) = none := fld_no (by decide +kernel) (by decide +kernel) (by decide +kernel) (by decide +kernel)
      have n2 : 2 ≤ sizeLine := by decide
      have n3 : 3 ≤ sizeLine := by decide
      have n4 : 4 ≤ sizeLine := by decide
      refine ⟨_, rfl, a, _, rfl, .inl hS, 4, _, rfl, 1, _, rfl, _, rfl, ?_, ?_, ?_⟩
      · split <;> (try split) <;> omega
      · split <;> (try split) <;> omega
      have few : ∀ z : Int, (if (if z < 4 then z else 4) > 1 then (if z < 4 then z else 4) else 1).toNat ≤ 4 := fun z => by split <;> (try split) <;> omega
      have fewz := few ((ns.map V.int).length : Nat)
      refine for_range (lo := 0) (n := Int.toNat _) (fun i σ H1 => (∃ o1, σ = [some (.ref a), o1, none, none, none]) ∧ Same H H1) ⟨⟨_, rfl⟩, fun _ _ e => e⟩ ?_ ?_
      · rintro i σ H1 hi ⟨⟨o1, rfl⟩, hs⟩
        refine ⟨_, rfl, _, rfl, a, ns, i, (by show [V.ref a, V.int (0 + (i : Int))] = _; rw [Int.zero_add]), hs.seq hS, hlen, (by omega), fun H2 p s2 p0 P2 => ?_⟩
        refine ⟨p, 0, rfl, P2, (by decide), fun H3 b3 => ⟨_, rfl, iteF ⟨⟨_, rfl⟩, fun b o e => ?_⟩⟩⟩
        have e1 := hs _ _ e
        exact b3 _ _ (ne_of_none e1 p0) (s2 _ _ e1)
      · rintro σ H1 ⟨⟨o1, rfl⟩, hs⟩
        refine fun H2 x u1 u2 u3 s2 x0 px pu1 pu2 pu3 sru => ?_
        obtain ⟨dx, tx, ax, bx, cx, hx0, _, _⟩ := id px
        have rtu := rt_slw.perm pu1 pu2 pu3
        refine ⟨_, rfl, x, dx, _, rfl, hx0, fc _ _ _ _, x, u1, u2, u3, rfl, px, rtu, sru, fun H3 y v1 v2 v3 cf s3 y0 py Wy sry => ?_⟩
        obtain ⟨q1, q2, q3⟩ := Wy.uniq (ct_slw.order rt_slw pu1 pu2 pu3)
        refine fun H4 d1 s4 f4 e4 => fun H5 d2 s5 f5 e5 => fun H6 d3 s6 f6 e6 => ⟨n3, fun l hl => ?_⟩
        have sl := Same.new (o := .lst [.ref d1, .ref d2, .ref d3]) hl
        refine ⟨y, l, d1, d2, d3, slr1, slr2, slr3, v1, v2, v3, rfl, py.same (Same.trans s4 (Same.trans s5 (Same.trans s6 sl))), sry, Wy.rt rtu, ⟨upd_same, sl _ _ (s6 _ _ (s5 _ _ e4)), sl _ _ (s6 _ _ e5), sl _ _ e6⟩, q1, q2, q3, fun H7 s7 => ⟨_, rfl, iteF ?_⟩⟩
        clear px py hx0 Wy sry sru q1 q2 q3 rtu pu1 pu2 pu3 s2 s3 s4 s5 s6 sl s7 e4 e5 e6 x0 y0 f4 f5 f6 hl
        refine fun H8 x' u1 u2 u3 s2 x0 px pu1 pu2 pu3 sru => ?_
        obtain ⟨dx, tx, ax, bx, cx, hx0, _, _⟩ := id px
        have rtu := rt_chn.perm pu1 pu2 pu3
        refine ⟨_, rfl, x', dx, _, rfl, hx0, fc _ _ _ _, x', u1, u2, u3, rfl, px, rtu, sru, fun H9 y v1 v2 v3 cf s3 y0 py Wy sry => ?_⟩
        have Wc := (ct_of rt_chn).order rt_chn pu1 pu2 pu3
        have Rv := Wy.rt rtu
        have ks : ∀ z ∈ chn1.map (·.1), z ∈ u1.map (·.1) := fun z hz => (pu1.map (·.1)).mem_iff.mpr hz
        have pl : ∀ z ∈ chn1.map (·.1), z ∈ plc u1 := fun z hz => List.mem_cons_of_mem _ (ks z hz)
        have ia : ("a" : Str) ∈ chn1.map (·.1) := by decide +kernel
        have id_ : ("d" : Str) ∈ chn1.map (·.1) := by decide +kernel
        have ie : ("e" : Str) ∈ chn1.map (·.1) := by decide +kernel
        have l1 : look v1 "e" = 5 := by rw [Wy.v1 rtu (ks _ ie), Wy.cl.uniq Wc.cl em_in (pl _ ie), chn_1]
        have l2 : look v2 "a" = 5 := by rw [Wy.v2 rtu (ks _ ia), Wy.cl.uniq Wc.cl (pl _ ia) em_in, chn_2]
        have l3 : look v3 ("e", "d") = 5 := by rw [Wy.v3 rtu (ks _ ie) (ks _ id_) (by decide +kernel), Wy.cl.uniq Wc.cl (pl _ ie) (pl _ id_), chn_3]
        have l4 : look v3 ("a", "e") = 4 := by rw [Wy.v3 rtu (ks _ ia) (ks _ ie) (by decide +kernel), Wy.cl.uniq Wc.cl (pl _ ia) (pl _ ie), chn_4]
        have g1 := valP (Wy.keys1.mem_iff.mpr (ks _ ie))
        have g2 := valP (Wy.keys2.mem_iff.mpr (ks _ ia))
        have g3 := valS (k := (("e" : Str), ("d" : Str))) (Wy.keys3.mem_iff.mpr (mem_pairs.mpr ⟨ks _ ie, ks _ id_, (by decide +kernel : ("e" : Str) ≠ "d")⟩))
        have g4 := valS (k := (("a" : Str), ("e" : Str))) (Wy.keys3.mem_iff.mpr (mem_pairs.mpr ⟨ks _ ia, ks _ ie, (by decide +kernel : ("a" : Str) ≠ "e")⟩))
        rw [l1] at g1
        rw [l2] at g2
        rw [l3] at g3
        rw [l4] at g4
        have k1 := Rv.ag.l1
        have k2 := Rv.ag.l2
        have k3 := Rv.ag.l3
        have nd2 : (v2.map (·.1)).Nodup := Rv.ag.pm.nodup_iff.mpr Rv.ag.nd
        obtain ⟨dy, ty, ay, by_, cy, hy0, _, _⟩ := id py
        refine ⟨_, rfl, y, dy, _, rfl, hy0, y, v1, v2, v3, rfl, py, Rv.ag.nd, (by show v1.length ≤ 60; omega), sry, fun H10 D1 s10 f10 e10 => ⟨D1, .int 5, rfl, .inl ⟨kvsP v1, Sum.inr "e", .inl e10, rfl, g1.symm⟩, ?_⟩⟩
        refine ⟨_, rfl, y, dy, _, rfl, s10 _ _ hy0, y, v1, v2, v3, rfl, py.same s10, nd2, (by show v2.length ≤ 60; omega), sry, fun H11 D2 s11' f11 e11 => ⟨D2, .int 5, rfl, .inl ⟨kvsP v2, Sum.inr "a", .inl e11, rfl, g2.symm⟩, ?_⟩⟩
        have s11 := Same.trans s10 s11'
        refine ⟨_, rfl, y, dy, _, rfl, s11 _ _ hy0, y, v1, v2, v3, rfl, py.same s11, Rv.nd, (by omega), sry, fun H12 D3 s12' f12 e12 => ⟨n2, fun qa hqa => ⟨D3, .int 5, rfl, .inr ⟨kvsS v3, keyOf ("e", "d"), qa, .inl ((Same.new hqa) _ _ e12), rfl, upd_same, g3.symm⟩, ?_⟩⟩⟩
        have s12 := Same.trans (Same.trans s11 s12') (Same.new (o := .tup [.str "e", .str "d"]) hqa)
        refine ⟨_, rfl, y, dy, _, rfl, s12 _ _ hy0, y, v1, v2, v3, rfl, py.same s12, Rv.nd, (by omega), sry, fun H13 D4 s13' f13 e13 => ⟨n2, fun qb hqb => ⟨D4, .int 4, rfl, .inr ⟨kvsS v3, keyOf ("a", "e"), qb, .inl ((Same.new hqb) _ _ e13), rfl, upd_same, g4.symm⟩, ?_⟩⟩⟩
        refine ⟨n4, fun l hl => ⟨n4, fun m hm => ⟨.list [.int 5, .int 5, .int 5, .int 4], .list [.int 5, .int 5, .int 5, .int 4], .lst (SqL.of ((Same.new hm) _ _ upd_same)) (.cons (.int 5) (.cons (.int 5) (.cons (.int 5) (.cons (.int 4) .nil)))), .lst (SqL.of upd_same) (.cons (.int 5) (.cons (.int 5) (.cons (.int 5) (.cons (.int 4) .nil)))), by decide +kernel, by decide +kernel, ?_⟩⟩⟩
        rw [show PyData.eqv (.list [.int 5, .int 5, .int 5, .int 4]) (.list [.int 5, .int 5, .int 5, .int 4]) = true by decide +kernel]
        exact q _
end
end Mk

set_option Elab.async false
set_option linter.all false
set_option maxRecDepth 100000
set_option maxHeartbeats 4000000
namespace Mk
open PySem PySem.Spec PyProof.Rows L2

/-! ### what the top has written -/
structure Df (K : PySem.W.Frag) (x : Str) (st : Stmt) (f : Addr) : Prop where
  at_ : PySem.W.nsIn K mainGlobals x = some (some (.ref f))
  fn : ∃ fd, Fun K x x st f fd
theorem df_mk {K : PySem.W.Frag} {x : Str} {st : Stmt} {f : Addr} {oc kV doc pm cd ct : Value} {od an : Option Addr} {sl : Array (Option Value)} (a : PySem.W.nsIn K mainGlobals x = some (some (.ref f)))
    (l : K.lookup f = some ⟨oc, od, .func (PySem.W.fnOf x x (defArgs st) (defBody st) (defScope st) .none kV doc pm an cd ct), sl⟩) (c : PySem.W.codeIn K cd x = true) (k : PySem.W.keepIn K (.ref f) = true) : Df K x st f :=
  ⟨a, _, fun_mk (st := st) l c k⟩
/-- a def of the class -/
structure Mf (K : PySem.W.Frag) (C : Addr) (m qual : Str) (st : Stmt) (g : Addr) : Prop where
  find : PySem.W.findIn K (.ref C) m = some (some (.ref g))
  fun_ : PySem.W.isFn K (.ref g) = true
  fn : ∃ fd, Fun K m qual st g fd
theorem mf_mk {K : PySem.W.Frag} {C : Addr} {m qual : Str} {st : Stmt} {g : Addr} {oc kV doc pm cd ct : Value} {od an : Option Addr} {sl : Array (Option Value)} (a : PySem.W.findIn K (.ref C) m = some (some (.ref g))) (i : PySem.W.isFn K (.ref g) = true)
    (l : K.lookup g = some ⟨oc, od, .func (PySem.W.fnOf m qual (defArgs st) (defBody st) (defScope st) .none kV doc pm an cd ct), sl⟩) (c : PySem.W.codeIn K cd qual = true) (k : PySem.W.keepIn K (.ref g) = true) : Mf K C m qual st g :=
  ⟨a, i, _, fun_mk (st := st) l c k⟩
/-- a property of the class -/
structure Pf (K : PySem.W.Frag) (C : Addr) (m qual : Str) (st : Stmt) (p g : Addr) : Prop where
  of : PropOf K C m p g
  fn : ∃ fd, Fun K m qual st g fd
theorem pf_mk {K : PySem.W.Frag} {C : Addr} {m qual : Str} {st : Stmt} {p g : Addr} {rest : List Value} {oc kV doc pm cd ct : Value} {od an : Option Addr} {sl : Array (Option Value)} (a : PySem.W.findIn K (.ref C) m = some (some (.ref p)))
    (b : PySem.W.specialIn K (.ref p) "__get__" = some (some (.builtin "property.__get__"))) (t : PySem.W.takesIn K (.ref p) = some true) (r : PySem.W.recIn K p "property" = some (.ref g :: rest))
    (l : K.lookup g = some ⟨oc, od, .func (PySem.W.fnOf m qual (defArgs st) (defBody st) (defScope st) .none kV doc pm an cd ct), sl⟩) (c : PySem.W.codeIn K cd qual = true) (k : PySem.W.keepIn K (.ref g) = true) : Pf K C m qual st p g :=
  ⟨⟨a, b, t, _, r⟩, _, fun_mk (st := st) l c k⟩
theorem kit_own {K : PySem.W.Frag} {C : Addr} {T : String} (h1 : PySem.W.isClsIn K C = true) (h2 : PySem.W.typeIn K (.ref C) = some (.type "type")) (h3 : PySem.W.subIn K (.type T) (.ref C) = some false) : PySem.W.kitOne K (.type T) (.ref C) = some false := by
  have e2 : ((PySem.W.clsIn K C).isSome && PySem.W.typeIn K (.ref C) == some (.type "type")) = true := by
    have h4 : (PySem.W.clsIn K C).isSome = true := h1
    rw [h4, h2] <;> rfl
  unfold PySem.W.kitOne
  rw [if_neg (by intro z; cases z)]
  show (if ((PySem.W.clsIn K C).isSome && PySem.W.typeIn K (.ref C) == some (.type "type")) = true then PySem.W.subIn K (.type T) (.ref C) else none) = _
  rw [if_pos e2]
  exact h3
/-- an exception of the class at S is what the handler for S takes -/
theorem cat_self {K : PySem.W.Frag} {S : Addr} (sb : PySem.W.subIn K (.ref S) (.type "BaseException") = some true) (ic : PySem.W.isClsIn K S = true) (ty : PySem.W.typeIn K (.ref S) = some (.type "type")) (ss : PySem.W.subIn K (.ref S) (.ref S) = some true) : PySem.W.exmOne K (.ref S) (.ref S) = some true := by
  have e2 : ((PySem.W.clsIn K S).isSome && PySem.W.typeIn K (.ref S) == some (.type "type")) = true := by
    have h4 : (PySem.W.clsIn K S).isSome = true := ic
    rw [h4, ty] <;> rfl
  have e1 : (PySem.W.subIn K (.ref S) (.type "BaseException") == some true) = true := by
    rw [sb] <;> rfl
  unfold PySem.W.exmOne
  rw [if_pos e1]
  show (if ((PySem.W.clsIn K S).isSome && PySem.W.typeIn K (.ref S) == some (.type "type")) = true then PySem.W.subIn K (.ref S) (.ref S) else none) = _
  rw [if_pos e2]
  exact ss
theorem lg_of {mg : Str → Option Value} {h : Heap} (V : PySem.W.LooseAre [("LARGEST", PySem.W.WData.int LG)] mg h) : ∃ t, mg "LARGEST" = some (.int LG t) := by
  obtain ⟨v, e, r⟩ := V.val _ List.mem_cons_self
  cases r
  exact ⟨_, e⟩
theorem all_mk {l : PySem.W.OpenLaw} {w : World} {K : PySem.W.Frag} {h : Heap} {mg : Str → Option Value} {fa C CI fi : Addr} {f1 f2 f3 f4 f5 f6 f7 f8 f9 f10 f11 f12 f13 f14 f15 f16 f17 f18 f19 f20 f21 f22 f23 f24 f25 f26 f27 f28 f29 f30 f31 f32 f33 gK gI gA gW gT gE p1 q1 p2 q2 p3 q3 p4 q4 : Addr} (X : K.In h) (G : h.Ns mainGlobals mg) (V : PySem.W.LooseAre [("LARGEST", PySem.W.WData.int LG)] mg h) (hfa : mg "law" = some (.ref fa))
    (D1 : Df K "is_number" sIsNum f1)
    (D2 : Df K "is_number_within" sIsNumW f2)
    (D3 : Df K "check_number" sChkNum f3)
    (D4 : Df K "is_sign" sIsSign f4)
    (D5 : Df K "check_prices" sChkPr f5)
    (D6 : Df K "costs_by_ends" sByEnds f6)
    (D7 : Df K "_are_tables" sAreT f7)
    (D8 : Df K "_is_sign_table" sIsST f8)
    (D9 : Df K "_has_prices" sHasP f9)
    (D10 : Df K "_is_pair" sIsPair f10)
    (D11 : Df K "_is_kind" sIsKind f11)
    (D12 : Df K "_is_price" sIsPriceF f12)
    (D13 : Df K "ascending_dict" sAsc f13)
    (D14 : Df K "_multiplied" sMult f14)
    (D15 : Df K "_pairs" sPairs f15)
    (D16 : Df K "_law_filled" sFilled f16)
    (D17 : Df K "_law_dip" sDip f17)
    (D18 : Df K "_law_choose" sChoose f18)
    (D19 : Df K "_law_shuffled" sShuf f19)
    (D20 : Df K "_law_signs" sLSigns f20)
    (D21 : Df K "_law_tables" sLTables f21)
    (D22 : Df K "_law_made" sMade f22)
    (D23 : Df K "_least_costs" sLeast f23)
    (D24 : Df K "_direct_costs" sDirC f24)
    (D25 : Df K "_law_behind" sBeh f25)
    (D26 : Df K "_law_costs" sLq f26)
    (D27 : Df K "_law_closed" sLcl f27)
    (D28 : Df K "_law_is_told" sLTold f28)
    (D29 : Df K "_law_kinds" sKd f29)
    (D30 : Df K "_law_is_below" sBl f30)
    (D31 : Df K "_law_twice_right" sTw f31)
    (D32 : Df K "_law_right" sRt f32)
    (D33 : Df K "law" sLw3 f33)
    (z_len : PySem.W.nsIn K mainGlobals "len" = some none)
    (z_int : PySem.W.nsIn K mainGlobals "int" = some none)
    (z_abs : PySem.W.nsIn K mainGlobals "abs" = some none)
    (z_max : PySem.W.nsIn K mainGlobals "max" = some none)
    (z_min : PySem.W.nsIn K mainGlobals "min" = some none)
    (z_range : PySem.W.nsIn K mainGlobals "range" = some none)
    (z_list : PySem.W.nsIn K mainGlobals "list" = some none)
    (z_isinstance : PySem.W.nsIn K mainGlobals "isinstance" = some none)
    (z_str : PySem.W.nsIn K mainGlobals "str" = some none)
    (z_tuple : PySem.W.nsIn K mainGlobals "tuple" = some none)
    (z_all : PySem.W.nsIn K mainGlobals "all" = some none)
    (z_sorted : PySem.W.nsIn K mainGlobals "sorted" = some none)
    (z_set : PySem.W.nsIn K mainGlobals "set" = some none)
    (z_bool : PySem.W.nsIn K mainGlobals "bool" = some none)
    (z_dict : PySem.W.nsIn K mainGlobals "dict" = some none)
    (z_repr : PySem.W.nsIn K mainGlobals "repr" = some none)
    {tS tP tM : Tok} (vS : PySem.W.nsIn K mainGlobals "SIGNS" = some (some (.str "abcde" tS)))
    (vP : PySem.W.nsIn K mainGlobals "MAX_PRICE" = some (some (.int 9 tP))) (vM : PySem.W.nsIn K mainGlobals "MAX_SWAP_PRICE" = some (some (.int 18 tM)))
    (aC : PySem.W.nsIn K mainGlobals "Prices" = some (some (.ref C))) (aI : PySem.W.nsIn K mainGlobals "InvalidOperation" = some (some (.ref CI)))
    (pg : PySem.W.plainGet K C Str.empty = true) (hd : PySem.W.hasDictIn K C = true) (po : PySem.W.plainOver K C = true) (sa : PySem.W.findIn K (.ref C) "__setattr__" = some (some (.builtin "object.__setattr__"))) (mk : PySem.W.makesIn K C = true) (kc : PySem.W.keepIn K (.ref C) = true)
    (n1 : PySem.W.findIn K (.ref C) "_signs" = some none) (n2 : PySem.W.findIn K (.ref C) "_put" = some none) (n3 : PySem.W.findIn K (.ref C) "_out" = some none) (n4 : PySem.W.findIn K (.ref C) "_swap" = some none)
    {oi kVi doci pmi cdi cti : Value} {odi ani : Option Addr} {sli : Array (Option Value)}
    (ii : PySem.W.findIn K (.ref C) "__init__" = some (some (.ref fi))) (jf : PySem.W.isFn K (.ref fi) = true) (li : K.lookup fi = some ⟨oi, odi, .func (PySem.W.fnOf "__init__" "Prices.__init__" (defArgs sInit) (defBody sInit) (defScope sInit) .none kVi doci pmi ani cdi cti), sli⟩) (ci : PySem.W.codeIn K cdi "Prices.__init__" = true) (ki : PySem.W.keepIn K (.ref fi) = true)
    (ha : PySem.W.findIn K (.ref C) "__class__" = some (some (.builtin "object.__class__")))
    (hn : PySem.W.specialIn K (.builtin "object.__class__") "__get__" = some (some (.builtin "getset_descriptor.__get__")))
    (ht : PySem.W.takesIn K (.builtin "object.__class__") = some true) (hm : PySem.W.mroIn K C (.type "object") = some true)
    (fne : PySem.W.findIn K (.ref C) "__ne__" = some (some (.builtin "object.__ne__")))
        (xI : PySem.W.excIn K CI [.type "ValueError", .type "Exception", .type "BaseException", .type "object"] "ValueError.__new__" = true) (kI : PySem.W.keepIn K (.ref CI) = true) (bI : PySem.W.subIn K (.ref CI) (.type "BaseException") = some true) (tI : PySem.W.typeIn K (.ref CI) = some (.type "type"))
    (iI : PySem.W.isClsIn K CI = true) (sI : PySem.W.subIn K (.ref CI) (.ref CI) = some true)
    (MK : Mf K C "closed" "Prices.closed" sClosed gK)
    (MI : Mf K C "is_closed" "Prices.is_closed" sIsClosed gI)
    (MA : Mf K C "is_at_most" "Prices.is_at_most" sIsAtMost gA)
    (MW : Mf K C "with_price" "Prices.with_price" sWithP gW)
    (MT : Mf K C "times" "Prices.times" sTimes gT)
    (ME : Mf K C "__eq__" "Prices.__eq__" sEqP gE)
    (Q1 : Pf K C "put" "Prices.put" sPutP p1 q1)
    (Q2 : Pf K C "out" "Prices.out" sOutP p2 q2)
    (Q3 : Pf K C "swap" "Prices.swap" sSwapP p3 q3)
    (Q4 : Pf K C "smallest" "Prices.smallest" sSmall p4 q4) :
    ∃ fd : FuncData, (∀ (s : Shared) (v : Value), BindsTo s fd ⟨[v], []⟩ [("_law_script", v)]) ∧ ∀ base : Heap, K.In base → base.Ns mainGlobals mg → FnG l.prog w K mg base CX0 12 fa fd ["_law_script"] (spLaw K) := by
  have gm := fun {x : Str} {v : Value} (e : PySem.W.nsIn K mainGlobals x = some (some v)) => PySem.W.mg_of X G e
  have gz := fun {x : Str} (e : PySem.W.nsIn K mainGlobals x = some none) => PySem.W.mg_none_of X G e
  have B : Bn mg := ⟨gz z_len, gz z_int, gz z_abs, gz z_max, gz z_min, gz z_range, gz z_list⟩
  have W : Wn mg := ⟨gz z_isinstance, gz z_str, _, gm vS⟩
  have O : On mg := ⟨gz z_tuple, gz z_all, gz z_sorted, gz z_set⟩
  have N : Nn mg := ⟨gz z_bool, lg_of V⟩
  have M : Pn mg := ⟨gz z_dict, ⟨_, gm vP⟩, ⟨_, gm vM⟩⟩
  have Dd : Dn mg := ⟨gz z_dict⟩
  obtain ⟨d1, F1⟩ := D1.fn
  have b1 := F1.binds (ps := ["value"]) fun _ _ _ _ _ _ us hl => match us, hl with | [_], _ => rfl
  obtain ⟨d2, F2⟩ := D2.fn
  have b2 := F2.binds (ps := ["value", "least", "most"]) fun _ _ _ _ _ _ us hl => match us, hl with | [_, _, _], _ => rfl
  obtain ⟨d3, F3⟩ := D3.fn
  have b3 := F3.binds (ps := ["given", "least", "most"]) fun _ _ _ _ _ _ us hl => match us, hl with | [_, _, _], _ => rfl
  obtain ⟨d4, F4⟩ := D4.fn
  have b4 := F4.binds (ps := ["value"]) fun _ _ _ _ _ _ us hl => match us, hl with | [_], _ => rfl
  obtain ⟨d5, F5⟩ := D5.fn
  have b5 := F5.binds (ps := ["prices"]) fun _ _ _ _ _ _ us hl => match us, hl with | [_], _ => rfl
  obtain ⟨d6, F6⟩ := D6.fn
  have b6 := F6.binds (ps := ["prices"]) fun _ _ _ _ _ _ us hl => match us, hl with | [_], _ => rfl
  obtain ⟨d7, F7⟩ := D7.fn
  have b7 := F7.binds (ps := ["put", "out", "swap"]) fun _ _ _ _ _ _ us hl => match us, hl with | [_, _, _], _ => rfl
  obtain ⟨d8, F8⟩ := D8.fn
  have b8 := F8.binds (ps := ["value"]) fun _ _ _ _ _ _ us hl => match us, hl with | [_], _ => rfl
  obtain ⟨d9, F9⟩ := D9.fn
  have b9 := F9.binds (ps := ["value", "most"]) fun _ _ _ _ _ _ us hl => match us, hl with | [_, _], _ => rfl
  obtain ⟨d10, F10⟩ := D10.fn
  have b10 := F10.binds (ps := ["value", "signs"]) fun _ _ _ _ _ _ us hl => match us, hl with | [_, _], _ => rfl
  obtain ⟨d11, F11⟩ := D11.fn
  have b11 := F11.binds (ps := ["value", "signs"]) fun _ _ _ _ _ _ us hl => match us, hl with | [_, _], _ => rfl
  obtain ⟨d12, F12⟩ := D12.fn
  have b12 := F12.binds (ps := ["kind", "value"]) fun _ _ _ _ _ _ us hl => match us, hl with | [_, _], _ => rfl
  obtain ⟨d13, F13⟩ := D13.fn
  have b13 := F13.binds (ps := ["table"]) fun _ _ _ _ _ _ us hl => match us, hl with | [_], _ => rfl
  obtain ⟨d14, F14⟩ := D14.fn
  have b14 := F14.binds (ps := ["table", "many"]) fun _ _ _ _ _ _ us hl => match us, hl with | [_, _], _ => rfl
  obtain ⟨d15, F15⟩ := D15.fn
  have b15 := F15.binds (ps := ["signs"]) fun _ _ _ _ _ _ us hl => match us, hl with | [_], _ => rfl
  obtain ⟨d16, F16⟩ := D16.fn
  have b16 := F16.binds (ps := ["_law_script", "_law_at"]) fun _ _ _ _ _ _ us hl => match us, hl with | [_, _], _ => rfl
  obtain ⟨d17, F17⟩ := D17.fn
  have b17 := F17.binds (ps := ["_law_pot", "_law_total"]) fun _ _ _ _ _ _ us hl => match us, hl with | [_, _], _ => rfl
  obtain ⟨d18, F18⟩ := D18.fn
  have b18 := F18.binds (ps := ["_law_pot", "_law_items"]) fun _ _ _ _ _ _ us hl => match us, hl with | [_, _], _ => rfl
  obtain ⟨d19, F19⟩ := D19.fn
  have b19 := F19.binds (ps := ["_law_pot", "_law_items"]) fun _ _ _ _ _ _ us hl => match us, hl with | [_, _], _ => rfl
  obtain ⟨d20, F20⟩ := D20.fn
  have b20 := F20.binds (ps := ["_law_pot"]) fun _ _ _ _ _ _ us hl => match us, hl with | [_], _ => rfl
  obtain ⟨d21, F21⟩ := D21.fn
  have b21 := F21.binds (ps := ["_law_pot", "_law_signs_here"]) fun _ _ _ _ _ _ us hl => match us, hl with | [_, _], _ => rfl
  obtain ⟨d22, F22⟩ := D22.fn
  have b22 := F22.binds (ps := ["_law_tables_here"]) fun _ _ _ _ _ _ us hl => match us, hl with | [_], _ => rfl
  obtain ⟨d23, F23⟩ := D23.fn
  have b23 := F23.binds (ps := ["put", "out", "swap"]) fun _ _ _ _ _ _ us hl => match us, hl with | [_, _, _], _ => rfl
  obtain ⟨d24, F24⟩ := D24.fn
  have b24 := F24.binds (ps := ["put", "out", "swap"]) fun _ _ _ _ _ _ us hl => match us, hl with | [_, _, _], _ => rfl
  obtain ⟨d25, F25⟩ := D25.fn
  have b25 := F25.binds (ps := ["_law_tables_here", "_law_word"]) fun _ _ _ _ _ _ us hl => match us, hl with | [_, _], _ => rfl
  obtain ⟨d26, F26⟩ := D26.fn
  have b26 := F26.binds (ps := ["_law_steps", "_law_word"]) fun _ _ _ _ _ _ us hl => match us, hl with | [_, _], _ => rfl
  obtain ⟨d27, F27⟩ := D27.fn
  have b27 := F27.binds (ps := ["_law_tables_here"]) fun _ _ _ _ _ _ us hl => match us, hl with | [_], _ => rfl
  obtain ⟨d28, F28⟩ := D28.fn
  have b28 := F28.binds (ps := ["_law_prices", "_law_tables_here"]) fun _ _ _ _ _ _ us hl => match us, hl with | [_, _], _ => rfl
  obtain ⟨d29, F29⟩ := D29.fn
  have b29 := F29.binds (ps := ["_law_tables_here"]) fun _ _ _ _ _ _ us hl => match us, hl with | [_], _ => rfl
  obtain ⟨d30, F30⟩ := D30.fn
  have b30 := F30.binds (ps := ["_law_one", "_law_other"]) fun _ _ _ _ _ _ us hl => match us, hl with | [_, _], _ => rfl
  obtain ⟨d31, F31⟩ := D31.fn
  have b31 := F31.binds (ps := ["_law_prices", "_law_tables_here", "_law_closed_here"]) fun _ _ _ _ _ _ us hl => match us, hl with | [_, _, _], _ => rfl
  obtain ⟨d32, F32⟩ := D32.fn
  have b32 := F32.binds (ps := ["_law_pot"]) fun _ _ _ _ _ _ us hl => match us, hl with | [_], _ => rfl
  obtain ⟨d33, F33⟩ := D33.fn
  obtain ⟨eK, NK⟩ := MK.fn
  have cK := NK.binds (ps := ["self"]) fun _ _ _ _ _ _ us hl => match us, hl with | [_], _ => rfl
  obtain ⟨eI, NI⟩ := MI.fn
  have cI := NI.binds (ps := ["self"]) fun _ _ _ _ _ _ us hl => match us, hl with | [_], _ => rfl
  obtain ⟨eA, NA⟩ := MA.fn
  have cA := NA.binds (ps := ["self", "other"]) fun _ _ _ _ _ _ us hl => match us, hl with | [_, _], _ => rfl
  obtain ⟨eW, NW⟩ := MW.fn
  have cW := NW.binds (ps := ["self", "change", "price"]) fun _ _ _ _ _ _ us hl => match us, hl with | [_, _, _], _ => rfl
  obtain ⟨eT, NT⟩ := MT.fn
  have cT := NT.binds (ps := ["self", "many"]) fun _ _ _ _ _ _ us hl => match us, hl with | [_, _], _ => rfl
  obtain ⟨eE, NE⟩ := ME.fn
  have cE := NE.binds (ps := ["self", "other"]) fun _ _ _ _ _ _ us hl => match us, hl with | [_, _], _ => rfl
  obtain ⟨h1, R1⟩ := Q1.fn
  have j1 := R1.binds (ps := ["self"]) fun _ _ _ _ _ _ us hl => match us, hl with | [_], _ => rfl
  obtain ⟨h2, R2⟩ := Q2.fn
  have j2 := R2.binds (ps := ["self"]) fun _ _ _ _ _ _ us hl => match us, hl with | [_], _ => rfl
  obtain ⟨h3, R3⟩ := Q3.fn
  have j3 := R3.binds (ps := ["self"]) fun _ _ _ _ _ _ us hl => match us, hl with | [_], _ => rfl
  obtain ⟨h4, R4⟩ := Q4.fn
  have j4 := R4.binds (ps := ["self"]) fun _ _ _ _ _ _ us hl => match us, hl with | [_], _ => rfl
  have cl : Cls K C := ⟨pg, hd, po, sa⟩
  have Tc : Pc K C := ⟨cl, n1, n2, n3, n4⟩
  have Ik : IsK K C := ⟨ha, hn, ht, hm⟩
  have nE : NeD K C := ⟨fne, hm⟩
  have EI : ExK K mg "InvalidOperation" CI := ⟨gm aI, kI, xI, bI, tI⟩
  have Fi := fun_mk (st := sInit) li ci ki
  have Mc : L2.Mk K C fi := ⟨mk, ii, jf, kc⟩
  have e33 : f33 = fa := by
    have e := hfa.symm.trans (gm D33.at_)
    cases e
    rfl
  subst e33
  have F33' := F33
  obtain ⟨oc', od', kV', doc', pm', an', cdv', ct', osl', rfl, lk', hcd'⟩ := F33'.ex
  refine ⟨PySem.W.fnOf "law" "law" (defArgs sLw3) (defBody sLw3) (defScope sLw3) .none kV' doc' pm' an' cdv' ct', fun s v => .of_eq rfl, fun base _ _ => ?_⟩
  have C1 : Cd l.prog w K mg base 1 "is_number" ["value"] spIsNum := ⟨_, _, ok_isNum F1 B W N, gm D1.at_, F1.kp, b1⟩
  have C2 : Cd l.prog w K mg base 2 "is_number_within" ["value", "least", "most"] spIsNumW := ⟨_, _, ok_isNumW F2 C1, gm D2.at_, F2.kp, b2⟩
  have C3 : Cd l.prog w K mg base 3 "check_number" ["given", "least", "most"] spChkNum := ⟨_, _, ok_chkNum F3 C2, gm D3.at_, F3.kp, b3⟩
  have C4 : Cd l.prog w K mg base 1 "is_sign" ["value"] (spJudge sgB K) := ⟨_, _, ok_isSign F4 B W, gm D4.at_, F4.kp, b4⟩
  have C9 : Cd l.prog w K mg base 3 "_has_prices" ["value", "most"] spHasP := ⟨_, _, ok_hasP F9 W O M C2, gm D9.at_, F9.kp, b9⟩
  have C8 : Cd l.prog w K mg base 4 "_is_sign_table" ["value"] spIsST := ⟨_, _, ok_isST F8 O M C9 C4, gm D8.at_, F8.kp, b8⟩
  have C10 : Cd l.prog w K mg base 1 "_is_pair" ["value", "signs"] spPair := ⟨_, _, ok_isPair F10 B W O, gm D10.at_, F10.kp, b10⟩
  have C7 : Cd l.prog w K mg base 5 "_are_tables" ["put", "out", "swap"] spAreT := ⟨_, _, ok_areT F7 O M C8 C9 C10, gm D7.at_, F7.kp, b7⟩
  have C13 : Cd l.prog w K mg base 1 "ascending_dict" ["table"] spAsc := ⟨_, _, ok_asc F13 O, gm D13.at_, F13.kp, b13⟩
  have C14 : Cd l.prog w K mg base 1 "_multiplied" ["table", "many"] spMult := ⟨_, _, ok_mult F14, gm D14.at_, F14.kp, b14⟩
  have C15 : Cd l.prog w K mg base 1 "_pairs" ["signs"] spPairs := ⟨_, _, ok_pairs F15, gm D15.at_, F15.kp, b15⟩
  have C12 : Cd l.prog w K mg base 3 "_is_price" ["kind", "value"] spIsPrice := ⟨_, _, ok_isPriceF F12 M C2, gm D12.at_, F12.kp, b12⟩
  have C11 : Cd l.prog w K mg base 2 "_is_kind" ["value", "signs"] spIsKind := ⟨_, _, ok_isKind F11 B W O C10, gm D11.at_, F11.kp, b11⟩
  have Gi : FnOk l.prog w K mg base CX0 6 fi _ ["self", "put", "out", "swap"] (spInit C) := ok_init Fi Tc O C7 C13
  have P1 : Pd l.prog w K mg base C 2 "put" (spTabP C fun t _ => t) := ⟨p1, q1, h1, Q1.of, ok_putP R1 Tc C13, j1⟩
  have P2 : Pd l.prog w K mg base C 2 "out" (spTabP C fun _ t => t) := ⟨p2, q2, h2, Q2.of, ok_outP R2 Tc C13, j2⟩
  have P3 : Pd l.prog w K mg base C 2 "swap" (spTabS C) := ⟨p3, q3, h3, Q3.of, ok_swapP R3 Tc C13, j3⟩
  have P4 : Pd l.prog w K mg base C 2 "smallest" (spSmall C) := ⟨p4, q4, h4, Q4.of, ok_small R4 Tc B M, j4⟩
  have WP : Md l.prog w K mg base C CX0 8 "with_price" ["self", "change", "price"] (spWith C) := ⟨gW, eW, ⟨MW.find, MW.fun_, NW.kp⟩, ok_withP NW Tc Mc Fi Gi (gm aC) C11 C12 P1 P2 P3, cW⟩
  have TP : Md l.prog w K mg base C (L2.CX l.prog w) 8 "times" ["self", "many"] (spTimes C CI) := ⟨gT, eT, ⟨MT.find, MT.fun_, NT.kp⟩, ok_times NT Tc Mc Fi Gi (gm aC) (lg_of V) EI C3 C14 C7, cT⟩
  have GE : FnOk l.prog w K mg base CX0 2 gE eE ["self", "other"] (spEqP K C) := ok_eqP NE Tc Ik (gm aC) (gz z_isinstance)
  have C16 : Cd l.prog w K mg base 1 "_law_filled" ["_law_script", "_law_at"] (spFilled K) := ⟨_, _, ok_filled F16 B, gm D16.at_, F16.kp, b16⟩
  have C17 : Cd l.prog w K mg base 1 "_law_dip" ["_law_pot", "_law_total"] spDip := ⟨_, _, ok_dip F17 B, gm D17.at_, F17.kp, b17⟩
  have C18 : Cd l.prog w K mg base 2 "_law_choose" ["_law_pot", "_law_items"] spChoose := ⟨_, _, ok_choose F18 B C17, gm D18.at_, F18.kp, b18⟩
  have C19 : Cd l.prog w K mg base 2 "_law_shuffled" ["_law_pot", "_law_items"] spShuf := ⟨_, _, ok_shuf F19 B C17, gm D19.at_, F19.kp, b19⟩
  have C19s : Cd l.prog w K mg base 2 "_law_shuffled" ["_law_pot", "_law_items"] spShufS := ⟨_, _, ok_shufS F19 B C17, gm D19.at_, F19.kp, b19⟩
  have C20 : Cd l.prog w K mg base 3 "_law_signs" ["_law_pot"] spLSigns := ⟨_, _, ok_lsigns F20 O C17 C19s, gm D20.at_, F20.kp, b20⟩
  have C21 : Cd l.prog w K mg base 3 "_law_tables" ["_law_pot", "_law_signs_here"] spLTables := ⟨_, _, ok_ltables F21 B Dd C17 C18 C19, gm D21.at_, F21.kp, b21⟩
  have C22 : Cd l.prog w K mg base 8 "_law_made" ["_law_tables_here"] (spMade C) := ⟨_, _, ok_made F22 Mc Fi Gi (gm aC), gm D22.at_, F22.kp, b22⟩
  have C5 : Cd l.prog w K mg base 1 "check_prices" ["prices"] (spChkPr C) := ⟨_, _, ok_chkPr F5 Tc Ik (gm aC) (gz z_isinstance), gm D5.at_, F5.kp, b5⟩
  have C24 : Cd l.prog w K mg base 1 "_direct_costs" ["put", "out", "swap"] spDir := ⟨_, _, ok_dir F24, gm D24.at_, F24.kp, b24⟩
  have C23 : Cd l.prog w K mg base 2 "_least_costs" ["put", "out", "swap"] spLc := ⟨_, _, ok_least F23 B C24, gm D23.at_, F23.kp, b23⟩
  have C6 : Cd l.prog w K mg base 4 "costs_by_ends" ["prices"] (spBy C) := ⟨_, _, ok_by F6 Tc C23 P1 P2 P3, gm D6.at_, F6.kp, b6⟩
  have C25 : Cd l.prog w K mg base 1 "_law_behind" ["_law_tables_here", "_law_word"] spBeh := ⟨_, _, ok_beh F25 B, gm D25.at_, F25.kp, b25⟩
  have C26 : Cd l.prog w K mg base 1 "_law_costs" ["_law_steps", "_law_word"] spLq := ⟨_, _, ok_lq F26 B, gm D26.at_, F26.kp, b26⟩
  have C27 : Cd l.prog w K mg base 2 "_law_closed" ["_law_tables_here"] spLcl := ⟨_, _, ok_lcl F27 O Dd C25 C26, gm D27.at_, F27.kp, b27⟩
  have C29 : Cd l.prog w K mg base 1 "_law_kinds" ["_law_tables_here"] spKd := ⟨_, _, ok_kd F29 O, gm D29.at_, F29.kp, b29⟩
  have C30 : Cd l.prog w K mg base 1 "_law_is_below" ["_law_one", "_law_other"] spBl := ⟨_, _, ok_bl F30 B O, gm D30.at_, F30.kp, b30⟩
  have KP : Md l.prog w K mg base C CX0 8 "closed" ["self"] (spClosed C) := ⟨gK, eK, ⟨MK.find, MK.fun_, NK.kp⟩, ok_closed NK Tc Mc Fi Gi (gm aC) C6 C15, cK⟩
  have IP : Md l.prog w K mg base C CX0 9 "is_closed" ["self"] (spIsClosed C) := ⟨gI, eI, ⟨MI.find, MI.fun_, NI.kp⟩, ok_isClosed NI Tc KP ⟨ME.find, ME.fun_⟩ GE cE, cI⟩
  have AP : Md l.prog w K mg base C CX0 5 "is_at_most" ["self", "other"] (spAtMost C) := ⟨gA, eA, ⟨MA.find, MA.fun_, NA.kp⟩, ok_atMost NA Tc O C5 C6, cA⟩
  have G28 : FnG l.prog w K mg base CX0 4 f28 d28 ["_law_prices", "_law_tables_here"] (spTq C) := ok_tq F28 Tc O ⟨gz z_repr⟩ P1 P2 P3
  have G31 : FnG l.prog w K mg base CX0 9 f31 d31 ["_law_prices", "_law_tables_here", "_law_closed_here"] (spTw C) := ok_tw F31 Tc B Dd (gm aI) ⟨cat_self bI iI tI sI⟩ TP KP G28 (gm D28.at_) F28.kp b28
  have G32 : FnG l.prog w K mg base CX0 11 f32 d32 ["_law_pot"] spRt := ok_rt F32 Tc B O Dd C17 C20 C21 C22 C27 C29 C30 KP IP AP WP P4 ⟨ME.find, ME.fun_⟩ GE cE nE G28 (gm D28.at_) F28.kp b28 G31 (gm D31.at_) F31.kp b31
  exact ok_law3 F33 Tc B Mc Fi Gi (gm aC) C16 G32 (gm D32.at_) F32.kp b32 KP P1 P2 P3 G28 (gm D28.at_) F28.kp b28
theorem walk {l : PySem.W.OpenLaw} {q p : Program} {loose : List Str} {YP : World → Heap → Prop} {d : DefRec} {K : Params → PySem.W.Frag} (hn : l.most = some 63) (hdf : d.params.defaults = [])
    (hY : ∀ (w : World) (h : Heap), YP w h → (K w.params).In h)
    (F : ∀ (w : World) (mg : Str → Option Value) (fa : Addr) (h : Heap), (K w.params).In h → h.Ns mainGlobals mg → PySem.W.XL p [("LARGEST", PySem.W.WData.int LG)] mg h → mg d.name = some (.ref fa) →
      ∃ fd : FuncData, (∀ (s : Shared) (u : Value), BindsTo s fd ⟨[u], []⟩ [("_law_script", u)]) ∧ ∀ base : Heap, (K w.params).In base → base.Ns mainGlobals mg → FnG l.prog w (K w.params) mg base CX0 12 fa fd ["_law_script"] (spLaw (K w.params))) :
    PySem.W.WalkO q loose (PySem.W.XL p [("LARGEST", PySem.W.WData.int LG)]) YP l.row.toRowW d [] (fun f vs => PySem.call f vs) :=
  walk_ofG (n := 63) (k := 12) (x := "_law_script") (sp := fun w => spLaw (K w.params)) hn (by decide) hdf ⟨rfl, by decide, by decide⟩ hY F (fun _ _ a ns hl _ hS => ⟨a, ns, rfl, hS, hl, fun _ => rfl⟩)
end Mk

open PySem PySem.W PyProof.Rows in
set_option maxRecDepth 100000 in
set_option maxHeartbeats 0 in
theorem PySem.Challenge.cw_mendnumber_k03_whole_closed_prices_holds : PySem.Challenge.rw_mendnumber_k03_whole_closed_prices.Holds := by
  w_on; o_law; k_head; (case hw => w_witness2)
  k_fill
  refine Mk.walk (l := PySem.Challenge.rw_mendnumber_k03_whole_closed_prices) rfl rfl (fun w h Y => PySem.W.kIn_of Y) ?F
  case F =>
    intro w mg fa h KX G XP hmg
    refine' Mk.all_mk KX G XP.2 hmg (Mk.df_mk ?a1 ?l1 ?c1 ?k1) (Mk.df_mk ?a2 ?l2 ?c2 ?k2) (Mk.df_mk ?a3 ?l3 ?c3 ?k3) (Mk.df_mk ?a4 ?l4 ?c4 ?k4) (Mk.df_mk ?a5 ?l5 ?c5 ?k5) (Mk.df_mk ?a6 ?l6 ?c6 ?k6) (Mk.df_mk ?a7 ?l7 ?c7 ?k7) (Mk.df_mk ?a8 ?l8 ?c8 ?k8) (Mk.df_mk ?a9 ?l9 ?c9 ?k9) (Mk.df_mk ?a10 ?l10 ?c10 ?k10) (Mk.df_mk ?a11 ?l11 ?c11 ?k11) (Mk.df_mk ?a12 ?l12 ?c12 ?k12) (Mk.df_mk ?a13 ?l13 ?c13 ?k13) (Mk.df_mk ?a14 ?l14 ?c14 ?k14) (Mk.df_mk ?a15 ?l15 ?c15 ?k15) (Mk.df_mk ?a16 ?l16 ?c16 ?k16) (Mk.df_mk ?a17 ?l17 ?c17 ?k17) (Mk.df_mk ?a18 ?l18 ?c18 ?k18) (Mk.df_mk ?a19 ?l19 ?c19 ?k19) (Mk.df_mk ?a20 ?l20 ?c20 ?k20) (Mk.df_mk ?a21 ?l21 ?c21 ?k21) (Mk.df_mk ?a22 ?l22 ?c22 ?k22) (Mk.df_mk ?a23 ?l23 ?c23 ?k23) (Mk.df_mk ?a24 ?l24 ?c24 ?k24) (Mk.df_mk ?a25 ?l25 ?c25 ?k25) (Mk.df_mk ?a26 ?l26 ?c26 ?k26) (Mk.df_mk ?a27 ?l27 ?c27 ?k27) (Mk.df_mk ?a28 ?l28 ?c28 ?k28) (Mk.df_mk ?a29 ?l29 ?c29 ?k29) (Mk.df_mk ?a30 ?l30 ?c30 ?k30) (Mk.df_mk ?a31 ?l31 ?c31 ?k31) (Mk.df_mk ?a32 ?l32 ?c32 ?k32) (Mk.df_mk ?a33 ?l33 ?c33 ?k33) ?y_z_len ?y_z_int ?y_z_abs ?y_z_max ?y_z_min ?y_z_range ?y_z_list ?y_z_isinstance ?y_z_str ?y_z_tuple ?y_z_all ?y_z_sorted ?y_z_set ?y_z_bool ?y_z_dict ?y_z_repr ?y_vS ?y_vP ?y_vM ?y_aC ?y_aI ?y_pg ?y_hd ?y_po ?y_sa ?y_mk ?y_kc ?y_n1 ?y_n2 ?y_n3 ?y_n4 ?y_ii ?y_jf ?y_li ?y_ci ?y_ki ?y_ha ?y_hn ?y_ht ?y_hm ?y_fne ?y_xI ?y_kI ?y_bI ?y_tI ?y_iI ?y_sI (Mk.mf_mk ?mKa ?mKi ?mKl ?mKc ?mKk) (Mk.mf_mk ?mIa ?mIi ?mIl ?mIc ?mIk) (Mk.mf_mk ?mAa ?mAi ?mAl ?mAc ?mAk) (Mk.mf_mk ?mWa ?mWi ?mWl ?mWc ?mWk) (Mk.mf_mk ?mTa ?mTi ?mTl ?mTc ?mTk) (Mk.mf_mk ?mEa ?mEi ?mEl ?mEc ?mEk) (Mk.pf_mk ?p1a ?p1b ?p1t ?p1r ?p1l ?p1c ?p1k) (Mk.pf_mk ?p2a ?p2b ?p2t ?p2r ?p2l ?p2c ?p2k) (Mk.pf_mk ?p3a ?p3b ?p3t ?p3r ?p3l ?p3c ?p3k) (Mk.pf_mk ?p4a ?p4b ?p4t ?p4r ?p4l ?p4c ?p4k)
    (case a1 => k_is)
    (case l1 => k_is)
    (case c1 => k_is)
    (case k1 => k_is)
    (case a2 => k_is)
    (case l2 => k_is)
    (case c2 => k_is)
    (case k2 => k_is)
    (case a3 => k_is)
    (case l3 => k_is)
    (case c3 => k_is)
    (case k3 => k_is)
    (case a4 => k_is)
    (case l4 => k_is)
    (case c4 => k_is)
    (case k4 => k_is)
    (case a5 => k_is)
    (case l5 => k_is)
    (case c5 => k_is)
    (case k5 => k_is)
    (case a6 => k_is)
    (case l6 => k_is)
    (case c6 => k_is)
    (case k6 => k_is)
    (case a7 => k_is)
    (case l7 => k_is)
    (case c7 => k_is)
    (case k7 => k_is)
    (case a8 => k_is)
    (case l8 => k_is)
    (case c8 => k_is)
    (case k8 => k_is)
    (case a9 => k_is)
    (case l9 => k_is)
    (case c9 => k_is)
    (case k9 => k_is)
    (case a10 => k_is)
    (case l10 => k_is)
    (case c10 => k_is)
    (case k10 => k_is)
    (case a11 => k_is)
    (case l11 => k_is)
    (case c11 => k_is)
    (case k11 => k_is)
    (case a12 => k_is)
    (case l12 => k_is)
    (case c12 => k_is)
    (case k12 => k_is)
    (case a13 => k_is)
    (case l13 => k_is)
    (case c13 => k_is)
    (case k13 => k_is)
    (case a14 => k_is)
    (case l14 => k_is)
    (case c14 => k_is)
    (case k14 => k_is)
    (case a15 => k_is)
    (case l15 => k_is)
    (case c15 => k_is)
    (case k15 => k_is)
    (case a16 => k_is)
    (case l16 => k_is)
    (case c16 => k_is)
    (case k16 => k_is)
    (case a17 => k_is)
    (case l17 => k_is)
    (case c17 => k_is)
    (case k17 => k_is)
    (case a18 => k_is)
    (case l18 => k_is)
    (case c18 => k_is)
    (case k18 => k_is)
    (case a19 => k_is)
    (case l19 => k_is)
    (case c19 => k_is)
    (case k19 => k_is)
    (case a20 => k_is)
    (case l20 => k_is)
    (case c20 => k_is)
    (case k20 => k_is)
    (case a21 => k_is)
    (case l21 => k_is)
    (case c21 => k_is)
    (case k21 => k_is)
    (case a22 => k_is)
    (case l22 => k_is)
    (case c22 => k_is)
    (case k22 => k_is)
    (case a23 => k_is)
    (case l23 => k_is)
    (case c23 => k_is)
    (case k23 => k_is)
    (case a24 => k_is)
    (case l24 => k_is)
    (case c24 => k_is)
    (case k24 => k_is)
    (case a25 => k_is)
    (case l25 => k_is)
    (case c25 => k_is)
    (case k25 => k_is)
    (case a26 => k_is)
    (case l26 => k_is)
    (case c26 => k_is)
    (case k26 => k_is)
    (case a27 => k_is)
    (case l27 => k_is)
    (case c27 => k_is)
    (case k27 => k_is)
    (case a28 => k_is)
    (case l28 => k_is)
    (case c28 => k_is)
    (case k28 => k_is)
    (case a29 => k_is)
    (case l29 => k_is)
    (case c29 => k_is)
    (case k29 => k_is)
    (case a30 => k_is)
    (case l30 => k_is)
    (case c30 => k_is)
    (case k30 => k_is)
    (case a31 => k_is)
    (case l31 => k_is)
    (case c31 => k_is)
    (case k31 => k_is)
    (case a32 => k_is)
    (case l32 => k_is)
    (case c32 => k_is)
    (case k32 => k_is)
    (case a33 => k_is)
    (case l33 => k_is)
    (case c33 => k_is)
    (case k33 => k_is)
    (case y_z_len => k_is)
    (case y_z_int => k_is)
    (case y_z_abs => k_is)
    (case y_z_max => k_is)
    (case y_z_min => k_is)
    (case y_z_range => k_is)
    (case y_z_list => k_is)
    (case y_z_isinstance => k_is)
    (case y_z_str => k_is)
    (case y_z_tuple => k_is)
    (case y_z_all => k_is)
    (case y_z_sorted => k_is)
    (case y_z_set => k_is)
    (case y_z_bool => k_is)
    (case y_z_dict => k_is)
    (case y_z_repr => k_is)
    (case y_vS => k_is)
    (case y_vP => k_is)
    (case y_vM => k_is)
    (case y_aC => k_is)
    (case y_aI => k_is)
    (case y_pg => k_is)
    (case y_hd => k_is)
    (case y_po => k_is)
    (case y_sa => k_is)
    (case y_mk => k_is)
    (case y_kc => k_is)
    (case y_n1 => k_is)
    (case y_n2 => k_is)
    (case y_n3 => k_is)
    (case y_n4 => k_is)
    (case y_ii => k_is)
    (case y_jf => k_is)
    (case y_li => k_is)
    (case y_ci => k_is)
    (case y_ki => k_is)
    (case y_ha => k_is)
    (case y_hn => k_is)
    (case y_ht => k_is)
    (case y_hm => k_is)
    (case y_fne => k_is)
    (case y_xI => k_exc)
    (case y_kI => k_is)
    (case y_bI => k_is)
    (case y_tI => k_is)
    (case y_iI => k_is)
    (case y_sI => first | rfl | k_is)
    (case mKa => k_is)
    (case mKi => k_is)
    (case mKl => k_is)
    (case mKc => k_is)
    (case mKk => k_is)
    (case mIa => k_is)
    (case mIi => k_is)
    (case mIl => k_is)
    (case mIc => k_is)
    (case mIk => k_is)
    (case mAa => k_is)
    (case mAi => k_is)
    (case mAl => k_is)
    (case mAc => k_is)
    (case mAk => k_is)
    (case mWa => k_is)
    (case mWi => k_is)
    (case mWl => k_is)
    (case mWc => k_is)
    (case mWk => k_is)
    (case mTa => k_is)
    (case mTi => k_is)
    (case mTl => k_is)
    (case mTc => k_is)
    (case mTk => k_is)
    (case mEa => k_is)
    (case mEi => k_is)
    (case mEl => k_is)
    (case mEc => k_is)
    (case mEk => k_is)
    (case p1a => k_is)
    (case p1b => k_is)
    (case p1t => k_is)
    (case p1r => k_is)
    (case p1l => k_is)
    (case p1c => k_is)
    (case p1k => k_is)
    (case p2a => k_is)
    (case p2b => k_is)
    (case p2t => k_is)
    (case p2r => k_is)
    (case p2l => k_is)
    (case p2c => k_is)
    (case p2k => k_is)
    (case p3a => k_is)
    (case p3b => k_is)
    (case p3t => k_is)
    (case p3r => k_is)
    (case p3l => k_is)
    (case p3c => k_is)
    (case p3k => k_is)
    (case p4a => k_is)
    (case p4b => k_is)
    (case p4t => k_is)
    (case p4r => k_is)
    (case p4l => k_is)
    (case p4c => k_is)
    (case p4k => k_is)
